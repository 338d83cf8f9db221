import PyProof.Rows.All
import HandS.ForMost
import HandS.TupAny
import HandS.TupMul
import HandS.SortKw
import HandS.More
import HandS.Conv
import HandS.IsInst
import HandS.DictComp
import HandS.Flow
import HandS.SortInts
import HandS.Strs
import HandS.Lambda
import HandS.EndTab
import KE.SortKeyHeap
import HandS.SetFor
import HandS.Style
import PySem.Challenge.RW_writeorders_k08_closed_lists
set_option Elab.async false
set_option linter.all false
set_option maxRecDepth 100000
set_option autoImplicit false
namespace Dl
open PySem PySem.Spec PyProof.Rows L2

/-! data, and what a name holds -/
abbrev D := PyData
inductive MC where
  | lst (ds : List D) | dK (kvs : List (Key × D)) | dT (kvs : List (List Key × D))
inductive SV where
  | no | d (x : D) | loc (i : Nat) | own (m : MC)
abbrev DS := List SV

mutual
/-- a value read as data: a tuple is a tracked tuple itself; an empty dict -/
inductive Dq (K : PySem.W.Frag) (H : Hp) : V → D → Prop
  | non : Dq K H .non .none
  | bl (b : Bool) : Dq K H (.bl b) (.bool b)
  | int (i : Int) : Dq K H (.int i) (.int i)
  | str (x : Str) : Dq K H (.str x) (.str x)
  | lst {a : Addr} {vs : List V} {xs : List D} : SqL K H a vs → DqAll K H vs xs → Dq K H (.ref a) (.list xs)
  | tup {a : Addr} {vs : List V} {xs : List D} : H a = some (.tup vs) → DqAll K H vs xs → Dq K H (.ref a) (.tuple xs)
  | dct0 {a : Addr} : H a = some (.dK []) → Dq K H (.ref a) (.dict [])
inductive DqAll (K : PySem.W.Frag) (H : Hp) : List V → List D → Prop
  | nil : DqAll K H [] []
  | cons {v : V} {x : D} {vs : List V} {xs : List D} : Dq K H v x → DqAll K H vs xs → DqAll K H (v :: vs) (x :: xs)
end
mutual
theorem Dq.dp {K : PySem.W.Frag} {H : Hp} : ∀ {v : V} {x : D}, Dq K H v x → x.hasDict = false → Dp K H v x
  | _, _, .non, _ => .non
  | _, _, .bl b, _ => .bl b
  | _, _, .int i, _ => .int i
  | _, _, .str x, _ => .str x
  | _, _, .lst hs ha, e => .lst hs (DqAll.dp ha e)
  | _, _, .tup hs ha, e => .tup (SqT.of hs) (DqAll.dp ha e)
  | _, _, .dct0 _, e => by cases e
theorem DqAll.dp {K : PySem.W.Frag} {H : Hp} : ∀ {vs : List V} {xs : List D}, DqAll K H vs xs → PyData.hasDictAll xs = false → DpAll K H vs xs
  | _, _, .nil, _ => .nil
  | _, _, .cons (x := x) (xs := xs) h t, e => by
    have e' : (x.hasDict || PyData.hasDictAll xs) = false := e
    rw [Bool.or_eq_false_iff] at e'
    exact .cons (h.dp e'.1) (t.dp e'.2)
end
theorem nd_of {d : D} (h : SeqAt.shaped d = true) : d.hasDict = false := by
  unfold SeqAt.shaped at h
  rw [Bool.and_eq_true] at h
  exact PyData.hasDict_of_canLay d h.1
theorem sameT {K : PySem.W.Frag} {H H' : Hp} {a : Addr} {xs : List V} (e : Same H H') (h : SqT K H a xs) : SqT K H' a xs := by
  rcases h with (h | ⟨o, h⟩) | h
  · exact .inl (.inl (e _ _ h))
  · exact .inl (.inr ⟨o, e _ _ h⟩)
  · exact .inr h
mutual
theorem dpMono {K : PySem.W.Frag} {H H' : Hp} (e : Same H H') : ∀ {v : V} {x : D}, Dq K H v x → Dq K H' v x
  | _, _, .non => .non
  | _, _, .bl b => .bl b
  | _, _, .int i => .int i
  | _, _, .str x => .str x
  | _, _, .lst hs ha => .lst (e.seq hs) (dpAllMono e ha)
  | _, _, .tup hs ha => .tup (e _ _ hs) (dpAllMono e ha)
  | _, _, .dct0 h => .dct0 (e _ _ h)
theorem dpAllMono {K : PySem.W.Frag} {H H' : Hp} (e : Same H H') : ∀ {vs : List V} {xs : List D}, DqAll K H vs xs → DqAll K H' vs xs
  | _, _, .nil => .nil
  | _, _, .cons h t => .cons (dpMono e h) (dpAllMono e t)
end
theorem dpAllLen {K : PySem.W.Frag} {H : Hp} : ∀ {vs : List V} {xs : List D}, DqAll K H vs xs → vs.length = xs.length
  | _, _, .nil => rfl
  | _, _, .cons _ t => by rw [List.length_cons, List.length_cons, dpAllLen t]
theorem dpAllGet {K : PySem.W.Frag} {H : Hp} : ∀ {vs : List V} {xs : List D} {i : Nat} {x : D}, DqAll K H vs xs → xs[i]? = some x → ∃ v, vs[i]? = some v ∧ Dq K H v x
  | _, _, _, _, .nil, e => by simp at e
  | _, _, 0, _, .cons h _, e => by
    simp at e
    subst e
    exact ⟨_, rfl, h⟩
  | _, _, i + 1, _, .cons _ t, e => by
    obtain ⟨v, h1, h2⟩ := dpAllGet (i := i) t (by simpa using e)
    exact ⟨v, by simpa using h1, h2⟩
theorem dpAllGetV {K : PySem.W.Frag} {H : Hp} : ∀ {vs : List V} {xs : List D} {i : Nat} {v : V}, DqAll K H vs xs → vs[i]? = some v → ∃ x, xs[i]? = some x ∧ Dq K H v x
  | _, _, _, _, .nil, e => by simp at e
  | _, _, 0, _, .cons h _, e => by
    simp at e
    subst e
    exact ⟨_, rfl, h⟩
  | _, _, i + 1, _, .cons _ t, e => by
    obtain ⟨v, h1, h2⟩ := dpAllGetV (i := i) t (by simpa using e)
    exact ⟨v, by simpa using h1, h2⟩
theorem dpAllApp {K : PySem.W.Frag} {H : Hp} : ∀ {vs ws : List V} {xs ys : List D}, DqAll K H vs xs → DqAll K H ws ys → DqAll K H (vs ++ ws) (xs ++ ys)
  | _, _, _, _, .nil, h => h
  | _, _, _, _, .cons h t, h2 => .cons h (dpAllApp t h2)
theorem dpAllTake {K : PySem.W.Frag} {H : Hp} : ∀ {vs : List V} {xs : List D} (n : Nat), DqAll K H vs xs → DqAll K H (vs.take n) (xs.take n)
  | _, _, 0, _ => .nil
  | _, _, _ + 1, .nil => .nil
  | _, _, n + 1, .cons h t => .cons h (dpAllTake n t)
theorem dpAllDrop {K : PySem.W.Frag} {H : Hp} : ∀ {vs : List V} {xs : List D} (n : Nat), DqAll K H vs xs → DqAll K H (vs.drop n) (xs.drop n)
  | _, _, 0, h => h
  | _, _, _ + 1, .nil => .nil
  | _, _, n + 1, .cons _ t => dpAllDrop n t
theorem dpAllSet {K : PySem.W.Frag} {H : Hp} {v : V} {x : D} (h : Dq K H v x) : ∀ {vs : List V} {xs : List D} (n : Nat), DqAll K H vs xs → DqAll K H (vs.set n v) (xs.set n x)
  | _, _, _, .nil => .nil
  | _, _, 0, .cons _ t => .cons h t
  | _, _, n + 1, .cons q t => .cons q (dpAllSet h n t)
theorem dpAllDropLast {K : PySem.W.Frag} {H : Hp} {vs : List V} {xs : List D} (h : DqAll K H vs xs) : DqAll K H vs.dropLast xs.dropLast := by
  rw [List.dropLast_eq_take, List.dropLast_eq_take, dpAllLen h]
  exact dpAllTake _ h
theorem dpAllInts {K : PySem.W.Frag} {H : Hp} : ∀ {ns : List Int} {vs : List V}, DqAll K H vs (ns.map PyData.int) → vs = ns.map V.int
  | [], _, .nil => rfl
  | n :: r, _, .cons h t => by
    cases h
    rw [dpAllInts t]
    rfl
theorem dpAllOfInts {K : PySem.W.Frag} {H : Hp} : ∀ ns : List Int, DqAll K H (ns.map V.int) (ns.map PyData.int)
  | [] => .nil
  | n :: r => .cons (.int n) (dpAllOfInts r)
theorem dpAllBls {K : PySem.W.Frag} {H : Hp} : ∀ {ns : List Bool} {vs : List V}, DqAll K H vs (ns.map PyData.bool) → vs = ns.map V.bl
  | [], _, .nil => rfl
  | n :: r, _, .cons h t => by
    cases h
    rw [dpAllBls t]
    rfl

/-- a held thing at an address -/
def CRp (K : PySem.W.Frag) (Hd : Hp) : MC → HO → Prop
  | .lst ds, o => ∃ vs, o = .lst vs ∧ DqAll K Hd vs ds
  | .dK kvs, o => ∃ ws, o = .dK ws ∧ Paired (fun (p : Key × D) (q : Key × V) => p.1 = q.1 ∧ Dq K Hd q.2 p.2) kvs ws
  | .dT kvs, o => ∃ ws, o = .dT ws ∧ Paired (fun (p : List Key × D) (q : List Key × V) => p.1 = q.1 ∧ Dq K Hd q.2 p.2) kvs ws
theorem CRp.mono {K : PySem.W.Frag} {H H' : Hp} (e : Same H H') : ∀ {m : MC} {o : HO}, CRp K H m o → CRp K H' m o
  | .lst _, _, ⟨vs, h, t⟩ => ⟨vs, h, dpAllMono e t⟩
  | .dK _, _, ⟨vs, h, t⟩ => ⟨vs, h, Paired.mapP t fun _ _ q => ⟨q.1, dpMono e q.2⟩⟩
  | .dT _, _, ⟨vs, h, t⟩ => ⟨vs, h, Paired.mapP t fun _ _ q => ⟨q.1, dpMono e q.2⟩⟩

/-- the defs that make lambdas, and their tables -/
def lamDefs : List Str := ["closed_of"]
def tabsOf (K : PySem.W.Frag) : List (Addr × Str) := lamDefs.filterMap fun x => (PySem.W.tabIn K x).map fun cp => (cp.2, x ++ ".<locals>." ++ "<lambda>")
/-- no table of code objects among them -/
def NoT (H : Hp) : Prop := ∀ (a : Addr) (ps : Array Value), H a ≠ some (.tbl ps)
def PlainO : HO → Prop
  | .tbl _ => False
  | _ => True
structure Fr where
  Hf : Hp
  al : Nat → Addr
  Fz : Addr → Prop
structure Wd (K : PySem.W.Frag) (F : Fr) (P : List Nat) (R : DS) (σ : L2.St) (Hd H : Hp) : Prop where
  dat : Same Hd H
  frm : Same F.Hf H
  len : R.length = σ.length
  val : ∀ (i : Nat) (x : D), R[i]? = some (SV.d x) → ∃ v, σ[i]? = some (some v) ∧ Dq K Hd v x
  own : ∀ (i : Nat) (m : MC), R[i]? = some (SV.own m) → ∃ a o, σ[i]? = some (some (V.ref a)) ∧ H a = some o ∧ CRp K Hd m o ∧ Hd a = none ∧ F.Hf a = none
  apart : ∀ (i j : Nat) (m n : MC) (a : Addr), R[i]? = some (SV.own m) → R[j]? = some (SV.own n) → σ[i]? = some (some (V.ref a)) → σ[j]? = some (some (V.ref a)) → i = j
  pin : ∀ (i : Nat), i ∈ P → ∃ m, R[i]? = some (SV.own m) ∧ σ[i]? = some (some (V.ref (F.al i)))
  prot : ∀ a, F.Fz a → Hd a = none ∧ F.Hf a ≠ none
  tabs : LamX.Tabs (tabsOf K) H ∧ NoT Hd ∧ NoT F.Hf
def Rp (K : PySem.W.Frag) (F : Fr) (R : DS) (σ : L2.St) (Hd H : Hp) : SV → V → Prop
  | .no, _ => False
  | .d x, v => Dq K Hd v x
  | .loc i, v => σ[i]? = some (some v) ∧ ∃ m, R[i]? = some (SV.own m)
  | .own m, v => ∃ a o, v = .ref a ∧ H a = some o ∧ CRp K Hd m o ∧ Hd a = none ∧ F.Hf a = none ∧ ∀ (i : Nat) (n : MC), R[i]? = some (SV.own n) → σ[i]? ≠ some (some (V.ref a))
def Post (K : PySem.W.Frag) (F : Fr) (P : List Nat) (σ : L2.St) (Hd : Hp) (Q : SV → DS → Prop) : VK := fun v H' =>
  ∃ Hd' R' sv, Same Hd Hd' ∧ Wd K F P R' σ Hd' H' ∧ Rp K F R' σ Hd' H' sv v ∧ Q sv R'

/-! the widest readings -/
def TEm (X : Cx) (e : Expr) : TE := fun σ H Q => ∀ pins s, Inv X pins σ H s → wpAny (model X.prog X.w) X.A (eval e X.env) (EP X pins σ Q) X.xe s
theorem pe_m {X : Cx} {e : Expr} : PE X e (TEm X e) := ⟨fun pins s _ _ _ I h => h pins s I⟩
theorem TEm.mono {X : Cx} {e : Expr} {σ : L2.St} {H : Hp} {Q Q' : VK} (h : TEm X e σ H Q) (k : ∀ v H', Q v H' → Q' v H') : TEm X e σ H Q' := fun pins s I =>
  thn (h pins s I) fun _ _ ⟨v, H', J, r, q⟩ => ⟨v, H', J, r, k v H' q⟩
theorem TEm.of {X : Cx} {e : Expr} {t : TE} {σ : L2.St} {H : Hp} {Q : VK} (p : PE X e t) (h : t σ H Q) : TEm X e σ H Q := fun pins s I => p.run pins s σ H Q I h
def TTm (X : Cx) (e : Expr) : TT := fun σ H Q => ∀ pins s, Inv X pins σ H s → wpAny (model X.prog X.w) X.A (isTrue e X.env (eval e X.env)) (TP X pins σ Q) X.xe s
theorem pt_m {X : Cx} {e : Expr} : PT X e (TTm X e) := ⟨fun pins s _ _ _ I h => h pins s I⟩
theorem TTm.mono {X : Cx} {e : Expr} {σ : L2.St} {H : Hp} {Q Q' : Bool → Hp → Prop} (h : TTm X e σ H Q) (k : ∀ v H', Q v H' → Q' v H') : TTm X e σ H Q' := fun pins s I =>
  thn (h pins s I) fun _ _ ⟨H', J, q⟩ => ⟨H', J, k _ H' q⟩
theorem TTm.of {X : Cx} {e : Expr} {t : TT} {σ : L2.St} {H : Hp} {Q : Bool → Hp → Prop} (p : PT X e t) (h : t σ H Q) : TTm X e σ H Q := fun pins s I => p.run pins s σ H Q I h
def TWm (X : Cx) (e : Expr) : TT := fun σ H Q => ∀ (whole : Sem Value) pins s, Inv X pins σ H s → wpAny (model X.prog X.w) X.A (isTrue e X.env whole) (TP X pins σ Q) X.xe s
theorem pw_m {X : Cx} {e : Expr} : PW X e (TWm X e) := ⟨fun whole pins s _ _ _ I h => h whole pins s I⟩
theorem TWm.mono {X : Cx} {e : Expr} {σ : L2.St} {H : Hp} {Q Q' : Bool → Hp → Prop} (h : TWm X e σ H Q) (k : ∀ v H', Q v H' → Q' v H') : TWm X e σ H Q' := fun whole pins s I =>
  thn (h whole pins s I) fun _ _ ⟨H', J, q⟩ => ⟨H', J, k _ H' q⟩
theorem TWm.of {X : Cx} {e : Expr} {t : TT} {σ : L2.St} {H : Hp} {Q : Bool → Hp → Prop} (p : PW X e t) (h : t σ H Q) : TWm X e σ H Q := fun whole pins s I => p.run whole pins s σ H Q I h
def TAm (X : Cx) (es : List Expr) : TA := fun σ H Q => ∀ (pos : Pos) pins s, Inv X pins σ H s → wpAny (model X.prog X.w) X.A (spliced (backTo pos (starEach es X.env))) (AP X pins σ Q) X.xe s
theorem pa_m {X : Cx} {es : List Expr} : PA X es (TAm X es) := ⟨fun pos pins s _ _ _ I h => h pos pins s I⟩
theorem TAm.mono {X : Cx} {es : List Expr} {σ : L2.St} {H : Hp} {Q Q' : List V → Hp → Prop} (h : TAm X es σ H Q) (k : ∀ v H', Q v H' → Q' v H') : TAm X es σ H Q' := fun pos pins s I =>
  thn (h pos pins s I) fun _ _ ⟨v, H', J, r, q⟩ => ⟨v, H', J, r, k v H' q⟩
theorem TAm.of {X : Cx} {es : List Expr} {t : TA} {σ : L2.St} {H : Hp} {Q : List V → Hp → Prop} (p : PA X es t) (h : t σ H Q) : TAm X es σ H Q := fun pos pins s I => p.run pos pins s σ H Q I h
def Le (D D' : Ends) : Prop := (∀ σ H, D.nx σ H → D'.nx σ H) ∧ (∀ v H, D.rt v H → D'.rt v H) ∧ (∀ σ H, D.bk σ H → D'.bk σ H) ∧ (∀ σ H, D.ct σ H → D'.ct σ H)
theorem SP.mono {X : Cx} {pins : List (Addr × Obj)} {D D' : Ends} {f : Flow} {s : Shared} (l : Le D D') (h : SP X pins D f s) : SP X pins D' f s := by
  cases f with
  | next => obtain ⟨σ, H, I, q⟩ := h; exact ⟨σ, H, I, l.1 _ _ q⟩
  | brk => obtain ⟨σ, H, I, q⟩ := h; exact ⟨σ, H, I, l.2.2.1 _ _ q⟩
  | cont => obtain ⟨σ, H, I, q⟩ := h; exact ⟨σ, H, I, l.2.2.2 _ _ q⟩
  | ret v => obtain ⟨x, σ, H, I, r, q⟩ := h; exact ⟨x, σ, H, I, r, l.2.1 _ _ q⟩
def TSm (X : Cx) (st : Stmt) : TS := fun D σ H => ∀ pins s, Inv X pins σ H s → wpAny (model X.prog X.w) X.A (exec st X.env) (SP X pins D) X.xe s
theorem ps_m {X : Cx} {st : Stmt} : PS X st (TSm X st) := ⟨fun pins s _ _ _ I h => h pins s I⟩
theorem TSm.mono {X : Cx} {st : Stmt} {σ : L2.St} {H : Hp} {D D' : Ends} (h : TSm X st D σ H) (l : Le D D') : TSm X st D' σ H := fun pins s I => thn (h pins s I) fun _ _ q => SP.mono l q
theorem TSm.of {X : Cx} {st : Stmt} {t : TS} {σ : L2.St} {H : Hp} {D : Ends} (p : PS X st t) (h : t D σ H) : TSm X st D σ H := fun pins s I => p.run pins s σ H D I h
def TSsm (X : Cx) (st : List Stmt) : TS := fun D σ H => ∀ pins s, Inv X pins σ H s → wpAny (model X.prog X.w) X.A (execs st X.env) (SP X pins D) X.xe s
theorem pss_m {X : Cx} {st : List Stmt} : PSs X st (TSsm X st) := ⟨fun pins s _ _ _ I h => h pins s I⟩
theorem TSsm.mono {X : Cx} {st : List Stmt} {σ : L2.St} {H : Hp} {D D' : Ends} (h : TSsm X st D σ H) (l : Le D D') : TSsm X st D' σ H := fun pins s I => thn (h pins s I) fun _ _ q => SP.mono l q
theorem TSsm.of {X : Cx} {st : List Stmt} {t : TS} {σ : L2.St} {H : Hp} {D : Ends} (p : PSs X st t) (h : t D σ H) : TSsm X st D σ H := fun pins s I => p.run pins s σ H D I h

/-! what is shown of a piece of code: by data alone -/
structure WE (X : Cx) (P : List Nat) (e : Expr) (R : DS) (Q : SV → DS → Prop) : Prop where
  run : ∀ F σ Hd H, Wd X.K F P R σ Hd H → TEm X e σ H (Post X.K F P σ Hd Q)
def PostT (K : PySem.W.Frag) (F : Fr) (P : List Nat) (σ : L2.St) (Hd : Hp) (Q : Bool → DS → Prop) : Bool → Hp → Prop := fun b H' =>
  ∃ Hd' R', Same Hd Hd' ∧ Wd K F P R' σ Hd' H' ∧ Q b R'
structure WT (X : Cx) (P : List Nat) (e : Expr) (R : DS) (Q : Bool → DS → Prop) : Prop where
  run : ∀ F σ Hd H, Wd X.K F P R σ Hd H → TTm X e σ H (PostT X.K F P σ Hd Q)
structure WW (X : Cx) (P : List Nat) (e : Expr) (R : DS) (Q : Bool → DS → Prop) : Prop where
  run : ∀ F σ Hd H, Wd X.K F P R σ Hd H → TWm X e σ H (PostT X.K F P σ Hd Q)
/-- arguments: each is data, or a name's own thing -/
def PostA (K : PySem.W.Frag) (F : Fr) (P : List Nat) (σ : L2.St) (Hd : Hp) (Q : List SV → DS → Prop) : List V → Hp → Prop := fun vs H' =>
  ∃ Hd' R' svs, Same Hd Hd' ∧ Wd K F P R' σ Hd' H' ∧ Paired (fun sv v => (match sv with | .d x => Dq K Hd' v x | .loc i => σ[i]? = some (some v) | _ => False)) svs vs ∧ Q svs R'
structure WA (X : Cx) (P : List Nat) (es : List Expr) (R : DS) (Q : List SV → DS → Prop) : Prop where
  run : ∀ F σ Hd H, Wd X.K F P R σ Hd H → TAm X es σ H (PostA X.K F P σ Hd Q)
structure DEnds where
  nx : DS → Prop
  rt : SV → DS → Prop
  bk : DS → Prop := fun _ => False
  ct : DS → Prop := fun _ => False
def up (K : PySem.W.Frag) (F : Fr) (P : List Nat) (Hd : Hp) (q : DS → Prop) : L2.St → Hp → Prop := fun σ' H' => ∃ Hd' R', Same Hd Hd' ∧ Wd K F P R' σ' Hd' H' ∧ q R'
/-- at a def's end -/
def Fin (K : PySem.W.Frag) (F : Fr) (P : List Nat) (R : DS) (sv : SV) (v : V) (Hd H : Hp) : Prop :=
  Same Hd H ∧ Same F.Hf H ∧ ((∀ a, F.Fz a → Hd a = none) ∧ LamX.Tabs (tabsOf K) H ∧ NoT Hd) ∧ (∀ i, i ∈ P → ∃ m o, R[i]? = some (SV.own m) ∧ H (F.al i) = some o ∧ CRp K Hd m o ∧ Hd (F.al i) = none) ∧
    (match sv with
      | .d x => Dq K Hd v x
      | .own m => ∃ a o, v = .ref a ∧ H a = some o ∧ CRp K Hd m o ∧ Hd a = none ∧ F.Hf a = none ∧ ∀ i, i ∈ P → F.al i ≠ a
      | _ => False)
def upR (K : PySem.W.Frag) (F : Fr) (P : List Nat) (Hd : Hp) (q : SV → DS → Prop) : VK := fun v H' => ∃ Hd' R' sv, Same Hd Hd' ∧ Fin K F P R' sv v Hd' H' ∧ q sv R'
def upD (K : PySem.W.Frag) (F : Fr) (P : List Nat) (Hd : Hp) (D : DEnds) : Ends := { nx := up K F P Hd D.nx, rt := upR K F P Hd D.rt, bk := up K F P Hd D.bk, ct := up K F P Hd D.ct }
structure WS (X : Cx) (P : List Nat) (st : Stmt) (R : DS) (D : DEnds) : Prop where
  run : ∀ F σ Hd H, Wd X.K F P R σ Hd H → TSm X st (upD X.K F P Hd D) σ H
structure WSs (X : Cx) (P : List Nat) (st : List Stmt) (R : DS) (D : DEnds) : Prop where
  run : ∀ F σ Hd H, Wd X.K F P R σ Hd H → TSsm X st (upD X.K F P Hd D) σ H

theorem up_same {K : PySem.W.Frag} {F : Fr} {P : List Nat} {Hd Hd' : Hp} {q : DS → Prop} (e : Same Hd Hd') {σ : L2.St} {H : Hp} (h : up K F P Hd' q σ H) : up K F P Hd q σ H := by
  obtain ⟨Hd2, R, e2, w, h⟩ := h
  exact ⟨Hd2, R, e.trans e2, w, h⟩
theorem upD_le {K : PySem.W.Frag} {F : Fr} {P : List Nat} {Hd Hd' : Hp} {D : DEnds} (e : Same Hd Hd') : Le (upD K F P Hd' D) (upD K F P Hd D) :=
  ⟨fun _ _ h => up_same e h, fun _ _ ⟨Hd2, R, sv, e2, w, h⟩ => ⟨Hd2, R, sv, e.trans e2, w, h⟩, fun _ _ h => up_same e h, fun _ _ h => up_same e h⟩

section
variable {X : Cx} {P : List Nat} {R : DS}
theorem WE.of {e : Expr} {Q : SV → DS → Prop} {t : TE} (p : PE X e t) (h : ∀ F σ Hd H, Wd X.K F P R σ Hd H → t σ H (Post X.K F P σ Hd Q)) : WE X P e R Q := ⟨fun F σ Hd H w => TEm.of p (h F σ Hd H w)⟩
theorem WE.use {e : Expr} {Q : SV → DS → Prop} (h : WE X P e R Q) {F : Fr} {σ : L2.St} {Hd H : Hp} (w : Wd X.K F P R σ Hd H) {Z : VK}
    (k : ∀ Hd' R' sv v H', Same Hd Hd' → Wd X.K F P R' σ Hd' H' → Rp X.K F R' σ Hd' H' sv v → Q sv R' → Z v H') : TEm X e σ H Z :=
  (h.run F σ Hd H w).mono fun v H' ⟨Hd', R', sv, e1, w1, r1, q1⟩ => k Hd' R' sv v H' e1 w1 r1 q1
theorem WE.mono {e : Expr} {Q Q' : SV → DS → Prop} (h : WE X P e R Q) (k : ∀ sv R', Q sv R' → Q' sv R') : WE X P e R Q' :=
  ⟨fun F σ Hd H w => h.use w fun Hd' R' sv v H' e1 w1 r1 q1 => ⟨Hd', R', sv, e1, w1, r1, k _ _ q1⟩⟩
theorem WT.of {e : Expr} {Q : Bool → DS → Prop} {t : TT} (p : PT X e t) (h : ∀ F σ Hd H, Wd X.K F P R σ Hd H → t σ H (PostT X.K F P σ Hd Q)) : WT X P e R Q := ⟨fun F σ Hd H w => TTm.of p (h F σ Hd H w)⟩
theorem WT.use {e : Expr} {Q : Bool → DS → Prop} (h : WT X P e R Q) {F : Fr} {σ : L2.St} {Hd H : Hp} (w : Wd X.K F P R σ Hd H) {Z : Bool → Hp → Prop}
    (k : ∀ Hd' R' b H', Same Hd Hd' → Wd X.K F P R' σ Hd' H' → Q b R' → Z b H') : TTm X e σ H Z :=
  (h.run F σ Hd H w).mono fun v H' ⟨Hd', R', e1, w1, q1⟩ => k Hd' R' v H' e1 w1 q1
theorem WT.mono {e : Expr} {Q Q' : Bool → DS → Prop} (h : WT X P e R Q) (k : ∀ b R', Q b R' → Q' b R') : WT X P e R Q' :=
  ⟨fun F σ Hd H w => h.use w fun Hd' R' b H' e1 w1 q1 => ⟨Hd', R', e1, w1, k _ _ q1⟩⟩
theorem WW.of {e : Expr} {Q : Bool → DS → Prop} {t : TT} (p : PW X e t) (h : ∀ F σ Hd H, Wd X.K F P R σ Hd H → t σ H (PostT X.K F P σ Hd Q)) : WW X P e R Q := ⟨fun F σ Hd H w => TWm.of p (h F σ Hd H w)⟩
theorem WW.use {e : Expr} {Q : Bool → DS → Prop} (h : WW X P e R Q) {F : Fr} {σ : L2.St} {Hd H : Hp} (w : Wd X.K F P R σ Hd H) {Z : Bool → Hp → Prop}
    (k : ∀ Hd' R' b H', Same Hd Hd' → Wd X.K F P R' σ Hd' H' → Q b R' → Z b H') : TWm X e σ H Z :=
  (h.run F σ Hd H w).mono fun v H' ⟨Hd', R', e1, w1, q1⟩ => k Hd' R' v H' e1 w1 q1
theorem WA.of {es : List Expr} {Q : List SV → DS → Prop} {t : TA} (p : PA X es t) (h : ∀ F σ Hd H, Wd X.K F P R σ Hd H → t σ H (PostA X.K F P σ Hd Q)) : WA X P es R Q := ⟨fun F σ Hd H w => TAm.of p (h F σ Hd H w)⟩
theorem WS.of {st : Stmt} {D : DEnds} {t : TS} (p : PS X st t) (h : ∀ F σ Hd H, Wd X.K F P R σ Hd H → t (upD X.K F P Hd D) σ H) : WS X P st R D := ⟨fun F σ Hd H w => TSm.of p (h F σ Hd H w)⟩
theorem WSs.of {st : List Stmt} {D : DEnds} {t : TS} (p : PSs X st t) (h : ∀ F σ Hd H, Wd X.K F P R σ Hd H → t (upD X.K F P Hd D) σ H) : WSs X P st R D := ⟨fun F σ Hd H w => TSsm.of p (h F σ Hd H w)⟩
end
end Dl
namespace Dl
open PySem PySem.Spec PyProof.Rows L2
section
variable {K : PySem.W.Frag} {F : Fr} {P : List Nat} {R : DS} {σ : L2.St} {Hd H H' : Hp} {p a : Addr} {o : HO}
theorem sameNew (h : H p = none) : Same H (upd H p o) := fun b u e => by
  rw [upd_ne (ne_of_none e h)]
  exact e
theorem sameUp {H1 : Hp} (s : Same H H1) (h : H p = none) : Same H (upd H1 p o) := fun b u e => by
  rw [upd_ne (ne_of_none e h)]
  exact s b u e
theorem sameNone (s : Same H H') (h : H' a = none) : H a = none := by
  cases q : H a with
  | none => rfl
  | some u => rw [s a u q] at h; cases h
theorem noT_up (h : NoT H) (ho : PlainO o) : NoT (upd H p o) := fun b ps z => by
  by_cases hb : b = p
  · subst hb
    rw [upd_same] at z
    cases z
    exact ho
  · rw [upd_ne hb] at z
    exact h b ps z
theorem crp_plain {m : MC} (h : CRp K Hd m o) : PlainO o := by
  cases m with
  | lst ds => obtain ⟨vs, rfl, _⟩ := h; trivial
  | dK kvs => obtain ⟨vs, rfl, _⟩ := h; trivial
  | dT kvs => obtain ⟨vs, rfl, _⟩ := h; trivial
/-- neither a table nor what a table tells -/
def Bare (o : HO) : Prop := PlainO o ∧ ∀ c q, o ≠ LamX.CodeO c q
theorem crp_bare {m : MC} (h : CRp K Hd m o) : Bare o := by
  refine ⟨crp_plain h, fun c q z => ?_⟩
  unfold LamX.CodeO at z
  cases m with
  | lst ds => obtain ⟨vs, e, _⟩ := h; rw [e] at z; cases z
  | dK kvs => obtain ⟨vs, e, _⟩ := h; rw [e] at z; cases z
  | dT kvs => obtain ⟨vs, e, _⟩ := h; rw [e] at z; cases z
theorem tabs_new {T : List (Addr × Str)} (t : LamX.Tabs T H) (h : H p = none) : LamX.Tabs T (upd H p o) := t.ext fun b u e => by
  rw [upd_ne (ne_of_none e h)]
  exact e
theorem tabs_poke {T : List (Addr × Str)} {o0 : HO} (t : LamX.Tabs T H) (h : H a = some o0) (hb : Bare o0) : LamX.Tabs T (upd H a o) := fun x hx => by
  obtain ⟨ps, h1, h2, h3⟩ := t x hx
  refine ⟨ps, ?_, h2, fun pos cv hc => ?_⟩
  · rw [upd_ne (fun z => by
      rw [z, h] at h1
      cases h1
      exact hb.1)]
    exact h1
  · obtain ⟨c, e1, e2⟩ := h3 pos cv hc
    refine ⟨c, e1, ?_⟩
    rw [upd_ne (fun z => by
      rw [z, h] at e2
      exact hb.2 _ _ (Option.some.inj e2))]
    exact e2
theorem SVx {R : DS} {i : Nat} {x y : SV} (h : R[i]? = some x) (h2 : R[i]? = some y) : x = y := Option.some.inj (h.symm.trans h2)

/-- nothing of what is held changes: the heap grows by an object that is not known -/
theorem Wd.allocH (w : Wd K F P R σ Hd H) (h : H p = none) : Wd K F P R σ Hd (upd H p o) :=
  ⟨sameUp w.dat (sameNone w.dat h), sameUp w.frm (sameNone w.frm h), w.len, w.val, fun i m e => by
    obtain ⟨a, u, e1, e2, e3, e4, e5⟩ := w.own i m e
    exact ⟨a, u, e1, by rw [upd_ne (ne_of_none e2 h)]; exact e2, e3, e4, e5⟩, w.apart, w.pin, w.prot, tabs_new w.tabs.1 h, w.tabs.2⟩
theorem Wd.allocD (w : Wd K F P R σ Hd H) (h : H p = none) (ho : PlainO o := by trivial) : Wd K F P R σ (upd Hd p o) (upd H p o) ∧ Same Hd (upd Hd p o) := by
  have hd : Hd p = none := sameNone w.dat h
  refine ⟨⟨fun b u e => ?_, sameUp w.frm (sameNone w.frm h), w.len, fun i x e => ?_, fun i m e => ?_, w.apart, w.pin, fun b hb => ⟨by
    have h1 := w.prot b hb
    have ne : b ≠ p := fun z => by
      subst z
      cases q : F.Hf b with
      | none => exact h1.2 q
      | some u => rw [w.frm b u q] at h; cases h
    rw [upd_ne ne]; exact h1.1, (w.prot b hb).2⟩, tabs_new w.tabs.1 h, noT_up w.tabs.2.1 ho, w.tabs.2.2⟩, sameNew hd⟩
  · by_cases hb : b = p
    · subst hb
      rw [upd_same] at e ⊢
      exact e
    · rw [upd_ne hb] at e ⊢
      exact w.dat b u e
  · obtain ⟨v, e1, e2⟩ := w.val i x e
    exact ⟨v, e1, dpMono (sameNew hd) e2⟩
  · obtain ⟨a, u, e1, e2, e3, e4, e5⟩ := w.own i m e
    have ne : a ≠ p := ne_of_none e2 h
    exact ⟨a, u, e1, by rw [upd_ne ne]; exact e2, e3.mono (sameNew hd), by rw [upd_ne ne]; exact e4, e5⟩
/-- a thing that no name holds becomes data -/
theorem Wd.freeze (w : Wd K F P R σ Hd H) (ha : H a = some o) (hd : Hd a = none) (hf : F.Hf a = none) (hn : ∀ (i : Nat) (n : MC), R[i]? = some (SV.own n) → σ[i]? ≠ some (some (V.ref a))) (ho : PlainO o := by trivial) :
    Wd K F P R σ (upd Hd a o) H ∧ Same Hd (upd Hd a o) := by
  refine ⟨⟨fun b u e => ?_, w.frm, w.len, fun i x e => ?_, fun i m e => ?_, w.apart, w.pin, fun b hb => ⟨by
    have h1 := w.prot b hb
    have ne : b ≠ a := fun z => by
      subst z
      exact h1.2 hf
    rw [upd_ne ne]; exact h1.1, (w.prot b hb).2⟩, w.tabs.1, noT_up w.tabs.2.1 ho, w.tabs.2.2⟩, sameNew hd⟩
  · by_cases hb : b = a
    · subst hb
      rw [upd_same] at e
      cases e
      exact ha
    · rw [upd_ne hb] at e
      exact w.dat b u e
  · obtain ⟨v, e1, e2⟩ := w.val i x e
    exact ⟨v, e1, dpMono (sameNew hd) e2⟩
  · obtain ⟨b, u, e1, e2, e3, e4, e5⟩ := w.own i m e
    have ne : b ≠ a := fun z => by
      subst z
      exact hn i m e e1
    exact ⟨b, u, e1, e2, e3.mono (sameNew hd), by rw [upd_ne ne]; exact e4, e5⟩
theorem Wd.setD (w : Wd K F P R σ Hd H) {i : Nat} {x : D} {v : V} (hP : i ∉ P) (h : Dq K Hd v x) : Wd K F P (R.set i (.d x)) (σ.set i (some v)) Hd H := by
  refine ⟨w.dat, w.frm, by rw [List.length_set, List.length_set]; exact w.len, fun j y e => ?_, fun j m e => ?_, fun j k m n a e1 e2 e3 e4 => ?_, fun j hj => ?_, w.prot, w.tabs⟩
  · by_cases hi : i = j
    · subst hi
      have hl : i < R.length := by
        have := (List.getElem?_eq_some_iff.mp e).1
        rwa [List.length_set] at this
      rw [List.getElem?_set_self hl] at e
      cases e
      exact ⟨v, List.getElem?_set_self (by rw [← w.len]; exact hl), h⟩
    · rw [List.getElem?_set_ne hi] at e ⊢
      exact w.val j y e
  · by_cases hi : i = j
    · subst hi
      have hl : i < R.length := by
        have := (List.getElem?_eq_some_iff.mp e).1
        rwa [List.length_set] at this
      rw [List.getElem?_set_self hl] at e
      cases e
    · rw [List.getElem?_set_ne hi] at e ⊢
      exact w.own j m e
  · have n1 : i ≠ j := fun z => by
      subst z
      have hl : i < R.length := by
        have := (List.getElem?_eq_some_iff.mp e1).1
        rwa [List.length_set] at this
      rw [List.getElem?_set_self hl] at e1
      cases e1
    have n2 : i ≠ k := fun z => by
      subst z
      have hl : i < R.length := by
        have := (List.getElem?_eq_some_iff.mp e2).1
        rwa [List.length_set] at this
      rw [List.getElem?_set_self hl] at e2
      cases e2
    rw [List.getElem?_set_ne n1] at e1 e3
    rw [List.getElem?_set_ne n2] at e2 e4
    exact w.apart j k m n a e1 e2 e3 e4
  · have ne : i ≠ j := fun z => hP (z ▸ hj)
    rw [List.getElem?_set_ne ne, List.getElem?_set_ne ne]
    exact w.pin j hj
/-- forget a name's thing, or a value -/
theorem Wd.setNo (w : Wd K F P R σ Hd H) {i : Nat} {ov : Option V} (hP : i ∉ P) : Wd K F P (R.set i .no) (σ.set i ov) Hd H := by
  have no : ∀ {j : Nat} {y : SV}, (R.set i SV.no)[j]? = some y → y ≠ .no → i ≠ j ∧ R[j]? = some y := fun {j y} e n => by
    have ne : i ≠ j := fun z => by
      subst z
      have hl : i < R.length := by
        have := (List.getElem?_eq_some_iff.mp e).1
        rwa [List.length_set] at this
      rw [List.getElem?_set_self hl] at e
      exact n (Option.some.inj e).symm
    rw [List.getElem?_set_ne ne] at e
    exact ⟨ne, e⟩
  refine ⟨w.dat, w.frm, by rw [List.length_set, List.length_set]; exact w.len, fun j y e => ?_, fun j m e => ?_, fun j k m n a e1 e2 e3 e4 => ?_, fun j hj => ?_, w.prot, w.tabs⟩
  · obtain ⟨ne, e'⟩ := no e (by intro z; cases z)
    rw [List.getElem?_set_ne ne]
    exact w.val j y e'
  · obtain ⟨ne, e'⟩ := no e (by intro z; cases z)
    rw [List.getElem?_set_ne ne]
    exact w.own j m e'
  · obtain ⟨n1, e1'⟩ := no e1 (by intro z; cases z)
    obtain ⟨n2, e2'⟩ := no e2 (by intro z; cases z)
    rw [List.getElem?_set_ne n1] at e3
    rw [List.getElem?_set_ne n2] at e4
    exact w.apart j k m n a e1' e2' e3 e4
  · have ne : i ≠ j := fun z => hP (z ▸ hj)
    rw [List.getElem?_set_ne ne, List.getElem?_set_ne ne]
    exact w.pin j hj
/-- a name gets a new thing -/
theorem Wd.setOwn (w : Wd K F P R σ Hd H) {i : Nat} {m : MC} (hP : i ∉ P) (ha : H a = some o) (hc : CRp K Hd m o) (hd : Hd a = none) (hf : F.Hf a = none)
    (hn : ∀ (i : Nat) (n : MC), R[i]? = some (SV.own n) → σ[i]? ≠ some (some (V.ref a))) : Wd K F P (R.set i (.own m)) (σ.set i (some (.ref a))) Hd H := by
  have at_ : ∀ {j : Nat} {y : SV}, (R.set i (SV.own m))[j]? = some y → (i = j ∧ y = .own m ∧ i < R.length) ∨ (i ≠ j ∧ R[j]? = some y) := fun {j y} e => by
    by_cases z : i = j
    · subst z
      have hl : i < R.length := by
        have := (List.getElem?_eq_some_iff.mp e).1
        rwa [List.length_set] at this
      rw [List.getElem?_set_self hl] at e
      exact .inl ⟨rfl, (Option.some.inj e).symm, hl⟩
    · rw [List.getElem?_set_ne z] at e
      exact .inr ⟨z, e⟩
  refine ⟨w.dat, w.frm, by rw [List.length_set, List.length_set]; exact w.len, fun j y e => ?_, fun j n e => ?_, fun j k n n' b e1 e2 e3 e4 => ?_, fun j hj => ?_, w.prot, w.tabs⟩
  · rcases at_ e with ⟨_, z, _⟩ | ⟨ne, e'⟩
    · cases z
    · rw [List.getElem?_set_ne ne]
      exact w.val j y e'
  · rcases at_ e with ⟨z1, z, hl⟩ | ⟨ne, e'⟩
    · subst z1
      cases z
      exact ⟨a, o, List.getElem?_set_self (by rw [← w.len]; exact hl), ha, hc, hd, hf⟩
    · rw [List.getElem?_set_ne ne]
      exact w.own j n e'
  · rcases at_ e1 with ⟨z1, _, hl⟩ | ⟨ne, e1'⟩
    · rcases at_ e2 with ⟨z2, _, _⟩ | ⟨ne2, e2'⟩
      · exact z1.symm.trans z2
      · subst z1
        rw [List.getElem?_set_self (by rw [← w.len]; exact hl)] at e3
        cases e3
        rw [List.getElem?_set_ne ne2] at e4
        exact absurd e4 (hn k n' e2')
    · rcases at_ e2 with ⟨z2, _, hl⟩ | ⟨ne2, e2'⟩
      · subst z2
        rw [List.getElem?_set_self (by rw [← w.len]; exact hl)] at e4
        cases e4
        rw [List.getElem?_set_ne ne] at e3
        exact absurd e3 (hn j n e1')
      · rw [List.getElem?_set_ne ne] at e3
        rw [List.getElem?_set_ne ne2] at e4
        exact w.apart j k n n' b e1' e2' e3 e4
  · have ne : i ≠ j := fun z => hP (z ▸ hj)
    rw [List.getElem?_set_ne ne, List.getElem?_set_ne ne]
    exact w.pin j hj
/-- a name's thing changes -/
theorem Wd.change (w : Wd K F P R σ Hd H) {i : Nat} {m m' : MC} {o' : HO} (hi : R[i]? = some (.own m)) (hs : σ[i]? = some (some (.ref a))) (hc : CRp K Hd m' o') :
    Wd K F P (R.set i (.own m')) σ Hd (upd H a o') := by
  obtain ⟨b, ob, s1, hb, hcb, hdb, hfb⟩ := w.own i m hi
  rw [hs] at s1
  cases s1
  have hl : i < R.length := (List.getElem?_eq_some_iff.mp hi).1
  have at_ : ∀ {j : Nat} {y : SV}, (R.set i (SV.own m'))[j]? = some y → (i = j ∧ y = .own m') ∨ (i ≠ j ∧ R[j]? = some y) := fun {j y} e => by
    by_cases z : i = j
    · subst z
      rw [List.getElem?_set_self hl] at e
      exact .inl ⟨rfl, (Option.some.inj e).symm⟩
    · rw [List.getElem?_set_ne z] at e
      exact .inr ⟨z, e⟩
  refine ⟨fun b u e => ?_, fun b u e => ?_, by rw [List.length_set]; exact w.len, fun j y e => ?_, fun j n e => ?_, fun j k n n' b e1 e2 e3 e4 => ?_, fun j hj => ?_, w.prot, tabs_poke w.tabs.1 hb (crp_bare hcb), w.tabs.2⟩
  · rw [upd_ne (ne_of_none e hdb)]
    exact w.dat b u e
  · rw [upd_ne (ne_of_none e hfb)]
    exact w.frm b u e
  · rcases at_ e with ⟨_, z⟩ | ⟨ne, e'⟩
    · cases z
    · exact w.val j y e'
  · rcases at_ e with ⟨z1, z⟩ | ⟨ne, e'⟩
    · subst z1
      cases z
      exact ⟨a, o', hs, upd_same, hc, hdb, hfb⟩
    · obtain ⟨c, u, e1, e2, e3, e4, e5⟩ := w.own j n e'
      have nc : c ≠ a := fun z => by
        subst z
        exact ne (w.apart i j m n c hi e' hs e1)
      exact ⟨c, u, e1, by rw [upd_ne nc]; exact e2, e3, e4, e5⟩
  · have o1 : ∃ n, R[j]? = some (.own n) := by
      rcases at_ e1 with ⟨z, _⟩ | ⟨_, e⟩
      · exact ⟨m, z ▸ hi⟩
      · exact ⟨n, e⟩
    have o2 : ∃ n, R[k]? = some (.own n) := by
      rcases at_ e2 with ⟨z, _⟩ | ⟨_, e⟩
      · exact ⟨m, z ▸ hi⟩
      · exact ⟨n', e⟩
    obtain ⟨n1, o1⟩ := o1
    obtain ⟨n2, o2⟩ := o2
    exact w.apart j k n1 n2 b o1 o2 e3 e4
  · obtain ⟨n, e1, e2⟩ := w.pin j hj
    by_cases z : i = j
    · subst z
      exact ⟨m', List.getElem?_set_self hl, e2⟩
    · exact ⟨n, by rw [List.getElem?_set_ne z]; exact e1, e2⟩
/-- a name's thing becomes data -/
theorem Wd.fz (w : Wd K F P R σ Hd H) {i : Nat} {ds : List D} (hi : R[i]? = some (.own (.lst ds))) (hP : i ∉ P) :
    ∃ Hd' v, σ[i]? = some (some v) ∧ Same Hd Hd' ∧ Wd K F P (R.set i (.d (.list ds))) σ Hd' H ∧ Dq K Hd' v (.list ds) := by
  obtain ⟨a, o, s1, ha, hc, hd, hf⟩ := w.own i _ hi
  obtain ⟨vs, rfl, hv⟩ := hc
  have w1 : Wd K F P (R.set i .no) (σ.set i (some (.ref a))) Hd H := w.setNo hP
  have es : σ.set i (some (V.ref a)) = σ := by
    obtain ⟨hl, e⟩ := List.getElem?_eq_some_iff.mp s1
    rw [← e]
    exact List.set_getElem_self hl
  rw [es] at w1
  have hl : i < R.length := (List.getElem?_eq_some_iff.mp hi).1
  obtain ⟨w2, s2⟩ := w1.freeze (o := .lst vs) ha hd hf fun j n e z => by
    have ne : i ≠ j := fun y => by
      subst y
      rw [List.getElem?_set_self hl] at e
      cases e
    rw [List.getElem?_set_ne ne] at e
    exact ne (w.apart i j _ n a hi e s1 z)
  have dp : Dq K (upd Hd a (.lst vs)) (.ref a) (.list ds) := .lst (SqL.of upd_same) (dpAllMono s2 hv)
  have w3 := w2.setD (i := i) (x := .list ds) (v := .ref a) hP dp
  rw [es, List.set_set] at w3
  exact ⟨_, _, s1, s2, w3, dp⟩

/-! what is read of a value -/
def vL (R : DS) : SV → Option (List D)
  | .d (.list ds) => some ds
  | .loc i => match R[i]? with
    | some (.own (.lst ds)) => some ds
    | _ => none
  | .own (.lst ds) => some ds
  | _ => none
def vT : SV → Option (List D)
  | .d (.tuple ds) => some ds
  | _ => none
def vD (R : DS) : SV → Option D
  | .d x => some x
  | .loc i => match R[i]? with
    | some (.own (.lst ds)) => some (.list ds)
    | _ => none
  | .own (.lst ds) => some (.list ds)
  | _ => none
theorem Rp.list {sv : SV} {v : V} {ds : List D} (w : Wd K F P R σ Hd H) (r : Rp K F R σ Hd H sv v) (h : vL R sv = some ds) : ∃ a vs, v = .ref a ∧ SqL K H a vs ∧ DqAll K Hd vs ds := by
  unfold vL at h
  split at h
  · cases h
    have r' : Dq K Hd v (.list ds) := r
    cases r' with
    | lst h1 h2 => exact ⟨_, _, rfl, w.dat.seq h1, h2⟩
  · rename_i i
    obtain ⟨rv, m, rm⟩ := r
    split at h
    · rename_i e
      cases h
      obtain ⟨a, o, s1, ha, ⟨vs, ho, hv⟩, _⟩ := w.own i _ e
      subst ho
      rw [rv] at s1
      cases s1
      exact ⟨a, vs, rfl, SqL.of ha, hv⟩
    · cases h
  · cases h
    obtain ⟨a, o, rfl, ha, ⟨vs, ho, hv⟩, _⟩ := r
    subst ho
    exact ⟨a, vs, rfl, SqL.of ha, hv⟩
  · cases h
theorem Rp.tup {sv : SV} {v : V} {ds : List D} (w : Wd K F P R σ Hd H) (r : Rp K F R σ Hd H sv v) (h : vT sv = some ds) : ∃ a vs, v = .ref a ∧ SqT K Hd a vs ∧ SqT K H a vs ∧ DqAll K Hd vs ds := by
  unfold vT at h
  split at h
  · cases h
    have r' : Dq K Hd v (.tuple ds) := r
    cases r' with
    | tup h1 h2 => exact ⟨_, _, rfl, SqT.of h1, sameT w.dat (SqT.of h1), h2⟩
  · cases h
theorem Rp.dat {sv : SV} {v : V} {x : D} (w : Wd K F P R σ Hd H) (r : Rp K F R σ Hd H sv v) (h : vD R sv = some x) : Dq K H v x := by
  unfold vD at h
  split at h
  · cases h
    have r' : Dq K Hd v x := r
    exact dpMono w.dat r'
  · rename_i i
    split at h
    · rename_i e
      cases h
      obtain ⟨a, vs, rfl, h1, h2⟩ := Rp.list (sv := .loc i) w r (show vL R (.loc i) = some _ by unfold vL; simp only [e]; rfl)
      exact .lst h1 (dpAllMono w.dat h2)
    · cases h
  · rename_i ds
    cases h
    obtain ⟨a, vs, rfl, h1, h2⟩ := Rp.list (sv := .own (.lst ds)) w r rfl
    exact .lst h1 (dpAllMono w.dat h2)
  · cases h
end

/-- what stands still while something else is looked at -/
def stb : SV → (SV → Prop) → Prop
  | .d x, k => k (.d x)
  | .loc i, k => k (.loc i)
  | .own (.lst ds), k => k (.d (.list ds))
  | _, _ => False
def asD : SV → (D → Prop) → Prop
  | .d x, k => k x
  | .own (.lst ds), k => k (.list ds)
  | _, _ => False
def asI : SV → (Int → Prop) → Prop
  | .d (.int i), k => k i
  | _, _ => False
def asB : SV → (Bool → Prop) → Prop
  | .d (.bool i), k => k i
  | _, _ => False
def asS : SV → (Str → Prop) → Prop
  | .d (.str i), k => k i
  | _, _ => False
section
variable {X : Cx} {P : List Nat} {R : DS}
theorem asI.elim {sv : SV} {k : Int → Prop} (h : asI sv k) : ∃ i, sv = .d (.int i) ∧ k i := by
  unfold asI at h
  split at h
  · exact ⟨_, rfl, h⟩
  · cases h
theorem asB.elim {sv : SV} {k : Bool → Prop} (h : asB sv k) : ∃ i, sv = .d (.bool i) ∧ k i := by
  unfold asB at h
  split at h
  · exact ⟨_, rfl, h⟩
  · cases h
theorem asS.elim {sv : SV} {k : Str → Prop} (h : asS sv k) : ∃ i, sv = .d (.str i) ∧ k i := by
  unfold asS at h
  split at h
  · exact ⟨_, rfl, h⟩
  · cases h
/-- freezing a value at hand -/
theorem WE.fzD {e : Expr} {Q : D → DS → Prop} (h : WE X P e R fun sv R' => asD sv fun x => Q x R') : WE X P e R fun sv R' => ∃ x, sv = .d x ∧ Q x R' :=
  ⟨fun F σ Hd H w => h.use w fun Hd' R' sv v H' e1 w1 r1 q1 => by
    unfold asD at q1
    split at q1
    · exact ⟨Hd', R', _, e1, w1, r1, _, rfl, q1⟩
    · obtain ⟨a, o, rfl, ha, ⟨vs, ho, hv⟩, hd, hf, hn⟩ := r1
      subst ho
      obtain ⟨w2, s2⟩ := w1.freeze ha hd hf hn
      rename_i ds
      exact ⟨_, R', .d (.list ds), e1.trans s2, w2, (Dq.lst (SqL.of upd_same) (dpAllMono s2 hv) : Dq _ _ _ _), _, rfl, q1⟩
    · cases q1⟩
theorem WE.stb {e : Expr} {Q : SV → DS → Prop} (h : WE X P e R fun sv R' => stb sv fun x => Q x R') : WE X P e R fun sv R' => (∀ m, sv ≠ .own m) ∧ Q sv R' :=
  ⟨fun F σ Hd H w => h.use w fun Hd' R' sv v H' e1 w1 r1 q1 => by
    unfold Dl.stb at q1
    split at q1
    · exact ⟨Hd', R', _, e1, w1, r1, (by intro m z; cases z), q1⟩
    · exact ⟨Hd', R', _, e1, w1, r1, (by intro m z; cases z), q1⟩
    · obtain ⟨a, o, rfl, ha, ⟨vs, ho, hv⟩, hd, hf, hn⟩ := r1
      subst ho
      obtain ⟨w2, s2⟩ := w1.freeze ha hd hf hn
      rename_i ds
      exact ⟨_, R', .d (.list ds), e1.trans s2, w2, (Dq.lst (SqL.of upd_same) (dpAllMono s2 hv) : Dq _ _ _ _), (by intro m z; cases z), q1⟩
    · cases q1⟩
/-- what stands still, moved on -/
theorem Rp.on {K : PySem.W.Frag} {F : Fr} {R R' : DS} {σ : L2.St} {Hd Hd' H H' : Hp} {sv : SV} {v : V} {y : D} (hs : ∀ m, sv ≠ .own m) (r : Rp K F R σ Hd H sv v) (e : Same Hd Hd') (h : vD R' sv = some y) : Rp K F R' σ Hd' H' sv v := by
  cases sv with
  | no => cases r
  | d x => exact (dpMono e r : Dq _ _ _ _)
  | own m => exact absurd rfl (hs m)
  | loc i =>
    refine ⟨r.1, ?_⟩
    unfold vD at h
    simp only at h
    split at h
    · rename_i e; exact ⟨_, e⟩
    · cases h
end
end Dl
namespace Dl
open PySem PySem.Spec PyProof.Rows L2
section
variable {X : Cx} {P : List Nat} {R : DS} {a b c e : Expr} {pos : Pos} {Q : SV → DS → Prop}
theorem Post.here {K : PySem.W.Frag} {F : Fr} {σ : L2.St} {Hd H : Hp} {sv : SV} {v : V} (w : Wd K F P R σ Hd H) (r : Rp K F R σ Hd H sv v) (q : Q sv R) : Post K F P σ Hd Q v H := ⟨Hd, R, sv, Same.refl Hd, w, r, q⟩
theorem Post.same {K : PySem.W.Frag} {F : Fr} {σ : L2.St} {Hd Hd' H : Hp} {v : V} (e : Same Hd Hd') (h : Post K F P σ Hd' Q v H) : Post K F P σ Hd Q v H := by
  obtain ⟨Hd2, R2, sv, e2, w, r, q⟩ := h
  exact ⟨Hd2, R2, sv, e.trans e2, w, r, q⟩
theorem PostT.same {K : PySem.W.Frag} {F : Fr} {σ : L2.St} {Hd Hd' H : Hp} {v : Bool} {Q : Bool → DS → Prop} (e : Same Hd Hd') (h : PostT K F P σ Hd' Q v H) : PostT K F P σ Hd Q v H := by
  obtain ⟨Hd2, R2, e2, w, q⟩ := h
  exact ⟨Hd2, R2, e.trans e2, w, q⟩
theorem PostA.same {K : PySem.W.Frag} {F : Fr} {σ : L2.St} {Hd Hd' H : Hp} {v : List V} {Q : List SV → DS → Prop} (e : Same Hd Hd') (h : PostA K F P σ Hd' Q v H) : PostA K F P σ Hd Q v H := by
  obtain ⟨Hd2, R2, svs, e2, w, q⟩ := h
  exact ⟨Hd2, R2, svs, e.trans e2, w, q⟩

/-! names, constants -/
theorem we_d {x : Str} {i : Nat} {dx : D} (hN : X.N[i]? = some x) (hv : Vis X.env.scope x) (hR : R[i]? = some (.d dx)) (q : Q (.d dx) R)
    (hd : (x == ("__debug__" : Str)) = false := by decide) (hcd : (x == ("__classdict__" : Str)) = false := by decide) : WE X P (.Name x pos) R Q :=
  .of (pe_var hN hv hd hcd) fun F σ Hd H w => by
    obtain ⟨v, e1, e2⟩ := w.val i dx hR
    exact ⟨v, e1, .here w (show Rp _ _ _ _ _ _ (.d dx) v from e2) q⟩
theorem we_o {x : Str} {i : Nat} {m : MC} (hN : X.N[i]? = some x) (hv : Vis X.env.scope x) (hR : R[i]? = some (.own m)) (q : Q (.loc i) R)
    (hd : (x == ("__debug__" : Str)) = false := by decide) (hcd : (x == ("__classdict__" : Str)) = false := by decide) : WE X P (.Name x pos) R Q :=
  .of (pe_var hN hv hd hcd) fun F σ Hd H w => by
    obtain ⟨a, o, e1, _⟩ := w.own i m hR
    exact ⟨_, e1, .here w (show Rp _ _ _ _ _ _ (.loc i) _ from ⟨e1, m, hR⟩) q⟩
theorem we_int {i : Int} {j : _} (q : Q (.d (.int i)) R) : WE X P (.Constant (.int i) j pos) R Q := .of pe_int fun F σ Hd H w => .here w (show Rp _ _ _ _ _ _ (.d (.int i)) _ from .int i) q
theorem we_bl {i : Bool} {j : _} (q : Q (.d (.bool i)) R) : WE X P (.Constant (.bool i) j pos) R Q := .of pe_bl fun F σ Hd H w => .here w (show Rp _ _ _ _ _ _ (.d (.bool i)) _ from .bl i) q
theorem we_non {j : _} (q : Q (.d .none) R) : WE X P (.Constant .none j pos) R Q := .of pe_non fun F σ Hd H w => .here w (show Rp _ _ _ _ _ _ (.d .none) _ from .non) q
theorem we_str {i : Str} {j : _} (q : Q (.d (.str i)) R) : WE X P (.Constant (.str i) j pos) R Q := .of pe_str fun F σ Hd H w => .here w (show Rp _ _ _ _ _ _ (.d (.str i)) _ from .str i) q
theorem we_globI {x : Str} {i : Int} {t : Tok} (hm : X.mg x = some (.int i t)) (hg : Gl X x) (q : Q (.d (.int i)) R) (hd : (x == ("__debug__" : Str)) = false := by decide) : WE X P (.Name x pos) R Q :=
  .of (pe_glob (v := .int i) hg hm ⟨t, rfl⟩ hd) fun F σ Hd H w => .here w (show Rp _ _ _ _ _ _ (.d (.int i)) _ from .int i) q

/-! two ints -/
def Fits (X : Cx) (P : List Nat) (R : DS) (t : TE) (Q : SV → DS → Prop) : Prop := ∀ F σ Hd H, Wd X.K F P R σ Hd H → ∀ Z : VK, (∀ v H', Post X.K F P σ Hd Q v H' → Z v H') → t σ H Z
theorem WE.fit {t : TE} (pe : PE X e t) (f : Fits X P R t Q) : WE X P e R Q := .of pe fun F σ Hd H w => f F σ Hd H w _ fun _ _ h => h
theorem WT.fit {t : TE} {Q : Bool → DS → Prop} (pt : PT X e (fun σ H Q => t σ H fun x H' => ∃ k, x = .bl k ∧ Q k H')) (f : Fits X P R t fun x R1 => asB x fun c => Q c R1) : WT X P e R Q :=
  .of pt fun F σ Hd H w => f F σ Hd H w _ fun v H' h => by
    obtain ⟨Hd', R', sv, e1, w1, r1, q1⟩ := h
    obtain ⟨c, rfl, h1⟩ := q1.elim
    cases (show Dq _ _ v (.bool c) from r1)
    exact ⟨c, rfl, Hd', R', e1, w1, h1⟩
theorem twoI {r : R2} {C : Int → Int → Prop} {g : Int → Int → D} {gv : Int → Int → V} (hg : ∀ i j K H, Dq K H (gv i j) (g i j))
    (hr : ∀ i j H (Z : VK), C i j → Z (gv i j) H → r (.int i) (.int j) H Z)
    (h : WE X P a R fun x R1 => asI x fun i => WE X P b R1 fun y R2 => asI y fun j => C i j ∧ Q (.d (g i j)) R2) : Fits X P R (tOp r (TEm X a) (TEm X b)) Q :=
  fun F σ Hd H w Z hZ => h.use w fun Hd1 R1 x v H1 e1 w1 r1 q1 => by
    obtain ⟨i, rfl, q1⟩ := q1.elim
    cases (show Dq _ _ v (.int i) from r1)
    exact q1.use w1 fun Hd2 R2 y u H2 e2 w2 r2 q2 => by
      obtain ⟨j, rfl, c, q2⟩ := q2.elim
      cases (show Dq _ _ u (.int j) from r2)
      exact hr i j H2 _ c (hZ _ _ (.same (e1.trans e2) (.here w2 (show Rp _ _ _ _ _ _ (.d (g i j)) _ from hg i j _ _) q2)))
theorem we_add (h : WE X P a R fun x R1 => asI x fun i => WE X P b R1 fun y R2 => asI y fun j => True ∧ Q (.d (.int (i + j))) R2) : WE X P (.BinOp a .Add b pos) R Q :=
  .fit (pe_op op_add pe_m pe_m) (twoI (g := fun i j => .int (i + j)) (C := fun _ _ => True) (fun i j K H => .int _) (fun i j H Z _ q => ⟨i, j, rfl, rfl, q⟩) h)
theorem we_sub (h : WE X P a R fun x R1 => asI x fun i => WE X P b R1 fun y R2 => asI y fun j => True ∧ Q (.d (.int (i - j))) R2) : WE X P (.BinOp a .Sub b pos) R Q :=
  .fit (pe_op op_sub pe_m pe_m) (twoI (g := fun i j => .int (i - j)) (C := fun _ _ => True) (fun i j K H => .int _) (fun i j H Z _ q => ⟨i, j, rfl, rfl, q⟩) h)
theorem we_mul (h : WE X P a R fun x R1 => asI x fun i => WE X P b R1 fun y R2 => asI y fun j => CMul i j ∧ Q (.d (.int (i * j))) R2) : WE X P (.BinOp a .Mult b pos) R Q :=
  .fit (pe_op op_mul pe_m pe_m) (twoI (g := fun i j => .int (i * j)) (C := CMul) (fun i j K H => .int _) (fun i j H Z c q => ⟨i, j, rfl, rfl, c, q⟩) h)
theorem we_div (h : WE X P a R fun x R1 => asI x fun i => WE X P b R1 fun y R2 => asI y fun j => CDiv i j ∧ Q (.d (.int (i / j))) R2) : WE X P (.BinOp a .FloorDiv b pos) R Q :=
  .fit (pe_op op_fdiv pe_m pe_m) (twoI (g := fun i j => .int (i / j)) (C := CDiv) (fun i j K H => .int _) (fun i j H Z c q => ⟨i, j, rfl, rfl, c, q⟩) h)
theorem we_mod (h : WE X P a R fun x R1 => asI x fun i => WE X P b R1 fun y R2 => asI y fun j => 0 < j ∧ Q (.d (.int (i % j))) R2) : WE X P (.BinOp a .Mod b pos) R Q :=
  .fit (pe_op op_mod pe_m pe_m) (twoI (g := fun i j => .int (i % j)) (C := fun _ j => 0 < j) (fun i j K H => .int _) (fun i j H Z c q => ⟨i, j, rfl, rfl, c, q⟩) h)
theorem we_pow (h : WE X P a R fun x R1 => asI x fun i => WE X P b R1 fun y R2 => asI y fun j => CPow i j ∧ Q (.d (.int (i ^ j.toNat))) R2) : WE X P (.BinOp a .Pow b pos) R Q :=
  .fit (pe_op op_pow pe_m pe_m) (twoI (g := fun i j => .int (i ^ j.toNat)) (C := CPow) (fun i j K H => .int _) (fun i j H Z c q => ⟨i, j, rfl, rfl, c, q⟩) h)
theorem we_neg (h : WE X P a R fun x R1 => asI x fun i => Q (.d (.int (-i))) R1) : WE X P (.UnaryOp .USub a pos) R Q :=
  .of (pe_un un_neg pe_m) fun F σ Hd H w => h.use w fun Hd1 R1 x v H1 e1 w1 r1 q1 => by
    obtain ⟨i, rfl, q1⟩ := q1.elim
    cases (show Dq _ _ v (.int i) from r1)
    exact ⟨i, rfl, .same e1 (.here w1 (show Rp _ _ _ _ _ _ (.d (.int (-i))) _ from .int _) q1)⟩
theorem we_lt (h : WE X P a R fun x R1 => asI x fun i => WE X P b R1 fun y R2 => asI y fun j => True ∧ Q (.d (.bool (decide (i < j)))) R2) : WE X P (.Compare a [.Lt] [b] pos) R Q :=
  .fit (pe_cmpR op_lt pe_m pe_m (nomark _)) (twoI (g := fun i j => .bool (decide (i < j))) (C := fun _ _ => True) (fun i j K H => .bl _) (fun i j H Z _ q => ⟨i, j, rfl, rfl, q⟩) h)
theorem wt_lt {Q : Bool → DS → Prop} (h : WE X P a R fun x R1 => asI x fun i => WE X P b R1 fun y R2 => asI y fun j => True ∧ Q (decide (i < j)) R2) : WT X P (.Compare a [.Lt] [b] pos) R Q :=
  .fit (pt_cmpR op_lt pe_m pe_m (nomark _)) (twoI (Q := fun x R1 => asB x fun c => Q c R1) (g := fun i j => .bool (decide (i < j))) (C := fun _ _ => True) (fun i j K H => .bl _) (fun i j H Z _ q => ⟨i, j, rfl, rfl, q⟩) h)
theorem we_le (h : WE X P a R fun x R1 => asI x fun i => WE X P b R1 fun y R2 => asI y fun j => True ∧ Q (.d (.bool (decide (i ≤ j)))) R2) : WE X P (.Compare a [.LtE] [b] pos) R Q :=
  .fit (pe_cmpR op_le pe_m pe_m (nomark _)) (twoI (g := fun i j => .bool (decide (i ≤ j))) (C := fun _ _ => True) (fun i j K H => .bl _) (fun i j H Z _ q => ⟨i, j, rfl, rfl, q⟩) h)
theorem wt_le {Q : Bool → DS → Prop} (h : WE X P a R fun x R1 => asI x fun i => WE X P b R1 fun y R2 => asI y fun j => True ∧ Q (decide (i ≤ j)) R2) : WT X P (.Compare a [.LtE] [b] pos) R Q :=
  .fit (pt_cmpR op_le pe_m pe_m (nomark _)) (twoI (Q := fun x R1 => asB x fun c => Q c R1) (g := fun i j => .bool (decide (i ≤ j))) (C := fun _ _ => True) (fun i j K H => .bl _) (fun i j H Z _ q => ⟨i, j, rfl, rfl, q⟩) h)
theorem we_gt (h : WE X P a R fun x R1 => asI x fun i => WE X P b R1 fun y R2 => asI y fun j => True ∧ Q (.d (.bool (decide (j < i)))) R2) : WE X P (.Compare a [.Gt] [b] pos) R Q :=
  .fit (pe_cmpR op_gt pe_m pe_m (nomark _)) (twoI (g := fun i j => .bool (decide (j < i))) (C := fun _ _ => True) (fun i j K H => .bl _) (fun i j H Z _ q => ⟨i, j, rfl, rfl, q⟩) h)
theorem wt_gt {Q : Bool → DS → Prop} (h : WE X P a R fun x R1 => asI x fun i => WE X P b R1 fun y R2 => asI y fun j => True ∧ Q (decide (j < i)) R2) : WT X P (.Compare a [.Gt] [b] pos) R Q :=
  .fit (pt_cmpR op_gt pe_m pe_m (nomark _)) (twoI (Q := fun x R1 => asB x fun c => Q c R1) (g := fun i j => .bool (decide (j < i))) (C := fun _ _ => True) (fun i j K H => .bl _) (fun i j H Z _ q => ⟨i, j, rfl, rfl, q⟩) h)
theorem we_ge (h : WE X P a R fun x R1 => asI x fun i => WE X P b R1 fun y R2 => asI y fun j => True ∧ Q (.d (.bool (decide (j ≤ i)))) R2) : WE X P (.Compare a [.GtE] [b] pos) R Q :=
  .fit (pe_cmpR op_ge pe_m pe_m (nomark _)) (twoI (g := fun i j => .bool (decide (j ≤ i))) (C := fun _ _ => True) (fun i j K H => .bl _) (fun i j H Z _ q => ⟨i, j, rfl, rfl, q⟩) h)
theorem wt_ge {Q : Bool → DS → Prop} (h : WE X P a R fun x R1 => asI x fun i => WE X P b R1 fun y R2 => asI y fun j => True ∧ Q (decide (j ≤ i)) R2) : WT X P (.Compare a [.GtE] [b] pos) R Q :=
  .fit (pt_cmpR op_ge pe_m pe_m (nomark _)) (twoI (Q := fun x R1 => asB x fun c => Q c R1) (g := fun i j => .bool (decide (j ≤ i))) (C := fun _ _ => True) (fun i j K H => .bl _) (fun i j H Z _ q => ⟨i, j, rfl, rfl, q⟩) h)

/-! two things -/
theorem two {r : R2} {G : SV → SV → DS → Prop}
    (h : WE X P a R fun x R1 => stb x fun x => WE X P b R1 fun y R2 => (∃ d, vD R2 x = some d) ∧ G x y R2)
    (hr : ∀ F σ Hd H x y R2 v u (Z : VK), Wd X.K F P R2 σ Hd H → Rp X.K F R2 σ Hd H x v → Rp X.K F R2 σ Hd H y u → G x y R2 → (∀ v H', Post X.K F P σ Hd Q v H' → Z v H') → r v u H Z) : Fits X P R (tOp r (TEm X a) (TEm X b)) Q :=
  fun F σ Hd H w Z hZ => h.stb.use w fun Hd1 R1 x v H1 e1 w1 r1 q1 => q1.2.use w1 fun Hd2 R2 y u H2 e2 w2 r2 q2 => by
    obtain ⟨⟨d, hd⟩, g⟩ := q2
    exact hr F σ Hd2 H2 x y R2 v u _ w2 (Rp.on q1.1 r1 e2 hd) r2 g fun v H' h => hZ v H' (h.same (e1.trans e2))
/-- == , != of data -/
structure gEq (R2 : DS) (x y : SV) (k : Bool → Prop) : Prop where
  ex : ∃ d d', vD R2 x = some d ∧ vD R2 y = some d' ∧ SeqAt.shaped d = true ∧ SeqAt.shaped d' = true ∧ k (PyData.eqv d d')
theorem fit_eq (h : WE X P a R fun x R1 => stb x fun x => WE X P b R1 fun y R2 => (∃ d, vD R2 x = some d) ∧ gEq R2 x y fun c => Q (.d (.bool c)) R2) : Fits X P R (tOp (rEqD X.K) (TEm X a) (TEm X b)) Q :=
  two h fun F σ Hd H x y R2 v u Z w r1 r2 g k => by
    obtain ⟨d, d', h1, h2, s1, s2, q⟩ := g
    exact ⟨d, d', (Rp.dat w r1 h1).dp (nd_of s1), (Rp.dat w r2 h2).dp (nd_of s2), s1, s2, k _ _ (.here w (show Rp _ _ _ _ _ _ (.d (.bool _)) _ from .bl _) q)⟩
theorem fit_ne (h : WE X P a R fun x R1 => stb x fun x => WE X P b R1 fun y R2 => (∃ d, vD R2 x = some d) ∧ gEq R2 x y fun c => Q (.d (.bool (!c))) R2) : Fits X P R (tOp (rNeD X.K) (TEm X a) (TEm X b)) Q :=
  two h fun F σ Hd H x y R2 v u Z w r1 r2 g k => by
    obtain ⟨d, d', h1, h2, s1, s2, q⟩ := g
    exact ⟨d, d', (Rp.dat w r1 h1).dp (nd_of s1), (Rp.dat w r2 h2).dp (nd_of s2), s1, s2, k _ _ (.here w (show Rp _ _ _ _ _ _ (.d (.bool _)) _ from .bl _) q)⟩
theorem we_eq (hu : X.A.units + 64 < cLine) (h : WE X P a R fun x R1 => stb x fun x => WE X P b R1 fun y R2 => (∃ d, vD R2 x = some d) ∧ gEq R2 x y fun c => Q (.d (.bool c)) R2) : WE X P (.Compare a [.Eq] [b] pos) R Q :=
  .fit (pe_cmpR (op_eqD hu) pe_m pe_m (nomark _)) (fit_eq h)
theorem wt_eq {Q : Bool → DS → Prop} (hu : X.A.units + 64 < cLine) (h : WE X P a R fun x R1 => stb x fun x => WE X P b R1 fun y R2 => (∃ d, vD R2 x = some d) ∧ gEq R2 x y fun c => Q c R2) : WT X P (.Compare a [.Eq] [b] pos) R Q :=
  .fit (pt_cmpR (op_eqD hu) pe_m pe_m (nomark _)) (fit_eq (Q := fun x R1 => asB x fun c => Q c R1) h)
theorem we_ne (hu : X.A.units + 64 < cLine) (h : WE X P a R fun x R1 => stb x fun x => WE X P b R1 fun y R2 => (∃ d, vD R2 x = some d) ∧ gEq R2 x y fun c => Q (.d (.bool (!c))) R2) : WE X P (.Compare a [.NotEq] [b] pos) R Q :=
  .fit (pe_cmpR (op_neD hu) pe_m pe_m (nomark _)) (fit_ne h)
theorem wt_ne {Q : Bool → DS → Prop} (hu : X.A.units + 64 < cLine) (h : WE X P a R fun x R1 => stb x fun x => WE X P b R1 fun y R2 => (∃ d, vD R2 x = some d) ∧ gEq R2 x y fun c => Q (!c) R2) : WT X P (.Compare a [.NotEq] [b] pos) R Q :=
  .fit (pt_cmpR (op_neD hu) pe_m pe_m (nomark _)) (fit_ne (Q := fun x R1 => asB x fun c => Q c R1) h)
theorem eqV_int (i j : Int) : eqV (.int i) (.int j) = decide (i = j) := rfl
theorem inV_ints (i : Int) : ∀ ns : List Int, inV (.int i) (ns.map V.int) = decide (i ∈ ns)
  | [] => rfl
  | n :: r => by
    have h := inV_ints i r
    unfold inV at h ⊢
    rw [List.map_cons, List.any_cons, h, eqV_int]
    by_cases e : n = i
    · simp [e]
    · have e' : ¬ i = n := fun z => e z.symm
      simp [e, e']
theorem flat_ints : ∀ ns : List Int, (ns.map V.int).all flatV = true
  | [] => rfl
  | n :: r => by
    rw [List.map_cons, List.all_cons, flat_ints r]
    rfl
/-- in, not in: ints in a list of ints -/
structure gIn (R2 : DS) (x y : SV) (k : Bool → Prop) : Prop where
  ex : ∃ (i : Int) (ns : List Int), x = .d (.int i) ∧ vL R2 y = some (ns.map PyData.int) ∧ k (decide (i ∈ ns))
theorem fit_in (h : WE X P a R fun x R1 => stb x fun x => WE X P b R1 fun y R2 => (∃ d, vD R2 x = some d) ∧ gIn R2 x y fun c => Q (.d (.bool c)) R2) : Fits X P R (tOp (rIn X.K false) (TEm X a) (TEm X b)) Q :=
  two h fun F σ Hd H x y R2 v u Z w r1 r2 g k => by
    obtain ⟨i, ns, rfl, h1, q⟩ := g
    obtain ⟨p, vs, rfl, hl, hv⟩ := Rp.list w r2 h1
    cases dpAllInts hv
    cases (show Dq _ _ v (.int i) from r1)
    exact ⟨p, _, rfl, .inl hl, rfl, flat_ints ns, k _ _ (.here w (show Rp _ _ _ _ _ _ (.d (.bool (decide (i ∈ ns)))) _ from (by
      show Dq X.K Hd (.bl (inV (.int i) (ns.map V.int))) _
      rw [inV_ints]
      exact .bl _)) q)⟩
theorem fit_notIn (h : WE X P a R fun x R1 => stb x fun x => WE X P b R1 fun y R2 => (∃ d, vD R2 x = some d) ∧ gIn R2 x y fun c => Q (.d (.bool (!c))) R2) : Fits X P R (tOp (rIn X.K true) (TEm X a) (TEm X b)) Q :=
  two h fun F σ Hd H x y R2 v u Z w r1 r2 g k => by
    obtain ⟨i, ns, rfl, h1, q⟩ := g
    obtain ⟨p, vs, rfl, hl, hv⟩ := Rp.list w r2 h1
    cases dpAllInts hv
    cases (show Dq _ _ v (.int i) from r1)
    exact ⟨p, _, rfl, .inl hl, rfl, flat_ints ns, k _ _ (.here w (show Rp _ _ _ _ _ _ (.d (.bool (!decide (i ∈ ns)))) _ from (by
      show Dq X.K Hd (.bl (!inV (.int i) (ns.map V.int))) _
      rw [inV_ints]
      exact .bl _)) q)⟩
theorem we_in (hm : behindInMarks .In b = false) (h : WE X P a R fun x R1 => stb x fun x => WE X P b R1 fun y R2 => (∃ d, vD R2 x = some d) ∧ gIn R2 x y fun c => Q (.d (.bool c)) R2) : WE X P (.Compare a [.In] [b] pos) R Q :=
  .fit (pe_cmpR op_in_seq pe_m pe_m hm) (fit_in h)
theorem wt_in {Q : Bool → DS → Prop} (hm : behindInMarks .In b = false) (h : WE X P a R fun x R1 => stb x fun x => WE X P b R1 fun y R2 => (∃ d, vD R2 x = some d) ∧ gIn R2 x y fun c => Q c R2) : WT X P (.Compare a [.In] [b] pos) R Q :=
  .fit (pt_cmpR op_in_seq pe_m pe_m hm) (fit_in (Q := fun x R1 => asB x fun c => Q c R1) h)
theorem we_notIn (hm : behindInMarks .NotIn b = false) (h : WE X P a R fun x R1 => stb x fun x => WE X P b R1 fun y R2 => (∃ d, vD R2 x = some d) ∧ gIn R2 x y fun c => Q (.d (.bool (!c))) R2) : WE X P (.Compare a [.NotIn] [b] pos) R Q :=
  .fit (pe_cmpR op_notIn_seq pe_m pe_m hm) (fit_notIn h)
theorem wt_notIn {Q : Bool → DS → Prop} (hm : behindInMarks .NotIn b = false) (h : WE X P a R fun x R1 => stb x fun x => WE X P b R1 fun y R2 => (∃ d, vD R2 x = some d) ∧ gIn R2 x y fun c => Q (!c) R2) : WT X P (.Compare a [.NotIn] [b] pos) R Q :=
  .fit (pt_cmpR op_notIn_seq pe_m pe_m hm) (fit_notIn (Q := fun x R1 => asB x fun c => Q c R1) h)

/-! dicts that a name holds -/
def hasK {κ β : Type} [DecidableEq κ] (kvs : List (κ × β)) (k : κ) : Bool := kvs.any fun kv => decide (kv.1 = k)
theorem hasK_of {κ : Type} [DecidableEq κ] {G : (κ × D) → (κ × V) → Prop} (hG : ∀ p q, G p q → p.1 = q.1) (k : κ) : ∀ {kvs : List (κ × D)} {ws : List (κ × V)}, Paired G kvs ws → (valV ws k).isSome = hasK kvs k
  | _, _, .nil => rfl
  | _, _, .cons (a := p) (b := q) h t => by
    have ih := hasK_of hG k t
    rw [← valV_any] at ih ⊢
    unfold hasK at ih ⊢
    rw [List.any_cons, List.any_cons, ih, hG p q h]
/-- a key in a dict that a name holds: int keys -/
structure gInD (R2 : DS) (x y : SV) (k : Bool → Prop) : Prop where
  ex : ∃ (i : Int) (j : Nat) (kvs : List (Key × D)), x = .d (.int i) ∧ y = .loc j ∧ R2[j]? = some (.own (.dK kvs)) ∧ k (hasK kvs (Sum.inl i))
theorem fit_inD (h : WE X P a R fun x R1 => stb x fun x => WE X P b R1 fun y R2 => gInD R2 x y fun c => Q (.d (.bool c)) R2) : Fits X P R (tDIn (TEm X a) (TEm X b)) Q :=
  fun F σ Hd H w Z hZ => h.stb.use w fun Hd1 R1 x v H1 e1 w1 r1 q1 => q1.2.use w1 fun Hd2 R2 y u H2 e2 w2 r2 q2 => by
    obtain ⟨i, j, kvs, rfl, rfl, hR, q⟩ := q2
    cases (show Dq _ _ v (.int i) from r1)
    obtain ⟨p, o, s1, hp, ⟨ws, ho, hc⟩, _⟩ := w2.own j _ hR
    subst ho
    have s2 := r2.1
    rw [s1] at s2
    cases s2
    refine ⟨p, _, rfl, DGet.k (k := Sum.inl i) hp, hZ _ _ (.same (e1.trans e2) (.here w2 (sv := .d (.bool (hasK kvs (Sum.inl i)))) ?_ q))⟩
    rw [hasK_of (fun _ _ h => h.1) _ hc]
    exact .bl _
theorem fit_notInD (h : WE X P a R fun x R1 => stb x fun x => WE X P b R1 fun y R2 => gInD R2 x y fun c => Q (.d (.bool (!c))) R2) : Fits X P R (tDNotIn (TEm X a) (TEm X b)) Q :=
  fun F σ Hd H w Z hZ => h.stb.use w fun Hd1 R1 x v H1 e1 w1 r1 q1 => q1.2.use w1 fun Hd2 R2 y u H2 e2 w2 r2 q2 => by
    obtain ⟨i, j, kvs, rfl, rfl, hR, q⟩ := q2
    cases (show Dq _ _ v (.int i) from r1)
    obtain ⟨p, o, s1, hp, ⟨ws, ho, hc⟩, _⟩ := w2.own j _ hR
    subst ho
    have s2 := r2.1
    rw [s1] at s2
    cases s2
    refine ⟨p, _, rfl, DGet.k (k := Sum.inl i) hp, hZ _ _ (.same (e1.trans e2) (.here w2 (sv := .d (.bool (!hasK kvs (Sum.inl i)))) ?_ q))⟩
    rw [hasK_of (fun _ _ h => h.1) _ hc]
    exact .bl _
theorem we_inD (hu : X.A.units + 1 < cLine) (hm : behindInMarks .In b = false) (h : WE X P a R fun x R1 => stb x fun x => WE X P b R1 fun y R2 => gInD R2 x y fun c => Q (.d (.bool c)) R2) : WE X P (.Compare a [.In] [b] pos) R Q :=
  .fit (pe_cmp (pc_din hu pe_m pe_m) hm) (fit_inD h)
theorem wt_inD {Q : Bool → DS → Prop} (hu : X.A.units + 1 < cLine) (hm : behindInMarks .In b = false) (h : WE X P a R fun x R1 => stb x fun x => WE X P b R1 fun y R2 => gInD R2 x y fun c => Q c R2) : WT X P (.Compare a [.In] [b] pos) R Q :=
  .fit (pt_cmp (pc_din hu pe_m pe_m) hm) (fit_inD (Q := fun x R1 => asB x fun c => Q c R1) h)
theorem we_notInD (hu : X.A.units + 1 < cLine) (hm : behindInMarks .NotIn b = false) (h : WE X P a R fun x R1 => stb x fun x => WE X P b R1 fun y R2 => gInD R2 x y fun c => Q (.d (.bool (!c))) R2) : WE X P (.Compare a [.NotIn] [b] pos) R Q :=
  .fit (pe_cmp (pc_dnotin hu pe_m pe_m) hm) (fit_notInD h)
theorem wt_notInD {Q : Bool → DS → Prop} (hu : X.A.units + 1 < cLine) (hm : behindInMarks .NotIn b = false) (h : WE X P a R fun x R1 => stb x fun x => WE X P b R1 fun y R2 => gInD R2 x y fun c => Q (!c) R2) : WT X P (.Compare a [.NotIn] [b] pos) R Q :=
  .fit (pt_cmp (pc_dnotin hu pe_m pe_m) hm) (fit_notInD (Q := fun x R1 => asB x fun c => Q c R1) h)

/-! and, or, not: truths -/
theorem we_one {op : _} (h : WE X P a R Q) : WE X P (.BoolOp op [a] pos) R Q := .of (pe_one pe_m) fun F σ Hd H w => h.run F σ Hd H w
theorem we_and {rest : List Expr} (h : WE X P a R fun x R1 => asB x fun c => (c = true → WE X P (.BoolOp .And (b :: rest) pos) R1 Q) ∧ (c = false → Q (.d (.bool false)) R1)) : WE X P (.BoolOp .And (a :: b :: rest) pos) R Q :=
  .of (pe_and pe_m pe_m) fun F σ Hd H w => h.use w fun Hd1 R1 x v H1 e1 w1 r1 q1 => by
    obtain ⟨c, rfl, h1, h2⟩ := q1.elim
    cases (show Dq _ _ v (.bool c) from r1)
    refine ⟨c, rfl, ?_⟩
    cases c with
    | true => exact iteT ((h1 rfl).use w1 fun Hd2 R2 y u H2 e2 w2 r2 q2 => .same (e1.trans e2) (.here w2 r2 q2))
    | false => exact iteF (.same e1 (.here w1 (show Rp _ _ _ _ _ _ (.d (.bool false)) _ from .bl _) (h2 rfl)))
theorem we_or {rest : List Expr} (h : WE X P a R fun x R1 => asB x fun c => (c = false → WE X P (.BoolOp .Or (b :: rest) pos) R1 Q) ∧ (c = true → Q (.d (.bool true)) R1)) : WE X P (.BoolOp .Or (a :: b :: rest) pos) R Q :=
  .of (pe_or pe_m pe_m) fun F σ Hd H w => h.use w fun Hd1 R1 x v H1 e1 w1 r1 q1 => by
    obtain ⟨c, rfl, h1, h2⟩ := q1.elim
    cases (show Dq _ _ v (.bool c) from r1)
    refine ⟨c, rfl, ?_⟩
    cases c with
    | false => exact iteF ((h1 rfl).use w1 fun Hd2 R2 y u H2 e2 w2 r2 q2 => .same (e1.trans e2) (.here w2 r2 q2))
    | true => exact iteT (.same e1 (.here w1 (show Rp _ _ _ _ _ _ (.d (.bool true)) _ from .bl _) (h2 rfl)))
theorem we_not (h : WE X P a R fun x R1 => asB x fun c => Q (.d (.bool (!c))) R1) : WE X P (.UnaryOp .Not a pos) R Q :=
  .of (pe_not pe_m) fun F σ Hd H w => h.use w fun Hd1 R1 x v H1 e1 w1 r1 q1 => by
    obtain ⟨c, rfl, h1⟩ := q1.elim
    cases (show Dq _ _ v (.bool c) from r1)
    exact ⟨c, rfl, .same e1 (.here w1 (show Rp _ _ _ _ _ _ (.d (.bool (!c))) _ from .bl _) h1)⟩
/-! tests -/
theorem wt_val {Q : Bool → DS → Prop} (h : WE X P e R fun x R1 => asB x fun c => Q c R1) (he : ∀ whole, isTrue e X.env whole = (do let v ← whole; standAt e.pos; holding [v] (truthy v)) := by intro _; rfl) : WT X P e R Q :=
  .of (pt_val pe_m he) fun F σ Hd H w => h.use w fun Hd1 R1 x v H1 e1 w1 r1 q1 => by
    obtain ⟨c, rfl, h1⟩ := q1.elim
    cases (show Dq _ _ v (.bool c) from r1)
    exact ⟨c, rfl, Hd1, R1, e1, w1, h1⟩
theorem wt_w {Q : Bool → DS → Prop} (h : WW X P e R Q) : WT X P e R Q := .of (PW.pt pw_m) fun F σ Hd H w => h.run F σ Hd H w
theorem ww_and1 {Q : Bool → DS → Prop} (h : WT X P a R Q) : WW X P (.BoolOp .And [a] pos) R Q := .of (pw_and1 pt_m) fun F σ Hd H w => h.run F σ Hd H w
theorem ww_or1 {Q : Bool → DS → Prop} (h : WT X P a R Q) : WW X P (.BoolOp .Or [a] pos) R Q := .of (pw_or1 pt_m) fun F σ Hd H w => h.run F σ Hd H w
theorem ww_and {rest : List Expr} {Q : Bool → DS → Prop} (h : WT X P a R fun c R1 => (c = true → WW X P (.BoolOp .And (b :: rest) pos) R1 Q) ∧ (c = false → Q false R1)) : WW X P (.BoolOp .And (a :: b :: rest) pos) R Q :=
  .of (pw_and pt_m pw_m) fun F σ Hd H w => h.use w fun Hd1 R1 c H1 e1 w1 q1 => by
    cases c with
    | true => exact iteT ((q1.1 rfl).use w1 fun Hd2 R2 b H2 e2 w2 q2 => ⟨Hd2, R2, e1.trans e2, w2, q2⟩)
    | false => exact iteF ⟨Hd1, R1, e1, w1, q1.2 rfl⟩
theorem ww_or {rest : List Expr} {Q : Bool → DS → Prop} (h : WT X P a R fun c R1 => (c = false → WW X P (.BoolOp .Or (b :: rest) pos) R1 Q) ∧ (c = true → Q true R1)) : WW X P (.BoolOp .Or (a :: b :: rest) pos) R Q :=
  .of (pw_or pt_m pw_m) fun F σ Hd H w => h.use w fun Hd1 R1 c H1 e1 w1 q1 => by
    cases c with
    | false => exact iteF ((q1.1 rfl).use w1 fun Hd2 R2 b H2 e2 w2 q2 => ⟨Hd2, R2, e1.trans e2, w2, q2⟩)
    | true => exact iteT ⟨Hd1, R1, e1, w1, q1.2 rfl⟩
theorem wt_not {Q : Bool → DS → Prop} (h : WT X P a R fun c R1 => Q (!c) R1) : WT X P (.UnaryOp .Not a pos) R Q :=
  .of (pt_not pt_m) fun F σ Hd H w => h.use w fun Hd1 R1 c H1 e1 w1 q1 => ⟨Hd1, R1, e1, w1, q1⟩
end
end Dl
namespace Dl
open PySem PySem.Spec PyProof.Rows L2
/-! displays -/
def PostDs (K : PySem.W.Frag) (F : Fr) (P : List Nat) (σ : L2.St) (Hd : Hp) (Q : List D → DS → Prop) : List V → Hp → Prop := fun vs H' =>
  ∃ Hd' R' ds, Same Hd Hd' ∧ Wd K F P R' σ Hd' H' ∧ DqAll K Hd' vs ds ∧ Q ds R'
structure WDs (X : Cx) (P : List Nat) (es : List Expr) (R : DS) (Q : List D → DS → Prop) : Prop where
  run : ∀ F σ Hd H, Wd X.K F P R σ Hd H → TAm X es σ H (PostDs X.K F P σ Hd Q)
section
variable {X : Cx} {P : List Nat} {R : DS} {a b c e : Expr} {es : List Expr} {pos : Pos} {Q : SV → DS → Prop}
theorem WDs.use {Q : List D → DS → Prop} (h : WDs X P es R Q) {F : Fr} {σ : L2.St} {Hd H : Hp} (w : Wd X.K F P R σ Hd H) {Z : List V → Hp → Prop}
    (k : ∀ Hd' R' ds vs H', Same Hd Hd' → Wd X.K F P R' σ Hd' H' → DqAll X.K Hd' vs ds → Q ds R' → Z vs H') : TAm X es σ H Z :=
  (h.run F σ Hd H w).mono fun v H' ⟨Hd', R', ds, e1, w1, r1, q1⟩ => k Hd' R' ds v H' e1 w1 r1 q1
theorem wds_nil {Q : List D → DS → Prop} (q : Q [] R) : WDs X P [] R Q := ⟨fun F σ Hd H w => TAm.of pa_nil ⟨Hd, R, [], Same.refl _, w, .nil, q⟩⟩
theorem wds_cons {Q : List D → DS → Prop} (h : WE X P a R fun sv R1 => asD sv fun x => WDs X P es R1 fun ds R2 => Q (x :: ds) R2)
    (hs : starEach (a :: es) X.env = (false, eval a X.env) :: starEach es X.env := by rfl) : WDs X P (a :: es) R Q :=
  ⟨fun F σ Hd H w => TAm.of (pa_cons pe_m pa_m hs) (h.fzD.use w fun Hd1 R1 sv v H1 e1 w1 r1 q1 => by
    obtain ⟨x, rfl, q1⟩ := q1
    exact q1.use w1 fun Hd2 R2 ds vs H2 e2 w2 r2 q2 => ⟨Hd2, R2, x :: ds, e1.trans e2, w2, .cons (dpMono e2 r1) r2, q2⟩)⟩
theorem we_tup {x1 : _} (h : WDs X P es R fun ds R1 => ds.length ≤ sizeLine ∧ Q (.d (.tuple ds)) R1) : WE X P (.Tuple es x1 pos) R Q :=
  .of (pe_tup pa_m) fun F σ Hd H w => h.use w fun Hd1 R1 ds vs H1 e1 w1 r1 q1 => ⟨by rw [dpAllLen r1]; exact q1.1, fun p hp => by
    obtain ⟨w2, s2⟩ := w1.allocD (o := .tup vs) hp
    exact .same (e1.trans s2) (.here w2 (show Rp _ _ _ _ _ _ (.d (.tuple ds)) _ from Dq.tup (upd_same) (dpAllMono s2 r1)) q1.2)⟩
theorem ownNew {K : PySem.W.Frag} {F : Fr} {R : DS} {σ : L2.St} {Hd H : Hp} {m : MC} {o : HO} {p : Addr} (w : Wd K F P R σ Hd H) (hp : H p = none) (hc : CRp K Hd m o) : Rp K F R σ Hd (upd H p o) (.own m) (.ref p) :=
  ⟨p, o, rfl, upd_same, hc, sameNone w.dat hp, sameNone w.frm hp, fun i n hi z => by
    obtain ⟨a, u, s1, ha, _⟩ := w.own i n hi
    rw [z] at s1
    cases s1
    rw [hp] at ha
    cases ha⟩
theorem crL {K : PySem.W.Frag} {Hd : Hp} {vs : List V} {ds : List D} (h : DqAll K Hd vs ds) : CRp K Hd (.lst ds) (.lst vs) := ⟨vs, rfl, h⟩
theorem crK0 {K : PySem.W.Frag} {Hd : Hp} : CRp K Hd (.dK []) (.dK []) := ⟨[], rfl, .nil⟩
theorem crT0 {K : PySem.W.Frag} {Hd : Hp} : CRp K Hd (.dT []) (.dT []) := ⟨[], rfl, .nil⟩
theorem we_lst (h : WDs X P es R fun ds R1 => ds.length ≤ sizeLine ∧ Q (.own (.lst ds)) R1) : WE X P (.List es pos) R Q :=
  .of (pe_lst pa_m) fun F σ Hd H w => h.use w fun Hd1 R1 ds vs H1 e1 w1 r1 q1 => ⟨by rw [dpAllLen r1]; exact q1.1, fun p hp =>
    .same e1 (.here (w1.allocH hp) (ownNew w1 hp (crL r1)) q1.2)⟩
theorem we_dict0 (q : Q (.own (.dK [])) R) : WE X P (.Dict [] [] pos) R Q := .of pe_dnewK fun F σ Hd H w p hp => .here (w.allocH hp) (ownNew w hp crK0) q
theorem we_dictT0 (q : Q (.own (.dT [])) R) : WE X P (.Dict [] [] pos) R Q := .of pe_dnewT fun F σ Hd H w p hp => .here (w.allocH hp) (ownNew w hp crT0) q

/-! subscripts -/
def vS (R : DS) (sv : SV) : Option (List D) := (vL R sv).or (vT sv)
theorem Rp.seq {K : PySem.W.Frag} {F : Fr} {σ : L2.St} {Hd H : Hp} {sv : SV} {v : V} {ds : List D} (w : Wd K F P R σ Hd H) (r : Rp K F R σ Hd H sv v) (h : vS R sv = some ds) :
    ∃ a vs, v = .ref a ∧ (SqL K H a vs ∨ SqT K H a vs) ∧ DqAll K Hd vs ds := by
  unfold vS at h
  cases hl : vL R sv with
  | some xs =>
    rw [hl] at h
    cases h
    obtain ⟨a, vs, h1, h2, h3⟩ := Rp.list w r hl
    exact ⟨a, vs, h1, .inl h2, h3⟩
  | none =>
    rw [hl] at h
    obtain ⟨a, vs, h1, _, h2, h3⟩ := Rp.tup w r h
    exact ⟨a, vs, h1, .inr h2, h3⟩
theorem atD {K : PySem.W.Frag} {H : Hp} {vs : List V} {ds : List D} {i : Int} {z : D} (h : DqAll K H vs ds) (e : atI ds i = some z) : ∃ v, atI vs i = some v ∧ Dq K H v z := by
  unfold atI at e ⊢
  rw [dpAllLen h]
  cases q : ixN ds.length i with
  | none =>
    rw [q] at e
    cases e
  | some j =>
    rw [q] at e
    exact dpAllGet h e
theorem we_ix (h : WE X P a R fun x R1 => stb x fun x => WE X P b R1 fun y R2 => (∃ d, vD R2 x = some d) ∧ asI y fun i => ∃ ds z, vS R2 x = some ds ∧ atI ds i = some z ∧ Q (.d z) R2)
    (hs : PlainIx b := by exact fun _ _ => rfl) : WE X P (.Subscript a b pos) R Q :=
  .fit (pe_ix ix_seq pe_m pe_m hs) (two h fun F σ Hd H x y R2 v u Z w r1 r2 g k => by
    obtain ⟨i, rfl, ds, z, h1, h2, q⟩ := g.elim
    cases (show Dq _ _ u (.int i) from r2)
    obtain ⟨p, vs, rfl, hh, hv⟩ := Rp.seq w r1 h1
    obtain ⟨z', e1, e2⟩ := atD hv h2
    have q' := k _ _ (.here w (show Rp _ _ _ _ _ _ (.d z) z' from e2) q)
    rcases hh with hh | hh
    · exact .inl ⟨p, vs, i, z', rfl, rfl, hh, e1, q'⟩
    · exact .inr (.inl ⟨p, vs, i, z', rfl, rfl, hh, e1, q'⟩))
/-- a slice's parts -/
structure WO (X : Cx) (P : List Nat) (o : Option Expr) (R : DS) (Q : Option Int → DS → Prop) : Prop where
  ex : ∃ t, PO X o t ∧ ∀ F σ Hd H, Wd X.K F P R σ Hd H → ∀ Z : Option Int → Hp → Prop, (∀ Hd' R' i H', Same Hd Hd' → Wd X.K F P R' σ Hd' H' → Q i R' → Z i H') → t σ H Z
theorem wo_none {Q : Option Int → DS → Prop} (q : Q none R) : WO X P none R Q := ⟨_, po_none, fun F σ Hd H w Z hZ => hZ Hd R none H (Same.refl _) w q⟩
theorem wo_some {Q : Option Int → DS → Prop} (h : WE X P e R fun x R1 => asI x fun i => Q (some i) R1) : WO X P (some e) R Q :=
  ⟨_, po_some pe_m, fun F σ Hd H w Z hZ => h.use w fun Hd1 R1 x v H1 e1 w1 r1 q1 => by
    obtain ⟨i, rfl, q⟩ := q1.elim
    cases (show Dq _ _ v (.int i) from r1)
    exact ⟨i, rfl, hZ _ _ _ _ e1 w1 q⟩⟩
def cutD (xs : List D) (lo hi : Option Int) : List D := (xs.drop (HT.sIx xs.length 0 lo)).take (HT.sIx xs.length xs.length hi - HT.sIx xs.length 0 lo)
theorem cut_dp {K : PySem.W.Frag} {H : Hp} {vs : List V} {ds : List D} (h : DqAll K H vs ds) (lo hi : Option Int) : DqAll K H (cutV vs lo hi) (cutD ds lo hi) := by
  unfold cutV cutD
  rw [dpAllLen h]
  exact dpAllTake _ (dpAllDrop _ h)
/-- the widest reading of a part -/
def TOm (X : Cx) (o : Option Expr) : TO := fun σ H Q => ∀ pins s, Inv X pins σ H s → wpAny (model X.prog X.w) X.A (evalPart o X.env) (fun u s' => ∃ o H', Inv X pins σ H' s' ∧ IsPart u o ∧ Q o H') X.xe s
theorem po_m {o : Option Expr} : PO X o (TOm X o) := ⟨fun pins s _ _ _ I h => h pins s I⟩
theorem WO.use {o : Option Expr} {Q : Option Int → DS → Prop} (h : WO X P o R Q) {F : Fr} {σ : L2.St} {Hd H : Hp} (w : Wd X.K F P R σ Hd H) {Z : Option Int → Hp → Prop}
    (k : ∀ Hd' R' i H', Same Hd Hd' → Wd X.K F P R' σ Hd' H' → Q i R' → Z i H') : TOm X o σ H Z := by
  obtain ⟨t, p, f⟩ := h.ex
  exact fun pins s I => p.run pins s σ H Z I (f F σ Hd H w Z k)
theorem we_sl {lo hi : Option Expr} {p2 : Pos} (h : WE X P a R fun x R1 => stb x fun x => WO X P lo R1 fun l R2 => WO X P hi R2 fun u R3 => ∃ ds, vL R3 x = some ds ∧ Q (.own (.lst (cutD ds l u))) R3) :
    WE X P (.Subscript a (.Slice lo hi none p2) pos) R Q :=
  .of (pe_slice sl_list pe_m po_m po_m) fun F σ Hd H w => h.stb.use w fun Hd1 R1 x v H1 e1 w1 r1 q1 => q1.2.use w1 fun Hd2 R2 l H2 e2 w2 q2 => q2.use w2 fun Hd3 R3 u H3 e3 w3 q3 => by
    obtain ⟨ds, h1, q⟩ := q3
    have hv : vD R3 x = some (.list ds) := by
      unfold vL at h1
      unfold vD
      split at h1 <;> first | (cases h1; rfl) | skip
      · split at h1
        · rename_i e; cases h1; simp only [e]
        · cases h1
      · cases h1
    obtain ⟨p, vs, rfl, hl, hc⟩ := Rp.list w3 (Rp.on q1.1 r1 (e2.trans e3) hv) h1
    exact ⟨p, vs, rfl, hl, fun z hz => .same ((e1.trans e2).trans e3) (.here (w3.allocH hz) (ownNew w3 hz (crL (cut_dp hc l u))) q)⟩
theorem we_slT {lo hi : Option Expr} {p2 : Pos} (h : WE X P a R fun x R1 => ∃ ds, x = .d (.tuple ds) ∧ WO X P lo R1 fun l R2 => WO X P hi R2 fun u R3 => Q (.d (.tuple (cutD ds l u))) R3) :
    WE X P (.Subscript a (.Slice lo hi none p2) pos) R Q :=
  .of (pe_slice sl_tupA pe_m po_m po_m) fun F σ Hd H w => h.use w fun Hd1 R1 x v H1 e1 w1 r1 q1 => by
    obtain ⟨ds, rfl, q1⟩ := q1
    exact q1.use w1 fun Hd2 R2 l H2 e2 w2 q2 => q2.use w2 fun Hd3 R3 u H3 e3 w3 q => by
      obtain ⟨p, vs, rfl, _, hl, hc⟩ := Rp.tup (sv := .d (.tuple ds)) w3 (show Rp _ _ _ _ _ _ (.d (.tuple ds)) v from dpMono (e2.trans e3) r1) rfl
      refine ⟨p, vs, rfl, hl, fun hw => ?_, fun _ z hz => ?_⟩
      · have e : cutD ds l u = ds := by
          unfold cutD
          rw [dpAllLen hc] at hw
          rw [hw.1, hw.2, List.drop_zero, Nat.sub_zero, List.take_length]
        rw [e] at q
        exact .same ((e1.trans e2).trans e3) (.here w3 (show Rp _ _ _ _ _ _ (.d (.tuple ds)) _ from dpMono (e2.trans e3) r1) q)
      · obtain ⟨w4, s4⟩ := w3.allocD (o := .tup (cutV vs l u)) hz
        exact .same (((e1.trans e2).trans e3).trans s4) (.here w4 (show Rp _ _ _ _ _ _ (.d (.tuple (cutD ds l u))) _ from Dq.tup (upd_same) (dpAllMono s4 (cut_dp hc l u))) q)

/-! built-ins of one argument -/
theorem call1 {x : Str} {p : Pos} {id : String} {r : List V → Hp → VK → Prop} (hc : CallR X (.builtin id) r) (hg : Gl X x) (hm : X.mg x = none) (hv : bootBuiltins x = some (.builtin id)) {G : SV → DS → Prop}
    (h : WE X P a R G) (hr : ∀ F σ Hd H sv R1 v (Z : VK), Wd X.K F P R1 σ Hd H → Rp X.K F R1 σ Hd H sv v → G sv R1 → (∀ v H', Post X.K F P σ Hd Q v H' → Z v H') → r [v] H Z)
    (hn : x ≠ "__name__" := by decide) (hdb : (x == ("__debug__" : Str)) = false := by decide)
    (he : starEach [a] X.env = (false, eval a X.env) :: starEach [] X.env := by rfl) (hpl : (backTo pos (starEach [] X.env)).any (·.1) = false := by rfl) : WE X P (.Call (.Name x p) [a] [] pos) R Q :=
  .of (pe_callB hc hg hm hv (pa_cons pe_m pa_nil he) hn hdb he hpl) fun F σ Hd H w => h.use w fun Hd1 R1 sv v H1 e1 w1 r1 q1 => hr F σ Hd1 H1 sv R1 v _ w1 r1 q1 fun _ _ h => h.same e1
theorem callT1 {x : Str} {p : Pos} {id : String} {r : List V → Hp → VK → Prop} (hc : CallR X (.type id) r) (hg : Gl X x) (hm : X.mg x = none) (hv : bootBuiltins x = some (.type id)) {G : SV → DS → Prop}
    (h : WE X P a R G) (hr : ∀ F σ Hd H sv R1 v (Z : VK), Wd X.K F P R1 σ Hd H → Rp X.K F R1 σ Hd H sv v → G sv R1 → (∀ v H', Post X.K F P σ Hd Q v H' → Z v H') → r [v] H Z)
    (hn : x ≠ "__name__" := by decide) (hdb : (x == ("__debug__" : Str)) = false := by decide)
    (he : starEach [a] X.env = (false, eval a X.env) :: starEach [] X.env := by rfl) (hpl : (backTo pos (starEach [] X.env)).any (·.1) = false := by rfl) : WE X P (.Call (.Name x p) [a] [] pos) R Q :=
  .of (pe_callTy hc hg hm hv (pa_cons pe_m pa_nil he) hn hdb he hpl) fun F σ Hd H w => h.use w fun Hd1 R1 sv v H1 e1 w1 r1 q1 => hr F σ Hd1 H1 sv R1 v _ w1 r1 q1 fun _ _ h => h.same e1
theorem we_len {p : Pos} (hm : X.mg "len" = none) (hg : Gl X "len") (h : WE X P a R fun x R1 => ∃ ds, vS R1 x = some ds ∧ Q (.d (.int (ds.length : Int))) R1)
    (he : starEach [a] X.env = (false, eval a X.env) :: starEach [] X.env := by rfl) (hpl : (backTo pos (starEach [] X.env)).any (·.1) = false := by rfl) : WE X P (.Call (.Name "len" p) [a] [] pos) R Q :=
  call1 call_len_seq hg hm PySem.boot_len h (fun F σ Hd H sv R1 v Z w r g k => by
    obtain ⟨ds, h1, q⟩ := g
    obtain ⟨a, vs, rfl, hh, hv⟩ := Rp.seq w r h1
    exact ⟨a, vs, rfl, hh, k _ _ (.here w (show Rp _ _ _ _ _ _ (.d (.int (ds.length : Int))) _ by rw [dpAllLen hv]; exact .int _) q)⟩) (he := he) (hpl := hpl)
theorem we_any {p : Pos} (hc : X.calm = true) (hm : X.mg "any" = none) (hg : Gl X "any") (h : WE X P a R fun x R1 => ∃ bs : List Bool, vL R1 x = some (bs.map PyData.bool) ∧ Q (.d (.bool (bs.any id))) R1)
    (he : starEach [a] X.env = (false, eval a X.env) :: starEach [] X.env := by rfl) (hpl : (backTo pos (starEach [] X.env)).any (·.1) = false := by rfl) : WE X P (.Call (.Name "any" p) [a] [] pos) R Q :=
  call1 (cr_any hc) hg hm (by decide +kernel) h (fun F σ Hd H sv R1 v Z w r g k => by
    obtain ⟨bs, h1, q⟩ := g
    obtain ⟨a, vs, rfl, hh, hv⟩ := Rp.list w r h1
    cases dpAllBls hv
    exact ⟨a, bs, rfl, hh, k _ _ (.here w (show Rp _ _ _ _ _ _ (.d (.bool (bs.any id))) _ from .bl _) q)⟩) (he := he) (hpl := hpl)
theorem we_all {p : Pos} (hc : X.calm = true) (hm : X.mg "all" = none) (hg : Gl X "all") (h : WE X P a R fun x R1 => ∃ bs : List Bool, vL R1 x = some (bs.map PyData.bool) ∧ Q (.d (.bool (bs.all id))) R1)
    (he : starEach [a] X.env = (false, eval a X.env) :: starEach [] X.env := by rfl) (hpl : (backTo pos (starEach [] X.env)).any (·.1) = false := by rfl) : WE X P (.Call (.Name "all" p) [a] [] pos) R Q :=
  call1 (cr_all hc) hg hm (by decide +kernel) h (fun F σ Hd H sv R1 v Z w r g k => by
    obtain ⟨bs, h1, q⟩ := g
    obtain ⟨a, vs, rfl, hh, hv⟩ := Rp.list w r h1
    cases dpAllBls hv
    exact ⟨a, bs, rfl, hh, k _ _ (.here w (show Rp _ _ _ _ _ _ (.d (.bool (bs.all id))) _ from .bl _) q)⟩) (he := he) (hpl := hpl)
theorem we_list {p : Pos} (hm : X.mg "list" = none) (hg : Gl X "list") (h : WE X P a R fun x R1 => ∃ ds, vS R1 x = some ds ∧ Q (.own (.lst ds)) R1)
    (he : starEach [a] X.env = (false, eval a X.env) :: starEach [] X.env := by rfl) (hpl : (backTo pos (starEach [] X.env)).any (·.1) = false := by rfl) : WE X P (.Call (.Name "list" p) [a] [] pos) R Q :=
  callT1 call_list_of hg hm (by decide +kernel) h (fun F σ Hd H sv R1 v Z w r g k => by
    obtain ⟨ds, h1, q⟩ := g
    obtain ⟨a, vs, rfl, hh, hv⟩ := Rp.seq w r h1
    exact ⟨a, vs, rfl, hh, fun l hl => k _ _ (.here (w.allocH hl) (ownNew w hl (crL hv)) q)⟩) (he := he) (hpl := hpl)
theorem we_tupleL {p : Pos} (hm : X.mg "tuple" = none) (hg : Gl X "tuple") (h : WE X P a R fun x R1 => ∃ ds, vL R1 x = some ds ∧ Q (.d (.tuple ds)) R1)
    (he : starEach [a] X.env = (false, eval a X.env) :: starEach [] X.env := by rfl) (hpl : (backTo pos (starEach [] X.env)).any (·.1) = false := by rfl) : WE X P (.Call (.Name "tuple" p) [a] [] pos) R Q :=
  callT1 call_tuple_of hg hm (by decide +kernel) h (fun F σ Hd H sv R1 v Z w r g k => by
    obtain ⟨ds, h1, q⟩ := g
    obtain ⟨a, vs, rfl, hh, hv⟩ := Rp.list w r h1
    exact ⟨a, vs, rfl, .inl ⟨hh, fun l hl => by
      obtain ⟨w2, s2⟩ := w.allocD (o := .tup vs) hl
      exact k _ _ (.same s2 (.here w2 (show Rp _ _ _ _ _ _ (.d (.tuple ds)) _ from Dq.tup (upd_same) (dpAllMono s2 hv)) q))⟩⟩) (he := he) (hpl := hpl)
theorem we_sortedI {p : Pos} (hm : X.mg "sorted" = none) (hg : Gl X "sorted") (h : WE X P a R fun x R1 => ∃ ns : List Int, vL R1 x = some (ns.map PyData.int) ∧ ∀ ns' : List Int, ns'.Perm ns → ns'.Pairwise (· ≤ ·) → Q (.own (.lst (ns'.map PyData.int))) R1)
    (he : starEach [a] X.env = (false, eval a X.env) :: starEach [] X.env := by rfl) (hpl : (backTo pos (starEach [] X.env)).any (·.1) = false := by rfl) : WE X P (.Call (.Name "sorted" p) [a] [] pos) R Q :=
  call1 cr_sortedI hg hm (by decide +kernel) h (fun F σ Hd H sv R1 v Z w r g k => by
    obtain ⟨ns, h1, q⟩ := g
    obtain ⟨a, vs, rfl, hh, hv⟩ := Rp.list w r h1
    cases dpAllInts hv
    exact ⟨a, ns, rfl, hh, fun ns' l p1 p2 hl => k _ _ (.here (w.allocH hl) (ownNew w hl (crL (dpAllOfInts ns'))) (q ns' p1 p2))⟩) (he := he) (hpl := hpl)
theorem keys_of {G : (Key × D) → (Key × V) → Prop} (hG : ∀ p q, G p q → p.1 = q.1) : ∀ {kvs : List (Key × D)} {ws : List (Key × V)}, Paired G kvs ws → ws.map (·.1) = kvs.map (·.1)
  | _, _, .nil => rfl
  | _, _, .cons h t => by rw [List.map_cons, List.map_cons, keys_of hG t, hG _ _ h]
theorem we_sortedD {p : Pos} (hc : X.calm = true) (hm : X.mg "sorted" = none) (hg : Gl X "sorted") (h : WE X P a R fun x R1 => ∃ (j : Nat) (kvs : List (Key × D)) (ks : List Int), x = .loc j ∧ R1[j]? = some (.own (.dK kvs)) ∧ kvs.map (·.1) = ks.map Sum.inl ∧ ks.length < 64 ∧
      ∀ ns' : List Int, ns'.Perm ks → ns'.Pairwise (· ≤ ·) → Q (.own (.lst (ns'.map PyData.int))) R1)
    (he : starEach [a] X.env = (false, eval a X.env) :: starEach [] X.env := by rfl) (hpl : (backTo pos (starEach [] X.env)).any (·.1) = false := by rfl) : WE X P (.Call (.Name "sorted" p) [a] [] pos) R Q :=
  call1 (call_sortedDI hc) hg hm (by decide +kernel) h (fun F σ Hd H sv R1 v Z w r g k => by
    obtain ⟨j, kvs, ks, rfl, hR, hk, hl, q⟩ := g
    obtain ⟨d, o, s1, hd, ⟨ws, ho, hcv⟩, _⟩ := w.own j _ hR
    subst ho
    have s2 := r.1
    rw [s1] at s2
    cases s2
    exact ⟨d, ws, ks, rfl, .inl hd, (keys_of (fun _ _ h => h.1) hcv).trans hk, hl, fun ns' l p1 p2 hl => k _ _ (.here (w.allocH hl) (ownNew w hl (crL (dpAllOfInts ns'))) (q ns' p1 p2))⟩) (he := he) (hpl := hpl)
theorem we_intB {p : Pos} (hm : X.mg "int" = none) (hg : Gl X "int") (h : WE X P a R fun x R1 => asB x fun c => Q (.d (.int (if c then 1 else 0))) R1)
    (he : starEach [a] X.env = (false, eval a X.env) :: starEach [] X.env := by rfl) (hpl : (backTo pos (starEach [] X.env)).any (·.1) = false := by rfl) : WE X P (.Call (.Name "int" p) [a] [] pos) R Q :=
  callT1 call_int1 hg hm (by decide +kernel) h (fun F σ Hd H sv R1 v Z w r g k => by
    obtain ⟨c, rfl, q⟩ := g.elim
    cases (show Dq _ _ v (.bool c) from r)
    exact .inr ⟨c, rfl, k _ _ (.here w (show Rp _ _ _ _ _ _ (.d (.int (if c then 1 else 0))) _ from .int _) q)⟩) (he := he) (hpl := hpl)
theorem we_max2 {p : Pos} (hc : X.calm = true) (hm : X.mg "max" = none) (hg : Gl X "max") (h : WE X P a R fun x R1 => asI x fun i => WE X P b R1 fun y R2 => asI y fun j => Q (.d (.int (if j > i then j else i))) R2)
    (he : starEach [a, b] X.env = (false, eval a X.env) :: starEach [b] X.env := by rfl) (he2 : starEach [b] X.env = (false, eval b X.env) :: starEach [] X.env := by rfl) (hpl : (backTo pos (starEach [b] X.env)).any (·.1) = false := by rfl) : WE X P (.Call (.Name "max" p) [a, b] [] pos) R Q :=
  .of (pe_callB (call_max2 hc) hg hm (by decide +kernel) (pa_cons pe_m (pa_cons pe_m pa_nil he2) he) (by decide) (by decide) he hpl) fun F σ Hd H w => h.use w fun Hd1 R1 x v H1 e1 w1 r1 q1 => by
    obtain ⟨i, rfl, q1⟩ := q1.elim
    cases (show Dq _ _ v (.int i) from r1)
    exact q1.use w1 fun Hd2 R2 y u H2 e2 w2 r2 q2 => by
      obtain ⟨j, rfl, q⟩ := q2.elim
      cases (show Dq _ _ u (.int j) from r2)
      exact ⟨i, j, rfl, .same (e1.trans e2) (.here w2 (show Rp _ _ _ _ _ _ (.d (.int (if j > i then j else i))) _ from .int _) q)⟩
/-! repr -/
theorem call_reprD (hg : X.A.guards = some []) (hu : X.A.units + 100 < cLine) : CallR X (.builtin "repr") (fun xs H Q => ∃ v d, xs = [v] ∧ Dq X.K H v d ∧ isDisplay d = true ∧ d.showable = true ∧ d.hasDict = false ∧ d.depth ≤ 64 ∧ d.shown.length ≤ sizeLine ∧ Q (.str d.shown) H) := by
  intro pins s σ H vs us Q I rs h
  obtain ⟨v, d, rfl, hd, hdis, hsh, hnd, hdep, hsz, q⟩ := h
  obtain ⟨u, rfl, ru⟩ := Vals.one rs
  obtain ⟨as, r1⟩ := Dp.reads I d v u (hd.dp hnd) ru
  obtain ⟨a, rfl⟩ := isRef_of_reads r1 hdis
  exact repr_of_reads' r1 hsh (PyData.noDict_hsm hnd) hg (by omega) (fun _ _ e => e) (fun h' u tk hk => ⟨.str d.shown, H, I.kept (t' := tk) hk, ⟨u, rfl⟩, q⟩) hsz
theorem we_repr {p : Pos} (hgd : X.A.guards = some []) (hu : X.A.units + 100 < cLine) (hm : X.mg "repr" = none) (hg : Gl X "repr")
    (h : WE X P a R fun x R1 => ∃ d, vD R1 x = some d ∧ isDisplay d = true ∧ d.showable = true ∧ d.hasDict = false ∧ d.depth ≤ 64 ∧ d.shown.length ≤ sizeLine ∧ Q (.d (.str d.shown)) R1)
    (he : starEach [a] X.env = (false, eval a X.env) :: starEach [] X.env := by rfl) (hpl : (backTo pos (starEach [] X.env)).any (·.1) = false := by rfl) : WE X P (.Call (.Name "repr" p) [a] [] pos) R Q :=
  call1 (call_reprD hgd hu) hg hm (by decide +kernel) h (fun F σ Hd H sv R1 v Z w r g k => by
    obtain ⟨d, h1, h2, h3, h4, h5, h6, q⟩ := g
    exact ⟨v, d, rfl, Rp.dat w r h1, h2, h3, h4, h5, h6, k _ _ (.here w (show Rp _ _ _ _ _ _ (.d (.str d.shown)) _ from .str _) q)⟩) (he := he) (hpl := hpl)
end
end Dl
namespace Dl
open PySem PySem.Spec PyProof.Rows L2
/-! targets -/
def TGm (X : Cx) (tg : Expr) : TG := fun v σ H Q => ∀ pins s u, Inv X pins σ H s → RelV v u → wpAny (model X.prog X.w) X.A (assign tg X.env u) (fun _ s' => ∃ σ' H', Inv X pins σ' H' s' ∧ Q σ' H') X.xe s
theorem pg_m {X : Cx} {tg : Expr} : PG X tg (TGm X tg) := ⟨fun pins s _ _ _ u _ I r h => h pins s u I r⟩
theorem TGm.of {X : Cx} {tg : Expr} {t : TG} {v : V} {σ : L2.St} {H : Hp} {Q : L2.St → Hp → Prop} (p : PG X tg t) (h : t v σ H Q) : TGm X tg v σ H Q := fun pins s u I r => p.run pins s σ H v u Q I r h
theorem TGm.mono {X : Cx} {tg : Expr} {v : V} {σ : L2.St} {H : Hp} {Q Q' : L2.St → Hp → Prop} (h : TGm X tg v σ H Q) (k : ∀ σ' H', Q σ' H' → Q' σ' H') : TGm X tg v σ H Q' := fun pins s u I r =>
  thn (h pins s u I r) fun _ _ ⟨σ', H', J, q⟩ => ⟨σ', H', J, k _ _ q⟩
/-- a target gets data; js: the slots that it stores -/
structure WG (X : Cx) (P : List Nat) (tg : Expr) (js : List Nat) (R : DS) (x : D) (Q : DS → Prop) : Prop where
  run : ∀ F σ Hd H v, Wd X.K F P R σ Hd H → Dq X.K Hd v x → TGm X tg v σ H fun σ' H' => ∃ Hd' R', Same Hd Hd' ∧ Wd X.K F P R' σ' Hd' H' ∧ (∀ vs : List Nat, (∀ j ∈ js, j ∈ vs) → wipe σ' vs = wipe σ vs) ∧ Q R'
structure WGs (X : Cx) (P : List Nat) (tgs : List Expr) (js : List Nat) (R : DS) (xs : List D) (Q : DS → Prop) : Prop where
  ex : ∃ t, PGs X tgs t ∧ ∀ F σ Hd H vs, Wd X.K F P R σ Hd H → DqAll X.K Hd vs xs → ∀ Z : L2.St → Hp → Prop, (∀ Hd' R' σ' H', Same Hd Hd' → Wd X.K F P R' σ' Hd' H' → (∀ ws : List Nat, (∀ j ∈ js, j ∈ ws) → wipe σ' ws = wipe σ ws) → Q R' → Z σ' H') → t vs σ H Z
theorem set_set_ne {α : Type} {l : List α} {i j : Nat} {x y : α} (h : i ≠ j) : (l.set i x).set j y = (l.set j y).set i x := List.set_comm x y h
theorem wipe_set_in {σ : L2.St} {i : Nat} {x : Option V} : ∀ {vs : List Nat}, i ∈ vs → wipe (σ.set i x) vs = wipe σ vs
  | [], h => by cases h
  | v :: vs, h => by
    unfold wipe
    by_cases hi : i ∈ vs
    · rw [wipe_set_in hi]
    · have e : v = i := by
        rcases List.mem_cons.mp h with e | e
        · exact e.symm
        · exact absurd e hi
      subst e
      have out : ∀ (ws : List Nat) (τ : L2.St), v ∉ ws → wipe (τ.set v x) ws = (wipe τ ws).set v x := by
        intro ws
        induction ws with
        | nil => intro τ _; rfl
        | cons a ws ih =>
          intro τ hw
          have h1 : v ≠ a := fun z => hw (z ▸ List.mem_cons_self)
          unfold wipe
          rw [ih τ (fun z => hw (List.mem_cons_of_mem _ z)), List.set_comm _ _ h1]
      rw [out vs σ hi, List.set_set]
section
variable {X : Cx} {P : List Nat} {R : DS} {a b c e tg : Expr} {es : List Expr} {pos : Pos}
theorem wg_name {i : Nat} {x : Str} {d : D} {Q : DS → Prop} (hN : X.N.Nodup) (hi : X.N[i]? = some x) (hx : Loc X.env.scope x) (hP : i ∉ P) (q : Q (R.set i (.d d)))
    (hf : X.fn x = true ∨ X.env.scope.names.lookup x = some .local := by first | exact .inl rfl | exact .inr rfl | assumption) : WG X P (.Name x pos) [i] R d Q :=
  ⟨fun F σ Hd H v w r => TGm.of (pg_name hN hi hx hf) ⟨Hd, _, Same.refl _, w.setD hP r, fun vs hv => wipe_set_in (hv i List.mem_cons_self), q⟩⟩
theorem wgs_nil {Q : DS → Prop} (q : Q R) : WGs X P [] [] R [] Q := ⟨_, pgs_nil, fun F σ Hd H vs w r Z hZ => by
  cases r
  exact ⟨rfl, hZ Hd R σ H (Same.refl _) w (fun _ _ => rfl) q⟩⟩
theorem wgs_cons {js ks : List Nat} {x : D} {xs : List D} {Q : DS → Prop} (h : WG X P e js R x fun R1 => WGs X P es ks R1 xs Q)
    (hs : (assignEach (e :: es) X.env).map (·.2) = assign e X.env :: (assignEach es X.env).map (·.2) := by rfl) : WGs X P (e :: es) (js ++ ks) R (x :: xs) Q := by
  -- the readings of the rest, whatever was stored ahead
  refine ⟨gCons (TGm X e) (fun vs σ H Z => ∀ pins s us, Inv X pins σ H s → Vals vs us → wpAny (model X.prog X.w) X.A (assignInOrder ((assignEach es X.env).map (·.2)) us) (fun _ s' => ∃ σ' H', Inv X pins σ' H' s' ∧ Z σ' H') X.xe s),
    pgs_cons pg_m ⟨fun pins s σ H vs us Z I r h => h pins s us I r⟩ hs, fun F σ Hd H vs w r Z hZ => ?_⟩
  cases r with
  | cons r1 r2 =>
    refine ⟨_, _, rfl, (h.run F σ Hd H _ w r1).mono fun σ1 H1 h1 => ?_⟩
    obtain ⟨Hd1, R1, e1, w1, wp1, q1⟩ := h1
    obtain ⟨t, p, f⟩ := q1.ex
    intro pins s us I rv
    refine p.run pins s σ1 H1 _ us Z I rv (f F σ1 Hd1 H1 _ w1 (dpAllMono e1 r2) Z fun Hd2 R2 σ2 H2 e2 w2 wp2 q2 => hZ Hd2 R2 σ2 H2 (e1.trans e2) w2 (fun ws hw => ?_) q2)
    rw [wp2 ws fun j hj => hw j (List.mem_append_right _ hj), wp1 ws fun j hj => hw j (List.mem_append_left _ hj)]
theorem wg_tup {k : Nat} {js : List Nat} {xs : List D} {n : Nat} {Q : DS → Prop} (hc : X.calm = true) (h : WGs X P es js R xs Q) (hl : xs.length = n)
    (hn : (assignEach es X.env).length = n := by rfl) (hst : (assignEach es X.env).findIdx? (·.1) = none := by rfl) : WG X P (.Tuple es k pos) js R (.tuple xs) Q := by
  obtain ⟨t, p, f⟩ := h.ex
  refine ⟨fun F σ Hd H v w r => TGm.of (pg_tup hc p hn hst) ?_⟩
  cases r with
  | tup h1 h2 => exact ⟨_, _, rfl, sameT w.dat (SqT.of h1), (dpAllLen h2).trans hl, f F σ Hd H _ w h2 _ fun Hd' R' σ' H' e' w' wp q => ⟨Hd', R', e', w', wp, q⟩⟩

/-! statements -/
variable {D' : DEnds} {st : Stmt} {sts rest : List Stmt}
theorem up_here {K : PySem.W.Frag} {F : Fr} {Hd : Hp} {q : DS → Prop} {σ : L2.St} {H : Hp} (w : Wd K F P R σ Hd H) (h : q R) : up K F P Hd q σ H := ⟨Hd, R, Same.refl _, w, h⟩
theorem wss_nil (q : D'.nx R) : WSs X P [] R D' := .of pss_nil fun F σ Hd H w => up_here w q
theorem wss_one (h : WS X P st R D') : WSs X P [st] R D' := .of (pss_one ps_m) fun F σ Hd H w => h.run F σ Hd H w
theorem wss_cons (h : WS X P st R { D' with nx := fun R1 => WSs X P rest R1 D' }) : WSs X P (st :: rest) R D' :=
  .of (pss_cons ps_m pss_m) fun F σ Hd H w => (h.run F σ Hd H w).mono ⟨fun σ' H' h => by
    obtain ⟨Hd1, R1, e1, w1, q1⟩ := h
    exact (q1.run F σ' Hd1 H' w1).mono (upD_le e1), fun _ _ h => h, fun _ _ h => h, fun _ _ h => h⟩
/-- a name's own thing becomes data, a name is forgotten: anywhere -/
theorem wss_fz (i : Nat) {ds : List D} (hi : R[i]? = some (.own (.lst ds))) (hP : i ∉ P) (h : WSs X P sts (R.set i (.d (.list ds))) D') : WSs X P sts R D' :=
  ⟨fun F σ Hd H w => by
    obtain ⟨Hd1, v, _, e1, w1, _⟩ := w.fz hi hP
    exact (h.run F σ Hd1 H w1).mono (upD_le e1)⟩
theorem ws_pass (q : D'.nx R) : WS X P (.Pass pos) R D' := .of ps_pass fun F σ Hd H w => up_here w q
theorem ws_break (q : D'.bk R) : WS X P (.Break pos) R D' := .of ps_break fun F σ Hd H w => up_here w q
theorem ws_continue (q : D'.ct R) : WS X P (.Continue pos) R D' := .of ps_continue fun F σ Hd H w => up_here w q
theorem ws_doc {x : Str} {j : _} {pos' : Pos} (q : D'.nx R) : WS X P (.Expr (.Constant (.str x) j pos) pos') R D' := .of ps_doc fun F σ Hd H w => up_here w q
theorem ws_expr (h : WE X P e R fun _ R1 => D'.nx R1) (hs : swapsWith e none pos.line X.env = pure false := by rfl) : WS X P (.Expr e pos) R D' :=
  .of (ps_expr pe_m hs) fun F σ Hd H w => h.use w fun Hd1 R1 sv v H1 e1 w1 r1 q1 => ⟨Hd1, R1, e1, w1, q1⟩
/-- what goes into a name -/
def put (i : Nat) (R : DS) (k : DS → Prop) : SV → Prop
  | .d x => k (R.set i (.d x))
  | .own m => k (R.set i (.own m))
  | _ => False
theorem put_ok {K : PySem.W.Frag} {F : Fr} {Hd H : Hp} {σ : L2.St} {i : Nat} {sv : SV} {v : V} {k : DS → Prop} (w : Wd K F P R σ Hd H) (r : Rp K F R σ Hd H sv v) (hP : i ∉ P) (h : put i R k sv) : up K F P Hd k (σ.set i (some v)) H := by
  unfold put at h
  split at h
  · exact ⟨Hd, _, Same.refl _, w.setD hP r, h⟩
  · obtain ⟨a, o, rfl, ha, hc, hd, hf, hn⟩ := r
    exact ⟨Hd, _, Same.refl _, w.setOwn hP ha hc hd hf hn, h⟩
  · cases h
theorem ws_set {i : Nat} {x : Str} {pos' : Pos} (hN : X.N.Nodup) (hi : X.N[i]? = some x) (hx : Loc X.env.scope x) (hP : i ∉ P) (h : WE X P e R fun sv R1 => put i R1 D'.nx sv)
    (hs : swapsWith e (some (.Name x pos')) pos.line X.env = pure false := by rfl) (hf : X.fn x = true ∨ X.env.scope.names.lookup x = some .local := by first | exact .inl rfl | exact .inr rfl | assumption) : WS X P (.Assign [.Name x pos'] e pos) R D' :=
  .of (ps_set hN hi hx pe_m hs hf) fun F σ Hd H w => h.use w fun Hd1 R1 sv v H1 e1 w1 r1 q1 => up_same e1 (put_ok w1 r1 hP q1)
/-- a, b = e -/
theorem ws_unp {js : List Nat} (h : WE X P e R fun sv R1 => asD sv fun x => WG X P tg js R1 x D'.nx) (hs : swapsWithSole [tg] e pos.line X.env = pure false := by rfl) (hw : swappedStores [tg] e X.env = pure none := by rfl)
    (h1 : (assignEach [tg] X.env).map (·.2) = [assign tg X.env] := by rfl) : WS X P (.Assign [tg] e pos) R D' :=
  .of (ps_asg pe_m pg_m hs hw h1) fun F σ Hd H w => h.fzD.use w fun Hd1 R1 sv v H1 e1 w1 r1 q1 => by
    obtain ⟨x, rfl, q1⟩ := q1
    exact (q1.run F σ Hd1 H1 v w1 r1).mono fun σ' H' ⟨Hd', R', e', w', _, q⟩ => ⟨Hd', R', e1.trans e', w', q⟩
theorem ws_if {A B : List Stmt} (h : WT X P c R fun k R1 => (k = true → WSs X P A R1 D') ∧ (k = false → WSs X P B R1 D')) : WS X P (.If c A B pos) R D' :=
  .of (ps_if pt_m pss_m pss_m) fun F σ Hd H w => h.use w fun Hd1 R1 k H1 e1 w1 q1 => by
    cases k with
    | true => exact iteT (((q1.1 rfl).run F σ Hd1 H1 w1).mono (upD_le e1))
    | false => exact iteF (((q1.2 rfl).run F σ Hd1 H1 w1).mono (upD_le e1))
/-- what is handed back -/
def ret (P : List Nat) (R : DS) (k : SV → DS → Prop) : SV → Prop
  | .d x => k (.d x) R
  | .own m => k (.own m) R
  | .loc i => i ∉ P ∧ ∃ m, R[i]? = some (.own m) ∧ k (.own m) R
  | .no => False
theorem ws_ret (h : WE X P e R fun sv R1 => ret P R1 D'.rt sv) : WS X P (.Return (some e) pos) R D' :=
  .of (ps_ret pe_m) fun F σ Hd H w => h.use w fun Hd1 R1 sv v H1 e1 w1 r1 q1 => by
    have pins : ∀ i, i ∈ P → ∃ m o, R1[i]? = some (SV.own m) ∧ H1 (F.al i) = some o ∧ CRp X.K Hd1 m o ∧ Hd1 (F.al i) = none := fun i hi => by
      obtain ⟨m, h1, h2⟩ := w1.pin i hi
      obtain ⟨a, o, s1, s2, s3, s4, _⟩ := w1.own i m h1
      rw [h2] at s1
      cases s1
      exact ⟨m, o, h1, s2, s3, s4⟩
    unfold ret at q1
    split at q1
    · rename_i x
      exact ⟨Hd1, R1, .d x, e1, ⟨w1.dat, w1.frm, ⟨fun a ha => (w1.prot a ha).1, w1.tabs.1, w1.tabs.2.1⟩, pins, r1⟩, q1⟩
    · rename_i m
      obtain ⟨a, o, rfl, ha, hc, hd, hf, hn⟩ := r1
      refine ⟨Hd1, R1, .own m, e1, ⟨w1.dat, w1.frm, ⟨fun a ha => (w1.prot a ha).1, w1.tabs.1, w1.tabs.2.1⟩, pins, a, o, rfl, ha, hc, hd, hf, fun i hi z => ?_⟩, q1⟩
      obtain ⟨n, h1, h2⟩ := w1.pin i hi
      rw [z] at h2
      exact hn i n h1 h2
    · rename_i i
      obtain ⟨hP, m, hm, q1⟩ := q1
      obtain ⟨a, o, s1, s2, s3, s4, s5⟩ := w1.own i m hm
      have s6 := r1.1
      rw [s1] at s6
      cases s6
      refine ⟨Hd1, R1, .own m, e1, ⟨w1.dat, w1.frm, ⟨fun a ha => (w1.prot a ha).1, w1.tabs.1, w1.tabs.2.1⟩, pins, a, o, rfl, s2, s3, s4, s5, fun j hj z => ?_⟩, q1⟩
      obtain ⟨n, h1, h2⟩ := w1.pin j hj
      rw [z] at h2
      exact hP ((w1.apart i j m n a hm h1 s1 h2) ▸ hj)
    · cases q1
/-- a list that a name holds gets one more -/
theorem ws_append {o : Expr} {apos cpos : Pos} (pe : PE X (.Call (.Attribute o "append" apos) [e] [] cpos) (tBM X.K "list" rAppend (TEm X o) (tCons (TEm X e) tNil)))
    (h : WE X P o R fun x R1 => ∃ i ds0, x = .loc i ∧ R1[i]? = some (.own (.lst ds0)) ∧ WE X P e R1 fun y R2 => asD y fun d => ∃ ds, R2[i]? = some (.own (.lst ds)) ∧ ds.length < sizeLine ∧ D'.nx (R2.set i (.own (.lst (ds ++ [d])))))
    (hsw : swapsWith (.Call (.Attribute o "append" apos) [e] [] cpos) none pos.line X.env = pure false := by rfl) : WS X P (.Expr (.Call (.Attribute o "append" apos) [e] [] cpos) pos) R D' :=
  .of (ps_expr pe hsw) fun F σ Hd H w => h.use w fun Hd1 R1 sv v H1 e1 w1 r1 q1 => by
    obtain ⟨i, ds0, rfl, h0, q1⟩ := q1
    obtain ⟨a, vs, rfl, hl, _⟩ := Rp.list w1 r1 (show vL R1 (.loc i) = some ds0 by unfold vL; simp only [h0])
    refine ⟨.inl ⟨rfl, vs, hl⟩, q1.fzD.use w1 fun Hd2 R2 y u H2 e2 w2 r2 q2 => ?_⟩
    obtain ⟨d, rfl, ds, hR, hz, q⟩ := q2
    obtain ⟨a', o', s1, s2, ⟨vs', rfl, hv⟩, _⟩ := w2.own i _ hR
    have s3 := r1.1
    rw [s1] at s3
    cases s3
    refine ⟨a, vs', u, rfl, rfl, s2, by rw [dpAllLen hv]; exact hz, Hd2, _, e1.trans e2, w2.change hR s1 (crL (dpAllApp hv (.cons r2 .nil))), q⟩
/-- d[k] = v: a dict of int keys that a name holds -/
theorem paired_any {κ : Type} [DecidableEq κ] {G : (κ × D) → (κ × V) → Prop} (hG : ∀ p q, G p q → p.1 = q.1) (k : κ) : ∀ {kvs : List (κ × D)} {ws : List (κ × V)}, Paired G kvs ws → (ws.any fun kv => decide (kv.1 = k)) = kvs.any fun kv => decide (kv.1 = k)
  | _, _, .nil => rfl
  | _, _, .cons (a := p) (b := q) h t => by
    rw [List.any_cons, List.any_cons, paired_any hG k t, hG p q h]
def putD {κ : Type} [DecidableEq κ] (kvs : List (κ × D)) (k : κ) (v : D) : List (κ × D) := if (kvs.any fun kv => decide (kv.1 = k)) = true then kvs.map (fun kv => if kv.1 = k then (kv.1, v) else kv) else kvs ++ [(k, v)]
theorem paired_map {κ : Type} [DecidableEq κ] {K : PySem.W.Frag} {H : Hp} (k : κ) {v : V} {d : D} (r : Dq K H v d) : ∀ {kvs : List (κ × D)} {ws : List (κ × V)}, Paired (fun (p : κ × D) (q : κ × V) => p.1 = q.1 ∧ Dq K H q.2 p.2) kvs ws →
    Paired (fun (p : κ × D) (q : κ × V) => p.1 = q.1 ∧ Dq K H q.2 p.2) (kvs.map fun kv => if kv.1 = k then (kv.1, d) else kv) (ws.map fun kv => if kv.1 = k then (kv.1, v) else kv)
  | _, _, .nil => .nil
  | _, _, .cons (a := p) (b := q) h t => by
    rw [List.map_cons, List.map_cons]
    refine .cons ?_ (paired_map k r t)
    by_cases e : p.1 = k
    · rw [if_pos e, if_pos (h.1 ▸ e)]
      exact ⟨h.1, r⟩
    · rw [if_neg e, if_neg (fun z => e (h.1.trans z))]
      exact h
theorem paired_app {α β : Type} {G : α → β → Prop} {x : α} {y : β} (g : G x y) : ∀ {kvs : List α} {ws : List β}, Paired G kvs ws → Paired G (kvs ++ [x]) (ws ++ [y])
  | _, _, .nil => .cons g .nil
  | _, _, .cons h t => .cons h (paired_app g t)
theorem put_dp {κ : Type} [DecidableEq κ] {K : PySem.W.Frag} {H : Hp} (k : κ) {v : V} {d : D} (r : Dq K H v d) {kvs : List (κ × D)} {ws : List (κ × V)} (h : Paired (fun (p : κ × D) (q : κ × V) => p.1 = q.1 ∧ Dq K H q.2 p.2) kvs ws) :
    Paired (fun (p : κ × D) (q : κ × V) => p.1 = q.1 ∧ Dq K H q.2 p.2) (putD kvs k d) (putK ws k v) := by
  unfold putD putK
  rw [paired_any (fun _ _ h => h.1) k h]
  split
  · exact paired_map k r h
  · exact paired_app ⟨rfl, r⟩ h
theorem pairedLen {α β : Type} {G : α → β → Prop} : ∀ {kvs : List α} {ws : List β}, Paired G kvs ws → ws.length = kvs.length
  | _, _, .nil => rfl
  | _, _, .cons _ t => by rw [List.length_cons, List.length_cons, pairedLen t]
theorem crK {K : PySem.W.Frag} {Hd : Hp} {kvs : List (Key × D)} {ws : List (Key × V)} (h : Paired (fun (p : Key × D) (q : Key × V) => p.1 = q.1 ∧ Dq K Hd q.2 p.2) kvs ws) : CRp K Hd (.dK kvs) (.dK ws) := ⟨ws, rfl, h⟩
theorem ws_dput {o k : Expr} {pos' : Pos} (hu : X.A.units + 1 < cLine) (h : WE X P e R fun z R1 => asD z fun d => WE X P o R1 fun x R2 => ∃ i, x = .loc i ∧ WE X P k R2 fun y R3 => asI y fun n => ∃ kvs, R3[i]? = some (.own (.dK kvs)) ∧ kvs.length < sizeLine ∧ D'.nx (R3.set i (.own (.dK (putD kvs (Sum.inl n) d)))))
    (hs : swapsWith e (some (.Subscript o k pos')) pos.line X.env = pure false := by rfl) : WS X P (.Assign [.Subscript o k pos'] e pos) R D' :=
  .of (ps_dput hu pe_m pe_m pe_m hs) fun F σ Hd H w => h.fzD.use w fun Hd1 R1 z v H1 e1 w1 r1 q1 => by
    obtain ⟨d, rfl, q1⟩ := q1
    exact q1.use w1 fun Hd2 R2 x u H2 e2 w2 r2 q2 => by
      obtain ⟨i, rfl, q2⟩ := q2
      exact q2.use w2 fun Hd3 R3 y t H3 e3 w3 r3 q3 => by
        obtain ⟨n, rfl, kvs, hR, hz, q⟩ := q3.elim
        cases (show Dq _ _ t (.int n) from r3)
        obtain ⟨a, o', s1, s2, ⟨ws, rfl, hv⟩, _⟩ := w3.own i _ hR
        have s3 := r2.1
        rw [s1] at s3
        cases s3
        exact ⟨a, _, rfl, DPut.k (k := Sum.inl n) s2 (by rw [pairedLen hv]; exact hz), Hd3, _, (e1.trans e2).trans e3, w3.change hR s1 (crK (put_dp (Sum.inl n) (dpMono (e2.trans e3) r1) hv)), q⟩
/-- xs[k] = v: a list that a name holds -/
theorem ws_lput {o k : Expr} {pos' : Pos} (hg : PG X (.Subscript o k pos') (gSub (TEm X o) (TEm X k) rSetL))
    (h : WE X P e R fun z R1 => asD z fun d => WE X P o R1 fun x R2 => ∃ i, x = .loc i ∧ WE X P k R2 fun y R3 => asI y fun n => ∃ ds j, R3[i]? = some (.own (.lst ds)) ∧ ixN ds.length n = some j ∧ D'.nx (R3.set i (.own (.lst (ds.set j d)))))
    (hs : swapsWithSole [.Subscript o k pos'] e pos.line X.env = pure false := by rfl) (hw : swappedStores [.Subscript o k pos'] e X.env = pure none := by rfl)
    (h1 : (assignEach [.Subscript o k pos'] X.env).map (·.2) = [assign (.Subscript o k pos') X.env] := by rfl) : WS X P (.Assign [.Subscript o k pos'] e pos) R D' :=
  .of (ps_asg pe_m hg hs hw h1) fun F σ Hd H w => h.fzD.use w fun Hd1 R1 z v H1 e1 w1 r1 q1 => by
    obtain ⟨d, rfl, q1⟩ := q1
    exact q1.use w1 fun Hd2 R2 x u H2 e2 w2 r2 q2 => by
      obtain ⟨i, rfl, q2⟩ := q2
      exact q2.use w2 fun Hd3 R3 y t H3 e3 w3 r3 q3 => by
        obtain ⟨n, rfl, ds, j, hR, hj, q⟩ := q3.elim
        cases (show Dq _ _ t (.int n) from r3)
        obtain ⟨a, o', s1, s2, ⟨vs, rfl, hv⟩, _⟩ := w3.own i _ hR
        have s3 := r2.1
        rw [s1] at s3
        cases s3
        exact ⟨a, vs, n, j, rfl, rfl, s2, by rw [dpAllLen hv]; exact hj, Hd3, _, (e1.trans e2).trans e3, w3.change hR s1 (crL (dpAllSet (dpMono (e2.trans e3) r1) j hv)), q⟩

/-! loops -/
def bodyD (I : DS → Prop) (D' : DEnds) : DEnds := { nx := I, rt := D'.rt, bk := D'.nx, ct := I }
theorem turn_le {K : PySem.W.Frag} {F : Fr} {Hd Hd1 Hd2 : Hp} {I : DS → Prop} {Z : Ends} (e1 : Same Hd Hd1) (e2 : Same Hd1 Hd2) (hZ : Le (upD K F P Hd1 D') Z) :
    Le (upD K F P Hd2 (bodyD I D')) { Z with nx := up K F P Hd1 I, ct := up K F P Hd1 I, bk := Z.nx } :=
  ⟨fun _ _ h => up_same e2 h, fun _ _ h => hZ.2.1 _ _ ((upD_le (D := D') e2).2.1 _ _ h), fun _ _ h => hZ.1 _ _ (up_same e2 h), fun _ _ h => up_same e2 h⟩
theorem ws_forL {js : List Nat} {it : Expr} {body : List Stmt} (hp : PassesOwn (model X.prog X.w) X.A X.env X.xe) (hc : X.calm = true)
    (h : WE X P it R fun sv R1 => asD sv fun d => ∃ (xs : List D) (I : Nat → DS → Prop), d = .list xs ∧ I 0 R1 ∧
      (∀ i x R', xs[i]? = some x → I i R' → WG X P tg js R' x fun R2 => WSs X P body R2 (bodyD (I (i + 1)) D')) ∧ (∀ R', I xs.length R' → D'.nx R'))
    (hs : ∀ x, foldedSetIterable it X.env x = pure x := by intro _; rfl) : WS X P (.For tg it body [] pos) R D' :=
  .of (ps_for hp hc (pi_list pe_m) pg_m pss_m hs) fun F σ Hd H w => h.fzD.use w fun Hd1 R1 sv v H1 e1 w1 r1 q1 => by
    obtain ⟨d, rfl, xs, I, rfl, i0, step, fin⟩ := q1
    have r' : Dq X.K Hd1 v (.list xs) := r1
    cases r' with
    | lst hS hv =>
      rename_i a vs
      refine ⟨a, rfl, ⟨vs, w1.dat.seq hS⟩, for_list (fun i σ' H' => up X.K F P Hd1 (I i) σ' H') ⟨Hd1, R1, Same.refl _, w1, i0⟩ (fun i σ' H' _ ⟨Hd', R', e', w', _⟩ => w'.dat.seq (e'.seq hS)) (fun i x σ' H' hx ⟨Hd', R', e', w', hi⟩ => ?_) (fun σ' H' ⟨Hd', R', e', w', hi⟩ => ⟨Hd', R', e1.trans e', w', fin R' (by rw [← dpAllLen hv]; exact hi)⟩)⟩
      obtain ⟨z, hz, hdp⟩ := dpAllGetV hv hx
      refine ((step i z R' hz hi).run F σ' Hd' H' x w' (dpMono e' hdp)).mono fun σ2 H2 ⟨Hd2, R2, e2, w2, _, q2⟩ => ?_
      exact (q2.run F σ2 Hd2 H2 w2).mono (turn_le e1 (e'.trans e2) (upD_le e1))
theorem ws_forT {js : List Nat} {it : Expr} {body : List Stmt} (hp : PassesOwn (model X.prog X.w) X.A X.env X.xe) (hc : X.calm = true)
    (h : WE X P it R fun sv R1 => asD sv fun d => ∃ (xs : List D) (I : Nat → DS → Prop), d = .tuple xs ∧ I 0 R1 ∧
      (∀ i x R', xs[i]? = some x → I i R' → WG X P tg js R' x fun R2 => WSs X P body R2 (bodyD (I (i + 1)) D')) ∧ (∀ R', I xs.length R' → D'.nx R'))
    (hs : ∀ x, foldedSetIterable it X.env x = pure x := by intro _; rfl) : WS X P (.For tg it body [] pos) R D' :=
  .of (ps_for hp hc (pi_tup pe_m) pg_m pss_m hs) fun F σ Hd H w => h.fzD.use w fun Hd1 R1 sv v H1 e1 w1 r1 q1 => by
    obtain ⟨d, rfl, xs, I, rfl, i0, step, fin⟩ := q1
    have r' : Dq X.K Hd1 v (.tuple xs) := r1
    cases r' with
    | tup hS hv =>
      rename_i a vs
      refine ⟨a, rfl, ⟨vs, sameT w1.dat (SqT.of hS)⟩, for_tup (fun i σ' H' => up X.K F P Hd1 (I i) σ' H') ⟨Hd1, R1, Same.refl _, w1, i0⟩ (fun i σ' H' _ ⟨Hd', R', e', w', _⟩ => sameT w'.dat (sameT e' (SqT.of hS))) (fun i x σ' H' hx ⟨Hd', R', e', w', hi⟩ => ?_) (fun σ' H' ⟨Hd', R', e', w', hi⟩ => ⟨Hd', R', e1.trans e', w', fin R' (by rw [← dpAllLen hv]; exact hi)⟩)⟩
      obtain ⟨z, hz, hdp⟩ := dpAllGetV hv hx
      refine ((step i z R' hz hi).run F σ' Hd' H' x w' (dpMono e' hdp)).mono fun σ2 H2 ⟨Hd2, R2, e2, w2, _, q2⟩ => ?_
      exact (q2.run F σ2 Hd2 H2 w2).mono (turn_le e1 (e'.trans e2) (upD_le e1))
theorem ws_forR {js : List Nat} {body : List Stmt} {p pc : Pos} (hp : PassesOwn (model X.prog X.w) X.A X.env X.xe) (hc : X.calm = true) (hm : X.mg "range" = none) (hg : Gl X "range")
    (h : WE X P a R fun sv R1 => asI sv fun n => (-(2 ^ 62) ≤ n ∧ n < 2 ^ 62) ∧ ∃ (I : Nat → DS → Prop), I 0 R1 ∧
      (∀ (i : Nat) R', (i : Int) < n → I i R' → WG X P tg js R' (.int (i : Int)) fun R2 => WSs X P body R2 (bodyD (I (i + 1)) D')) ∧ (∀ R', I n.toNat R' → D'.nx R'))
    (ha : starEach [a] X.env = (false, eval a X.env) :: starEach [] X.env := by rfl) (ha2 : starEach [a] X.env = [(false, eval a X.env)] := by rfl)
    (hs : ∀ x, foldedSetIterable (.Call (.Name "range" p) [a] [] pc) X.env x = pure x := by intro _; rfl) : WS X P (.For tg (.Call (.Name "range" p) [a] [] pc) body [] pos) R D' :=
  .of (ps_for hp hc (pi_range1 hg hm (pa_cons pe_m pa_nil ha) ha2) pg_m pss_m hs) fun F σ Hd H w => h.use w fun Hd1 R1 sv v H1 e1 w1 r1 q1 => by
    obtain ⟨n, rfl, hn, I, i0, step, fin⟩ := q1.elim
    cases (show Dq _ _ v (.int n) from r1)
    refine ⟨n, rfl, hn.1, hn.2, for_range (lo := 0) (n := n.toNat) (fun i σ' H' => up X.K F P Hd1 (I i) σ' H') ⟨Hd1, R1, Same.refl _, w1, i0⟩ (fun i σ' H' hi ⟨Hd', R', e', w', hI⟩ => ?_) (fun σ' H' ⟨Hd', R', e', w', hi⟩ => ⟨Hd', R', e1.trans e', w', fin R' hi⟩)⟩
    have e0 : (0 : Int) + (i : Int) = (i : Int) := Int.zero_add _
    rw [e0]
    refine ((step i R' (by omega) hI).run F σ' Hd' H' _ w' (.int (i : Int))).mono fun σ2 H2 ⟨Hd2, R2, e2, w2, _, q2⟩ => ?_
    exact (q2.run F σ2 Hd2 H2 w2).mono (turn_le e1 (e'.trans e2) (upD_le e1))
theorem ws_while {body : List Stmt} (hp : PassesOwn (model X.prog X.w) X.A X.env X.xe) (I : Nat → DS → Prop) (m0 : Nat) (i0 : I m0 R)
    (h : ∀ m R', I m R' → WT X P c R' fun b R2 => (b = true → WSs X P body R2 (bodyD (fun R3 => ∃ m', m' < m ∧ I m' R3) D')) ∧ (b = false → D'.nx R2)) : WS X P (.While c body [] pos) R D' :=
  .of (ps_while hp pt_m pss_m) fun F σ Hd H w => by
    refine ⟨fun m σ' H' => up X.K F P Hd (I m) σ' H', ⟨m0, up_here w i0⟩, fun m σ' H' ⟨Hd', R', e', w', hi⟩ => (h m R' hi).use w' fun Hd2 R2 b H2 e2 w2 q2 => ?_⟩
    cases b with
    | true =>
      refine iteT ⟨up X.K F P Hd (fun R3 => ∃ m', m' < m ∧ I m' R3), fun σ3 H3 ⟨Hd3, R3, e3, w3, m', hm, h3⟩ => ⟨m', hm, Hd3, R3, e3, w3, h3⟩, ((q2.1 rfl).run F σ' Hd2 H2 w2).mono (turn_le (Hd := Hd) (Same.refl _) (e'.trans e2) (upD_le (Same.refl _)))⟩
    | false => exact iteF ⟨Hd2, R2, e'.trans e2, w2, q2.2 rfl⟩
end
end Dl
namespace Dl
open PySem PySem.Spec PyProof.Rows L2
def wipeR (R : DS) : List Nat → DS
  | [] => R
  | v :: vs => (wipeR R vs).set v .no
def NoOwn (R : DS) (σ : L2.St) (a : Addr) : Prop := ∀ (i : Nat) (n : MC), R[i]? = some (SV.own n) → σ[i]? ≠ some (some (V.ref a))
section
variable {K : PySem.W.Frag} {F : Fr} {P : List Nat} {R : DS} {σ : L2.St} {Hd H : Hp} {a : Addr} {o : HO}
theorem wipeR_some {i : Nat} {x : SV} (hx : x ≠ .no) : ∀ {vs : List Nat}, (wipeR R vs)[i]? = some x → R[i]? = some x ∧ i ∉ vs
  | [], h => ⟨h, by simp⟩
  | v :: vs, h => by
    unfold wipeR at h
    by_cases hi : v = i
    · subst hi
      by_cases hv : v < (wipeR R vs).length
      · rw [List.getElem?_set_self hv] at h
        exact absurd (Option.some.inj h).symm hx
      · rw [List.getElem?_eq_none (by simpa using hv)] at h; cases h
    · rw [List.getElem?_set_ne hi] at h
      obtain ⟨h1, h2⟩ := wipeR_some hx h
      exact ⟨h1, by simp only [List.mem_cons, not_or]; exact ⟨fun e => hi e.symm, h2⟩⟩
theorem Wd.wiped (w : Wd K F P R σ Hd H) : ∀ {vs : List Nat}, (∀ v ∈ vs, v ∉ P) → Wd K F P (wipeR R vs) (wipe σ vs) Hd H
  | [], _ => w
  | v :: vs, h => (Wd.wiped w fun x hx => h x (List.mem_cons_of_mem _ hx)).setNo (h v List.mem_cons_self)
theorem Wd.unwipe {vs : List Nat} (w : Wd K F P R (wipe σ vs) Hd H) : Wd K F P R σ Hd H :=
  ⟨w.dat, w.frm, w.len.trans (wipe_length σ vs), fun i x e => by
    obtain ⟨v, e1, e2⟩ := w.val i x e
    exact ⟨v, (wipe_some e1).1, e2⟩, fun i m e => by
    obtain ⟨a, o, e1, e2⟩ := w.own i m e
    exact ⟨a, o, (wipe_some e1).1, e2⟩, fun i j m n a e1 e2 e3 e4 => by
    obtain ⟨a1, o1, f1, _⟩ := w.own i m e1
    obtain ⟨a2, o2, f2, _⟩ := w.own j n e2
    have g1 := (wipe_some f1).1
    have g2 := (wipe_some f2).1
    rw [e3] at g1
    rw [e4] at g2
    cases g1
    cases g2
    exact w.apart i j m n a e1 e2 f1 f2, fun i hi => by
    obtain ⟨m, e1, e2⟩ := w.pin i hi
    exact ⟨m, e1, (wipe_some e2).1⟩, w.prot, w.tabs⟩
def Fr.with (F : Fr) (a : Addr) (o : HO) : Fr := { F with Hf := upd F.Hf a o, Fz := fun b => F.Fz b ∨ b = a }
theorem Wd.enter (w : Wd K F P R σ Hd H) (ha : H a = some o) (hd : Hd a = none) (hn : NoOwn R σ a) (ho : PlainO o := by trivial) : Wd K (F.with a o) P R σ Hd H :=
  ⟨w.dat, fun b u e => by
    by_cases hb : b = a
    · subst hb
      have e' : upd F.Hf b o b = some u := e
      rw [upd_same] at e'
      cases e'
      exact ha
    · have e' : upd F.Hf a o b = some u := e
      rw [upd_ne hb] at e'
      exact w.frm b u e', w.len, w.val, fun i m e => by
    obtain ⟨b, u, e1, e2, e3, e4, e5⟩ := w.own i m e
    have ne : b ≠ a := fun z => by
      subst z
      exact hn i m e e1
    exact ⟨b, u, e1, e2, e3, e4, (upd_ne ne).trans e5⟩, w.apart, w.pin, fun b hb => by
    rcases hb with hb | hb
    · refine ⟨(w.prot b hb).1, ?_⟩
      by_cases z : b = a
      · subst z
        show upd F.Hf b o b ≠ none
        rw [upd_same]
        simp
      · show upd F.Hf a o b ≠ none
        rw [upd_ne z]
        exact (w.prot b hb).2
    · subst hb
      refine ⟨hd, ?_⟩
      show upd F.Hf b o b ≠ none
      rw [upd_same]
      simp, w.tabs.1, w.tabs.2.1, noT_up w.tabs.2.2 ho⟩
theorem Wd.leave (w : Wd K (F.with a o) P R σ Hd H) (hf : F.Hf a = none) (hz : ¬ F.Fz a) : Wd K F P R σ Hd H ∧ H a = some o ∧ Hd a = none ∧ NoOwn R σ a := by
  have ha : H a = some o := w.frm a o upd_same
  refine ⟨⟨w.dat, fun b u e => w.frm b u ((upd_ne (ne_of_none e hf)).trans e), w.len, w.val, fun i m e => ?_, w.apart, w.pin, fun b hb => ?_, w.tabs.1, w.tabs.2.1, fun b ps q => w.tabs.2.2 b ps ((upd_ne (ne_of_none q hf)).trans q)⟩, ha, (w.prot a (.inr rfl)).1, fun i n e z => ?_⟩
  · obtain ⟨b, u, e1, e2, e3, e4, e5⟩ := w.own i m e
    have e5' : upd F.Hf a o b = none := e5
    have ne : b ≠ a := fun z => by
      subst z
      rw [upd_same] at e5'
      cases e5'
    rw [upd_ne ne] at e5'
    exact ⟨b, u, e1, e2, e3, e4, e5'⟩
  · have h := w.prot b (.inl hb)
    have ne : b ≠ a := fun z => hz (z ▸ hb)
    have h2 : upd F.Hf a o b ≠ none := h.2
    rw [upd_ne ne] at h2
    exact ⟨h.1, h2⟩
  · obtain ⟨b, u, e1, _, _, _, e5⟩ := w.own i n e
    rw [z] at e1
    cases e1
    have e5' : upd F.Hf a o a = none := e5
    rw [upd_same] at e5'
    cases e5'
theorem Wd.poke {o0 : HO} (w : Wd K F P R σ Hd H) (ha : H a = some o0) (hb : Bare o0) (hd : Hd a = none) (hf : F.Hf a = none) (hn : NoOwn R σ a) : Wd K F P R σ Hd (upd H a o) :=
  ⟨fun b u e => by
    rw [upd_ne (ne_of_none e hd)]
    exact w.dat b u e, fun b u e => by
    rw [upd_ne (ne_of_none e hf)]
    exact w.frm b u e, w.len, w.val, fun i m e => by
    obtain ⟨b, u, e1, e2, e3, e4, e5⟩ := w.own i m e
    have ne : b ≠ a := fun z => by
      subst z
      exact hn i m e e1
    exact ⟨b, u, e1, by rw [upd_ne ne]; exact e2, e3, e4, e5⟩, w.apart, w.pin, w.prot, tabs_poke w.tabs.1 ha hb, w.tabs.2⟩
theorem NoOwn.wiped {vs : List Nat} (h : NoOwn R σ a) : NoOwn (wipeR R vs) (wipe σ vs) a := fun i n e z =>
  h i n (wipeR_some (by intro y; cases y) e).1 (wipe_some z).1
theorem NoOwn.unwipe {vs : List Nat} (h : NoOwn R (wipe σ vs) a) (w : Wd K F P R (wipe σ vs) Hd H) : NoOwn R σ a := fun i n e z => by
  obtain ⟨b, u, e1, _⟩ := w.own i n e
  have e2 := (wipe_some e1).1
  rw [z] at e2
  cases e2
  exact h i n e e1
end

theorem wipe_in : ∀ (l : List Nat) (τ : L2.St) (vs : List Nat), (∀ v ∈ l, v ∈ vs) → wipe (wipe τ vs) l = wipe τ vs
  | [], _, _, _ => rfl
  | v :: l, τ, vs, hl => by
    show (wipe (wipe τ vs) l).set v none = wipe τ vs
    rw [wipe_in l τ vs fun y hy => hl y (List.mem_cons_of_mem _ hy)]
    have hv : v ∈ vs := hl v List.mem_cons_self
    apply List.ext_getElem?
    intro k
    by_cases hk : v = k
    · subst hk
      by_cases hv2 : v < (wipe τ vs).length
      · rw [List.getElem?_set_self hv2]
        cases q : (wipe τ vs)[v]? with
        | none => rw [List.getElem?_eq_none_iff] at q; omega
        | some y =>
          cases y with
          | none => rfl
          | some z => exact absurd hv (wipe_some q).2
      · rw [List.getElem?_eq_none (by simpa using hv2), List.getElem?_eq_none (by omega)]
    · rw [List.getElem?_set_ne hk]
theorem wipe_wipe (τ : L2.St) (vs : List Nat) : wipe (wipe τ vs) vs = wipe τ vs := wipe_in vs τ vs fun _ h => h

/-! comprehensions -/
def AllB (X : Cx) (scope : Scope) (f : Cx → Prop) : Prop := ∀ (s : Shared) (H : Hp) (C : Addr) (cl : List (Str × Addr)) (fp : List Addr), f (X.blk s H scope (compEnvC scope cl C X.env) fp)
def gB (X : Cx) (scope : Scope) (tg : Expr) : TG := fun v σ H Z => AllB X scope fun Y => TGm Y tg v σ H Z
def teB (X : Cx) (scope : Scope) (e : Expr) : TE := fun σ H Z => AllB X scope fun Y => TEm Y e σ H Z
def ttB (X : Cx) (scope : Scope) (c : Expr) : TT := fun σ H Z => AllB X scope fun Y => TTm Y c σ H Z
/-- where a comprehension stands ahead of turn i -/
def Lp (K : PySem.W.Frag) (F : Fr) (P : List Nat) (τ : L2.St) (Hd1 : Hp) (I : Nat → List D → DS → Prop) (Dl : Addr) (i : Nat) (H' : Hp) : Prop :=
  ∃ Hd' R' va acc, Same Hd1 Hd' ∧ Wd K F P R' τ Hd' H' ∧ H' Dl = some (.lst va) ∧ DqAll K Hd' va acc ∧ Hd' Dl = none ∧ NoOwn R' τ Dl ∧ acc.length ≤ i ∧ I i acc R'
section
variable {X : Cx} {P : List Nat} {R : DS} {elt tg it c : Expr} {scope : Scope} {own : List (Str × Nat)} {js : List Nat} {pos : Pos} {Q : SV → DS → Prop}
/-- one turn, no test -/
def Tn0 (X : Cx) (P : List Nat) (scope : Scope) (tg elt : Expr) (js vs : List Nat) (I : Nat → List D → DS → Prop) (i : Nat) (acc : List D) (x : D) (R' : DS) : Prop :=
  AllB X scope fun Y => WG Y P tg js R' x fun R2 => AllB X scope fun Y => WE Y P elt R2 fun y R4 => asD y fun z => I (i + 1) (acc ++ [z]) (wipeR R4 vs)
def Tn1 (X : Cx) (P : List Nat) (scope : Scope) (tg c elt : Expr) (js vs : List Nat) (I : Nat → List D → DS → Prop) (i : Nat) (acc : List D) (x : D) (R' : DS) : Prop :=
  AllB X scope fun Y => WG Y P tg js R' x fun R2 => AllB X scope fun Y => WT Y P c R2 fun b R3 =>
    (b = true → AllB X scope fun Y => WE Y P elt R3 fun y R4 => asD y fun z => I (i + 1) (acc ++ [z]) (wipeR R4 vs)) ∧ (b = false → I (i + 1) acc (wipeR R3 vs))
theorem lp_push {F : Fr} {σ σ2 : L2.St} {vs : List Nat} {Hd1 Hd2 : Hp} {Dl : Addr} {I : Nat → List D → DS → Prop} {i : Nat} {acc : List D} {va : List V} (hf : F.Hf Dl = none) (hz : ¬ F.Fz Dl) (hvs : ∀ v ∈ vs, v ∉ P) (hw : wipe σ2 vs = wipe σ vs)
    (hl : acc.length ≤ i) (hi : i < sizeLine) {R3 : DS} {H3 : Hp} (e : Same Hd1 Hd2) (w : Wd X.K (F.with Dl (.lst va)) P R3 σ2 Hd2 H3) (hv : DqAll X.K Hd2 va acc)
    (h : AllB X scope fun Y => WE Y P elt R3 fun y R4 => asD y fun z => I (i + 1) (acc ++ [z]) (wipeR R4 vs)) :
    teB X scope elt σ2 H3 fun y H4 => ∃ acc', H4 Dl = some (.lst acc') ∧ acc'.length < sizeLine ∧ Lp X.K F P (wipe σ vs) Hd1 I Dl (i + 1) (upd H4 Dl (.lst (acc' ++ [y]))) :=
  fun s H0 C cl fp => (h s H0 C cl fp).fzD.use w fun Hd4 R4 y u H4 e4 w4 r4 q4 => by
    obtain ⟨z, rfl, q⟩ := q4
    obtain ⟨w5, g1, g2, g3⟩ := Wd.leave w4 hf hz
    refine ⟨va, g1, by rw [dpAllLen hv]; omega, Hd4, wipeR R4 vs, va ++ [u], acc ++ [z], e.trans e4, ?_, upd_same, dpAllApp (dpAllMono e4 hv) (.cons r4 .nil), g2, ?_, by rw [List.length_append]; simpa using hl, q⟩
    · rw [← hw]
      exact (w5.poke g1 (crp_bare (crL (K := X.K) (dpAllMono e4 hv))) g2 hf g3).wiped hvs
    · rw [← hw]
      exact g3.wiped
theorem lp_skip {F : Fr} {σ σ2 : L2.St} {vs : List Nat} {Hd1 Hd2 : Hp} {Dl : Addr} {I : Nat → List D → DS → Prop} {i : Nat} {acc : List D} {va : List V} (hf : F.Hf Dl = none) (hz : ¬ F.Fz Dl) (hvs : ∀ v ∈ vs, v ∉ P) (hw : wipe σ2 vs = wipe σ vs)
    (hl : acc.length ≤ i) {R3 : DS} {H3 : Hp} (e : Same Hd1 Hd2) (w : Wd X.K (F.with Dl (.lst va)) P R3 σ2 Hd2 H3) (hv : DqAll X.K Hd2 va acc) (h : I (i + 1) acc (wipeR R3 vs)) : Lp X.K F P (wipe σ vs) Hd1 I Dl (i + 1) H3 := by
  obtain ⟨w5, g1, g2, g3⟩ := Wd.leave w hf hz
  refine ⟨Hd2, wipeR R3 vs, va, acc, e, ?_, g1, hv, g2, ?_, by omega, h⟩
  · rw [← hw]
    exact w5.wiped hvs
  · rw [← hw]
    exact g3.wiped

/-- what a turn leads to -/
def Nxt (X : Cx) (scope : Scope) (elt : Expr) (F : Fr) (P : List Nat) (τ : L2.St) (Hd1 : Hp) (I : Nat → List D → DS → Prop) (Dl : Addr) (i : Nat) (σ2 : L2.St) (b : Bool) (H3 : Hp) : Prop :=
  if b = true then teB X scope elt σ2 H3 fun y H4 => ∃ acc, H4 Dl = some (.lst acc) ∧ acc.length < sizeLine ∧ Lp X.K F P τ Hd1 I Dl (i + 1) (upd H4 Dl (.lst (acc ++ [y]))) else Lp X.K F P τ Hd1 I Dl (i + 1) H3
theorem lp_turn0 {F : Fr} {σ : L2.St} {vs : List Nat} {Hd1 : Hp} {Dl : Addr} {I : Nat → List D → DS → Prop} {i : Nat} {x : V} {H : Hp} (hf : F.Hf Dl = none) (hz : ¬ F.Fz Dl) (hvs : ∀ v ∈ vs, v ∉ P) (hj : ∀ j ∈ js, j ∈ vs) (hi : i < sizeLine)
    (h : Lp X.K F P (wipe σ vs) Hd1 I Dl i H) (step : ∀ Hd' R' acc, Same Hd1 Hd' → I i acc R' → ∃ d, Dq X.K Hd' x d ∧ Tn0 X P scope tg elt js vs I i acc d R') :
    gB X scope tg x (wipe σ vs) H fun σ2 H2 => wipe σ2 vs = wipe σ vs ∧ tYes σ2 H2 (Nxt X scope elt F P (wipe σ vs) Hd1 I Dl i σ2) := by
  obtain ⟨Hd', R', va, acc, e, w, h1, h2, h3, h4, h5, h6⟩ := h
  obtain ⟨d, hd, tn⟩ := step Hd' R' acc e h6
  intro s H0 C cl fp
  refine ((tn s H0 C cl fp).run (F.with Dl (.lst va)) _ Hd' H x (w.enter h1 h3 h4) hd).mono fun σ2 H2 ⟨Hd2, R2, e2, w2, wp, q2⟩ => ?_
  have hw : wipe σ2 vs = wipe σ vs := by rw [wp vs hj, wipe_wipe]
  refine ⟨hw, ?_⟩
  show Nxt X scope elt F P (wipe σ vs) Hd1 I Dl i σ2 true H2
  exact iteT (lp_push hf hz hvs hw h5 hi (e.trans e2) w2 (dpAllMono e2 h2) q2)
theorem lp_turn1 {F : Fr} {σ : L2.St} {vs : List Nat} {Hd1 : Hp} {Dl : Addr} {I : Nat → List D → DS → Prop} {i : Nat} {x : V} {H : Hp} (hf : F.Hf Dl = none) (hz : ¬ F.Fz Dl) (hvs : ∀ v ∈ vs, v ∉ P) (hj : ∀ j ∈ js, j ∈ vs) (hi : i < sizeLine)
    (h : Lp X.K F P (wipe σ vs) Hd1 I Dl i H) (step : ∀ Hd' R' acc, Same Hd1 Hd' → I i acc R' → ∃ d, Dq X.K Hd' x d ∧ Tn1 X P scope tg c elt js vs I i acc d R') :
    gB X scope tg x (wipe σ vs) H fun σ2 H2 => wipe σ2 vs = wipe σ vs ∧ ttB X scope c σ2 H2 (Nxt X scope elt F P (wipe σ vs) Hd1 I Dl i σ2) := by
  obtain ⟨Hd', R', va, acc, e, w, h1, h2, h3, h4, h5, h6⟩ := h
  obtain ⟨d, hd, tn⟩ := step Hd' R' acc e h6
  intro s H0 C cl fp
  refine ((tn s H0 C cl fp).run (F.with Dl (.lst va)) _ Hd' H x (w.enter h1 h3 h4) hd).mono fun σ2 H2 ⟨Hd2, R2, e2, w2, wp, q2⟩ => ?_
  have hw : wipe σ2 vs = wipe σ vs := by rw [wp vs hj, wipe_wipe]
  refine ⟨hw, fun s H0 C cl fp => (q2 s H0 C cl fp).use w2 fun Hd3 R3 b H3 e3 w3 q3 => ?_⟩
  cases b with
  | true => exact iteT (lp_push hf hz hvs hw h5 hi ((e.trans e2).trans e3) w3 (dpAllMono (e2.trans e3) h2) (q3.1 rfl))
  | false => exact iteF (lp_skip hf hz hvs hw h5 ((e.trans e2).trans e3) w3 (dpAllMono (e2.trans e3) h2) (q3.2 rfl))
theorem lp_start {F : Fr} {σ : L2.St} {vs : List Nat} {Hd1 H1 : Hp} {Dl : Addr} {I : Nat → List D → DS → Prop} {R1 : DS} (w : Wd X.K F P R1 σ Hd1 H1) (hD : H1 Dl = none) (hvs : ∀ v ∈ vs, v ∉ P) (h : I 0 [] (wipeR R1 vs)) :
    Lp X.K F P (wipe σ vs) Hd1 I Dl 0 (upd H1 Dl (.lst [])) ∧ F.Hf Dl = none ∧ ¬ F.Fz Dl := by
  have hf : F.Hf Dl = none := sameNone w.frm hD
  have no : NoOwn R1 σ Dl := fun i n e z => by
    obtain ⟨b, u, e1, e2, _⟩ := w.own i n e
    rw [z] at e1
    cases e1
    rw [hD] at e2
    cases e2
  exact ⟨⟨Hd1, _, [], [], Same.refl _, (w.allocH hD).wiped hvs, upd_same, .nil, sameNone w.dat hD, no.wiped, Nat.le_refl _, h⟩, hf, fun z => (w.prot Dl z).2 hf⟩
theorem lp_end {F : Fr} {σ : L2.St} {vs : List Nat} {Hd1 H : Hp} {Dl : Addr} {I : Nat → List D → DS → Prop} {n : Nat} {Q : SV → DS → Prop} (hf : F.Hf Dl = none) (h : Lp X.K F P (wipe σ vs) Hd1 I Dl n H) (fin : ∀ acc R', I n acc R' → Q (.own (.lst acc)) R') : Post X.K F P σ Hd1 Q (.ref Dl) H := by
  obtain ⟨Hd', R', va, acc, e, w, h1, h2, h3, h4, h5, h6⟩ := h
  exact ⟨Hd', R', .own (.lst acc), e, w.unwipe, ⟨Dl, _, rfl, h1, crL h2, h3, hf, h4.unwipe w⟩, fin acc R' h6⟩
/-- the three sources -/
inductive Src (X : Cx) (P : List Nat) (R : DS) : Expr → (List D → DS → Prop) → Prop where
  | list {it : Expr} {G : List D → DS → Prop} (h : WE X P it R fun sv R1 => asD sv fun d => ∃ xs, d = .list xs ∧ G xs R1) : Src X P R it G
  | tup {it : Expr} {G : List D → DS → Prop} (h : WE X P it R fun sv R1 => asD sv fun d => ∃ xs, d = .tuple xs ∧ G xs R1) : Src X P R it G
  | rng {a : Expr} {p pos : Pos} {G : List D → DS → Prop} (hm : X.mg "range" = none) (hg : Gl X "range") (ha : starEach [a] X.env = (false, eval a X.env) :: starEach [] X.env) (ha2 : starEach [a] X.env = [(false, eval a X.env)])
      (h : WE X P a R fun sv R1 => asI sv fun n => (-(2 ^ 62) ≤ n ∧ n < 2 ^ 62) ∧ G ((List.range n.toNat).map fun i : Nat => .int (i : Int)) R1) : Src X P R (.Call (.Name "range" p) [a] [] pos) G
/-- the reading of a comprehension: with tests as tt -/
theorem lc_core {tt : TT} {vs : List Nat} {Tn : (Nat → List D → DS → Prop) → Nat → List D → D → DS → Prop} {G : (List D → DS → Prop)}
    (turn : ∀ (F : Fr) (σ : L2.St) (Hd1 : Hp) (Dl : Addr) (I : Nat → List D → DS → Prop) (i : Nat) (x : V) (H : Hp), F.Hf Dl = none → ¬ F.Fz Dl → i < sizeLine → Lp X.K F P (wipe σ vs) Hd1 I Dl i H →
      (∀ Hd' R' acc, Same Hd1 Hd' → I i acc R' → ∃ d, Dq X.K Hd' x d ∧ Tn I i acc d R') → gB X scope tg x (wipe σ vs) H fun σ2 H2 => wipe σ2 vs = wipe σ vs ∧ tt σ2 H2 (Nxt X scope elt F P (wipe σ vs) Hd1 I Dl i σ2))
    (hvs : ∀ v ∈ vs, v ∉ P)
    (hG : ∀ xs R1, G xs R1 → xs.length ≤ sizeLine ∧ ∃ I : Nat → List D → DS → Prop, I 0 [] (wipeR R1 vs) ∧ (∀ i x acc R', xs[i]? = some x → I i acc R' → Tn I i acc x R') ∧ ∀ acc R', I xs.length acc R' → Q (.own (.lst acc)) R')
    (hsrc : Src X P R it G) : ∃ wi, PI X tg it wi ∧ Fits X P R (tLc wi (gB X scope tg) tt (teB X scope elt) vs) Q := by
  cases hsrc with
  | list h =>
    refine ⟨_, pi_list pe_m, fun F σ Hd H w Z hZ => h.fzD.use w fun Hd1 R1 sv v H1 e1 w1 r1 q1 => ?_⟩
    obtain ⟨d, rfl, xs, rfl, g⟩ := q1
    obtain ⟨hl, I, i0, step, fin⟩ := hG xs R1 g
    have r' : Dq X.K Hd1 v (.list xs) := r1
    cases r' with
    | lst hS hv =>
      rename_i a ws
      refine ⟨a, rfl, ⟨ws, w1.dat.seq hS⟩, fun Dl hD => ?_⟩
      obtain ⟨l0, hf, hz⟩ := lp_start (vs := vs) w1 hD hvs i0
      refine lc_list (K := X.K) (xs := ws) (Lp X.K F P (wipe σ vs) Hd1 I Dl) l0 (fun i H' _ ⟨Hd', R', va, acc, e', w', _⟩ => w'.dat.seq (e'.seq hS)) (fun i x H' hx hL => ?_) (fun H' hL => hZ _ _ (.same e1 (lp_end hf (by rw [dpAllLen hv] at hL; exact hL) fin)))
      obtain ⟨z, hz1, hdp⟩ := dpAllGetV hv hx
      have hi : i < xs.length := (List.getElem?_eq_some_iff.mp hz1).1
      exact turn F σ Hd1 Dl I i x H' hf hz (by omega) hL fun Hd' R' acc e' hI => ⟨z, dpMono e' hdp, step i z acc R' hz1 hI⟩
  | tup h =>
    refine ⟨_, pi_tup pe_m, fun F σ Hd H w Z hZ => h.fzD.use w fun Hd1 R1 sv v H1 e1 w1 r1 q1 => ?_⟩
    obtain ⟨d, rfl, xs, rfl, g⟩ := q1
    obtain ⟨hl, I, i0, step, fin⟩ := hG xs R1 g
    have r' : Dq X.K Hd1 v (.tuple xs) := r1
    cases r' with
    | tup hS hv =>
      rename_i a ws
      refine ⟨a, rfl, ⟨ws, sameT w1.dat (SqT.of hS)⟩, fun Dl hD => ?_⟩
      obtain ⟨l0, hf, hz⟩ := lp_start (vs := vs) w1 hD hvs i0
      refine lc_tup (K := X.K) (xs := ws) (Lp X.K F P (wipe σ vs) Hd1 I Dl) l0 (fun i H' _ ⟨Hd', R', va, acc, e', w', _⟩ => sameT w'.dat (sameT e' (SqT.of hS))) (fun i x H' hx hL => ?_) (fun H' hL => hZ _ _ (.same e1 (lp_end hf (by rw [dpAllLen hv] at hL; exact hL) fin)))
      obtain ⟨z, hz1, hdp⟩ := dpAllGetV hv hx
      have hi : i < xs.length := (List.getElem?_eq_some_iff.mp hz1).1
      exact turn F σ Hd1 Dl I i x H' hf hz (by omega) hL fun Hd' R' acc e' hI => ⟨z, dpMono e' hdp, step i z acc R' hz1 hI⟩
  | rng hm hg ha ha2 h =>
    refine ⟨_, pi_range1 hg hm (pa_cons pe_m pa_nil ha) ha2, fun F σ Hd H w Z hZ => h.use w fun Hd1 R1 sv v H1 e1 w1 r1 q1 => ?_⟩
    obtain ⟨n, rfl, hn, g⟩ := q1.elim
    cases (show Dq _ _ v (.int n) from r1)
    obtain ⟨hl, I, i0, step, fin⟩ := hG _ R1 g
    rw [List.length_map, List.length_range] at hl fin
    refine ⟨n, rfl, hn.1, hn.2, fun Dl hD => ?_⟩
    obtain ⟨l0, hf, hz⟩ := lp_start (vs := vs) w1 hD hvs i0
    refine lc_range (lo := 0) (n := n.toNat) (Lp X.K F P (wipe σ vs) Hd1 I Dl) l0 (fun i H' hi hL => ?_) (fun H' hL => hZ _ _ (.same e1 (lp_end hf hL fin)))
    have e0 : (0 : Int) + (i : Int) = (i : Int) := Int.zero_add _
    rw [e0]
    exact turn F σ Hd1 Dl I i _ H' hf hz (by omega) hL fun Hd' R' acc e' hI => ⟨.int (i : Int), .int _, step i _ acc R' (by rw [List.getElem?_map, List.getElem?_range hi]; rfl) hI⟩
/-- what is asked of a comprehension -/
structure LcG (Q : SV → DS → Prop) (Tn : (Nat → List D → DS → Prop) → Nat → List D → D → DS → Prop) (vs : List Nat) (xs : List D) (R1 : DS) : Prop where
  ex : xs.length ≤ sizeLine ∧ ∃ I : Nat → List D → DS → Prop, I 0 [] (wipeR R1 vs) ∧ (∀ i x acc R', xs[i]? = some x → I i acc R' → Tn I i acc x R') ∧ ∀ acc R', I xs.length acc R' → Q (.own (.lst acc)) R'
theorem we_lc0 (own : List (Str × Nat)) (js : List Nat) (hc : X.calm = true) (hN : X.N.Nodup) (ok : BlkOk X.N X.env.scope scope own) (hvs : ∀ v ∈ own.map (·.2), v ∉ P) (hj : ∀ j ∈ js, j ∈ own.map (·.2))
    (h : Src X P R it (LcG Q (Tn0 X P scope tg elt js (own.map (·.2))) (own.map (·.2)))) (hs : ∀ x, foldedSetIterable it X.env x = pure x := by intro _; rfl) : WE X P (.ListComp elt [⟨tg, it, [], 0⟩] scope pos) R Q := by
  obtain ⟨wi, pi, f⟩ := lc_core (tg := tg) (elt := elt) (scope := scope) (tt := tYes) (Q := Q) (Tn := Tn0 X P scope tg elt js (own.map (·.2))) (fun F σ Hd1 Dl I i x H hf hz hi hL step => lp_turn0 hf hz hvs hj hi hL step) hvs (fun xs R1 g => g.ex) h
  exact .fit (pe_lc (own := own) hc hN pi ok (fun s H C cl fp => ⟨fun pins s' σ H' v u Z I r h => h s H C cl fp pins s' u I r⟩) (fun _ _ _ _ _ => pts_nil) (fun s H C cl fp => ⟨fun pins s' σ H' Z I h => h s H C cl fp pins s' I⟩) hs) f
theorem we_lc1 (own : List (Str × Nat)) (js : List Nat) (hc : X.calm = true) (hN : X.N.Nodup) (ok : BlkOk X.N X.env.scope scope own) (hvs : ∀ v ∈ own.map (·.2), v ∉ P) (hj : ∀ j ∈ js, j ∈ own.map (·.2))
    (h : Src X P R it (LcG Q (Tn1 X P scope tg c elt js (own.map (·.2))) (own.map (·.2)))) (hs : ∀ x, foldedSetIterable it X.env x = pure x := by intro _; rfl) : WE X P (.ListComp elt [⟨tg, it, [c], 0⟩] scope pos) R Q := by
  obtain ⟨wi, pi, f⟩ := lc_core (tg := tg) (elt := elt) (scope := scope) (tt := ttB X scope c) (Q := Q) (Tn := Tn1 X P scope tg c elt js (own.map (·.2))) (fun F σ Hd1 Dl I i x H hf hz hi hL step => lp_turn1 hf hz hvs hj hi hL step) hvs (fun xs R1 g => g.ex) h
  exact .fit (pe_lc (own := own) hc hN pi ok (fun s H C cl fp => ⟨fun pins s' σ H' v u Z I r h => h s H C cl fp pins s' u I r⟩) (fun s H C cl fp => pts_one ⟨fun pins s' σ H' Z I h => h s H C cl fp pins s' I⟩) (fun s H C cl fp => ⟨fun pins s' σ H' Z I h => h s H C cl fp pins s' I⟩) hs) f
/-- name = [..] -/
theorem ws_setLc0 {i : Nat} {y : Str} {py spos : Pos} {D' : DEnds} (own : List (Str × Nat)) (js : List Nat) (hc : X.calm = true) (hN : X.N.Nodup) (hy : X.N[i]? = some y) (hyl : X.env.scope.names.lookup y = some .local)
    (hsw : swapsWith (.ListComp elt [⟨tg, it, [], 0⟩] scope pos) (some (.Name y py)) spos.line X.env = pure true) (ok : BlkOk X.N X.env.scope scope own) (hP : i ∉ P) (hvs : ∀ v ∈ own.map (·.2), v ∉ P) (hj : ∀ j ∈ js, j ∈ own.map (·.2))
    (h : Src X P R it (LcG (fun sv R1 => put i R1 D'.nx sv) (Tn0 X P scope tg elt js (own.map (·.2))) (own.map (·.2)))) (hs : ∀ x, foldedSetIterable it X.env x = pure x := by intro _; rfl) : WS X P (.Assign [.Name y py] (.ListComp elt [⟨tg, it, [], 0⟩] scope pos) spos) R D' := by
  obtain ⟨wi, pi, f⟩ := lc_core (tg := tg) (elt := elt) (scope := scope) (tt := tYes) (Q := fun sv R1 => put i R1 D'.nx sv) (Tn := Tn0 X P scope tg elt js (own.map (·.2))) (fun F σ Hd1 Dl I i x H hf hz hi hL step => lp_turn0 hf hz hvs hj hi hL step) hvs (fun xs R1 g => g.ex) h
  exact .of (ps_setLc (own := own) hc hN hy hyl hsw pi ok (fun s H C cl fp => ⟨fun pins s' σ H' v u Z I r h => h s H C cl fp pins s' u I r⟩) (fun _ _ _ _ _ => pts_nil) (fun s H C cl fp => ⟨fun pins s' σ H' Z I h => h s H C cl fp pins s' I⟩) hs) fun F σ Hd H w => f F σ Hd H w _ fun v H' ⟨Hd', R', sv, e1, w1, r1, q1⟩ => up_same e1 (put_ok w1 r1 hP q1)
theorem ws_setLc1 {i : Nat} {y : Str} {py spos : Pos} {D' : DEnds} (own : List (Str × Nat)) (js : List Nat) (hc : X.calm = true) (hN : X.N.Nodup) (hy : X.N[i]? = some y) (hyl : X.env.scope.names.lookup y = some .local)
    (hsw : swapsWith (.ListComp elt [⟨tg, it, [c], 0⟩] scope pos) (some (.Name y py)) spos.line X.env = pure true) (ok : BlkOk X.N X.env.scope scope own) (hP : i ∉ P) (hvs : ∀ v ∈ own.map (·.2), v ∉ P) (hj : ∀ j ∈ js, j ∈ own.map (·.2))
    (h : Src X P R it (LcG (fun sv R1 => put i R1 D'.nx sv) (Tn1 X P scope tg c elt js (own.map (·.2))) (own.map (·.2)))) (hs : ∀ x, foldedSetIterable it X.env x = pure x := by intro _; rfl) : WS X P (.Assign [.Name y py] (.ListComp elt [⟨tg, it, [c], 0⟩] scope pos) spos) R D' := by
  obtain ⟨wi, pi, f⟩ := lc_core (tg := tg) (elt := elt) (scope := scope) (tt := ttB X scope c) (Q := fun sv R1 => put i R1 D'.nx sv) (Tn := Tn1 X P scope tg c elt js (own.map (·.2))) (fun F σ Hd1 Dl I i x H hf hz hi hL step => lp_turn1 hf hz hvs hj hi hL step) hvs (fun xs R1 g => g.ex) h
  exact .of (ps_setLc (own := own) hc hN hy hyl hsw pi ok (fun s H C cl fp => ⟨fun pins s' σ H' v u Z I r h => h s H C cl fp pins s' u I r⟩) (fun s H C cl fp => pts_one ⟨fun pins s' σ H' Z I h => h s H C cl fp pins s' I⟩) (fun s H C cl fp => ⟨fun pins s' σ H' Z I h => h s H C cl fp pins s' I⟩) hs) fun F σ Hd H w => f F σ Hd H w _ fun v H' ⟨Hd', R', sv, e1, w1, r1, q1⟩ => up_same e1 (put_ok w1 r1 hP q1)
end
end Dl
namespace Dl
open PySem PySem.Spec PyProof.Rows L2
/-! defs, where nothing else is being shown around them -/
structure FnG (Pg : Program) (w : World) (K : PySem.W.Frag) (mg : Str → Option Value) (base : Heap) (CX : CXT) (k : Nat) (f : Addr) (fd : FuncData) (ps : List Str) (sp : Sp) : Prop where
  len : ∀ vs H Q E, sp vs H Q E → vs.length = ps.length
  run : ∀ (A : Around) (outer : List Env) (s : Shared) (H : Hp) (args : Args) (us : List Value) (vs : List V) (Q : VK) (E : XK), A.guards = some [] → Room k A → Env0 Pg w K mg base A outer s H → BindsTo s fd args (ps.zip us) → Vals vs us → sp vs H Q E →
    codeAny (model Pg w) A (.call (.ref f) args) (CR CX outer Pg w H s Q E) s
theorem FnG.up {Pg : Program} {w : World} {K : PySem.W.Frag} {mg : Str → Option Value} {base : Heap} {CX : CXT} {j k : Nat} {f : Addr} {fd : FuncData} {ps : List Str} {sp : Sp} (G : FnG Pg w K mg base CX j f fd ps sp) (h : j ≤ k) : FnG Pg w K mg base CX k f fd ps sp :=
  ⟨G.len, fun A outer s H args us vs Q E g r => G.run A outer s H args us vs Q E g (r.mono h)⟩
theorem fnG_of {CX : CXT} {Pg : Program} {w : World} {K : PySem.W.Frag} {mg : Str → Option Value} {base : Heap} {k : Nat} {x qual : Str} {st : Stmt} {f : Addr} {fd : FuncData} {N ps : List Str} {sp : Sp} (Fu : Fun K x qual st f fd) (S : FnScope N ps (defScope st))
    (len : ∀ vs H Q E, sp vs H Q E → vs.length = ps.length)
    (body : ∀ (cdv : Value) (A : Around) (outer : List Env) (s : Shared) (H : Hp) (vs : List V) (Q : VK) (E : XK), A.guards = some [] → Room k (A.deeper (envOfC qual (defScope st) s.heap.objs.size f cdv)) → sp vs H Q E →
      TSsm (cxOf CX Pg w K mg base N qual (defScope st) f cdv A outer s H E) (defBody st) { nx := fun _ H' => Q .non H', rt := Q } (start N vs) H) : FnG Pg w K mg base CX (k + 1) f fd ps sp := by
  obtain ⟨oc, od, kV, doc, pm, an, cdv, ct, osl, rfl, lk, hcd⟩ := Fu.ex
  refine ⟨len, fun A outer s H args us vs Q E hgd hr e0 hb r hsp => ?_⟩
  have hl : vs.length = ps.length := len _ _ _ _ hsp
  have kn : K.In s.heap := e0.mod.kin.keeps (h := base) fun b o q => (e0.bs b o q).1
  have lm : s.heap.NoLimit := e0.mod.nolimit.keeps (h := base) fun b o q => (e0.bs b o q).1
  refine codeAny_call_function hr.depth (kn _ _ lk) rfl S.co S.gen rfl (PySem.W.codeRec_of kn hcd) (hb _ _ _ _ (wpAny_newFunctionEnv_cells S.kind (fun y hy => ?_) fun env he s1 nw => ?_))
  · obtain ⟨n, v⟩ := y
    exact (S.par n (List.of_mem_zip hy).1).imp id fun q => ⟨q, PySem.W.cellsFrom_some _ _ _ (.inl q)⟩
  · subst he
    refine ⟨lm.keeps nw.toInCall.keep, codeAny_func ?_⟩
    have J := inv_start (CX := CX) (E := E) S hr.hd e0 hl r nw
    refine wpAny_mono (body cdv A outer s H vs Q E hgd (hr.deeper _) hsp [] s1 J) (fun fl s' hs => ?_) (fun e s' hs => hs)
    have done : ∀ {τ : L2.St} {H' : Hp} {v : V} {u : Value}, Inv (cxOf CX Pg w K mg base N qual (defScope st) f cdv A outer s H E) [] τ H' s' → RelV v u → Q v H' → CE outer Pg w H s Q u s' := fun {_ H' v _} I2 rv q => ⟨v, H', I2.os, I2.bare, I2.base, I2.hok, rv, q⟩
    cases fl with
    | next =>
      obtain ⟨τ, H', I2, q⟩ := hs
      exact done (v := V.non) (u := Value.none) I2 rfl q
    | ret u =>
      obtain ⟨v, τ, H', I2, rv, q⟩ := hs
      exact done I2 rv q
    | brk => exact hs.elim fun _ ⟨_, _, q⟩ => (q : False).elim
    | cont => exact hs.elim fun _ ⟨_, _, q⟩ => (q : False).elim
section
variable {X : Cx} {CX : CXT} {k : Nat} {f : Addr} {fd : FuncData} {ps : List Str} {sp : Sp} {ds : List Value} {dvs : List V} {E : XK} {x : Str} {p pos : Pos} {e : Expr} {es : List Expr} {t : TA}
theorem goG {pins : List (Addr × Obj)} {σ : L2.St} {H : Hp} {s : Shared} {Q : VK} {us : List Value} {vs : List V} (G : FnG X.prog X.w X.K X.mg X.base CX k f fd ps sp) (hgd : X.A.guards = some []) (hr : Room k X.A) (hb : Binds X.K fd ps ds) (hd : Vals dvs ds) (hx : Passes CX X E)
    (I : Inv X pins σ H s) (r : Vals vs us) (h : sp (vs ++ dvs) H Q E) : wpAny (model X.prog X.w) X.A (call (.ref f) us) (EP X pins σ Q) X.xe s := by
  have r2 := r.append hd
  have hl : (us ++ ds).length = ps.length := r2.length.symm.trans (G.len _ _ _ _ h)
  refine wpAny_call (codeAny_mono (G.run X.A X.stack s H _ _ _ Q E hgd hr I.env0 (hb s us I.kIn hl) r2 h) fun res s' hq => ?_)
  match res, hq with
  | .error ex, hq => exact hx pins σ H s ex s' I hq
  | .ok (.ret u), hq => exact I.after hq
  | .ok .next, hq => exact (hq : False).elim
  | .ok .brk, hq => exact (hq : False).elim
  | .ok .cont, hq => exact (hq : False).elim
theorem pe_callG (G : FnG X.prog X.w X.K X.mg X.base CX k f fd ps sp) (hgd : X.A.guards = some []) (hr : Room k X.A) (hg : Gl X x) (hm : X.mg x = some (.ref f)) (hk : PySem.W.keepIn X.K (.ref f) = true) (hb : Binds X.K fd ps ds) (hd : Vals dvs ds) (hx : Passes CX X E) (ha : PA X (e :: es) t)
    (hdb : (x == ("__debug__" : Str)) = false := by decide) (he : starEach (e :: es) X.env = (false, eval e X.env) :: starEach es X.env := by rfl) (hpl : (backTo pos (starEach es X.env)).any (·.1) = false := by rfl) : PE X (.Call (.Name x p) (e :: es) [] pos) (tCall sp dvs E t) :=
  ⟨fun pins s σ H Q I h => wpAny_Call_Name_kw (ld_glob I hg hm (PySem.W.callWith_K (h₀ := X.base) I.ok.mod.kin hk (thn (ha.run pos pins s σ H _ I h) fun us s1 ⟨vs, H1, I1, r, q⟩ => ⟨I1.kIn, goG G hgd hr hb hd hx I1 r q⟩) he hpl) hdb)⟩
end

/-! promises over data -/
abbrev SpD := DS → (SV → DS → Prop) → Prop
def isOwn : SV → Bool
  | .own _ => true
  | _ => false
def ownIx (R : DS) : List Nat := (List.range R.length).filter fun i => isOwn (R.getD i .no)
theorem mem_ownIx {R : DS} {i : Nat} : i ∈ ownIx R ↔ ∃ m, R[i]? = some (.own m) := by
  unfold ownIx
  rw [List.mem_filter, List.mem_range]
  constructor
  · rintro ⟨h1, h2⟩
    rw [List.getD_eq_getElem?_getD, List.getElem?_eq_getElem h1] at h2
    rw [List.getElem?_eq_getElem h1]
    simp only [Option.getD_some] at h2
    cases q : R[i] with
    | own m => exact ⟨m, rfl⟩
    | no => rw [q] at h2; cases h2
    | d x => rw [q] at h2; cases h2
    | loc j => rw [q] at h2; cases h2
  · rintro ⟨m, h⟩
    refine ⟨(List.getElem?_eq_some_iff.mp h).1, ?_⟩
    rw [List.getD_eq_getElem?_getD, h]
    rfl
def liftS (K : PySem.W.Frag) (S : SpD) : Sp := fun vs H Q _ => ∃ F Hd R, Wd K F (ownIx R) R (vs.map some) Hd H ∧
  S R fun sv R' => ∀ Hd' v H', Same Hd Hd' → Fin K F (ownIx R) R' sv v Hd' H' → Q v H'
/-- a def that can be called: from where the top left it -/
structure Can (Pg : Program) (w : World) (K : PySem.W.Frag) (mg : Str → Option Value) (base : Heap) (k : Nat) (x : Str) (S : SpD) : Prop where
  ex : ∃ f fd ps, FnG Pg w K mg base CX0 k f fd ps (liftS K S) ∧ mg x = some (.ref f) ∧ PySem.W.keepIn K (.ref f) = true ∧ Binds K fd ps []
  mono : ∀ A Z Z', (∀ sv R', Z sv R' → Z' sv R') → S A Z → S A Z'
theorem Can.up {Pg : Program} {w : World} {K : PySem.W.Frag} {mg : Str → Option Value} {base : Heap} {j k : Nat} {x : Str} {S : SpD} (C : Can Pg w K mg base j x S) (h : j ≤ k) : Can Pg w K mg base k x S := by
  obtain ⟨f, fd, ps, G, h1, h2, h3⟩ := C.ex
  exact ⟨⟨f, fd, ps, G.up h, h1, h2, h3⟩, C.mono⟩
/-- what goes back into the names -/
def back : DS → List SV → DS → DS
  | R, .loc j :: svs, a :: as => back (R.set j a) svs as
  | R, _ :: svs, _ :: as => back R svs as
  | R, _, _ => R
theorem back_len : ∀ (svs : List SV) (R as : DS), (back R svs as).length = R.length
  | [], _, _ => rfl
  | s :: _, _, [] => by cases s <;> rfl
  | .loc j :: svs, R, a :: as => by
    show (back (R.set j a) svs as).length = R.length
    rw [back_len svs, List.length_set]
  | .no :: svs, R, a :: as => back_len svs R as
  | .d _ :: svs, R, a :: as => back_len svs R as
  | .own _ :: svs, R, a :: as => back_len svs R as
theorem back_get {k : Nat} {y : SV} : ∀ (svs : List SV) (R as : DS), as.length = svs.length → (back R svs as)[k]? = some y → (R[k]? = some y ∧ ∀ i : Nat, svs[i]? ≠ some (SV.loc k)) ∨ ∃ i : Nat, svs[i]? = some (SV.loc k) ∧ as[i]? = some y
  | [], R, as, _, h => by
    refine .inl ⟨?_, fun i => by simp⟩
    cases as <;> exact h
  | s :: svs, R, [], hl, _ => by simp at hl
  | s :: svs, R, a :: as, hl, h => by
    have hl' : as.length = svs.length := by simpa using hl
    have ih := fun R0 (h0 : (back R0 svs as)[k]? = some y) => back_get svs R0 as hl' h0
    have go : ∀ R0, (back R0 svs as)[k]? = some y → (R0[k]? = some y → (R[k]? = some y ∧ s ≠ .loc k) ∨ (s = .loc k ∧ a = y)) → (R[k]? = some y ∧ ∀ i : Nat, (s :: svs)[i]? ≠ some (SV.loc k)) ∨ ∃ i : Nat, (s :: svs)[i]? = some (SV.loc k) ∧ (a :: as)[i]? = some y := by
      intro R0 h0 hR
      rcases ih R0 h0 with ⟨h1, h2⟩ | ⟨i, h1, h2⟩
      · rcases hR h1 with ⟨h3, h4⟩ | ⟨h3, h4⟩
        · refine .inl ⟨h3, fun i => ?_⟩
          cases i with
          | zero => simpa using h4
          | succ i => simpa using h2 i
        · exact .inr ⟨0, by simp [h3], by simp [h4]⟩
      · exact .inr ⟨i + 1, by simpa using h1, by simpa using h2⟩
    cases s with
    | loc j =>
      refine go (R.set j a) h fun h1 => ?_
      by_cases e : j = k
      · subst e
        by_cases hj : j < R.length
        · rw [List.getElem?_set_self hj] at h1
          exact .inr ⟨rfl, Option.some.inj h1⟩
        · rw [List.getElem?_eq_none (by simpa using hj)] at h1
          cases h1
      · rw [List.getElem?_set_ne e] at h1
        exact .inl ⟨h1, fun z => e (SV.loc.inj z)⟩
    | no => exact go R h fun h1 => .inl ⟨h1, by intro z; cases z⟩
    | d x => exact go R h fun h1 => .inl ⟨h1, by intro z; cases z⟩
    | own m => exact go R h fun h1 => .inl ⟨h1, by intro z; cases z⟩
/-- what an argument is inside -/
def cont (R : DS) : SV → SV
  | .loc i => R.getD i .no
  | x => x
/-- arguments: data, or a name's own thing, each name once -/
def ArgsOk (R : DS) (svs : List SV) : Prop :=
  (∀ i j : Nat, svs[i]? = some (SV.loc j) → ∃ m, R[j]? = some (.own m)) ∧ (∀ i i' j : Nat, svs[i]? = some (SV.loc j) → svs[i']? = some (SV.loc j) → i = i')
abbrev ArgRel (K : PySem.W.Frag) (σ : L2.St) (Hd : Hp) : SV → V → Prop := fun sv v => (match sv with | .d x => Dq K Hd v x | .loc i => σ[i]? = some (some v) | _ => False)
theorem paired_get {α β : Type} {G : α → β → Prop} : ∀ {xs : List α} {ys : List β} {i : Nat} {x : α}, Paired G xs ys → xs[i]? = some x → ∃ y, ys[i]? = some y ∧ G x y
  | _, _, _, _, .nil, e => by simp at e
  | _, _, 0, _, .cons g _, e => by
    simp at e
    subst e
    exact ⟨_, rfl, g⟩
  | _, _, i + 1, _, .cons _ t, e => by
    obtain ⟨y, h1, h2⟩ := paired_get (i := i) t (by simpa using e)
    exact ⟨y, by simpa using h1, h2⟩
theorem paired_len {α β : Type} {G : α → β → Prop} : ∀ {xs : List α} {ys : List β}, Paired G xs ys → xs.length = ys.length
  | _, _, .nil => rfl
  | _, _, .cons _ t => by rw [List.length_cons, List.length_cons, paired_len t]
theorem call_world {K : PySem.W.Frag} {F : Fr} {P : List Nat} {R : DS} {σ : L2.St} {Hd H : Hp} {svs : List SV} {vs : List V} (w : Wd K F P R σ Hd H) (rel : Paired (ArgRel K σ Hd) svs vs) (ok : ArgsOk R svs) :
    ∃ F', Wd K F' (ownIx (svs.map (cont R))) (svs.map (cont R)) (vs.map some) Hd H ∧
      ∀ Hd' R' sv v H', Same Hd Hd' → R'.length = svs.length → Fin K F' (ownIx (svs.map (cont R))) R' sv v Hd' H' → Wd K F P (back R svs R') σ Hd' H' ∧ Rp K F (back R svs R') σ Hd' H' sv v := by
  classical
  let pass : Addr → Prop := fun a => ∃ i j : Nat, svs[i]? = some (SV.loc j) ∧ σ[j]? = some (some (V.ref a))
  let isT : Addr → Prop := fun a => ∃ ps : Array Value, H a = some (.tbl ps)
  let F' : Fr := ⟨fun a => if pass a ∨ isT a then none else H a, fun i => match vs[i]? with | some (.ref a) => a | _ => 0, fun a => F.Fz a ∨ ((∃ (i : Nat) (m : MC), R[i]? = some (SV.own m) ∧ σ[i]? = some (some (V.ref a))) ∧ ¬ pass a)⟩
  have hfp : ∀ {a}, pass a → F'.Hf a = none := fun {a} h => if_pos (.inl h)
  have hfn : ∀ {a} {o : HO}, ¬ pass a → H a = some o → PlainO o → F'.Hf a = H a := fun {a o} h e ho => if_neg fun z => z.elim h fun ⟨ps, e2⟩ => by
    rw [e] at e2
    cases e2
    exact ho
  have plainF : ∀ {a : Addr} {u : HO}, F.Hf a = some u → PlainO u := fun {a u} q => by
    cases u with
    | tbl ps => exact w.tabs.2.2 a ps q
    | _ => trivial
  have passOwn : ∀ {a}, pass a → ∃ (j : Nat) (m : MC) (o : HO), R[j]? = some (SV.own m) ∧ σ[j]? = some (some (V.ref a)) ∧ H a = some o ∧ Hd a = none ∧ F.Hf a = none := fun {a} ⟨i, j, h1, h2⟩ => by
    obtain ⟨m, hm⟩ := ok.1 i j h1
    obtain ⟨b, o, s1, s2, s3, s4, s5⟩ := w.own j m hm
    rw [h2] at s1
    cases s1
    exact ⟨j, m, o, hm, h2, s2, s4, s5⟩
  have argOwn : ∀ {i : Nat} {m : MC}, (svs.map (cont R))[i]? = some (SV.own m) → ∃ (j : Nat) (a : Addr) (o : HO), svs[i]? = some (SV.loc j) ∧ R[j]? = some (SV.own m) ∧ σ[j]? = some (some (V.ref a)) ∧ vs[i]? = some (V.ref a) ∧ H a = some o ∧ CRp K Hd m o ∧ Hd a = none ∧ F.Hf a = none := fun {i m} h => by
    rw [List.getElem?_map] at h
    cases q : svs[i]? with
    | none => rw [q] at h; cases h
    | some s =>
      rw [q] at h
      have h' : cont R s = .own m := Option.some.inj h
      obtain ⟨v, hv, g⟩ := paired_get rel q
      cases s with
      | loc j =>
        have hR : R[j]? = some (.own m) := by
          obtain ⟨m', hm⟩ := ok.1 i j q
          have h' : R.getD j .no = .own m := h'
          rw [List.getD_eq_getElem?_getD, hm] at h'
          rw [hm]
          exact congrArg some h'
        obtain ⟨a, o, s1, s2, s3, s4, s5⟩ := w.own j m hR
        have g' : σ[j]? = some (some v) := g
        rw [s1] at g'
        cases g'
        exact ⟨j, a, o, rfl, hR, s1, hv, s2, s3, s4, s5⟩
      | no => exact (g : False).elim
      | own _ => exact (g : False).elim
      | d x => cases h'
  have w' : Wd K F' (ownIx (svs.map (cont R))) (svs.map (cont R)) (vs.map some) Hd H := by
    refine ⟨w.dat, fun a u e => ?_, by rw [List.length_map, List.length_map]; exact paired_len rel, fun i x e => ?_, fun i m e => ?_, fun i i' m n a e1 e2 e3 e4 => ?_, fun i hi => ?_, fun a ha => ?_, w.tabs.1, w.tabs.2.1, fun a ps q => ?_⟩
    · have e' : (if pass a ∨ isT a then none else H a) = some u := e
      split at e'
      · cases e'
      · exact e'
    · rw [List.getElem?_map] at e
      cases q : svs[i]? with
      | none => rw [q] at e; cases e
      | some s =>
        rw [q] at e
        have h' : cont R s = .d x := Option.some.inj e
        obtain ⟨v, hv, g⟩ := paired_get rel q
        cases s with
        | loc j =>
          obtain ⟨m, hm⟩ := ok.1 i j q
          have h' : R.getD j .no = .d x := h'
          rw [List.getD_eq_getElem?_getD, hm] at h'
          cases h'
        | no => exact (g : False).elim
        | own _ => exact (g : False).elim
        | d y =>
          cases h'
          exact ⟨v, by rw [List.getElem?_map, hv]; rfl, g⟩
    · obtain ⟨j, a, o, h1, h2, h3, h4, h5, h6, h7, h8⟩ := argOwn e
      exact ⟨a, o, by rw [List.getElem?_map, h4]; rfl, h5, h6, h7, hfp ⟨i, j, h1, h3⟩⟩
    · obtain ⟨j, b, o, h1, h2, h3, h4, _⟩ := argOwn e1
      obtain ⟨j', b', o', h1', h2', h3', h4', _⟩ := argOwn e2
      rw [List.getElem?_map, h4] at e3
      rw [List.getElem?_map, h4'] at e4
      have z1 : b = a := V.ref.inj (Option.some.inj (Option.some.inj e3))
      have z2 : b' = a := V.ref.inj (Option.some.inj (Option.some.inj e4))
      subst z1
      subst z2
      have ej : j = j' := w.apart j j' m n _ h2 h2' h3 h3'
      subst ej
      exact ok.2 i i' j h1 h1'
    · obtain ⟨m, hm⟩ := mem_ownIx.mp hi
      obtain ⟨j, a, o, h1, h2, h3, h4, _⟩ := argOwn hm
      refine ⟨m, hm, ?_⟩
      rw [List.getElem?_map, h4]
      show some (some (V.ref a)) = some (some (V.ref (match vs[i]? with | some (.ref a) => a | _ => 0)))
      rw [h4]
    · rcases ha with ha | ⟨⟨i, m, h1, h2⟩, hp⟩
      · have h := w.prot a ha
        refine ⟨h.1, ?_⟩
        have np : ¬ pass a := fun z => by
          obtain ⟨_, _, _, _, _, _, _, h5⟩ := passOwn z
          exact h.2 h5
        cases q : F.Hf a with
        | none => exact absurd q h.2
        | some u => rw [hfn np (w.frm a u q) (plainF q), w.frm a u q]; simp
      · obtain ⟨b, o, s1, s2, s3, s4, s5⟩ := w.own i m h1
        rw [h2] at s1
        cases s1
        exact ⟨s4, by rw [hfn hp s2 (crp_plain s3), s2]; simp⟩
    · have q' : (if pass a ∨ isT a then none else H a) = some (HO.tbl ps) := q
      split at q'
      · cases q'
      · rename_i z
        exact z (.inr ⟨ps, q'⟩)
  refine ⟨F', w', fun Hd' R' sv v H' e hl fin => ?_⟩
  obtain ⟨f1, f2, ⟨f3, ft, fn⟩, f4, f5⟩ := fin
  -- where an own thing stands behind the call
  have own2 : ∀ {k : Nat} {m : MC}, (back R svs R')[k]? = some (SV.own m) → ∃ a o n, σ[k]? = some (some (V.ref a)) ∧ H' a = some o ∧ CRp K Hd' m o ∧ Hd' a = none ∧ F.Hf a = none ∧ R[k]? = some (SV.own n) ∧ (pass a → ∃ i, i ∈ ownIx (svs.map (cont R)) ∧ F'.al i = a) := fun {k m} h => by
    rcases back_get svs R R' hl h with ⟨h1, h2⟩ | ⟨i, h1, h2⟩
    · obtain ⟨a, o, s1, s2, s3, s4, s5⟩ := w.own k m h1
      have np : ¬ pass a := fun ⟨i, j, g1, g2⟩ => by
        obtain ⟨n, hn⟩ := ok.1 i j g1
        have := w.apart j k n m a hn h1 g2 s1
        subst this
        exact h2 i g1
      exact ⟨a, o, m, s1, f2 a o (by rw [hfn np s2 (crp_plain s3)]; exact s2), s3.mono e, f3 a (.inr ⟨⟨k, m, h1, s1⟩, np⟩), s5, h1, fun z => absurd z np⟩
    · obtain ⟨n, hn⟩ := ok.1 i k h1
      have hi : i ∈ ownIx (svs.map (cont R)) := mem_ownIx.mpr ⟨n, by
        rw [List.getElem?_map, h1]
        show some (R.getD k .no) = some (.own n)
        rw [List.getD_eq_getElem?_getD, hn]
        rfl⟩
      obtain ⟨m2, o, g1, g2, g3, g4⟩ := f4 i hi
      rw [h2] at g1
      cases g1
      obtain ⟨a, o2, s1, s2, s3, s4, s5⟩ := w.own k n hn
      obtain ⟨u, hu, g⟩ := paired_get rel h1
      have g' : σ[k]? = some (some u) := g
      rw [s1] at g'
      cases g'
      have ea : F'.al i = a := by
        show (match vs[i]? with | some (.ref a) => a | _ => 0) = a
        rw [hu]
      rw [ea] at g2 g4
      exact ⟨a, o, n, s1, g2, g3, g4, s5, hn, fun _ => ⟨i, hi, ea⟩⟩
  have w2 : Wd K F P (back R svs R') σ Hd' H' := by
    refine ⟨f1, fun a u q => ?_, (back_len svs R R').trans w.len, fun i x q => ?_, fun i m q => ?_, fun i j m n a e1 e2 e3 e4 => ?_, fun i hi => ?_, fun a ha => ⟨f3 a (.inl ha), (w.prot a ha).2⟩, ft, fn, w.tabs.2.2⟩
    · have np : ¬ pass a := fun z => by
        obtain ⟨_, _, _, _, _, _, _, h5⟩ := passOwn z
        rw [h5] at q
        cases q
      exact f2 a u (by rw [hfn np (w.frm a u q) (plainF q)]; exact w.frm a u q)
    · rcases back_get svs R R' hl q with ⟨h1, _⟩ | ⟨i', h1, h2⟩
      · obtain ⟨v, s1, s2⟩ := w.val i x h1
        exact ⟨v, s1, dpMono e s2⟩
      · obtain ⟨n, hn⟩ := ok.1 i' i h1
        have hi : i' ∈ ownIx (svs.map (cont R)) := mem_ownIx.mpr ⟨n, by
          rw [List.getElem?_map, h1]
          show some (R.getD i .no) = some (.own n)
          rw [List.getD_eq_getElem?_getD, hn]
          rfl⟩
        obtain ⟨m2, o, g1, _⟩ := f4 i' hi
        rw [h2] at g1
        cases g1
    · obtain ⟨a, o, n, s1, s2, s3, s4, s5, _⟩ := own2 q
      exact ⟨a, o, s1, s2, s3, s4, s5⟩
    · obtain ⟨b, o, n1, s1, _, _, _, _, s6, _⟩ := own2 e1
      obtain ⟨b', o', n2, t1, _, _, _, _, t6, _⟩ := own2 e2
      exact w.apart i j n1 n2 a s6 t6 e3 e4
    · obtain ⟨m, h1, h2⟩ := w.pin i hi
      have hk : i < (back R svs R').length := by
        rw [back_len]
        exact (List.getElem?_eq_some_iff.mp h1).1
      have q : (back R svs R')[i]? = some (back R svs R')[i] := List.getElem?_eq_getElem hk
      rcases back_get svs R R' hl q with ⟨h3, _⟩ | ⟨i', h3, h4⟩
      · rw [h1] at h3
        exact ⟨m, by rw [q, ← Option.some.inj h3], h2⟩
      · have hi' : i' ∈ ownIx (svs.map (cont R)) := mem_ownIx.mpr ⟨m, by
          rw [List.getElem?_map, h3]
          show some (R.getD i .no) = some (.own m)
          rw [List.getD_eq_getElem?_getD, h1]
          rfl⟩
        obtain ⟨m2, o, g1, _⟩ := f4 i' hi'
        rw [h4] at g1
        exact ⟨m2, by rw [q, Option.some.inj g1], h2⟩
  refine ⟨w2, ?_⟩
  cases sv with
  | no => exact (f5 : False).elim
  | loc _ => exact (f5 : False).elim
  | d x => exact f5
  | own m =>
    obtain ⟨a, o, rfl, g2, g3, g4, g5, g6⟩ := f5
    have hH : ∀ {u : HO}, ¬ pass a → H a = some u → PlainO u → False := fun {u} np e1 e2 => by
      rw [hfn np e1 e2, e1] at g5
      cases g5
    refine ⟨a, o, rfl, g2, g3, g4, ?_, fun i n q z => ?_⟩
    · cases q : F.Hf a with
      | none => rfl
      | some u =>
        have np : ¬ pass a := fun z => by
          obtain ⟨_, _, _, _, _, _, _, h5⟩ := passOwn z
          rw [h5] at q
          cases q
        exact (hH np (w.frm a u q) (plainF q)).elim
    · obtain ⟨b, o', n', s1, _, _, _, _, s6, s7⟩ := own2 q
      rw [z] at s1
      cases s1
      obtain ⟨c, oc, t1, t2, t3, _⟩ := w.own i n' s6
      rw [z] at t1
      cases t1
      by_cases hp : pass a
      · obtain ⟨i', hi', ea⟩ := s7 hp
        exact g6 i' hi' ea
      · exact hH hp t2 (crp_plain t3)
section
variable {X : Cx} {P : List Nat} {R : DS} {a e : Expr} {es : List Expr} {pos p : Pos} {Q : SV → DS → Prop}
theorem wa_nil {Q : List SV → DS → Prop} (q : Q [] R) : WA X P [] R Q := ⟨fun F σ Hd H w => TAm.of pa_nil ⟨Hd, R, [], Same.refl _, w, .nil, q⟩⟩
theorem wa_cons {Q : List SV → DS → Prop} (h : WE X P a R fun sv R1 => stb sv fun x => WA X P es R1 fun svs R2 => Q (x :: svs) R2)
    (hs : starEach (a :: es) X.env = (false, eval a X.env) :: starEach es X.env := by rfl) : WA X P (a :: es) R Q :=
  ⟨fun F σ Hd H w => TAm.of (pa_cons pe_m pa_m hs) (h.stb.use w fun Hd1 R1 sv v H1 e1 w1 r1 q1 =>
    (q1.2.run F σ Hd1 H1 w1).mono fun vs H2 ⟨Hd2, R2, svs, e2, w2, r2, q2⟩ => ⟨Hd2, R2, sv :: svs, e1.trans e2, w2, .cons (by
      cases sv with
      | no => exact (r1 : False).elim
      | own m => exact absurd rfl (q1.1 m)
      | d x => exact dpMono e2 r1
      | loc i => exact r1.1) r2, q2⟩)⟩
/-- f(e, ..) -/
theorem we_call {x : Str} {k : Nat} {S : SpD} (C : Can X.prog X.w X.K X.mg X.base k x S) (hgd : X.A.guards = some []) (hr : Room k X.A) (hg : Gl X x)
    (h : WA X P (e :: es) R fun svs R1 => ArgsOk R1 svs ∧ S (svs.map (cont R1)) fun sv R' => R'.length = svs.length ∧ Q sv (back R1 svs R'))
    (hdb : (x == ("__debug__" : Str)) = false := by decide) (he : starEach (e :: es) X.env = (false, eval e X.env) :: starEach es X.env := by rfl) (hpl : (backTo pos (starEach es X.env)).any (·.1) = false := by rfl) : WE X P (.Call (.Name x p) (e :: es) [] pos) R Q := by
  obtain ⟨f, fd, ps, G, hm, hk, hb⟩ := C.ex
  refine .of (pe_callG G hgd hr hg hm hk hb .nil pass0 pa_m hdb he hpl) fun F σ Hd H w => (h.run F σ Hd H w).mono fun vs H1 ⟨Hd1, R1, svs, e1, w1, rel, ok, q⟩ => ?_
  obtain ⟨F', w', k'⟩ := call_world w1 rel ok
  rw [List.append_nil]
  exact ⟨F', Hd1, _, w', C.mono _ _ _ (fun sv R' ⟨hl, q2⟩ Hd' v H' e' fin => by
    obtain ⟨w2, r2⟩ := k' Hd' R' sv v H' e' hl fin
    exact ⟨Hd', _, sv, e1.trans e', w2, r2, q2⟩) q⟩
end
theorem start_world {K : PySem.W.Frag} {F : Fr} {P : List Nat} {R : DS} {vs : List V} {Hd H : Hp} (n : Nat) (w : Wd K F P R (vs.map some) Hd H) : Wd K F P (R ++ List.replicate n .no) (vs.map some ++ List.replicate n none) Hd H := by
  have at_ : ∀ {i : Nat} {x : SV}, x ≠ .no → (R ++ List.replicate n SV.no)[i]? = some x → R[i]? = some x ∧ i < R.length := fun {i x} hx h => by
    by_cases hi : i < R.length
    · rw [List.getElem?_append_left hi] at h
      exact ⟨h, hi⟩
    · rw [List.getElem?_append_right (by omega), List.getElem?_replicate] at h
      split at h
      · exact absurd (Option.some.inj h).symm hx
      · cases h
  have hl : R.length = (vs.map some).length := w.len
  have up_ : ∀ {i : Nat}, i < R.length → (vs.map some ++ List.replicate n none)[i]? = (vs.map some)[i]? := fun {i} hi => List.getElem?_append_left (by rw [← hl]; exact hi)
  refine ⟨w.dat, w.frm, by rw [List.length_append, List.length_append, hl, List.length_replicate, List.length_replicate], fun i x e => ?_, fun i m e => ?_, fun i j m k a e1 e2 e3 e4 => ?_, fun i hi => ?_, w.prot, w.tabs⟩
  · obtain ⟨h1, h2⟩ := at_ (by intro z; cases z) e
    rw [up_ h2]
    exact w.val i x h1
  · obtain ⟨h1, h2⟩ := at_ (by intro z; cases z) e
    rw [up_ h2]
    exact w.own i m h1
  · obtain ⟨h1, h2⟩ := at_ (by intro z; cases z) e1
    obtain ⟨g1, g2⟩ := at_ (by intro z; cases z) e2
    rw [up_ h2] at e3
    rw [up_ g2] at e4
    exact w.apart i j m k a h1 g1 e3 e4
  · obtain ⟨m, h1, h2⟩ := w.pin i hi
    have hi' : i < R.length := (List.getElem?_eq_some_iff.mp h1).1
    exact ⟨m, by rw [List.getElem?_append_left hi']; exact h1, by rw [up_ hi']; exact h2⟩
/-- what a body is to reach -/
def bodyEnds (n : Nat) (Q : SV → DS → Prop) : DEnds := { nx := fun R' => Q (.d .none) (R'.take n), rt := fun sv R' => Q sv (R'.take n) }
theorem def_run {X : Cx} {S : SpD} {N : List Str} {st : Stmt} {vs : List V} {H : Hp} {Q : VK} (hlen : ∀ R Q, S R Q → R.length ≤ N.length)
    (body : ∀ R Q, S R Q → WSs X (ownIx R) (defBody st) (R ++ List.replicate (N.length - R.length) .no) (bodyEnds R.length Q))
    (h : liftS X.K S vs H Q fun _ _ _ => False) : TSsm X (defBody st) { nx := fun _ H' => Q .non H', rt := Q } (start N vs) H := by
  obtain ⟨F, Hd, R, w, q⟩ := h
  have hl : R.length = vs.length := w.len.trans (by rw [List.length_map])
  have hs : start N vs = vs.map some ++ List.replicate (N.length - R.length) none := by
    rw [hl]
    rfl
  rw [hs]
  refine ((body R _ q).run F _ Hd H (start_world _ w)).mono ⟨fun σ' H' h => ?_, fun v H' h => ?_, fun _ _ h => ?_, fun _ _ h => ?_⟩
  · obtain ⟨Hd', R', e1, w1, q1⟩ := h
    refine q1 Hd' .non H' e1 ⟨w1.dat, w1.frm, ⟨fun a ha => (w1.prot a ha).1, w1.tabs.1, w1.tabs.2.1⟩, fun i hi => ?_, .non⟩
    obtain ⟨m, h1, h2⟩ := w1.pin i hi
    obtain ⟨a, o, s1, s2, s3, s4, _⟩ := w1.own i m h1
    rw [h2] at s1
    cases s1
    obtain ⟨m0, hm0⟩ := mem_ownIx.mp hi
    exact ⟨m, o, by rw [List.getElem?_take_of_lt (List.getElem?_eq_some_iff.mp hm0).1]; exact h1, s2, s3, s4⟩
  · obtain ⟨Hd', R', sv, e1, ⟨f1, f2, f3, f4, f5⟩, q1⟩ := h
    refine q1 Hd' v H' e1 ⟨f1, f2, f3, fun i hi => ?_, f5⟩
    obtain ⟨m, o, h1, h2⟩ := f4 i hi
    obtain ⟨m0, hm0⟩ := mem_ownIx.mp hi
    exact ⟨m, o, by rw [List.getElem?_take_of_lt (List.getElem?_eq_some_iff.mp hm0).1]; exact h1, h2⟩
  · obtain ⟨_, _, _, _, z⟩ := h
    exact (z : False).elim
  · obtain ⟨_, _, _, _, z⟩ := h
    exact (z : False).elim
/-- THE RULE for a def -/
theorem can_def {Pg : Program} {w : World} {K : PySem.W.Frag} {mg : Str → Option Value} {base : Heap} {k : Nat} {x qual : Str} {st : Stmt} {f : Addr} {fd : FuncData} {N ps : List Str} {S : SpD} (Fu : Fun K x qual st f fd) (Sc : FnScope N ps (defScope st)) (hm : mg x = some (.ref f)) (hb : Binds K fd ps [])
    (mono : ∀ A Z Z', (∀ sv R', Z sv R' → Z' sv R') → S A Z → S A Z') (hN : ps.length ≤ N.length) (hlen : ∀ R Q, S R Q → R.length = ps.length)
    (body : ∀ (cdv : Value) (A : Around) (outer : List Env) (s : Shared) (H : Hp) (E : XK), A.guards = some [] → Room k (A.deeper (envOfC qual (defScope st) s.heap.objs.size f cdv)) → ∀ R Q, S R Q →
      WSs (cxOf CX0 Pg w K mg base N qual (defScope st) f cdv A outer s H E).nox (ownIx R) (defBody st) (R ++ List.replicate (N.length - R.length) .no) (bodyEnds R.length Q)) : Can Pg w K mg base (k + 1) x S := by
  refine ⟨⟨f, fd, ps, fnG_of Fu Sc (fun vs H Q E h => ?_) (fun cdv A outer s H vs Q E hgd hr h => ?_), hm, Fu.kp, hb⟩, mono⟩
  · obtain ⟨F, Hd, R, w, q⟩ := h
    have := w.len
    rw [List.length_map] at this
    rw [← this]
    exact hlen R _ q
  · have g := def_run (X := (cxOf CX0 Pg w K mg base N qual (defScope st) f cdv A outer s H E).nox) (N := N) (st := st) (fun R Q h => by rw [hlen R Q h]; exact hN) (body cdv A outer s H E hgd hr) (vs := vs) (H := H) (Q := Q) h
    exact TSsm.of (PSs.nox pss_m) g
end Dl
namespace Dl
open PySem PySem.Spec PyProof.Rows L2
/-! the law's own call, with tables of code objects -/
def tabAt (K : PySem.W.Frag) : List Addr := (tabsOf K).map (·.1)
def emptyTab : Obj := { cls := .none, data := .fields #[] }
structure TabsIn (K : PySem.W.Frag) (h : Heap) : Prop where
  now : ∀ b ∈ tabAt K, h.get? b = some emptyTab
  off : ∀ b ∈ tabAt K, K.lookup b = none
  hd : ∀ x ∈ lamDefs, ∀ c P : Addr, PySem.W.tabIn K x = some (c, P) → PySem.W.CodeHd h c P
def TabBs (K : PySem.W.Frag) (mg : Str → Option Value) (base : Heap) : Prop := ∀ x ∈ lamDefs, ∀ c P : Addr, PySem.W.tabIn K x = some (c, P) → LamX.TabB base mg c P
theorem tabAt_of {K : PySem.W.Frag} {b : Addr} (h : b ∈ tabAt K) : ∃ x ∈ lamDefs, ∃ c : Addr, PySem.W.tabIn K x = some (c, b) := by
  obtain ⟨p, hp, rfl⟩ := List.mem_map.mp h
  obtain ⟨x, hx, e⟩ := List.mem_filterMap.mp hp
  cases q : PySem.W.tabIn K x with
  | none => rw [q] at e; cases e
  | some cp =>
    rw [q] at e
    cases e
    exact ⟨x, hx, cp.1, q⟩
theorem tabAt_mem {K : PySem.W.Frag} {x : Str} {c P : Addr} (hx : x ∈ lamDefs) (h : PySem.W.tabIn K x = some (c, P)) : P ∈ tabAt K :=
  List.mem_map.mpr ⟨(P, x ++ ".<locals>." ++ "<lambda>"), List.mem_filterMap.mpr ⟨x, hx, by rw [h]; rfl⟩, rfl⟩
def OnlyT (K : PySem.W.Frag) (H : Hp) : Prop := ∀ b, H b = none ∨ (∃ o xs, H b = some (.frz o (.lst xs))) ∨ (b ∈ tabAt K ∧ H b = some (.tbl #[]))
theorem law_coreT {Pg : Program} {w : World} {K : PySem.W.Frag} {mg mb : Str → Option Value} {k : Nat} {fa a : Addr} {fd : FuncData} {x : Str} {sp : Sp} {s1 : Shared} {vs : List Value} {H : Hp}
    (kx : K.In s1.heap) (hns : s1.heap.Ns mainGlobals mg) (hb : s1.heap.Ns builtinsNs mb) (hbb : ∀ y : Str, y ≠ "__name__" → mb y = bootBuiltins y) (hlim : s1.heap.NoLimit) (hg : s1.gens = #[])
    (tin : TabsIn K s1.heap) (hbm : ∃ (bm : Addr) (ob : Obj), mg "__builtins__" = some (.ref bm) ∧ bm ≠ builtinsNs ∧ s1.heap.get? bm = some ob ∧ ob.cls = .type "module" ∧ ob.dict = some builtinsNs ∧ ob.data = .plain)
    (ha : s1.heap.get? a = some { cls := .type "list", data := .seq vs.toArray }) (hr : Room k callerA)
    (G : ∀ base : Heap, K.In base → base.Ns mainGlobals mg → TabBs K mg base → FnG Pg w K mg base CX0 k fa fd [x] sp) (hbind : ∀ (s : Shared) (u : Value), BindsTo s fd ⟨[u], []⟩ [(x, u)])
    (only : OnlyT K H) (tabs : ∀ b ∈ tabAt K, H b = some (.tbl #[])) (here : ∀ b, H b ≠ none → (b = a ∧ K.lookup a = none) ∨ b ∈ tabAt K) (hok : HOk Pg w H s1.heap) (go : sp [.ref a] H (fun v _ => v = .bl true) fun _ _ _ => False) :
    codeAny (model Pg w) callerA (.call (.ref fa) ⟨[.ref a], []⟩) (fun r s' => r = .ok (.ret (.bool true)) ∧ OldK s1.heap s'.heap ∧ s'.os = s1.os ∧ AllBare s'.gens) s1 := by
  -- what is neither the script's list nor an empty record stands in the ground
  have free : ∀ {b : Addr} {o : Obj}, s1.heap.get? b = some o → (∀ us n, o.data ≠ .seq us n) → o.data ≠ .fields #[] → H b = none := fun {b o} q n1 n2 => by
    cases z : H b with
    | none => rfl
    | some u =>
      rcases here b (by rw [z]; exact fun y => by cases y) with ⟨y, _⟩ | y
      · rw [y, ha] at q
        cases q
        exact (n1 _ _ rfl).elim
      · rw [tin.now b y] at q
        cases q
        exact (n2 rfl).elim
  have stays : ∀ {b : Addr} {o : Obj}, s1.heap.get? b = some o → (∀ us n, o.data ≠ .seq us n) → o.data ≠ .fields #[] → (hidT s1.heap H).get? b = some o := fun q n1 n2 => hidT_get q (free q n1 n2)
  have names : ∀ {b : Addr} {m : Str → Option Value}, s1.heap.Ns b m → (hidT s1.heap H).Ns b m := fun {b m} ⟨o, es, ep, q, d, r⟩ => ⟨o, es, ep, stays q (fun us n z => by rw [d] at z; cases z) (fun z => by rw [d] at z; cases z), d, r⟩
  have kb : K.In (hidT s1.heap H) := fun b o q => hidT_get (kx b o q) (by
    cases z : H b with
    | none => rfl
    | some u =>
      rcases here b (by rw [z]; exact fun y => by cases y) with ⟨y1, y2⟩ | y
      · subst y1
        rw [q] at y2
        cases y2
      · rw [tin.off b y] at q
        cases q)
  have tb : TabBs K mg (hidT s1.heap H) := fun y hy c P e => by
    have hP := tin.now P (tabAt_mem hy e)
    refine ⟨?_, ?_, fun z => ?_⟩
    · obtain ⟨o, us, file, tf, flags, tg, inF, tx, tt, e1, r1, r2, r3, rest⟩ := tin.hd y hy c P e
      exact ⟨o, us, file, tf, flags, tg, inF, tx, tt, stays e1 (fun us n z => by rw [r2] at z; cases z) (fun z => by
        rw [r2] at z
        cases z
        simp at r3), r1, r2, r3, rest⟩
    · obtain ⟨bm, ob, b1, b2, b3, b4, b5, b6⟩ := hbm
      refine ⟨bm, ob, b1, b2, fun q => ?_, fun q => ?_, stays b3 (fun us n z => by rw [b6] at z; cases z) (fun z => by rw [b6] at z; cases z), b4, b5, b6⟩
      · obtain ⟨o, es, ep, g1, g2, _⟩ := hns
        rw [q, g1] at b3
        cases b3
        rw [g2] at b6
        cases b6
      · rw [q, hP] at b3
        cases b3
        cases b6
    · obtain ⟨o, es, ep, g1, g2, _⟩ := hns
      rw [z, hP] at g1
      cases g1
      cases g2
  have md : Mod K mg (hidT s1.heap H) := ⟨kb, names hns, ⟨mb, names hb, hbb⟩, hlim.elim fun mc hm => ⟨mc, names hm.1, hm.2⟩⟩
  have at0 : Env0 Pg w K mg (hidT s1.heap H) callerA [] s1 H := { frames := rfl, mod := md, bs := fun b o q => of_hidT q, bsz := Nat.le_of_eq (hidT_size _ _), funs := trivial, frf := fun b hb => absurd (show b ∈ ([] : List Addr) from hb) List.not_mem_nil, hok := hok, bare := .of_eq hg }
  have run := (G _ kb (names hns) tb).run callerA [] s1 H ⟨[.ref a], []⟩ [.ref a] [.ref a] _ _ rfl hr at0 (hbind s1 (.ref a)) (.cons rfl .nil) go
  refine codeAny_mono run fun r s' h => ?_
  match r, h with
  | .error e, h => exact (h : False).elim
  | .ok .next, h => exact (h : False).elim
  | .ok .brk, h => exact (h : False).elim
  | .ok .cont, h => exact (h : False).elim
  | .ok (.ret u), h =>
    obtain ⟨v, H', os, bare, un, hok', rv, q⟩ := h
    have e1 : v = .bl true := q
    subst e1
    have e2 : u = Value.bool true := rv
    subst e2
    have same : ∀ b o, b ∉ tabAt K → s1.heap.get? b = some o → s'.heap.get? b = some o := fun b o nb eb => by
      rcases only b with z | ⟨ob, xs, z⟩ | ⟨z, _⟩
      · exact un.keep b o eb z (fun y => by cases y) (fun y => by cases y)
      · have g1 := (hok b _ z).1
        have g2 := (hok' b _ (un.frzs b ob _ z)).1
        rw [eb] at g1
        cases g1
        exact g2
      · exact absurd z nb
    have grew : ∀ b ∈ tabAt K, ∃ more : Array Value, s'.heap.get? b = some { cls := .none, data := .fields more } := fun b hb => by
      obtain ⟨more, z⟩ := un.tbls b #[] (tabs b hb)
      exact ⟨_, hok' b _ z⟩
    refine ⟨rfl, ⟨fun b o eb => ?_, fun b o eb => ?_⟩, os, bare⟩
    · by_cases hb : b ∈ tabAt K
      · obtain ⟨more, hm⟩ := grew b hb
        obtain ⟨y, hy, c, e⟩ := tabAt_of hb
        have now := tin.now b hb
        rw [now] at eb
        cases eb
        exact .inr (.inl ⟨((tin.hd y hy c b e).tab now).isCodeTable, rfl, #[], more, rfl, by rw [Array.empty_append]; exact hm⟩)
      · exact .inl (same b o hb eb)
    · by_cases hb : b ∈ tabAt K
      · obtain ⟨more, hm⟩ := grew b hb
        exact ⟨_, hm⟩
      · exact ⟨o, same b o hb eb⟩
theorem law_callT {Pg : Program} {w : World} {K : PySem.W.Frag} {mg mb : Str → Option Value} {k : Nat} {fa a : Addr} {fd : FuncData} {x : Str} {sp : Sp} {s1 : Shared} {vs : List Value} {ns : List Int}
    (kx : K.In s1.heap) (hns : s1.heap.Ns mainGlobals mg) (hb : s1.heap.Ns builtinsNs mb) (hbb : ∀ y : Str, y ≠ "__name__" → mb y = bootBuiltins y) (hlim : s1.heap.NoLimit) (hg : s1.gens = #[])
    (tin : TabsIn K s1.heap) (hbm : ∃ (bm : Addr) (ob : Obj), mg "__builtins__" = some (.ref bm) ∧ bm ≠ builtinsNs ∧ s1.heap.get? bm = some ob ∧ ob.cls = .type "module" ∧ ob.dict = some builtinsNs ∧ ob.data = .plain)
    (ha : s1.heap.get? a = some { cls := .type "list", data := .seq vs.toArray }) (hi : IntsAre vs ns) (hl : ns.length ≤ sizeLine) (hr : Room k callerA)
    (G : ∀ base : Heap, K.In base → base.Ns mainGlobals mg → TabBs K mg base → FnG Pg w K mg base CX0 k fa fd [x] sp) (hbind : ∀ (s : Shared) (u : Value), BindsTo s fd ⟨[u], []⟩ [(x, u)])
    (hsp : ∀ H : Hp, OnlyT K H → (∀ b ∈ tabAt K, H b = some (.tbl #[])) → SqL K H a (ns.map V.int) → sp [.ref a] H (fun v _ => v = .bl true) fun _ _ _ => False) :
    codeAny (model Pg w) callerA (.call (.ref fa) ⟨[.ref a], []⟩) (fun r s' => r = .ok (.ret (.bool true)) ∧ OldK s1.heap s'.heap ∧ s'.os = s1.os ∧ AllBare s'.gens) s1 := by
  have rv := vals_ints hi
  have an : a ∉ tabAt K := fun z => by
    have q := tin.now a z
    rw [ha] at q
    have := congrArg Obj.data (Option.some.inj q)
    cases this
  classical
  let H0 : Hp := fun b => if b ∈ tabAt K then some (.tbl #[]) else none
  have in0 : ∀ {b}, b ∈ tabAt K → H0 b = some (.tbl #[]) := fun h => if_pos h
  have out0 : ∀ {b}, b ∉ tabAt K → H0 b = none := fun h => if_neg h
  cases hk : K.lookup a with
  | some o =>
    have e := kx a o hk
    rw [ha] at e
    cases e
    have on : OnlyT K H0 := fun b => if z : b ∈ tabAt K then .inr (.inr ⟨z, in0 z⟩) else .inl (out0 z)
    refine law_coreT (H := H0) kx hns hb hbb hlim hg tin hbm ha hr G hbind on (fun b hb => in0 hb) (fun b z => .inr (Decidable.byContradiction fun y => z (out0 y))) (fun b u z => ?_) (hsp H0 on (fun b hb => in0 hb) (.inr ⟨_, _, _, hk, rfl, rfl, rfl, ?_, by simpa using rv⟩))
    · by_cases y : b ∈ tabAt K
      · rw [in0 y] at z
        cases z
        exact tin.now b y
      · rw [out0 y] at z
        cases z
    · rw [List.size_toArray, hi.length]
      exact hl
  | none =>
    let ob : Obj := { cls := .type "list", data := .seq vs.toArray }
    let H : Hp := fun b => if b = a then some (.frz ob (.lst (ns.map V.int))) else H0 b
    have at_ : H a = some (.frz ob (.lst (ns.map V.int))) := if_pos rfl
    have off : ∀ {b : Addr}, b ≠ a → H b = H0 b := fun h => if_neg h
    have tab : ∀ b ∈ tabAt K, H b = some (.tbl #[]) := fun b hb => (off (fun z => an (z ▸ hb))).trans (in0 hb)
    have on : OnlyT K H := fun b => if z : b = a then .inr (.inl ⟨ob, ns.map V.int, z ▸ at_⟩) else if y : b ∈ tabAt K then .inr (.inr ⟨y, tab b y⟩) else .inl ((off z).trans (out0 y))
    refine law_coreT (H := H) kx hns hb hbb hlim hg tin hbm ha hr G hbind on tab (fun b z => ?_) (fun b u z => ?_) (hsp H on tab (.inl (.inr ⟨ob, at_⟩)))
    · by_cases y : b = a
      · exact .inl ⟨y, hk⟩
      · exact .inr (Decidable.byContradiction fun y2 => z ((off y).trans (out0 y2)))
    · by_cases y : b = a
      · subst y
        rw [at_] at z
        cases z
        exact ⟨ha, by rw [List.length_map]; exact hl, vs, _, rv, ha⟩
      · rw [off y] at z
        by_cases y2 : b ∈ tabAt K
        · rw [in0 y2] at z
          cases z
          exact tin.now b y2
        · rw [out0 y2] at z
          cases z
/-- the goal that k_head leaves, with tables: from the promise of the law's def -/
theorem walk_GT {l : PySem.W.OpenLaw} {n k : Nat} {q : Program} {loose : List Str} {XP : (Str → Option Value) → Heap → Prop} {YP : World → Heap → Prop} {d : DefRec} {K : Params → PySem.W.Frag} {sp : PySem.W.Frag → Sp} {x : Str}
    (hn : l.most = some n) (hn2 : n ≤ sizeLine) (hdf : d.params.defaults = []) (hr : Room k callerA) (hY : ∀ (w : World) (h : Heap), YP w h → (K w.params).In h)
    (hT : ∀ (w : World) (h : Heap) (lo : List Str) (mean : ExcName → Option Value) (mg mb : Str → Option Value), PyProof.Rows.Top q lo mean mg mb h → (K w.params).In h → TabsIn (K w.params) h)
    (F : ∀ (w : World) (mg : Str → Option Value) (fa : Addr) (h : Heap), (K w.params).In h → h.Ns mainGlobals mg → mg d.name = some (.ref fa) → ∃ fd : FuncData, (∀ (s : Shared) (u : Value), BindsTo s fd ⟨[u], []⟩ [(x, u)]) ∧
      ∀ base : Heap, (K w.params).In base → base.Ns mainGlobals mg → TabBs (K w.params) mg base → FnG l.prog w (K w.params) mg base CX0 k fa fd [x] (sp (K w.params)))
    (hsp : ∀ (K : PySem.W.Frag) (H : Hp) (a : Addr) (ns : List Int), ns.length ≤ n → OnlyT K H → (∀ b ∈ tabAt K, H b = some (.tbl #[])) → SqL K H a (ns.map V.int) → sp K [.ref a] H (fun v _ => v = .bl true) fun _ _ _ => False) : PySem.W.WalkO q loose XP YP l.row.toRowW d [] (fun f vs => PySem.call f vs) := by
  refine Att.attach_call hn hdf fun w s0 s1 mg mb fa o pm cd doc a vs ns Gr Y ho hd hcd hmg hobj hints hlen hg => ?_
  have kx := hY w _ Y
  obtain ⟨fd, hb, hF⟩ := F w mg fa _ kx Gr.T.g hmg
  exact law_callT kx Gr.T.g Gr.T.b Gr.T.builtins Gr.T.nolimit hg (hT w _ _ _ _ _ Gr.T kx) Gr.T.bmain hobj hints (Nat.le_trans hlen hn2) hr hF hb fun H hO hT2 hS => hsp (K w.params) H a ns hlen hO hT2 hS
/-- a law over data: the script's ints -/
theorem law_data {K : PySem.W.Frag} {S : SpD} {H : Hp} {a : Addr} {ns : List Int} (only : OnlyT K H) (tabs : ∀ b ∈ tabAt K, H b = some (.tbl #[])) (hS : SqL K H a (ns.map V.int)) (h : S [.d (.list (ns.map PyData.int))] fun sv R' => sv = .d (.bool true))
    (mono : ∀ A Z Z', (∀ sv R', Z sv R' → Z' sv R') → S A Z → S A Z') : liftS K S [.ref a] H (fun v _ => v = .bl true) fun _ _ _ => False := by
  classical
  let Hd : Hp := fun b => if b ∈ tabAt K then none else H b
  have dat : Same Hd H := fun b u e => by
    have e' : (if b ∈ tabAt K then none else H b) = some u := e
    split at e'
    · cases e'
    · exact e'
  have hS' : SqL K Hd a (ns.map V.int) := by
    rcases hS with hS | hS
    · rcases hS with hS | ⟨o, hS⟩
      · refine .inl (.inl ?_)
        have : a ∉ tabAt K := fun z => by
          rw [tabs a z] at hS
          cases hS
        exact (if_neg this).trans hS
      · refine .inl (.inr ⟨o, ?_⟩)
        have : a ∉ tabAt K := fun z => by
          rw [tabs a z] at hS
          cases hS
        exact (if_neg this).trans hS
    · exact .inr hS
  refine ⟨⟨fun _ => none, fun _ => 0, fun _ => False⟩, Hd, [.d (.list (ns.map PyData.int))], ⟨dat, fun b u z => (by cases z), rfl, fun i x e => ?_, fun i m e => ?_, fun i j m n b e _ _ _ => ?_, fun i hi => ?_, fun b hb => (show False from hb).elim, fun p hp => ?_, fun b ps q => ?_, fun b ps q => (by cases q)⟩, mono _ _ _ (fun sv R' e Hd' v H' _ fin => ?_) h⟩
  · cases i with
    | zero =>
      have e' : x = .list (ns.map PyData.int) := by simpa using e.symm
      subst e'
      exact ⟨.ref a, rfl, .lst hS' (dpAllOfInts ns)⟩
    | succ i => simp at e
  · cases i with
    | zero => simp at e
    | succ i => simp at e
  · cases i with
    | zero => simp at e
    | succ i => simp at e
  · have : ownIx [SV.d (.list (ns.map PyData.int))] = [] := rfl
    rw [this] at hi
    cases hi
  · exact LamX.TabS.nil (tabs p.1 (List.mem_map.mpr ⟨p, hp, rfl⟩))
  · have q' : (if b ∈ tabAt K then none else H b) = some (HO.tbl ps) := q
    split at q'
    · cases q'
    · rename_i nb
      rcases only b with z | ⟨o, xs, z⟩ | ⟨z, _⟩
      · rw [q'] at z; cases z
      · rw [q'] at z; cases z
      · exact nb z
  · subst e
    have r : Dq K Hd' v (.bool true) := fin.2.2.2.2
    cases r
    rfl
end Dl
namespace Dl
open PySem PySem.Spec PyProof.Rows L2
/-! what a frame knows of what runs around it -/
structure Ard (X : Cx) (k : Nat) : Prop where
  gd : X.A.guards = some []
  rm : Room k X.A
theorem Ard.u64 {X : Cx} {k : Nat} (a : Ard X k) : X.A.units + 64 < cLine := a.rm.units
theorem Ard.u1 {X : Cx} {k : Nat} (a : Ard X k) : X.A.units + 1 < cLine := by have := a.rm.units; omega
theorem Ard.u100 {X : Cx} {k : Nat} (a : Ard X k) : X.A.units + 100 < cLine := by have := a.rm.un; omega
theorem vis3 {sc : Scope} {x : Str} (h : (match sc.names.lookup x with | some .local => true | some .cell => true | some .free => true | _ => false) = true) : Vis sc x := by
  unfold Vis
  revert h
  cases sc.names.lookup x with
  | none => intro h; cases h
  | some k => cases k <;> intro h <;> simp at h ⊢
theorem loc2 {sc : Scope} {x : Str} (h : (match sc.names.lookup x with | some .local => true | some .cell => true | _ => false) = true) : L2.Loc sc x := by
  unfold L2.Loc
  revert h
  cases sc.names.lookup x with
  | none => intro h; cases h
  | some k => cases k <;> intro h <;> simp at h ⊢
section
variable {X : Cx} {P : List Nat} {R : DS} {e tg : Expr} {es : List Expr} {st : Stmt} {sts : List Stmt} {D' : DEnds} {x : Str} {pos pos' : Pos} {js : List Nat} {dx : D} {dxs : List D}
theorem isWE {Q : SV → DS → Prop} (h : WE X P e R Q) : WE X P e R Q := h
theorem isWT {Q : Bool → DS → Prop} (h : WT X P e R Q) : WT X P e R Q := h
theorem isWW {Q : Bool → DS → Prop} (h : WW X P e R Q) : WW X P e R Q := h
theorem isWA {Q : List SV → DS → Prop} (h : WA X P es R Q) : WA X P es R Q := h
theorem isWDs {Q : List D → DS → Prop} (h : WDs X P es R Q) : WDs X P es R Q := h
theorem isWS (h : WS X P st R D') : WS X P st R D' := h
theorem isWSs (h : WSs X P sts R D') : WSs X P sts R D' := h
theorem isWG {Q : DS → Prop} (h : WG X P tg js R dx Q) : WG X P tg js R dx Q := h
theorem isWGs {Q : DS → Prop} (h : WGs X P es js R dxs Q) : WGs X P es js R dxs Q := h
theorem isName {Q : SV → DS → Prop} (h : WE X P (.Name x pos) R Q) : WE X P (.Name x pos) R Q := h
theorem isSet (h : WS X P (.Assign [.Name x pos'] e pos) R D') : WS X P (.Assign [.Name x pos'] e pos) R D' := h
end
end Dl
namespace Dl
open PySem PySem.Spec PyProof.Rows L2
def locs : List SV → List Nat
  | [] => []
  | .loc j :: r => j :: locs r
  | _ :: r => locs r
def argsB (R : DS) (svs : List SV) : Bool := ((locs svs).all fun j => isOwn (R.getD j .no)) && decide (locs svs).Nodup
theorem mem_locs {j : Nat} : ∀ {svs : List SV} {i : Nat}, svs[i]? = some (SV.loc j) → j ∈ locs svs
  | [], _, h => by simp at h
  | s :: r, 0, h => by
    have e : s = .loc j := by simpa using h
    subst e
    exact List.mem_cons_self
  | s :: r, i + 1, h => by
    have ih : j ∈ locs r := mem_locs (i := i) (by simpa using h)
    cases s <;> first | exact ih | exact List.mem_cons_of_mem _ ih
theorem locs_once {j : Nat} : ∀ {svs : List SV} {i i' : Nat}, (locs svs).Nodup → svs[i]? = some (SV.loc j) → svs[i']? = some (SV.loc j) → i = i'
  | [], _, _, _, h, _ => by simp at h
  | s :: r, 0, 0, _, _, _ => rfl
  | s :: r, 0, i' + 1, nd, h, h' => by
    have e : s = .loc j := by simpa using h
    subst e
    have nd' : (j :: locs r).Nodup := nd
    exact absurd (mem_locs (i := i') (by simpa using h')) (List.nodup_cons.mp nd').1
  | s :: r, i + 1, 0, nd, h, h' => by
    have e : s = .loc j := by simpa using h'
    subst e
    have nd' : (j :: locs r).Nodup := nd
    exact absurd (mem_locs (i := i) (by simpa using h)) (List.nodup_cons.mp nd').1
  | s :: r, i + 1, i' + 1, nd, h, h' => by
    have nd' : (locs r).Nodup := by
      cases s <;> first | exact nd | exact (List.nodup_cons.mp (show (_ :: locs r).Nodup from nd)).2
    exact congrArg (· + 1) (locs_once (j := j) (svs := r) (i := i) (i' := i') nd' (by simpa using h) (by simpa using h'))
theorem argsOk_of {R : DS} {svs : List SV} (h : argsB R svs = true) : ArgsOk R svs := by
  unfold argsB at h
  rw [Bool.and_eq_true, List.all_eq_true, decide_eq_true_eq] at h
  refine ⟨fun i j q => ?_, fun i i' j q q' => locs_once h.2 q q'⟩
  have g := h.1 j (mem_locs q)
  rw [List.getD_eq_getElem?_getD] at g
  cases z : R[j]? with
  | none => rw [z] at g; cases g
  | some s =>
    rw [z] at g
    cases s with
    | own m => exact ⟨m, rfl⟩
    | no => cases g
    | d x => cases g
    | loc k => cases g
section
variable {X : Cx} {P : List Nat} {R R' : DS} {e : Expr} {es : List Expr} {pos p : Pos} {Q : SV → DS → Prop}
theorem we_call2 {x : Str} {j k : Nat} {S : SpD} (hr : Room k X.A) (hgd : X.A.guards = some []) (C : Can X.prog X.w X.K X.mg X.base j x S) (hjk : j ≤ k) (hg : Gl X x)
    (h : WA X P (e :: es) R fun svs R1 => argsB R1 svs = true ∧ S (svs.map (cont R1)) fun sv R' => R'.length = svs.length ∧ Q sv (back R1 svs R'))
    (hdb : (x == ("__debug__" : Str)) = false := by decide) (he : starEach (e :: es) X.env = (false, eval e X.env) :: starEach es X.env := by rfl) (hpl : (backTo pos (starEach es X.env)).any (·.1) = false := by rfl) : WE X P (.Call (.Name x p) (e :: es) [] pos) R Q :=
  we_call (C.up hjk) hgd hr hg ⟨fun F σ Hd H w => (h.run F σ Hd H w).mono fun vs H' ⟨Hd', R', svs, e1, w1, r1, q1, q2⟩ => ⟨Hd', R', svs, e1, w1, r1, argsOk_of q1, q2⟩⟩ hdb he hpl
theorem nrmE (R' : DS) (h : R = R') (q : WE X P e R' Q) : WE X P e R Q := h ▸ q
theorem nrmS {sts : List Stmt} {D' : DEnds} (R' : DS) (h : R = R') (q : WSs X P sts R' D') : WSs X P sts R D' := h ▸ q
end
/-! comprehensions that change nothing -/
section
variable {X : Cx} {P : List Nat} {R0 R1 : DS} {elt tg c : Expr} {scope : Scope} {js vs : List Nat} {Q : SV → DS → Prop} {α : Type}
theorem lc_pure0 {as : List α} {enc g : α → D} (R0 : DS) (hR : wipeR R1 vs = R0) (hl : as.length ≤ sizeLine)
    (turn : ∀ a ∈ as, AllB X scope fun Y => WG Y P tg js R0 (enc a) fun R2 => AllB X scope fun Y => WE Y P elt R2 fun y R4 => asD y fun z => z = g a ∧ wipeR R4 vs = R0) (fin : Q (.own (.lst (as.map g))) R0) :
    LcG Q (Tn0 X P scope tg elt js vs) vs (as.map enc) R1 := by
  refine ⟨by rw [List.length_map]; exact hl, fun i acc R => R = R0 ∧ acc = (as.take i).map g, ⟨hR, rfl⟩, fun i x acc R hx h => ?_, fun acc R h => ?_⟩
  · obtain ⟨rfl, rfl⟩ := h
    rw [List.getElem?_map] at hx
    cases q : as[i]? with
    | none => rw [q] at hx; cases hx
    | some a =>
      rw [q] at hx
      cases hx
      intro s H C cl fp
      have t := turn a (List.mem_of_getElem? q) s H C cl fp
      refine ⟨fun F σ Hd H1 v w r => (t.run F σ Hd H1 v w r).mono fun σ2 H2 ⟨Hd2, R2, e2, w2, wp, q2⟩ => ⟨Hd2, R2, e2, w2, wp, fun s H C cl fp => (q2 s H C cl fp).mono fun y R4 h4 => ?_⟩⟩
      unfold asD at h4 ⊢
      split at h4
      · refine ⟨h4.2, ?_⟩
        rw [h4.1, List.take_add_one, q, List.map_append]
        rfl
      · refine ⟨h4.2, ?_⟩
        rw [h4.1, List.take_add_one, q, List.map_append]
        rfl
      · exact h4
  · obtain ⟨rfl, rfl⟩ := h
    rw [List.length_map, List.take_length]
    exact fin
theorem lc_pure1 {as : List α} {enc g : α → D} (p : α → Bool) (R0 : DS) (hR : wipeR R1 vs = R0) (hl : as.length ≤ sizeLine)
    (turn : ∀ a ∈ as, AllB X scope fun Y => WG Y P tg js R0 (enc a) fun R2 => AllB X scope fun Y => WT Y P c R2 fun b R3 => b = p a ∧ (b = true → AllB X scope fun Y => WE Y P elt R3 fun y R4 => asD y fun z => z = g a ∧ wipeR R4 vs = R0) ∧ (b = false → wipeR R3 vs = R0))
    (fin : Q (.own (.lst ((as.filter p).map g))) R0) : LcG Q (Tn1 X P scope tg c elt js vs) vs (as.map enc) R1 := by
  refine ⟨by rw [List.length_map]; exact hl, fun i acc R => R = R0 ∧ acc = ((as.take i).filter p).map g, ⟨hR, rfl⟩, fun i x acc R hx h => ?_, fun acc R h => ?_⟩
  · obtain ⟨rfl, rfl⟩ := h
    rw [List.getElem?_map] at hx
    cases q : as[i]? with
    | none => rw [q] at hx; cases hx
    | some a =>
      rw [q] at hx
      cases hx
      have et : (as.take (i + 1)).filter p = (as.take i).filter p ++ (if p a = true then [a] else []) := by
        rw [List.take_add_one, q, List.filter_append]
        show _ ++ List.filter p [a] = _
        rw [List.filter_cons]
        rfl
      intro s H C cl fp
      have t := turn a (List.mem_of_getElem? q) s H C cl fp
      refine ⟨fun F σ Hd H1 v w r => (t.run F σ Hd H1 v w r).mono fun σ2 H2 ⟨Hd2, R2, e2, w2, wp, q2⟩ => ⟨Hd2, R2, e2, w2, wp, fun s H C cl fp => (q2 s H C cl fp).mono fun b R3 h3 => ?_⟩⟩
      obtain ⟨hb, h3, h3'⟩ := h3
      refine ⟨fun eb => fun s H C cl fp => (h3 eb s H C cl fp).mono fun y R4 h4 => ?_, fun eb => ⟨h3' eb, ?_⟩⟩
      · rw [hb] at eb
        have add : ∀ z, z = g a → ((as.take i).filter p).map g ++ [z] = ((as.take (i + 1)).filter p).map g := fun z ez => by
          rw [et, if_pos eb, List.map_append, ez]
          rfl
        unfold asD at h4 ⊢
        split at h4
        · exact ⟨h4.2, add _ h4.1⟩
        · exact ⟨h4.2, add _ h4.1⟩
        · exact h4
      · rw [hb] at eb
        rw [et, if_neg (by rw [eb]; exact Bool.false_ne_true), List.append_nil]
  · obtain ⟨rfl, rfl⟩ := h
    rw [List.length_map, List.take_length]
    exact fin
end
end Dl
namespace Dl
open PySem PySem.Spec PyProof.Rows L2
/-! a tuple once, and more often -/
set_option maxHeartbeats 4000000 in
theorem tup_once (l : Addr) (items : Array Value) (n : Nat) (dd : Option Addr) (sl : Array (Option Value)) (u : Tok) :
    Meets (Builtin.«tuple.__mul__» ⟨[.ref l, .int 1 u], []⟩) (fun _ R s => s.heap.get? l = some { cls := .type "tuple", dict := dd, data := .seq items n, slots := sl } ∧ R (.ok (.ret (.ref l))) s) :=
  .of_wp fun prog w A R s h => by
    obtain ⟨hp, g, d, tk, os⟩ := s
    obtain ⟨hl, h⟩ := h
    have f1 := AutoSeq1.idx_int
    have b1 : (items.isEmpty || (1 : Int) == 1) = true := by simp
    wp_walk using wpAny_loadPart' hl
    repeat (first
      | (refine wpAny_ite_true (decide_eq_true b1) ?_; wp_walk using wpAny_loadPart' hl)
      | (rw [if_pos b1]; wp_walk using wpAny_loadPart' hl))
    exact ⟨_, rfl, h⟩

section
variable {X : Cx} {P : List Nat} {R : DS} {a b c e : Expr} {rest : List Expr} {pos p : Pos} {Q : SV → DS → Prop}
theorem op_once : OpR X (binaryOp .Mult) (fun x y H Q => ∃ l xs, x = .ref l ∧ y = .int 1 ∧ SqT X.K H l xs ∧ Q (.ref l) H) := by
  intro pins s σ H x y v u Q I rx ry h
  obtain ⟨l, xs, rfl, rfl, hT, q⟩ := h
  cases rx
  obtain ⟨t, rfl⟩ := ry
  obtain ⟨its, r, ⟨⟨cls, dd, data, sl⟩, ho, hc, n, hd⟩, hs⟩ := I.tuple hT
  simp only at hc hd
  subst hc hd
  exact wpAny_binaryOp_repeat_ref (T := "tuple") (U := "int") (by decide) ⟨_, ho, rfl⟩ (fun s' => typeIs_int s' 1 t) noFill_tuple_mul F.fills_int_mul F.slot_int_rmul repeat_tuple F.slot_int_index.lookup
    (call_meets F.slot_int_rmul (typeIs_int s 1 t) F.entry_int_rmul (F.args_int_rmul_2 _ _) (int_rmul_tuple 1 t l its.toArray n dd sl) ⟨ho, rfl, ⟨_, ho, rfl⟩,
      call_meets F.slot_tuple_mul ⟨_, ho, rfl⟩ F.entry_tuple_mul (F.args_tuple_mul_2 _ _) (tup_once l its.toArray n dd sl t) ⟨ho, .ref l, H, I, rfl, q⟩⟩)
theorem rep_dp {K : PySem.W.Frag} {H : Hp} {vs : List V} {ds : List D} (h : DqAll K H vs ds) : ∀ n : Nat, DqAll K H (List.replicate n vs).flatten (List.replicate n ds).flatten
  | 0 => .nil
  | n + 1 => by
    rw [List.replicate_succ, List.replicate_succ, List.flatten_cons, List.flatten_cons]
    exact dpAllApp h (rep_dp h n)
theorem we_repT (h : WE X P a R fun x R1 => ∃ ds, x = .d (.tuple ds) ∧ WE X P b R1 fun y R2 => asI y fun k => (ds ≠ [] ∧ 1 ≤ k ∧ k ≤ 1000 ∧ ds.length ≤ 1000) ∧ Q (.d (.tuple (List.replicate k.toNat ds).flatten)) R2) : WE X P (.BinOp a .Mult b pos) R Q :=
  .of (pe_op (op_repT.or op_once) pe_m pe_m) fun F σ Hd H w => h.use w fun Hd1 R1 x v H1 e1 w1 r1 q1 => by
    obtain ⟨ds, rfl, q1⟩ := q1
    exact q1.use w1 fun Hd2 R2 y u H2 e2 w2 r2 q2 => by
      obtain ⟨k, rfl, ⟨g1, g2, g3, g4⟩, q⟩ := q2.elim
      cases (show Dq _ _ u (.int k) from r2)
      obtain ⟨l, vs, rfl, _, hT, hv⟩ := Rp.tup (sv := .d (.tuple ds)) w2 (show Rp _ _ _ _ _ _ (.d (.tuple ds)) v from dpMono e2 r1) rfl
      have hne : vs ≠ [] := fun z => g1 (by
        have := dpAllLen hv
        rw [z] at this
        exact List.eq_nil_of_length_eq_zero this.symm)
      by_cases hk : k = 1
      · subst hk
        refine .inr ⟨l, vs, rfl, rfl, hT, .same (e1.trans e2) (.here w2 (sv := .d (.tuple (List.replicate (Int.toNat 1) ds).flatten)) ?_ q)⟩
        have e : (List.replicate (Int.toNat 1) ds).flatten = ds := by
          show (List.replicate 1 ds).flatten = ds
          rw [List.replicate_one, List.flatten_cons, List.flatten_nil, List.append_nil]
        rw [e]
        exact dpMono e2 r1
      · refine .inl ⟨l, k, vs, rfl, rfl, hT, hne, by omega, g3, by rw [dpAllLen hv]; exact g4, fun z hz => ?_⟩
        obtain ⟨w3, s3⟩ := w2.allocD (o := .tup (List.replicate k.toNat vs).flatten) hz
        exact .same ((e1.trans e2).trans s3) (.here w3 (show Rp _ _ _ _ _ _ (.d (.tuple (List.replicate k.toNat ds).flatten)) _ from Dq.tup (upd_same) (rep_dp (dpAllMono s3 hv) _)) q)
theorem we_addT (h : WE X P a R fun x R1 => ∃ ds, x = .d (.tuple ds) ∧ WE X P b R1 fun y R2 => ∃ es, y = .d (.tuple es) ∧ ds.length + es.length ≤ sizeLine ∧ Q (.d (.tuple (ds ++ es))) R2) : WE X P (.BinOp a .Add b pos) R Q :=
  .of (pe_op op_catA pe_m pe_m) fun F σ Hd H w => h.use w fun Hd1 R1 x v H1 e1 w1 r1 q1 => by
    obtain ⟨ds, rfl, q1⟩ := q1
    exact q1.use w1 fun Hd2 R2 y u H2 e2 w2 r2 q2 => by
      obtain ⟨es, rfl, hz, q⟩ := q2
      obtain ⟨l, vs, rfl, _, hT, hv⟩ := Rp.tup (sv := .d (.tuple ds)) w2 (show Rp _ _ _ _ _ _ (.d (.tuple ds)) v from dpMono e2 r1) rfl
      obtain ⟨m, us, rfl, _, hU, hu⟩ := Rp.tup (sv := .d (.tuple es)) w2 r2 rfl
      refine ⟨l, m, vs, us, rfl, rfl, hT, hU, by rw [dpAllLen hv, dpAllLen hu]; exact hz, fun z => ?_, fun _ z => ?_, fun _ _ z hz => ?_⟩
      · subst z
        cases hv
        exact .same (e1.trans e2) (.here w2 r2 q)
      · subst z
        cases hu
        rw [List.append_nil] at q
        exact .same (e1.trans e2) (.here w2 (show Rp _ _ _ _ _ _ (.d (.tuple ds)) _ from dpMono e2 r1) q)
      · obtain ⟨w3, s3⟩ := w2.allocD (o := .tup (vs ++ us)) hz
        exact .same ((e1.trans e2).trans s3) (.here w3 (show Rp _ _ _ _ _ _ (.d (.tuple (ds ++ es))) _ from Dq.tup (upd_same) (dpAllApp (dpAllMono s3 hv) (dpAllMono s3 hu))) q)
/-! list + list -/
def vO (R : DS) : SV → Option (List D)
  | .own (.lst ds) => some ds
  | .loc i => match R[i]? with
    | some (.own (.lst ds)) => some ds
    | _ => none
  | _ => none
theorem Rp.exact {K : PySem.W.Frag} {F : Fr} {P : List Nat} {R : DS} {σ : L2.St} {Hd H : Hp} {sv : SV} {v : V} {ds : List D} (w : Wd K F P R σ Hd H) (r : Rp K F R σ Hd H sv v) (h : vO R sv = some ds) : ∃ a vs, v = .ref a ∧ H a = some (.lst vs) ∧ DqAll K Hd vs ds := by
  unfold vO at h
  split at h
  · cases h
    obtain ⟨a, o, rfl, ha, ⟨vs, ho, hv⟩, _⟩ := r
    subst ho
    exact ⟨a, vs, rfl, ha, hv⟩
  · rename_i i
    split at h
    · rename_i e
      cases h
      obtain ⟨a, o, s1, ha, ⟨vs, ho, hv⟩, _⟩ := w.own i _ e
      subst ho
      have s2 := r.1
      rw [s1] at s2
      cases s2
      exact ⟨a, vs, rfl, ha, hv⟩
    · cases h
  · cases h
theorem we_catL (h : WE X P a R fun x R1 => ∃ i, x = .loc i ∧ WE X P b R1 fun y R2 => ∃ ds es, R2[i]? = some (.own (.lst ds)) ∧ vO R2 y = some es ∧ ds.length + es.length ≤ sizeLine ∧ Q (.own (.lst (ds ++ es))) R2) : WE X P (.BinOp a .Add b pos) R Q :=
  .of (pe_op op_cat pe_m pe_m) fun F σ Hd H w => h.use w fun Hd1 R1 x v H1 e1 w1 r1 q1 => by
    obtain ⟨i, rfl, q1⟩ := q1
    exact q1.use w1 fun Hd2 R2 y u H2 e2 w2 r2 q2 => by
      obtain ⟨ds, es, hR, hy, hz, q⟩ := q2
      obtain ⟨m, us, rfl, hm, hu⟩ := Rp.exact w2 r2 hy
      obtain ⟨l, o, s1, hl, ⟨vs, ho, hv⟩, _⟩ := w2.own i _ hR
      subst ho
      have s2 := r1.1
      rw [s1] at s2
      cases s2
      exact ⟨l, m, vs, us, rfl, rfl, hl, hm, by rw [dpAllLen hv, dpAllLen hu]; exact hz, fun z hz => .same (e1.trans e2) (.here (w2.allocH hz) (ownNew w2 hz (crL (dpAllApp hv hu))) q)⟩
theorem we_catO (h : WE X P a R fun x R1 => ∃ ds, x = .own (.lst ds) ∧ WE X P b R1 fun y R2 => ∃ es, vO R2 y = some es ∧ ds.length + es.length ≤ sizeLine ∧ Q (.own (.lst (ds ++ es))) R2) : WE X P (.BinOp a .Add b pos) R Q :=
  .of (pe_op op_cat pe_m pe_m) fun F σ Hd H w => h.use w fun Hd1 R1 x v H1 e1 w1 r1 q1 => by
    obtain ⟨ds, rfl, q1⟩ := q1
    obtain ⟨l, o, rfl, hl, ⟨vs, ho, hv⟩, hd, hf, hn⟩ := r1
    subst ho
    have hz0 : ¬ F.Fz l := fun z => (w1.prot l z).2 hf
    exact (q1.run (F.with l (.lst vs)) σ Hd1 H1 (w1.enter hl hd hn)).mono fun u H2 ⟨Hd2, R2, y, e2, w2, r2, q2⟩ => by
      obtain ⟨es, hy, hz, q⟩ := q2
      obtain ⟨m, us, rfl, hm, hu⟩ := Rp.exact w2 r2 hy
      obtain ⟨w3, g1, g2, g3⟩ := Wd.leave w2 hf hz0
      exact ⟨l, m, vs, us, rfl, rfl, g1, hm, by rw [dpAllLen hv, dpAllLen hu]; exact hz, fun z hz => .same (e1.trans e2) (.here (w3.allocH hz) (ownNew w3 hz (crL (dpAllApp (dpAllMono e2 hv) hu))) q)⟩
/-- xs or ys: lists -/
theorem we_orL (h : WE X P a R fun x R1 => ∃ ds, x = .own (.lst ds) ∧ (ds ≠ [] → Q (.own (.lst ds)) R1) ∧ (ds = [] → WE X P (.BoolOp .Or (b :: rest) pos) R1 Q)) : WE X P (.BoolOp .Or (a :: b :: rest) pos) R Q :=
  .of (pe_orT pe_m pe_m) fun F σ Hd H w => h.use w fun Hd1 R1 x v H1 e1 w1 r1 q1 => by
    obtain ⟨ds, rfl, g1, g2⟩ := q1
    obtain ⟨l, vs, rfl, hl, hv⟩ := Rp.list w1 r1 rfl
    refine ⟨!vs.isEmpty, .inl ⟨vs, hl, rfl⟩, ?_⟩
    cases ds with
    | nil =>
      cases hv
      exact iteF ((g2 rfl).use w1 fun Hd2 R2 y u H2 e2 w2 r2 q2 => .same (e1.trans e2) (.here w2 r2 q2))
    | cons d ds =>
      cases hv
      exact iteT (.same e1 (.here w1 r1 (g1 (by intro z; cases z))))
/-! == of ints, texts, truths -/
def sc2 : SV → SV → (Bool → Prop) → Prop
  | .d (.int i), .d (.int j), k => k (decide (i = j))
  | .d (.str i), .d (.str j), k => k (decide (i = j))
  | .d (.bool i), .d (.bool j), k => k (decide (i = j))
  | _, _, _ => False
theorem sc2_ok {K : PySem.W.Frag} {H : Hp} {F : Fr} {R : DS} {σ : L2.St} {Hd : Hp} {x y : SV} {v u : V} {k : Bool → Prop} (h : sc2 x y k) (r1 : Rp K F R σ Hd H x v) (r2 : Rp K F R σ Hd H y u) : scal v u = true ∧ k (decide (v = u)) := by
  unfold sc2 at h
  split at h
  · cases (show Dq _ _ v (.int _) from r1)
    cases (show Dq _ _ u (.int _) from r2)
    refine ⟨rfl, ?_⟩
    rw [dec_int, Bool.beq_eq_decide_eq]
    exact h
  · cases (show Dq _ _ v (.str _) from r1)
    cases (show Dq _ _ u (.str _) from r2)
    refine ⟨rfl, ?_⟩
    have e : ∀ i j : Str, decide (V.str i = V.str j) = decide (i = j) := fun i j => by
      by_cases z : i = j
      · subst z; simp
      · rw [decide_eq_false z, decide_eq_false fun y => z (V.str.inj y)]
    rw [e]
    exact h
  · cases (show Dq _ _ v (.bool _) from r1)
    cases (show Dq _ _ u (.bool _) from r2)
    refine ⟨rfl, ?_⟩
    rw [dec_bl, Bool.beq_eq_decide_eq]
    exact h
  · cases h
theorem fit_eqS (h : WE X P a R fun x R1 => stb x fun x => WE X P b R1 fun y R2 => (∃ d, vD R2 x = some d) ∧ sc2 x y fun c => Q (.d (.bool c)) R2) : Fits X P R (tOp rEq (TEm X a) (TEm X b)) Q :=
  two h fun F σ Hd H x y R2 v u Z w r1 r2 g k => by
    obtain ⟨g1, g2⟩ := sc2_ok g r1 r2
    exact ⟨g1, k _ _ (.here w (show Rp _ _ _ _ _ _ (.d (.bool _)) _ from .bl _) g2)⟩
theorem fit_neS (h : WE X P a R fun x R1 => stb x fun x => WE X P b R1 fun y R2 => (∃ d, vD R2 x = some d) ∧ sc2 x y fun c => Q (.d (.bool (!c))) R2) : Fits X P R (tOp rNe (TEm X a) (TEm X b)) Q :=
  two h fun F σ Hd H x y R2 v u Z w r1 r2 g k => by
    obtain ⟨g1, g2⟩ := sc2_ok g r1 r2
    exact ⟨g1, k _ _ (.here w (show Rp _ _ _ _ _ _ (.d (.bool _)) _ from .bl _) g2)⟩
theorem we_eqS (h : WE X P a R fun x R1 => stb x fun x => WE X P b R1 fun y R2 => (∃ d, vD R2 x = some d) ∧ sc2 x y fun c => Q (.d (.bool c)) R2) : WE X P (.Compare a [.Eq] [b] pos) R Q := .fit (pe_cmpR op_eq pe_m pe_m (nomark _)) (fit_eqS h)
theorem wt_eqS {Q : Bool → DS → Prop} (h : WE X P a R fun x R1 => stb x fun x => WE X P b R1 fun y R2 => (∃ d, vD R2 x = some d) ∧ sc2 x y fun c => Q c R2) : WT X P (.Compare a [.Eq] [b] pos) R Q :=
  .fit (pt_cmpR op_eq pe_m pe_m (nomark _)) (fit_eqS (Q := fun x R1 => asB x fun c => Q c R1) h)
theorem we_neS (h : WE X P a R fun x R1 => stb x fun x => WE X P b R1 fun y R2 => (∃ d, vD R2 x = some d) ∧ sc2 x y fun c => Q (.d (.bool (!c))) R2) : WE X P (.Compare a [.NotEq] [b] pos) R Q := .fit (pe_cmpR op_ne pe_m pe_m (nomark _)) (fit_neS h)
theorem wt_neS {Q : Bool → DS → Prop} (h : WE X P a R fun x R1 => stb x fun x => WE X P b R1 fun y R2 => (∃ d, vD R2 x = some d) ∧ sc2 x y fun c => Q (!c) R2) : WT X P (.Compare a [.NotEq] [b] pos) R Q :=
  .fit (pt_cmpR op_ne pe_m pe_m (nomark _)) (fit_neS (Q := fun x R1 => asB x fun c => Q c R1) h)
/-! isinstance with a built-in class -/
def tyN : D → String
  | .none => "NoneType" | .bool _ => "bool" | .int _ => "int" | .str _ => "str" | .list _ => "list" | .tuple _ => "tuple" | .dict _ => "dict"
end
end Dl
namespace Dl
open PySem PySem.Spec PyProof.Rows L2
/-! isinstance with a built-in class -/
theorem ty_of {K : PySem.W.Frag} {H : Hp} {v : V} {x : D} (h : Dq K H v x) : TyX K H v (.type (tyN x)) := by
  cases h with
  | non => exact .base .non
  | bl b => exact .base (.bl b)
  | int i => exact .base (.int i)
  | str x => exact .base (.str x)
  | lst hs ha =>
    rcases hs with (hs | ⟨o, hs⟩) | ⟨o, its, n, hk, hc, _⟩
    · exact .base (.lst hs)
    · exact .base (.frz hs)
    · exact .kList hk hc
  | tup hs ha => exact .base (.tup hs)
  | dct0 h => exact .base (.dK h)

section
variable {X : Cx} {P : List Nat} {R : DS} {a b c e kx vx tg it : Expr} {scope : Scope} {js : List Nat} {pos p p2 : Pos} {Q : SV → DS → Prop}
theorem we_isi {y : Str} {T : String} (hm : X.mg "isinstance" = none) (hg : Gl X "isinstance") (hm2 : X.mg y = none) (hg2 : Gl X y) (hv : bootBuiltins y = some (.type T))
    (h : WE X P a R fun x R1 => ∃ d k, vD R1 x = some d ∧ kitB (tyN d) T = some k ∧ Q (.d (.bool k)) R1) (hn : y ≠ "__name__" := by decide) (hd : (y == ("__debug__" : Str)) = false := by decide)
    (he : starEach [a, .Name y p2] X.env = (false, eval a X.env) :: starEach [.Name y p2] X.env := by rfl) (he2 : starEach [.Name y p2] X.env = (false, eval (.Name y p2) X.env) :: starEach [] X.env := by rfl) (hpl : (backTo pos (starEach [.Name y p2] X.env)).any (·.1) = false := by rfl) :
    WE X P (.Call (.Name "isinstance" p) [a, .Name y p2] [] pos) R Q :=
  .of (pe_callB call_isi hg hm (by decide +kernel) (pa_cons pe_m (pa_cons (pe_bltn (v := .ty T) hg2 hm2 hv rfl hn hd) pa_nil he2) he) (by decide) (by decide) he hpl) fun F σ Hd H w => h.use w fun Hd1 R1 x v H1 e1 w1 r1 q1 => by
    obtain ⟨d, k, hd, hk, q⟩ := q1
    exact ⟨v, .ty T, _, _, k, rfl, .ty T, ty_of (Rp.dat w1 r1 hd), kit_ty hk, .same e1 (.here w1 (show Rp _ _ _ _ _ _ (.d (.bool k)) _ from .bl k) q)⟩

/-! {k: v for ..}: int keys, over a list, no test -/
def LpD (K : PySem.W.Frag) (F : Fr) (P : List Nat) (τ : L2.St) (Hd1 : Hp) (I : Nat → List (Key × D) → DS → Prop) (Dl : Addr) (i : Nat) (H' : Hp) : Prop :=
  ∃ Hd' R' ws kvs, Same Hd1 Hd' ∧ Wd K F P R' τ Hd' H' ∧ H' Dl = some (.dK ws) ∧ Paired (fun (p : Key × D) (q : Key × V) => p.1 = q.1 ∧ Dq K Hd' q.2 p.2) kvs ws ∧ Hd' Dl = none ∧ NoOwn R' τ Dl ∧ kvs.length ≤ i ∧ I i kvs R'
theorem putD_len {κ : Type} [DecidableEq κ] (kvs : List (κ × D)) (k : κ) (v : D) : (putD kvs k v).length ≤ kvs.length + 1 := by
  unfold putD
  split
  · rw [List.length_map]; omega
  · rw [List.length_append]; simp
def TnD (X : Cx) (P : List Nat) (scope : Scope) (tg kx vx : Expr) (js vs : List Nat) (I : Nat → List (Key × D) → DS → Prop) (i : Nat) (kvs : List (Key × D)) (x : D) (R' : DS) : Prop :=
  AllB X scope fun Y => WG Y P tg js R' x fun R2 => AllB X scope fun Y => WE Y P kx R2 fun y R3 => asI y fun n => AllB X scope fun Y => WE Y P vx R3 fun z R4 => asD z fun d => I (i + 1) (putD kvs (Sum.inl n) d) (wipeR R4 vs)
theorem dc_fits (own : List (Str × Nat)) (js : List Nat) (hvs : ∀ v ∈ own.map (·.2), v ∉ P) (hj : ∀ j ∈ js, j ∈ own.map (·.2))
    (h : WE X P it R fun sv R1 => asD sv fun d => ∃ (xs : List D) (I : Nat → List (Key × D) → DS → Prop), d = .list xs ∧ xs.length ≤ sizeLine ∧ I 0 [] (wipeR R1 (own.map (·.2))) ∧
      (∀ i x kvs R', xs[i]? = some x → I i kvs R' → TnD X P scope tg kx vx js (own.map (·.2)) I i kvs x R') ∧ ∀ kvs R', I xs.length kvs R' → Q (.own (.dK kvs)) R') : Fits X P R (tDc (iList X.K (TEm X it)) (gB X scope tg) tYes (teB X scope kx) (teB X scope vx) (own.map (·.2))) Q :=
  fun F σ Hd H w Z hZ => h.fzD.use w fun Hd1 R1 sv v H1 e1 w1 r1 q1 => by
    obtain ⟨d, rfl, xs, I, rfl, hl, i0, step, fin⟩ := q1
    have r' : Dq X.K Hd1 v (.list xs) := r1
    cases r' with
    | lst hS hv =>
      rename_i ad ws
      refine ⟨ad, rfl, ⟨ws, w1.dat.seq hS⟩, fun Dl hD => ?_⟩
      have hf : F.Hf Dl = none := sameNone w1.frm hD
      have hz : ¬ F.Fz Dl := fun z => (w1.prot Dl z).2 hf
      have no : NoOwn R1 σ Dl := fun i n q z => by
        obtain ⟨b, u, s1, s2, _⟩ := w1.own i n q
        rw [z] at s1
        cases s1
        rw [hD] at s2
        cases s2
      have l0 : LpD X.K F P (wipe σ (own.map (·.2))) Hd1 I Dl 0 (upd H1 Dl (.dK [])) := ⟨Hd1, _, [], [], Same.refl _, (w1.allocH hD).wiped hvs, upd_same, .nil, sameNone w1.dat hD, no.wiped, Nat.le_refl _, i0⟩
      refine ⟨fun i m H' => m = ws.length - i ∧ i ≤ ws.length ∧ LpD X.K F P (wipe σ (own.map (·.2))) Hd1 I Dl i H', ⟨ws.length, by simp, Nat.zero_le _, l0⟩, fun i m H' hW => ?_⟩
      obtain ⟨rfl, hi, hL⟩ := hW
      have hL0 := hL
      obtain ⟨Hd', R', va, kvs, e, w', h1, h2, h3, h4, h5, h6⟩ := hL
      have hA : SqL X.K H' ad ws := w'.dat.seq (e.seq hS)
      by_cases hlt : i < ws.length
      · have hx : ws[i]? = some ws[i] := List.getElem?_eq_getElem hlt
        obtain ⟨x, hx1, hdp⟩ := dpAllGetV hv hx
        have hi2 : i < xs.length := (List.getElem?_eq_some_iff.mp hx1).1
        refine .inr ⟨⟨ws, _, hA, hx⟩, LpD X.K F P (wipe σ (own.map (·.2))) Hd1 I Dl (i + 1), fun H2 hN2 => ⟨ws.length - (i + 1), by omega, rfl, hlt, hN2⟩, fun y H2 hy => ?_⟩
        obtain ⟨rfl, fy⟩ := hy
        have ey : y = ws[i] := Option.some.inj ((fy _ hA).symm.trans hx)
        subst ey
        intro s H0 C cl fp
        refine ((step i x kvs R' hx1 h6 s H0 C cl fp).run (F.with Dl (.dK va)) _ Hd' _ _ (w'.enter h1 h3 h4) (dpMono e hdp)).mono fun σ2 H2 ⟨Hd2, R2, e2, w2, wp, q2⟩ => ?_
        have hw : wipe σ2 (own.map (·.2)) = wipe σ (own.map (·.2)) := by rw [wp _ hj, wipe_wipe]
        refine ⟨hw, iteT (B := LpD X.K F P (wipe σ (own.map (·.2))) Hd1 I Dl (i + 1) H2) fun s H0 C cl fp => (q2 s H0 C cl fp).use w2 fun Hd3 R3 y3 u3 H3 e3 w3 r3 q3 => ?_⟩
        obtain ⟨n, rfl, q3⟩ := q3.elim
        cases (show Dq _ _ u3 (.int n) from r3)
        intro s H0 C cl fp
        refine (q3 s H0 C cl fp).fzD.use w3 fun Hd4 R4 y4 u4 H4 e4 w4 r4 q4 => ?_
        obtain ⟨d4, rfl, q4⟩ := q4
        obtain ⟨w5, g1, g2, g3⟩ := Wd.leave w4 hf hz
        have hv2 : Paired (fun (p : Key × D) (q : Key × V) => p.1 = q.1 ∧ Dq X.K Hd4 q.2 p.2) kvs va := Paired.mapP h2 fun _ _ q => ⟨q.1, dpMono ((e2.trans e3).trans e4) q.2⟩
        refine ⟨va, Sum.inl n, rfl, g1, by rw [pairedLen hv2]; omega, Hd4, wipeR R4 (own.map (·.2)), _, putD kvs (Sum.inl n) d4, ((e.trans e2).trans e3).trans e4, ?_, upd_same, put_dp (Sum.inl n) r4 hv2, g2, ?_, Nat.le_trans (putD_len kvs (Sum.inl n) d4) (by omega), q4⟩
        · rw [← hw]
          exact (w5.poke g1 (crp_bare (crK hv2)) g2 hf g3).wiped hvs
        · rw [← hw]
          exact g3.wiped
      · have ei : i = xs.length := by rw [← dpAllLen hv]; omega
        subst ei
        exact .inl ⟨⟨ws, hA, by omega⟩, hZ _ _ ⟨Hd', R', .own (.dK kvs), e1.trans e, w'.unwipe, ⟨Dl, _, rfl, h1, crK h2, h3, hf, h4.unwipe w'⟩, fin kvs R' h6⟩⟩
theorem we_dc0 (own : List (Str × Nat)) (js : List Nat) (hc : X.calm = true) (hN : X.N.Nodup) (ok : BlkOk X.N X.env.scope scope own) (hvs : ∀ v ∈ own.map (·.2), v ∉ P) (hj : ∀ j ∈ js, j ∈ own.map (·.2))
    (h : WE X P it R fun sv R1 => asD sv fun d => ∃ (xs : List D) (I : Nat → List (Key × D) → DS → Prop), d = .list xs ∧ xs.length ≤ sizeLine ∧ I 0 [] (wipeR R1 (own.map (·.2))) ∧
      (∀ i x kvs R', xs[i]? = some x → I i kvs R' → TnD X P scope tg kx vx js (own.map (·.2)) I i kvs x R') ∧ ∀ kvs R', I xs.length kvs R' → Q (.own (.dK kvs)) R')
    (hs : ∀ x, foldedSetIterable it X.env x = pure x := by intro _; rfl) : WE X P (.DictComp kx vx [⟨tg, it, [], 0⟩] scope pos) R Q :=
  .fit (pe_dc (own := own) hc hN (pi_list pe_m) ok (fun s H C cl fp => (⟨fun pins s' σ H' v u Z I r h => h s H C cl fp pins s' u I r⟩ : PG _ tg (gB X scope tg))) (fun _ _ _ _ _ => pts_nil) (fun s H C cl fp => (⟨fun pins s' σ H' Z I h => h s H C cl fp pins s' I⟩ : PE _ kx (teB X scope kx)))
    (fun s H C cl fp => (⟨fun pins s' σ H' Z I h => h s H C cl fp pins s' I⟩ : PE _ vx (teB X scope vx))) hs) (dc_fits own js hvs hj h)
end
end Dl
namespace Dl
open PySem PySem.Spec PyProof.Rows L2
theorem atI_of {α : Type} {xs : List α} {i : Int} {v : α} (h0 : 0 ≤ i) (h : xs[i.toNat]? = some v) : atI xs i = some v := by
  have e : i = ((i.toNat : Nat) : Int) := by omega
  have := atI_nat h
  rw [← e] at this
  exact this
theorem rep_one {α : Type} (x : α) : ∀ n : Nat, (List.replicate n [x]).flatten = List.replicate n x
  | 0 => rfl
  | n + 1 => by rw [List.replicate_succ, List.replicate_succ, List.flatten_cons, rep_one x n]; rfl
theorem lay_ints : ∀ ns : List Int, PyData.canLayAll0 (ns.map PyData.int) = true
  | [] => rfl
  | n :: r => by
    rw [List.map_cons]
    show (PyData.canLay0 (.int n) && PyData.canLayAll0 (r.map PyData.int)) = true
    rw [lay_ints r]
    rfl
theorem depth_ints : ∀ ns : List Int, PyData.depthAll (ns.map PyData.int) = 0
  | [] => rfl
  | n :: r => by
    rw [List.map_cons]
    show max (PyData.depth (.int n)) (PyData.depthAll (r.map PyData.int)) = 0
    rw [depth_ints r]
    rfl
theorem shaped_ints (ns : List Int) : SeqAt.shaped (.list (ns.map PyData.int)) = true := by
  unfold SeqAt.shaped
  rw [Bool.and_eq_true, decide_eq_true_eq]
  refine ⟨lay_ints ns, ?_⟩
  show PyData.depthAll (ns.map PyData.int) + 1 ≤ 64
  rw [depth_ints]
  decide
theorem eqv_int (i j : Int) : PyData.eqv (.int i) (.int j) = (i == j) := by simp [PyData.eqv]
theorem eqvAll_ints : ∀ a b : List Int, PyData.eqvAll (a.map PyData.int) (b.map PyData.int) = decide (a = b)
  | [], [] => by simp [PyData.eqvAll]
  | [], y :: b => by simp [PyData.eqvAll]
  | x :: a, [] => by simp [PyData.eqvAll]
  | x :: a, y :: b => by
    rw [List.map_cons, List.map_cons]
    show (PyData.eqv (.int x) (.int y) && PyData.eqvAll (a.map PyData.int) (b.map PyData.int)) = _
    rw [eqvAll_ints a b, eqv_int]
    by_cases h : x = y
    · subst h
      simp
    · simp [h]
theorem eqv_ints (a b : List Int) : PyData.eqv (.list (a.map PyData.int)) (.list (b.map PyData.int)) = decide (a = b) := by
  rw [← eqvAll_ints]
  simp [PyData.eqv]
/-- lists of ints against one another -/
theorem gEq_ints {R2 : DS} {x y : SV} {a b : List Int} {k : Bool → Prop} (h1 : vD R2 x = some (.list (a.map PyData.int))) (h2 : vD R2 y = some (.list (b.map PyData.int))) (q : k (decide (a = b))) : gEq R2 x y k :=
  ⟨_, _, h1, h2, shaped_ints a, shaped_ints b, by rw [eqv_ints]; exact q⟩
end Dl
namespace Dl
open PySem PySem.Spec PyProof.Rows L2
theorem allB_i {X : Cx} {scope : Scope} {f : Cx → Prop} (h : ∀ (s : Shared) (H : Hp) (C : Addr) (cl : List (Str × Addr)) (fp : List Addr), f (X.blk s H scope (compEnvC scope cl C X.env) fp)) : AllB X scope f := h
theorem wgs_consN {X : Cx} {P : List Nat} {R : DS} {e : Expr} {es : List Expr} {j : Nat} {ks : List Nat} {x : D} {xs : List D} {Q : DS → Prop} (h : WG X P e [j] R x fun R1 => WGs X P es ks R1 xs Q)
    (hs : (assignEach (e :: es) X.env).map (·.2) = assign e X.env :: (assignEach es X.env).map (·.2) := by rfl) : WGs X P (e :: es) (j :: ks) R (x :: xs) Q := wgs_cons h hs
theorem wt_bool {X : Cx} {P : List Nat} {R : DS} {op : _} {es : List Expr} {pos : Pos} {Q : Bool → DS → Prop} (h : WW X P (.BoolOp op es pos) R Q) : WT X P (.BoolOp op es pos) R Q := wt_w h
theorem gIn_l {R2 : DS} {x y : SV} {k : Bool → Prop} (i : Int) (ns : List Int) (hx : x = .d (.int i)) (hy : vL R2 y = some (ns.map PyData.int)) (q : k (decide (i ∈ ns))) : gIn R2 x y k := ⟨i, ns, hx, hy, q⟩
theorem gInD_l {R2 : DS} {x y : SV} {k : Bool → Prop} (i : Int) (j : Nat) (kvs : List (Key × D)) (hx : x = .d (.int i)) (hy : y = .loc j) (hR : R2[j]? = some (.own (.dK kvs))) (q : k (hasK kvs (Sum.inl i))) : gInD R2 x y k := ⟨i, j, kvs, hx, hy, hR, q⟩
theorem ws_fz (i : Nat) {X : Cx} {P : List Nat} {R : DS} {st : Stmt} {D' : DEnds} {ds : List D} (hi : R[i]? = some (.own (.lst ds))) (hP : i ∉ P) (h : WS X P st (R.set i (.d (.list ds))) D') : WS X P st R D' :=
  ⟨fun F σ Hd H w => by
    obtain ⟨Hd1, v, _, e1, w1, _⟩ := w.fz hi hP
    exact (h.run F σ Hd1 H w1).mono (upD_le e1)⟩
theorem sz1000 : 1000 ≤ sizeLine := by decide
theorem szle {n : Nat} (h : n ≤ 1000) : n ≤ sizeLine := Nat.le_trans h sz1000
/-! +, *, ==, slices: by what the left one is -/
def asT : SV → (List D → Prop) → Prop
  | .d (.tuple ds), k => k ds
  | _, _ => False
theorem asT.elim {sv : SV} {k : List D → Prop} (h : asT sv k) : ∃ ds, sv = .d (.tuple ds) ∧ k ds := by
  unfold asT at h
  split at h
  · exact ⟨_, rfl, h⟩
  · cases h
section
variable {X : Cx} {P : List Nat} {R : DS} {a b e : Expr} {pos : Pos} {Q : SV → DS → Prop}
def addG (X : Cx) (P : List Nat) (b : Expr) (Q : SV → DS → Prop) (R1 : DS) : SV → Prop
  | .d (.int i) => WE X P b R1 fun y R2 => asI y fun j => Q (.d (.int (i + j))) R2
  | .d (.tuple ds) => WE X P b R1 fun y R2 => asT y fun es => ds.length + es.length ≤ sizeLine ∧ Q (.d (.tuple (ds ++ es))) R2
  | .loc i => WE X P b R1 fun y R2 => ∃ ds es, R2[i]? = some (.own (.lst ds)) ∧ vO R2 y = some es ∧ ds.length + es.length ≤ sizeLine ∧ Q (.own (.lst (ds ++ es))) R2
  | .own (.lst ds) => WE X P b R1 fun y R2 => ∃ es, vO R2 y = some es ∧ ds.length + es.length ≤ sizeLine ∧ Q (.own (.lst (ds ++ es))) R2
  | _ => False
theorem we_addG (h : WE X P a R fun x R1 => addG X P b Q R1 x) : WE X P (.BinOp a .Add b pos) R Q :=
  .of (pe_op (op_add.or (op_catA.or op_cat)) pe_m pe_m) fun F σ Hd H w => h.use w fun Hd1 R1 x v H1 e1 w1 r1 q1 => by
    unfold addG at q1
    split at q1
    · rename_i i
      cases (show Dq _ _ v (.int i) from r1)
      exact q1.use w1 fun Hd2 R2 y u H2 e2 w2 r2 q2 => by
        obtain ⟨j, rfl, q⟩ := q2.elim
        cases (show Dq _ _ u (.int j) from r2)
        exact .inl ⟨i, j, rfl, rfl, .same (e1.trans e2) (.here w2 (show Rp _ _ _ _ _ _ (.d (.int (i + j))) _ from .int _) q)⟩
    · rename_i ds
      exact q1.use w1 fun Hd2 R2 y u H2 e2 w2 r2 q2 => by
        obtain ⟨es, rfl, hz, q⟩ := q2.elim
        obtain ⟨l, vs, rfl, _, hT, hv⟩ := Rp.tup (sv := .d (.tuple ds)) w2 (show Rp _ _ _ _ _ _ (.d (.tuple ds)) v from dpMono e2 r1) rfl
        obtain ⟨m, us, rfl, _, hU, hu⟩ := Rp.tup (sv := .d (.tuple es)) w2 r2 rfl
        refine .inr (.inl ⟨l, m, vs, us, rfl, rfl, hT, hU, by rw [dpAllLen hv, dpAllLen hu]; exact hz, fun z => ?_, fun _ z => ?_, fun _ _ z hz => ?_⟩)
        · subst z
          cases hv
          exact .same (e1.trans e2) (.here w2 r2 q)
        · subst z
          cases hu
          rw [List.append_nil] at q
          exact .same (e1.trans e2) (.here w2 (show Rp _ _ _ _ _ _ (.d (.tuple ds)) _ from dpMono e2 r1) q)
        · obtain ⟨w3, s3⟩ := w2.allocD (o := .tup (vs ++ us)) hz
          exact .same ((e1.trans e2).trans s3) (.here w3 (show Rp _ _ _ _ _ _ (.d (.tuple (ds ++ es))) _ from Dq.tup (upd_same) (dpAllApp (dpAllMono s3 hv) (dpAllMono s3 hu))) q)
    · rename_i i
      exact q1.use w1 fun Hd2 R2 y u H2 e2 w2 r2 q2 => by
        obtain ⟨ds, es, hR, hy, hz, q⟩ := q2
        obtain ⟨m, us, rfl, hm, hu⟩ := Rp.exact w2 r2 hy
        obtain ⟨l, o, s1, hl, ⟨vs, ho, hv⟩, _⟩ := w2.own i _ hR
        subst ho
        have s2 := r1.1
        rw [s1] at s2
        cases s2
        exact .inr (.inr ⟨l, m, vs, us, rfl, rfl, hl, hm, by rw [dpAllLen hv, dpAllLen hu]; exact hz, fun z hz => .same (e1.trans e2) (.here (w2.allocH hz) (ownNew w2 hz (crL (dpAllApp hv hu))) q)⟩)
    · rename_i ds
      obtain ⟨l, o, rfl, hl, ⟨vs, ho, hv⟩, hd, hf, hn⟩ := r1
      subst ho
      have hz0 : ¬ F.Fz l := fun z => (w1.prot l z).2 hf
      exact (q1.run (F.with l (.lst vs)) σ Hd1 H1 (w1.enter hl hd hn)).mono fun u H2 ⟨Hd2, R2, y, e2, w2, r2, q2⟩ => by
        obtain ⟨es, hy, hz, q⟩ := q2
        obtain ⟨m, us, rfl, hm, hu⟩ := Rp.exact w2 r2 hy
        obtain ⟨w3, g1, g2, g3⟩ := Wd.leave w2 hf hz0
        exact .inr (.inr ⟨l, m, vs, us, rfl, rfl, g1, hm, by rw [dpAllLen hv, dpAllLen hu]; exact hz, fun z hz => .same (e1.trans e2) (.here (w3.allocH hz) (ownNew w3 hz (crL (dpAllApp (dpAllMono e2 hv) hu))) q)⟩)
    · cases q1
def mulG (X : Cx) (P : List Nat) (b : Expr) (Q : SV → DS → Prop) (R1 : DS) : SV → Prop
  | .d (.int i) => WE X P b R1 fun y R2 => asI y fun j => CMul i j ∧ Q (.d (.int (i * j))) R2
  | .d (.tuple ds) => WE X P b R1 fun y R2 => asI y fun k => (ds ≠ [] ∧ 1 ≤ k ∧ k ≤ 1000 ∧ ds.length ≤ 1000) ∧ Q (.d (.tuple (List.replicate k.toNat ds).flatten)) R2
  | _ => False
theorem we_mulG (h : WE X P a R fun x R1 => mulG X P b Q R1 x) : WE X P (.BinOp a .Mult b pos) R Q :=
  .of (pe_op (op_mul.or (op_repT.or op_once)) pe_m pe_m) fun F σ Hd H w => h.use w fun Hd1 R1 x v H1 e1 w1 r1 q1 => by
    unfold mulG at q1
    split at q1
    · rename_i i
      cases (show Dq _ _ v (.int i) from r1)
      exact q1.use w1 fun Hd2 R2 y u H2 e2 w2 r2 q2 => by
        obtain ⟨j, rfl, c, q⟩ := q2.elim
        cases (show Dq _ _ u (.int j) from r2)
        exact .inl ⟨i, j, rfl, rfl, c, .same (e1.trans e2) (.here w2 (show Rp _ _ _ _ _ _ (.d (.int (i * j))) _ from .int _) q)⟩
    · rename_i ds
      exact q1.use w1 fun Hd2 R2 y u H2 e2 w2 r2 q2 => by
        obtain ⟨k, rfl, ⟨g1, g2, g3, g4⟩, q⟩ := q2.elim
        cases (show Dq _ _ u (.int k) from r2)
        obtain ⟨l, vs, rfl, _, hT, hv⟩ := Rp.tup (sv := .d (.tuple ds)) w2 (show Rp _ _ _ _ _ _ (.d (.tuple ds)) v from dpMono e2 r1) rfl
        have hne : vs ≠ [] := fun z => g1 (by
          have := dpAllLen hv
          rw [z] at this
          exact List.eq_nil_of_length_eq_zero this.symm)
        by_cases hk : k = 1
        · subst hk
          refine .inr (.inr ⟨l, vs, rfl, rfl, hT, .same (e1.trans e2) (.here w2 (sv := .d (.tuple (List.replicate (Int.toNat 1) ds).flatten)) ?_ q)⟩)
          have e : (List.replicate (Int.toNat 1) ds).flatten = ds := by
            show (List.replicate 1 ds).flatten = ds
            rw [List.replicate_one, List.flatten_cons, List.flatten_nil, List.append_nil]
          rw [e]
          exact dpMono e2 r1
        · refine .inr (.inl ⟨l, k, vs, rfl, rfl, hT, hne, by omega, g3, by rw [dpAllLen hv]; exact g4, fun z hz => ?_⟩)
          obtain ⟨w3, s3⟩ := w2.allocD (o := .tup (List.replicate k.toNat vs).flatten) hz
          exact .same ((e1.trans e2).trans s3) (.here w3 (show Rp _ _ _ _ _ _ (.d (.tuple (List.replicate k.toNat ds).flatten)) _ from Dq.tup (upd_same) (rep_dp (dpAllMono s3 hv) _)) q)
    · cases q1
def eqG (R2 : DS) (x y : SV) (k : Bool → Prop) : Prop := match x, y with
  | .d (.int i), .d (.int j) => k (decide (i = j))
  | .d (.str i), .d (.str j) => k (decide (i = j))
  | .d (.bool i), .d (.bool j) => k (decide (i = j))
  | x, y => gEq R2 x y k
theorem eqG_or {R2 : DS} {x y : SV} {k : Bool → Prop} (h : eqG R2 x y k) : sc2 x y k ∨ gEq R2 x y k := by
  unfold eqG at h
  split at h
  · exact .inl h
  · exact .inl h
  · exact .inl h
  · exact .inr h
theorem fit_eqG (h : WE X P a R fun x R1 => stb x fun x => WE X P b R1 fun y R2 => (∃ d, vD R2 x = some d) ∧ eqG R2 x y fun c => Q (.d (.bool c)) R2) : Fits X P R (tOp (fun x y H Q => rEq x y H Q ∨ rEqD X.K x y H Q) (TEm X a) (TEm X b)) Q :=
  two h fun F σ Hd H x y R2 v u Z w r1 r2 g k => by
    rcases eqG_or g with g | ⟨d, d', h1, h2, s1, s2, q⟩
    · obtain ⟨g1, g2⟩ := sc2_ok g r1 r2
      exact .inl ⟨g1, k _ _ (.here w (show Rp _ _ _ _ _ _ (.d (.bool _)) _ from .bl _) g2)⟩
    · exact .inr ⟨d, d', (Rp.dat w r1 h1).dp (nd_of s1), (Rp.dat w r2 h2).dp (nd_of s2), s1, s2, k _ _ (.here w (show Rp _ _ _ _ _ _ (.d (.bool _)) _ from .bl _) q)⟩
theorem fit_neG (h : WE X P a R fun x R1 => stb x fun x => WE X P b R1 fun y R2 => (∃ d, vD R2 x = some d) ∧ eqG R2 x y fun c => Q (.d (.bool (!c))) R2) : Fits X P R (tOp (fun x y H Q => rNe x y H Q ∨ rNeD X.K x y H Q) (TEm X a) (TEm X b)) Q :=
  two h fun F σ Hd H x y R2 v u Z w r1 r2 g k => by
    rcases eqG_or g with g | ⟨d, d', h1, h2, s1, s2, q⟩
    · obtain ⟨g1, g2⟩ := sc2_ok g r1 r2
      exact .inl ⟨g1, k _ _ (.here w (show Rp _ _ _ _ _ _ (.d (.bool _)) _ from .bl _) g2)⟩
    · exact .inr ⟨d, d', (Rp.dat w r1 h1).dp (nd_of s1), (Rp.dat w r2 h2).dp (nd_of s2), s1, s2, k _ _ (.here w (show Rp _ _ _ _ _ _ (.d (.bool _)) _ from .bl _) q)⟩
theorem we_eqG {k : Nat} (hr : Room k X.A) (h : WE X P a R fun x R1 => stb x fun x => WE X P b R1 fun y R2 => (∃ d, vD R2 x = some d) ∧ eqG R2 x y fun c => Q (.d (.bool c)) R2) : WE X P (.Compare a [.Eq] [b] pos) R Q :=
  .fit (pe_cmpR (op_eq.or (op_eqD hr.units)) pe_m pe_m (nomark _)) (fit_eqG h)
theorem wt_eqG {k : Nat} {Q : Bool → DS → Prop} (hr : Room k X.A) (h : WE X P a R fun x R1 => stb x fun x => WE X P b R1 fun y R2 => (∃ d, vD R2 x = some d) ∧ eqG R2 x y fun c => Q c R2) : WT X P (.Compare a [.Eq] [b] pos) R Q :=
  .fit (pt_cmpR (op_eq.or (op_eqD hr.units)) pe_m pe_m (nomark _)) (fit_eqG (Q := fun x R1 => asB x fun c => Q c R1) h)
theorem we_neG {k : Nat} (hr : Room k X.A) (h : WE X P a R fun x R1 => stb x fun x => WE X P b R1 fun y R2 => (∃ d, vD R2 x = some d) ∧ eqG R2 x y fun c => Q (.d (.bool (!c))) R2) : WE X P (.Compare a [.NotEq] [b] pos) R Q :=
  .fit (pe_cmpR (op_ne.or (op_neD hr.units)) pe_m pe_m (nomark _)) (fit_neG h)
theorem wt_neG {k : Nat} {Q : Bool → DS → Prop} (hr : Room k X.A) (h : WE X P a R fun x R1 => stb x fun x => WE X P b R1 fun y R2 => (∃ d, vD R2 x = some d) ∧ eqG R2 x y fun c => Q (!c) R2) : WT X P (.Compare a [.NotEq] [b] pos) R Q :=
  .fit (pt_cmpR (op_ne.or (op_neD hr.units)) pe_m pe_m (nomark _)) (fit_neG (Q := fun x R1 => asB x fun c => Q c R1) h)
/-- x[lo:hi]: a list (a new one), a tuple -/
def slG (Q : SV → DS → Prop) (R3 : DS) (l u : Option Int) : SV → Prop
  | .d (.tuple ds) => Q (.d (.tuple (cutD ds l u))) R3
  | .d (.list ds) => Q (.own (.lst (cutD ds l u))) R3
  | .loc i => ∃ ds, R3[i]? = some (.own (.lst ds)) ∧ Q (.own (.lst (cutD ds l u))) R3
  | _ => False
theorem we_slG {lo hi : Option Expr} {p2 : Pos} (h : WE X P a R fun x R1 => stb x fun x => WO X P lo R1 fun l R2 => WO X P hi R2 fun u R3 => slG Q R3 l u x) : WE X P (.Subscript a (.Slice lo hi none p2) pos) R Q :=
  .of (pe_slice (sl_list.or sl_tupA) pe_m po_m po_m) fun F σ Hd H w => h.stb.use w fun Hd1 R1 x v H1 e1 w1 r1 q1 => q1.2.use w1 fun Hd2 R2 l H2 e2 w2 q2 => q2.use w2 fun Hd3 R3 u H3 e3 w3 q => by
    have lst : ∀ ds, vL R3 x = some ds → vD R3 x = some (.list ds) → Q (.own (.lst (cutD ds l u))) R3 → rSlL X.K v l u H3 (Post X.K F P σ Hd Q) := fun ds h1 h2 q => by
      obtain ⟨p, vs, rfl, hl, hc⟩ := Rp.list w3 (Rp.on q1.1 r1 (e2.trans e3) h2) h1
      exact ⟨p, vs, rfl, hl, fun z hz => .same ((e1.trans e2).trans e3) (.here (w3.allocH hz) (ownNew w3 hz (crL (cut_dp hc l u))) q)⟩
    unfold slG at q
    split at q
    · rename_i ds
      obtain ⟨p, vs, rfl, _, hl, hc⟩ := Rp.tup (sv := .d (.tuple ds)) w3 (show Rp _ _ _ _ _ _ (.d (.tuple ds)) v from dpMono (e2.trans e3) r1) rfl
      refine .inr ⟨p, vs, rfl, hl, fun hw => ?_, fun _ z hz => ?_⟩
      · have e : cutD ds l u = ds := by
          unfold cutD
          rw [dpAllLen hc] at hw
          rw [hw.1, hw.2, List.drop_zero, Nat.sub_zero, List.take_length]
        rw [e] at q
        exact .same ((e1.trans e2).trans e3) (.here w3 (show Rp _ _ _ _ _ _ (.d (.tuple ds)) _ from dpMono (e2.trans e3) r1) q)
      · obtain ⟨w4, s4⟩ := w3.allocD (o := .tup (cutV vs l u)) hz
        exact .same (((e1.trans e2).trans e3).trans s4) (.here w4 (show Rp _ _ _ _ _ _ (.d (.tuple (cutD ds l u))) _ from Dq.tup (upd_same) (dpAllMono s4 (cut_dp hc l u))) q)
    · rename_i ds
      exact .inl (lst ds rfl rfl q)
    · rename_i i
      obtain ⟨ds, hR, q⟩ := q
      exact .inl (lst ds (by unfold vL; simp only [hR]) (by unfold vD; simp only [hR]) q)
    · cases q
theorem isWO {o : Option Expr} {Q : Option Int → DS → Prop} (h : WO X P o R Q) : WO X P o R Q := h
end
end Dl
namespace Dl
open PySem PySem.Spec PyProof.Rows L2
theorem nrmB {Z : DS → Prop} {R : DS} (R' : DS) (h : R = R') (q : Z R') : Z R := h ▸ q
theorem asI_i {i : Int} {k : Int → Prop} (h : k i) : asI (.d (.int i)) k := h
theorem asD_d {x : D} {k : D → Prop} (h : k x) : asD (.d x) k := h
theorem asD_o {ds : List D} {k : D → Prop} (h : k (.list ds)) : asD (.own (.lst ds)) k := h
theorem asB_b {i : Bool} {k : Bool → Prop} (h : k i) : asB (.d (.bool i)) k := h
section
variable {X : Cx} {P : List Nat} {R : DS} {kx vx tg it : Expr} {scope : Scope} {pos : Pos}
theorem sw_dict {gs : List Comprehension} {py : Pos} {y : Str} {l : Nat} {env : Env} (h1 : env.scope.kind = .function) (h2 : env.scope.names.lookup y = some .local) (h3 : (py.line == pos.line) = true)
    (h4 : (scope.names.any fun (n, k) => n == y && (k == .local || k == .cell)) = false) : swapsWith (.DictComp kx vx gs scope pos) (some (.Name y py)) l env = pure true := by
  have a1 : env.kindOf y = some .local := h2
  have a2 : env.blockKind = .function := by
    unfold Env.blockKind
    rw [h1]
    rfl
  unfold swapsWith
  simp only [a2, a1, h4, Expr.pos, h3]
  rfl
theorem ps_setDc {i : Nat} {y : Str} {py spos : Pos} {own : List (Str × Nat)} {wi : TI} {g : TG} {tt : TT} {tk tv : TE} (hc : X.calm = true) (hN : X.N.Nodup) (hy : X.N[i]? = some y) (hyl : X.env.scope.names.lookup y = some .local)
    (hsw : swapsWith (.DictComp kx vx [⟨tg, it, [], 0⟩] scope pos) (some (.Name y py)) spos.line X.env = pure true) (hi : PI X tg it wi) (ok : BlkOk X.N X.env.scope scope own)
    (hg : ∀ (s : Shared) (H : Hp) (C : Addr) (cl : List (Str × Addr)) (fp : List Addr), PG (X.blk s H scope (compEnvC scope cl C X.env) fp) tg g) (ht : ∀ (s : Shared) (H : Hp) (C : Addr) (cl : List (Str × Addr)) (fp : List Addr), PTs (X.blk s H scope (compEnvC scope cl C X.env) fp) [] tt)
    (hk : ∀ (s : Shared) (H : Hp) (C : Addr) (cl : List (Str × Addr)) (fp : List Addr), PE (X.blk s H scope (compEnvC scope cl C X.env) fp) kx tk) (hv : ∀ (s : Shared) (H : Hp) (C : Addr) (cl : List (Str × Addr)) (fp : List Addr), PE (X.blk s H scope (compEnvC scope cl C X.env) fp) vx tv)
    (hs : ∀ x, foldedSetIterable it X.env x = pure x) : PS X (.Assign [.Name y py] (.DictComp kx vx [⟨tg, it, [], 0⟩] scope pos) spos) (tAsg (tDc wi g tt tk tv (own.map (·.2))) (gName i)) :=
  ⟨fun pins s σ H D I h => by
    rw [exec_Assign_Name_used (hs := hsw)]
    refine wpAny_bind (wpAny_standAt ?_)
    refine wpAny_bind ?_
    show wpAny _ X.A (do let _ ← comprehension (.DictComp kx vx [⟨tg, it, [], 0⟩] scope pos) scope X.env (firstIterPos [⟨tg, it, [], 0⟩] pos) newDict false (eval it X.env) (some (assign (.Name y py) X.env))) _ _ s
    have h0 : tDc wi g tt tk tv (own.map (·.2)) σ H fun x H1 => gName i x σ H1 D.nx := h
    refine wpAny_bind (thn (dc_core (Qf := fun _ s2 => SP X pins D .next s2) hc hN I hi ok hg ht hk hv hs h0 fun L C s2 m H2 J q hn f => ?_) fun _ s2 hq => wpAny_pure (wpAny_pure hq))
    show wpAny _ _ (assign (.Name y py) X.env (Value.ref L)) _ _ _
    refine wpAny_assign_Name (store_ok2 (v := V.ref L) J hN hy (Or.inl hyl) rfl (fun s3 J3 ⟨a, sb, ha⟩ => ?_) (Or.inr hyl))
    have hne : C ≠ a := ha.elim (fun z => by rw [z]; exact f.2.1) fun z e => f.2.2.2.2.1 y a z e.symm
    exact ⟨m, hn.sameBut sb hne, fun h3 sb3 => ⟨_, H2, J3.turned (t' := s3.toks) (fun b o hb e => (sb3.2 b hb).trans e) f.1 f.2.1 f.2.2.2.1 f.2.2.2.2.1 f.2.2.2.2.2, q⟩⟩⟩
theorem ws_setDc0 {i : Nat} {y : Str} {py spos : Pos} {D' : DEnds} (own : List (Str × Nat)) (js : List Nat) (hc : X.calm = true) (hN : X.N.Nodup) (hy : X.N[i]? = some y) (hyl : X.env.scope.names.lookup y = some .local)
    (hsw : swapsWith (.DictComp kx vx [⟨tg, it, [], 0⟩] scope pos) (some (.Name y py)) spos.line X.env = pure true) (ok : BlkOk X.N X.env.scope scope own) (hP : i ∉ P) (hvs : ∀ v ∈ own.map (·.2), v ∉ P) (hj : ∀ j ∈ js, j ∈ own.map (·.2))
    (h : WE X P it R fun sv R1 => asD sv fun d => ∃ (xs : List D) (I : Nat → List (Key × D) → DS → Prop), d = .list xs ∧ xs.length ≤ sizeLine ∧ I 0 [] (wipeR R1 (own.map (·.2))) ∧
      (∀ i x kvs R', xs[i]? = some x → I i kvs R' → TnD X P scope tg kx vx js (own.map (·.2)) I i kvs x R') ∧ ∀ kvs R', I xs.length kvs R' → put i R' D'.nx (.own (.dK kvs)))
    (hs : ∀ x, foldedSetIterable it X.env x = pure x := by intro _; rfl) : WS X P (.Assign [.Name y py] (.DictComp kx vx [⟨tg, it, [], 0⟩] scope pos) spos) R D' :=
  .of (ps_setDc (own := own) hc hN hy hyl hsw (pi_list pe_m) ok (fun s H C cl fp => (⟨fun pins s' σ H' v u Z I r h => h s H C cl fp pins s' u I r⟩ : PG _ tg (gB X scope tg))) (fun _ _ _ _ _ => pts_nil) (fun s H C cl fp => (⟨fun pins s' σ H' Z I h => h s H C cl fp pins s' I⟩ : PE _ kx (teB X scope kx)))
    (fun s H C cl fp => (⟨fun pins s' σ H' Z I h => h s H C cl fp pins s' I⟩ : PE _ vx (teB X scope vx))) hs) fun F σ Hd H w => dc_fits (Q := fun sv R1 => put i R1 D'.nx sv) own js hvs hj h F σ Hd H w _ fun v H' ⟨Hd', R', sv, e1, w1, r1, q1⟩ => up_same e1 (put_ok w1 r1 hP q1)
end
end Dl
namespace Dl
open PySem PySem.Spec PyProof.Rows L2
/-! sorted(xs, key=lambda y: y[0], reverse=True), the items tuples that begin with ints -/
/-- the lambda's own names -/
def lamS (y : Str) : Scope := { kind := .function, names := [(y, .local)], isGenerator := false, isCoroutine := false, more := [] }
def lamA (y : Str) (p : Pos) : Arguments := { posonlyargs := [], args := [{ arg := y, annotation := none, pos := p }], vararg := none, kwonlyargs := [], kw_defaults := [], kwarg := none, defaults := [] }
def lamB (y : Str) (j0 : Nat) (p1 p2 p3 : Pos) : Expr := .Subscript (.Name y p1) (.Constant (.int 0) j0 p2) p3
section
variable {prog : Program} {w : World} {A : Around} {s : Shared} {f c' t : Addr} {q : Str} {pm ctv : Value} {its : List Value} {i : Int} {tk : Tok} {y : Str}
theorem lam_run (hlim : s.heap.NoLimit) (hd : A.depth < recursionLimit) (pa p1 p2 p3 : Pos) (j0 : Nat) (hy : (y == ("__debug__" : Str)) = false)
    (ho : s.heap.get? f = some (PySem.W.kla_obj "<lambda>" q (lamA y pa) (lamB y j0 p1 p2 p3) (lamS y) [] pm c' ctv)) (hc : s.heap.CodeRec (.ref c') q)
    (ht : IsTup s.heap t (Value.int i tk :: its).toArray) (hb : bindArgs (PySem.W.kla_fn "<lambda>" q (lamA y pa) (lamB y j0 p1 p2 p3) (lamS y) [] pm (.ref c') ctv) ⟨[.ref t], []⟩ = pure [(y, .ref t)]) : wpAny (model prog w) A (call (.ref f) [.ref t]) (PySem.W.KeyPure (.int i) s) (fun _ _ => False) s := by
  refine wpAny_call (PySem.W.kla_callFunE hd ho rfl rfl rfl rfl hc ?_)
  rw [hb]
  have ly : (lamS y).names.lookup y = some .local := by
    show List.lookup y [(y, NameKind.local)] = _
    simp [List.lookup]
  refine wpAny_pure (wpAny_newFunctionEnv (fun x hx => ?_) (fun x hx => ?_) (fun h1 hns hsb => ⟨hlim.fresh _ hsb, PySem.W.kla_codeExpr ?_⟩) rfl)
  · rw [List.mem_singleton.mp hx]
    exact fun z => by cases z
  · rw [List.mem_singleton.mp hx]
    exact ly
  have kp : ∀ b o, s.heap.get? b = some o → h1.get? b = some o := fun b o e => hsb.extBut b o (Nat.ne_of_lt (Heap.lt_size e)) (Heap.get?_push_of_some _ e)
  obtain ⟨o, g1, g2, g3⟩ := ht
  have ht1 : IsTup h1 t (Value.int i tk :: its).toArray := ⟨o, kp _ _ g1, g2, g3⟩
  have lk : ([(y, Value.ref t)].reverse).lookup y = some (.ref t) := by
    show List.lookup y [(y, Value.ref t)] = _
    simp [List.lookup]
  refine Subscript_ (wpAny_Name (wpAny_loadName_local rfl ly hns lk ?_) hy)
  refine wpAny_Constant_int ?_
  refine subscriptTail_builtinR (x := .int i tk) ht1.typeIs slot_tuple_getitem.lookup (getItem_tuple (j := 0) ht1 (by decide) (by decide) ?_ ?_ ⟨rfl, ?_⟩) ?_
  · simp [seqIndex?]
  · rfl
  · exact ⟨h1, _, rfl, kp, .int i tk⟩
  · rfl
end

theorem Wd.extN {K : PySem.W.Frag} {F : Fr} {P : List Nat} {R : DS} {σ : L2.St} {Hd H H1 : Hp} (w : Wd K F P R σ Hd H) (e : LamX.ExtN H H1) (t : LamX.Tabs (tabsOf K) H1) : Wd K F P R σ Hd H1 :=
  ⟨fun b u q => e b u (w.dat b u q) fun ps z => w.tabs.2.1 b ps (z ▸ q), fun b u q => e b u (w.frm b u q) fun ps z => w.tabs.2.2 b ps (z ▸ q), w.len, w.val, fun i m q => by
    obtain ⟨a, o, e1, e2, e3, e4, e5⟩ := w.own i m q
    refine ⟨a, o, e1, e a o e2 fun ps z => ?_, e3, e4, e5⟩
    have := crp_plain e3
    rw [z] at this
    exact this, w.apart, w.pin, w.prot, t, w.tabs.2⟩
theorem each_of {α : Type} {K : PySem.W.Frag} {Hd : Hp} {R : Value → α → Prop} {enc : α → D} : ∀ {vs : List V} {us : List Value} {as : List α}, Vals vs us → DqAll K Hd vs (as.map enc) → (∀ (v : V) (u : Value) (x : α), RelV v u → Dq K Hd v (enc x) → x ∈ as → R u x) → PySem.W.EachIs R us as
  | _, _, [], .nil, _, _ => .nil
  | _, _, x :: as, .cons r rs, h, k => by
    cases h with
    | cons h1 h2 => exact .cons (k _ _ x r h1 List.mem_cons_self) (each_of rs h2 fun v u z a b c => k v u z a b (List.mem_cons_of_mem _ c))
theorem of_each {α : Type} {K : PySem.W.Frag} {Hd : Hp} {R : Value → α → Prop} {enc : α → D} (k : ∀ u x, R u x → ∃ v : V, RelV v u ∧ Dq K Hd v (enc x)) : ∀ {us : List Value} {as : List α}, PySem.W.EachIs R us as → ∃ vs : List V, Vals vs us ∧ DqAll K Hd vs (as.map enc)
  | _, _, .nil => ⟨[], .nil, .nil⟩
  | _, _, .cons h t => by
    obtain ⟨v, r, d⟩ := k _ _ h
    obtain ⟨vs, rs, ds⟩ := of_each k t
    exact ⟨v :: vs, .cons r rs, .cons d ds⟩
section
variable {X : Cx} {P : List Nat} {R : DS} {a : Expr} {Q : SV → DS → Prop} {α : Type}
theorem we_sortedLam {y : Str} {x : Str} {c Pt : Addr} {k : Nat} {j0 j1 : Nat} {p pos pl pa p1 p2 p3 p4 kp1 kp2 : Pos} (as : List α) (enc : α → D) (key : α → Int) (hr : Room k X.A) (hm : X.mg "sorted" = none) (hg : Gl X "sorted") (hx : lamDefs = [x]) (ht : PySem.W.tabIn X.K x = some (c, Pt)) (TB : LamX.TabB X.base X.mg c Pt)
    (hcode : X.env.code = .ref c) (hq : X.env.qual = x ++ ".<locals>.") (henc : ∀ z ∈ as, ∃ r, enc z = .tuple (.int (key z) :: r)) (hl : as.length ≤ sizeLine)
    (h : WE X P a R fun sv R1 => sv = .d (.list (as.map enc)) ∧ Q (.own (.lst ((as.mergeSort (PySem.W.dataLe true fun z => PyData.int (key z))).map enc))) R1) (hy : (y == ("__debug__" : Str)) = false)
    (hb : ∀ (q : Str) (pm cv ctv u : Value), bindArgs (PySem.W.kla_fn "<lambda>" q (lamA y pa) (lamB y j0 p1 p2 p3) (lamS y) [] pm cv ctv) ⟨[u], []⟩ = pure [(y, u)])
    (he0 : starEach [a] X.env = (false, eval a X.env) :: starEach [] X.env := by rfl) (he : backTo pos (starEach [a] X.env) = (false, eval a X.env) :: backTo pos (starEach [] X.env) := by rfl) (hpl : (backTo pos (starEach [a] X.env)).any (·.1) = false := by rfl) :
    WE X P (.Call (.Name "sorted" p) [a] [⟨some "key", .Lambda (lamA y pa) (lamB y j0 p1 p2 p3) (lamS y) pl, kp1⟩, ⟨some "reverse", .Constant (.bool true) j1 p4, kp2⟩] pos) R Q := by
  have hT : tabsOf X.K = [(Pt, X.env.qual ++ "<lambda>")] := by
    unfold tabsOf
    rw [hx, hq]
    simp [ht]
  refine ⟨fun F σ Hd H w => fun pins s I => ?_⟩
  have hbv : bootBuiltins (Str.ofString "sorted") = some (.builtin "sorted") := by decide +kernel
  refine wpAny_Call_Name_kw (ld_blt I hg hm hbv ?_ (by decide) (by decide))
  refine PyProof.Rows.callWith_kw (thn ((pa_cons (pe_m (X := X) (e := a)) pa_nil he0).run pos pins s σ H (fun vs H1 => ∃ v Hd1 R1, vs = [v] ∧ Same Hd Hd1 ∧ Wd X.K F P R1 σ Hd1 H1 ∧ Dq X.K Hd1 v (.list (as.map enc)) ∧ Q (.own (.lst ((as.mergeSort (PySem.W.dataLe true fun z => PyData.int (key z))).map enc))) R1) I ?_) fun us s1 hh => ?_) he hpl rfl rfl
  · exact h.use w fun Hd1 R1 sv v H1 e1 w1 r1 q1 => by
      obtain ⟨rfl, q1⟩ := q1
      exact ⟨v, Hd1, R1, rfl, e1, w1, r1, q1⟩
  obtain ⟨vs, H1, I1, r1, v, Hd1, R1, rfl, e1, w1, d1, q1⟩ := hh
  show wpAny _ _ (evalAll ((do let v ← eval (.Lambda (lamA y pa) (lamB y j0 p1 p2 p3) (lamS y) pl) X.env; standAt pos; pure v) :: (do let v ← eval (.Constant (.bool true) j1 p4) X.env; standAt pos; pure v) :: [])) _ _ _
  refine wpAny_evalAll_cons (wpAny_bind (LamX.lam_make2 (T := tabsOf X.K) I1 TB hcode (by rw [hT]; exact List.mem_cons_self) (fun p hp hP => by rw [hT] at hp; rw [List.mem_singleton.mp hp]) w1.tabs.1 rfl (fun y hy hf => ?_) fun f c' pm ctv H2 s2 I2 eN T2 hf hfn hfr hco => wpAny_bind (wpAny_standAt (wpAny_pure ?_))))
  · rw [List.mem_singleton.mp hy] at hf
    cases hf
  refine wpAny_evalAll_cons (wpAny_bind (wpAny_Constant_bool (wpAny_bind (wpAny_standAt (wpAny_pure ?_)))))
  refine wpAny_evalAll_nil ?_
  have w2 := w1.extN eN T2
  cases r1 with
  | cons ru rn =>
    rename_i u us'
    cases rn
    cases d1 with
    | lst hS hv =>
      rename_i l vs
      cases ru
      obtain ⟨its, rI, pl, hz⟩ := I2.list (w2.dat.seq hS)
      let RR : Value → α → Prop := fun u x => (∃ v : V, RelV v u ∧ Dq X.K Hd1 v (enc x)) ∧ ∃ (t : Addr) (ws : List Value) (tk : Tok), u = .ref t ∧ IsTup s2.heap t (Value.int (key x) tk :: ws).toArray
      have each : PySem.W.EachIs RR its as := each_of rI hv fun v u x rv dp hx => by
        refine ⟨⟨v, rv, dp⟩, ?_⟩
        obtain ⟨r, er⟩ := henc x hx
        rw [er] at dp
        cases dp with
        | tup h1 h2 =>
          rename_i t ws
          cases rv
          obtain ⟨its2, r2, p2, _⟩ := I2.tuple (sameT w2.dat (SqT.of h1))
          cases h2 with
          | cons hi hr2 =>
            cases hi
            cases r2 with
            | cons g1 g2 =>
              obtain ⟨tk, e⟩ := g1
              subst e
              exact ⟨t, _, tk, rfl, p2⟩
      obtain ⟨⟨oc, cv, tq, hoc, hdc, hvc⟩, _, _⟩ := I2.hok c' _ hco
      refine PySem.W.sorted_key_data (R := RR) (bs := as) (vs := its) (b := true) (f := .ref f) (fun z => PyData.int (key z)) pl.isList each ?_ ?_ hl ?_ (ksk_s2 _ _ _) (fun x => ksk_l2 _ _ _) (fun x => ksk_t2 f x true) (fun u x hR hx h tk kp => ?_) fun out c2 h' tk kp fr hg2 hlen ho => ?_
      · intro d hd d' hd'
        obtain ⟨z, _, rfl⟩ := List.mem_map.mp hd
        obtain ⟨z', _, rfl⟩ := List.mem_map.mp hd'
        rfl
      · refine .inr fun d hd => ?_
        obtain ⟨z, _, rfl⟩ := List.mem_map.mp hd
        exact And.intro (fun z => by cases z) (fun xs z => by cases z)
      · intro x hx
        have := hr.un
        show X.A.units + 2 + 0 < cLine
        omega
      · obtain ⟨_, t, ws, tk2, rfl, ht2⟩ := hR
        obtain ⟨o, g1, g2, g3⟩ := ht2
        exact lam_run (I2.nolimit.keeps kp) hr.depth pa p1 p2 p3 j0 hy (kp _ _ hf) ⟨c', oc, cv, tq, rfl, kp _ _ hoc, hdc, hvc⟩ ⟨o, kp _ _ g1, g2, g3⟩ (hb _ _ _ _ _)
      · obtain ⟨us, ru, du⟩ := of_each (enc := enc) (fun u x hR => hR.1) ho
        have nH : H2 (s2.heap.objs.size + 1) = none := I2.hok.fresh (Nat.le_succ _)
        have lu : us.length ≤ sizeLine := by
          rw [ru.length, hlen]
          exact hl
        have J := I2.laid (t' := tk) (a := s2.heap.objs.size + 1) (o := .lst us) kp (Nat.le_succ _) ⟨lu, out, c2, ru, hg2⟩
        exact ⟨.ref (s2.heap.objs.size + 1), _, J, rfl, Hd1, R1, _, e1, w2.allocH nH, ownNew w2 nH (crL du), q1⟩
end
end Dl
set_option maxHeartbeats 4000000
namespace Dl
open PySem PySem.Spec PyProof.Rows L2
/-! set(xs) of a list of intl, its place in the heap known to the slot -/
section
variable {Pg : Program} {w : World} {A : Around} {E : Value → Shared → Prop} {s : Shared}
/-- a set just made -/
def set0 (w : World) : Obj := { cls := .type "set", dict := none, data := .set #[] 0 (.fresh 0 0 (!w.params.followText "set-order")) }
/-- the filling of a new set from a list -/
theorem set_fill {l : Addr} {items : Array Value} {ns : List Int} (dry : A.handled = none) (isl : s.heap.IsList l items) (intl : IntsAre items.toList ns) (few : ns.length + 1 < scanBound) :
    codeAny (model Pg w) A (.call (.builtin "set.__init__") ⟨[.ref s.heap.objs.size, .ref l], []⟩) (wants (fun r s2 => r = .none ∧ ∃ (g : Heap) (tk c : Nat), s2 = { s with heap := g, toks := tk } ∧ SetR w g s.heap.objs.size (fun j => decide (j ∈ ns)) c ∧ c ≤ ns.length ∧
      ∀ b o, s.heap.get? b = some o → g.get? b = some o) E) { s with heap := s.heap.push (set0 w) } := by
  have many : items.size = ns.length := by
    have := IntsAre.length intl
    rwa [Array.length_toList] at this
  have atS : (s.heap.push (set0 w)).get? s.heap.objs.size = some (set0 w) := Heap.get?_push_size _ rfl
  have tyS : Shared.TypeIs { s with heap := s.heap.push (set0 w) } (.ref s.heap.objs.size) "set" := ⟨_, atS, rfl⟩
  refine codeAny_call_builtin F.called_set.init.plain F.entry_set_init (check_set_init_1 tyS ?_)
  obtain ⟨⟨cl, di, da, so⟩, old, e1, n0, e2⟩ := isl
  dsimp only at e1 e2
  subst e1
  subst e2
  have oldP := Heap.get?_push_of_some (set0 w) old
  have is1 : (s.heap.push (set0 w)).IsList l items := ⟨_, oldP, rfl, n0, rfl⟩
  have sub1 := F.sub_list_set
  have sub2 := F.sub_list_frozenset
  have no : (Value.type "list" == Value.type "dict") = false := by decide
  unfold Builtin.«set.__init__» noKeywords Builtin.Frozenset.updateFrom
  generalize it : pyIter = go
  wp_walk
  subst it
  apply wpAny_pyIter_list is1
  apply wpAny_bind
  apply wpAny_runValue
  have ltl : l < s.heap.objs.size := Heap.lt_size old
  have dry3 : A.in1.in1.handled = none := by simp [dry]
  have next : (s.heap.push (set0 w)).objs.size = s.heap.objs.size + 1 := by rw [Heap.size_push]
  have apart : l ≠ (s.heap.push (set0 w)).objs.size := Nat.ne_of_lt (by rw [next]; exact Nat.lt_succ_of_lt ltl)
  have notIn : s.heap.objs.size ∉ [(s.heap.push (set0 w)).objs.size, l] := fun z => by
    rcases List.mem_cons.mp z with z | z
    · rw [next] at z
      exact Nat.ne_of_lt (Nat.lt_succ_self _) z
    · exact Nat.ne_of_gt ltl (List.mem_singleton.mp z)
  have vals : ∀ (i : Nat) (v : Value), items[i]? = some v → ∃ z t, ns[i]? = some z ∧ v = .int z t := fun i v hv => by
    have hi : i < ns.length := by
      rw [← many]
      exact (Array.getElem?_eq_some_iff.mp hv).1
    obtain ⟨t, e⟩ := IntsAre.int_at intl i v (by rw [Array.getElem?_toList]; exact hv)
    rw [List.getD_eq_getElem?_getD, List.getElem?_eq_getElem hi] at e
    exact ⟨ns[i], t, List.getElem?_eq_getElem hi, e⟩
  refine set_update_ints ((Walks.list dry3 _ l apart items).toS) s.heap.objs.size notIn ns many few vals (items.size - 0) 0 _ (by omega) (Nat.zero_le _) ?st ?first ?last
  case st => exact ⟨⟨_, Heap.get?_push_size _ rfl, rfl, rfl⟩, is1.push _⟩
  case last =>
    intro s2 c hm hc hS
    obtain ⟨g, gs, dr, tk, os⟩ := s2
    obtain rfl : gs = s.gens := hm.gens
    obtain rfl : dr = s.drawn := hm.drawn
    obtain rfl : os = s.os := hm.os
    show wpAny _ _ _ _ _ _
    refine wpAny_pure ?_
    show wpAny _ _ (PySem.ret Value.none) _ _ _
    rw [many] at hc
    refine wpAny_pure ⟨rfl, g, tk, c, rfl, hS, hc, fun b o e => hm.heap b o (fun z => ?_) (Heap.get?_push_of_some _ (Heap.get?_push_of_some _ e))⟩
    have lb := Heap.lt_size e
    rcases List.mem_cons.mp z with z | z
    · exact Nat.ne_of_lt lb z
    · have z2 := List.mem_singleton.mp z
      rw [next] at z2
      exact Nat.ne_of_lt (Nat.lt_succ_of_lt lb) z2
  case first => exact ⟨0, Nat.le_refl 0, setR_new_at (w := w) (Heap.get?_push_of_some _ atS)⟩
theorem set_listI {l : Addr} {items : Array Value} {ns : List Int} {Q : Value → Shared → Prop} (dry : A.handled = none) (isl : s.heap.IsList l items) (intl : IntsAre items.toList ns) (few : ns.length + 1 < scanBound)
    (h : ∀ (g : Heap) (tk c : Nat), SetR w g s.heap.objs.size (fun j => decide (j ∈ ns)) c → c ≤ ns.length → (∀ b o, s.heap.get? b = some o → g.get? b = some o) → Q (.ref s.heap.objs.size) { s with heap := g, toks := tk }) :
    wpAny (model Pg w) A (call (.type "set") [.ref l]) Q E s := by
  have m0 := F.called_set.mro
  obtain ⟨q1, q2, mro⟩ := m0
  have made := F.called_set.made
  have sub := F.called_set.sub
  refine wpAny_call (codeAny_of_tree (show wpAny _ _ (callAny (.type "set") _) _ _ _ from wpAny_pure ⟨Code.quiet_builtin _ (by decide +kernel), codeAny_builtin F.entry_type_call ?_⟩))
  rw [Around.under_plain (weight_type_call_type "set" [.ref l] []) rfl]
  have g1 := F.called_set.notType
  have g2 := F.called_set.canCreate
  have g3 := F.typeCall_set_1 (.ref l)
  repeat (any_goals (first | assumption | wp_step))
  refine codeAny_mono (code_set_led1 (.ref l) (E := E) (Q₁ := fun v s2 => v = .ref s.heap.objs.size ∧ s2 = { s with heap := s.heap.push (set0 w) }) ⟨rfl, rfl⟩) fun r s1 hr => ?_
  match r, hr with
  | .error e, hr => exact hr
  | .ok .next, hr => exact hr.elim
  | .ok .brk, hr => exact hr.elim
  | .ok .cont, hr => exact hr.elim
  | .ok (.ret v), hr =>
    obtain ⟨rfl, rfl⟩ := hr
    have atS : (s.heap.push (set0 w)).get? s.heap.objs.size = some (set0 w) := Heap.get?_push_size _ rfl
    have tyS : Shared.TypeIs { s with heap := s.heap.push (set0 w) } (.ref s.heap.objs.size) "set" := ⟨_, atS, rfl⟩
    have i1 := F.called_set.init.lookup
    have i2 := F.called_set.init.bind (.ref s.heap.objs.size)
    repeat (any_goals (first | assumption | wp_step))
    refine codeAny_mono (set_fill (Pg := Pg) (E := E) (by simpa using dry) isl intl few) fun r2 s2 hr2 => ?_
    match r2, hr2 with
    | .error e, hr2 => exact hr2
    | .ok .next, hr2 => exact hr2.elim
    | .ok .brk, hr2 => exact hr2.elim
    | .ok .cont, hr2 => exact hr2.elim
    | .ok (.ret u), hr2 =>
      obtain ⟨rfl, g, tk, c, rfl, hS, hc, hk⟩ := hr2
      repeat (any_goals (first | assumption | wp_step))
      exact h g tk c hS hc hk
end
end Dl
set_option maxHeartbeats 1000000
namespace Dl
open PySem PySem.Spec PyProof.Rows L2
section
variable {X : Cx} {P : List Nat} {R : DS} {a b e : Expr} {es : List Expr} {pos p : Pos} {Q : SV → DS → Prop} {D' : DEnds}
/-! sorted(set(xs)), ints -/
theorem cr_setI (hc : X.calm = true) : CallR X (.type "set") (fun xs H Q => ∃ (l : Addr) (ns : List Int), xs = [V.ref l] ∧ SqL X.K H l (ns.map V.int) ∧ ns.length < 64 ∧
    ∀ (p : Addr) (c : Nat), H p = none → c ≤ ns.length → Q (.ref p) (upd H p (SetO X.w p (fun j => decide (j ∈ ns)) c))) := by
  intro pins s σ H xs us Q I r h
  obtain ⟨l, ns, rfl, hs, hl, q⟩ := h
  rw [Vals.ref1 r]
  obtain ⟨its, rI, pl, hz⟩ := I.list hs
  refine set_listI (I.ok.hd hc) pl.isList (ints_vals rI) (by unfold scanBound; omega) fun g tk c hS hc hk => ?_
  have nH : H s.heap.objs.size = none := I.hok.fresh (Nat.le_refl _)
  exact ⟨.ref s.heap.objs.size, _, I.laid (t' := tk) hk (Nat.le_refl _) (setO_new hS), rfl, q _ c nH hc⟩
theorem we_sortedSetI {p2 pos2 : Pos} (hc : X.calm = true) (hm : X.mg "sorted" = none) (hg : Gl X "sorted") (hm2 : X.mg "set" = none) (hg2 : Gl X "set")
    (h : WE X P a R fun x R1 => ∃ ns : List Int, vL R1 x = some (ns.map PyData.int) ∧ ns.length < 64 ∧ ∀ out : List Int, out.Pairwise (· < ·) → (∀ k, k ∈ out ↔ k ∈ ns) → Q (.own (.lst (out.map PyData.int))) R1)
    (he : starEach [a] X.env = (false, eval a X.env) :: starEach [] X.env := by rfl) (hpl : (backTo pos2 (starEach [] X.env)).any (·.1) = false := by rfl)
    (he2 : starEach [.Call (.Name "set" p2) [a] [] pos2] X.env = (false, eval (.Call (.Name "set" p2) [a] [] pos2) X.env) :: starEach [] X.env := by rfl) (hpl2 : (backTo pos (starEach [] X.env)).any (·.1) = false := by rfl) :
    WE X P (.Call (.Name "sorted" p) [.Call (.Name "set" p2) [a] [] pos2] [] pos) R Q :=
  .of (pe_callB (cr_sortedSet hc) hg hm (by decide +kernel) (pa_cons (pe_callTy (cr_setI hc) hg2 hm2 (by decide +kernel) (pa_cons pe_m pa_nil he) (by decide) (by decide) he hpl) pa_nil he2) (by decide) (by decide) he2 hpl2) fun F σ Hd H w => h.use w fun Hd1 R1 sv v H1 e1 w1 r1 q1 => by
    obtain ⟨ns, hv, hl, q⟩ := q1
    obtain ⟨l, vs, rfl, hs, hd⟩ := Rp.list w1 r1 hv
    obtain rfl := dpAllInts hd
    refine ⟨l, ns, rfl, hs, hl, fun s0 c n0 hc0 => ⟨s0, _, c, rfl, upd_same, by omega, fun out p1 o1 o2 o3 n1 => ?_⟩⟩
    have w2 := w1.allocH (o := SetO X.w s0 (fun j => decide (j ∈ ns)) c) n0
    exact .same e1 (.here (w2.allocH n1) (ownNew w2 n1 (crL (dpAllOfInts out))) (q out o1 fun k => by rw [o2]; exact decide_eq_true_iff))
/-! dicts whose keys are tuples of ints -/
def kI (ks : List Int) : List Key := ks.map Sum.inl
theorem tup_key {K : PySem.W.Frag} {H : Hp} {v : V} {ks : List Int} (h : Dq K H v (.tuple (ks.map PyData.int))) : ∃ b, v = .ref b ∧ H b = some (.tup ((kI ks).map kV)) := by
  cases h with
  | tup h1 h2 =>
    refine ⟨_, rfl, ?_⟩
    rw [h1, dpAllInts h2]
    unfold kI
    rw [List.map_map]
    rfl
structure gInT (R2 : DS) (x y : SV) (k : Bool → Prop) : Prop where
  ex : ∃ (ks : List Int) (j : Nat) (kvs : List (List Key × D)), x = .d (.tuple (ks.map PyData.int)) ∧ y = .loc j ∧ R2[j]? = some (.own (.dT kvs)) ∧ k (hasK kvs (kI ks))
theorem fit_inT (h : WE X P a R fun x R1 => stb x fun x => WE X P b R1 fun y R2 => gInT R2 x y fun c => Q (.d (.bool c)) R2) : Fits X P R (tDIn (TEm X a) (TEm X b)) Q :=
  fun F σ Hd H w Z hZ => h.stb.use w fun Hd1 R1 x v H1 e1 w1 r1 q1 => q1.2.use w1 fun Hd2 R2 y u H2 e2 w2 r2 q2 => by
    obtain ⟨ks, j, kvs, rfl, rfl, hR, q⟩ := q2
    obtain ⟨b, rfl, hb⟩ := tup_key (show Dq _ _ v (.tuple (ks.map PyData.int)) from r1)
    obtain ⟨p, o, s1, hp, ⟨ws, ho, hc⟩, _⟩ := w2.own j _ hR
    subst ho
    have s2 := r2.1
    rw [s1] at s2
    cases s2
    refine ⟨p, _, rfl, DGet.t (k := kI ks) hp (w2.dat _ _ (e2 _ _ hb)), hZ _ _ (.same (e1.trans e2) (.here w2 (sv := .d (.bool (hasK kvs (kI ks)))) ?_ q))⟩
    rw [hasK_of (fun _ _ h => h.1) _ hc]
    exact .bl _
theorem we_inT (hu : X.A.units + 1 < cLine) (hm : behindInMarks .In b = false) (h : WE X P a R fun x R1 => stb x fun x => WE X P b R1 fun y R2 => gInT R2 x y fun c => Q (.d (.bool c)) R2) : WE X P (.Compare a [.In] [b] pos) R Q :=
  .fit (pe_cmp (pc_din hu pe_m pe_m) hm) (fit_inT h)
theorem crT {K : PySem.W.Frag} {Hd : Hp} {kvs : List (List Key × D)} {ws : List (List Key × V)} (h : Paired (fun (p : List Key × D) (q : List Key × V) => p.1 = q.1 ∧ Dq K Hd q.2 p.2) kvs ws) : CRp K Hd (.dT kvs) (.dT ws) := ⟨ws, rfl, h⟩
theorem ws_tput {o k : Expr} {pos' : Pos} (hu : X.A.units + 1 < cLine) (h : WE X P e R fun z R1 => asD z fun d => WE X P o R1 fun x R2 => ∃ i, x = .loc i ∧ WE X P k R2 fun y R3 => ∃ (ks : List Int) (kvs : List (List Key × D)), y = .d (.tuple (ks.map PyData.int)) ∧ R3[i]? = some (.own (.dT kvs)) ∧ kvs.length < sizeLine ∧ D'.nx (R3.set i (.own (.dT (putD kvs (kI ks) d)))))
    (hs : swapsWith e (some (.Subscript o k pos')) pos.line X.env = pure false := by rfl) : WS X P (.Assign [.Subscript o k pos'] e pos) R D' :=
  .of (ps_dput hu pe_m pe_m pe_m hs) fun F σ Hd H w => h.fzD.use w fun Hd1 R1 z v H1 e1 w1 r1 q1 => by
    obtain ⟨d, rfl, q1⟩ := q1
    exact q1.use w1 fun Hd2 R2 x u H2 e2 w2 r2 q2 => by
      obtain ⟨i, rfl, q2⟩ := q2
      exact q2.use w2 fun Hd3 R3 y t H3 e3 w3 r3 q3 => by
        obtain ⟨ks, kvs, rfl, hR, hz, q⟩ := q3
        obtain ⟨b, rfl, hb⟩ := tup_key (show Dq _ _ t (.tuple (ks.map PyData.int)) from r3)
        obtain ⟨a, o', s1, s2, ⟨ws, rfl, hv⟩, _⟩ := w3.own i _ hR
        have s3 := r2.1
        rw [s1] at s3
        cases s3
        exact ⟨a, _, rfl, DPut.t (k := kI ks) s2 (w3.dat _ _ hb) (by rw [pairedLen hv]; exact hz), Hd3, _, (e1.trans e2).trans e3, w3.change hR s1 (crT (put_dp (kI ks) (dpMono (e2.trans e3) r1) hv)), q⟩
/-! xs.pop() of a list that a name holds -/
theorem we_pop {o : Expr} {apos : Pos} (h : WE X P o R fun x R1 => ∃ i ds d, x = .loc i ∧ R1[i]? = some (.own (.lst (ds ++ [d]))) ∧ Q (.d d) (R1.set i (.own (.lst ds))))
    (hbase : attributeBase o "pop" X.env (eval o X.env) = eval o X.env := by rfl) (hline : (apos.endLine == pos.line) = true := by rfl) : WE X P (.Call (.Attribute o "pop" apos) [] [] pos) R Q :=
  .of (pe_bm0 PySem.F.plainAttrs_list PySem.F.slot_list_pop PySem.F.type_list_pop mt_pop pe_m hbase hline) fun F σ Hd H w => h.use w fun Hd1 R1 sv v H1 e1 w1 r1 q1 => by
    obtain ⟨i, ds, d, rfl, hR, q⟩ := q1
    obtain ⟨a, o', s1, s2, ⟨vs, rfl, hv⟩, _⟩ := w1.own i _ hR
    have s3 := r1.1
    rw [s1] at s3
    cases s3
    have hl := dpAllLen hv
    rw [List.length_append, List.length_singleton] at hl
    have hd : (ds ++ [d])[vs.length - 1]? = some d := by
      rw [hl, Nat.add_sub_cancel, List.getElem?_append_right (Nat.le_refl _)]
      simp
    obtain ⟨y, hy, ry⟩ := dpAllGet hv hd
    have hv2 : DqAll X.K Hd1 vs.dropLast ds := by
      have := dpAllDropLast hv
      rwa [List.dropLast_concat] at this
    exact ⟨.inl ⟨rfl, vs, .inl (.inl s2)⟩, a, vs, y, rfl, rfl, s2, hy, Hd1, _, .d d, e1, w1.change hR s1 (crL hv2), ry, q⟩
/-! what is made at once gets one more, and is let go -/
theorem ws_appendO {o : Expr} {apos cpos : Pos} (pe : PE X (.Call (.Attribute o "append" apos) [e] [] cpos) (tBM X.K "list" rAppend (TEm X o) (tCons (TEm X e) tNil)))
    (h : WE X P o R fun x R1 => ∃ ds, x = .own (.lst ds) ∧ ds.length < sizeLine ∧ WE X P e R1 fun y R2 => asD y fun d => D'.nx R2)
    (hsw : swapsWith (.Call (.Attribute o "append" apos) [e] [] cpos) none pos.line X.env = pure false := by rfl) : WS X P (.Expr (.Call (.Attribute o "append" apos) [e] [] cpos) pos) R D' :=
  .of (ps_expr pe hsw) fun F σ Hd H w => h.use w fun Hd1 R1 sv v H1 e1 w1 r1 q1 => by
    obtain ⟨ds, rfl, hz, q1⟩ := q1
    obtain ⟨l, o', rfl, hl, ⟨vs, ho, hv⟩, hd, hf, hn⟩ := r1
    subst ho
    have hz0 : ¬ F.Fz l := fun z => (w1.prot l z).2 hf
    refine ⟨.inl ⟨rfl, vs, .inl (.inl hl)⟩, (q1.fzD.run (F.with l (.lst vs)) σ Hd1 H1 (w1.enter hl hd hn)).mono fun u H2 ⟨Hd2, R2, y, e2, w2, r2, q2⟩ => ?_⟩
    obtain ⟨d, rfl, q⟩ := q2
    obtain ⟨w3, g1, g2, g3⟩ := Wd.leave w2 hf hz0
    exact ⟨l, vs, u, rfl, rfl, g1, by rw [dpAllLen hv]; exact hz, Hd2, _, e1.trans e2, w3.poke g1 (crp_bare (crL (K := X.K) (dpAllMono e2 hv))) g2 hf g3, q⟩
/-! is, is not of truths -/
theorem wt_isNotB {Q : Bool → DS → Prop} (h : WE X P a R fun x R1 => asB x fun i => WE X P b R1 fun y R2 => asB y fun j => Q (!decide (i = j)) R2) : WT X P (.Compare a [.IsNot] [b] pos) R Q :=
  .of (pt_cmpR op_notBl pe_m pe_m (nomark _)) fun F σ Hd H w => h.use w fun Hd1 R1 x v H1 e1 w1 r1 q1 => by
    obtain ⟨i, rfl, q1⟩ := q1.elim
    cases (show Dq _ _ v (.bool i) from r1)
    exact q1.use w1 fun Hd2 R2 y u H2 e2 w2 r2 q2 => by
      obtain ⟨j, rfl, q⟩ := q2.elim
      cases (show Dq _ _ u (.bool j) from r2)
      exact ⟨i, j, rfl, rfl, _, rfl, Hd2, R2, e1.trans e2, w2, q⟩
/-! min of two; repr of a truth -/
theorem we_min2 (hc : X.calm = true) (hm : X.mg "min" = none) (hg : Gl X "min") (h : WE X P a R fun x R1 => asI x fun i => WE X P b R1 fun y R2 => asI y fun j => Q (.d (.int (if j < i then j else i))) R2)
    (he : starEach [a, b] X.env = (false, eval a X.env) :: starEach [b] X.env := by rfl) (he2 : starEach [b] X.env = (false, eval b X.env) :: starEach [] X.env := by rfl) (hpl : (backTo pos (starEach [b] X.env)).any (·.1) = false := by rfl) : WE X P (.Call (.Name "min" p) [a, b] [] pos) R Q :=
  .of (pe_callB (call_min2 hc) hg hm (by decide +kernel) (pa_cons pe_m (pa_cons pe_m pa_nil he2) he) (by decide) (by decide) he hpl) fun F σ Hd H w => h.use w fun Hd1 R1 x v H1 e1 w1 r1 q1 => by
    obtain ⟨i, rfl, q1⟩ := q1.elim
    cases (show Dq _ _ v (.int i) from r1)
    exact q1.use w1 fun Hd2 R2 y u H2 e2 w2 r2 q2 => by
      obtain ⟨j, rfl, q⟩ := q2.elim
      cases (show Dq _ _ u (.int j) from r2)
      exact ⟨i, j, rfl, .same (e1.trans e2) (.here w2 (show Rp _ _ _ _ _ _ (.d (.int (if j < i then j else i))) _ from .int _) q)⟩
theorem call_reprB : CallR X (.builtin "repr") (fun xs H Q => ∃ c : Bool, xs = [V.bl c] ∧ Q (.str (if c then "True" else "False" : String)) H) := by
  intro pins s σ H xs us Q I r h
  obtain ⟨c, rfl, q⟩ := h
  obtain ⟨u, rfl, ru⟩ := Vals.one r
  cases (show u = Value.bool c from ru)
  refine PySem.P.repr_of_bool ⟨.str _, H, I.tok _, ⟨_, rfl⟩, ?_⟩
  cases c <;> exact q
theorem we_reprB (hm : X.mg "repr" = none) (hg : Gl X "repr") (h : WE X P a R fun x R1 => asB x fun c => Q (.d (.str (if c then "True" else "False" : String))) R1)
    (he : starEach [a] X.env = (false, eval a X.env) :: starEach [] X.env := by rfl) (hpl : (backTo pos (starEach [] X.env)).any (·.1) = false := by rfl) : WE X P (.Call (.Name "repr" p) [a] [] pos) R Q :=
  call1 call_reprB hg hm (by decide +kernel) h (fun F σ Hd H sv R1 v Z w r g k => by
    obtain ⟨c, rfl, q⟩ := g.elim
    cases (show Dq _ _ v (.bool c) from r)
    exact ⟨c, rfl, k _ _ (.here w (show Rp _ _ _ _ _ _ (.d (.str _)) _ from .str _) q)⟩) (he := he) (hpl := hpl)
theorem eqG_str {R2 : DS} {k : Bool → Prop} (x : Str) (q : k true) : eqG R2 (.d (.str x)) (.d (.str x)) k := by
  show k (decide (x = x))
  rw [decide_eq_true rfl]
  exact q
end
section
variable {Pg : Program} {w : World} {K : PySem.W.Frag} {mg : Str → Option Value} {base : Heap} {k : Nat} {x qual : Str} {st : Stmt} {f : Addr} {fd : FuncData} {N ps : List Str} {S : SpD}
/-- as can_def, of the def that the row calls -/
theorem fn_def (Fu : Fun K x qual st f fd) (Sc : FnScope N ps (defScope st)) (hN : ps.length ≤ N.length) (hlen : ∀ R Q, S R Q → R.length = ps.length)
    (body : ∀ (cdv : Value) (A : Around) (outer : List Env) (s : Shared) (H : Hp) (E : XK), A.guards = some [] → Room k (A.deeper (envOfC qual (defScope st) s.heap.objs.size f cdv)) → ∀ R Q, S R Q →
      WSs (cxOf CX0 Pg w K mg base N qual (defScope st) f cdv A outer s H E).nox (ownIx R) (defBody st) (R ++ List.replicate (N.length - R.length) .no) (bodyEnds R.length Q)) : FnG Pg w K mg base CX0 (k + 1) f fd ps (liftS K S) := by
  refine fnG_of Fu Sc (fun vs H Q E h => ?_) (fun cdv A outer s H vs Q E hgd hr h => ?_)
  · obtain ⟨F, Hd, R, w, q⟩ := h
    have := w.len
    rw [List.length_map] at this
    rw [← this]
    exact hlen R _ q
  · have g := def_run (X := (cxOf CX0 Pg w K mg base N qual (defScope st) f cdv A outer s H E).nox) (N := N) (st := st) (fun R Q h => by rw [hlen R Q h]; exact hN) (body cdv A outer s H E hgd hr) (vs := vs) (H := H) (Q := Q) h
    exact TSsm.of (PSs.nox pss_m) g
end
end Dl
namespace Dl
open PySem PySem.Spec PyProof.Rows L2
/-! a def whose code object is known -/
theorem fnG_ofC {CX : CXT} {Pg : Program} {w : World} {K : PySem.W.Frag} {mg : Str → Option Value} {base : Heap} {k : Nat} {x qual : Str} {st : Stmt} {f : Addr} {fd : FuncData} {N ps : List Str} {sp : Sp} (Fu : Fun K x qual st f fd) (S : FnScope N ps (defScope st))
    (len : ∀ vs H Q E, sp vs H Q E → vs.length = ps.length)
    (body : ∀ (cdv : Value), fd.code = cdv → ∀ (A : Around) (outer : List Env) (s : Shared) (H : Hp) (vs : List V) (Q : VK) (E : XK), A.guards = some [] → Room k (A.deeper (envOfC qual (defScope st) s.heap.objs.size f cdv)) → sp vs H Q E →
      TSsm (cxOf CX Pg w K mg base N qual (defScope st) f cdv A outer s H E) (defBody st) { nx := fun _ H' => Q .non H', rt := Q } (start N vs) H) : FnG Pg w K mg base CX (k + 1) f fd ps sp := by
  obtain ⟨oc, od, kV, doc, pm, an, cdv, ct, osl, rfl, lk, hcd⟩ := Fu.ex
  refine ⟨len, fun A outer s H args us vs Q E hgd hr e0 hb r hsp => ?_⟩
  have hl : vs.length = ps.length := len _ _ _ _ hsp
  have kn : K.In s.heap := e0.mod.kin.keeps (h := base) fun b o q => (e0.bs b o q).1
  have lm : s.heap.NoLimit := e0.mod.nolimit.keeps (h := base) fun b o q => (e0.bs b o q).1
  refine codeAny_call_function hr.depth (kn _ _ lk) rfl S.co S.gen rfl (PySem.W.codeRec_of kn hcd) (hb _ _ _ _ (wpAny_newFunctionEnv_cells S.kind (fun y hy => ?_) fun env he s1 nw => ?_))
  · obtain ⟨n, v⟩ := y
    exact (S.par n (List.of_mem_zip hy).1).imp id fun q => ⟨q, PySem.W.cellsFrom_some _ _ _ (.inl q)⟩
  · subst he
    refine ⟨lm.keeps nw.toInCall.keep, codeAny_func ?_⟩
    have J := inv_start (CX := CX) (E := E) S hr.hd e0 hl r nw
    refine wpAny_mono (body cdv rfl A outer s H vs Q E hgd (hr.deeper _) hsp [] s1 J) (fun fl s' hs => ?_) (fun e s' hs => hs)
    have done : ∀ {τ : L2.St} {H' : Hp} {v : V} {u : Value}, Inv (cxOf CX Pg w K mg base N qual (defScope st) f cdv A outer s H E) [] τ H' s' → RelV v u → Q v H' → CE outer Pg w H s Q u s' := fun {_ H' v _} I2 rv q => ⟨v, H', I2.os, I2.bare, I2.base, I2.hok, rv, q⟩
    cases fl with
    | next =>
      obtain ⟨τ, H', I2, q⟩ := hs
      exact done (v := V.non) (u := Value.none) I2 rfl q
    | ret u =>
      obtain ⟨v, τ, H', I2, rv, q⟩ := hs
      exact done I2 rv q
    | brk => exact hs.elim fun _ ⟨_, _, q⟩ => (q : False).elim
    | cont => exact hs.elim fun _ ⟨_, _, q⟩ => (q : False).elim
theorem can_defC {Pg : Program} {w : World} {K : PySem.W.Frag} {mg : Str → Option Value} {base : Heap} {k : Nat} {x qual : Str} {st : Stmt} {f : Addr} {fd : FuncData} {N ps : List Str} {S : SpD} (Fu : Fun K x qual st f fd) (Sc : FnScope N ps (defScope st)) (hm : mg x = some (.ref f)) (hb : Binds K fd ps [])
    (mono : ∀ A Z Z', (∀ sv R', Z sv R' → Z' sv R') → S A Z → S A Z') (hN : ps.length ≤ N.length) (hlen : ∀ R Q, S R Q → R.length = ps.length)
    (body : ∀ (cdv : Value), fd.code = cdv → ∀ (A : Around) (outer : List Env) (s : Shared) (H : Hp) (E : XK), A.guards = some [] → Room k (A.deeper (envOfC qual (defScope st) s.heap.objs.size f cdv)) → ∀ R Q, S R Q →
      WSs (cxOf CX0 Pg w K mg base N qual (defScope st) f cdv A outer s H E).nox (ownIx R) (defBody st) (R ++ List.replicate (N.length - R.length) .no) (bodyEnds R.length Q)) : Can Pg w K mg base (k + 1) x S := by
  refine ⟨⟨f, fd, ps, fnG_ofC Fu Sc (fun vs H Q E h => ?_) (fun cdv hcd A outer s H vs Q E hgd hr h => ?_), hm, Fu.kp, hb⟩, mono⟩
  · obtain ⟨F, Hd, R, w, q⟩ := h
    have := w.len
    rw [List.length_map] at this
    rw [← this]
    exact hlen R _ q
  · have g := def_run (X := (cxOf CX0 Pg w K mg base N qual (defScope st) f cdv A outer s H E).nox) (N := N) (st := st) (fun R Q h => by rw [hlen R Q h]; exact hN) (body cdv hcd A outer s H E hgd hr) (vs := vs) (H := H) (Q := Q) h
    exact TSsm.of (PSs.nox pss_m) g
theorem code_of {K : PySem.W.Frag} {x qual : Str} {st : Stmt} {f c P : Addr} {fd : FuncData} (Fu : Fun K x qual st f fd) (ha : PySem.W.nsIn K mainGlobals x = some (some (.ref f))) (ht : PySem.W.tabIn K x = some (c, P)) : fd.code = .ref c := by
  obtain ⟨oc, od, kV, doc, pm, an, cdv, ct, osl, rfl, lk, hcd⟩ := Fu.ex
  unfold PySem.W.tabIn at ht
  rw [ha] at ht
  dsimp only at ht
  rw [lk] at ht
  dsimp only at ht
  show cdv = .ref c
  cases cdv with
  | ref c2 =>
    dsimp only at ht
    split at ht
    · split at ht
      · cases ht
        rfl
      · cases ht
    · cases ht
  | _ => cases ht
end Dl
set_option maxHeartbeats 1000000
namespace Dl
open PySem PySem.Spec PyProof.Rows L2
section
variable {X : Cx} {P : List Nat} {R : DS} {a b e : Expr} {pos p : Pos} {Q : SV → DS → Prop}
/-! xs + ys: any two lists that are read -/
theorem op_catS : OpR X (binaryOp .Add) (fun x y H Q => ∃ l m vs us, x = V.ref l ∧ y = V.ref m ∧ SqL X.K H l vs ∧ SqL X.K H m us ∧ vs.length + us.length ≤ sizeLine ∧ ∀ p, H p = none → Q (.ref p) (upd H p (.lst (vs ++ us)))) := by
  intro pins s σ H x y v u Q I rx ry h
  obtain ⟨l, m, vs, us, rfl, rfl, h1, h2, hz, q⟩ := h
  cases rx
  cases ry
  obtain ⟨its, r1, ⟨⟨c1, d1, a1, s1⟩, n1, g1, g2, g3, g4⟩, _⟩ := I.list h1
  obtain ⟨its2, r2, ⟨⟨c2, d2, a2, s2⟩, n2, k1, k2, k3, k4⟩, _⟩ := I.list h2
  dsimp only at g2 g3 g4 k2 k3 k4
  subst g2 g3 g4 k2 k3 k4
  have z1 := r1.length
  have z2 := r2.length
  have hn : H s.heap.objs.size = none := I.hok.fresh (Nat.le_refl _)
  have es : its.toArray ++ its2.toArray = (its ++ its2).toArray := by simp
  have hs : its.toArray.size + its2.toArray.size ≤ sizeLine := by
    rw [List.size_toArray, List.size_toArray]
    omega
  refine concat_meets ⟨_, g1, rfl⟩ ⟨_, k1, rfl⟩ noFill_list_add seq_list_add PySem.F.slot_list_add PySem.F.entry_list_add (PySem.F.args_list_add_2 _ _) (list_addW l m _ _ n1 n2 _ _ s1 s2 hs) ⟨g1, k1, ?_⟩
  rw [es]
  exact ⟨.ref s.heap.objs.size, _, I.laid (t' := s.toks) (a := s.heap.objs.size) (o := .lst (vs ++ us)) (fun b o e => Heap.get?_push_of_some _ e) (Nat.le_refl _) ⟨by rw [List.length_append]; omega, its ++ its2, 0, r1.append r2, Heap.get?_push_size _ rfl⟩, rfl, q _ hn⟩
theorem we_catS (h : WE X P a R fun x R1 => stb x fun x => WE X P b R1 fun y R2 => (∃ d, vD R2 x = some d) ∧ ∃ ds es, vL R2 x = some ds ∧ vL R2 y = some es ∧ ds.length + es.length ≤ sizeLine ∧ Q (.own (.lst (ds ++ es))) R2) : WE X P (.BinOp a .Add b pos) R Q :=
  .fit (pe_op op_catS pe_m pe_m) (two h fun F σ Hd H x y R2 v u Z w r1 r2 g k => by
    obtain ⟨ds, es, h1, h2, hz, q⟩ := g
    obtain ⟨l, vs, rfl, g1, g2⟩ := Rp.list w r1 h1
    obtain ⟨m, us, rfl, k1, k2⟩ := Rp.list w r2 h2
    exact ⟨l, m, vs, us, rfl, rfl, g1, k1, by rw [dpAllLen g2, dpAllLen k2]; exact hz, fun p hp => k _ _ (.here (w.allocH hp) (ownNew w hp (crL (dpAllApp g2 k2))) q)⟩)
end
end Dl
namespace K08
open PySem PySem.Spec PyProof.Rows L2 Dl
local macro_rules | `(tactic| walk_at "v") => `(tactic| first
  | refine we_d (i := 0) rfl (vis3 rfl) rfl ?_ | refine we_o (i := 0) rfl (vis3 rfl) rfl ?_
  | refine we_d (i := 1) rfl (vis3 rfl) rfl ?_ | refine we_o (i := 1) rfl (vis3 rfl) rfl ?_
  | refine we_d (i := 2) rfl (vis3 rfl) rfl ?_ | refine we_o (i := 2) rfl (vis3 rfl) rfl ?_
  | refine we_d (i := 3) rfl (vis3 rfl) rfl ?_ | refine we_o (i := 3) rfl (vis3 rfl) rfl ?_
  | refine we_d (i := 4) rfl (vis3 rfl) rfl ?_ | refine we_o (i := 4) rfl (vis3 rfl) rfl ?_
  | refine we_d (i := 5) rfl (vis3 rfl) rfl ?_ | refine we_o (i := 5) rfl (vis3 rfl) rfl ?_
  | refine we_d (i := 6) rfl (vis3 rfl) rfl ?_ | refine we_o (i := 6) rfl (vis3 rfl) rfl ?_
  | refine we_d (i := 7) rfl (vis3 rfl) rfl ?_ | refine we_o (i := 7) rfl (vis3 rfl) rfl ?_
  | refine we_d (i := 8) rfl (vis3 rfl) rfl ?_ | refine we_o (i := 8) rfl (vis3 rfl) rfl ?_
  | refine we_d (i := 9) rfl (vis3 rfl) rfl ?_ | refine we_o (i := 9) rfl (vis3 rfl) rfl ?_
  | refine we_d (i := 10) rfl (vis3 rfl) rfl ?_ | refine we_o (i := 10) rfl (vis3 rfl) rfl ?_
  | refine we_d (i := 11) rfl (vis3 rfl) rfl ?_ | refine we_o (i := 11) rfl (vis3 rfl) rfl ?_
  | refine we_d (i := 12) rfl (vis3 rfl) rfl ?_ | refine we_o (i := 12) rfl (vis3 rfl) rfl ?_
  | refine we_d (i := 13) rfl (vis3 rfl) rfl ?_ | refine we_o (i := 13) rfl (vis3 rfl) rfl ?_
  | refine we_d (i := 14) rfl (vis3 rfl) rfl ?_ | refine we_o (i := 14) rfl (vis3 rfl) rfl ?_
  | refine we_d (i := 15) rfl (vis3 rfl) rfl ?_ | refine we_o (i := 15) rfl (vis3 rfl) rfl ?_
  | refine we_d (i := 16) rfl (vis3 rfl) rfl ?_ | refine we_o (i := 16) rfl (vis3 rfl) rfl ?_
  | refine we_d (i := 17) rfl (vis3 rfl) rfl ?_ | refine we_o (i := 17) rfl (vis3 rfl) rfl ?_
  | refine we_d (i := 18) rfl (vis3 rfl) rfl ?_ | refine we_o (i := 18) rfl (vis3 rfl) rfl ?_
  | refine we_d (i := 19) rfl (vis3 rfl) rfl ?_ | refine we_o (i := 19) rfl (vis3 rfl) rfl ?_
  | refine we_d (i := 20) rfl (vis3 rfl) rfl ?_ | refine we_o (i := 20) rfl (vis3 rfl) rfl ?_)
local macro_rules | `(tactic| walk_at "si") => `(tactic| first
  | refine ws_set (i := 0) (by assumption) rfl (loc2 rfl) (by decide) ?_
  | refine ws_set (i := 1) (by assumption) rfl (loc2 rfl) (by decide) ?_
  | refine ws_set (i := 2) (by assumption) rfl (loc2 rfl) (by decide) ?_
  | refine ws_set (i := 3) (by assumption) rfl (loc2 rfl) (by decide) ?_
  | refine ws_set (i := 4) (by assumption) rfl (loc2 rfl) (by decide) ?_
  | refine ws_set (i := 5) (by assumption) rfl (loc2 rfl) (by decide) ?_
  | refine ws_set (i := 6) (by assumption) rfl (loc2 rfl) (by decide) ?_
  | refine ws_set (i := 7) (by assumption) rfl (loc2 rfl) (by decide) ?_
  | refine ws_set (i := 8) (by assumption) rfl (loc2 rfl) (by decide) ?_
  | refine ws_set (i := 9) (by assumption) rfl (loc2 rfl) (by decide) ?_
  | refine ws_set (i := 10) (by assumption) rfl (loc2 rfl) (by decide) ?_
  | refine ws_set (i := 11) (by assumption) rfl (loc2 rfl) (by decide) ?_
  | refine ws_set (i := 12) (by assumption) rfl (loc2 rfl) (by decide) ?_
  | refine ws_set (i := 13) (by assumption) rfl (loc2 rfl) (by decide) ?_
  | refine ws_set (i := 14) (by assumption) rfl (loc2 rfl) (by decide) ?_
  | refine ws_set (i := 15) (by assumption) rfl (loc2 rfl) (by decide) ?_
  | refine ws_set (i := 16) (by assumption) rfl (loc2 rfl) (by decide) ?_
  | refine ws_set (i := 17) (by assumption) rfl (loc2 rfl) (by decide) ?_
  | refine ws_set (i := 18) (by assumption) rfl (loc2 rfl) (by decide) ?_
  | refine ws_set (i := 19) (by assumption) rfl (loc2 rfl) (by decide) ?_
  | refine ws_set (i := 20) (by assumption) rfl (loc2 rfl) (by decide) ?_)
local macro_rules | `(tactic| walk_at "gi") => `(tactic| first
  | refine wg_name (i := 0) (by assumption) rfl (loc2 rfl) (by decide) ?_
  | refine wg_name (i := 1) (by assumption) rfl (loc2 rfl) (by decide) ?_
  | refine wg_name (i := 2) (by assumption) rfl (loc2 rfl) (by decide) ?_
  | refine wg_name (i := 3) (by assumption) rfl (loc2 rfl) (by decide) ?_
  | refine wg_name (i := 4) (by assumption) rfl (loc2 rfl) (by decide) ?_
  | refine wg_name (i := 5) (by assumption) rfl (loc2 rfl) (by decide) ?_
  | refine wg_name (i := 6) (by assumption) rfl (loc2 rfl) (by decide) ?_
  | refine wg_name (i := 7) (by assumption) rfl (loc2 rfl) (by decide) ?_
  | refine wg_name (i := 8) (by assumption) rfl (loc2 rfl) (by decide) ?_
  | refine wg_name (i := 9) (by assumption) rfl (loc2 rfl) (by decide) ?_
  | refine wg_name (i := 10) (by assumption) rfl (loc2 rfl) (by decide) ?_
  | refine wg_name (i := 11) (by assumption) rfl (loc2 rfl) (by decide) ?_
  | refine wg_name (i := 12) (by assumption) rfl (loc2 rfl) (by decide) ?_
  | refine wg_name (i := 13) (by assumption) rfl (loc2 rfl) (by decide) ?_
  | refine wg_name (i := 14) (by assumption) rfl (loc2 rfl) (by decide) ?_
  | refine wg_name (i := 15) (by assumption) rfl (loc2 rfl) (by decide) ?_
  | refine wg_name (i := 16) (by assumption) rfl (loc2 rfl) (by decide) ?_
  | refine wg_name (i := 17) (by assumption) rfl (loc2 rfl) (by decide) ?_
  | refine wg_name (i := 18) (by assumption) rfl (loc2 rfl) (by decide) ?_
  | refine wg_name (i := 19) (by assumption) rfl (loc2 rfl) (by decide) ?_
  | refine wg_name (i := 20) (by assumption) rfl (loc2 rfl) (by decide) ?_)
local macro_rules | `(tactic| walk_at "side") => `(tactic| first | exact rfl | exact Nat.le_trans (m := 1000) (Nat.le_of_ble_eq_true rfl) sz1000 | omega | decide | assumption)
local macro_rules | `(tactic| walk_at "we") => `(tactic| first
  | (refine isName ?_; walk_at "v")
  | refine we_int ?_ | refine we_bl ?_ | refine we_non ?_ | refine we_str ?_
  | refine we_ix ?_
  | refine we_addG ?_ | refine we_sub ?_ | refine we_mulG ?_ | refine we_div ?_ | refine we_mod ?_ | refine we_pow ?_ | refine we_neg ?_
  | refine we_gt ?_ | refine we_lt ?_ | refine we_ge ?_ | refine we_le ?_
  | refine we_tup ?_ | refine we_lst ?_ | refine we_dict0 ?_
  | refine we_len (by assumption) rfl ?_ | refine we_slG ?_ | refine we_eqG (by assumption) ?_ | refine we_neG (by assumption) ?_ | refine we_not ?_ | refine we_one ?_ | refine we_and ?_ | refine we_or ?_
  | refine we_call2 (by assumption) (by assumption) (by assumption) (by decide) rfl ?_)
local macro_rules | `(tactic| walk_at "wt") => `(tactic| first
  | refine wt_gt ?_ | refine wt_lt ?_ | refine wt_ge ?_ | refine wt_le ?_ | refine wt_not ?_
  | refine wt_eqG (by assumption) ?_ | refine wt_neG (by assumption) ?_ | refine wt_bool ?_ | refine wt_val ?_)
local macro_rules | `(tactic| walk_at "ws") => `(tactic| first
  | refine ws_ret ?_ | (refine isSet ?_; walk_at "si") | refine ws_if ?_
  | refine ws_append (pe_bm PySem.F.plainAttrs_list PySem.F.slot_list_append PySem.F.type_list_append mt_append pe_m (pa_cons pe_m pa_nil)) ?_
  | refine ws_continue ?_ | refine ws_break ?_ | refine ws_pass ?_)
local macro_rules | `(tactic| walk_at "l") => `(tactic| first
  | refine And.intro (Exists.intro _ rfl) ?_
  | refine And.intro trivial ?_
  | refine Exists.intro _ (And.intro rfl ?_)
  | refine Exists.intro _ (Exists.intro _ (And.intro rfl (And.intro rfl ?_)))
  | refine And.intro (And.intro (by walk_at "side") (by walk_at "side") : CDiv _ _) ?_
  | refine And.intro (.inl (And.intro (by walk_at "side") (by walk_at "side")) : CMul _ _) ?_
  | refine And.intro (.inr (And.intro (by walk_at "side") (by walk_at "side")) : CMul _ _) ?_
  | refine And.intro (And.intro (List.cons_ne_nil _ _) (And.intro (by walk_at "side") (And.intro (by walk_at "side") (by walk_at "side")))) ?_
  | refine And.intro (by walk_at "side") ?_)
local macro_rules | `(tactic| walk_at "step") => `(tactic| first
  | (refine isWE ?_; walk_at "we")
  | (refine isWT ?_; walk_at "wt")
  | (refine isWSs ?_; first | refine wss_nil ?_ | refine wss_one ?_ | refine wss_cons ?_)
  | (refine isWS ?_; walk_at "ws")
  | (refine isWDs ?_; first | refine wds_nil ?_ | refine wds_cons ?_)
  | (refine isWW ?_; first | refine ww_and1 ?_ | refine ww_or1 ?_ | refine ww_and ?_ | refine ww_or ?_)
  | refine allB_i fun _ _ _ _ _ => ?_
  | refine asI_i (allB_i fun _ _ _ _ _ => ?_)
  | (refine isWG ?_; first | walk_at "gi" | refine wg_tup rfl ?_ rfl)
  | (refine isWGs ?_; first | refine wgs_nil ?_ | refine wgs_consN ?_)
  | (refine isWO ?_; first | refine wo_none ?_ | refine wo_some ?_)
  | (refine isWA ?_; first | refine wa_nil ?_ | refine wa_cons ?_)
  | walk_at "l")
local macro_rules | `(tactic| walk_at "go") => `(tactic| repeat (walk_at "step"))
def topS (i : Nat) : Stmt := PySem.Challenge.pw_writeorders_k08_closed_lists.main.body.getD i (.Pass ⟨0, 0, 0, 0⟩)
abbrev NDraw : List Str := ["_law_pool_here", "_law_many_here", "_law_found"]
theorem scDraw : FnScope NDraw ["_law_pool_here", "_law_many_here"] (defScope (topS 7)) := ⟨rfl, rfl, rfl, by decide +kernel, rfl, by decide +kernel, by decide +kernel⟩
section
variable {Pg : Program} {w : World} {K : PySem.W.Frag} {mg : Str → Option Value} {base : Heap}
/-- any draw -/
def PoolOk (b : Int) : Prop := 0 ≤ b ∧ b < 2147483647
def pool (a b : Int) : SV := .own (.lst [.int a, .int b])
def sDraw : SpD := fun R Q => ∃ a b m : Int, R = [pool a b, .d (.int m)] ∧ (0 < m ∧ m < 1000) ∧ PoolOk b ∧
  ∀ r a' b' : Int, 0 ≤ r ∧ r < m → PoolOk b' → Q (.d (.int r)) [pool a' b', .d (.int m)]
theorem ok_draw {f : Addr} {fd : FuncData} (F : Fun K "_law_draw" "_law_draw" (topS 7) f fd) (hm : mg "_law_draw" = some (.ref f)) (hb : Binds K fd ["_law_pool_here", "_law_many_here"] []) : Can Pg w K mg base 1 "_law_draw" sDraw := by
  refine can_def F scDraw hm hb (fun A Z Z' k ⟨a, b, m, h1, h2, h3, h4⟩ => ⟨a, b, m, h1, h2, h3, fun r a' b' g1 g2 => k _ _ (h4 r a' b' g1 g2)⟩) (by decide) (fun R Q h => ?_) (fun cdv A outer s H E hgd hr R Q h => ?_)
  · obtain ⟨a, b, m, rfl, _⟩ := h
    rfl
  · obtain ⟨a, b, m, rfl, hm, ⟨hb1, hb2⟩, q⟩ := h
    show WSs _ [0] _ [.own (.lst [.int a, .int b]), .d (.int m), .no] _
    have nd : NDraw.Nodup := scDraw.nd
    walk_at "go"
    refine ⟨fun h => ?_, fun h => ?_⟩
    · have h0 : 0 < a := of_decide_eq_true h
      walk_at "go"
      refine ws_lput (pg_sub pe_m pe_m set_list) ?_
      walk_at "go"
      exact q _ _ _ ⟨Int.emod_nonneg _ (by omega), Int.emod_lt_of_pos _ hm.1⟩ ⟨hb1, hb2⟩
    · walk_at "go"
      refine ws_lput (pg_sub pe_m pe_m set_list) ?_
      walk_at "go"
      exact q _ _ _ ⟨Int.emod_nonneg _ (by omega), Int.emod_lt_of_pos _ hm.1⟩ ⟨by omega, by omega⟩
end
end K08
namespace K08
open PySem PySem.Spec PyProof.Rows L2 Dl
local macro_rules | `(tactic| walk_at "v") => `(tactic| first
  | refine we_d (i := 0) rfl (vis3 rfl) rfl ?_ | refine we_o (i := 0) rfl (vis3 rfl) rfl ?_
  | refine we_d (i := 1) rfl (vis3 rfl) rfl ?_ | refine we_o (i := 1) rfl (vis3 rfl) rfl ?_
  | refine we_d (i := 2) rfl (vis3 rfl) rfl ?_ | refine we_o (i := 2) rfl (vis3 rfl) rfl ?_
  | refine we_d (i := 3) rfl (vis3 rfl) rfl ?_ | refine we_o (i := 3) rfl (vis3 rfl) rfl ?_
  | refine we_d (i := 4) rfl (vis3 rfl) rfl ?_ | refine we_o (i := 4) rfl (vis3 rfl) rfl ?_
  | refine we_d (i := 5) rfl (vis3 rfl) rfl ?_ | refine we_o (i := 5) rfl (vis3 rfl) rfl ?_
  | refine we_d (i := 6) rfl (vis3 rfl) rfl ?_ | refine we_o (i := 6) rfl (vis3 rfl) rfl ?_
  | refine we_d (i := 7) rfl (vis3 rfl) rfl ?_ | refine we_o (i := 7) rfl (vis3 rfl) rfl ?_
  | refine we_d (i := 8) rfl (vis3 rfl) rfl ?_ | refine we_o (i := 8) rfl (vis3 rfl) rfl ?_
  | refine we_d (i := 9) rfl (vis3 rfl) rfl ?_ | refine we_o (i := 9) rfl (vis3 rfl) rfl ?_
  | refine we_d (i := 10) rfl (vis3 rfl) rfl ?_ | refine we_o (i := 10) rfl (vis3 rfl) rfl ?_
  | refine we_d (i := 11) rfl (vis3 rfl) rfl ?_ | refine we_o (i := 11) rfl (vis3 rfl) rfl ?_
  | refine we_d (i := 12) rfl (vis3 rfl) rfl ?_ | refine we_o (i := 12) rfl (vis3 rfl) rfl ?_
  | refine we_d (i := 13) rfl (vis3 rfl) rfl ?_ | refine we_o (i := 13) rfl (vis3 rfl) rfl ?_
  | refine we_d (i := 14) rfl (vis3 rfl) rfl ?_ | refine we_o (i := 14) rfl (vis3 rfl) rfl ?_
  | refine we_d (i := 15) rfl (vis3 rfl) rfl ?_ | refine we_o (i := 15) rfl (vis3 rfl) rfl ?_
  | refine we_d (i := 16) rfl (vis3 rfl) rfl ?_ | refine we_o (i := 16) rfl (vis3 rfl) rfl ?_
  | refine we_d (i := 17) rfl (vis3 rfl) rfl ?_ | refine we_o (i := 17) rfl (vis3 rfl) rfl ?_
  | refine we_d (i := 18) rfl (vis3 rfl) rfl ?_ | refine we_o (i := 18) rfl (vis3 rfl) rfl ?_
  | refine we_d (i := 19) rfl (vis3 rfl) rfl ?_ | refine we_o (i := 19) rfl (vis3 rfl) rfl ?_
  | refine we_d (i := 20) rfl (vis3 rfl) rfl ?_ | refine we_o (i := 20) rfl (vis3 rfl) rfl ?_)
local macro_rules | `(tactic| walk_at "si") => `(tactic| first
  | refine ws_set (i := 0) (by assumption) rfl (loc2 rfl) (by decide) ?_
  | refine ws_set (i := 1) (by assumption) rfl (loc2 rfl) (by decide) ?_
  | refine ws_set (i := 2) (by assumption) rfl (loc2 rfl) (by decide) ?_
  | refine ws_set (i := 3) (by assumption) rfl (loc2 rfl) (by decide) ?_
  | refine ws_set (i := 4) (by assumption) rfl (loc2 rfl) (by decide) ?_
  | refine ws_set (i := 5) (by assumption) rfl (loc2 rfl) (by decide) ?_
  | refine ws_set (i := 6) (by assumption) rfl (loc2 rfl) (by decide) ?_
  | refine ws_set (i := 7) (by assumption) rfl (loc2 rfl) (by decide) ?_
  | refine ws_set (i := 8) (by assumption) rfl (loc2 rfl) (by decide) ?_
  | refine ws_set (i := 9) (by assumption) rfl (loc2 rfl) (by decide) ?_
  | refine ws_set (i := 10) (by assumption) rfl (loc2 rfl) (by decide) ?_
  | refine ws_set (i := 11) (by assumption) rfl (loc2 rfl) (by decide) ?_
  | refine ws_set (i := 12) (by assumption) rfl (loc2 rfl) (by decide) ?_
  | refine ws_set (i := 13) (by assumption) rfl (loc2 rfl) (by decide) ?_
  | refine ws_set (i := 14) (by assumption) rfl (loc2 rfl) (by decide) ?_
  | refine ws_set (i := 15) (by assumption) rfl (loc2 rfl) (by decide) ?_
  | refine ws_set (i := 16) (by assumption) rfl (loc2 rfl) (by decide) ?_
  | refine ws_set (i := 17) (by assumption) rfl (loc2 rfl) (by decide) ?_
  | refine ws_set (i := 18) (by assumption) rfl (loc2 rfl) (by decide) ?_
  | refine ws_set (i := 19) (by assumption) rfl (loc2 rfl) (by decide) ?_
  | refine ws_set (i := 20) (by assumption) rfl (loc2 rfl) (by decide) ?_)
local macro_rules | `(tactic| walk_at "gi") => `(tactic| first
  | refine wg_name (i := 0) (by assumption) rfl (loc2 rfl) (by decide) ?_
  | refine wg_name (i := 1) (by assumption) rfl (loc2 rfl) (by decide) ?_
  | refine wg_name (i := 2) (by assumption) rfl (loc2 rfl) (by decide) ?_
  | refine wg_name (i := 3) (by assumption) rfl (loc2 rfl) (by decide) ?_
  | refine wg_name (i := 4) (by assumption) rfl (loc2 rfl) (by decide) ?_
  | refine wg_name (i := 5) (by assumption) rfl (loc2 rfl) (by decide) ?_
  | refine wg_name (i := 6) (by assumption) rfl (loc2 rfl) (by decide) ?_
  | refine wg_name (i := 7) (by assumption) rfl (loc2 rfl) (by decide) ?_
  | refine wg_name (i := 8) (by assumption) rfl (loc2 rfl) (by decide) ?_
  | refine wg_name (i := 9) (by assumption) rfl (loc2 rfl) (by decide) ?_
  | refine wg_name (i := 10) (by assumption) rfl (loc2 rfl) (by decide) ?_
  | refine wg_name (i := 11) (by assumption) rfl (loc2 rfl) (by decide) ?_
  | refine wg_name (i := 12) (by assumption) rfl (loc2 rfl) (by decide) ?_
  | refine wg_name (i := 13) (by assumption) rfl (loc2 rfl) (by decide) ?_
  | refine wg_name (i := 14) (by assumption) rfl (loc2 rfl) (by decide) ?_
  | refine wg_name (i := 15) (by assumption) rfl (loc2 rfl) (by decide) ?_
  | refine wg_name (i := 16) (by assumption) rfl (loc2 rfl) (by decide) ?_
  | refine wg_name (i := 17) (by assumption) rfl (loc2 rfl) (by decide) ?_
  | refine wg_name (i := 18) (by assumption) rfl (loc2 rfl) (by decide) ?_
  | refine wg_name (i := 19) (by assumption) rfl (loc2 rfl) (by decide) ?_
  | refine wg_name (i := 20) (by assumption) rfl (loc2 rfl) (by decide) ?_)
local macro_rules | `(tactic| walk_at "side") => `(tactic| first | exact rfl | exact Nat.le_trans (m := 1000) (Nat.le_of_ble_eq_true rfl) sz1000 | omega | decide | assumption)
local macro_rules | `(tactic| walk_at "we") => `(tactic| first
  | (refine isName ?_; walk_at "v")
  | refine we_int ?_ | refine we_bl ?_ | refine we_non ?_ | refine we_str ?_
  | refine we_ix ?_
  | refine we_addG ?_ | refine we_sub ?_ | refine we_mulG ?_ | refine we_div ?_ | refine we_mod ?_ | refine we_pow ?_ | refine we_neg ?_
  | refine we_gt ?_ | refine we_lt ?_ | refine we_ge ?_ | refine we_le ?_
  | refine we_tup ?_ | refine we_lst ?_ | refine we_dict0 ?_
  | refine we_len (by assumption) rfl ?_ | refine we_slG ?_ | refine we_eqG (by assumption) ?_ | refine we_neG (by assumption) ?_ | refine we_not ?_ | refine we_one ?_ | refine we_and ?_ | refine we_or ?_
  | refine we_call2 (by assumption) (by assumption) (by assumption) (by decide) rfl ?_)
local macro_rules | `(tactic| walk_at "wt") => `(tactic| first
  | refine wt_gt ?_ | refine wt_lt ?_ | refine wt_ge ?_ | refine wt_le ?_ | refine wt_not ?_
  | refine wt_eqG (by assumption) ?_ | refine wt_neG (by assumption) ?_ | refine wt_bool ?_ | refine wt_val ?_)
local macro_rules | `(tactic| walk_at "ws") => `(tactic| first
  | refine ws_ret ?_ | (refine isSet ?_; walk_at "si") | refine ws_if ?_
  | refine ws_append (pe_bm PySem.F.plainAttrs_list PySem.F.slot_list_append PySem.F.type_list_append mt_append pe_m (pa_cons pe_m pa_nil)) ?_
  | refine ws_continue ?_ | refine ws_break ?_ | refine ws_pass ?_)
local macro_rules | `(tactic| walk_at "l") => `(tactic| first
  | refine And.intro (Exists.intro _ rfl) ?_
  | refine And.intro trivial ?_
  | refine Exists.intro _ (And.intro rfl ?_)
  | refine Exists.intro _ (Exists.intro _ (And.intro rfl (And.intro rfl ?_)))
  | refine And.intro (And.intro (by walk_at "side") (by walk_at "side") : CDiv _ _) ?_
  | refine And.intro (.inl (And.intro (by walk_at "side") (by walk_at "side")) : CMul _ _) ?_
  | refine And.intro (.inr (And.intro (by walk_at "side") (by walk_at "side")) : CMul _ _) ?_
  | refine And.intro (And.intro (List.cons_ne_nil _ _) (And.intro (by walk_at "side") (And.intro (by walk_at "side") (by walk_at "side")))) ?_
  | refine And.intro (by walk_at "side") ?_)
local macro_rules | `(tactic| walk_at "step") => `(tactic| first
  | (refine isWE ?_; walk_at "we")
  | (refine isWT ?_; walk_at "wt")
  | (refine isWSs ?_; first | refine wss_nil ?_ | refine wss_one ?_ | refine wss_cons ?_)
  | (refine isWS ?_; walk_at "ws")
  | (refine isWDs ?_; first | refine wds_nil ?_ | refine wds_cons ?_)
  | (refine isWW ?_; first | refine ww_and1 ?_ | refine ww_or1 ?_ | refine ww_and ?_ | refine ww_or ?_)
  | refine allB_i fun _ _ _ _ _ => ?_
  | refine asI_i (allB_i fun _ _ _ _ _ => ?_)
  | (refine isWG ?_; first | walk_at "gi" | refine wg_tup rfl ?_ rfl)
  | (refine isWGs ?_; first | refine wgs_nil ?_ | refine wgs_consN ?_)
  | (refine isWO ?_; first | refine wo_none ?_ | refine wo_some ?_)
  | (refine isWA ?_; first | refine wa_nil ?_ | refine wa_cons ?_)
  | walk_at "l")
local macro_rules | `(tactic| walk_at "go") => `(tactic| repeat (walk_at "step"))
structure Chg where
  n : Int
  at_ : Int
  puts : List (Int × Int)
  leans : List Int
def putD2 (p : Int × Int) : D := .tuple [.int p.1, .int p.2]
def chgD (c : Chg) : D := .tuple [.int c.n, .int c.at_, .tuple (c.puts.map putD2), .tuple (c.leans.map .int)]
def spots (c : Chg) : List Int := c.puts.map (·.1)
abbrev NSpots : List Str := ["_law_change", "_law_spot", "_law_worth"]
theorem scSpots : FnScope NSpots ["_law_change"] (defScope (topS 12)) := ⟨rfl, rfl, rfl, by decide +kernel, rfl, by decide +kernel, by decide +kernel⟩
section
variable {Pg : Program} {w : World} {K : PySem.W.Frag} {mg : Str → Option Value} {base : Heap}
def sSpots : SpD := fun R Q => ∃ c : Chg, R = [.d (chgD c)] ∧ c.puts.length ≤ 1000 ∧ Q (.own (.lst ((spots c).map .int))) R
theorem ok_spots {f : Addr} {fd : FuncData} (F : Fun K "_law_spots" "_law_spots" (topS 12) f fd) (hm : mg "_law_spots" = some (.ref f)) (hb : Binds K fd ["_law_change"] []) : Can Pg w K mg base 1 "_law_spots" sSpots := by
  refine can_def F scSpots hm hb (fun A Z Z' k ⟨c, h1, h2, h3⟩ => ⟨c, h1, h2, k _ _ h3⟩) (by decide) (fun R Q h => ?_) (fun cdv A outer s H E hgd hr R Q h => ?_)
  · obtain ⟨c, rfl, _⟩ := h
    rfl
  · obtain ⟨c, rfl, hl, q⟩ := h
    show WSs _ [] _ [.d (chgD c), .no, .no] _
    have nd : NSpots.Nodup := scSpots.nd
    refine wss_one (ws_ret ?_)
    refine we_lc0 [("_law_spot", 1), ("_law_worth", 2)] [1, 2] rfl nd (blkOk_by (N := NSpots) (sc := defScope (topS 12)) (by decide +kernel)) (by decide) (by decide) (.tup ?_)
    walk_at "go"
    refine lc_pure0 (as := c.puts) (enc := putD2) (g := fun p => .int p.1) [.d (chgD c), .no, .no] rfl (by have := small1000 hl; omega) (fun a ha => ?_) ?_
    · intro s H C cl fp
      refine wg_tup (js := [1, 2]) rfl (wgs_cons (js := [1]) (ks := [2]) ?_) rfl
      walk_at "gi"
      refine wgs_cons (js := [2]) (ks := []) ?_
      walk_at "gi"
      refine wgs_nil ?_
      intro s H C cl fp
      walk_at "go"
      rfl
    · have e : (c.puts.map fun p => PyData.int p.1) = (spots c).map .int := by
        unfold spots
        rw [List.map_map]
        rfl
      rw [e]
      exact q
end
end K08
namespace K08
open PySem PySem.Spec PyProof.Rows L2 Dl
local macro_rules | `(tactic| walk_at "v") => `(tactic| first
  | refine we_d (i := 0) rfl (vis3 rfl) rfl ?_ | refine we_o (i := 0) rfl (vis3 rfl) rfl ?_
  | refine we_d (i := 1) rfl (vis3 rfl) rfl ?_ | refine we_o (i := 1) rfl (vis3 rfl) rfl ?_
  | refine we_d (i := 2) rfl (vis3 rfl) rfl ?_ | refine we_o (i := 2) rfl (vis3 rfl) rfl ?_
  | refine we_d (i := 3) rfl (vis3 rfl) rfl ?_ | refine we_o (i := 3) rfl (vis3 rfl) rfl ?_
  | refine we_d (i := 4) rfl (vis3 rfl) rfl ?_ | refine we_o (i := 4) rfl (vis3 rfl) rfl ?_
  | refine we_d (i := 5) rfl (vis3 rfl) rfl ?_ | refine we_o (i := 5) rfl (vis3 rfl) rfl ?_
  | refine we_d (i := 6) rfl (vis3 rfl) rfl ?_ | refine we_o (i := 6) rfl (vis3 rfl) rfl ?_
  | refine we_d (i := 7) rfl (vis3 rfl) rfl ?_ | refine we_o (i := 7) rfl (vis3 rfl) rfl ?_
  | refine we_d (i := 8) rfl (vis3 rfl) rfl ?_ | refine we_o (i := 8) rfl (vis3 rfl) rfl ?_
  | refine we_d (i := 9) rfl (vis3 rfl) rfl ?_ | refine we_o (i := 9) rfl (vis3 rfl) rfl ?_
  | refine we_d (i := 10) rfl (vis3 rfl) rfl ?_ | refine we_o (i := 10) rfl (vis3 rfl) rfl ?_
  | refine we_d (i := 11) rfl (vis3 rfl) rfl ?_ | refine we_o (i := 11) rfl (vis3 rfl) rfl ?_
  | refine we_d (i := 12) rfl (vis3 rfl) rfl ?_ | refine we_o (i := 12) rfl (vis3 rfl) rfl ?_
  | refine we_d (i := 13) rfl (vis3 rfl) rfl ?_ | refine we_o (i := 13) rfl (vis3 rfl) rfl ?_
  | refine we_d (i := 14) rfl (vis3 rfl) rfl ?_ | refine we_o (i := 14) rfl (vis3 rfl) rfl ?_
  | refine we_d (i := 15) rfl (vis3 rfl) rfl ?_ | refine we_o (i := 15) rfl (vis3 rfl) rfl ?_
  | refine we_d (i := 16) rfl (vis3 rfl) rfl ?_ | refine we_o (i := 16) rfl (vis3 rfl) rfl ?_
  | refine we_d (i := 17) rfl (vis3 rfl) rfl ?_ | refine we_o (i := 17) rfl (vis3 rfl) rfl ?_
  | refine we_d (i := 18) rfl (vis3 rfl) rfl ?_ | refine we_o (i := 18) rfl (vis3 rfl) rfl ?_
  | refine we_d (i := 19) rfl (vis3 rfl) rfl ?_ | refine we_o (i := 19) rfl (vis3 rfl) rfl ?_
  | refine we_d (i := 20) rfl (vis3 rfl) rfl ?_ | refine we_o (i := 20) rfl (vis3 rfl) rfl ?_)
local macro_rules | `(tactic| walk_at "si") => `(tactic| first
  | refine ws_set (i := 0) (by assumption) rfl (loc2 rfl) (by decide) ?_
  | refine ws_set (i := 1) (by assumption) rfl (loc2 rfl) (by decide) ?_
  | refine ws_set (i := 2) (by assumption) rfl (loc2 rfl) (by decide) ?_
  | refine ws_set (i := 3) (by assumption) rfl (loc2 rfl) (by decide) ?_
  | refine ws_set (i := 4) (by assumption) rfl (loc2 rfl) (by decide) ?_
  | refine ws_set (i := 5) (by assumption) rfl (loc2 rfl) (by decide) ?_
  | refine ws_set (i := 6) (by assumption) rfl (loc2 rfl) (by decide) ?_
  | refine ws_set (i := 7) (by assumption) rfl (loc2 rfl) (by decide) ?_
  | refine ws_set (i := 8) (by assumption) rfl (loc2 rfl) (by decide) ?_
  | refine ws_set (i := 9) (by assumption) rfl (loc2 rfl) (by decide) ?_
  | refine ws_set (i := 10) (by assumption) rfl (loc2 rfl) (by decide) ?_
  | refine ws_set (i := 11) (by assumption) rfl (loc2 rfl) (by decide) ?_
  | refine ws_set (i := 12) (by assumption) rfl (loc2 rfl) (by decide) ?_
  | refine ws_set (i := 13) (by assumption) rfl (loc2 rfl) (by decide) ?_
  | refine ws_set (i := 14) (by assumption) rfl (loc2 rfl) (by decide) ?_
  | refine ws_set (i := 15) (by assumption) rfl (loc2 rfl) (by decide) ?_
  | refine ws_set (i := 16) (by assumption) rfl (loc2 rfl) (by decide) ?_
  | refine ws_set (i := 17) (by assumption) rfl (loc2 rfl) (by decide) ?_
  | refine ws_set (i := 18) (by assumption) rfl (loc2 rfl) (by decide) ?_
  | refine ws_set (i := 19) (by assumption) rfl (loc2 rfl) (by decide) ?_
  | refine ws_set (i := 20) (by assumption) rfl (loc2 rfl) (by decide) ?_)
local macro_rules | `(tactic| walk_at "gi") => `(tactic| first
  | refine wg_name (i := 0) (by assumption) rfl (loc2 rfl) (by decide) ?_
  | refine wg_name (i := 1) (by assumption) rfl (loc2 rfl) (by decide) ?_
  | refine wg_name (i := 2) (by assumption) rfl (loc2 rfl) (by decide) ?_
  | refine wg_name (i := 3) (by assumption) rfl (loc2 rfl) (by decide) ?_
  | refine wg_name (i := 4) (by assumption) rfl (loc2 rfl) (by decide) ?_
  | refine wg_name (i := 5) (by assumption) rfl (loc2 rfl) (by decide) ?_
  | refine wg_name (i := 6) (by assumption) rfl (loc2 rfl) (by decide) ?_
  | refine wg_name (i := 7) (by assumption) rfl (loc2 rfl) (by decide) ?_
  | refine wg_name (i := 8) (by assumption) rfl (loc2 rfl) (by decide) ?_
  | refine wg_name (i := 9) (by assumption) rfl (loc2 rfl) (by decide) ?_
  | refine wg_name (i := 10) (by assumption) rfl (loc2 rfl) (by decide) ?_
  | refine wg_name (i := 11) (by assumption) rfl (loc2 rfl) (by decide) ?_
  | refine wg_name (i := 12) (by assumption) rfl (loc2 rfl) (by decide) ?_
  | refine wg_name (i := 13) (by assumption) rfl (loc2 rfl) (by decide) ?_
  | refine wg_name (i := 14) (by assumption) rfl (loc2 rfl) (by decide) ?_
  | refine wg_name (i := 15) (by assumption) rfl (loc2 rfl) (by decide) ?_
  | refine wg_name (i := 16) (by assumption) rfl (loc2 rfl) (by decide) ?_
  | refine wg_name (i := 17) (by assumption) rfl (loc2 rfl) (by decide) ?_
  | refine wg_name (i := 18) (by assumption) rfl (loc2 rfl) (by decide) ?_
  | refine wg_name (i := 19) (by assumption) rfl (loc2 rfl) (by decide) ?_
  | refine wg_name (i := 20) (by assumption) rfl (loc2 rfl) (by decide) ?_)
local macro_rules | `(tactic| walk_at "side") => `(tactic| first | exact rfl | exact Nat.le_trans (m := 1000) (Nat.le_of_ble_eq_true rfl) sz1000 | omega | decide | assumption)
local macro_rules | `(tactic| walk_at "we") => `(tactic| first
  | (refine isName ?_; walk_at "v")
  | refine we_int ?_ | refine we_bl ?_ | refine we_non ?_ | refine we_str ?_
  | refine we_ix ?_
  | refine we_addG ?_ | refine we_sub ?_ | refine we_mulG ?_ | refine we_div ?_ | refine we_mod ?_ | refine we_pow ?_ | refine we_neg ?_
  | refine we_gt ?_ | refine we_lt ?_ | refine we_ge ?_ | refine we_le ?_
  | refine we_tup ?_ | refine we_lst ?_ | refine we_dict0 ?_
  | refine we_len (by assumption) rfl ?_ | refine we_slG ?_ | refine we_eqG (by assumption) ?_ | refine we_neG (by assumption) ?_ | refine we_not ?_ | refine we_one ?_ | refine we_and ?_ | refine we_or ?_
  | refine we_call2 (by assumption) (by assumption) (by assumption) (by decide) rfl ?_)
local macro_rules | `(tactic| walk_at "wt") => `(tactic| first
  | refine wt_gt ?_ | refine wt_lt ?_ | refine wt_ge ?_ | refine wt_le ?_ | refine wt_not ?_
  | refine wt_eqG (by assumption) ?_ | refine wt_neG (by assumption) ?_ | refine wt_bool ?_ | refine wt_val ?_)
local macro_rules | `(tactic| walk_at "ws") => `(tactic| first
  | refine ws_ret ?_ | (refine isSet ?_; walk_at "si") | refine ws_if ?_
  | refine ws_append (pe_bm PySem.F.plainAttrs_list PySem.F.slot_list_append PySem.F.type_list_append mt_append pe_m (pa_cons pe_m pa_nil)) ?_
  | refine ws_continue ?_ | refine ws_break ?_ | refine ws_pass ?_)
local macro_rules | `(tactic| walk_at "l") => `(tactic| first
  | refine And.intro (Exists.intro _ rfl) ?_
  | refine And.intro trivial ?_
  | refine Exists.intro _ (And.intro rfl ?_)
  | refine Exists.intro _ (Exists.intro _ (And.intro rfl (And.intro rfl ?_)))
  | refine And.intro (And.intro (by walk_at "side") (by walk_at "side") : CDiv _ _) ?_
  | refine And.intro (.inl (And.intro (by walk_at "side") (by walk_at "side")) : CMul _ _) ?_
  | refine And.intro (.inr (And.intro (by walk_at "side") (by walk_at "side")) : CMul _ _) ?_
  | refine And.intro (And.intro (List.cons_ne_nil _ _) (And.intro (by walk_at "side") (And.intro (by walk_at "side") (by walk_at "side")))) ?_
  | refine And.intro (by walk_at "side") ?_)
local macro_rules | `(tactic| walk_at "step") => `(tactic| first
  | (refine isWE ?_; walk_at "we")
  | (refine isWT ?_; walk_at "wt")
  | (refine isWSs ?_; first | refine wss_nil ?_ | refine wss_one ?_ | refine wss_cons ?_)
  | (refine isWS ?_; walk_at "ws")
  | (refine isWDs ?_; first | refine wds_nil ?_ | refine wds_cons ?_)
  | (refine isWW ?_; first | refine ww_and1 ?_ | refine ww_or1 ?_ | refine ww_and ?_ | refine ww_or ?_)
  | refine allB_i fun _ _ _ _ _ => ?_
  | refine asI_i (allB_i fun _ _ _ _ _ => ?_)
  | (refine isWG ?_; first | walk_at "gi" | refine wg_tup rfl ?_ rfl)
  | (refine isWGs ?_; first | refine wgs_nil ?_ | refine wgs_consN ?_)
  | (refine isWO ?_; first | refine wo_none ?_ | refine wo_some ?_)
  | (refine isWA ?_; first | refine wa_nil ?_ | refine wa_cons ?_)
  | walk_at "l")
local macro_rules | `(tactic| walk_at "go") => `(tactic| repeat (walk_at "step"))
/-! images and their pages -/
def imgD (tk ns dt : List D) : D := .tuple [.tuple tk, .tuple ns, .tuple dt]
def nodP (ns : List D) : Int := ((ns.length : Int) + 3) / 4
def manyF (ns dt : List D) : Int := 1 + nodP ns + (dt.length : Int)
def slotsF (tk ns dt : List D) (at_ : Int) : D := if at_ = 0 then .tuple tk else if at_ ≤ nodP ns then .tuple (cutD ns (some (4 * at_ - 4)) (some (4 * at_))) else dt.getD (at_ - 1 - nodP ns).toNat .none
abbrev NMany : List Str := ["_law_image_here"]
theorem scMany : FnScope NMany ["_law_image_here"] (defScope (topS 9)) := ⟨rfl, rfl, rfl, by decide +kernel, rfl, by decide +kernel, by decide +kernel⟩
abbrev NSlots : List Str := ["_law_image_here", "_law_at"]
theorem scSlots : FnScope NSlots ["_law_image_here", "_law_at"] (defScope (topS 10)) := ⟨rfl, rfl, rfl, by decide +kernel, rfl, by decide +kernel, by decide +kernel⟩
section
variable {Pg : Program} {w : World} {K : PySem.W.Frag} {mg : Str → Option Value} {base : Heap}
def sMany : SpD := fun R Q => ∃ tk ns dt, R = [.d (imgD tk ns dt)] ∧ Q (.d (.int (manyF ns dt))) R
theorem ok_many {f : Addr} {fd : FuncData} (F : Fun K "_law_many" "_law_many" (topS 9) f fd) (hm : mg "_law_many" = some (.ref f)) (hb : Binds K fd ["_law_image_here"] []) (ml : mg "len" = none) : Can Pg w K mg base 1 "_law_many" sMany := by
  refine can_def F scMany hm hb (fun A Z Z' k ⟨a, b, c, h1, h2⟩ => ⟨a, b, c, h1, k _ _ h2⟩) (by decide) (fun R Q h => ?_) (fun cdv A outer s H E hgd hr R Q h => ?_)
  · obtain ⟨a, b, c, rfl, _⟩ := h
    rfl
  · obtain ⟨tk, ns, dt, rfl, q⟩ := h
    show WSs _ [] _ [.d (imgD tk ns dt)] _
    have nd : NMany.Nodup := scMany.nd
    walk_at "go"
    exact q
def sSlots : SpD := fun R Q => ∃ tk ns dt at_, R = [.d (imgD tk ns dt), .d (.int at_)] ∧ (0 ≤ at_ ∧ at_ < manyF ns dt) ∧ Q (.d (slotsF tk ns dt at_)) R
theorem ok_slots {f : Addr} {fd : FuncData} (F : Fun K "_law_slots" "_law_slots" (topS 10) f fd) (hm : mg "_law_slots" = some (.ref f)) (hb : Binds K fd ["_law_image_here", "_law_at"] []) (ml : mg "len" = none) : Can Pg w K mg base 1 "_law_slots" sSlots := by
  refine can_def F scSlots hm hb (fun A Z Z' k ⟨a, b, c, d, h1, h2, h3⟩ => ⟨a, b, c, d, h1, h2, k _ _ h3⟩) (by decide) (fun R Q h => ?_) (fun cdv A outer s H E hgd hr R Q h => ?_)
  · obtain ⟨a, b, c, d, rfl, _⟩ := h
    rfl
  · obtain ⟨tk, ns, dt, at_, rfl, ⟨h0, h1⟩, q⟩ := h
    show WSs _ [] _ [.d (imgD tk ns dt), .d (.int at_)] _
    have nd : NSlots.Nodup := scSlots.nd
    walk_at "go"
    refine ⟨fun h => ?_, fun h => ?_⟩
    · have e : at_ = 0 := of_decide_eq_true h
      walk_at "go"
      have e2 : slotsF tk ns dt at_ = .tuple tk := if_pos e
      rw [e2] at q
      exact q
    · have e : ¬ at_ = 0 := of_decide_eq_false h
      walk_at "go"
      refine ⟨fun h2 => ?_, fun h2 => ?_⟩
      · have e1 : at_ ≤ nodP ns := of_decide_eq_true h2
        have e2 : slotsF tk ns dt at_ = .tuple (cutD ns (some (4 * at_ - 4)) (some (4 * at_))) := (if_neg e).trans (if_pos e1)
        rw [e2] at q
        walk_at "go"
        exact q
      · have e1 : ¬ at_ ≤ nodP ns := of_decide_eq_false h2
        have e2 : slotsF tk ns dt at_ = dt.getD (at_ - 1 - nodP ns).toNat .none := (if_neg e).trans (if_neg e1)
        have hlt : (at_ - 1 - nodP ns).toNat < dt.length := by unfold manyF at h1; omega
        walk_at "go"
        refine ⟨dt, dt[(at_ - 1 - nodP ns).toNat], rfl, ?_, ?_⟩
        · exact atI_of (by have z := e1; unfold nodP at z; omega) (List.getElem?_eq_getElem hlt)
        · rw [e2, List.getD_eq_getElem?_getD, List.getElem?_eq_getElem hlt] at q
          exact q
end
end K08
namespace K08
open PySem PySem.Spec PyProof.Rows L2 Dl
local macro_rules | `(tactic| walk_at "v") => `(tactic| first
  | refine we_d (i := 0) rfl (vis3 rfl) rfl ?_ | refine we_o (i := 0) rfl (vis3 rfl) rfl ?_
  | refine we_d (i := 1) rfl (vis3 rfl) rfl ?_ | refine we_o (i := 1) rfl (vis3 rfl) rfl ?_
  | refine we_d (i := 2) rfl (vis3 rfl) rfl ?_ | refine we_o (i := 2) rfl (vis3 rfl) rfl ?_
  | refine we_d (i := 3) rfl (vis3 rfl) rfl ?_ | refine we_o (i := 3) rfl (vis3 rfl) rfl ?_
  | refine we_d (i := 4) rfl (vis3 rfl) rfl ?_ | refine we_o (i := 4) rfl (vis3 rfl) rfl ?_
  | refine we_d (i := 5) rfl (vis3 rfl) rfl ?_ | refine we_o (i := 5) rfl (vis3 rfl) rfl ?_
  | refine we_d (i := 6) rfl (vis3 rfl) rfl ?_ | refine we_o (i := 6) rfl (vis3 rfl) rfl ?_
  | refine we_d (i := 7) rfl (vis3 rfl) rfl ?_ | refine we_o (i := 7) rfl (vis3 rfl) rfl ?_
  | refine we_d (i := 8) rfl (vis3 rfl) rfl ?_ | refine we_o (i := 8) rfl (vis3 rfl) rfl ?_
  | refine we_d (i := 9) rfl (vis3 rfl) rfl ?_ | refine we_o (i := 9) rfl (vis3 rfl) rfl ?_
  | refine we_d (i := 10) rfl (vis3 rfl) rfl ?_ | refine we_o (i := 10) rfl (vis3 rfl) rfl ?_
  | refine we_d (i := 11) rfl (vis3 rfl) rfl ?_ | refine we_o (i := 11) rfl (vis3 rfl) rfl ?_
  | refine we_d (i := 12) rfl (vis3 rfl) rfl ?_ | refine we_o (i := 12) rfl (vis3 rfl) rfl ?_
  | refine we_d (i := 13) rfl (vis3 rfl) rfl ?_ | refine we_o (i := 13) rfl (vis3 rfl) rfl ?_
  | refine we_d (i := 14) rfl (vis3 rfl) rfl ?_ | refine we_o (i := 14) rfl (vis3 rfl) rfl ?_
  | refine we_d (i := 15) rfl (vis3 rfl) rfl ?_ | refine we_o (i := 15) rfl (vis3 rfl) rfl ?_
  | refine we_d (i := 16) rfl (vis3 rfl) rfl ?_ | refine we_o (i := 16) rfl (vis3 rfl) rfl ?_
  | refine we_d (i := 17) rfl (vis3 rfl) rfl ?_ | refine we_o (i := 17) rfl (vis3 rfl) rfl ?_
  | refine we_d (i := 18) rfl (vis3 rfl) rfl ?_ | refine we_o (i := 18) rfl (vis3 rfl) rfl ?_
  | refine we_d (i := 19) rfl (vis3 rfl) rfl ?_ | refine we_o (i := 19) rfl (vis3 rfl) rfl ?_
  | refine we_d (i := 20) rfl (vis3 rfl) rfl ?_ | refine we_o (i := 20) rfl (vis3 rfl) rfl ?_)
local macro_rules | `(tactic| walk_at "si") => `(tactic| first
  | refine ws_set (i := 0) (by assumption) rfl (loc2 rfl) (by decide) ?_
  | refine ws_set (i := 1) (by assumption) rfl (loc2 rfl) (by decide) ?_
  | refine ws_set (i := 2) (by assumption) rfl (loc2 rfl) (by decide) ?_
  | refine ws_set (i := 3) (by assumption) rfl (loc2 rfl) (by decide) ?_
  | refine ws_set (i := 4) (by assumption) rfl (loc2 rfl) (by decide) ?_
  | refine ws_set (i := 5) (by assumption) rfl (loc2 rfl) (by decide) ?_
  | refine ws_set (i := 6) (by assumption) rfl (loc2 rfl) (by decide) ?_
  | refine ws_set (i := 7) (by assumption) rfl (loc2 rfl) (by decide) ?_
  | refine ws_set (i := 8) (by assumption) rfl (loc2 rfl) (by decide) ?_
  | refine ws_set (i := 9) (by assumption) rfl (loc2 rfl) (by decide) ?_
  | refine ws_set (i := 10) (by assumption) rfl (loc2 rfl) (by decide) ?_
  | refine ws_set (i := 11) (by assumption) rfl (loc2 rfl) (by decide) ?_
  | refine ws_set (i := 12) (by assumption) rfl (loc2 rfl) (by decide) ?_
  | refine ws_set (i := 13) (by assumption) rfl (loc2 rfl) (by decide) ?_
  | refine ws_set (i := 14) (by assumption) rfl (loc2 rfl) (by decide) ?_
  | refine ws_set (i := 15) (by assumption) rfl (loc2 rfl) (by decide) ?_
  | refine ws_set (i := 16) (by assumption) rfl (loc2 rfl) (by decide) ?_
  | refine ws_set (i := 17) (by assumption) rfl (loc2 rfl) (by decide) ?_
  | refine ws_set (i := 18) (by assumption) rfl (loc2 rfl) (by decide) ?_
  | refine ws_set (i := 19) (by assumption) rfl (loc2 rfl) (by decide) ?_
  | refine ws_set (i := 20) (by assumption) rfl (loc2 rfl) (by decide) ?_)
local macro_rules | `(tactic| walk_at "gi") => `(tactic| first
  | refine wg_name (i := 0) (by assumption) rfl (loc2 rfl) (by decide) ?_
  | refine wg_name (i := 1) (by assumption) rfl (loc2 rfl) (by decide) ?_
  | refine wg_name (i := 2) (by assumption) rfl (loc2 rfl) (by decide) ?_
  | refine wg_name (i := 3) (by assumption) rfl (loc2 rfl) (by decide) ?_
  | refine wg_name (i := 4) (by assumption) rfl (loc2 rfl) (by decide) ?_
  | refine wg_name (i := 5) (by assumption) rfl (loc2 rfl) (by decide) ?_
  | refine wg_name (i := 6) (by assumption) rfl (loc2 rfl) (by decide) ?_
  | refine wg_name (i := 7) (by assumption) rfl (loc2 rfl) (by decide) ?_
  | refine wg_name (i := 8) (by assumption) rfl (loc2 rfl) (by decide) ?_
  | refine wg_name (i := 9) (by assumption) rfl (loc2 rfl) (by decide) ?_
  | refine wg_name (i := 10) (by assumption) rfl (loc2 rfl) (by decide) ?_
  | refine wg_name (i := 11) (by assumption) rfl (loc2 rfl) (by decide) ?_
  | refine wg_name (i := 12) (by assumption) rfl (loc2 rfl) (by decide) ?_
  | refine wg_name (i := 13) (by assumption) rfl (loc2 rfl) (by decide) ?_
  | refine wg_name (i := 14) (by assumption) rfl (loc2 rfl) (by decide) ?_
  | refine wg_name (i := 15) (by assumption) rfl (loc2 rfl) (by decide) ?_
  | refine wg_name (i := 16) (by assumption) rfl (loc2 rfl) (by decide) ?_
  | refine wg_name (i := 17) (by assumption) rfl (loc2 rfl) (by decide) ?_
  | refine wg_name (i := 18) (by assumption) rfl (loc2 rfl) (by decide) ?_
  | refine wg_name (i := 19) (by assumption) rfl (loc2 rfl) (by decide) ?_
  | refine wg_name (i := 20) (by assumption) rfl (loc2 rfl) (by decide) ?_)
local macro_rules | `(tactic| walk_at "side") => `(tactic| first | exact rfl | exact Nat.le_trans (m := 1000) (Nat.le_of_ble_eq_true rfl) sz1000 | omega | decide | assumption)
local macro_rules | `(tactic| walk_at "we") => `(tactic| first
  | (refine isName ?_; walk_at "v")
  | refine we_int ?_ | refine we_bl ?_ | refine we_non ?_ | refine we_str ?_
  | refine we_ix ?_
  | refine we_addG ?_ | refine we_sub ?_ | refine we_mulG ?_ | refine we_div ?_ | refine we_mod ?_ | refine we_pow ?_ | refine we_neg ?_
  | refine we_gt ?_ | refine we_lt ?_ | refine we_ge ?_ | refine we_le ?_
  | refine we_tup ?_ | refine we_lst ?_ | refine we_dict0 ?_
  | refine we_len (by assumption) rfl ?_ | refine we_slG ?_ | refine we_eqG (by assumption) ?_ | refine we_neG (by assumption) ?_ | refine we_not ?_ | refine we_one ?_ | refine we_and ?_ | refine we_or ?_
  | refine we_call2 (by assumption) (by assumption) (by assumption) (by decide) rfl ?_)
local macro_rules | `(tactic| walk_at "wt") => `(tactic| first
  | refine wt_gt ?_ | refine wt_lt ?_ | refine wt_ge ?_ | refine wt_le ?_ | refine wt_not ?_
  | refine wt_eqG (by assumption) ?_ | refine wt_neG (by assumption) ?_ | refine wt_bool ?_ | refine wt_val ?_)
local macro_rules | `(tactic| walk_at "ws") => `(tactic| first
  | refine ws_ret ?_ | (refine isSet ?_; walk_at "si") | refine ws_if ?_
  | refine ws_append (pe_bm PySem.F.plainAttrs_list PySem.F.slot_list_append PySem.F.type_list_append mt_append pe_m (pa_cons pe_m pa_nil)) ?_
  | refine ws_continue ?_ | refine ws_break ?_ | refine ws_pass ?_)
local macro_rules | `(tactic| walk_at "l") => `(tactic| first
  | refine And.intro (Exists.intro _ rfl) ?_
  | refine And.intro trivial ?_
  | refine Exists.intro _ (And.intro rfl ?_)
  | refine Exists.intro _ (Exists.intro _ (And.intro rfl (And.intro rfl ?_)))
  | refine And.intro (And.intro (by walk_at "side") (by walk_at "side") : CDiv _ _) ?_
  | refine And.intro (.inl (And.intro (by walk_at "side") (by walk_at "side")) : CMul _ _) ?_
  | refine And.intro (.inr (And.intro (by walk_at "side") (by walk_at "side")) : CMul _ _) ?_
  | refine And.intro (And.intro (List.cons_ne_nil _ _) (And.intro (by walk_at "side") (And.intro (by walk_at "side") (by walk_at "side")))) ?_
  | refine And.intro (by walk_at "side") ?_)
local macro_rules | `(tactic| walk_at "step") => `(tactic| first
  | (refine isWE ?_; walk_at "we")
  | (refine isWT ?_; walk_at "wt")
  | (refine isWSs ?_; first | refine wss_nil ?_ | refine wss_one ?_ | refine wss_cons ?_)
  | (refine isWS ?_; walk_at "ws")
  | (refine isWDs ?_; first | refine wds_nil ?_ | refine wds_cons ?_)
  | (refine isWW ?_; first | refine ww_and1 ?_ | refine ww_or1 ?_ | refine ww_and ?_ | refine ww_or ?_)
  | refine allB_i fun _ _ _ _ _ => ?_
  | refine asI_i (allB_i fun _ _ _ _ _ => ?_)
  | (refine isWG ?_; first | walk_at "gi" | refine wg_tup rfl ?_ rfl)
  | (refine isWGs ?_; first | refine wgs_nil ?_ | refine wgs_consN ?_)
  | (refine isWO ?_; first | refine wo_none ?_ | refine wo_some ?_)
  | (refine isWA ?_; first | refine wa_nil ?_ | refine wa_cons ?_)
  | walk_at "l")
local macro_rules | `(tactic| walk_at "go") => `(tactic| repeat (walk_at "step"))
abbrev NImage : List Str := ["_law_pool_here", "_law_pages", "_law_own"]
theorem scImage : FnScope NImage ["_law_pool_here"] (defScope (topS 8)) := ⟨rfl, rfl, rfl, by decide +kernel, rfl, by decide +kernel, by decide +kernel⟩
def tkE (np : Nat) : List D := List.replicate np (.bool false)
def nsE (nn : Nat) : List D := .tuple [.str "folder", .int 1, .tuple []] :: List.replicate nn .none
def dtE (np : Nat) : List D := List.replicate np (.tuple (List.replicate 5 .none))
section
variable {Pg : Program} {w : World} {K : PySem.W.Frag} {mg : Str → Option Value} {base : Heap}
def sImage : SpD := fun R Q => ∃ a b : Int, R = [pool a b] ∧ PoolOk b ∧
  ∀ (np nn : Nat) (a' b' : Int), 2 ≤ np ∧ np ≤ 4 → 1 ≤ nn ∧ nn ≤ 7 → PoolOk b' → Q (.d (imgD (tkE np) (nsE nn) (dtE np))) [pool a' b']
theorem ok_image {f : Addr} {fd : FuncData} (F : Fun K "_law_image" "_law_image" (topS 8) f fd) (hm : mg "_law_image" = some (.ref f)) (hb : Binds K fd ["_law_pool_here"] []) (cDraw : Can Pg w K mg base 1 "_law_draw" sDraw) : Can Pg w K mg base 2 "_law_image" sImage := by
  refine can_def F scImage hm hb (fun A Z Z' k ⟨a, b, h1, h2, h3⟩ => ⟨a, b, h1, h2, fun np nn a' b' g1 g2 g3 => k _ _ (h3 np nn a' b' g1 g2 g3)⟩) (by decide) (fun R Q h => ?_) (fun cdv A outer s H E hgd hr R Q h => ?_)
  · obtain ⟨a, b, rfl, _⟩ := h
    rfl
  · obtain ⟨a, b, rfl, hp, q⟩ := h
    show WSs _ [0] _ [pool a b, .no, .no] _
    have nd : NImage.Nodup := scImage.nd
    refine wss_cons ?_
    walk_at "go"
    refine ⟨_, _, _, rfl, ⟨by decide, by decide⟩, hp, fun r1 a1 b1 hr1 hp1 => ⟨rfl, ?_⟩⟩
    walk_at "go"
    refine ⟨_, _, _, rfl, ⟨by decide, by decide⟩, hp1, fun r2 a2 b2 hr2 hp2 => ⟨rfl, ?_⟩⟩
    walk_at "go"
    rw [rep_one]
    refine And.intro ?_ ?_
    · rw [List.length_replicate]
      exact szle (show 1 + (1 + r2).toNat ≤ 1000 by omega)
    walk_at "go"
    have e1 : (List.replicate (2 + r1).toNat [PyData.bool false]).flatten = tkE (2 + r1).toNat := rep_one _ _
    have e2 : (List.replicate (2 + r1).toNat [PyData.tuple (List.replicate (Int.toNat 5) [PyData.none]).flatten]).flatten = dtE (2 + r1).toNat := by
      rw [rep_one, rep_one]
      rfl
    rw [e1, e2]
    exact q (2 + r1).toNat (1 + r2).toNat a2 b2 ⟨by omega, by omega⟩ ⟨by omega, by omega⟩ hp2
end
end K08
namespace K08
open PySem PySem.Spec PyProof.Rows L2 Dl
local macro_rules | `(tactic| walk_at "v") => `(tactic| first
  | refine we_d (i := 0) rfl (vis3 rfl) rfl ?_ | refine we_o (i := 0) rfl (vis3 rfl) rfl ?_
  | refine we_d (i := 1) rfl (vis3 rfl) rfl ?_ | refine we_o (i := 1) rfl (vis3 rfl) rfl ?_
  | refine we_d (i := 2) rfl (vis3 rfl) rfl ?_ | refine we_o (i := 2) rfl (vis3 rfl) rfl ?_
  | refine we_d (i := 3) rfl (vis3 rfl) rfl ?_ | refine we_o (i := 3) rfl (vis3 rfl) rfl ?_
  | refine we_d (i := 4) rfl (vis3 rfl) rfl ?_ | refine we_o (i := 4) rfl (vis3 rfl) rfl ?_
  | refine we_d (i := 5) rfl (vis3 rfl) rfl ?_ | refine we_o (i := 5) rfl (vis3 rfl) rfl ?_
  | refine we_d (i := 6) rfl (vis3 rfl) rfl ?_ | refine we_o (i := 6) rfl (vis3 rfl) rfl ?_
  | refine we_d (i := 7) rfl (vis3 rfl) rfl ?_ | refine we_o (i := 7) rfl (vis3 rfl) rfl ?_
  | refine we_d (i := 8) rfl (vis3 rfl) rfl ?_ | refine we_o (i := 8) rfl (vis3 rfl) rfl ?_
  | refine we_d (i := 9) rfl (vis3 rfl) rfl ?_ | refine we_o (i := 9) rfl (vis3 rfl) rfl ?_
  | refine we_d (i := 10) rfl (vis3 rfl) rfl ?_ | refine we_o (i := 10) rfl (vis3 rfl) rfl ?_
  | refine we_d (i := 11) rfl (vis3 rfl) rfl ?_ | refine we_o (i := 11) rfl (vis3 rfl) rfl ?_
  | refine we_d (i := 12) rfl (vis3 rfl) rfl ?_ | refine we_o (i := 12) rfl (vis3 rfl) rfl ?_
  | refine we_d (i := 13) rfl (vis3 rfl) rfl ?_ | refine we_o (i := 13) rfl (vis3 rfl) rfl ?_
  | refine we_d (i := 14) rfl (vis3 rfl) rfl ?_ | refine we_o (i := 14) rfl (vis3 rfl) rfl ?_
  | refine we_d (i := 15) rfl (vis3 rfl) rfl ?_ | refine we_o (i := 15) rfl (vis3 rfl) rfl ?_
  | refine we_d (i := 16) rfl (vis3 rfl) rfl ?_ | refine we_o (i := 16) rfl (vis3 rfl) rfl ?_
  | refine we_d (i := 17) rfl (vis3 rfl) rfl ?_ | refine we_o (i := 17) rfl (vis3 rfl) rfl ?_
  | refine we_d (i := 18) rfl (vis3 rfl) rfl ?_ | refine we_o (i := 18) rfl (vis3 rfl) rfl ?_
  | refine we_d (i := 19) rfl (vis3 rfl) rfl ?_ | refine we_o (i := 19) rfl (vis3 rfl) rfl ?_
  | refine we_d (i := 20) rfl (vis3 rfl) rfl ?_ | refine we_o (i := 20) rfl (vis3 rfl) rfl ?_)
local macro_rules | `(tactic| walk_at "si") => `(tactic| first
  | refine ws_set (i := 0) (by assumption) rfl (loc2 rfl) (by decide) ?_
  | refine ws_set (i := 1) (by assumption) rfl (loc2 rfl) (by decide) ?_
  | refine ws_set (i := 2) (by assumption) rfl (loc2 rfl) (by decide) ?_
  | refine ws_set (i := 3) (by assumption) rfl (loc2 rfl) (by decide) ?_
  | refine ws_set (i := 4) (by assumption) rfl (loc2 rfl) (by decide) ?_
  | refine ws_set (i := 5) (by assumption) rfl (loc2 rfl) (by decide) ?_
  | refine ws_set (i := 6) (by assumption) rfl (loc2 rfl) (by decide) ?_
  | refine ws_set (i := 7) (by assumption) rfl (loc2 rfl) (by decide) ?_
  | refine ws_set (i := 8) (by assumption) rfl (loc2 rfl) (by decide) ?_
  | refine ws_set (i := 9) (by assumption) rfl (loc2 rfl) (by decide) ?_
  | refine ws_set (i := 10) (by assumption) rfl (loc2 rfl) (by decide) ?_
  | refine ws_set (i := 11) (by assumption) rfl (loc2 rfl) (by decide) ?_
  | refine ws_set (i := 12) (by assumption) rfl (loc2 rfl) (by decide) ?_
  | refine ws_set (i := 13) (by assumption) rfl (loc2 rfl) (by decide) ?_
  | refine ws_set (i := 14) (by assumption) rfl (loc2 rfl) (by decide) ?_
  | refine ws_set (i := 15) (by assumption) rfl (loc2 rfl) (by decide) ?_
  | refine ws_set (i := 16) (by assumption) rfl (loc2 rfl) (by decide) ?_
  | refine ws_set (i := 17) (by assumption) rfl (loc2 rfl) (by decide) ?_
  | refine ws_set (i := 18) (by assumption) rfl (loc2 rfl) (by decide) ?_
  | refine ws_set (i := 19) (by assumption) rfl (loc2 rfl) (by decide) ?_
  | refine ws_set (i := 20) (by assumption) rfl (loc2 rfl) (by decide) ?_)
local macro_rules | `(tactic| walk_at "gi") => `(tactic| first
  | refine wg_name (i := 0) (by assumption) rfl (loc2 rfl) (by decide) ?_
  | refine wg_name (i := 1) (by assumption) rfl (loc2 rfl) (by decide) ?_
  | refine wg_name (i := 2) (by assumption) rfl (loc2 rfl) (by decide) ?_
  | refine wg_name (i := 3) (by assumption) rfl (loc2 rfl) (by decide) ?_
  | refine wg_name (i := 4) (by assumption) rfl (loc2 rfl) (by decide) ?_
  | refine wg_name (i := 5) (by assumption) rfl (loc2 rfl) (by decide) ?_
  | refine wg_name (i := 6) (by assumption) rfl (loc2 rfl) (by decide) ?_
  | refine wg_name (i := 7) (by assumption) rfl (loc2 rfl) (by decide) ?_
  | refine wg_name (i := 8) (by assumption) rfl (loc2 rfl) (by decide) ?_
  | refine wg_name (i := 9) (by assumption) rfl (loc2 rfl) (by decide) ?_
  | refine wg_name (i := 10) (by assumption) rfl (loc2 rfl) (by decide) ?_
  | refine wg_name (i := 11) (by assumption) rfl (loc2 rfl) (by decide) ?_
  | refine wg_name (i := 12) (by assumption) rfl (loc2 rfl) (by decide) ?_
  | refine wg_name (i := 13) (by assumption) rfl (loc2 rfl) (by decide) ?_
  | refine wg_name (i := 14) (by assumption) rfl (loc2 rfl) (by decide) ?_
  | refine wg_name (i := 15) (by assumption) rfl (loc2 rfl) (by decide) ?_
  | refine wg_name (i := 16) (by assumption) rfl (loc2 rfl) (by decide) ?_
  | refine wg_name (i := 17) (by assumption) rfl (loc2 rfl) (by decide) ?_
  | refine wg_name (i := 18) (by assumption) rfl (loc2 rfl) (by decide) ?_
  | refine wg_name (i := 19) (by assumption) rfl (loc2 rfl) (by decide) ?_
  | refine wg_name (i := 20) (by assumption) rfl (loc2 rfl) (by decide) ?_)
local macro_rules | `(tactic| walk_at "side") => `(tactic| first | exact rfl | exact Nat.le_trans (m := 1000) (Nat.le_of_ble_eq_true rfl) sz1000 | omega | decide | assumption)
local macro_rules | `(tactic| walk_at "we") => `(tactic| first
  | (refine isName ?_; walk_at "v")
  | refine we_int ?_ | refine we_bl ?_ | refine we_non ?_ | refine we_str ?_
  | refine we_ix ?_
  | refine we_addG ?_ | refine we_sub ?_ | refine we_mulG ?_ | refine we_div ?_ | refine we_mod ?_ | refine we_pow ?_ | refine we_neg ?_
  | refine we_gt ?_ | refine we_lt ?_ | refine we_ge ?_ | refine we_le ?_
  | refine we_tup ?_ | refine we_lst ?_ | refine we_dict0 ?_
  | refine we_len (by assumption) rfl ?_ | refine we_slG ?_ | refine we_eqG (by assumption) ?_ | refine we_neG (by assumption) ?_ | refine we_not ?_ | refine we_one ?_ | refine we_and ?_ | refine we_or ?_
  | refine we_call2 (by assumption) (by assumption) (by assumption) (by decide) rfl ?_)
local macro_rules | `(tactic| walk_at "wt") => `(tactic| first
  | refine wt_gt ?_ | refine wt_lt ?_ | refine wt_ge ?_ | refine wt_le ?_ | refine wt_not ?_
  | refine wt_eqG (by assumption) ?_ | refine wt_neG (by assumption) ?_ | refine wt_bool ?_ | refine wt_val ?_)
local macro_rules | `(tactic| walk_at "ws") => `(tactic| first
  | refine ws_ret ?_ | (refine isSet ?_; walk_at "si") | refine ws_if ?_
  | refine ws_append (pe_bm PySem.F.plainAttrs_list PySem.F.slot_list_append PySem.F.type_list_append mt_append pe_m (pa_cons pe_m pa_nil)) ?_
  | refine ws_continue ?_ | refine ws_break ?_ | refine ws_pass ?_)
local macro_rules | `(tactic| walk_at "l") => `(tactic| first
  | refine And.intro (Exists.intro _ rfl) ?_
  | refine And.intro trivial ?_
  | refine Exists.intro _ (And.intro rfl ?_)
  | refine Exists.intro _ (Exists.intro _ (And.intro rfl (And.intro rfl ?_)))
  | refine And.intro (And.intro (by walk_at "side") (by walk_at "side") : CDiv _ _) ?_
  | refine And.intro (.inl (And.intro (by walk_at "side") (by walk_at "side")) : CMul _ _) ?_
  | refine And.intro (.inr (And.intro (by walk_at "side") (by walk_at "side")) : CMul _ _) ?_
  | refine And.intro (And.intro (List.cons_ne_nil _ _) (And.intro (by walk_at "side") (And.intro (by walk_at "side") (by walk_at "side")))) ?_
  | refine And.intro (by walk_at "side") ?_)
local macro_rules | `(tactic| walk_at "step") => `(tactic| first
  | (refine isWE ?_; walk_at "we")
  | (refine isWT ?_; walk_at "wt")
  | (refine isWSs ?_; first | refine wss_nil ?_ | refine wss_one ?_ | refine wss_cons ?_)
  | (refine isWS ?_; walk_at "ws")
  | (refine isWDs ?_; first | refine wds_nil ?_ | refine wds_cons ?_)
  | (refine isWW ?_; first | refine ww_and1 ?_ | refine ww_or1 ?_ | refine ww_and ?_ | refine ww_or ?_)
  | refine allB_i fun _ _ _ _ _ => ?_
  | refine asI_i (allB_i fun _ _ _ _ _ => ?_)
  | (refine isWG ?_; first | walk_at "gi" | refine wg_tup rfl ?_ rfl)
  | (refine isWGs ?_; first | refine wgs_nil ?_ | refine wgs_consN ?_)
  | (refine isWO ?_; first | refine wo_none ?_ | refine wo_some ?_)
  | (refine isWA ?_; first | refine wa_nil ?_ | refine wa_cons ?_)
  | walk_at "l")
local macro_rules | `(tactic| walk_at "go") => `(tactic| repeat (walk_at "step"))
abbrev NShare : List Str := ["_law_one", "_law_other", "_law_both", "_law_spot"]
theorem scShare : FnScope NShare ["_law_one", "_law_other"] (defScope (topS 13)) := ⟨rfl, rfl, rfl, by decide +kernel, rfl, by decide +kernel, by decide +kernel⟩
abbrev NWants : List Str := ["_law_some", "_law_change", "_law_numbers", "_law_found", "_law_one", "_law_lean"]
theorem scWants : FnScope NWants ["_law_some", "_law_change"] (defScope (topS 14)) := ⟨rfl, rfl, rfl, by decide +kernel, rfl, by decide +kernel, by decide +kernel⟩
def shareF (c d : Chg) : Bool := decide (c.at_ = d.at_) && !decide ((spots c).filter (fun s => decide (s ∈ spots d)) = [])
def nums (cs : List Chg) : List Int := cs.map (·.n)
def wantsF (cs : List Chg) (c : Chg) : List Int := c.leans.filter (fun l => decide (l ∈ nums cs)) ++ nums (cs.filter fun o => decide (o.n < c.n) && shareF o c)
def Small (cs : List Chg) : Prop := cs.length ≤ 100 ∧ ∀ c ∈ cs, c.puts.length ≤ 100 ∧ c.leans.length ≤ 100
section
variable {Pg : Program} {w : World} {K : PySem.W.Frag} {mg : Str → Option Value} {base : Heap}
def sShare : SpD := fun R Q => ∃ c d : Chg, R = [.d (chgD c), .d (chgD d)] ∧ (c.puts.length ≤ 100 ∧ d.puts.length ≤ 100) ∧ Q (.d (.bool (shareF c d))) R
theorem ok_share {f : Addr} {fd : FuncData} (F : Fun K "_law_share" "_law_share" (topS 13) f fd) (hm : mg "_law_share" = some (.ref f)) (hb : Binds K fd ["_law_one", "_law_other"] []) (cSpots : Can Pg w K mg base 1 "_law_spots" sSpots) : Can Pg w K mg base 2 "_law_share" sShare := by
  refine can_def F scShare hm hb (fun A Z Z' k ⟨a, b, h1, h2, h3⟩ => ⟨a, b, h1, h2, k _ _ h3⟩) (by decide) (fun R Q h => ?_) (fun cdv A outer s H E hgd hr R Q h => ?_)
  · obtain ⟨a, b, rfl, _⟩ := h
    rfl
  · obtain ⟨c, d, rfl, ⟨h1, h2⟩, q⟩ := h
    show WSs _ [] _ [.d (chgD c), .d (chgD d), .no, .no] _
    have nd : NShare.Nodup := scShare.nd
    refine wss_cons ?_
    refine ws_setLc1 (i := 2) [("_law_spot", 3)] [3] rfl nd rfl rfl (sw_true rfl rfl rfl (by decide +kernel)) (blkOk_by (N := NShare) (sc := defScope (topS 13)) (by decide +kernel)) (by decide) (by decide) (by decide) (.list ?_)
    walk_at "go"
    refine lc_pure1 (as := spots c) (enc := PyData.int) (g := PyData.int) (fun s => decide (s ∈ spots d)) [.d (chgD c), .d (chgD d), .no, .no] rfl (szle (by unfold spots; rw [List.length_map]; omega)) (fun a ha => ?_) ?_
    · walk_at "go"
      refine wt_in rfl ?_
      walk_at "go"
      refine gIn_l a (spots d) ?_ ?_ ?_
      · rfl
      · rfl
      walk_at "go"
      refine ⟨fun _ => ?_, fun _ => rfl⟩
      walk_at "go"
      rfl
    · walk_at "go"
      have key : shareF c d = (decide (c.at_ = d.at_) && !decide ((spots c).filter (fun s => decide (s ∈ spots d)) = [])) := rfl
      refine ⟨fun e => ?_, fun e => ?_⟩
      · walk_at "go"
        rw [key, e, Bool.true_and] at q
        refine gEq_ints (a := (spots c).filter fun s => decide (s ∈ spots d)) (b := []) ?_ ?_ ?_
        · rfl
        · rfl
        · exact q
      · rw [key, e, Bool.false_and] at q
        exact q
end
end K08
namespace K08
open PySem PySem.Spec PyProof.Rows L2 Dl
local macro_rules | `(tactic| walk_at "v") => `(tactic| first
  | refine we_d (i := 0) rfl (vis3 rfl) rfl ?_ | refine we_o (i := 0) rfl (vis3 rfl) rfl ?_
  | refine we_d (i := 1) rfl (vis3 rfl) rfl ?_ | refine we_o (i := 1) rfl (vis3 rfl) rfl ?_
  | refine we_d (i := 2) rfl (vis3 rfl) rfl ?_ | refine we_o (i := 2) rfl (vis3 rfl) rfl ?_
  | refine we_d (i := 3) rfl (vis3 rfl) rfl ?_ | refine we_o (i := 3) rfl (vis3 rfl) rfl ?_
  | refine we_d (i := 4) rfl (vis3 rfl) rfl ?_ | refine we_o (i := 4) rfl (vis3 rfl) rfl ?_
  | refine we_d (i := 5) rfl (vis3 rfl) rfl ?_ | refine we_o (i := 5) rfl (vis3 rfl) rfl ?_
  | refine we_d (i := 6) rfl (vis3 rfl) rfl ?_ | refine we_o (i := 6) rfl (vis3 rfl) rfl ?_
  | refine we_d (i := 7) rfl (vis3 rfl) rfl ?_ | refine we_o (i := 7) rfl (vis3 rfl) rfl ?_
  | refine we_d (i := 8) rfl (vis3 rfl) rfl ?_ | refine we_o (i := 8) rfl (vis3 rfl) rfl ?_
  | refine we_d (i := 9) rfl (vis3 rfl) rfl ?_ | refine we_o (i := 9) rfl (vis3 rfl) rfl ?_
  | refine we_d (i := 10) rfl (vis3 rfl) rfl ?_ | refine we_o (i := 10) rfl (vis3 rfl) rfl ?_
  | refine we_d (i := 11) rfl (vis3 rfl) rfl ?_ | refine we_o (i := 11) rfl (vis3 rfl) rfl ?_
  | refine we_d (i := 12) rfl (vis3 rfl) rfl ?_ | refine we_o (i := 12) rfl (vis3 rfl) rfl ?_
  | refine we_d (i := 13) rfl (vis3 rfl) rfl ?_ | refine we_o (i := 13) rfl (vis3 rfl) rfl ?_
  | refine we_d (i := 14) rfl (vis3 rfl) rfl ?_ | refine we_o (i := 14) rfl (vis3 rfl) rfl ?_
  | refine we_d (i := 15) rfl (vis3 rfl) rfl ?_ | refine we_o (i := 15) rfl (vis3 rfl) rfl ?_
  | refine we_d (i := 16) rfl (vis3 rfl) rfl ?_ | refine we_o (i := 16) rfl (vis3 rfl) rfl ?_
  | refine we_d (i := 17) rfl (vis3 rfl) rfl ?_ | refine we_o (i := 17) rfl (vis3 rfl) rfl ?_
  | refine we_d (i := 18) rfl (vis3 rfl) rfl ?_ | refine we_o (i := 18) rfl (vis3 rfl) rfl ?_
  | refine we_d (i := 19) rfl (vis3 rfl) rfl ?_ | refine we_o (i := 19) rfl (vis3 rfl) rfl ?_
  | refine we_d (i := 20) rfl (vis3 rfl) rfl ?_ | refine we_o (i := 20) rfl (vis3 rfl) rfl ?_)
local macro_rules | `(tactic| walk_at "si") => `(tactic| first
  | refine ws_set (i := 0) (by assumption) rfl (loc2 rfl) (by decide) ?_
  | refine ws_set (i := 1) (by assumption) rfl (loc2 rfl) (by decide) ?_
  | refine ws_set (i := 2) (by assumption) rfl (loc2 rfl) (by decide) ?_
  | refine ws_set (i := 3) (by assumption) rfl (loc2 rfl) (by decide) ?_
  | refine ws_set (i := 4) (by assumption) rfl (loc2 rfl) (by decide) ?_
  | refine ws_set (i := 5) (by assumption) rfl (loc2 rfl) (by decide) ?_
  | refine ws_set (i := 6) (by assumption) rfl (loc2 rfl) (by decide) ?_
  | refine ws_set (i := 7) (by assumption) rfl (loc2 rfl) (by decide) ?_
  | refine ws_set (i := 8) (by assumption) rfl (loc2 rfl) (by decide) ?_
  | refine ws_set (i := 9) (by assumption) rfl (loc2 rfl) (by decide) ?_
  | refine ws_set (i := 10) (by assumption) rfl (loc2 rfl) (by decide) ?_
  | refine ws_set (i := 11) (by assumption) rfl (loc2 rfl) (by decide) ?_
  | refine ws_set (i := 12) (by assumption) rfl (loc2 rfl) (by decide) ?_
  | refine ws_set (i := 13) (by assumption) rfl (loc2 rfl) (by decide) ?_
  | refine ws_set (i := 14) (by assumption) rfl (loc2 rfl) (by decide) ?_
  | refine ws_set (i := 15) (by assumption) rfl (loc2 rfl) (by decide) ?_
  | refine ws_set (i := 16) (by assumption) rfl (loc2 rfl) (by decide) ?_
  | refine ws_set (i := 17) (by assumption) rfl (loc2 rfl) (by decide) ?_
  | refine ws_set (i := 18) (by assumption) rfl (loc2 rfl) (by decide) ?_
  | refine ws_set (i := 19) (by assumption) rfl (loc2 rfl) (by decide) ?_
  | refine ws_set (i := 20) (by assumption) rfl (loc2 rfl) (by decide) ?_)
local macro_rules | `(tactic| walk_at "gi") => `(tactic| first
  | refine wg_name (i := 0) (by assumption) rfl (loc2 rfl) (by decide) ?_
  | refine wg_name (i := 1) (by assumption) rfl (loc2 rfl) (by decide) ?_
  | refine wg_name (i := 2) (by assumption) rfl (loc2 rfl) (by decide) ?_
  | refine wg_name (i := 3) (by assumption) rfl (loc2 rfl) (by decide) ?_
  | refine wg_name (i := 4) (by assumption) rfl (loc2 rfl) (by decide) ?_
  | refine wg_name (i := 5) (by assumption) rfl (loc2 rfl) (by decide) ?_
  | refine wg_name (i := 6) (by assumption) rfl (loc2 rfl) (by decide) ?_
  | refine wg_name (i := 7) (by assumption) rfl (loc2 rfl) (by decide) ?_
  | refine wg_name (i := 8) (by assumption) rfl (loc2 rfl) (by decide) ?_
  | refine wg_name (i := 9) (by assumption) rfl (loc2 rfl) (by decide) ?_
  | refine wg_name (i := 10) (by assumption) rfl (loc2 rfl) (by decide) ?_
  | refine wg_name (i := 11) (by assumption) rfl (loc2 rfl) (by decide) ?_
  | refine wg_name (i := 12) (by assumption) rfl (loc2 rfl) (by decide) ?_
  | refine wg_name (i := 13) (by assumption) rfl (loc2 rfl) (by decide) ?_
  | refine wg_name (i := 14) (by assumption) rfl (loc2 rfl) (by decide) ?_
  | refine wg_name (i := 15) (by assumption) rfl (loc2 rfl) (by decide) ?_
  | refine wg_name (i := 16) (by assumption) rfl (loc2 rfl) (by decide) ?_
  | refine wg_name (i := 17) (by assumption) rfl (loc2 rfl) (by decide) ?_
  | refine wg_name (i := 18) (by assumption) rfl (loc2 rfl) (by decide) ?_
  | refine wg_name (i := 19) (by assumption) rfl (loc2 rfl) (by decide) ?_
  | refine wg_name (i := 20) (by assumption) rfl (loc2 rfl) (by decide) ?_)
local macro_rules | `(tactic| walk_at "side") => `(tactic| first | exact rfl | exact Nat.le_trans (m := 1000) (Nat.le_of_ble_eq_true rfl) sz1000 | omega | decide | assumption)
local macro_rules | `(tactic| walk_at "we") => `(tactic| first
  | (refine isName ?_; walk_at "v")
  | refine we_int ?_ | refine we_bl ?_ | refine we_non ?_ | refine we_str ?_
  | refine we_ix ?_
  | refine we_addG ?_ | refine we_sub ?_ | refine we_mulG ?_ | refine we_div ?_ | refine we_mod ?_ | refine we_pow ?_ | refine we_neg ?_
  | refine we_gt ?_ | refine we_lt ?_ | refine we_ge ?_ | refine we_le ?_
  | refine we_tup ?_ | refine we_lst ?_ | refine we_dict0 ?_
  | refine we_len (by assumption) rfl ?_ | refine we_slG ?_ | refine we_eqG (by assumption) ?_ | refine we_neG (by assumption) ?_ | refine we_not ?_ | refine we_one ?_ | refine we_and ?_ | refine we_or ?_
  | refine we_call2 (by assumption) (by assumption) (by assumption) (by decide) rfl ?_)
local macro_rules | `(tactic| walk_at "wt") => `(tactic| first
  | refine wt_gt ?_ | refine wt_lt ?_ | refine wt_ge ?_ | refine wt_le ?_ | refine wt_not ?_
  | refine wt_eqG (by assumption) ?_ | refine wt_neG (by assumption) ?_ | refine wt_bool ?_ | refine wt_val ?_)
local macro_rules | `(tactic| walk_at "ws") => `(tactic| first
  | refine ws_ret ?_ | (refine isSet ?_; walk_at "si") | refine ws_if ?_
  | refine ws_append (pe_bm PySem.F.plainAttrs_list PySem.F.slot_list_append PySem.F.type_list_append mt_append pe_m (pa_cons pe_m pa_nil)) ?_
  | refine ws_continue ?_ | refine ws_break ?_ | refine ws_pass ?_)
local macro_rules | `(tactic| walk_at "l") => `(tactic| first
  | refine And.intro (Exists.intro _ rfl) ?_
  | refine And.intro trivial ?_
  | refine Exists.intro _ (And.intro rfl ?_)
  | refine Exists.intro _ (Exists.intro _ (And.intro rfl (And.intro rfl ?_)))
  | refine And.intro (And.intro (by walk_at "side") (by walk_at "side") : CDiv _ _) ?_
  | refine And.intro (.inl (And.intro (by walk_at "side") (by walk_at "side")) : CMul _ _) ?_
  | refine And.intro (.inr (And.intro (by walk_at "side") (by walk_at "side")) : CMul _ _) ?_
  | refine And.intro (And.intro (List.cons_ne_nil _ _) (And.intro (by walk_at "side") (And.intro (by walk_at "side") (by walk_at "side")))) ?_
  | refine And.intro (by walk_at "side") ?_)
local macro_rules | `(tactic| walk_at "step") => `(tactic| first
  | (refine isWE ?_; walk_at "we")
  | (refine isWT ?_; walk_at "wt")
  | (refine isWSs ?_; first | refine wss_nil ?_ | refine wss_one ?_ | refine wss_cons ?_)
  | (refine isWS ?_; walk_at "ws")
  | (refine isWDs ?_; first | refine wds_nil ?_ | refine wds_cons ?_)
  | (refine isWW ?_; first | refine ww_and1 ?_ | refine ww_or1 ?_ | refine ww_and ?_ | refine ww_or ?_)
  | refine allB_i fun _ _ _ _ _ => ?_
  | refine asI_i (allB_i fun _ _ _ _ _ => ?_)
  | (refine isWG ?_; first | walk_at "gi" | refine wg_tup rfl ?_ rfl)
  | (refine isWGs ?_; first | refine wgs_nil ?_ | refine wgs_consN ?_)
  | (refine isWO ?_; first | refine wo_none ?_ | refine wo_some ?_)
  | (refine isWA ?_; first | refine wa_nil ?_ | refine wa_cons ?_)
  | walk_at "l")
local macro_rules | `(tactic| walk_at "go") => `(tactic| repeat (walk_at "step"))
section
variable {Pg : Program} {w : World} {K : PySem.W.Frag} {mg : Str → Option Value} {base : Heap}
def csD (cs : List Chg) : D := .list (cs.map chgD)
def sWants : SpD := fun R Q => ∃ cs c, R = [.d (csD cs), .d (chgD c)] ∧ (Small cs ∧ c.puts.length ≤ 100 ∧ c.leans.length ≤ 100) ∧ Q (.own (.lst ((wantsF cs c).map .int))) R
theorem ok_wants {f : Addr} {fd : FuncData} (F : Fun K "_law_wants" "_law_wants" (topS 14) f fd) (hm : mg "_law_wants" = some (.ref f)) (hb : Binds K fd ["_law_some", "_law_change"] []) (cShare : Can Pg w K mg base 2 "_law_share" sShare) : Can Pg w K mg base 3 "_law_wants" sWants := by
  refine can_def F scWants hm hb (fun A Z Z' k ⟨a, b, h1, h2, h3⟩ => ⟨a, b, h1, h2, k _ _ h3⟩) (by decide) (fun R Q h => ?_) (fun cdv A outer s H E hgd hr R Q h => ?_)
  · obtain ⟨a, b, rfl, _⟩ := h
    rfl
  · obtain ⟨cs, c, rfl, ⟨⟨hn, hcs⟩, h1, h2⟩, q⟩ := h
    show WSs _ [] _ [.d (csD cs), .d (chgD c), .no, .no, .no, .no] _
    have nd : NWants.Nodup := scWants.nd
    refine wss_cons ?_
    walk_at "si"
    refine we_lc0 [("_law_one", 4)] [4] rfl nd (blkOk_by (N := NWants) (sc := defScope (topS 14)) (by decide +kernel)) (by decide) (by decide) (.list ?_)
    walk_at "go"
    refine lc_pure0 (as := cs) (enc := chgD) (g := fun o => .int o.n) [.d (csD cs), .d (chgD c), .no, .no, .no, .no] rfl (szle (by omega)) (fun o ho => ?_) ?_
    · walk_at "go"
      rfl
    refine wss_cons ?_
    refine ws_setLc1 (i := 3) [("_law_lean", 5)] [5] rfl nd rfl rfl (sw_true rfl rfl rfl (by decide +kernel)) (blkOk_by (N := NWants) (sc := defScope (topS 14)) (by decide +kernel)) (by decide) (by decide) (by decide) (.tup ?_)
    walk_at "go"
    have en : (cs.map fun o => PyData.int o.n) = (nums cs).map .int := by
      unfold nums
      rw [List.map_map]
      rfl
    rw [en]
    refine lc_pure1 (as := c.leans) (enc := PyData.int) (g := PyData.int) (fun l => decide (l ∈ nums cs)) [.d (csD cs), .d (chgD c), .own (.lst ((nums cs).map .int)), .no, .no, .no] rfl (szle (by omega)) (fun l hl => ?_) ?_
    · walk_at "go"
      refine wt_in rfl ?_
      walk_at "go"
      refine gIn_l l (nums cs) ?_ ?_ ?_
      · rfl
      · rfl
      walk_at "go"
      refine ⟨fun _ => ?_, fun _ => rfl⟩
      walk_at "go"
      rfl
    walk_at "go"
    refine we_lc1 [("_law_one", 4)] [4] rfl nd (blkOk_by (N := NWants) (sc := defScope (topS 14)) (by decide +kernel)) (by decide) (by decide) (.list ?_)
    walk_at "go"
    refine lc_pure1 (as := cs) (enc := chgD) (g := fun o => .int o.n) (fun o => decide (o.n < c.n) && shareF o c) [.d (csD cs), .d (chgD c), .own (.lst ((nums cs).map .int)), .own (.lst ((c.leans.filter fun l => decide (l ∈ nums cs)).map .int)), .no, .no] rfl (szle (by omega)) (fun o ho => ?_) ?_
    · obtain ⟨g1, g2⟩ := hcs o ho
      walk_at "go"
      refine ⟨fun e => ?_, fun e => ⟨by rw [e]; rfl, fun z => Bool.noConfusion z, fun _ => rfl⟩⟩
      walk_at "go"
      refine ⟨o, c, rfl, ⟨g1, h1⟩, rfl, ?_⟩
      show shareF o c = (decide (o.n < c.n) && shareF o c) ∧ _ ∧ _
      refine ⟨by rw [e, Bool.true_and], fun _ => ?_, fun _ => rfl⟩
      walk_at "go"
      rfl
    · refine ⟨_, _, rfl, rfl, ?_, ?_⟩
      · rw [List.length_map, List.length_map]
        exact szle (Nat.le_trans (Nat.add_le_add (Nat.le_trans (List.length_filter_le _ _) h2) (Nat.le_trans (List.length_filter_le _ _) hn)) (by decide))
      walk_at "go"
      have e : ((c.leans.filter fun l => decide (l ∈ nums cs)).map PyData.int ++ (cs.filter fun o => decide (o.n < c.n) && shareF o c).map fun o => PyData.int o.n) = (wantsF cs c).map .int := by
        unfold wantsF nums
        rw [List.map_append, List.map_map]
        rfl
      rw [e]
      exact q
end
end K08
namespace K08
open PySem PySem.Spec PyProof.Rows L2 Dl
local macro_rules | `(tactic| walk_at "v") => `(tactic| first
  | refine we_d (i := 0) rfl (vis3 rfl) rfl ?_ | refine we_o (i := 0) rfl (vis3 rfl) rfl ?_
  | refine we_d (i := 1) rfl (vis3 rfl) rfl ?_ | refine we_o (i := 1) rfl (vis3 rfl) rfl ?_
  | refine we_d (i := 2) rfl (vis3 rfl) rfl ?_ | refine we_o (i := 2) rfl (vis3 rfl) rfl ?_
  | refine we_d (i := 3) rfl (vis3 rfl) rfl ?_ | refine we_o (i := 3) rfl (vis3 rfl) rfl ?_
  | refine we_d (i := 4) rfl (vis3 rfl) rfl ?_ | refine we_o (i := 4) rfl (vis3 rfl) rfl ?_
  | refine we_d (i := 5) rfl (vis3 rfl) rfl ?_ | refine we_o (i := 5) rfl (vis3 rfl) rfl ?_
  | refine we_d (i := 6) rfl (vis3 rfl) rfl ?_ | refine we_o (i := 6) rfl (vis3 rfl) rfl ?_
  | refine we_d (i := 7) rfl (vis3 rfl) rfl ?_ | refine we_o (i := 7) rfl (vis3 rfl) rfl ?_
  | refine we_d (i := 8) rfl (vis3 rfl) rfl ?_ | refine we_o (i := 8) rfl (vis3 rfl) rfl ?_
  | refine we_d (i := 9) rfl (vis3 rfl) rfl ?_ | refine we_o (i := 9) rfl (vis3 rfl) rfl ?_
  | refine we_d (i := 10) rfl (vis3 rfl) rfl ?_ | refine we_o (i := 10) rfl (vis3 rfl) rfl ?_
  | refine we_d (i := 11) rfl (vis3 rfl) rfl ?_ | refine we_o (i := 11) rfl (vis3 rfl) rfl ?_
  | refine we_d (i := 12) rfl (vis3 rfl) rfl ?_ | refine we_o (i := 12) rfl (vis3 rfl) rfl ?_
  | refine we_d (i := 13) rfl (vis3 rfl) rfl ?_ | refine we_o (i := 13) rfl (vis3 rfl) rfl ?_
  | refine we_d (i := 14) rfl (vis3 rfl) rfl ?_ | refine we_o (i := 14) rfl (vis3 rfl) rfl ?_
  | refine we_d (i := 15) rfl (vis3 rfl) rfl ?_ | refine we_o (i := 15) rfl (vis3 rfl) rfl ?_
  | refine we_d (i := 16) rfl (vis3 rfl) rfl ?_ | refine we_o (i := 16) rfl (vis3 rfl) rfl ?_
  | refine we_d (i := 17) rfl (vis3 rfl) rfl ?_ | refine we_o (i := 17) rfl (vis3 rfl) rfl ?_
  | refine we_d (i := 18) rfl (vis3 rfl) rfl ?_ | refine we_o (i := 18) rfl (vis3 rfl) rfl ?_
  | refine we_d (i := 19) rfl (vis3 rfl) rfl ?_ | refine we_o (i := 19) rfl (vis3 rfl) rfl ?_
  | refine we_d (i := 20) rfl (vis3 rfl) rfl ?_ | refine we_o (i := 20) rfl (vis3 rfl) rfl ?_)
local macro_rules | `(tactic| walk_at "si") => `(tactic| first
  | refine ws_set (i := 0) (by assumption) rfl (loc2 rfl) (by decide) ?_
  | refine ws_set (i := 1) (by assumption) rfl (loc2 rfl) (by decide) ?_
  | refine ws_set (i := 2) (by assumption) rfl (loc2 rfl) (by decide) ?_
  | refine ws_set (i := 3) (by assumption) rfl (loc2 rfl) (by decide) ?_
  | refine ws_set (i := 4) (by assumption) rfl (loc2 rfl) (by decide) ?_
  | refine ws_set (i := 5) (by assumption) rfl (loc2 rfl) (by decide) ?_
  | refine ws_set (i := 6) (by assumption) rfl (loc2 rfl) (by decide) ?_
  | refine ws_set (i := 7) (by assumption) rfl (loc2 rfl) (by decide) ?_
  | refine ws_set (i := 8) (by assumption) rfl (loc2 rfl) (by decide) ?_
  | refine ws_set (i := 9) (by assumption) rfl (loc2 rfl) (by decide) ?_
  | refine ws_set (i := 10) (by assumption) rfl (loc2 rfl) (by decide) ?_
  | refine ws_set (i := 11) (by assumption) rfl (loc2 rfl) (by decide) ?_
  | refine ws_set (i := 12) (by assumption) rfl (loc2 rfl) (by decide) ?_
  | refine ws_set (i := 13) (by assumption) rfl (loc2 rfl) (by decide) ?_
  | refine ws_set (i := 14) (by assumption) rfl (loc2 rfl) (by decide) ?_
  | refine ws_set (i := 15) (by assumption) rfl (loc2 rfl) (by decide) ?_
  | refine ws_set (i := 16) (by assumption) rfl (loc2 rfl) (by decide) ?_
  | refine ws_set (i := 17) (by assumption) rfl (loc2 rfl) (by decide) ?_
  | refine ws_set (i := 18) (by assumption) rfl (loc2 rfl) (by decide) ?_
  | refine ws_set (i := 19) (by assumption) rfl (loc2 rfl) (by decide) ?_
  | refine ws_set (i := 20) (by assumption) rfl (loc2 rfl) (by decide) ?_)
local macro_rules | `(tactic| walk_at "gi") => `(tactic| first
  | refine wg_name (i := 0) (by assumption) rfl (loc2 rfl) (by decide) ?_
  | refine wg_name (i := 1) (by assumption) rfl (loc2 rfl) (by decide) ?_
  | refine wg_name (i := 2) (by assumption) rfl (loc2 rfl) (by decide) ?_
  | refine wg_name (i := 3) (by assumption) rfl (loc2 rfl) (by decide) ?_
  | refine wg_name (i := 4) (by assumption) rfl (loc2 rfl) (by decide) ?_
  | refine wg_name (i := 5) (by assumption) rfl (loc2 rfl) (by decide) ?_
  | refine wg_name (i := 6) (by assumption) rfl (loc2 rfl) (by decide) ?_
  | refine wg_name (i := 7) (by assumption) rfl (loc2 rfl) (by decide) ?_
  | refine wg_name (i := 8) (by assumption) rfl (loc2 rfl) (by decide) ?_
  | refine wg_name (i := 9) (by assumption) rfl (loc2 rfl) (by decide) ?_
  | refine wg_name (i := 10) (by assumption) rfl (loc2 rfl) (by decide) ?_
  | refine wg_name (i := 11) (by assumption) rfl (loc2 rfl) (by decide) ?_
  | refine wg_name (i := 12) (by assumption) rfl (loc2 rfl) (by decide) ?_
  | refine wg_name (i := 13) (by assumption) rfl (loc2 rfl) (by decide) ?_
  | refine wg_name (i := 14) (by assumption) rfl (loc2 rfl) (by decide) ?_
  | refine wg_name (i := 15) (by assumption) rfl (loc2 rfl) (by decide) ?_
  | refine wg_name (i := 16) (by assumption) rfl (loc2 rfl) (by decide) ?_
  | refine wg_name (i := 17) (by assumption) rfl (loc2 rfl) (by decide) ?_
  | refine wg_name (i := 18) (by assumption) rfl (loc2 rfl) (by decide) ?_
  | refine wg_name (i := 19) (by assumption) rfl (loc2 rfl) (by decide) ?_
  | refine wg_name (i := 20) (by assumption) rfl (loc2 rfl) (by decide) ?_)
local macro_rules | `(tactic| walk_at "side") => `(tactic| first | exact rfl | exact Nat.le_trans (m := 1000) (Nat.le_of_ble_eq_true rfl) sz1000 | omega | decide | assumption)
local macro_rules | `(tactic| walk_at "we") => `(tactic| first
  | (refine isName ?_; walk_at "v")
  | refine we_int ?_ | refine we_bl ?_ | refine we_non ?_ | refine we_str ?_
  | refine we_ix ?_
  | refine we_addG ?_ | refine we_sub ?_ | refine we_mulG ?_ | refine we_div ?_ | refine we_mod ?_ | refine we_pow ?_ | refine we_neg ?_
  | refine we_gt ?_ | refine we_lt ?_ | refine we_ge ?_ | refine we_le ?_
  | refine we_tup ?_ | refine we_lst ?_ | refine we_dict0 ?_
  | refine we_len (by assumption) rfl ?_ | refine we_slG ?_ | refine we_eqG (by assumption) ?_ | refine we_neG (by assumption) ?_ | refine we_not ?_ | refine we_one ?_ | refine we_and ?_ | refine we_or ?_
  | refine we_call2 (by assumption) (by assumption) (by assumption) (by decide) rfl ?_)
local macro_rules | `(tactic| walk_at "wt") => `(tactic| first
  | refine wt_gt ?_ | refine wt_lt ?_ | refine wt_ge ?_ | refine wt_le ?_ | refine wt_not ?_
  | refine wt_eqG (by assumption) ?_ | refine wt_neG (by assumption) ?_ | refine wt_bool ?_ | refine wt_val ?_)
local macro_rules | `(tactic| walk_at "ws") => `(tactic| first
  | refine ws_ret ?_ | (refine isSet ?_; walk_at "si") | refine ws_if ?_
  | refine ws_append (pe_bm PySem.F.plainAttrs_list PySem.F.slot_list_append PySem.F.type_list_append mt_append pe_m (pa_cons pe_m pa_nil)) ?_
  | refine ws_continue ?_ | refine ws_break ?_ | refine ws_pass ?_)
local macro_rules | `(tactic| walk_at "l") => `(tactic| first
  | refine And.intro (Exists.intro _ rfl) ?_
  | refine And.intro trivial ?_
  | refine Exists.intro _ (And.intro rfl ?_)
  | refine Exists.intro _ (Exists.intro _ (And.intro rfl (And.intro rfl ?_)))
  | refine And.intro (And.intro (by walk_at "side") (by walk_at "side") : CDiv _ _) ?_
  | refine And.intro (.inl (And.intro (by walk_at "side") (by walk_at "side")) : CMul _ _) ?_
  | refine And.intro (.inr (And.intro (by walk_at "side") (by walk_at "side")) : CMul _ _) ?_
  | refine And.intro (And.intro (List.cons_ne_nil _ _) (And.intro (by walk_at "side") (And.intro (by walk_at "side") (by walk_at "side")))) ?_
  | refine And.intro (by walk_at "side") ?_)
local macro_rules | `(tactic| walk_at "step") => `(tactic| first
  | (refine isWE ?_; walk_at "we")
  | (refine isWT ?_; walk_at "wt")
  | (refine isWSs ?_; first | refine wss_nil ?_ | refine wss_one ?_ | refine wss_cons ?_)
  | (refine isWS ?_; walk_at "ws")
  | (refine isWDs ?_; first | refine wds_nil ?_ | refine wds_cons ?_)
  | (refine isWW ?_; first | refine ww_and1 ?_ | refine ww_or1 ?_ | refine ww_and ?_ | refine ww_or ?_)
  | refine allB_i fun _ _ _ _ _ => ?_
  | refine asI_i (allB_i fun _ _ _ _ _ => ?_)
  | (refine isWG ?_; first | walk_at "gi" | refine wg_tup rfl ?_ rfl)
  | (refine isWGs ?_; first | refine wgs_nil ?_ | refine wgs_consN ?_)
  | (refine isWO ?_; first | refine wo_none ?_ | refine wo_some ?_)
  | (refine isWA ?_; first | refine wa_nil ?_ | refine wa_cons ?_)
  | walk_at "l")
local macro_rules | `(tactic| walk_at "go") => `(tactic| repeat (walk_at "step"))
abbrev NLeans : List Str := ["leans", "listed", "along", "lean"]
theorem scLeans : FnScope NLeans ["leans", "listed", "along"] (defScope (topS 4)) := ⟨rfl, rfl, rfl, by decide +kernel, rfl, by decide +kernel, by decide +kernel⟩
/-- a dict of numbers, each True -/
def kD (ns : List Int) : List (Key × D) := ns.map fun n => (Sum.inl n, .bool true)
theorem hasK_kD (n : Int) : ∀ ns : List Int, hasK (kD ns) (Sum.inl n) = decide (n ∈ ns)
  | [] => rfl
  | m :: r => by
    have ih := hasK_kD n r
    unfold hasK kD at ih ⊢
    rw [List.map_cons, List.any_cons, ih]
    by_cases h : m = n
    · subst h
      simp
    · have h2 : ¬ n = m := fun z => h z.symm
      have h3 : ¬ (Sum.inl m : Key) = Sum.inl n := fun z => h (Sum.inl.inj z)
      simp [h2, h3, h]
def ins (ns : List Int) (n : Int) : List Int := if n ∈ ns then ns else ns ++ [n]
theorem put_kD (n : Int) (ns : List Int) : putD (kD ns) (Sum.inl n) (.bool true) = kD (ins ns n) := by
  have h := hasK_kD n ns
  unfold hasK at h
  unfold putD ins
  rw [h]
  by_cases e : n ∈ ns
  · rw [if_pos (decide_eq_true e), if_pos e]
    unfold kD
    rw [List.map_map]
    apply List.map_congr_left
    intro m _
    show (if (Sum.inl m : Key) = Sum.inl n then ((Sum.inl m : Key), PyData.bool true) else (Sum.inl m, .bool true)) = _
    split <;> rfl
  · rw [if_neg (by rw [decide_eq_false e]; exact Bool.false_ne_true), if_neg e]
    unfold kD
    rw [List.map_append]
    rfl
section
variable {Pg : Program} {w : World} {K : PySem.W.Frag} {mg : Str → Option Value} {base : Heap}
def sLeans : SpD := fun R Q => ∃ (ls li al : List Int), R = [.d (.tuple (ls.map .int)), .own (.dK (kD li)), .own (.dK (kD al))] ∧ ls.length ≤ 1000 ∧ Q (.d (.bool (ls.any fun l => decide (l ∈ li) && !decide (l ∈ al)))) R
theorem ok_leans {f : Addr} {fd : FuncData} (F : Fun K "_leans_on_others" "_leans_on_others" (topS 4) f fd) (hm : mg "_leans_on_others" = some (.ref f)) (hb : Binds K fd ["leans", "listed", "along"] []) (ma : mg "any" = none) : Can Pg w K mg base 1 "_leans_on_others" sLeans := by
  refine can_def F scLeans hm hb (fun A Z Z' k ⟨a, b, c, h1, h2, h3⟩ => ⟨a, b, c, h1, h2, k _ _ h3⟩) (by decide) (fun R Q h => ?_) (fun cdv A outer s H E hgd hr R Q h => ?_)
  · obtain ⟨a, b, c, rfl, _⟩ := h
    rfl
  · obtain ⟨ls, li, al, rfl, hl, q⟩ := h
    show WSs _ [1, 2] _ [.d (.tuple (ls.map .int)), .own (.dK (kD li)), .own (.dK (kD al)), .no] _
    have nd : NLeans.Nodup := scLeans.nd
    refine wss_one (ws_ret ?_)
    refine we_any rfl ma rfl ?_
    refine we_lc0 [("lean", 3)] [3] rfl nd (blkOk_by (N := NLeans) (sc := defScope (topS 4)) (by decide +kernel)) (by decide) (by decide) (.tup ?_)
    walk_at "go"
    refine lc_pure0 (as := ls) (enc := PyData.int) (g := fun l => .bool (decide (l ∈ li) && !decide (l ∈ al))) [.d (.tuple (ls.map .int)), .own (.dK (kD li)), .own (.dK (kD al)), .no] rfl (szle hl) (fun l hl => ?_) ?_
    · walk_at "go"
      refine we_inD (hu_of hr) rfl ?_
      walk_at "go"
      refine gInD_l l 1 (kD li) ?_ ?_ ?_ ?_
      · rfl
      · rfl
      · rfl
      rw [hasK_kD]
      walk_at "go"
      refine ⟨fun e => ?_, fun e => ?_⟩
      · walk_at "go"
        refine we_notInD (hu_of hr) rfl ?_
        walk_at "go"
        refine gInD_l l 2 (kD al) ?_ ?_ ?_ ?_
        · rfl
        · rfl
        · rfl
        rw [hasK_kD]
        rw [e, Bool.true_and]
        exact ⟨rfl, rfl⟩
      · rw [e]
        exact ⟨rfl, rfl⟩
    · refine ⟨ls.map fun l => decide (l ∈ li) && !decide (l ∈ al), ?_, ?_⟩
      · show some _ = some _
        rw [List.map_map]
        rfl
      walk_at "go"
      rw [List.any_map]
      exact q
end
end K08
namespace K08
open PySem PySem.Spec PyProof.Rows L2 Dl
local macro_rules | `(tactic| walk_at "v") => `(tactic| first
  | refine we_d (i := 0) rfl (vis3 rfl) rfl ?_ | refine we_o (i := 0) rfl (vis3 rfl) rfl ?_
  | refine we_d (i := 1) rfl (vis3 rfl) rfl ?_ | refine we_o (i := 1) rfl (vis3 rfl) rfl ?_
  | refine we_d (i := 2) rfl (vis3 rfl) rfl ?_ | refine we_o (i := 2) rfl (vis3 rfl) rfl ?_
  | refine we_d (i := 3) rfl (vis3 rfl) rfl ?_ | refine we_o (i := 3) rfl (vis3 rfl) rfl ?_
  | refine we_d (i := 4) rfl (vis3 rfl) rfl ?_ | refine we_o (i := 4) rfl (vis3 rfl) rfl ?_
  | refine we_d (i := 5) rfl (vis3 rfl) rfl ?_ | refine we_o (i := 5) rfl (vis3 rfl) rfl ?_
  | refine we_d (i := 6) rfl (vis3 rfl) rfl ?_ | refine we_o (i := 6) rfl (vis3 rfl) rfl ?_
  | refine we_d (i := 7) rfl (vis3 rfl) rfl ?_ | refine we_o (i := 7) rfl (vis3 rfl) rfl ?_
  | refine we_d (i := 8) rfl (vis3 rfl) rfl ?_ | refine we_o (i := 8) rfl (vis3 rfl) rfl ?_
  | refine we_d (i := 9) rfl (vis3 rfl) rfl ?_ | refine we_o (i := 9) rfl (vis3 rfl) rfl ?_
  | refine we_d (i := 10) rfl (vis3 rfl) rfl ?_ | refine we_o (i := 10) rfl (vis3 rfl) rfl ?_
  | refine we_d (i := 11) rfl (vis3 rfl) rfl ?_ | refine we_o (i := 11) rfl (vis3 rfl) rfl ?_
  | refine we_d (i := 12) rfl (vis3 rfl) rfl ?_ | refine we_o (i := 12) rfl (vis3 rfl) rfl ?_
  | refine we_d (i := 13) rfl (vis3 rfl) rfl ?_ | refine we_o (i := 13) rfl (vis3 rfl) rfl ?_
  | refine we_d (i := 14) rfl (vis3 rfl) rfl ?_ | refine we_o (i := 14) rfl (vis3 rfl) rfl ?_
  | refine we_d (i := 15) rfl (vis3 rfl) rfl ?_ | refine we_o (i := 15) rfl (vis3 rfl) rfl ?_
  | refine we_d (i := 16) rfl (vis3 rfl) rfl ?_ | refine we_o (i := 16) rfl (vis3 rfl) rfl ?_
  | refine we_d (i := 17) rfl (vis3 rfl) rfl ?_ | refine we_o (i := 17) rfl (vis3 rfl) rfl ?_
  | refine we_d (i := 18) rfl (vis3 rfl) rfl ?_ | refine we_o (i := 18) rfl (vis3 rfl) rfl ?_
  | refine we_d (i := 19) rfl (vis3 rfl) rfl ?_ | refine we_o (i := 19) rfl (vis3 rfl) rfl ?_
  | refine we_d (i := 20) rfl (vis3 rfl) rfl ?_ | refine we_o (i := 20) rfl (vis3 rfl) rfl ?_)
local macro_rules | `(tactic| walk_at "si") => `(tactic| first
  | refine ws_set (i := 0) (by assumption) rfl (loc2 rfl) (by decide) ?_
  | refine ws_set (i := 1) (by assumption) rfl (loc2 rfl) (by decide) ?_
  | refine ws_set (i := 2) (by assumption) rfl (loc2 rfl) (by decide) ?_
  | refine ws_set (i := 3) (by assumption) rfl (loc2 rfl) (by decide) ?_
  | refine ws_set (i := 4) (by assumption) rfl (loc2 rfl) (by decide) ?_
  | refine ws_set (i := 5) (by assumption) rfl (loc2 rfl) (by decide) ?_
  | refine ws_set (i := 6) (by assumption) rfl (loc2 rfl) (by decide) ?_
  | refine ws_set (i := 7) (by assumption) rfl (loc2 rfl) (by decide) ?_
  | refine ws_set (i := 8) (by assumption) rfl (loc2 rfl) (by decide) ?_
  | refine ws_set (i := 9) (by assumption) rfl (loc2 rfl) (by decide) ?_
  | refine ws_set (i := 10) (by assumption) rfl (loc2 rfl) (by decide) ?_
  | refine ws_set (i := 11) (by assumption) rfl (loc2 rfl) (by decide) ?_
  | refine ws_set (i := 12) (by assumption) rfl (loc2 rfl) (by decide) ?_
  | refine ws_set (i := 13) (by assumption) rfl (loc2 rfl) (by decide) ?_
  | refine ws_set (i := 14) (by assumption) rfl (loc2 rfl) (by decide) ?_
  | refine ws_set (i := 15) (by assumption) rfl (loc2 rfl) (by decide) ?_
  | refine ws_set (i := 16) (by assumption) rfl (loc2 rfl) (by decide) ?_
  | refine ws_set (i := 17) (by assumption) rfl (loc2 rfl) (by decide) ?_
  | refine ws_set (i := 18) (by assumption) rfl (loc2 rfl) (by decide) ?_
  | refine ws_set (i := 19) (by assumption) rfl (loc2 rfl) (by decide) ?_
  | refine ws_set (i := 20) (by assumption) rfl (loc2 rfl) (by decide) ?_)
local macro_rules | `(tactic| walk_at "gi") => `(tactic| first
  | refine wg_name (i := 0) (by assumption) rfl (loc2 rfl) (by decide) ?_
  | refine wg_name (i := 1) (by assumption) rfl (loc2 rfl) (by decide) ?_
  | refine wg_name (i := 2) (by assumption) rfl (loc2 rfl) (by decide) ?_
  | refine wg_name (i := 3) (by assumption) rfl (loc2 rfl) (by decide) ?_
  | refine wg_name (i := 4) (by assumption) rfl (loc2 rfl) (by decide) ?_
  | refine wg_name (i := 5) (by assumption) rfl (loc2 rfl) (by decide) ?_
  | refine wg_name (i := 6) (by assumption) rfl (loc2 rfl) (by decide) ?_
  | refine wg_name (i := 7) (by assumption) rfl (loc2 rfl) (by decide) ?_
  | refine wg_name (i := 8) (by assumption) rfl (loc2 rfl) (by decide) ?_
  | refine wg_name (i := 9) (by assumption) rfl (loc2 rfl) (by decide) ?_
  | refine wg_name (i := 10) (by assumption) rfl (loc2 rfl) (by decide) ?_
  | refine wg_name (i := 11) (by assumption) rfl (loc2 rfl) (by decide) ?_
  | refine wg_name (i := 12) (by assumption) rfl (loc2 rfl) (by decide) ?_
  | refine wg_name (i := 13) (by assumption) rfl (loc2 rfl) (by decide) ?_
  | refine wg_name (i := 14) (by assumption) rfl (loc2 rfl) (by decide) ?_
  | refine wg_name (i := 15) (by assumption) rfl (loc2 rfl) (by decide) ?_
  | refine wg_name (i := 16) (by assumption) rfl (loc2 rfl) (by decide) ?_
  | refine wg_name (i := 17) (by assumption) rfl (loc2 rfl) (by decide) ?_
  | refine wg_name (i := 18) (by assumption) rfl (loc2 rfl) (by decide) ?_
  | refine wg_name (i := 19) (by assumption) rfl (loc2 rfl) (by decide) ?_
  | refine wg_name (i := 20) (by assumption) rfl (loc2 rfl) (by decide) ?_)
local macro_rules | `(tactic| walk_at "side") => `(tactic| first | exact rfl | exact Nat.le_trans (m := 1000) (Nat.le_of_ble_eq_true rfl) sz1000 | omega | decide | assumption)
local macro_rules | `(tactic| walk_at "we") => `(tactic| first
  | (refine isName ?_; walk_at "v")
  | refine we_int ?_ | refine we_bl ?_ | refine we_non ?_ | refine we_str ?_
  | refine we_ix ?_
  | refine we_addG ?_ | refine we_sub ?_ | refine we_mulG ?_ | refine we_div ?_ | refine we_mod ?_ | refine we_pow ?_ | refine we_neg ?_
  | refine we_gt ?_ | refine we_lt ?_ | refine we_ge ?_ | refine we_le ?_
  | refine we_tup ?_ | refine we_lst ?_ | refine we_dict0 ?_
  | refine we_len (by assumption) rfl ?_ | refine we_slG ?_ | refine we_eqG (by assumption) ?_ | refine we_neG (by assumption) ?_ | refine we_not ?_ | refine we_one ?_ | refine we_and ?_ | refine we_or ?_
  | refine we_call2 (by assumption) (by assumption) (by assumption) (by decide) rfl ?_)
local macro_rules | `(tactic| walk_at "wt") => `(tactic| first
  | refine wt_gt ?_ | refine wt_lt ?_ | refine wt_ge ?_ | refine wt_le ?_ | refine wt_not ?_
  | refine wt_eqG (by assumption) ?_ | refine wt_neG (by assumption) ?_ | refine wt_bool ?_ | refine wt_val ?_)
local macro_rules | `(tactic| walk_at "ws") => `(tactic| first
  | refine ws_ret ?_ | (refine isSet ?_; walk_at "si") | refine ws_if ?_
  | refine ws_append (pe_bm PySem.F.plainAttrs_list PySem.F.slot_list_append PySem.F.type_list_append mt_append pe_m (pa_cons pe_m pa_nil)) ?_
  | refine ws_continue ?_ | refine ws_break ?_ | refine ws_pass ?_)
local macro_rules | `(tactic| walk_at "l") => `(tactic| first
  | refine And.intro (Exists.intro _ rfl) ?_
  | refine And.intro trivial ?_
  | refine Exists.intro _ (And.intro rfl ?_)
  | refine Exists.intro _ (Exists.intro _ (And.intro rfl (And.intro rfl ?_)))
  | refine And.intro (And.intro (by walk_at "side") (by walk_at "side") : CDiv _ _) ?_
  | refine And.intro (.inl (And.intro (by walk_at "side") (by walk_at "side")) : CMul _ _) ?_
  | refine And.intro (.inr (And.intro (by walk_at "side") (by walk_at "side")) : CMul _ _) ?_
  | refine And.intro (And.intro (List.cons_ne_nil _ _) (And.intro (by walk_at "side") (And.intro (by walk_at "side") (by walk_at "side")))) ?_
  | refine And.intro (by walk_at "side") ?_)
local macro_rules | `(tactic| walk_at "step") => `(tactic| first
  | (refine isWE ?_; walk_at "we")
  | (refine isWT ?_; walk_at "wt")
  | (refine isWSs ?_; first | refine wss_nil ?_ | refine wss_one ?_ | refine wss_cons ?_)
  | (refine isWS ?_; walk_at "ws")
  | (refine isWDs ?_; first | refine wds_nil ?_ | refine wds_cons ?_)
  | (refine isWW ?_; first | refine ww_and1 ?_ | refine ww_or1 ?_ | refine ww_and ?_ | refine ww_or ?_)
  | refine allB_i fun _ _ _ _ _ => ?_
  | refine asI_i (allB_i fun _ _ _ _ _ => ?_)
  | (refine isWG ?_; first | walk_at "gi" | refine wg_tup rfl ?_ rfl)
  | (refine isWGs ?_; first | refine wgs_nil ?_ | refine wgs_consN ?_)
  | (refine isWO ?_; first | refine wo_none ?_ | refine wo_some ?_)
  | (refine isWA ?_; first | refine wa_nil ?_ | refine wa_cons ?_)
  | walk_at "l")
local macro_rules | `(tactic| walk_at "go") => `(tactic| repeat (walk_at "step"))
abbrev NGoes : List Str := ["changes", "page", "listed", "along", "held", "number", "place", "puts", "leans", "slots", "slot", "change", "_"]
theorem scGoes : FnScope NGoes ["changes", "page"] (defScope (topS 1)) := ⟨rfl, rfl, rfl, by decide +kernel, rfl, by decide +kernel, by decide +kernel⟩
def insAll (ns ms : List Int) : List Int := ms.foldl ins ns
def listF (cs : List Chg) : List Int := insAll [] (nums cs)
def leanF (li al : List Int) (c : Chg) : Bool := c.leans.any fun l => decide (l ∈ li) && !decide (l ∈ al)
def heldF (he : List Int) (c : Chg) : Bool := (spots c).any fun s => decide (s ∈ he)
def stepG (li : List Int) (page : Int) (s : List Int × List Int) (c : Chg) : List Int × List Int :=
  if c.at_ ≠ page then s else if leanF li s.1 c || heldF s.2 c then (s.1, insAll s.2 (spots c)) else (ins s.1 c.n, s.2)
def goesS (cs : List Chg) (page : Int) (k : Nat) : List Int × List Int := (cs.take k).foldl (stepG (listF cs) page) ([], [])
def goesF (cs : List Chg) (page : Int) : List Int := (goesS cs page cs.length).1
/-- the branch that fills held -/
def fillB (st : Stmt) : List Stmt := match (defBody st).getD 3 (.Pass ⟨0, 0, 0, 0⟩) with
  | .For _ _ b _ _ => (match b.getD 2 (.Pass ⟨0, 0, 0, 0⟩) with
    | .If _ a _ _ => a
    | _ => [])
  | _ => []
theorem ins_len (ns : List Int) (n : Int) : (ins ns n).length ≤ ns.length + 1 := by
  unfold ins
  split
  · omega
  · rw [List.length_append]; simp
theorem insAll_len : ∀ (ms ns : List Int), (insAll ns ms).length ≤ ns.length + ms.length
  | [], ns => Nat.le_refl _
  | m :: r, ns => by
    have h := insAll_len r (ins ns m)
    have h2 := ins_len ns m
    show (insAll (ins ns m) r).length ≤ _
    rw [List.length_cons]
    omega
theorem kD_len (ns : List Int) : (kD ns).length = ns.length := by unfold kD; rw [List.length_map]
theorem goesS_succ {cs : List Chg} {page : Int} {k : Nat} {c : Chg} (h : cs[k]? = some c) : goesS cs page (k + 1) = stepG (listF cs) page (goesS cs page k) c := by
  unfold goesS
  rw [List.take_add_one, h, List.foldl_append]
  rfl
theorem step_len (li : List Int) (page : Int) (s : List Int × List Int) (c : Chg) (b : Nat) (hc : c.puts.length ≤ 100) : (stepG li page s c).1.length ≤ s.1.length + 1 ∧ (stepG li page s c).2.length ≤ s.2.length + 100 := by
  have h1 := ins_len s.1 c.n
  have h2 := insAll_len (spots c) s.2
  have h3 : (spots c).length = c.puts.length := by unfold spots; rw [List.length_map]
  unfold stepG
  split
  · exact ⟨by omega, by omega⟩
  · split
    · exact ⟨by show s.1.length ≤ _; omega, by show (insAll s.2 (spots c)).length ≤ _; omega⟩
    · exact ⟨h1, by show s.2.length ≤ _; omega⟩
theorem goesS_len (cs : List Chg) (page : Int) (hs : ∀ c ∈ cs, c.puts.length ≤ 100) : ∀ k, k ≤ cs.length → (goesS cs page k).1.length ≤ k ∧ (goesS cs page k).2.length ≤ 100 * k
  | 0, _ => by
    unfold goesS
    exact ⟨Nat.le_refl _, Nat.le_refl _⟩
  | k + 1, hk => by
    obtain ⟨h1, h2⟩ := goesS_len cs page hs k (by omega)
    have hlt : k < cs.length := by omega
    rw [goesS_succ (List.getElem?_eq_getElem hlt)]
    obtain ⟨g1, g2⟩ := step_len (listF cs) page (goesS cs page k) cs[k] 0 (hs _ (List.getElem_mem hlt))
    exact ⟨by omega, by omega⟩
section
variable {Pg : Program} {w : World} {K : PySem.W.Frag} {mg : Str → Option Value} {base : Heap}
def sGoes : SpD := fun R Q => ∃ cs page, R = [.d (csD cs), .d (.int page)] ∧ (Small cs ∧ cs.length < 64) ∧ ∀ ns' : List Int, ns'.Perm (goesF cs page) → ns'.Pairwise (· ≤ ·) → Q (.own (.lst (ns'.map .int))) R
theorem ok_goes {f : Addr} {fd : FuncData} (F : Fun K "goes_along" "goes_along" (topS 1) f fd) (hm : mg "goes_along" = some (.ref f)) (hb : Binds K fd ["changes", "page"] []) (ma : mg "any" = none) (ms : mg "sorted" = none) (cLeans : Can Pg w K mg base 1 "_leans_on_others" sLeans) : Can Pg w K mg base 2 "goes_along" sGoes := by
  refine can_def F scGoes hm hb (fun A Z Z' k ⟨a, b, h1, h2, h3⟩ => ⟨a, b, h1, h2, fun ns' g1 g2 => k _ _ (h3 ns' g1 g2)⟩) (by decide) (fun R Q h => ?_) (fun cdv A outer s H E hgd hr R Q h => ?_)
  · obtain ⟨a, b, rfl, _⟩ := h
    rfl
  · obtain ⟨cs, page, rfl, ⟨⟨hn, hcs⟩, h64⟩, q⟩ := h
    show WSs _ [] _ [.d (csD cs), .d (.int page), .no, .no, .no, .no, .no, .no, .no, .no, .no, .no, .no] _
    have nd : NGoes.Nodup := scGoes.nd
    refine wss_cons ?_
    refine ws_setDc0 (i := 2) [("change", 11)] [11] rfl nd rfl rfl (sw_dict rfl rfl rfl (by decide +kernel)) (blkOk_by (N := NGoes) (sc := defScope (topS 1)) (by decide +kernel)) (by decide) (by decide) (by decide) ?_
    refine we_d (i := 0) rfl (vis3 rfl) rfl ?_
    refine ⟨cs.map chgD, fun i kvs R => R = [.d (csD cs), .d (.int page), .no, .no, .no, .no, .no, .no, .no, .no, .no, .no, .no] ∧ kvs = kD (insAll [] (nums (cs.take i))), rfl, szle (by rw [List.length_map]; omega), ⟨rfl, rfl⟩, fun i x kvs R hx h => ?_, fun kvs R h => ?_⟩
    · obtain ⟨rfl, rfl⟩ := h
      rw [List.getElem?_map] at hx
      cases hq : cs[i]? with
      | none => rw [hq] at hx; cases hx
      | some c =>
        rw [hq] at hx
        cases hx
        have e : insAll [] (nums (cs.take (i + 1))) = ins (insAll [] (nums (cs.take i))) c.n := by
          unfold nums insAll
          rw [List.take_add_one, hq, List.map_append, List.foldl_append]
          rfl
        unfold TnD
        walk_at "go"
        rw [e]
        exact put_kD c.n _
    · obtain ⟨rfl, rfl⟩ := h
      rw [List.length_map, List.take_length]
      have h0 := goesS_len cs page (fun c hc => (hcs c hc).1)
      walk_at "go"
      refine ws_forL (js := [5, 6, 7, 8]) PassesOwn.never rfl ?_
      walk_at "go"
      refine ⟨cs.map chgD, fun k R' => ∃ s5 s6 s7 s8 s9 s10, R' = [.d (csD cs), .d (.int page), .own (.dK (kD (listF cs))), .own (.dK (kD (goesS cs page k).1)), .own (.dK (kD (goesS cs page k).2)), s5, s6, s7, s8, s9, s10, .no, .no], rfl, ⟨_, _, _, _, _, _, rfl⟩, fun k x R' hx h => ?_, fun R' h => ?_⟩
      · rw [List.getElem?_map] at hx
        cases hq : cs[k]? with
        | none => rw [hq] at hx; cases hx
        | some c =>
          rw [hq] at hx
          cases hx
          obtain ⟨s5, s6, s7, s8, s9, s10, rfl⟩ := h
          have hk : k < cs.length := (List.getElem?_eq_some_iff.mp hq).1
          have hcc := hcs c (List.mem_of_getElem? hq)
          obtain ⟨hl1, hl2⟩ := h0 k (by omega)
          have es := goesS_succ (page := page) hq
          generalize hal : (goesS cs page k).1 = al at *
          generalize hhe : (goesS cs page k).2 = he at *
          have es2 : goesS cs page (k + 1) = stepG (listF cs) page (al, he) c := by rw [es, ← hal, ← hhe]
          refine wg_tup rfl ?_ rfl
          walk_at "go"
          refine ⟨fun e => ?_, fun e => ?_⟩
          · walk_at "go"
            have ne : c.at_ ≠ page := fun z => by rw [z] at e; simp at e
            have e3 : goesS cs page (k + 1) = (al, he) := by rw [es2]; exact if_pos ne
            exact ⟨_, _, _, _, _, _, by rw [e3]; rfl⟩
          · have eq : c.at_ = page := by simpa using e
            walk_at "go"
            refine ws_setLc0 (i := 9) [("slot", 10), ("_", 12)] [10, 12] rfl nd rfl rfl (sw_true rfl rfl rfl (by decide +kernel)) (blkOk_by (N := NGoes) (sc := defScope (topS 1)) (by decide +kernel)) (by decide) (by decide) (by decide) (.tup ?_)
            walk_at "go"
            refine lc_pure0 (as := c.puts) (enc := putD2) (g := fun p => .int p.1) [.d (csD cs), .d (.int page), .own (.dK (kD (listF cs))), .own (.dK (kD al)), .own (.dK (kD he)), .d (.int c.n), .d (.int c.at_), .d (.tuple (c.puts.map putD2)), .d (.tuple (c.leans.map .int)), s9, .no, .no, .no] rfl (szle (by omega)) (fun p hp => ?_) ?_
            · walk_at "go"
              rfl
            have ep : (c.puts.map fun p => PyData.int p.1) = (spots c).map .int := by
              unfold spots
              rw [List.map_map]
              rfl
            rw [ep]
            refine wss_fz 9 (ds := (spots c).map .int) rfl (by decide) ?_
            walk_at "go"
            refine ⟨c.leans, listF cs, al, rfl, by omega, rfl, ?_⟩
            have el : (c.leans.any fun l => decide (l ∈ listF cs) && !decide (l ∈ al)) = leanF (listF cs) al c := rfl
            have yes : ∀ s10' s12', (leanF (listF cs) al c || heldF he c) = true → ∃ s5 s6 s7 s8 s9 s10, [SV.d (csD cs), .d (.int page), .own (.dK (kD (listF cs))), .own (.dK (kD al)), .own (.dK (kD (insAll he (spots c)))), .d (.int c.n), .d (.int c.at_), .d (.tuple (c.puts.map putD2)), .d (.tuple (c.leans.map .int)), .d (.list ((spots c).map .int)), s10', .no, s12'] = [.d (csD cs), .d (.int page), .own (.dK (kD (listF cs))), .own (.dK (kD (goesS cs page (k + 1)).1)), .own (.dK (kD (goesS cs page (k + 1)).2)), s5, s6, s7, s8, s9, s10, .no, s12'] := fun s10' s12' hb => by
              have e3 : goesS cs page (k + 1) = (al, insAll he (spots c)) := by
                rw [es2]
                exact (if_neg (fun z => z eq)).trans (if_pos hb)
              exact ⟨_, _, _, _, _, _, by rw [e3]⟩
            have fill : ∀ D' : DEnds, (∀ s10', D'.nx [.d (csD cs), .d (.int page), .own (.dK (kD (listF cs))), .own (.dK (kD al)), .own (.dK (kD (insAll he (spots c)))), .d (.int c.n), .d (.int c.at_), .d (.tuple (c.puts.map putD2)), .d (.tuple (c.leans.map .int)), .d (.list ((spots c).map .int)), s10', .no, .no]) → WSs (cxOf CX0 Pg w K mg base NGoes "goes_along" (defScope (topS 1)) f cdv A outer s H E).nox [] (fillB (topS 1)) [.d (csD cs), .d (.int page), .own (.dK (kD (listF cs))), .own (.dK (kD al)), .own (.dK (kD he)), .d (.int c.n), .d (.int c.at_), .d (.tuple (c.puts.map putD2)), .d (.tuple (c.leans.map .int)), .d (.list ((spots c).map .int)), .no, .no, .no] D' := fun D' hD => by
              refine wss_one ?_
              refine ws_forL (js := [10]) PassesOwn.never rfl ?_
              walk_at "go"
              refine ⟨(spots c).map .int, fun j R' => ∃ s10', R' = [.d (csD cs), .d (.int page), .own (.dK (kD (listF cs))), .own (.dK (kD al)), .own (.dK (kD (insAll he ((spots c).take j)))), .d (.int c.n), .d (.int c.at_), .d (.tuple (c.puts.map putD2)), .d (.tuple (c.leans.map .int)), .d (.list ((spots c).map .int)), s10', .no, .no], rfl, ⟨_, rfl⟩, fun j x R' hx h => ?_, fun R' h => ?_⟩
              · obtain ⟨s10', rfl⟩ := h
                rw [List.getElem?_map] at hx
                cases hqs : (spots c)[j]? with
                | none => rw [hqs] at hx; cases hx
                | some sp =>
                  rw [hqs] at hx
                  cases hx
                  have hj : j < (spots c).length := (List.getElem?_eq_some_iff.mp hqs).1
                  have hsl : (spots c).length = c.puts.length := by unfold spots; rw [List.length_map]
                  have e4 : insAll he ((spots c).take (j + 1)) = ins (insAll he ((spots c).take j)) sp := by
                    unfold insAll
                    rw [List.take_add_one, hqs, List.foldl_append]
                    rfl
                  walk_at "go"
                  refine ws_dput (hu_of hr) ?_
                  walk_at "go"
                  refine ⟨?_, ?_⟩
                  · have h5 := insAll_len ((spots c).take j) he
                    rw [List.length_take] at h5
                    rw [kD_len]
                    exact Nat.lt_of_le_of_lt (show _ ≤ 10000 by omega) (by decide)
                  · rw [put_kD, ← e4]
                    exact ⟨_, rfl⟩
              · obtain ⟨s10', rfl⟩ := h
                rw [List.length_map, List.take_length]
                exact hD s10'
            refine ⟨fun e1 => ?_, fun e1 => ?_⟩
            · walk_at "go"
              refine we_any rfl ma rfl ?_
              refine we_lc0 [("slot", 10)] [10] rfl nd (blkOk_by (N := NGoes) (sc := defScope (topS 1)) (by decide +kernel)) (by decide) (by decide) (.list ?_)
              walk_at "go"
              refine lc_pure0 (as := spots c) (enc := PyData.int) (g := fun sp => .bool (decide (sp ∈ he))) [.d (csD cs), .d (.int page), .own (.dK (kD (listF cs))), .own (.dK (kD al)), .own (.dK (kD he)), .d (.int c.n), .d (.int c.at_), .d (.tuple (c.puts.map putD2)), .d (.tuple (c.leans.map .int)), .d (.list ((spots c).map .int)), .no, .no, .no] rfl (szle (by unfold spots; rw [List.length_map]; omega)) (fun sp hp => ?_) ?_
              · walk_at "go"
                refine we_inD (hu_of hr) rfl ?_
                walk_at "go"
                refine gInD_l sp 4 (kD he) ?_ ?_ ?_ ?_
                · rfl
                · rfl
                · rfl
                rw [hasK_kD]
                exact ⟨rfl, rfl⟩
              refine ⟨(spots c).map fun sp => decide (sp ∈ he), ?_, ?_⟩
              · show some _ = some _
                rw [List.map_map]
                rfl
              rw [List.any_map]
              refine ⟨fun e2 => ?_, fun e2 => ?_⟩
              · refine fill _ fun s10' => ?_
                obtain ⟨t5, t6, t7, t8, t9, t10, et⟩ := yes s10' .no (by rw [← el, e1]; exact e2)
                exact ⟨t5, t6, t7, t8, t9, t10, et⟩
              · have hno : (leanF (listF cs) al c || heldF he c) = false := by rw [← el, e1]; exact e2
                have e3 : goesS cs page (k + 1) = (ins al c.n, he) := by
                  rw [es2]
                  exact (if_neg (fun z => z eq)).trans (if_neg (by rw [hno]; exact Bool.false_ne_true))
                refine wss_one ?_
                refine ws_dput (hu_of hr) ?_
                walk_at "go"
                refine ⟨?_, ?_⟩
                · rw [kD_len]
                  exact Nat.lt_of_le_of_lt (show _ ≤ 10000 by omega) (by decide)
                · rw [put_kD]
                  exact ⟨_, _, _, _, _, _, by rw [e3]; rfl⟩
            · refine ⟨fun _ => ?_, fun z => Bool.noConfusion z⟩
              refine fill _ fun s10' => ?_
              obtain ⟨t5, t6, t7, t8, t9, t10, et⟩ := yes s10' .no (by rw [← el, e1]; rfl)
              exact ⟨t5, t6, t7, t8, t9, t10, et⟩
      · obtain ⟨s5, s6, s7, s8, s9, s10, rfl⟩ := h
        rw [List.length_map]
        refine wss_one (ws_ret ?_)
        refine we_sortedD rfl ms rfl ?_
        walk_at "go"
        have h1 := (h0 cs.length (Nat.le_refl _)).1
        refine ⟨3, kD (goesF cs page), goesF cs page, rfl, rfl, ?_, Nat.lt_of_le_of_lt h1 h64, fun ns' p1 p2 => ?_⟩
        · unfold kD
          rw [List.map_map]
          exact List.map_congr_left fun _ _ => rfl
        · exact q ns' p1 p2
end
end K08
namespace K08
open PySem PySem.Spec PyProof.Rows L2 Dl
local macro_rules | `(tactic| walk_at "v") => `(tactic| first
  | refine we_d (i := 0) rfl (vis3 rfl) rfl ?_ | refine we_o (i := 0) rfl (vis3 rfl) rfl ?_
  | refine we_d (i := 1) rfl (vis3 rfl) rfl ?_ | refine we_o (i := 1) rfl (vis3 rfl) rfl ?_
  | refine we_d (i := 2) rfl (vis3 rfl) rfl ?_ | refine we_o (i := 2) rfl (vis3 rfl) rfl ?_
  | refine we_d (i := 3) rfl (vis3 rfl) rfl ?_ | refine we_o (i := 3) rfl (vis3 rfl) rfl ?_
  | refine we_d (i := 4) rfl (vis3 rfl) rfl ?_ | refine we_o (i := 4) rfl (vis3 rfl) rfl ?_
  | refine we_d (i := 5) rfl (vis3 rfl) rfl ?_ | refine we_o (i := 5) rfl (vis3 rfl) rfl ?_
  | refine we_d (i := 6) rfl (vis3 rfl) rfl ?_ | refine we_o (i := 6) rfl (vis3 rfl) rfl ?_
  | refine we_d (i := 7) rfl (vis3 rfl) rfl ?_ | refine we_o (i := 7) rfl (vis3 rfl) rfl ?_
  | refine we_d (i := 8) rfl (vis3 rfl) rfl ?_ | refine we_o (i := 8) rfl (vis3 rfl) rfl ?_
  | refine we_d (i := 9) rfl (vis3 rfl) rfl ?_ | refine we_o (i := 9) rfl (vis3 rfl) rfl ?_
  | refine we_d (i := 10) rfl (vis3 rfl) rfl ?_ | refine we_o (i := 10) rfl (vis3 rfl) rfl ?_
  | refine we_d (i := 11) rfl (vis3 rfl) rfl ?_ | refine we_o (i := 11) rfl (vis3 rfl) rfl ?_
  | refine we_d (i := 12) rfl (vis3 rfl) rfl ?_ | refine we_o (i := 12) rfl (vis3 rfl) rfl ?_
  | refine we_d (i := 13) rfl (vis3 rfl) rfl ?_ | refine we_o (i := 13) rfl (vis3 rfl) rfl ?_
  | refine we_d (i := 14) rfl (vis3 rfl) rfl ?_ | refine we_o (i := 14) rfl (vis3 rfl) rfl ?_
  | refine we_d (i := 15) rfl (vis3 rfl) rfl ?_ | refine we_o (i := 15) rfl (vis3 rfl) rfl ?_
  | refine we_d (i := 16) rfl (vis3 rfl) rfl ?_ | refine we_o (i := 16) rfl (vis3 rfl) rfl ?_
  | refine we_d (i := 17) rfl (vis3 rfl) rfl ?_ | refine we_o (i := 17) rfl (vis3 rfl) rfl ?_
  | refine we_d (i := 18) rfl (vis3 rfl) rfl ?_ | refine we_o (i := 18) rfl (vis3 rfl) rfl ?_
  | refine we_d (i := 19) rfl (vis3 rfl) rfl ?_ | refine we_o (i := 19) rfl (vis3 rfl) rfl ?_
  | refine we_d (i := 20) rfl (vis3 rfl) rfl ?_ | refine we_o (i := 20) rfl (vis3 rfl) rfl ?_)
local macro_rules | `(tactic| walk_at "si") => `(tactic| first
  | refine ws_set (i := 0) (by assumption) rfl (loc2 rfl) (by decide) ?_
  | refine ws_set (i := 1) (by assumption) rfl (loc2 rfl) (by decide) ?_
  | refine ws_set (i := 2) (by assumption) rfl (loc2 rfl) (by decide) ?_
  | refine ws_set (i := 3) (by assumption) rfl (loc2 rfl) (by decide) ?_
  | refine ws_set (i := 4) (by assumption) rfl (loc2 rfl) (by decide) ?_
  | refine ws_set (i := 5) (by assumption) rfl (loc2 rfl) (by decide) ?_
  | refine ws_set (i := 6) (by assumption) rfl (loc2 rfl) (by decide) ?_
  | refine ws_set (i := 7) (by assumption) rfl (loc2 rfl) (by decide) ?_
  | refine ws_set (i := 8) (by assumption) rfl (loc2 rfl) (by decide) ?_
  | refine ws_set (i := 9) (by assumption) rfl (loc2 rfl) (by decide) ?_
  | refine ws_set (i := 10) (by assumption) rfl (loc2 rfl) (by decide) ?_
  | refine ws_set (i := 11) (by assumption) rfl (loc2 rfl) (by decide) ?_
  | refine ws_set (i := 12) (by assumption) rfl (loc2 rfl) (by decide) ?_
  | refine ws_set (i := 13) (by assumption) rfl (loc2 rfl) (by decide) ?_
  | refine ws_set (i := 14) (by assumption) rfl (loc2 rfl) (by decide) ?_
  | refine ws_set (i := 15) (by assumption) rfl (loc2 rfl) (by decide) ?_
  | refine ws_set (i := 16) (by assumption) rfl (loc2 rfl) (by decide) ?_
  | refine ws_set (i := 17) (by assumption) rfl (loc2 rfl) (by decide) ?_
  | refine ws_set (i := 18) (by assumption) rfl (loc2 rfl) (by decide) ?_
  | refine ws_set (i := 19) (by assumption) rfl (loc2 rfl) (by decide) ?_
  | refine ws_set (i := 20) (by assumption) rfl (loc2 rfl) (by decide) ?_)
local macro_rules | `(tactic| walk_at "gi") => `(tactic| first
  | refine wg_name (i := 0) (by assumption) rfl (loc2 rfl) (by decide) ?_
  | refine wg_name (i := 1) (by assumption) rfl (loc2 rfl) (by decide) ?_
  | refine wg_name (i := 2) (by assumption) rfl (loc2 rfl) (by decide) ?_
  | refine wg_name (i := 3) (by assumption) rfl (loc2 rfl) (by decide) ?_
  | refine wg_name (i := 4) (by assumption) rfl (loc2 rfl) (by decide) ?_
  | refine wg_name (i := 5) (by assumption) rfl (loc2 rfl) (by decide) ?_
  | refine wg_name (i := 6) (by assumption) rfl (loc2 rfl) (by decide) ?_
  | refine wg_name (i := 7) (by assumption) rfl (loc2 rfl) (by decide) ?_
  | refine wg_name (i := 8) (by assumption) rfl (loc2 rfl) (by decide) ?_
  | refine wg_name (i := 9) (by assumption) rfl (loc2 rfl) (by decide) ?_
  | refine wg_name (i := 10) (by assumption) rfl (loc2 rfl) (by decide) ?_
  | refine wg_name (i := 11) (by assumption) rfl (loc2 rfl) (by decide) ?_
  | refine wg_name (i := 12) (by assumption) rfl (loc2 rfl) (by decide) ?_
  | refine wg_name (i := 13) (by assumption) rfl (loc2 rfl) (by decide) ?_
  | refine wg_name (i := 14) (by assumption) rfl (loc2 rfl) (by decide) ?_
  | refine wg_name (i := 15) (by assumption) rfl (loc2 rfl) (by decide) ?_
  | refine wg_name (i := 16) (by assumption) rfl (loc2 rfl) (by decide) ?_
  | refine wg_name (i := 17) (by assumption) rfl (loc2 rfl) (by decide) ?_
  | refine wg_name (i := 18) (by assumption) rfl (loc2 rfl) (by decide) ?_
  | refine wg_name (i := 19) (by assumption) rfl (loc2 rfl) (by decide) ?_
  | refine wg_name (i := 20) (by assumption) rfl (loc2 rfl) (by decide) ?_)
local macro_rules | `(tactic| walk_at "side") => `(tactic| first | exact rfl | exact Nat.le_trans (m := 1000) (Nat.le_of_ble_eq_true rfl) sz1000 | omega | decide | assumption)
local macro_rules | `(tactic| walk_at "we") => `(tactic| first
  | (refine isName ?_; walk_at "v")
  | refine we_int ?_ | refine we_bl ?_ | refine we_non ?_ | refine we_str ?_
  | refine we_ix ?_
  | refine we_addG ?_ | refine we_sub ?_ | refine we_mulG ?_ | refine we_div ?_ | refine we_mod ?_ | refine we_pow ?_ | refine we_neg ?_
  | refine we_gt ?_ | refine we_lt ?_ | refine we_ge ?_ | refine we_le ?_
  | refine we_tup ?_ | refine we_lst ?_ | refine we_dict0 ?_
  | refine we_len (by assumption) rfl ?_ | refine we_slG ?_ | refine we_eqG (by assumption) ?_ | refine we_neG (by assumption) ?_ | refine we_not ?_ | refine we_one ?_ | refine we_and ?_ | refine we_or ?_
  | refine we_call2 (by assumption) (by assumption) (by assumption) (by decide) rfl ?_)
local macro_rules | `(tactic| walk_at "wt") => `(tactic| first
  | refine wt_gt ?_ | refine wt_lt ?_ | refine wt_ge ?_ | refine wt_le ?_ | refine wt_not ?_
  | refine wt_eqG (by assumption) ?_ | refine wt_neG (by assumption) ?_ | refine wt_bool ?_ | refine wt_val ?_)
local macro_rules | `(tactic| walk_at "ws") => `(tactic| first
  | refine ws_ret ?_ | (refine isSet ?_; walk_at "si") | refine ws_if ?_
  | refine ws_append (pe_bm PySem.F.plainAttrs_list PySem.F.slot_list_append PySem.F.type_list_append mt_append pe_m (pa_cons pe_m pa_nil)) ?_
  | refine ws_continue ?_ | refine ws_break ?_ | refine ws_pass ?_)
local macro_rules | `(tactic| walk_at "l") => `(tactic| first
  | refine And.intro (Exists.intro _ rfl) ?_
  | refine And.intro trivial ?_
  | refine Exists.intro _ (And.intro rfl ?_)
  | refine Exists.intro _ (Exists.intro _ (And.intro rfl (And.intro rfl ?_)))
  | refine And.intro (And.intro (by walk_at "side") (by walk_at "side") : CDiv _ _) ?_
  | refine And.intro (.inl (And.intro (by walk_at "side") (by walk_at "side")) : CMul _ _) ?_
  | refine And.intro (.inr (And.intro (by walk_at "side") (by walk_at "side")) : CMul _ _) ?_
  | refine And.intro (And.intro (List.cons_ne_nil _ _) (And.intro (by walk_at "side") (And.intro (by walk_at "side") (by walk_at "side")))) ?_
  | refine And.intro (by walk_at "side") ?_)
local macro_rules | `(tactic| walk_at "step") => `(tactic| first
  | (refine isWE ?_; walk_at "we")
  | (refine isWT ?_; walk_at "wt")
  | (refine isWSs ?_; first | refine wss_nil ?_ | refine wss_one ?_ | refine wss_cons ?_)
  | (refine isWS ?_; walk_at "ws")
  | (refine isWDs ?_; first | refine wds_nil ?_ | refine wds_cons ?_)
  | (refine isWW ?_; first | refine ww_and1 ?_ | refine ww_or1 ?_ | refine ww_and ?_ | refine ww_or ?_)
  | refine allB_i fun _ _ _ _ _ => ?_
  | refine asI_i (allB_i fun _ _ _ _ _ => ?_)
  | (refine isWG ?_; first | walk_at "gi" | refine wg_tup rfl ?_ rfl)
  | (refine isWGs ?_; first | refine wgs_nil ?_ | refine wgs_consN ?_)
  | (refine isWO ?_; first | refine wo_none ?_ | refine wo_some ?_)
  | (refine isWA ?_; first | refine wa_nil ?_ | refine wa_cons ?_)
  | walk_at "l")
local macro_rules | `(tactic| walk_at "go") => `(tactic| repeat (walk_at "step"))
abbrev NPool : List Str := ["_law_script", "_law_k", "_law_cell", "_law_size", "_law_mixed"]
theorem scPool : FnScope NPool ["_law_script", "_law_k"] (defScope (topS 6)) := ⟨rfl, rfl, rfl, by decide +kernel, rfl, by decide +kernel, by decide +kernel⟩
section
variable {Pg : Program} {w : World} {K : PySem.W.Frag} {mg : Str → Option Value} {base : Heap}
def sPool : SpD := fun R Q => ∃ (ns : List Int) (k : Int), R = [.d (.list (ns.map .int)), .d (.int k)] ∧ (0 ≤ k ∧ k < 100) ∧ ∀ a b : Int, PoolOk b → Q (pool a b) R
theorem ok_pool {f : Addr} {fd : FuncData} (F : Fun K "_law_pool" "_law_pool" (topS 6) f fd) (hm : mg "_law_pool" = some (.ref f)) (hb : Binds K fd ["_law_script", "_law_k"] []) (ml : mg "len" = none) (mx : mg "max" = none) (mi : mg "int" = none) : Can Pg w K mg base 1 "_law_pool" sPool := by
  refine can_def F scPool hm hb (fun A Z Z' k ⟨a, b, h1, h2, h3⟩ => ⟨a, b, h1, h2, fun x y g => k _ _ (h3 x y g)⟩) (by decide) (fun R Q h => ?_) (fun cdv A outer s H E hgd hr R Q h => ?_)
  · obtain ⟨a, b, rfl, _⟩ := h
    rfl
  · obtain ⟨ns, k, rfl, ⟨hk0, hk1⟩, q⟩ := h
    show WSs _ [] _ [.d (.list (ns.map .int)), .d (.int k), .no, .no, .no] _
    have nd : NPool.Nodup := scPool.nd
    have rest : ∀ c : Int, WSs (cxOf CX0 Pg w K mg base NPool "_law_pool" (defScope (topS 6)) f cdv A outer s H E).nox [] ((defBody (topS 6)).drop 2) [.d (.list (ns.map .int)), .d (.int k), .d (.int c), .no, .no] (bodyEnds 2 Q) := fun c => by
      refine wss_cons ?_
      walk_at "si"
      refine we_max2 rfl mx rfl ?_
      walk_at "go"
      generalize (if -1 - c > c then -1 - c else c) = sz
      walk_at "go"
      refine we_intB mi rfl ?_
      walk_at "go"
      refine And.intro ⟨by decide, by decide, by decide⟩ ?_
      walk_at "go"
      exact q _ _ ⟨Int.emod_nonneg _ (by decide), Int.emod_lt_of_pos _ (by decide)⟩
    walk_at "go"
    refine ⟨fun e => ?_, fun e => ?_⟩
    · have e1 : k < (ns.length : Int) := by
        have := of_decide_eq_true e
        rw [List.length_map] at this
        exact this
      have hlt : k.toNat < ns.length := by omega
      walk_at "go"
      refine ⟨ns.map .int, .int ns[k.toNat], rfl, ?_, ?_⟩
      · exact atI_of hk0 (by rw [List.getElem?_map, List.getElem?_eq_getElem hlt]; rfl)
      exact rest ns[k.toNat]
    · refine wss_nil ?_
      exact rest 0
end
end K08
namespace K08
open PySem PySem.Spec PyProof.Rows L2 Dl
local macro_rules | `(tactic| walk_at "v") => `(tactic| first
  | refine we_d (i := 0) rfl (vis3 rfl) rfl ?_ | refine we_o (i := 0) rfl (vis3 rfl) rfl ?_
  | refine we_d (i := 1) rfl (vis3 rfl) rfl ?_ | refine we_o (i := 1) rfl (vis3 rfl) rfl ?_
  | refine we_d (i := 2) rfl (vis3 rfl) rfl ?_ | refine we_o (i := 2) rfl (vis3 rfl) rfl ?_
  | refine we_d (i := 3) rfl (vis3 rfl) rfl ?_ | refine we_o (i := 3) rfl (vis3 rfl) rfl ?_
  | refine we_d (i := 4) rfl (vis3 rfl) rfl ?_ | refine we_o (i := 4) rfl (vis3 rfl) rfl ?_
  | refine we_d (i := 5) rfl (vis3 rfl) rfl ?_ | refine we_o (i := 5) rfl (vis3 rfl) rfl ?_
  | refine we_d (i := 6) rfl (vis3 rfl) rfl ?_ | refine we_o (i := 6) rfl (vis3 rfl) rfl ?_
  | refine we_d (i := 7) rfl (vis3 rfl) rfl ?_ | refine we_o (i := 7) rfl (vis3 rfl) rfl ?_
  | refine we_d (i := 8) rfl (vis3 rfl) rfl ?_ | refine we_o (i := 8) rfl (vis3 rfl) rfl ?_
  | refine we_d (i := 9) rfl (vis3 rfl) rfl ?_ | refine we_o (i := 9) rfl (vis3 rfl) rfl ?_
  | refine we_d (i := 10) rfl (vis3 rfl) rfl ?_ | refine we_o (i := 10) rfl (vis3 rfl) rfl ?_
  | refine we_d (i := 11) rfl (vis3 rfl) rfl ?_ | refine we_o (i := 11) rfl (vis3 rfl) rfl ?_
  | refine we_d (i := 12) rfl (vis3 rfl) rfl ?_ | refine we_o (i := 12) rfl (vis3 rfl) rfl ?_
  | refine we_d (i := 13) rfl (vis3 rfl) rfl ?_ | refine we_o (i := 13) rfl (vis3 rfl) rfl ?_
  | refine we_d (i := 14) rfl (vis3 rfl) rfl ?_ | refine we_o (i := 14) rfl (vis3 rfl) rfl ?_
  | refine we_d (i := 15) rfl (vis3 rfl) rfl ?_ | refine we_o (i := 15) rfl (vis3 rfl) rfl ?_
  | refine we_d (i := 16) rfl (vis3 rfl) rfl ?_ | refine we_o (i := 16) rfl (vis3 rfl) rfl ?_
  | refine we_d (i := 17) rfl (vis3 rfl) rfl ?_ | refine we_o (i := 17) rfl (vis3 rfl) rfl ?_
  | refine we_d (i := 18) rfl (vis3 rfl) rfl ?_ | refine we_o (i := 18) rfl (vis3 rfl) rfl ?_
  | refine we_d (i := 19) rfl (vis3 rfl) rfl ?_ | refine we_o (i := 19) rfl (vis3 rfl) rfl ?_
  | refine we_d (i := 20) rfl (vis3 rfl) rfl ?_ | refine we_o (i := 20) rfl (vis3 rfl) rfl ?_)
local macro_rules | `(tactic| walk_at "si") => `(tactic| first
  | refine ws_set (i := 0) (by assumption) rfl (loc2 rfl) (by decide) ?_
  | refine ws_set (i := 1) (by assumption) rfl (loc2 rfl) (by decide) ?_
  | refine ws_set (i := 2) (by assumption) rfl (loc2 rfl) (by decide) ?_
  | refine ws_set (i := 3) (by assumption) rfl (loc2 rfl) (by decide) ?_
  | refine ws_set (i := 4) (by assumption) rfl (loc2 rfl) (by decide) ?_
  | refine ws_set (i := 5) (by assumption) rfl (loc2 rfl) (by decide) ?_
  | refine ws_set (i := 6) (by assumption) rfl (loc2 rfl) (by decide) ?_
  | refine ws_set (i := 7) (by assumption) rfl (loc2 rfl) (by decide) ?_
  | refine ws_set (i := 8) (by assumption) rfl (loc2 rfl) (by decide) ?_
  | refine ws_set (i := 9) (by assumption) rfl (loc2 rfl) (by decide) ?_
  | refine ws_set (i := 10) (by assumption) rfl (loc2 rfl) (by decide) ?_
  | refine ws_set (i := 11) (by assumption) rfl (loc2 rfl) (by decide) ?_
  | refine ws_set (i := 12) (by assumption) rfl (loc2 rfl) (by decide) ?_
  | refine ws_set (i := 13) (by assumption) rfl (loc2 rfl) (by decide) ?_
  | refine ws_set (i := 14) (by assumption) rfl (loc2 rfl) (by decide) ?_
  | refine ws_set (i := 15) (by assumption) rfl (loc2 rfl) (by decide) ?_
  | refine ws_set (i := 16) (by assumption) rfl (loc2 rfl) (by decide) ?_
  | refine ws_set (i := 17) (by assumption) rfl (loc2 rfl) (by decide) ?_
  | refine ws_set (i := 18) (by assumption) rfl (loc2 rfl) (by decide) ?_
  | refine ws_set (i := 19) (by assumption) rfl (loc2 rfl) (by decide) ?_
  | refine ws_set (i := 20) (by assumption) rfl (loc2 rfl) (by decide) ?_)
local macro_rules | `(tactic| walk_at "gi") => `(tactic| first
  | refine wg_name (i := 0) (by assumption) rfl (loc2 rfl) (by decide) ?_
  | refine wg_name (i := 1) (by assumption) rfl (loc2 rfl) (by decide) ?_
  | refine wg_name (i := 2) (by assumption) rfl (loc2 rfl) (by decide) ?_
  | refine wg_name (i := 3) (by assumption) rfl (loc2 rfl) (by decide) ?_
  | refine wg_name (i := 4) (by assumption) rfl (loc2 rfl) (by decide) ?_
  | refine wg_name (i := 5) (by assumption) rfl (loc2 rfl) (by decide) ?_
  | refine wg_name (i := 6) (by assumption) rfl (loc2 rfl) (by decide) ?_
  | refine wg_name (i := 7) (by assumption) rfl (loc2 rfl) (by decide) ?_
  | refine wg_name (i := 8) (by assumption) rfl (loc2 rfl) (by decide) ?_
  | refine wg_name (i := 9) (by assumption) rfl (loc2 rfl) (by decide) ?_
  | refine wg_name (i := 10) (by assumption) rfl (loc2 rfl) (by decide) ?_
  | refine wg_name (i := 11) (by assumption) rfl (loc2 rfl) (by decide) ?_
  | refine wg_name (i := 12) (by assumption) rfl (loc2 rfl) (by decide) ?_
  | refine wg_name (i := 13) (by assumption) rfl (loc2 rfl) (by decide) ?_
  | refine wg_name (i := 14) (by assumption) rfl (loc2 rfl) (by decide) ?_
  | refine wg_name (i := 15) (by assumption) rfl (loc2 rfl) (by decide) ?_
  | refine wg_name (i := 16) (by assumption) rfl (loc2 rfl) (by decide) ?_
  | refine wg_name (i := 17) (by assumption) rfl (loc2 rfl) (by decide) ?_
  | refine wg_name (i := 18) (by assumption) rfl (loc2 rfl) (by decide) ?_
  | refine wg_name (i := 19) (by assumption) rfl (loc2 rfl) (by decide) ?_
  | refine wg_name (i := 20) (by assumption) rfl (loc2 rfl) (by decide) ?_)
local macro_rules | `(tactic| walk_at "side") => `(tactic| first | exact rfl | exact Nat.le_trans (m := 1000) (Nat.le_of_ble_eq_true rfl) sz1000 | omega | decide | assumption)
local macro_rules | `(tactic| walk_at "we") => `(tactic| first
  | (refine isName ?_; walk_at "v")
  | refine we_int ?_ | refine we_bl ?_ | refine we_non ?_ | refine we_str ?_
  | refine we_ix ?_
  | refine we_addG ?_ | refine we_sub ?_ | refine we_mulG ?_ | refine we_div ?_ | refine we_mod ?_ | refine we_pow ?_ | refine we_neg ?_
  | refine we_gt ?_ | refine we_lt ?_ | refine we_ge ?_ | refine we_le ?_
  | refine we_tup ?_ | refine we_lst ?_ | refine we_dict0 ?_
  | refine we_len (by assumption) rfl ?_ | refine we_slG ?_ | refine we_eqG (by assumption) ?_ | refine we_neG (by assumption) ?_ | refine we_not ?_ | refine we_one ?_ | refine we_and ?_ | refine we_or ?_
  | refine we_call2 (by assumption) (by assumption) (by assumption) (by decide) rfl ?_)
local macro_rules | `(tactic| walk_at "wt") => `(tactic| first
  | refine wt_gt ?_ | refine wt_lt ?_ | refine wt_ge ?_ | refine wt_le ?_ | refine wt_not ?_
  | refine wt_eqG (by assumption) ?_ | refine wt_neG (by assumption) ?_ | refine wt_bool ?_ | refine wt_val ?_)
local macro_rules | `(tactic| walk_at "ws") => `(tactic| first
  | refine ws_ret ?_ | (refine isSet ?_; walk_at "si") | refine ws_if ?_
  | refine ws_append (pe_bm PySem.F.plainAttrs_list PySem.F.slot_list_append PySem.F.type_list_append mt_append pe_m (pa_cons pe_m pa_nil)) ?_
  | refine ws_continue ?_ | refine ws_break ?_ | refine ws_pass ?_)
local macro_rules | `(tactic| walk_at "l") => `(tactic| first
  | refine And.intro (Exists.intro _ rfl) ?_
  | refine And.intro trivial ?_
  | refine Exists.intro _ (And.intro rfl ?_)
  | refine Exists.intro _ (Exists.intro _ (And.intro rfl (And.intro rfl ?_)))
  | refine And.intro (And.intro (by walk_at "side") (by walk_at "side") : CDiv _ _) ?_
  | refine And.intro (.inl (And.intro (by walk_at "side") (by walk_at "side")) : CMul _ _) ?_
  | refine And.intro (.inr (And.intro (by walk_at "side") (by walk_at "side")) : CMul _ _) ?_
  | refine And.intro (And.intro (List.cons_ne_nil _ _) (And.intro (by walk_at "side") (And.intro (by walk_at "side") (by walk_at "side")))) ?_
  | refine And.intro (by walk_at "side") ?_)
local macro_rules | `(tactic| walk_at "step") => `(tactic| first
  | (refine isWE ?_; walk_at "we")
  | (refine isWT ?_; walk_at "wt")
  | (refine isWSs ?_; first | refine wss_nil ?_ | refine wss_one ?_ | refine wss_cons ?_)
  | (refine isWS ?_; walk_at "ws")
  | (refine isWDs ?_; first | refine wds_nil ?_ | refine wds_cons ?_)
  | (refine isWW ?_; first | refine ww_and1 ?_ | refine ww_or1 ?_ | refine ww_and ?_ | refine ww_or ?_)
  | refine allB_i fun _ _ _ _ _ => ?_
  | refine asI_i (allB_i fun _ _ _ _ _ => ?_)
  | (refine isWG ?_; first | walk_at "gi" | refine wg_tup rfl ?_ rfl)
  | (refine isWGs ?_; first | refine wgs_nil ?_ | refine wgs_consN ?_)
  | (refine isWO ?_; first | refine wo_none ?_ | refine wo_some ?_)
  | (refine isWA ?_; first | refine wa_nil ?_ | refine wa_cons ?_)
  | walk_at "l")
local macro_rules | `(tactic| walk_at "go") => `(tactic| repeat (walk_at "step"))
set_option maxHeartbeats 2000000

abbrev NChg : List Str := ["_law_pool_here", "_law_image_here", "_law_found", "_law_number", "_law_turn", "_law_at", "_law_many_here", "_law_spots_here", "_law_puts", "_law_leans", "_law_spot", "_law_lean"]
theorem scChg : FnScope NChg ["_law_pool_here", "_law_image_here"] (defScope (topS 11)) := ⟨rfl, rfl, rfl, by decide +kernel, rfl, by decide +kernel, by decide +kernel⟩
def imgE (np nn : Nat) : D := imgD (tkE np) (nsE nn) (dtE np)
def manyE (np nn : Nat) : Int := manyF (nsE nn) (dtE np)
def pageL (np nn : Nat) (at_ : Int) : List D := match slotsF (tkE np) (nsE nn) (dtE np) at_ with
  | .tuple ds => ds
  | _ => []
def Sizes (np nn : Nat) : Prop := (2 ≤ np ∧ np ≤ 4) ∧ (1 ≤ nn ∧ nn ≤ 7)
theorem manyE_eq (np nn : Nat) : manyE np nn = 1 + ((nn : Int) + 4) / 4 + np := by
  unfold manyE manyF nodP nsE dtE
  rw [List.length_cons, List.length_replicate, List.length_replicate]
  omega
theorem page_is {np nn : Nat} (hs : Sizes np nn) {at_ : Int} (h0 : 0 ≤ at_) (h1 : at_ < manyE np nn) : slotsF (tkE np) (nsE nn) (dtE np) at_ = .tuple (pageL np nn at_) ∧ 1 ≤ (pageL np nn at_).length ∧ (pageL np nn at_).length ≤ 5 := by
  obtain ⟨⟨a1, a2⟩, a3, a4⟩ := hs
  have all : ∀ np ∈ [2, 3, 4], ∀ nn ∈ [1, 2, 3, 4, 5, 6, 7], ∀ k ∈ List.range 8, (k : Int) < manyE np nn →
      (match slotsF (tkE np) (nsE nn) (dtE np) (k : Int) with | .tuple ds => decide (1 ≤ ds.length ∧ ds.length ≤ 5) | _ => false) = true := by decide +kernel
  have hm := manyE_eq np nn
  have m1 : np ∈ [2, 3, 4] := by
    have : np = 2 ∨ np = 3 ∨ np = 4 := by omega
    rcases this with h | h | h <;> subst h <;> decide
  have m2 : nn ∈ [1, 2, 3, 4, 5, 6, 7] := by
    have : nn = 1 ∨ nn = 2 ∨ nn = 3 ∨ nn = 4 ∨ nn = 5 ∨ nn = 6 ∨ nn = 7 := by omega
    rcases this with h | h | h | h | h | h | h <;> subst h <;> decide
  have e : at_ = ((at_.toNat : Nat) : Int) := by omega
  have h := all np m1 nn m2 at_.toNat (List.mem_range.mpr (by omega)) (by rw [← e]; exact h1)
  rw [← e] at h
  unfold pageL
  cases q : slotsF (tkE np) (nsE nn) (dtE np) at_ with
  | tuple ds =>
    rw [q] at h
    have h' := of_decide_eq_true h
    exact ⟨rfl, h'.1, h'.2⟩
  | _ =>
    rw [q] at h
    cases h
structure GoodC (np nn : Nat) (c : Chg) : Prop where
  n0 : 0 ≤ c.n
  a0 : 0 ≤ c.at_
  a1 : c.at_ < manyE np nn
  sp : (spots c).Pairwise (· < ·)
  sb : ∀ s ∈ spots c, 0 ≤ s ∧ s < ((pageL np nn c.at_).length : Int)
  ne : spots c ≠ []
  le : c.leans.Pairwise (· < ·)
  lb : ∀ l ∈ c.leans, 0 ≤ l ∧ l < c.n
  pl : c.puts.length ≤ 5
  ll : c.leans.length ≤ 30
  n1 : c.n < 100
  am : c.at_ < 100
  pb : ∀ p ∈ c.puts, (0 ≤ p.1 ∧ p.1 < 100) ∧ 0 ≤ p.2 ∧ p.2 < 2000
structure GoodCs (np nn : Nat) (cs : List Chg) : Prop where
  len : cs.length ≤ 13
  inc : (nums cs).Pairwise (· < ·)
  all : ∀ c ∈ cs, GoodC np nn c
theorem GoodCs.small {np nn : Nat} {cs : List Chg} (g : GoodCs np nn cs) : Small cs := ⟨Nat.le_trans g.len (by decide), fun c h => ⟨Nat.le_trans (g.all c h).pl (by decide), Nat.le_trans (g.all c h).ll (by decide)⟩⟩
section
variable {Pg : Program} {w : World} {K : PySem.W.Frag} {mg : Str → Option Value} {base : Heap}
def sChg : SpD := fun R Q => ∃ (a b : Int) (np nn : Nat), R = [pool a b, .d (imgE np nn)] ∧ (PoolOk b ∧ Sizes np nn) ∧ ∀ (a' b' : Int) (cs : List Chg), PoolOk b' → GoodCs np nn cs → Q (.own (.lst (cs.map chgD))) [pool a' b', .d (imgE np nn)]
/-- a filter over 0, 1, .. -/
def upTo (ss : List Int) (n : Int) : Prop := ss.Pairwise (· < ·) ∧ ∀ s ∈ ss, 0 ≤ s ∧ s < n
theorem upTo.more {ss : List Int} {i : Nat} (h : upTo ss i) : upTo ss ((i + 1 : Nat) : Int) := ⟨h.1, fun s hs => ⟨(h.2 s hs).1, by have := (h.2 s hs).2; omega⟩⟩
theorem upTo.add {ss : List Int} {i : Nat} (h : upTo ss i) : upTo (ss ++ [(i : Int)]) ((i + 1 : Nat) : Int) := by
  refine ⟨List.pairwise_append.mpr ⟨h.1, List.pairwise_singleton _ _, fun x hx y hy => ?_⟩, fun s hs => ?_⟩
  · rw [List.mem_singleton] at hy
    subst hy
    exact (h.2 x hx).2
  · rcases List.mem_append.mp hs with hs | hs
    · exact ⟨(h.2 s hs).1, by have := (h.2 s hs).2; omega⟩
    · rw [List.mem_singleton] at hs
      subst hs
      exact ⟨by omega, by omega⟩
theorem upTo.len {ss : List Int} {n : Nat} (h : upTo ss n) : ss.length ≤ n := by
  have key : ∀ (ss : List Int) (lo n : Int), lo ≤ n → ss.Pairwise (· < ·) → (∀ s ∈ ss, lo ≤ s ∧ s < n) → (ss.length : Int) ≤ n - lo := by
    intro ss
    induction ss with
    | nil => intro lo n hl _ _; simpa using (by omega : (0 : Int) ≤ n - lo)
    | cons x r ih =>
      intro lo n hl hp hb
      have hx := hb x List.mem_cons_self
      have hr := List.pairwise_cons.mp hp
      have := ih (x + 1) n (by omega) hr.2 fun s hs => ⟨by have := hr.1 s hs; omega, (hb s (List.mem_cons_of_mem _ hs)).2⟩
      rw [List.length_cons]
      omega
  have := key ss 0 n (by omega) h.1 h.2
  omega
local macro_rules | `(tactic| walk_at "we") => `(tactic| refine we_orL (a := .ListComp _ _ _ _) ?_)
/-- the rest of a turn: from the puts on -/
def restB (st : Stmt) : List Stmt := match (defBody st).getD 2 (.Pass ⟨0, 0, 0, 0⟩) with
  | .For _ _ b _ _ => b.drop 4
  | _ => []
theorem ok_chg {f : Addr} {fd : FuncData} (F : Fun K "_law_changes" "_law_changes" (topS 11) f fd) (hm : mg "_law_changes" = some (.ref f)) (hb : Binds K fd ["_law_pool_here", "_law_image_here"] []) (ml : mg "len" = none) (mr : mg "range" = none) (mt : mg "tuple" = none)
    (cDraw : Can Pg w K mg base 1 "_law_draw" sDraw) (cMany : Can Pg w K mg base 1 "_law_many" sMany) (cSlots : Can Pg w K mg base 1 "_law_slots" sSlots) : Can Pg w K mg base 2 "_law_changes" sChg := by
  refine can_def F scChg hm hb (fun A Z Z' k ⟨a, b, c, d, h1, h2, h3⟩ => ⟨a, b, c, d, h1, h2, fun x y z g1 g2 => k _ _ (h3 x y z g1 g2)⟩) (by decide) (fun R Q h => ?_) (fun cdv A outer s H E hgd hr R Q h => ?_)
  · obtain ⟨a, b, c, d, rfl, _⟩ := h
    rfl
  · obtain ⟨a, b, np, nn, rfl, ⟨hp, hs⟩, q⟩ := h
    show WSs _ [0] _ [pool a b, .d (imgE np nn), .no, .no, .no, .no, .no, .no, .no, .no, .no, .no] _
    have nd : NChg.Nodup := scChg.nd
    walk_at "go"
    refine ws_forR (js := [4]) PassesOwn.never rfl mr rfl ?_
    walk_at "go"
    refine ⟨_, _, _, rfl, ⟨by decide, by decide⟩, hp, fun r1 a1 b1 hr1 hp1 => ⟨rfl, ?_⟩⟩
    walk_at "go"
    refine ⟨fun i R' => ∃ (a b : Int) (cs : List Chg) (nm : Int) (s4 s5 s6 s7 s8 s9 : SV), R' = [pool a b, .d (imgE np nn), .own (.lst (cs.map chgD)), .d (.int nm), s4, s5, s6, s7, s8, s9, .no, .no] ∧ PoolOk b ∧ cs.length = i ∧ (nums cs).Pairwise (· < ·) ∧ (∀ c ∈ cs, GoodC np nn c ∧ c.n ≤ nm) ∧ (-1 ≤ nm ∧ nm ≤ 2 * i - 1),
      ⟨a1, b1, [], -1, _, _, _, _, _, _, rfl, hp1, rfl, .nil, (fun c h => by cases h), by omega, by omega⟩, fun i R' hlt h => ?_, fun R' h => ?_⟩
    · obtain ⟨a, b, cs, nm, s4, s5, s6, s7, s8, s9, rfl, hp, hl, hinc, hall, hn0, hn1⟩ := h
      walk_at "gi"
      walk_at "go"
      refine ⟨_, _, _, rfl, ⟨by decide, by decide⟩, hp, fun r2 a2 b2 hr2 hp2 => ⟨rfl, ?_⟩⟩
      walk_at "go"
      refine ⟨tkE np, nsE nn, dtE np, rfl, ⟨rfl, ?_⟩⟩
      walk_at "go"
      refine ⟨_, _, _, rfl, ⟨by rw [show manyF (nsE nn) (dtE np) = manyE np nn from rfl, manyE_eq]; omega, by rw [show manyF (nsE nn) (dtE np) = manyE np nn from rfl, manyE_eq]; have := hs; unfold Sizes at this; omega⟩, hp2, fun r3 a3 b3 hr3 hp3 => ⟨rfl, ?_⟩⟩
      walk_at "go"
      refine ⟨tkE np, nsE nn, dtE np, r3, rfl, hr3, ⟨rfl, ?_⟩⟩
      rw [(page_is hs hr3.1 hr3.2).1]
      walk_at "go"
      refine we_lc1 [("_law_spot", 10)] [10] rfl nd (blkOk_by (N := NChg) (sc := defScope (topS 11)) (by decide +kernel)) (by decide) (by decide) (.rng mr rfl rfl rfl ?_)
      walk_at "go"
      have hL := (page_is hs hr3.1 hr3.2).2
      generalize hLn : (pageL np nn r3).length = Ln at *
      refine ⟨⟨by omega, by omega⟩, ?_⟩
      refine ⟨szle (by rw [List.length_map, List.length_range]; omega), fun j acc R' => ∃ (a b : Int) (ss : List Int), R' = [pool a b, .d (imgE np nn), .own (.lst (cs.map chgD)), .d (.int (nm + 1 + r2 / 2)), .d (.int i), .d (.int r3), .d (.int Ln), s7, s8, s9, .no, .no] ∧ PoolOk b ∧ acc = ss.map .int ∧ upTo ss j, ⟨_, _, [], rfl, hp3, rfl, .nil, fun s hs => by cases hs⟩, fun j x acc R' hx h => ?_, fun acc R' h => ?_⟩
      · obtain ⟨a4, b4, ss, rfl, hp4, rfl, hu⟩ := h
        rw [List.getElem?_map, Int.toNat_natCast] at hx
        cases hq : (List.range Ln)[j]? with
        | none => rw [hq] at hx; cases hx
        | some j' =>
          rw [hq] at hx
          cases hx
          have ej : j' = j := by
            have := (List.getElem?_eq_some_iff.mp hq).2
            rw [List.getElem_range] at this
            exact this.symm
          subst ej
          unfold Tn1
          walk_at "go"
          refine ⟨_, _, _, rfl, ⟨by decide, by decide⟩, hp4, fun r5 a5 b5 hr5 hp5 => ⟨rfl, ?_⟩⟩
          walk_at "go"
          refine ⟨fun _ => ?_, fun _ => ?_⟩
          · walk_at "go"
            exact ⟨a5, b5, ss ++ [(j' : Int)], rfl, hp5, by rw [List.map_append]; rfl, hu.add⟩
          · exact ⟨a5, b5, ss, rfl, hp5, rfl, hu.more⟩
      · obtain ⟨a4, b4, ss, rfl, hp4, rfl, hu⟩ := h
        rw [List.length_map, List.length_range] at hu
        have rest : ∀ (D' : DEnds) (a b : Int) (ss : List Int), PoolOk b → upTo ss Ln → ss ≠ [] → (∀ (a b : Int) (c : Chg) s7 s8 s9, PoolOk b → GoodC np nn c → c.n = nm + 1 + r2 / 2 → D'.nx [pool a b, .d (imgE np nn), .own (.lst ((cs ++ [c]).map chgD)), .d (.int (nm + 1 + r2 / 2)), .d (.int i), .d (.int r3), .d (.int Ln), s7, s8, s9, .no, .no]) →
            WSs (cxOf CX0 Pg w K mg base NChg "_law_changes" (defScope (topS 11)) f cdv A outer s H E).nox [0] (restB (topS 11)) [pool a b, .d (imgE np nn), .own (.lst (cs.map chgD)), .d (.int (nm + 1 + r2 / 2)), .d (.int i), .d (.int r3), .d (.int Ln), .own (.lst (ss.map .int)), s8, s9, .no, .no] D' := fun D' a b ss hp hu hne hD => by
          refine wss_fz 7 (ds := ss.map .int) rfl (by decide) ?_
          walk_at "go"
          generalize hN : nm + 1 + r2 / 2 = N at *
          refine we_tupleL mt rfl ?_
          refine we_lc0 [("_law_spot", 10)] [10] rfl nd (blkOk_by (N := NChg) (sc := defScope (topS 11)) (by decide +kernel)) (by decide) (by decide) (.list ?_)
          walk_at "go"
          refine lc_pure0 (as := ss) (enc := PyData.int) (g := fun s => putD2 (s, N * 10 + s)) [pool a b, .d (imgE np nn), .own (.lst (cs.map chgD)), .d (.int N), .d (.int i), .d (.int r3), .d (.int Ln), .d (.list (ss.map .int)), s8, s9, .no, .no] rfl (szle (by have := hu.len; omega)) (fun s hs => ?_) ?_
          · walk_at "go"
            rfl
          refine ⟨_, rfl, ?_⟩
          have ep : (ss.map fun s => putD2 (s, N * 10 + s)) = (ss.map fun s => (s, N * 10 + s)).map putD2 := by
            rw [List.map_map]
            rfl
          rw [ep]
          walk_at "go"
          refine we_tupleL mt rfl ?_
          refine we_lc1 [("_law_lean", 11)] [11] rfl nd (blkOk_by (N := NChg) (sc := defScope (topS 11)) (by decide +kernel)) (by decide) (by decide) (.rng mr rfl rfl rfl ?_)
          walk_at "go"
          refine ⟨szle (by rw [List.length_map, List.length_range]; omega), fun j acc R' => ∃ (a b : Int) (ls : List Int), R' = [pool a b, .d (imgE np nn), .own (.lst (cs.map chgD)), .d (.int N), .d (.int i), .d (.int r3), .d (.int Ln), .d (.list (ss.map .int)), .d (.tuple ((ss.map fun s => (s, N * 10 + s)).map putD2)), s9, .no, .no] ∧ PoolOk b ∧ acc = ls.map .int ∧ upTo ls j, ⟨_, _, [], rfl, hp, rfl, .nil, fun s hs => by cases hs⟩, fun j x acc R' hx h => ?_, fun acc R' h => ?_⟩
          · obtain ⟨a4, b4, ls, rfl, hp4, rfl, hl⟩ := h
            rw [List.getElem?_map] at hx
            cases hq : (List.range N.toNat)[j]? with
            | none => rw [hq] at hx; cases hx
            | some j' =>
              rw [hq] at hx
              cases hx
              have ej : j' = j := by
                have := (List.getElem?_eq_some_iff.mp hq).2
                rw [List.getElem_range] at this
                exact this.symm
              subst ej
              unfold Tn1
              walk_at "go"
              refine ⟨_, _, _, rfl, ⟨by decide, by decide⟩, hp4, fun r5 a5 b5 hr5 hp5 => ⟨rfl, ?_⟩⟩
              walk_at "go"
              refine ⟨fun _ => ?_, fun _ => ?_⟩
              · walk_at "go"
                exact ⟨a5, b5, ls ++ [(j' : Int)], rfl, hp5, by rw [List.map_append]; rfl, hl.add⟩
              · exact ⟨a5, b5, ls, rfl, hp5, rfl, hl.more⟩
          obtain ⟨a4, b4, ls, rfl, hp4, rfl, hul⟩ := h
          rw [List.length_map, List.length_range] at hul
          refine ⟨_, rfl, ?_⟩
          walk_at "go"
          have es : spots ⟨N, r3, ss.map fun s => (s, N * 10 + s), ls⟩ = ss := by
            unfold spots
            rw [List.map_map]
            exact List.map_id _
          have e5 := hu.len
          have e6 := hul.len
          refine ⟨?_, ?_⟩
          · rw [List.length_map]
            exact Nat.lt_of_le_of_lt (show _ ≤ 10000 by omega) (by decide)
          have fi := hD a4 b4 ⟨N, r3, ss.map fun s => (s, N * 10 + s), ls⟩ (.d (.list (ss.map .int))) (.d (.tuple ((ss.map fun s => (s, N * 10 + s)).map putD2))) (.d (.tuple (ls.map .int))) hp4 ⟨by show 0 ≤ N; omega, hr3.1, hr3.2, by rw [es]; exact hu.1, by rw [es]; intro s hs; show 0 ≤ s ∧ s < ((pageL np nn r3).length : Int); rw [hLn]; exact hu.2 s hs, by rw [es]; exact hne, hul.1, fun l hl => by have := hul.2 l hl; show 0 ≤ l ∧ l < N; omega, by show (ss.map _).length ≤ 5; rw [List.length_map]; omega, by show ls.length ≤ 30; omega, by show N < 100; omega, by show r3 < 100; have h1 := hr3.2; have h2 := manyE_eq np nn; have h3 := hs; unfold Sizes at h3; rw [show manyF (nsE nn) (dtE np) = manyE np nn from rfl] at h1; omega, fun p hp => by
            obtain ⟨s, hs', rfl⟩ := List.mem_map.mp hp
            have := hu.2 s hs'
            exact ⟨⟨this.1, by show s < 100; omega⟩, by show 0 ≤ N * 10 + s; omega, by show N * 10 + s < 2000; omega⟩⟩ rfl
          rw [List.map_append] at fi
          exact fi
        have fin : ∀ c : Chg, GoodC np nn c → c.n = nm + 1 + r2 / 2 → (cs ++ [c]).length = i + 1 ∧ (nums (cs ++ [c])).Pairwise (· < ·) ∧ (∀ c' ∈ cs ++ [c], GoodC np nn c' ∧ c'.n ≤ nm + 1 + r2 / 2) ∧ (-1 ≤ nm + 1 + r2 / 2 ∧ nm + 1 + r2 / 2 ≤ 2 * ((i + 1 : Nat) : Int) - 1) := fun c g1 g2 => by
          refine ⟨by rw [List.length_append, hl]; rfl, ?_, fun c' h => ?_, by omega, by omega⟩
          · unfold nums
            rw [List.map_append]
            refine List.pairwise_append.mpr ⟨hinc, List.pairwise_singleton _ _, fun x hx y hy => ?_⟩
            obtain ⟨o, ho, rfl⟩ := List.mem_map.mp hx
            have h1 := (hall o ho).2
            have h2 : y = c.n := by
              rw [List.map_cons, List.map_nil, List.mem_singleton] at hy
              exact hy
            show o.n < y
            omega
          · rcases List.mem_append.mp h with h | h
            · have h1 := hall c' h
              exact ⟨h1.1, by omega⟩
            · rw [List.mem_singleton] at h
              subst h
              exact ⟨g1, by omega⟩
        refine ⟨_, rfl, fun hne => ?_, fun he => ?_⟩
        · refine rest _ a4 b4 ss hp4 hu (fun z => hne (by rw [z]; rfl)) fun a b c s7 s8 s9 g1 g2 g3 => ?_
          obtain ⟨f1, f2, f3, f4, f5⟩ := fin c g2 g3
          exact ⟨a, b, cs ++ [c], _, _, _, _, _, _, _, rfl, g1, f1, f2, f3, f4, f5⟩
        · have e0 : ss = [] := List.map_eq_nil_iff.mp he
          subst e0
          iterate 6 walk_at "step"
          refine rest _ a4 b4 [0] hp4 ⟨List.pairwise_singleton _ _, fun s hs => by rw [List.mem_singleton] at hs; subst hs; omega⟩ (List.cons_ne_nil _ _) fun a b c s7 s8 s9 g1 g2 g3 => ?_
          obtain ⟨f1, f2, f3, f4, f5⟩ := fin c g2 g3
          exact ⟨a, b, cs ++ [c], _, _, _, _, _, _, _, rfl, g1, f1, f2, f3, f4, f5⟩
    · obtain ⟨a, b, cs, nm, s4, s5, s6, s7, s8, s9, rfl, hp, hl, hinc, hall, hn0, hn1⟩ := h
      walk_at "go"
      exact q _ _ _ hp ⟨by omega, hinc, fun c h => (hall c h).1⟩
end
end K08
namespace K08
open PySem PySem.Spec PyProof.Rows L2 Dl
local macro_rules | `(tactic| walk_at "v") => `(tactic| first
  | refine we_d (i := 0) rfl (vis3 rfl) rfl ?_ | refine we_o (i := 0) rfl (vis3 rfl) rfl ?_
  | refine we_d (i := 1) rfl (vis3 rfl) rfl ?_ | refine we_o (i := 1) rfl (vis3 rfl) rfl ?_
  | refine we_d (i := 2) rfl (vis3 rfl) rfl ?_ | refine we_o (i := 2) rfl (vis3 rfl) rfl ?_
  | refine we_d (i := 3) rfl (vis3 rfl) rfl ?_ | refine we_o (i := 3) rfl (vis3 rfl) rfl ?_
  | refine we_d (i := 4) rfl (vis3 rfl) rfl ?_ | refine we_o (i := 4) rfl (vis3 rfl) rfl ?_
  | refine we_d (i := 5) rfl (vis3 rfl) rfl ?_ | refine we_o (i := 5) rfl (vis3 rfl) rfl ?_
  | refine we_d (i := 6) rfl (vis3 rfl) rfl ?_ | refine we_o (i := 6) rfl (vis3 rfl) rfl ?_
  | refine we_d (i := 7) rfl (vis3 rfl) rfl ?_ | refine we_o (i := 7) rfl (vis3 rfl) rfl ?_
  | refine we_d (i := 8) rfl (vis3 rfl) rfl ?_ | refine we_o (i := 8) rfl (vis3 rfl) rfl ?_
  | refine we_d (i := 9) rfl (vis3 rfl) rfl ?_ | refine we_o (i := 9) rfl (vis3 rfl) rfl ?_
  | refine we_d (i := 10) rfl (vis3 rfl) rfl ?_ | refine we_o (i := 10) rfl (vis3 rfl) rfl ?_
  | refine we_d (i := 11) rfl (vis3 rfl) rfl ?_ | refine we_o (i := 11) rfl (vis3 rfl) rfl ?_
  | refine we_d (i := 12) rfl (vis3 rfl) rfl ?_ | refine we_o (i := 12) rfl (vis3 rfl) rfl ?_
  | refine we_d (i := 13) rfl (vis3 rfl) rfl ?_ | refine we_o (i := 13) rfl (vis3 rfl) rfl ?_
  | refine we_d (i := 14) rfl (vis3 rfl) rfl ?_ | refine we_o (i := 14) rfl (vis3 rfl) rfl ?_
  | refine we_d (i := 15) rfl (vis3 rfl) rfl ?_ | refine we_o (i := 15) rfl (vis3 rfl) rfl ?_
  | refine we_d (i := 16) rfl (vis3 rfl) rfl ?_ | refine we_o (i := 16) rfl (vis3 rfl) rfl ?_
  | refine we_d (i := 17) rfl (vis3 rfl) rfl ?_ | refine we_o (i := 17) rfl (vis3 rfl) rfl ?_
  | refine we_d (i := 18) rfl (vis3 rfl) rfl ?_ | refine we_o (i := 18) rfl (vis3 rfl) rfl ?_
  | refine we_d (i := 19) rfl (vis3 rfl) rfl ?_ | refine we_o (i := 19) rfl (vis3 rfl) rfl ?_
  | refine we_d (i := 20) rfl (vis3 rfl) rfl ?_ | refine we_o (i := 20) rfl (vis3 rfl) rfl ?_)
local macro_rules | `(tactic| walk_at "si") => `(tactic| first
  | refine ws_set (i := 0) (by assumption) rfl (loc2 rfl) (by decide) ?_
  | refine ws_set (i := 1) (by assumption) rfl (loc2 rfl) (by decide) ?_
  | refine ws_set (i := 2) (by assumption) rfl (loc2 rfl) (by decide) ?_
  | refine ws_set (i := 3) (by assumption) rfl (loc2 rfl) (by decide) ?_
  | refine ws_set (i := 4) (by assumption) rfl (loc2 rfl) (by decide) ?_
  | refine ws_set (i := 5) (by assumption) rfl (loc2 rfl) (by decide) ?_
  | refine ws_set (i := 6) (by assumption) rfl (loc2 rfl) (by decide) ?_
  | refine ws_set (i := 7) (by assumption) rfl (loc2 rfl) (by decide) ?_
  | refine ws_set (i := 8) (by assumption) rfl (loc2 rfl) (by decide) ?_
  | refine ws_set (i := 9) (by assumption) rfl (loc2 rfl) (by decide) ?_
  | refine ws_set (i := 10) (by assumption) rfl (loc2 rfl) (by decide) ?_
  | refine ws_set (i := 11) (by assumption) rfl (loc2 rfl) (by decide) ?_
  | refine ws_set (i := 12) (by assumption) rfl (loc2 rfl) (by decide) ?_
  | refine ws_set (i := 13) (by assumption) rfl (loc2 rfl) (by decide) ?_
  | refine ws_set (i := 14) (by assumption) rfl (loc2 rfl) (by decide) ?_
  | refine ws_set (i := 15) (by assumption) rfl (loc2 rfl) (by decide) ?_
  | refine ws_set (i := 16) (by assumption) rfl (loc2 rfl) (by decide) ?_
  | refine ws_set (i := 17) (by assumption) rfl (loc2 rfl) (by decide) ?_
  | refine ws_set (i := 18) (by assumption) rfl (loc2 rfl) (by decide) ?_
  | refine ws_set (i := 19) (by assumption) rfl (loc2 rfl) (by decide) ?_
  | refine ws_set (i := 20) (by assumption) rfl (loc2 rfl) (by decide) ?_)
local macro_rules | `(tactic| walk_at "gi") => `(tactic| first
  | refine wg_name (i := 0) (by assumption) rfl (loc2 rfl) (by decide) ?_
  | refine wg_name (i := 1) (by assumption) rfl (loc2 rfl) (by decide) ?_
  | refine wg_name (i := 2) (by assumption) rfl (loc2 rfl) (by decide) ?_
  | refine wg_name (i := 3) (by assumption) rfl (loc2 rfl) (by decide) ?_
  | refine wg_name (i := 4) (by assumption) rfl (loc2 rfl) (by decide) ?_
  | refine wg_name (i := 5) (by assumption) rfl (loc2 rfl) (by decide) ?_
  | refine wg_name (i := 6) (by assumption) rfl (loc2 rfl) (by decide) ?_
  | refine wg_name (i := 7) (by assumption) rfl (loc2 rfl) (by decide) ?_
  | refine wg_name (i := 8) (by assumption) rfl (loc2 rfl) (by decide) ?_
  | refine wg_name (i := 9) (by assumption) rfl (loc2 rfl) (by decide) ?_
  | refine wg_name (i := 10) (by assumption) rfl (loc2 rfl) (by decide) ?_
  | refine wg_name (i := 11) (by assumption) rfl (loc2 rfl) (by decide) ?_
  | refine wg_name (i := 12) (by assumption) rfl (loc2 rfl) (by decide) ?_
  | refine wg_name (i := 13) (by assumption) rfl (loc2 rfl) (by decide) ?_
  | refine wg_name (i := 14) (by assumption) rfl (loc2 rfl) (by decide) ?_
  | refine wg_name (i := 15) (by assumption) rfl (loc2 rfl) (by decide) ?_
  | refine wg_name (i := 16) (by assumption) rfl (loc2 rfl) (by decide) ?_
  | refine wg_name (i := 17) (by assumption) rfl (loc2 rfl) (by decide) ?_
  | refine wg_name (i := 18) (by assumption) rfl (loc2 rfl) (by decide) ?_
  | refine wg_name (i := 19) (by assumption) rfl (loc2 rfl) (by decide) ?_
  | refine wg_name (i := 20) (by assumption) rfl (loc2 rfl) (by decide) ?_)
local macro_rules | `(tactic| walk_at "side") => `(tactic| first | exact rfl | exact Nat.le_trans (m := 1000) (Nat.le_of_ble_eq_true rfl) sz1000 | omega | decide | assumption)
local macro_rules | `(tactic| walk_at "we") => `(tactic| first
  | (refine isName ?_; walk_at "v")
  | refine we_int ?_ | refine we_bl ?_ | refine we_non ?_ | refine we_str ?_
  | refine we_ix ?_
  | refine we_addG ?_ | refine we_sub ?_ | refine we_mulG ?_ | refine we_div ?_ | refine we_mod ?_ | refine we_pow ?_ | refine we_neg ?_
  | refine we_gt ?_ | refine we_lt ?_ | refine we_ge ?_ | refine we_le ?_
  | refine we_tup ?_ | refine we_lst ?_ | refine we_dict0 ?_
  | refine we_len (by assumption) rfl ?_ | refine we_slG ?_ | refine we_eqG (by assumption) ?_ | refine we_neG (by assumption) ?_ | refine we_not ?_ | refine we_one ?_ | refine we_and ?_ | refine we_or ?_
  | refine we_call2 (by assumption) (by assumption) (by assumption) (by decide) rfl ?_)
local macro_rules | `(tactic| walk_at "wt") => `(tactic| first
  | refine wt_gt ?_ | refine wt_lt ?_ | refine wt_ge ?_ | refine wt_le ?_ | refine wt_not ?_
  | refine wt_eqG (by assumption) ?_ | refine wt_neG (by assumption) ?_ | refine wt_bool ?_ | refine wt_val ?_)
local macro_rules | `(tactic| walk_at "ws") => `(tactic| first
  | refine ws_ret ?_ | (refine isSet ?_; walk_at "si") | refine ws_if ?_
  | refine ws_append (pe_bm PySem.F.plainAttrs_list PySem.F.slot_list_append PySem.F.type_list_append mt_append pe_m (pa_cons pe_m pa_nil)) ?_
  | refine ws_continue ?_ | refine ws_break ?_ | refine ws_pass ?_)
local macro_rules | `(tactic| walk_at "l") => `(tactic| first
  | refine And.intro (Exists.intro _ rfl) ?_
  | refine And.intro trivial ?_
  | refine Exists.intro _ (And.intro rfl ?_)
  | refine Exists.intro _ (Exists.intro _ (And.intro rfl (And.intro rfl ?_)))
  | refine And.intro (And.intro (by walk_at "side") (by walk_at "side") : CDiv _ _) ?_
  | refine And.intro (.inl (And.intro (by walk_at "side") (by walk_at "side")) : CMul _ _) ?_
  | refine And.intro (.inr (And.intro (by walk_at "side") (by walk_at "side")) : CMul _ _) ?_
  | refine And.intro (And.intro (List.cons_ne_nil _ _) (And.intro (by walk_at "side") (And.intro (by walk_at "side") (by walk_at "side")))) ?_
  | refine And.intro (by walk_at "side") ?_)
local macro_rules | `(tactic| walk_at "step") => `(tactic| first
  | (refine isWE ?_; walk_at "we")
  | (refine isWT ?_; walk_at "wt")
  | (refine isWSs ?_; first | refine wss_nil ?_ | refine wss_one ?_ | refine wss_cons ?_)
  | (refine isWS ?_; walk_at "ws")
  | (refine isWDs ?_; first | refine wds_nil ?_ | refine wds_cons ?_)
  | (refine isWW ?_; first | refine ww_and1 ?_ | refine ww_or1 ?_ | refine ww_and ?_ | refine ww_or ?_)
  | refine allB_i fun _ _ _ _ _ => ?_
  | refine asI_i (allB_i fun _ _ _ _ _ => ?_)
  | (refine isWG ?_; first | walk_at "gi" | refine wg_tup rfl ?_ rfl)
  | (refine isWGs ?_; first | refine wgs_nil ?_ | refine wgs_consN ?_)
  | (refine isWO ?_; first | refine wo_none ?_ | refine wo_some ?_)
  | (refine isWA ?_; first | refine wa_nil ?_ | refine wa_cons ?_)
  | walk_at "l")
local macro_rules | `(tactic| walk_at "go") => `(tactic| repeat (walk_at "step"))
theorem sAll {α : Type} (f : α → D) : ∀ xs : List α, (∀ a ∈ xs, (f a).showable = true) → PyData.showableAll (xs.map f) = true
  | [], _ => rfl
  | x :: r, h => by
    rw [List.map_cons]
    show ((f x).showable && PyData.showableAll (r.map f)) = true
    rw [h x List.mem_cons_self, sAll f r fun a ha => h a (List.mem_cons_of_mem _ ha)]
    rfl
theorem dAll {α : Type} (f : α → D) : ∀ xs : List α, (∀ a ∈ xs, (f a).hasDict = false) → PyData.hasDictAll (xs.map f) = false
  | [], _ => rfl
  | x :: r, h => by
    rw [List.map_cons]
    show ((f x).hasDict || PyData.hasDictAll (r.map f)) = false
    rw [h x List.mem_cons_self, dAll f r fun a ha => h a (List.mem_cons_of_mem _ ha)]
    rfl
theorem pAll {α : Type} (f : α → D) (k : Nat) : ∀ xs : List α, (∀ a ∈ xs, (f a).depth ≤ k) → PyData.depthAll (xs.map f) ≤ k
  | [], _ => Nat.zero_le _
  | x :: r, h => by
    rw [List.map_cons]
    show max (f x).depth (PyData.depthAll (r.map f)) ≤ k
    exact Nat.max_le.mpr ⟨h x List.mem_cons_self, pAll f k r fun a ha => h a (List.mem_cons_of_mem _ ha)⟩
theorem lAll {α : Type} (f : α → D) (B : Nat) : ∀ xs : List α, (∀ a ∈ xs, (f a).shown.length ≤ B) → piled (PyData.shownAll (xs.map f)) ≤ xs.length * (B + 2)
  | [], _ => Nat.zero_le _
  | x :: r, h => by
    rw [List.map_cons]
    show piled ((f x).shown :: PyData.shownAll (r.map f)) ≤ _
    rw [piled_cons, List.length_cons, Nat.succ_mul]
    have h1 := h x List.mem_cons_self
    have h2 := lAll f B r fun a ha => h a (List.mem_cons_of_mem _ ha)
    omega
theorem listText_le (ts : List Str) : (listText ts).length ≤ piled ts + 2 := by
  cases ts with
  | nil => exact Nat.le_refl _
  | cons t r =>
    have h := textFrom_length_pos r 1 (("[" : Str) ++ (if (0 : Nat) > 0 then ", " else "" : String) ++ t) (Nat.succ_pos 0)
    have e : ((("[" : Str) ++ (if (0 : Nat) > 0 then ", " else "" : String) ++ t)).length = 1 + t.length := by
      rw [strLen_append, strLen_append]
      rfl
    have hX : (listText (t :: r)).length = (textFrom 1 (("[" : Str) ++ (if (0 : Nat) > 0 then ", " else "" : String) ++ t) r).length + 1 := by
      show (textFrom 1 (("[" : Str) ++ (if (0 : Nat) > 0 then ", " else "" : String) ++ t) r ++ ("]" : Str)).length = _
      rw [strLen_append]
      rfl
    rw [hX, h, e, piled_cons]
    omega
theorem tupleText_le (ts : List Str) : (tupleText ts).length ≤ piled ts + 3 := by
  have h1 : (Str.join ", " ts).length ≤ piled ts := by
    cases ts with
    | nil => exact Nat.zero_le _
    | cons t r =>
      have := join_length_add (t :: r) (List.cons_ne_nil _ _)
      omega
  have h2 : (((if ts.length == 1 then ",)" else ")" : String) : Str)).length ≤ 2 := by split <;> decide
  have h3 : ((("(" : String) : Str)).length = 1 := rfl
  unfold tupleText
  rw [strLen_append, strLen_append]
  omega
theorem log_of {i : Int} (h0 : 0 ≤ i) (h1 : i < 2000) : i.natAbs.log2 < 1920 := by
  have h2 : i.natAbs < 2 ^ 11 := by omega
  have : i.natAbs.log2 < 11 := by
    by_cases z : i.natAbs = 0
    · rw [z]
      decide
    · exact (Nat.log2_lt z).mpr h2
  omega
def Tiny (i : Int) : Prop := 0 ≤ i ∧ i < 2000
structure Shows (d : D) (k B : Nat) : Prop where
  s : d.showable = true
  h : d.hasDict = false
  p : d.depth ≤ k
  l : d.shown.length ≤ B
theorem sh_int {i : Int} (h : Tiny i) : Shows (.int i) 0 1921 := ⟨decide_eq_true (log_of h.1 h.2), rfl, Nat.le_refl _, int_text_len_1921 (log_of h.1 h.2)⟩
theorem sh_tup {α : Type} (f : α → D) (k B n : Nat) (xs : List α) (hn : xs.length ≤ n) (h : ∀ a ∈ xs, Shows (f a) k B) : Shows (.tuple (xs.map f)) (k + 1) (n * (B + 2) + 3) :=
  ⟨sAll f xs fun a ha => (h a ha).s, dAll f xs fun a ha => (h a ha).h, Nat.succ_le_succ (pAll f k xs fun a ha => (h a ha).p), by
    have h1 := lAll f B xs fun a ha => (h a ha).l
    have h2 := tupleText_le (PyData.shownAll (xs.map f))
    have h3 : xs.length * (B + 2) ≤ n * (B + 2) := Nat.mul_le_mul_right _ hn
    show (tupleText (PyData.shownAll (xs.map f))).length ≤ _
    omega⟩
theorem sh_lst {α : Type} (f : α → D) (k B n : Nat) (xs : List α) (hn : xs.length ≤ n) (h : ∀ a ∈ xs, Shows (f a) k B) : Shows (.list (xs.map f)) (k + 1) (n * (B + 2) + 2) :=
  ⟨sAll f xs fun a ha => (h a ha).s, dAll f xs fun a ha => (h a ha).h, Nat.succ_le_succ (pAll f k xs fun a ha => (h a ha).p), by
    have h1 := lAll f B xs fun a ha => (h a ha).l
    have h2 := listText_le (PyData.shownAll (xs.map f))
    have h3 : xs.length * (B + 2) ≤ n * (B + 2) := Nat.mul_le_mul_right _ hn
    show (listText (PyData.shownAll (xs.map f))).length ≤ _
    omega⟩
theorem Shows.up {d : D} {k B k' B' : Nat} (h : Shows d k B) (h1 : k ≤ k') (h2 : B ≤ B') : Shows d k' B' := ⟨h.s, h.h, Nat.le_trans h.p h1, Nat.le_trans h.l h2⟩
theorem sh_tup0 (k B n : Nat) (xs : List D) (hn : xs.length ≤ n) (h : ∀ a ∈ xs, Shows a k B) : Shows (.tuple xs) (k + 1) (n * (B + 2) + 3) := by
  have := sh_tup id k B n xs hn h
  rwa [List.map_id] at this
theorem sh_put {p : Int × Int} (h : Tiny p.1 ∧ Tiny p.2) : Shows (putD2 p) 1 3849 := by
  refine sh_tup0 0 1921 2 _ (Nat.le_refl _) fun a ha => ?_
  rcases List.mem_cons.mp ha with e | ha
  · subst e
    exact sh_int h.1
  · rcases List.mem_cons.mp ha with e | ha
    · subst e
      exact sh_int h.2
    · cases ha
theorem sh_chg {np nn : Nat} {c : Chg} (g : GoodC np nn c) : Shows (chgD c) 3 300000 := by
  refine (sh_tup0 2 70000 4 _ (Nat.le_refl _) fun a ha => ?_).up (Nat.le_refl _) (by decide)
  have i1 : Tiny c.n := ⟨g.n0, by have := g.n1; omega⟩
  have i2 : Tiny c.at_ := ⟨g.a0, by have := g.am; omega⟩
  rcases List.mem_cons.mp ha with e | ha
  · subst e
    exact (sh_int i1).up (by decide) (by decide)
  rcases List.mem_cons.mp ha with e | ha
  · subst e
    exact (sh_int i2).up (by decide) (by decide)
  rcases List.mem_cons.mp ha with e | ha
  · subst e
    exact (sh_tup putD2 1 3849 5 c.puts g.pl fun p hp => sh_put ⟨⟨(g.pb p hp).1.1, by have := (g.pb p hp).1.2; omega⟩, (g.pb p hp).2⟩).up (by decide) (by decide)
  rcases List.mem_cons.mp ha with e | ha
  · subst e
    exact (sh_tup PyData.int 0 1921 30 c.leans g.ll fun l hl => sh_int ⟨(g.lb l hl).1, by have h1 := (g.lb l hl).2; have h2 := g.n1; omega⟩).up (by decide) (by decide)
  · cases ha
theorem sh_cs {np nn : Nat} {cs : List Chg} (g : GoodCs np nn cs) : Shows (csD cs) 4 5000000 :=
  (sh_lst chgD 3 300000 13 cs g.len fun c hc => sh_chg (g.all c hc)).up (Nat.le_refl _) (by decide)
end K08
namespace K08
open PySem PySem.Spec PyProof.Rows L2 Dl
local macro_rules | `(tactic| walk_at "v") => `(tactic| first
  | refine we_d (i := 0) rfl (vis3 rfl) rfl ?_ | refine we_o (i := 0) rfl (vis3 rfl) rfl ?_
  | refine we_d (i := 1) rfl (vis3 rfl) rfl ?_ | refine we_o (i := 1) rfl (vis3 rfl) rfl ?_
  | refine we_d (i := 2) rfl (vis3 rfl) rfl ?_ | refine we_o (i := 2) rfl (vis3 rfl) rfl ?_
  | refine we_d (i := 3) rfl (vis3 rfl) rfl ?_ | refine we_o (i := 3) rfl (vis3 rfl) rfl ?_
  | refine we_d (i := 4) rfl (vis3 rfl) rfl ?_ | refine we_o (i := 4) rfl (vis3 rfl) rfl ?_
  | refine we_d (i := 5) rfl (vis3 rfl) rfl ?_ | refine we_o (i := 5) rfl (vis3 rfl) rfl ?_
  | refine we_d (i := 6) rfl (vis3 rfl) rfl ?_ | refine we_o (i := 6) rfl (vis3 rfl) rfl ?_
  | refine we_d (i := 7) rfl (vis3 rfl) rfl ?_ | refine we_o (i := 7) rfl (vis3 rfl) rfl ?_
  | refine we_d (i := 8) rfl (vis3 rfl) rfl ?_ | refine we_o (i := 8) rfl (vis3 rfl) rfl ?_
  | refine we_d (i := 9) rfl (vis3 rfl) rfl ?_ | refine we_o (i := 9) rfl (vis3 rfl) rfl ?_
  | refine we_d (i := 10) rfl (vis3 rfl) rfl ?_ | refine we_o (i := 10) rfl (vis3 rfl) rfl ?_
  | refine we_d (i := 11) rfl (vis3 rfl) rfl ?_ | refine we_o (i := 11) rfl (vis3 rfl) rfl ?_
  | refine we_d (i := 12) rfl (vis3 rfl) rfl ?_ | refine we_o (i := 12) rfl (vis3 rfl) rfl ?_
  | refine we_d (i := 13) rfl (vis3 rfl) rfl ?_ | refine we_o (i := 13) rfl (vis3 rfl) rfl ?_
  | refine we_d (i := 14) rfl (vis3 rfl) rfl ?_ | refine we_o (i := 14) rfl (vis3 rfl) rfl ?_
  | refine we_d (i := 15) rfl (vis3 rfl) rfl ?_ | refine we_o (i := 15) rfl (vis3 rfl) rfl ?_
  | refine we_d (i := 16) rfl (vis3 rfl) rfl ?_ | refine we_o (i := 16) rfl (vis3 rfl) rfl ?_
  | refine we_d (i := 17) rfl (vis3 rfl) rfl ?_ | refine we_o (i := 17) rfl (vis3 rfl) rfl ?_
  | refine we_d (i := 18) rfl (vis3 rfl) rfl ?_ | refine we_o (i := 18) rfl (vis3 rfl) rfl ?_
  | refine we_d (i := 19) rfl (vis3 rfl) rfl ?_ | refine we_o (i := 19) rfl (vis3 rfl) rfl ?_
  | refine we_d (i := 20) rfl (vis3 rfl) rfl ?_ | refine we_o (i := 20) rfl (vis3 rfl) rfl ?_)
local macro_rules | `(tactic| walk_at "si") => `(tactic| first
  | refine ws_set (i := 0) (by assumption) rfl (loc2 rfl) (by decide) ?_
  | refine ws_set (i := 1) (by assumption) rfl (loc2 rfl) (by decide) ?_
  | refine ws_set (i := 2) (by assumption) rfl (loc2 rfl) (by decide) ?_
  | refine ws_set (i := 3) (by assumption) rfl (loc2 rfl) (by decide) ?_
  | refine ws_set (i := 4) (by assumption) rfl (loc2 rfl) (by decide) ?_
  | refine ws_set (i := 5) (by assumption) rfl (loc2 rfl) (by decide) ?_
  | refine ws_set (i := 6) (by assumption) rfl (loc2 rfl) (by decide) ?_
  | refine ws_set (i := 7) (by assumption) rfl (loc2 rfl) (by decide) ?_
  | refine ws_set (i := 8) (by assumption) rfl (loc2 rfl) (by decide) ?_
  | refine ws_set (i := 9) (by assumption) rfl (loc2 rfl) (by decide) ?_
  | refine ws_set (i := 10) (by assumption) rfl (loc2 rfl) (by decide) ?_
  | refine ws_set (i := 11) (by assumption) rfl (loc2 rfl) (by decide) ?_
  | refine ws_set (i := 12) (by assumption) rfl (loc2 rfl) (by decide) ?_
  | refine ws_set (i := 13) (by assumption) rfl (loc2 rfl) (by decide) ?_
  | refine ws_set (i := 14) (by assumption) rfl (loc2 rfl) (by decide) ?_
  | refine ws_set (i := 15) (by assumption) rfl (loc2 rfl) (by decide) ?_
  | refine ws_set (i := 16) (by assumption) rfl (loc2 rfl) (by decide) ?_
  | refine ws_set (i := 17) (by assumption) rfl (loc2 rfl) (by decide) ?_
  | refine ws_set (i := 18) (by assumption) rfl (loc2 rfl) (by decide) ?_
  | refine ws_set (i := 19) (by assumption) rfl (loc2 rfl) (by decide) ?_
  | refine ws_set (i := 20) (by assumption) rfl (loc2 rfl) (by decide) ?_)
local macro_rules | `(tactic| walk_at "gi") => `(tactic| first
  | refine wg_name (i := 0) (by assumption) rfl (loc2 rfl) (by decide) ?_
  | refine wg_name (i := 1) (by assumption) rfl (loc2 rfl) (by decide) ?_
  | refine wg_name (i := 2) (by assumption) rfl (loc2 rfl) (by decide) ?_
  | refine wg_name (i := 3) (by assumption) rfl (loc2 rfl) (by decide) ?_
  | refine wg_name (i := 4) (by assumption) rfl (loc2 rfl) (by decide) ?_
  | refine wg_name (i := 5) (by assumption) rfl (loc2 rfl) (by decide) ?_
  | refine wg_name (i := 6) (by assumption) rfl (loc2 rfl) (by decide) ?_
  | refine wg_name (i := 7) (by assumption) rfl (loc2 rfl) (by decide) ?_
  | refine wg_name (i := 8) (by assumption) rfl (loc2 rfl) (by decide) ?_
  | refine wg_name (i := 9) (by assumption) rfl (loc2 rfl) (by decide) ?_
  | refine wg_name (i := 10) (by assumption) rfl (loc2 rfl) (by decide) ?_
  | refine wg_name (i := 11) (by assumption) rfl (loc2 rfl) (by decide) ?_
  | refine wg_name (i := 12) (by assumption) rfl (loc2 rfl) (by decide) ?_
  | refine wg_name (i := 13) (by assumption) rfl (loc2 rfl) (by decide) ?_
  | refine wg_name (i := 14) (by assumption) rfl (loc2 rfl) (by decide) ?_
  | refine wg_name (i := 15) (by assumption) rfl (loc2 rfl) (by decide) ?_
  | refine wg_name (i := 16) (by assumption) rfl (loc2 rfl) (by decide) ?_
  | refine wg_name (i := 17) (by assumption) rfl (loc2 rfl) (by decide) ?_
  | refine wg_name (i := 18) (by assumption) rfl (loc2 rfl) (by decide) ?_
  | refine wg_name (i := 19) (by assumption) rfl (loc2 rfl) (by decide) ?_
  | refine wg_name (i := 20) (by assumption) rfl (loc2 rfl) (by decide) ?_)
local macro_rules | `(tactic| walk_at "side") => `(tactic| first | exact rfl | exact Nat.le_trans (m := 1000) (Nat.le_of_ble_eq_true rfl) sz1000 | omega | decide | assumption)
local macro_rules | `(tactic| walk_at "we") => `(tactic| first
  | (refine isName ?_; walk_at "v")
  | refine we_int ?_ | refine we_bl ?_ | refine we_non ?_ | refine we_str ?_
  | refine we_ix ?_
  | refine we_addG ?_ | refine we_sub ?_ | refine we_mulG ?_ | refine we_div ?_ | refine we_mod ?_ | refine we_pow ?_ | refine we_neg ?_
  | refine we_gt ?_ | refine we_lt ?_ | refine we_ge ?_ | refine we_le ?_
  | refine we_tup ?_ | refine we_lst ?_ | refine we_dict0 ?_
  | refine we_len (by assumption) rfl ?_ | refine we_slG ?_ | refine we_eqG (by assumption) ?_ | refine we_neG (by assumption) ?_ | refine we_not ?_ | refine we_one ?_ | refine we_and ?_ | refine we_or ?_
  | refine we_call2 (by assumption) (by assumption) (by assumption) (by decide) rfl ?_)
local macro_rules | `(tactic| walk_at "wt") => `(tactic| first
  | refine wt_gt ?_ | refine wt_lt ?_ | refine wt_ge ?_ | refine wt_le ?_ | refine wt_not ?_
  | refine wt_eqG (by assumption) ?_ | refine wt_neG (by assumption) ?_ | refine wt_bool ?_ | refine wt_val ?_)
local macro_rules | `(tactic| walk_at "ws") => `(tactic| first
  | refine ws_ret ?_ | (refine isSet ?_; walk_at "si") | refine ws_if ?_
  | refine ws_append (pe_bm PySem.F.plainAttrs_list PySem.F.slot_list_append PySem.F.type_list_append mt_append pe_m (pa_cons pe_m pa_nil)) ?_
  | refine ws_continue ?_ | refine ws_break ?_ | refine ws_pass ?_)
local macro_rules | `(tactic| walk_at "l") => `(tactic| first
  | refine And.intro (Exists.intro _ rfl) ?_
  | refine And.intro trivial ?_
  | refine Exists.intro _ (And.intro rfl ?_)
  | refine Exists.intro _ (Exists.intro _ (And.intro rfl (And.intro rfl ?_)))
  | refine And.intro (And.intro (by walk_at "side") (by walk_at "side") : CDiv _ _) ?_
  | refine And.intro (.inl (And.intro (by walk_at "side") (by walk_at "side")) : CMul _ _) ?_
  | refine And.intro (.inr (And.intro (by walk_at "side") (by walk_at "side")) : CMul _ _) ?_
  | refine And.intro (And.intro (List.cons_ne_nil _ _) (And.intro (by walk_at "side") (And.intro (by walk_at "side") (by walk_at "side")))) ?_
  | refine And.intro (by walk_at "side") ?_)
local macro_rules | `(tactic| walk_at "step") => `(tactic| first
  | (refine isWE ?_; walk_at "we")
  | (refine isWT ?_; walk_at "wt")
  | (refine isWSs ?_; first | refine wss_nil ?_ | refine wss_one ?_ | refine wss_cons ?_)
  | (refine isWS ?_; walk_at "ws")
  | (refine isWDs ?_; first | refine wds_nil ?_ | refine wds_cons ?_)
  | (refine isWW ?_; first | refine ww_and1 ?_ | refine ww_or1 ?_ | refine ww_and ?_ | refine ww_or ?_)
  | refine allB_i fun _ _ _ _ _ => ?_
  | refine asI_i (allB_i fun _ _ _ _ _ => ?_)
  | (refine isWG ?_; first | walk_at "gi" | refine wg_tup rfl ?_ rfl)
  | (refine isWGs ?_; first | refine wgs_nil ?_ | refine wgs_consN ?_)
  | (refine isWO ?_; first | refine wo_none ?_ | refine wo_some ?_)
  | (refine isWA ?_; first | refine wa_nil ?_ | refine wa_cons ?_)
  | walk_at "l")
local macro_rules | `(tactic| walk_at "go") => `(tactic| repeat (walk_at "step"))
set_option maxHeartbeats 2000000
abbrev NClosed : List Str := ["changes", "numbers", "listed", "closed", "places", "number", "page", "puts", "leans", "own", "place", "lean", "change", "slot", "_"]
theorem scClosed : FnScope NClosed ["changes", "numbers"] (defScope (topS 3)) := ⟨rfl, rfl, rfl, by decide +kernel, rfl, by decide +kernel, by decide +kernel⟩
/-- a dict of places, each True -/
def kT (pl : List (List Int)) : List (List Key × D) := pl.map fun ks => (kI ks, .bool true)
theorem kI_inj {a b : List Int} : kI a = kI b ↔ a = b := by
  constructor
  · intro h
    unfold kI at h
    induction a generalizing b with
    | nil => cases b with
      | nil => rfl
      | cons y b => cases h
    | cons x a ih => cases b with
      | nil => cases h
      | cons y b =>
        rw [List.map_cons, List.map_cons] at h
        obtain ⟨h1, h2⟩ := List.cons.inj h
        rw [Sum.inl.inj h1, ih h2]
  · intro h
    rw [h]
theorem hasK_kT (n : List Int) : ∀ ns : List (List Int), hasK (kT ns) (kI n) = decide (n ∈ ns)
  | [] => rfl
  | m :: r => by
    have ih := hasK_kT n r
    unfold hasK kT at ih ⊢
    rw [List.map_cons, List.any_cons, ih]
    by_cases h : m = n
    · subst h
      simp
    · have h2 : ¬ n = m := fun z => h z.symm
      have h3 : ¬ kI m = kI n := fun z => h (kI_inj.mp z)
      simp [h2, h3, h]
def insT (ns : List (List Int)) (n : List Int) : List (List Int) := if n ∈ ns then ns else ns ++ [n]
def insTs (ns ms : List (List Int)) : List (List Int) := ms.foldl insT ns
theorem put_kT (n : List Int) (ns : List (List Int)) : putD (kT ns) (kI n) (.bool true) = kT (insT ns n) := by
  have h := hasK_kT n ns
  unfold hasK at h
  unfold putD insT
  rw [h]
  by_cases e : n ∈ ns
  · rw [if_pos (decide_eq_true e), if_pos e]
    unfold kT
    rw [List.map_map]
    apply List.map_congr_left
    intro m _
    show (if kI m = kI n then (kI m, PyData.bool true) else (kI m, .bool true)) = _
    split <;> rfl
  · rw [if_neg (by rw [decide_eq_false e]; exact Bool.false_ne_true), if_neg e]
    unfold kT
    rw [List.map_append]
    rfl
theorem insT_len (ns : List (List Int)) (n : List Int) : (insT ns n).length ≤ ns.length + 1 := by
  unfold insT
  split
  · omega
  · rw [List.length_append]; simp
theorem insTs_len : ∀ (ms ns : List (List Int)), (insTs ns ms).length ≤ ns.length + ms.length
  | [], ns => Nat.le_refl _
  | m :: r, ns => by
    have h := insTs_len r (insT ns m)
    have h2 := insT_len ns m
    show (insTs (insT ns m) r).length ≤ _
    rw [List.length_cons]
    omega
theorem kT_len (ns : List (List Int)) : (kT ns).length = ns.length := by unfold kT; rw [List.length_map]
def tupD (ks : List Int) : D := .tuple (ks.map PyData.int)
/-- a change's places -/
def plcs (c : Chg) : List (List Int) := c.puts.map fun p => [c.at_, p.1]
def hitF (s : List Int × List (List Int)) (c : Chg) : Bool := decide (c.n ∈ s.1) || (plcs c).any fun p => decide (p ∈ s.2)
def leanL (li : List Int) (c : Chg) : List Int := c.leans.filter fun l => decide (l ∈ li)
def stepC (li : List Int) (s : List Int × List (List Int)) (c : Chg) : List Int × List (List Int) :=
  if hitF s c then (insAll (ins s.1 c.n) (leanL li c), insTs s.2 (plcs c)) else s
def rv (cs : List Chg) : List Chg := cs.mergeSort (PySem.W.dataLe true fun c => PyData.int c.n)
def clS (cs : List Chg) (ns : List Int) (k : Nat) : List Int × List (List Int) := ((rv cs).take k).foldl (stepC (listF cs)) (insAll [] ns, [])
def clF (cs : List Chg) (ns : List Int) : List Int := (clS cs ns (rv cs).length).1
theorem clS_succ {cs : List Chg} {ns : List Int} {k : Nat} {c : Chg} (h : (rv cs)[k]? = some c) : clS cs ns (k + 1) = stepC (listF cs) (clS cs ns k) c := by
  unfold clS
  rw [List.take_add_one, h, List.foldl_append]
  rfl
theorem rv_mem {cs : List Chg} {c : Chg} : c ∈ rv cs ↔ c ∈ cs := List.mem_mergeSort
theorem rv_len (cs : List Chg) : (rv cs).length = cs.length := List.length_mergeSort _
theorem stepC_len (li : List Int) (s : List Int × List (List Int)) (c : Chg) (h1 : c.puts.length ≤ 100) (h2 : c.leans.length ≤ 100) : (stepC li s c).1.length ≤ s.1.length + 101 ∧ (stepC li s c).2.length ≤ s.2.length + 100 := by
  unfold stepC
  split
  · have a1 := insAll_len (leanL li c) (ins s.1 c.n)
    have a2 := ins_len s.1 c.n
    have a3 : (leanL li c).length ≤ c.leans.length := List.length_filter_le _ _
    have a4 := insTs_len (plcs c) s.2
    have a5 : (plcs c).length = c.puts.length := by unfold plcs; rw [List.length_map]
    exact ⟨by show (insAll (ins s.1 c.n) (leanL li c)).length ≤ _; omega, by show (insTs s.2 (plcs c)).length ≤ _; omega⟩
  · exact ⟨by omega, by omega⟩
theorem clS_len {cs : List Chg} (ns : List Int) (hs : ∀ c ∈ cs, c.puts.length ≤ 100 ∧ c.leans.length ≤ 100) : ∀ k, k ≤ cs.length → (clS cs ns k).1.length ≤ ns.length + 101 * k ∧ (clS cs ns k).2.length ≤ 100 * k
  | 0, _ => by
    have := insAll_len ns []
    unfold clS
    exact ⟨by show (insAll [] ns).length ≤ _; simpa using this, Nat.le_refl _⟩
  | k + 1, hk => by
    obtain ⟨h1, h2⟩ := clS_len ns hs k (by omega)
    have hlt : k < (rv cs).length := by rw [rv_len]; omega
    rw [clS_succ (List.getElem?_eq_getElem hlt)]
    have hm := hs _ (rv_mem.mp (List.getElem_mem hlt))
    obtain ⟨g1, g2⟩ := stepC_len (listF cs) (clS cs ns k) _ hm.1 hm.2
    exact ⟨by omega, by omega⟩
/-- the branch in which a change is taken -/
def hitB (st : Stmt) : List Stmt := match (defBody st).getD 3 (.Pass ⟨0, 0, 0, 0⟩) with
  | .For _ _ b _ _ => (match b.getD 1 (.Pass ⟨0, 0, 0, 0⟩) with
    | .If _ a _ _ => a
    | _ => [])
  | _ => []
section
variable {Pg : Program} {w : World} {K : PySem.W.Frag} {mg : Str → Option Value} {base : Heap}
def sClosed : SpD := fun R Q => ∃ cs ns, R = [.d (csD cs), .d (.list (ns.map .int))] ∧ (Small cs ∧ ns.length ≤ 100 ∧ (clF cs ns).length < 64) ∧ ∀ ns' : List Int, ns'.Perm (clF cs ns) → ns'.Pairwise (· ≤ ·) → Q (.own (.lst (ns'.map .int))) R
theorem ok_closed {f c Pt : Addr} {fd : FuncData} (F : Fun K "closed_of" "closed_of" (topS 3) f fd) (hm : mg "closed_of" = some (.ref f)) (hb : Binds K fd ["changes", "numbers"] []) (ma : mg "any" = none) (ms : mg "sorted" = none)
    (ht : PySem.W.tabIn K "closed_of" = some (c, Pt)) (TB : LamX.TabB base mg c Pt) (hfc : fd.code = .ref c) : Can Pg w K mg base 1 "closed_of" sClosed := by
  refine can_defC F scClosed hm hb (fun A Z Z' k ⟨a, b, h1, h2, h3⟩ => ⟨a, b, h1, h2, fun ns' g1 g2 => k _ _ (h3 ns' g1 g2)⟩) (by decide) (fun R Q h => ?_) (fun cdv hcd A outer s H E hgd hr R Q h => ?_)
  · obtain ⟨a, b, rfl, _⟩ := h
    rfl
  · obtain ⟨cs, ns, rfl, ⟨⟨hn, hcs⟩, hns, h64⟩, q⟩ := h
    show WSs _ [] _ [.d (csD cs), .d (.list (ns.map .int)), .no, .no, .no, .no, .no, .no, .no, .no, .no, .no, .no, .no, .no] _
    have nd : NClosed.Nodup := scClosed.nd
    refine wss_cons ?_
    refine ws_setDc0 (i := 2) [("change", 12)] [12] rfl nd rfl rfl (sw_dict rfl rfl rfl (by decide +kernel)) (blkOk_by (N := NClosed) (sc := defScope (topS 3)) (by decide +kernel)) (by decide) (by decide) (by decide) ?_
    refine we_d (i := 0) rfl (vis3 rfl) rfl ?_
    refine ⟨cs.map chgD, fun i kvs R => R = [.d (csD cs), .d (.list (ns.map .int)), .no, .no, .no, .no, .no, .no, .no, .no, .no, .no, .no, .no, .no] ∧ kvs = kD (insAll [] (nums (cs.take i))), rfl, szle (by rw [List.length_map]; omega), ⟨rfl, rfl⟩, fun i x kvs R hx h => ?_, fun kvs R h => ?_⟩
    · obtain ⟨rfl, rfl⟩ := h
      rw [List.getElem?_map] at hx
      cases hq : cs[i]? with
      | none => rw [hq] at hx; cases hx
      | some c =>
        rw [hq] at hx
        cases hx
        have e : insAll [] (nums (cs.take (i + 1))) = ins (insAll [] (nums (cs.take i))) c.n := by
          unfold nums insAll
          rw [List.take_add_one, hq, List.map_append, List.foldl_append]
          rfl
        unfold TnD
        walk_at "go"
        rw [e]
        exact put_kD c.n _
    · obtain ⟨rfl, rfl⟩ := h
      rw [List.length_map, List.take_length]
      refine wss_cons ?_
      refine ws_setDc0 (i := 3) [("number", 5)] [5] rfl nd rfl rfl (sw_dict rfl rfl rfl (by decide +kernel)) (blkOk_by (N := NClosed) (sc := defScope (topS 3)) (by decide +kernel)) (by decide) (by decide) (by decide) ?_
      refine we_d (i := 1) rfl (vis3 rfl) rfl ?_
      refine ⟨ns.map PyData.int, fun i kvs R => R = [.d (csD cs), .d (.list (ns.map .int)), .own (.dK (kD (listF cs))), .no, .no, .no, .no, .no, .no, .no, .no, .no, .no, .no, .no] ∧ kvs = kD (insAll [] (ns.take i)), rfl, szle (by rw [List.length_map]; omega), ⟨rfl, rfl⟩, fun i x kvs R hx h => ?_, fun kvs R h => ?_⟩
      · obtain ⟨rfl, rfl⟩ := h
        rw [List.getElem?_map] at hx
        cases hq : ns[i]? with
        | none => rw [hq] at hx; cases hx
        | some n =>
          rw [hq] at hx
          cases hx
          have e : insAll [] (ns.take (i + 1)) = ins (insAll [] (ns.take i)) n := by
            unfold insAll
            rw [List.take_add_one, hq, List.foldl_append]
            rfl
          unfold TnD
          walk_at "go"
          rw [e]
          exact put_kD n _
      · obtain ⟨rfl, rfl⟩ := h
        rw [List.length_map, List.take_length]
        refine wss_cons ?_
        walk_at "si"
        refine we_dictT0 ?_
        show WSs _ [] _ [.d (csD cs), .d (.list (ns.map .int)), .own (.dK (kD (listF cs))), .own (.dK (kD (insAll [] ns))), .own (.dT (kT [])), .no, .no, .no, .no, .no, .no, .no, .no, .no, .no] _
        refine wss_cons ?_
        refine ws_forL (js := [5, 6, 7, 8]) PassesOwn.never rfl ?_
        refine we_sortedLam (x := "closed_of") (y := "change") cs chgD (fun c => c.n) hr ms rfl rfl ht TB (hcd.symm.trans hfc) rfl (fun c hc => ⟨_, rfl⟩) (szle (by omega)) ?_ (by decide) (fun _ _ _ _ _ => rfl)
        walk_at "go"
        have h0 := clS_len (cs := cs) ns hcs
        refine ⟨(rv cs).map chgD, fun k R' => ∃ s5 s6 s7 s8 s9 s10 s11, R' = [.d (csD cs), .d (.list (ns.map .int)), .own (.dK (kD (listF cs))), .own (.dK (kD (clS cs ns k).1)), .own (.dT (kT (clS cs ns k).2)), s5, s6, s7, s8, s9, s10, s11, .no, .no, .no], rfl, ⟨_, _, _, _, _, _, _, rfl⟩, fun k x R' hx h => ?_, fun R' h => ?_⟩
        · rw [List.getElem?_map] at hx
          cases hq : (rv cs)[k]? with
          | none => rw [hq] at hx; cases hx
          | some c =>
            rw [hq] at hx
            cases hx
            obtain ⟨s5, s6, s7, s8, s9, s10, s11, rfl⟩ := h
            have hk : k < cs.length := by
              rw [← rv_len]
              exact (List.getElem?_eq_some_iff.mp hq).1
            have hcc := hcs c (rv_mem.mp (List.mem_of_getElem? hq))
            obtain ⟨hl1, hl2⟩ := h0 k (by omega)
            have es := clS_succ (ns := ns) hq
            generalize hal : (clS cs ns k).1 = cl at *
            generalize hhe : (clS cs ns k).2 = pl at *
            have es2 : clS cs ns (k + 1) = stepC (listF cs) (cl, pl) c := by rw [es, ← hal, ← hhe]
            refine wg_tup rfl ?_ rfl
            walk_at "go"
            refine ws_setLc0 (i := 9) [("slot", 13), ("_", 14)] [13, 14] rfl nd rfl rfl (sw_true rfl rfl rfl (by decide +kernel)) (blkOk_by (N := NClosed) (sc := defScope (topS 3)) (by decide +kernel)) (by decide) (by decide) (by decide) (.tup ?_)
            walk_at "go"
            refine lc_pure0 (as := c.puts) (enc := putD2) (g := fun p => tupD [c.at_, p.1]) [.d (csD cs), .d (.list (ns.map .int)), .own (.dK (kD (listF cs))), .own (.dK (kD cl)), .own (.dT (kT pl)), .d (.int c.n), .d (.int c.at_), .d (.tuple (c.puts.map putD2)), .d (.tuple (c.leans.map .int)), s9, s10, s11, .no, .no, .no] rfl (szle (by omega)) (fun p hp => ?_) ?_
            · walk_at "go"
              rfl
            have ep : (c.puts.map fun p => tupD [c.at_, p.1]) = (plcs c).map tupD := by
              unfold plcs
              rw [List.map_map]
              rfl
            rw [ep]
            have hpl : (plcs c).length = c.puts.length := by unfold plcs; rw [List.length_map]
            refine wss_fz 9 (ds := (plcs c).map tupD) rfl (by decide) ?_
            walk_at "go"
            have hsz : cl.length + 1000 < 100000 ∧ pl.length + 1000 < 100000 := ⟨by omega, by omega⟩
            have fill : ∀ D' : DEnds, (∀ s10' s11', D'.nx [.d (csD cs), .d (.list (ns.map .int)), .own (.dK (kD (listF cs))), .own (.dK (kD (insAll (ins cl c.n) (leanL (listF cs) c)))), .own (.dT (kT (insTs pl (plcs c)))), .d (.int c.n), .d (.int c.at_), .d (.tuple (c.puts.map putD2)), .d (.tuple (c.leans.map .int)), .d (.list ((plcs c).map tupD)), s10', s11', .no, .no, .no]) →
                ∀ t10, WSs (cxOf CX0 Pg w K mg base NClosed "closed_of" (defScope (topS 3)) f cdv A outer s H E).nox [] (hitB (topS 3)) [.d (csD cs), .d (.list (ns.map .int)), .own (.dK (kD (listF cs))), .own (.dK (kD cl)), .own (.dT (kT pl)), .d (.int c.n), .d (.int c.at_), .d (.tuple (c.puts.map putD2)), .d (.tuple (c.leans.map .int)), .d (.list ((plcs c).map tupD)), t10, s11, .no, .no, .no] D' := fun D' hD t10 => by
              refine wss_cons ?_
              refine ws_dput (hu_of hr) ?_
              walk_at "go"
              refine ⟨?_, ?_⟩
              · rw [kD_len]
                exact Nat.lt_of_lt_of_le (show _ < 100000 by omega) (by decide)
              rw [put_kD]
              refine wss_cons ?_
              refine ws_forL (js := [10]) PassesOwn.never rfl ?_
              walk_at "go"
              refine ⟨(plcs c).map tupD, fun j R' => ∃ s10', R' = [.d (csD cs), .d (.list (ns.map .int)), .own (.dK (kD (listF cs))), .own (.dK (kD (ins cl c.n))), .own (.dT (kT (insTs pl ((plcs c).take j)))), .d (.int c.n), .d (.int c.at_), .d (.tuple (c.puts.map putD2)), .d (.tuple (c.leans.map .int)), .d (.list ((plcs c).map tupD)), s10', s11, .no, .no, .no], rfl, ⟨_, rfl⟩, fun j x R' hx h => ?_, fun R' h => ?_⟩
              · obtain ⟨s10', rfl⟩ := h
                rw [List.getElem?_map] at hx
                cases hqs : (plcs c)[j]? with
                | none => rw [hqs] at hx; cases hx
                | some sp =>
                  rw [hqs] at hx
                  cases hx
                  have hj : j < (plcs c).length := (List.getElem?_eq_some_iff.mp hqs).1
                  have e4 : insTs pl ((plcs c).take (j + 1)) = insT (insTs pl ((plcs c).take j)) sp := by
                    unfold insTs
                    rw [List.take_add_one, hqs, List.foldl_append]
                    rfl
                  walk_at "gi"
                  refine wss_one ?_
                  refine ws_tput (hu_of hr) ?_
                  walk_at "go"
                  refine ⟨?_, ?_⟩
                  · have h5 := insTs_len ((plcs c).take j) pl
                    rw [List.length_take] at h5
                    rw [kT_len]
                    exact Nat.lt_of_lt_of_le (show _ < 100000 by omega) (by decide)
                  · rw [put_kT, ← e4]
                    exact ⟨_, rfl⟩
              · obtain ⟨s10', rfl⟩ := h
                rw [List.length_map, List.take_length]
                refine wss_one ?_
                refine ws_forT (js := [11]) PassesOwn.never rfl ?_
                walk_at "go"
                refine ⟨c.leans.map PyData.int, fun j R' => ∃ s11', R' = [.d (csD cs), .d (.list (ns.map .int)), .own (.dK (kD (listF cs))), .own (.dK (kD (insAll (ins cl c.n) ((c.leans.take j).filter fun l => decide (l ∈ listF cs))))), .own (.dT (kT (insTs pl (plcs c)))), .d (.int c.n), .d (.int c.at_), .d (.tuple (c.puts.map putD2)), .d (.tuple (c.leans.map .int)), .d (.list ((plcs c).map tupD)), s10', s11', .no, .no, .no], rfl, ⟨_, rfl⟩, fun j x R' hx h => ?_, fun R' h => ?_⟩
                · obtain ⟨s11', rfl⟩ := h
                  rw [List.getElem?_map] at hx
                  cases hqs : c.leans[j]? with
                  | none => rw [hqs] at hx; cases hx
                  | some l =>
                    rw [hqs] at hx
                    cases hx
                    have hj : j < c.leans.length := (List.getElem?_eq_some_iff.mp hqs).1
                    have e5 : (c.leans.take (j + 1)).filter (fun l => decide (l ∈ listF cs)) = (c.leans.take j).filter (fun l => decide (l ∈ listF cs)) ++ (if l ∈ listF cs then [l] else []) := by
                      rw [List.take_add_one, hqs, List.filter_append]
                      congr 1
                      by_cases hl : l ∈ listF cs
                      · simp [hl]
                      · simp [hl]
                    walk_at "gi"
                    refine wss_one ?_
                    refine ws_if ?_
                    refine wt_inD (hu_of hr) rfl ?_
                    walk_at "go"
                    refine gInD_l l 2 (kD (listF cs)) ?_ ?_ ?_ ?_
                    · rfl
                    · rfl
                    · rfl
                    rw [hasK_kD]
                    refine ⟨fun e => ?_, fun e => ?_⟩
                    · have e6 : l ∈ listF cs := of_decide_eq_true e
                      refine wss_one ?_
                      refine ws_dput (hu_of hr) ?_
                      walk_at "go"
                      refine ⟨?_, ?_⟩
                      · rw [kD_len]
                        have h5 := insAll_len ((c.leans.take j).filter fun l => decide (l ∈ listF cs)) (ins cl c.n)
                        have h6 := ins_len cl c.n
                        have h7 : ((c.leans.take j).filter fun l => decide (l ∈ listF cs)).length ≤ (c.leans.take j).length := List.length_filter_le _ _
                        rw [List.length_take] at h7
                        exact Nat.lt_of_lt_of_le (show _ < 100000 by omega) (by decide)
                      · rw [put_kD]
                        refine ⟨.d (.int l), ?_⟩
                        rw [e5, if_pos e6]
                        unfold insAll
                        rw [List.foldl_append]
                        rfl
                    · have e6 : ¬ l ∈ listF cs := of_decide_eq_false e
                      refine wss_nil ?_
                      refine ⟨.d (.int l), ?_⟩
                      rw [e5, if_neg e6, List.append_nil]
                      rfl
                · obtain ⟨s11', rfl⟩ := h
                  rw [List.length_map, List.take_length]
                  exact hD s10' s11'
            have yes : hitF (cl, pl) c = true → clS cs ns (k + 1) = (insAll (ins cl c.n) (leanL (listF cs) c), insTs pl (plcs c)) := fun hb => by
              rw [es2]
              exact if_pos hb
            have key : hitF (cl, pl) c = (decide (c.n ∈ cl) || (plcs c).any fun p => decide (p ∈ pl)) := rfl
            apply wt_inD
            · exact hu_of hr
            · rfl
            walk_at "go"
            refine gInD_l c.n 3 (kD cl) ?_ ?_ ?_ ?_
            · rfl
            · rfl
            · rfl
            rw [hasK_kD]
            refine ⟨fun e1 => ?_, fun e1 => ?_⟩
            · walk_at "go"
              refine we_any rfl ma rfl ?_
              refine we_lc0 [("place", 10)] [10] rfl nd (blkOk_by (N := NClosed) (sc := defScope (topS 3)) (by decide +kernel)) (by decide) (by decide) (.list ?_)
              walk_at "go"
              refine lc_pure0 (as := plcs c) (enc := tupD) (g := fun sp => .bool (decide (sp ∈ pl))) [.d (csD cs), .d (.list (ns.map .int)), .own (.dK (kD (listF cs))), .own (.dK (kD cl)), .own (.dT (kT pl)), .d (.int c.n), .d (.int c.at_), .d (.tuple (c.puts.map putD2)), .d (.tuple (c.leans.map .int)), .d (.list ((plcs c).map tupD)), .no, s11, .no, .no, .no] rfl (szle (by omega)) (fun sp hp => ?_) ?_
              · walk_at "go"
                refine we_inT (hu_of hr) rfl ?_
                walk_at "go"
                refine ⟨⟨sp, 4, kT pl, rfl, rfl, rfl, ?_⟩⟩
                rw [hasK_kT]
                exact ⟨rfl, rfl⟩
              refine ⟨(plcs c).map fun sp => decide (sp ∈ pl), ?_, ?_⟩
              · show some _ = some _
                rw [List.map_map]
                rfl
              rw [List.any_map]
              refine ⟨fun e2 => ?_, fun e2 => ?_⟩
              · have e3 := yes (by rw [key, e1, Bool.false_or]; exact e2)
                refine fill _ (fun s10' s11' => ?_) _
                exact ⟨_, _, _, _, _, _, _, by rw [e3]⟩
              · have hno : hitF (cl, pl) c = false := by rw [key, e1, Bool.false_or]; exact e2
                have e3 : clS cs ns (k + 1) = (cl, pl) := by
                  rw [es2]
                  exact if_neg (by rw [hno]; exact Bool.false_ne_true)
                refine wss_nil ?_
                exact ⟨_, _, _, _, _, _, _, by rw [e3]⟩
            · refine ⟨fun _ => ?_, fun z => Bool.noConfusion z⟩
              have e3 := yes (by rw [key, e1]; rfl)
              refine fill _ (fun s10' s11' => ?_) _
              exact ⟨_, _, _, _, _, _, _, by rw [e3]⟩
        · obtain ⟨s5, s6, s7, s8, s9, s10, s11, rfl⟩ := h
          rw [List.length_map]
          refine wss_one (ws_ret ?_)
          refine we_sortedD rfl ms rfl ?_
          walk_at "go"
          refine ⟨3, kD (clF cs ns), clF cs ns, rfl, rfl, ?_, h64, fun ns' p1 p2 => ?_⟩
          · unfold kD
            rw [List.map_map]
            exact List.map_congr_left fun _ _ => rfl
          · exact q ns' p1 p2
end
end K08
namespace K08
open PySem PySem.Spec PyProof.Rows L2 Dl
local macro_rules | `(tactic| walk_at "v") => `(tactic| first
  | refine we_d (i := 0) rfl (vis3 rfl) rfl ?_ | refine we_o (i := 0) rfl (vis3 rfl) rfl ?_
  | refine we_d (i := 1) rfl (vis3 rfl) rfl ?_ | refine we_o (i := 1) rfl (vis3 rfl) rfl ?_
  | refine we_d (i := 2) rfl (vis3 rfl) rfl ?_ | refine we_o (i := 2) rfl (vis3 rfl) rfl ?_
  | refine we_d (i := 3) rfl (vis3 rfl) rfl ?_ | refine we_o (i := 3) rfl (vis3 rfl) rfl ?_
  | refine we_d (i := 4) rfl (vis3 rfl) rfl ?_ | refine we_o (i := 4) rfl (vis3 rfl) rfl ?_
  | refine we_d (i := 5) rfl (vis3 rfl) rfl ?_ | refine we_o (i := 5) rfl (vis3 rfl) rfl ?_
  | refine we_d (i := 6) rfl (vis3 rfl) rfl ?_ | refine we_o (i := 6) rfl (vis3 rfl) rfl ?_
  | refine we_d (i := 7) rfl (vis3 rfl) rfl ?_ | refine we_o (i := 7) rfl (vis3 rfl) rfl ?_
  | refine we_d (i := 8) rfl (vis3 rfl) rfl ?_ | refine we_o (i := 8) rfl (vis3 rfl) rfl ?_
  | refine we_d (i := 9) rfl (vis3 rfl) rfl ?_ | refine we_o (i := 9) rfl (vis3 rfl) rfl ?_
  | refine we_d (i := 10) rfl (vis3 rfl) rfl ?_ | refine we_o (i := 10) rfl (vis3 rfl) rfl ?_
  | refine we_d (i := 11) rfl (vis3 rfl) rfl ?_ | refine we_o (i := 11) rfl (vis3 rfl) rfl ?_
  | refine we_d (i := 12) rfl (vis3 rfl) rfl ?_ | refine we_o (i := 12) rfl (vis3 rfl) rfl ?_
  | refine we_d (i := 13) rfl (vis3 rfl) rfl ?_ | refine we_o (i := 13) rfl (vis3 rfl) rfl ?_
  | refine we_d (i := 14) rfl (vis3 rfl) rfl ?_ | refine we_o (i := 14) rfl (vis3 rfl) rfl ?_
  | refine we_d (i := 15) rfl (vis3 rfl) rfl ?_ | refine we_o (i := 15) rfl (vis3 rfl) rfl ?_
  | refine we_d (i := 16) rfl (vis3 rfl) rfl ?_ | refine we_o (i := 16) rfl (vis3 rfl) rfl ?_
  | refine we_d (i := 17) rfl (vis3 rfl) rfl ?_ | refine we_o (i := 17) rfl (vis3 rfl) rfl ?_
  | refine we_d (i := 18) rfl (vis3 rfl) rfl ?_ | refine we_o (i := 18) rfl (vis3 rfl) rfl ?_
  | refine we_d (i := 19) rfl (vis3 rfl) rfl ?_ | refine we_o (i := 19) rfl (vis3 rfl) rfl ?_
  | refine we_d (i := 20) rfl (vis3 rfl) rfl ?_ | refine we_o (i := 20) rfl (vis3 rfl) rfl ?_)
local macro_rules | `(tactic| walk_at "si") => `(tactic| first
  | refine ws_set (i := 0) (by assumption) rfl (loc2 rfl) (by decide) ?_
  | refine ws_set (i := 1) (by assumption) rfl (loc2 rfl) (by decide) ?_
  | refine ws_set (i := 2) (by assumption) rfl (loc2 rfl) (by decide) ?_
  | refine ws_set (i := 3) (by assumption) rfl (loc2 rfl) (by decide) ?_
  | refine ws_set (i := 4) (by assumption) rfl (loc2 rfl) (by decide) ?_
  | refine ws_set (i := 5) (by assumption) rfl (loc2 rfl) (by decide) ?_
  | refine ws_set (i := 6) (by assumption) rfl (loc2 rfl) (by decide) ?_
  | refine ws_set (i := 7) (by assumption) rfl (loc2 rfl) (by decide) ?_
  | refine ws_set (i := 8) (by assumption) rfl (loc2 rfl) (by decide) ?_
  | refine ws_set (i := 9) (by assumption) rfl (loc2 rfl) (by decide) ?_
  | refine ws_set (i := 10) (by assumption) rfl (loc2 rfl) (by decide) ?_
  | refine ws_set (i := 11) (by assumption) rfl (loc2 rfl) (by decide) ?_
  | refine ws_set (i := 12) (by assumption) rfl (loc2 rfl) (by decide) ?_
  | refine ws_set (i := 13) (by assumption) rfl (loc2 rfl) (by decide) ?_
  | refine ws_set (i := 14) (by assumption) rfl (loc2 rfl) (by decide) ?_
  | refine ws_set (i := 15) (by assumption) rfl (loc2 rfl) (by decide) ?_
  | refine ws_set (i := 16) (by assumption) rfl (loc2 rfl) (by decide) ?_
  | refine ws_set (i := 17) (by assumption) rfl (loc2 rfl) (by decide) ?_
  | refine ws_set (i := 18) (by assumption) rfl (loc2 rfl) (by decide) ?_
  | refine ws_set (i := 19) (by assumption) rfl (loc2 rfl) (by decide) ?_
  | refine ws_set (i := 20) (by assumption) rfl (loc2 rfl) (by decide) ?_)
local macro_rules | `(tactic| walk_at "gi") => `(tactic| first
  | refine wg_name (i := 0) (by assumption) rfl (loc2 rfl) (by decide) ?_
  | refine wg_name (i := 1) (by assumption) rfl (loc2 rfl) (by decide) ?_
  | refine wg_name (i := 2) (by assumption) rfl (loc2 rfl) (by decide) ?_
  | refine wg_name (i := 3) (by assumption) rfl (loc2 rfl) (by decide) ?_
  | refine wg_name (i := 4) (by assumption) rfl (loc2 rfl) (by decide) ?_
  | refine wg_name (i := 5) (by assumption) rfl (loc2 rfl) (by decide) ?_
  | refine wg_name (i := 6) (by assumption) rfl (loc2 rfl) (by decide) ?_
  | refine wg_name (i := 7) (by assumption) rfl (loc2 rfl) (by decide) ?_
  | refine wg_name (i := 8) (by assumption) rfl (loc2 rfl) (by decide) ?_
  | refine wg_name (i := 9) (by assumption) rfl (loc2 rfl) (by decide) ?_
  | refine wg_name (i := 10) (by assumption) rfl (loc2 rfl) (by decide) ?_
  | refine wg_name (i := 11) (by assumption) rfl (loc2 rfl) (by decide) ?_
  | refine wg_name (i := 12) (by assumption) rfl (loc2 rfl) (by decide) ?_
  | refine wg_name (i := 13) (by assumption) rfl (loc2 rfl) (by decide) ?_
  | refine wg_name (i := 14) (by assumption) rfl (loc2 rfl) (by decide) ?_
  | refine wg_name (i := 15) (by assumption) rfl (loc2 rfl) (by decide) ?_
  | refine wg_name (i := 16) (by assumption) rfl (loc2 rfl) (by decide) ?_
  | refine wg_name (i := 17) (by assumption) rfl (loc2 rfl) (by decide) ?_
  | refine wg_name (i := 18) (by assumption) rfl (loc2 rfl) (by decide) ?_
  | refine wg_name (i := 19) (by assumption) rfl (loc2 rfl) (by decide) ?_
  | refine wg_name (i := 20) (by assumption) rfl (loc2 rfl) (by decide) ?_)
local macro_rules | `(tactic| walk_at "side") => `(tactic| first | exact rfl | exact Nat.le_trans (m := 1000) (Nat.le_of_ble_eq_true rfl) sz1000 | omega | decide | assumption)
local macro_rules | `(tactic| walk_at "we") => `(tactic| first
  | (refine isName ?_; walk_at "v")
  | refine we_int ?_ | refine we_bl ?_ | refine we_non ?_ | refine we_str ?_
  | refine we_ix ?_
  | refine we_addG ?_ | refine we_sub ?_ | refine we_mulG ?_ | refine we_div ?_ | refine we_mod ?_ | refine we_pow ?_ | refine we_neg ?_
  | refine we_gt ?_ | refine we_lt ?_ | refine we_ge ?_ | refine we_le ?_
  | refine we_tup ?_ | refine we_lst ?_ | refine we_dict0 ?_
  | refine we_len (by assumption) rfl ?_ | refine we_slG ?_ | refine we_eqG (by assumption) ?_ | refine we_neG (by assumption) ?_ | refine we_not ?_ | refine we_one ?_ | refine we_and ?_ | refine we_or ?_
  | refine we_call2 (by assumption) (by assumption) (by assumption) (by decide) rfl ?_)
local macro_rules | `(tactic| walk_at "wt") => `(tactic| first
  | refine wt_gt ?_ | refine wt_lt ?_ | refine wt_ge ?_ | refine wt_le ?_ | refine wt_not ?_
  | refine wt_eqG (by assumption) ?_ | refine wt_neG (by assumption) ?_ | refine wt_bool ?_ | refine wt_val ?_)
local macro_rules | `(tactic| walk_at "ws") => `(tactic| first
  | refine ws_ret ?_ | (refine isSet ?_; walk_at "si") | refine ws_if ?_
  | refine ws_append (pe_bm PySem.F.plainAttrs_list PySem.F.slot_list_append PySem.F.type_list_append mt_append pe_m (pa_cons pe_m pa_nil)) ?_
  | refine ws_continue ?_ | refine ws_break ?_ | refine ws_pass ?_)
local macro_rules | `(tactic| walk_at "l") => `(tactic| first
  | refine And.intro (Exists.intro _ rfl) ?_
  | refine And.intro trivial ?_
  | refine Exists.intro _ (And.intro rfl ?_)
  | refine Exists.intro _ (Exists.intro _ (And.intro rfl (And.intro rfl ?_)))
  | refine And.intro (And.intro (by walk_at "side") (by walk_at "side") : CDiv _ _) ?_
  | refine And.intro (.inl (And.intro (by walk_at "side") (by walk_at "side")) : CMul _ _) ?_
  | refine And.intro (.inr (And.intro (by walk_at "side") (by walk_at "side")) : CMul _ _) ?_
  | refine And.intro (And.intro (List.cons_ne_nil _ _) (And.intro (by walk_at "side") (And.intro (by walk_at "side") (by walk_at "side")))) ?_
  | refine And.intro (by walk_at "side") ?_)
local macro_rules | `(tactic| walk_at "step") => `(tactic| first
  | (refine isWE ?_; walk_at "we")
  | (refine isWT ?_; walk_at "wt")
  | (refine isWSs ?_; first | refine wss_nil ?_ | refine wss_one ?_ | refine wss_cons ?_)
  | (refine isWS ?_; walk_at "ws")
  | (refine isWDs ?_; first | refine wds_nil ?_ | refine wds_cons ?_)
  | (refine isWW ?_; first | refine ww_and1 ?_ | refine ww_or1 ?_ | refine ww_and ?_ | refine ww_or ?_)
  | refine allB_i fun _ _ _ _ _ => ?_
  | refine asI_i (allB_i fun _ _ _ _ _ => ?_)
  | (refine isWG ?_; first | walk_at "gi" | refine wg_tup rfl ?_ rfl)
  | (refine isWGs ?_; first | refine wgs_nil ?_ | refine wgs_consN ?_)
  | (refine isWO ?_; first | refine wo_none ?_ | refine wo_some ?_)
  | (refine isWA ?_; first | refine wa_nil ?_ | refine wa_cons ?_)
  | walk_at "l")
local macro_rules | `(tactic| walk_at "go") => `(tactic| repeat (walk_at "step"))
theorem mem_ins {ns : List Int} {n x : Int} : x ∈ ins ns n ↔ x ∈ ns ∨ x = n := by
  unfold ins
  split
  · rename_i h
    exact ⟨.inl, fun h2 => h2.elim id fun e => e ▸ h⟩
  · rw [List.mem_append, List.mem_singleton]
theorem mem_insAll {x : Int} : ∀ (ms ns : List Int), x ∈ insAll ns ms ↔ x ∈ ns ∨ x ∈ ms
  | [], ns => ⟨.inl, fun h => h.elim id fun z => by cases z⟩
  | m :: r, ns => by
    show x ∈ insAll (ins ns m) r ↔ _
    rw [mem_insAll r, mem_ins, List.mem_cons]
    exact ⟨fun h => h.elim (fun h => h.elim .inl fun h => .inr (.inl h)) fun h => .inr (.inr h), fun h => h.elim (fun h => .inl (.inl h)) fun h => h.elim (fun h => .inl (.inr h)) .inr⟩
theorem mem_listF {cs : List Chg} {x : Int} : x ∈ listF cs ↔ x ∈ nums cs := by
  unfold listF
  rw [mem_insAll]
  exact ⟨fun h => h.elim (fun z => by cases z) id, .inr⟩
theorem ins_nd {ns : List Int} {n : Int} (h : ns.Nodup) : (ins ns n).Nodup := by
  unfold ins
  split
  · exact h
  · rename_i hn
    refine List.nodup_append.mpr ⟨h, by simp, fun a ha b hb e => ?_⟩
    rw [List.mem_singleton] at hb
    subst hb
    exact hn (e ▸ ha)
section
variable {cs : List Chg} {page : Int}
theorem idx_lt (inc : (nums cs).Pairwise (· < ·)) {i j : Nat} {a b : Chg} (ha : cs[i]? = some a) (hb : cs[j]? = some b) (h : i < j) : a.n < b.n := by
  have p := List.pairwise_iff_getElem.mp (List.pairwise_map.mp inc)
  obtain ⟨hi, rfl⟩ := List.getElem?_eq_some_iff.mp ha
  obtain ⟨hj, rfl⟩ := List.getElem?_eq_some_iff.mp hb
  exact p i j hi hj h
theorem lt_idx (inc : (nums cs).Pairwise (· < ·)) {i j : Nat} {a b : Chg} (ha : cs[i]? = some a) (hb : cs[j]? = some b) (h : a.n < b.n) : i < j := by
  rcases Nat.lt_trichotomy i j with z | z | z
  · exact z
  · subst z
    rw [ha] at hb
    cases hb
    omega
  · have := idx_lt inc hb ha z
    omega
theorem eq_idx (inc : (nums cs).Pairwise (· < ·)) {i j : Nat} {a b : Chg} (ha : cs[i]? = some a) (hb : cs[j]? = some b) (h : a.n = b.n) : i = j := by
  rcases Nat.lt_trichotomy i j with z | z | z
  · have := idx_lt inc ha hb z
    omega
  · exact z
  · have := idx_lt inc hb ha z
    omega
/-- one turn -/
theorem turn_cases {k : Nat} {c : Chg} (h : cs[k]? = some c) :
    (c.at_ ≠ page ∧ goesS cs page (k + 1) = goesS cs page k) ∨
    (c.at_ = page ∧ (leanF (listF cs) (goesS cs page k).1 c || heldF (goesS cs page k).2 c) = true ∧ goesS cs page (k + 1) = ((goesS cs page k).1, insAll (goesS cs page k).2 (spots c))) ∨
    (c.at_ = page ∧ (leanF (listF cs) (goesS cs page k).1 c || heldF (goesS cs page k).2 c) = false ∧ goesS cs page (k + 1) = (ins (goesS cs page k).1 c.n, (goesS cs page k).2)) := by
  rw [goesS_succ h]
  unfold stepG
  by_cases e : c.at_ = page
  · rw [if_neg (fun z => z e)]
    cases b : (leanF (listF cs) (goesS cs page k).1 c || heldF (goesS cs page k).2 c) with
    | true => exact .inr (.inl ⟨e, rfl, if_pos rfl⟩)
    | false => exact .inr (.inr ⟨e, rfl, if_neg Bool.false_ne_true⟩)
  · rw [if_pos e]
    exact .inl ⟨e, rfl⟩
theorem past {k : Nat} (h : cs.length ≤ k) : goesS cs page k = goesS cs page cs.length := by
  unfold goesS
  rw [List.take_of_length_le h, List.take_length]
theorem al_step {k : Nat} {x : Int} (h : x ∈ (goesS cs page k).1) : x ∈ (goesS cs page (k + 1)).1 := by
  cases q : cs[k]? with
  | none =>
    have hk := List.getElem?_eq_none_iff.mp q
    rw [past (Nat.le_succ_of_le hk), ← past hk]
    exact h
  | some c =>
    rcases turn_cases (page := page) q with ⟨_, e⟩ | ⟨_, _, e⟩ | ⟨_, _, e⟩
    · rw [e]; exact h
    · rw [e]; exact h
    · rw [e]; exact mem_ins.mpr (.inl h)
theorem he_step {k : Nat} {x : Int} (h : x ∈ (goesS cs page k).2) : x ∈ (goesS cs page (k + 1)).2 := by
  cases q : cs[k]? with
  | none =>
    have hk := List.getElem?_eq_none_iff.mp q
    rw [past (Nat.le_succ_of_le hk), ← past hk]
    exact h
  | some c =>
    rcases turn_cases (page := page) q with ⟨_, e⟩ | ⟨_, _, e⟩ | ⟨_, _, e⟩
    · rw [e]; exact h
    · rw [e]; exact (mem_insAll _ _).mpr (.inl h)
    · rw [e]; exact h
theorem al_mono {x : Int} {k : Nat} : ∀ m, x ∈ (goesS cs page k).1 → x ∈ (goesS cs page (k + m)).1
  | 0, h => h
  | m + 1, h => al_step (al_mono m h)
theorem he_mono {x : Int} {k : Nat} : ∀ m, x ∈ (goesS cs page k).2 → x ∈ (goesS cs page (k + m)).2
  | 0, h => h
  | m + 1, h => he_step (he_mono m h)
theorem al_in {x : Int} : ∀ k, x ∈ (goesS cs page k).1 → ∃ i c, i < k ∧ cs[i]? = some c ∧ c.n = x ∧ c.at_ = page
  | 0, h => by cases h
  | k + 1, h => by
    have up : x ∈ (goesS cs page k).1 → ∃ i c, i < k + 1 ∧ cs[i]? = some c ∧ c.n = x ∧ c.at_ = page := fun h => by
      obtain ⟨i, c, h1, h2⟩ := al_in k h
      exact ⟨i, c, by omega, h2⟩
    cases q : cs[k]? with
    | none =>
      have hk := List.getElem?_eq_none_iff.mp q
      rw [past (Nat.le_succ_of_le hk), ← past hk] at h
      exact up h
    | some c =>
      rcases turn_cases (page := page) q with ⟨_, e⟩ | ⟨_, _, e⟩ | ⟨ep, _, e⟩
      · rw [e] at h; exact up h
      · rw [e] at h; exact up h
      · rw [e] at h
        rcases mem_ins.mp h with h | h
        · exact up h
        · exact ⟨k, c, by omega, q, h.symm, ep⟩
/-- what is taken in the end was taken at its own turn -/
theorem al_own (inc : (nums cs).Pairwise (· < ·)) {i : Nat} {c : Chg} (hc : cs[i]? = some c) : ∀ m, c.n ∈ (goesS cs page (i + 1 + m)).1 → c.n ∈ (goesS cs page (i + 1)).1
  | 0, h => h
  | m + 1, h => by
    apply al_own inc hc m
    have h' : c.n ∈ (goesS cs page (i + 1 + m + 1)).1 := h
    cases q : cs[i + 1 + m]? with
    | none =>
      have hk := List.getElem?_eq_none_iff.mp q
      rw [past (Nat.le_succ_of_le hk), ← past hk] at h'
      exact h'
    | some d =>
      rcases turn_cases (page := page) q with ⟨_, e⟩ | ⟨_, _, e⟩ | ⟨_, _, e⟩
      · rw [e] at h'; exact h'
      · rw [e] at h'; exact h'
      · rw [e] at h'
        rcases mem_ins.mp h' with h' | h'
        · exact h'
        · have := eq_idx inc hc q h'
          omega
theorem idx_len {i : Nat} {c : Chg} (hc : cs[i]? = some c) : i + 1 ≤ cs.length := (List.getElem?_eq_some_iff.mp hc).1
theorem own_iff (inc : (nums cs).Pairwise (· < ·)) {i : Nat} {c : Chg} (hc : cs[i]? = some c) : c.n ∈ goesF cs page ↔ c.n ∈ (goesS cs page (i + 1)).1 := by
  have hl := idx_len hc
  have e : cs.length = i + 1 + (cs.length - (i + 1)) := by omega
  unfold goesF
  rw [e]
  exact ⟨al_own inc hc _, al_mono _⟩
theorem not_yet (inc : (nums cs).Pairwise (· < ·)) {i : Nat} {c : Chg} (hc : cs[i]? = some c) : c.n ∉ (goesS cs page i).1 := fun h => by
  obtain ⟨j, d, h1, h2, h3, _⟩ := al_in i h
  have := eq_idx inc h2 hc h3
  omega
theorem taken_iff (inc : (nums cs).Pairwise (· < ·)) {i : Nat} {c : Chg} (hc : cs[i]? = some c) (ep : c.at_ = page) : c.n ∈ goesF cs page ↔ (leanF (listF cs) (goesS cs page i).1 c || heldF (goesS cs page i).2 c) = false := by
  rw [own_iff inc hc]
  rcases turn_cases (page := page) hc with ⟨z, _⟩ | ⟨_, b, e⟩ | ⟨_, b, e⟩
  · exact (z ep).elim
  · rw [e, b]
    exact ⟨fun h => (not_yet inc hc h).elim, fun z => Bool.noConfusion z⟩
  · rw [e, b]
    exact ⟨fun _ => rfl, fun _ => mem_ins.mpr (.inr rfl)⟩
theorem he_in (inc : (nums cs).Pairwise (· < ·)) {x : Int} : ∀ k, x ∈ (goesS cs page k).2 → ∃ i e, i < k ∧ cs[i]? = some e ∧ e.at_ = page ∧ x ∈ spots e ∧ e.n ∉ goesF cs page
  | 0, h => by cases h
  | k + 1, h => by
    have up : x ∈ (goesS cs page k).2 → ∃ i e, i < k + 1 ∧ cs[i]? = some e ∧ e.at_ = page ∧ x ∈ spots e ∧ e.n ∉ goesF cs page := fun h => by
      obtain ⟨i, c, h1, h2⟩ := he_in inc k h
      exact ⟨i, c, by omega, h2⟩
    cases q : cs[k]? with
    | none =>
      have hk := List.getElem?_eq_none_iff.mp q
      rw [past (Nat.le_succ_of_le hk), ← past hk] at h
      exact up h
    | some c =>
      rcases turn_cases (page := page) q with ⟨_, e⟩ | ⟨ep, b, e⟩ | ⟨_, _, e⟩
      · rw [e] at h; exact up h
      · rw [e] at h
        rcases (mem_insAll _ _).mp h with h | h
        · exact up h
        · refine ⟨k, c, by omega, q, ep, h, fun z => ?_⟩
          rw [taken_iff inc q ep, b] at z
          cases z
      · rw [e] at h; exact up h
theorem he_of (inc : (nums cs).Pairwise (· < ·)) {i k : Nat} {e : Chg} {x : Int} (he : cs[i]? = some e) (hk : i < k) (ep : e.at_ = page) (hx : x ∈ spots e) (hn : e.n ∉ goesF cs page) : x ∈ (goesS cs page k).2 := by
  have e1 : k = i + 1 + (k - (i + 1)) := by omega
  rw [e1]
  apply he_mono
  rcases turn_cases (page := page) he with ⟨z, _⟩ | ⟨_, b, q⟩ | ⟨_, b, q⟩
  · exact (z ep).elim
  · rw [q]
    exact (mem_insAll _ _).mpr (.inr hx)
  · exact (hn ((taken_iff inc he ep).mpr b)).elim
theorem al_of (inc : (nums cs).Pairwise (· < ·)) {i : Nat} {c o : Chg} (hc : cs[i]? = some c) (ho : o ∈ cs) (hlt : o.n < c.n) : o.n ∈ goesF cs page ↔ o.n ∈ (goesS cs page i).1 := by
  obtain ⟨j, hj⟩ := List.mem_iff_getElem?.mp ho
  have hji := lt_idx inc hj hc hlt
  have e1 : i = j + 1 + (i - (j + 1)) := by omega
  rw [own_iff inc hj, e1]
  exact ⟨al_mono _, al_own inc hj _⟩
theorem mem_wants {c : Chg} {m : Int} : m ∈ wantsF cs c ↔ (m ∈ c.leans ∧ m ∈ nums cs) ∨ ∃ o ∈ cs, o.n = m ∧ o.n < c.n ∧ o.at_ = c.at_ ∧ ∃ s ∈ spots o, s ∈ spots c := by
  have hs : ∀ o : Chg, shareF o c = true ↔ o.at_ = c.at_ ∧ ∃ s ∈ spots o, s ∈ spots c := fun o => by
    unfold shareF
    rw [Bool.and_eq_true, decide_eq_true_iff, Bool.not_eq_true', decide_eq_false_iff_not]
    refine and_congr_right fun _ => ⟨fun h => ?_, fun ⟨s, h1, h2⟩ z => ?_⟩
    · obtain ⟨s, hs⟩ := List.exists_mem_of_ne_nil _ h
      obtain ⟨h1, h2⟩ := List.mem_filter.mp hs
      exact ⟨s, h1, of_decide_eq_true h2⟩
    · have : s ∈ (spots o).filter fun s => decide (s ∈ spots c) := List.mem_filter.mpr ⟨h1, decide_eq_true h2⟩
      rw [z] at this
      cases this
  unfold wantsF
  rw [List.mem_append, List.mem_filter, decide_eq_true_iff]
  refine or_congr_right ?_
  unfold nums
  rw [List.mem_map]
  constructor
  · rintro ⟨o, ho, rfl⟩
    obtain ⟨h1, h2⟩ := List.mem_filter.mp ho
    rw [Bool.and_eq_true, decide_eq_true_iff, hs] at h2
    exact ⟨o, h1, rfl, h2.1, h2.2⟩
  · rintro ⟨o, ho, rfl, h1, h2⟩
    exact ⟨o, List.mem_filter.mpr ⟨ho, by rw [Bool.and_eq_true, decide_eq_true_iff, hs]; exact ⟨h1, h2⟩⟩, rfl⟩
/-- a change is taken where all that it wants is -/
theorem taken_wants (inc : (nums cs).Pairwise (· < ·)) {c : Chg} (hc : c ∈ cs) (hl : ∀ l ∈ c.leans, l < c.n) (ep : c.at_ = page) : c.n ∈ goesF cs page ↔ ∀ m ∈ wantsF cs c, m ∈ goesF cs page := by
  obtain ⟨i, hi⟩ := List.mem_iff_getElem?.mp hc
  rw [taken_iff inc hi ep, Bool.or_eq_false_iff]
  have lean : leanF (listF cs) (goesS cs page i).1 c = false ↔ ∀ l ∈ c.leans, l ∈ nums cs → l ∈ goesF cs page := by
    unfold leanF
    rw [List.any_eq_false]
    refine forall_congr' fun l => forall_congr' fun hlm => ?_
    rw [Bool.and_eq_true, decide_eq_true_iff, Bool.not_eq_true', decide_eq_false_iff_not, mem_listF]
    constructor
    · intro h hn
      obtain ⟨o, ho, rfl⟩ := List.mem_map.mp hn
      exact (al_of inc hi ho (hl _ hlm)).mpr (Decidable.byContradiction fun z => h ⟨hn, z⟩)
    · rintro h ⟨hn, z⟩
      obtain ⟨o, ho, rfl⟩ := List.mem_map.mp hn
      exact z ((al_of inc hi ho (hl _ hlm)).mp (h hn))
  have held : heldF (goesS cs page i).2 c = false ↔ ∀ o ∈ cs, o.n < c.n → o.at_ = c.at_ → (∃ s ∈ spots o, s ∈ spots c) → o.n ∈ goesF cs page := by
    unfold heldF
    rw [List.any_eq_false]
    constructor
    · rintro h o ho hlt ea ⟨s, h1, h2⟩
      refine Decidable.byContradiction fun z => ?_
      obtain ⟨j, hj⟩ := List.mem_iff_getElem?.mp ho
      exact h s h2 (decide_eq_true (he_of inc hj (lt_idx inc hj hi hlt) (ea.trans ep) h1 z))
    · intro h s hs z
      obtain ⟨j, e, h1, h2, h3, h4, h5⟩ := he_in inc i (of_decide_eq_true z)
      exact h5 (h e (List.mem_of_getElem? h2) (idx_lt inc h2 hi h1) (h3.trans ep.symm) ⟨s, h4, hs⟩)
  rw [lean, held]
  constructor
  · rintro ⟨h1, h2⟩ m hm
    rcases mem_wants.mp hm with ⟨g1, g2⟩ | ⟨o, ho, rfl, g1, g2, g3⟩
    · exact h1 m g1 g2
    · exact h2 o ho g1 g2 g3
  · intro h
    exact ⟨fun l g1 g2 => h l (mem_wants.mpr (.inl ⟨g1, g2⟩)), fun o ho g1 g2 g3 => h o.n (mem_wants.mpr (.inr ⟨o, ho, rfl, g1, g2, g3⟩))⟩
theorem want_lt {c : Chg} (hl : ∀ l ∈ c.leans, l < c.n) {m : Int} (h : m ∈ wantsF cs c) : m < c.n := by
  rcases mem_wants.mp h with ⟨h1, _⟩ | ⟨o, _, rfl, h1, _⟩
  · exact hl m h1
  · exact h1
theorem goes_nd : ∀ k, (goesS cs page k).1.Nodup
  | 0 => .nil
  | k + 1 => by
    cases q : cs[k]? with
    | none =>
      have hk := List.getElem?_eq_none_iff.mp q
      rw [past (Nat.le_succ_of_le hk), ← past hk]
      exact goes_nd k
    | some c =>
      rcases turn_cases (page := page) q with ⟨_, e⟩ | ⟨_, _, e⟩ | ⟨_, _, e⟩
      · rw [e]; exact goes_nd k
      · rw [e]; exact goes_nd k
      · rw [e]; exact ins_nd (goes_nd k)
end
end K08
namespace K08
open PySem PySem.Spec PyProof.Rows L2 Dl
local macro_rules | `(tactic| walk_at "v") => `(tactic| first
  | refine we_d (i := 0) rfl (vis3 rfl) rfl ?_ | refine we_o (i := 0) rfl (vis3 rfl) rfl ?_
  | refine we_d (i := 1) rfl (vis3 rfl) rfl ?_ | refine we_o (i := 1) rfl (vis3 rfl) rfl ?_
  | refine we_d (i := 2) rfl (vis3 rfl) rfl ?_ | refine we_o (i := 2) rfl (vis3 rfl) rfl ?_
  | refine we_d (i := 3) rfl (vis3 rfl) rfl ?_ | refine we_o (i := 3) rfl (vis3 rfl) rfl ?_
  | refine we_d (i := 4) rfl (vis3 rfl) rfl ?_ | refine we_o (i := 4) rfl (vis3 rfl) rfl ?_
  | refine we_d (i := 5) rfl (vis3 rfl) rfl ?_ | refine we_o (i := 5) rfl (vis3 rfl) rfl ?_
  | refine we_d (i := 6) rfl (vis3 rfl) rfl ?_ | refine we_o (i := 6) rfl (vis3 rfl) rfl ?_
  | refine we_d (i := 7) rfl (vis3 rfl) rfl ?_ | refine we_o (i := 7) rfl (vis3 rfl) rfl ?_
  | refine we_d (i := 8) rfl (vis3 rfl) rfl ?_ | refine we_o (i := 8) rfl (vis3 rfl) rfl ?_
  | refine we_d (i := 9) rfl (vis3 rfl) rfl ?_ | refine we_o (i := 9) rfl (vis3 rfl) rfl ?_
  | refine we_d (i := 10) rfl (vis3 rfl) rfl ?_ | refine we_o (i := 10) rfl (vis3 rfl) rfl ?_
  | refine we_d (i := 11) rfl (vis3 rfl) rfl ?_ | refine we_o (i := 11) rfl (vis3 rfl) rfl ?_
  | refine we_d (i := 12) rfl (vis3 rfl) rfl ?_ | refine we_o (i := 12) rfl (vis3 rfl) rfl ?_
  | refine we_d (i := 13) rfl (vis3 rfl) rfl ?_ | refine we_o (i := 13) rfl (vis3 rfl) rfl ?_
  | refine we_d (i := 14) rfl (vis3 rfl) rfl ?_ | refine we_o (i := 14) rfl (vis3 rfl) rfl ?_
  | refine we_d (i := 15) rfl (vis3 rfl) rfl ?_ | refine we_o (i := 15) rfl (vis3 rfl) rfl ?_
  | refine we_d (i := 16) rfl (vis3 rfl) rfl ?_ | refine we_o (i := 16) rfl (vis3 rfl) rfl ?_
  | refine we_d (i := 17) rfl (vis3 rfl) rfl ?_ | refine we_o (i := 17) rfl (vis3 rfl) rfl ?_
  | refine we_d (i := 18) rfl (vis3 rfl) rfl ?_ | refine we_o (i := 18) rfl (vis3 rfl) rfl ?_
  | refine we_d (i := 19) rfl (vis3 rfl) rfl ?_ | refine we_o (i := 19) rfl (vis3 rfl) rfl ?_
  | refine we_d (i := 20) rfl (vis3 rfl) rfl ?_ | refine we_o (i := 20) rfl (vis3 rfl) rfl ?_)
local macro_rules | `(tactic| walk_at "si") => `(tactic| first
  | refine ws_set (i := 0) (by assumption) rfl (loc2 rfl) (by decide) ?_
  | refine ws_set (i := 1) (by assumption) rfl (loc2 rfl) (by decide) ?_
  | refine ws_set (i := 2) (by assumption) rfl (loc2 rfl) (by decide) ?_
  | refine ws_set (i := 3) (by assumption) rfl (loc2 rfl) (by decide) ?_
  | refine ws_set (i := 4) (by assumption) rfl (loc2 rfl) (by decide) ?_
  | refine ws_set (i := 5) (by assumption) rfl (loc2 rfl) (by decide) ?_
  | refine ws_set (i := 6) (by assumption) rfl (loc2 rfl) (by decide) ?_
  | refine ws_set (i := 7) (by assumption) rfl (loc2 rfl) (by decide) ?_
  | refine ws_set (i := 8) (by assumption) rfl (loc2 rfl) (by decide) ?_
  | refine ws_set (i := 9) (by assumption) rfl (loc2 rfl) (by decide) ?_
  | refine ws_set (i := 10) (by assumption) rfl (loc2 rfl) (by decide) ?_
  | refine ws_set (i := 11) (by assumption) rfl (loc2 rfl) (by decide) ?_
  | refine ws_set (i := 12) (by assumption) rfl (loc2 rfl) (by decide) ?_
  | refine ws_set (i := 13) (by assumption) rfl (loc2 rfl) (by decide) ?_
  | refine ws_set (i := 14) (by assumption) rfl (loc2 rfl) (by decide) ?_
  | refine ws_set (i := 15) (by assumption) rfl (loc2 rfl) (by decide) ?_
  | refine ws_set (i := 16) (by assumption) rfl (loc2 rfl) (by decide) ?_
  | refine ws_set (i := 17) (by assumption) rfl (loc2 rfl) (by decide) ?_
  | refine ws_set (i := 18) (by assumption) rfl (loc2 rfl) (by decide) ?_
  | refine ws_set (i := 19) (by assumption) rfl (loc2 rfl) (by decide) ?_
  | refine ws_set (i := 20) (by assumption) rfl (loc2 rfl) (by decide) ?_)
local macro_rules | `(tactic| walk_at "gi") => `(tactic| first
  | refine wg_name (i := 0) (by assumption) rfl (loc2 rfl) (by decide) ?_
  | refine wg_name (i := 1) (by assumption) rfl (loc2 rfl) (by decide) ?_
  | refine wg_name (i := 2) (by assumption) rfl (loc2 rfl) (by decide) ?_
  | refine wg_name (i := 3) (by assumption) rfl (loc2 rfl) (by decide) ?_
  | refine wg_name (i := 4) (by assumption) rfl (loc2 rfl) (by decide) ?_
  | refine wg_name (i := 5) (by assumption) rfl (loc2 rfl) (by decide) ?_
  | refine wg_name (i := 6) (by assumption) rfl (loc2 rfl) (by decide) ?_
  | refine wg_name (i := 7) (by assumption) rfl (loc2 rfl) (by decide) ?_
  | refine wg_name (i := 8) (by assumption) rfl (loc2 rfl) (by decide) ?_
  | refine wg_name (i := 9) (by assumption) rfl (loc2 rfl) (by decide) ?_
  | refine wg_name (i := 10) (by assumption) rfl (loc2 rfl) (by decide) ?_
  | refine wg_name (i := 11) (by assumption) rfl (loc2 rfl) (by decide) ?_
  | refine wg_name (i := 12) (by assumption) rfl (loc2 rfl) (by decide) ?_
  | refine wg_name (i := 13) (by assumption) rfl (loc2 rfl) (by decide) ?_
  | refine wg_name (i := 14) (by assumption) rfl (loc2 rfl) (by decide) ?_
  | refine wg_name (i := 15) (by assumption) rfl (loc2 rfl) (by decide) ?_
  | refine wg_name (i := 16) (by assumption) rfl (loc2 rfl) (by decide) ?_
  | refine wg_name (i := 17) (by assumption) rfl (loc2 rfl) (by decide) ?_
  | refine wg_name (i := 18) (by assumption) rfl (loc2 rfl) (by decide) ?_
  | refine wg_name (i := 19) (by assumption) rfl (loc2 rfl) (by decide) ?_
  | refine wg_name (i := 20) (by assumption) rfl (loc2 rfl) (by decide) ?_)
local macro_rules | `(tactic| walk_at "side") => `(tactic| first | exact rfl | exact Nat.le_trans (m := 1000) (Nat.le_of_ble_eq_true rfl) sz1000 | omega | decide | assumption)
local macro_rules | `(tactic| walk_at "we") => `(tactic| first
  | (refine isName ?_; walk_at "v")
  | refine we_int ?_ | refine we_bl ?_ | refine we_non ?_ | refine we_str ?_
  | refine we_ix ?_
  | refine we_addG ?_ | refine we_sub ?_ | refine we_mulG ?_ | refine we_div ?_ | refine we_mod ?_ | refine we_pow ?_ | refine we_neg ?_
  | refine we_gt ?_ | refine we_lt ?_ | refine we_ge ?_ | refine we_le ?_
  | refine we_tup ?_ | refine we_lst ?_ | refine we_dict0 ?_
  | refine we_len (by assumption) rfl ?_ | refine we_slG ?_ | refine we_eqG (by assumption) ?_ | refine we_neG (by assumption) ?_ | refine we_not ?_ | refine we_one ?_ | refine we_and ?_ | refine we_or ?_
  | refine we_call2 (by assumption) (by assumption) (by assumption) (by decide) rfl ?_)
local macro_rules | `(tactic| walk_at "wt") => `(tactic| first
  | refine wt_gt ?_ | refine wt_lt ?_ | refine wt_ge ?_ | refine wt_le ?_ | refine wt_not ?_
  | refine wt_eqG (by assumption) ?_ | refine wt_neG (by assumption) ?_ | refine wt_bool ?_ | refine wt_val ?_)
local macro_rules | `(tactic| walk_at "ws") => `(tactic| first
  | refine ws_ret ?_ | (refine isSet ?_; walk_at "si") | refine ws_if ?_
  | refine ws_append (pe_bm PySem.F.plainAttrs_list PySem.F.slot_list_append PySem.F.type_list_append mt_append pe_m (pa_cons pe_m pa_nil)) ?_
  | refine ws_continue ?_ | refine ws_break ?_ | refine ws_pass ?_)
local macro_rules | `(tactic| walk_at "l") => `(tactic| first
  | refine And.intro (Exists.intro _ rfl) ?_
  | refine And.intro trivial ?_
  | refine Exists.intro _ (And.intro rfl ?_)
  | refine Exists.intro _ (Exists.intro _ (And.intro rfl (And.intro rfl ?_)))
  | refine And.intro (And.intro (by walk_at "side") (by walk_at "side") : CDiv _ _) ?_
  | refine And.intro (.inl (And.intro (by walk_at "side") (by walk_at "side")) : CMul _ _) ?_
  | refine And.intro (.inr (And.intro (by walk_at "side") (by walk_at "side")) : CMul _ _) ?_
  | refine And.intro (And.intro (List.cons_ne_nil _ _) (And.intro (by walk_at "side") (And.intro (by walk_at "side") (by walk_at "side")))) ?_
  | refine And.intro (by walk_at "side") ?_)
local macro_rules | `(tactic| walk_at "step") => `(tactic| first
  | (refine isWE ?_; walk_at "we")
  | (refine isWT ?_; walk_at "wt")
  | (refine isWSs ?_; first | refine wss_nil ?_ | refine wss_one ?_ | refine wss_cons ?_)
  | (refine isWS ?_; walk_at "ws")
  | (refine isWDs ?_; first | refine wds_nil ?_ | refine wds_cons ?_)
  | (refine isWW ?_; first | refine ww_and1 ?_ | refine ww_or1 ?_ | refine ww_and ?_ | refine ww_or ?_)
  | refine allB_i fun _ _ _ _ _ => ?_
  | refine asI_i (allB_i fun _ _ _ _ _ => ?_)
  | (refine isWG ?_; first | walk_at "gi" | refine wg_tup rfl ?_ rfl)
  | (refine isWGs ?_; first | refine wgs_nil ?_ | refine wgs_consN ?_)
  | (refine isWO ?_; first | refine wo_none ?_ | refine wo_some ?_)
  | (refine isWA ?_; first | refine wa_nil ?_ | refine wa_cons ?_)
  | walk_at "l")
local macro_rules | `(tactic| walk_at "go") => `(tactic| repeat (walk_at "step"))
inductive Reach (cs : List Chg) (ns : List Int) : Int → Prop
  | base {x : Int} : x ∈ ns → Reach cs ns x
  | step {c : Chg} {m : Int} : c ∈ cs → Reach cs ns c.n → m ∈ wantsF cs c → Reach cs ns m
theorem nodup_le : ∀ {l m : List Int}, l.Nodup → (∀ x ∈ l, x ∈ m) → l.length ≤ m.length
  | [], m, _, _ => Nat.zero_le _
  | a :: t, m, nd, h => by
    have ha : a ∈ m := h a List.mem_cons_self
    obtain ⟨h1, h2⟩ := List.nodup_cons.mp nd
    have ih := nodup_le (l := t) (m := m.erase a) h2 fun x hx => (List.mem_erase_of_ne (fun z => h1 (by rw [← z]; exact hx))).mpr (h x (List.mem_cons_of_mem _ hx))
    rw [List.length_erase_of_mem ha] at ih
    have : 0 < m.length := List.length_pos_of_mem ha
    rw [List.length_cons]
    omega
theorem srt_ext {a b : List Int} (ha : a.Pairwise (· < ·)) (hb : b.Pairwise (· < ·)) (h : ∀ x, x ∈ a ↔ x ∈ b) : a = b := by
  have na : a.Nodup := ha.imp fun h e => by omega
  have nb : b.Nodup := hb.imp fun h e => by omega
  exact List.Perm.eq_of_pairwise (le := (· < ·)) (fun a b _ _ h1 h2 => by omega) ha hb ((List.perm_ext_iff_of_nodup na nb).mpr h)
theorem srt_of {ns' ms : List Int} (p : ns'.Perm ms) (h : ns'.Pairwise (· ≤ ·)) (nd : ms.Nodup) : ns'.Pairwise (· < ·) := L2.lt_of_le_nodup ns' h (p.nodup_iff.mpr nd)
theorem insAll_nd : ∀ {ms ns : List Int}, ns.Nodup → (insAll ns ms).Nodup
  | [], _, h => h
  | m :: r, ns, h => insAll_nd (ms := r) (ins_nd h)
theorem reach_mem {cs : List Chg} {ns : List Int} (sub : ∀ x ∈ ns, x ∈ nums cs) {x : Int} (h : Reach cs ns x) : x ∈ nums cs := by
  induction h with
  | base h => exact sub _ h
  | step hc _ hm _ =>
    rcases mem_wants.mp hm with ⟨_, h⟩ | ⟨o, ho, rfl, _⟩
    · exact h
    · exact List.mem_map.mpr ⟨o, ho, rfl⟩
theorem reach_idem {cs : List Chg} {ns ms : List Int} (h : ∀ x, x ∈ ms ↔ Reach cs ns x) {x : Int} (r : Reach cs ms x) : x ∈ ms := by
  induction r with
  | base h => exact h
  | step hc _ hm ih => exact (h _).mpr (.step hc ((h _).mp ih) hm)
section
variable {cs : List Chg} {ns : List Int}
theorem rv_gt (inc : (nums cs).Pairwise (· < ·)) : (rv cs).Pairwise fun a b => b.n < a.n := by
  have h1 : (rv cs).Pairwise fun a b => b.n ≤ a.n := by
    unfold rv
    rw [PySem.W.dataGe_int]
    have := List.pairwise_mergeSort (le := fun a b : Chg => decide (b.n ≤ a.n)) (fun a b c h1 h2 => by simp at h1 h2 ⊢; omega) (fun a b => by simp; omega) cs
    exact this.imp fun h => of_decide_eq_true h
  have p : (rv cs).Perm cs := List.mergeSort_perm _ _
  have h2 : ((rv cs).map (fun c : Chg => c.n)).Nodup := (p.map (fun c : Chg => c.n)).nodup_iff.mpr ((show (nums cs).Nodup from inc.imp fun h e => by omega))
  have h3 : (rv cs).Pairwise fun a b => a.n ≠ b.n := List.pairwise_map.mp h2
  exact (h1.and h3).imp fun ⟨a, b⟩ => by omega
theorem rv_lt (inc : (nums cs).Pairwise (· < ·)) {i j : Nat} {a b : Chg} (ha : (rv cs)[i]? = some a) (hb : (rv cs)[j]? = some b) (h : i < j) : b.n < a.n := by
  obtain ⟨hi, rfl⟩ := List.getElem?_eq_some_iff.mp ha
  obtain ⟨hj, rfl⟩ := List.getElem?_eq_some_iff.mp hb
  exact List.pairwise_iff_getElem.mp (rv_gt inc) i j hi hj h
theorem rv_idx (inc : (nums cs).Pairwise (· < ·)) {i j : Nat} {a b : Chg} (ha : (rv cs)[i]? = some a) (hb : (rv cs)[j]? = some b) (h : b.n < a.n) : i < j := by
  rcases Nat.lt_trichotomy i j with z | z | z
  · exact z
  · subst z
    rw [ha] at hb
    cases hb
    omega
  · have := rv_lt inc hb ha z
    omega
theorem cl_turn {k : Nat} {c : Chg} (h : (rv cs)[k]? = some c) : (hitF (clS cs ns k) c = true ∧ clS cs ns (k + 1) = (insAll (ins (clS cs ns k).1 c.n) (leanL (listF cs) c), insTs (clS cs ns k).2 (plcs c))) ∨ (hitF (clS cs ns k) c = false ∧ clS cs ns (k + 1) = clS cs ns k) := by
  rw [clS_succ h]
  unfold stepC
  cases b : hitF (clS cs ns k) c with
  | true => exact .inl ⟨rfl, if_pos rfl⟩
  | false => exact .inr ⟨rfl, if_neg Bool.false_ne_true⟩
theorem cl_past {k : Nat} (h : (rv cs).length ≤ k) : clS cs ns k = clS cs ns (rv cs).length := by
  unfold clS
  rw [List.take_of_length_le h, List.take_length]
theorem mem_insT {ns : List (List Int)} {n x : List Int} : x ∈ insT ns n ↔ x ∈ ns ∨ x = n := by
  unfold insT
  split
  · rename_i h
    exact ⟨.inl, fun h2 => h2.elim id fun e => e ▸ h⟩
  · rw [List.mem_append, List.mem_singleton]
theorem mem_insTs {x : List Int} : ∀ (ms ns : List (List Int)), x ∈ insTs ns ms ↔ x ∈ ns ∨ x ∈ ms
  | [], ns => ⟨.inl, fun h => h.elim id fun z => by cases z⟩
  | m :: r, ns => by
    show x ∈ insTs (insT ns m) r ↔ _
    rw [mem_insTs r, mem_insT, List.mem_cons]
    exact ⟨fun h => h.elim (fun h => h.elim .inl fun h => .inr (.inl h)) fun h => .inr (.inr h), fun h => h.elim (fun h => .inl (.inl h)) fun h => h.elim (fun h => .inl (.inr h)) .inr⟩
theorem cl_nd : ∀ k, (clS cs ns k).1.Nodup
  | 0 => insAll_nd .nil
  | k + 1 => by
    cases q : (rv cs)[k]? with
    | none =>
      have hk := List.getElem?_eq_none_iff.mp q
      rw [cl_past (Nat.le_succ_of_le hk), ← cl_past hk]
      exact cl_nd k
    | some c =>
      rcases cl_turn (ns := ns) q with ⟨_, e⟩ | ⟨_, e⟩
      · rw [e]
        exact insAll_nd (ins_nd (cl_nd k))
      · rw [e]
        exact cl_nd k
theorem cl_step {k : Nat} {x : Int} (h : x ∈ (clS cs ns k).1) : x ∈ (clS cs ns (k + 1)).1 := by
  cases q : (rv cs)[k]? with
  | none =>
    have hk := List.getElem?_eq_none_iff.mp q
    rw [cl_past (Nat.le_succ_of_le hk), ← cl_past hk]
    exact h
  | some c =>
    rcases cl_turn (ns := ns) q with ⟨_, e⟩ | ⟨_, e⟩
    · rw [e]
      exact (mem_insAll _ _).mpr (.inl (mem_ins.mpr (.inl h)))
    · rw [e]
      exact h
theorem pl_step {k : Nat} {x : List Int} (h : x ∈ (clS cs ns k).2) : x ∈ (clS cs ns (k + 1)).2 := by
  cases q : (rv cs)[k]? with
  | none =>
    have hk := List.getElem?_eq_none_iff.mp q
    rw [cl_past (Nat.le_succ_of_le hk), ← cl_past hk]
    exact h
  | some c =>
    rcases cl_turn (ns := ns) q with ⟨_, e⟩ | ⟨_, e⟩
    · rw [e]
      exact (mem_insTs _ _).mpr (.inl h)
    · rw [e]
      exact h
theorem cl_mono {x : Int} {k : Nat} : ∀ m, x ∈ (clS cs ns k).1 → x ∈ (clS cs ns (k + m)).1
  | 0, h => h
  | m + 1, h => cl_step (cl_mono m h)
theorem pl_mono {x : List Int} {k : Nat} : ∀ m, x ∈ (clS cs ns k).2 → x ∈ (clS cs ns (k + m)).2
  | 0, h => h
  | m + 1, h => pl_step (pl_mono m h)
theorem mem_plcs {c : Chg} {p : List Int} : p ∈ plcs c ↔ ∃ s ∈ spots c, p = [c.at_, s] := by
  unfold plcs spots
  rw [List.mem_map]
  constructor
  · rintro ⟨q, hq, rfl⟩
    exact ⟨q.1, List.mem_map.mpr ⟨q, hq, rfl⟩, rfl⟩
  · rintro ⟨s, hs, rfl⟩
    obtain ⟨q, hq, rfl⟩ := List.mem_map.mp hs
    exact ⟨q, hq, rfl⟩
/-- what is there is reached; what is a place is that of a change that is taken -/
theorem cl_reach (inc : (nums cs).Pairwise (· < ·)) : ∀ k, (∀ x ∈ (clS cs ns k).1, Reach cs ns x) ∧ ∀ p ∈ (clS cs ns k).2, ∃ i d, i < k ∧ (rv cs)[i]? = some d ∧ Reach cs ns d.n ∧ p ∈ plcs d
  | 0 => by
    refine ⟨fun x hx => .base ?_, fun p hp => by cases hp⟩
    have := (mem_insAll ns []).mp hx
    exact this.elim (fun z => by cases z) id
  | k + 1 => by
    obtain ⟨h1, h2⟩ := cl_reach inc k
    have up : ∀ p ∈ (clS cs ns k).2, ∃ i d, i < k + 1 ∧ (rv cs)[i]? = some d ∧ Reach cs ns d.n ∧ p ∈ plcs d := fun p hp => by
      obtain ⟨i, d, a, b⟩ := h2 p hp
      exact ⟨i, d, by omega, b⟩
    cases q : (rv cs)[k]? with
    | none =>
      have hk := List.getElem?_eq_none_iff.mp q
      rw [cl_past (Nat.le_succ_of_le hk), ← cl_past hk]
      exact ⟨h1, up⟩
    | some c =>
      have hc : c ∈ cs := rv_mem.mp (List.mem_of_getElem? q)
      rcases cl_turn (ns := ns) q with ⟨b, e⟩ | ⟨_, e⟩
      · have rc : Reach cs ns c.n := by
          unfold hitF at b
          rw [Bool.or_eq_true] at b
          rcases b with b | b
          · exact h1 _ (of_decide_eq_true b)
          · obtain ⟨p, hp, b⟩ := List.any_eq_true.mp b
            obtain ⟨i, d, a1, a2, a3, a4⟩ := h2 p (of_decide_eq_true b)
            obtain ⟨s, hs, rfl⟩ := mem_plcs.mp hp
            obtain ⟨s', hs', es⟩ := mem_plcs.mp a4
            have e1 : c.at_ = d.at_ := (List.cons.inj es).1
            have e2 : s = s' := (List.cons.inj (List.cons.inj es).2).1
            subst e2
            exact .step (rv_mem.mp (List.mem_of_getElem? a2)) a3 (mem_wants.mpr (.inr ⟨c, hc, rfl, rv_lt inc a2 q a1, e1, s, hs, hs'⟩))
        rw [e]
        refine ⟨fun x hx => ?_, fun p hp => ?_⟩
        · rcases (mem_insAll _ _).mp hx with hx | hx
          · rcases mem_ins.mp hx with hx | hx
            · exact h1 x hx
            · rw [hx]
              exact rc
          · obtain ⟨a1, a2⟩ := List.mem_filter.mp hx
            exact .step hc rc (mem_wants.mpr (.inl ⟨a1, mem_listF.mp (of_decide_eq_true a2)⟩))
        · rcases (mem_insTs _ _).mp hp with hp | hp
          · exact up p hp
          · exact ⟨k, c, by omega, q, rc, hp⟩
      · rw [e]
        exact ⟨h1, up⟩
/-- what is taken in the end was taken at its own turn -/
theorem cl_own (inc : (nums cs).Pairwise (· < ·)) (hl : ∀ c ∈ cs, ∀ l ∈ c.leans, l < c.n) {i : Nat} {c : Chg} (hc : (rv cs)[i]? = some c) : ∀ m, c.n ∈ (clS cs ns (i + 1 + m)).1 → c.n ∈ (clS cs ns (i + 1)).1
  | 0, h => h
  | m + 1, h => by
    apply cl_own inc hl hc m
    have h' : c.n ∈ (clS cs ns (i + 1 + m + 1)).1 := h
    cases q : (rv cs)[i + 1 + m]? with
    | none =>
      have hk := List.getElem?_eq_none_iff.mp q
      rw [cl_past (Nat.le_succ_of_le hk), ← cl_past hk] at h'
      exact h'
    | some d =>
      have hlt : d.n < c.n := rv_lt inc hc q (by omega)
      rcases cl_turn (ns := ns) q with ⟨_, e⟩ | ⟨_, e⟩
      · rw [e] at h'
        rcases (mem_insAll _ _).mp h' with h' | h'
        · rcases mem_ins.mp h' with h' | h'
          · exact h'
          · omega
        · have := hl d (rv_mem.mp (List.mem_of_getElem? q)) _ (List.mem_filter.mp h').1
          omega
      · rw [e] at h'
        exact h'
theorem cl_hit (inc : (nums cs).Pairwise (· < ·)) (hl : ∀ c ∈ cs, ∀ l ∈ c.leans, l < c.n) {i : Nat} {c : Chg} (hc : (rv cs)[i]? = some c) (h : c.n ∈ clF cs ns) : hitF (clS cs ns i) c = true := by
  have hi : i + 1 ≤ (rv cs).length := (List.getElem?_eq_some_iff.mp hc).1
  have e1 : (rv cs).length = i + 1 + ((rv cs).length - (i + 1)) := by omega
  unfold clF at h
  rw [e1] at h
  have h2 := cl_own inc hl hc _ h
  rcases cl_turn (ns := ns) hc with ⟨b, _⟩ | ⟨_, e⟩
  · exact b
  · rw [e] at h2
    unfold hitF
    rw [decide_eq_true h2]
    rfl
/-- what is taken: just what is reached -/
theorem cl_iff (inc : (nums cs).Pairwise (· < ·)) (hl : ∀ c ∈ cs, ∀ l ∈ c.leans, l < c.n) {x : Int} : x ∈ clF cs ns ↔ Reach cs ns x := by
  refine ⟨(cl_reach inc _).1 x, fun h => ?_⟩
  have fin : ∀ {k : Nat} {y : Int}, k ≤ (rv cs).length → y ∈ (clS cs ns k).1 → y ∈ clF cs ns := fun {k y} hk hy => by
    have e1 : (rv cs).length = k + ((rv cs).length - k) := by omega
    unfold clF
    rw [e1]
    exact cl_mono _ hy
  induction h with
  | base h => exact fin (k := 0) (Nat.zero_le _) ((mem_insAll _ _).mpr (.inr h))
  | @step c m hc _ hm ih =>
    obtain ⟨i, hi⟩ := List.mem_iff_getElem?.mp (rv_mem.mpr hc)
    have hb := cl_hit inc hl hi ih
    have hlen : i + 1 ≤ (rv cs).length := (List.getElem?_eq_some_iff.mp hi).1
    rcases cl_turn (ns := ns) hi with ⟨_, e⟩ | ⟨b, _⟩
    · rcases mem_wants.mp hm with ⟨h1, h2⟩ | ⟨o, ho, rfl, h1, h2, s, h3, h4⟩
      · refine fin hlen ?_
        rw [e]
        exact (mem_insAll _ _).mpr (.inr (List.mem_filter.mpr ⟨h1, decide_eq_true (mem_listF.mpr h2)⟩))
      · obtain ⟨j, hj⟩ := List.mem_iff_getElem?.mp (rv_mem.mpr ho)
        have hij := rv_idx inc hi hj h1
        have hjl : j + 1 ≤ (rv cs).length := (List.getElem?_eq_some_iff.mp hj).1
        have hp : [c.at_, s] ∈ (clS cs ns j).2 := by
          have e1 : j = i + 1 + (j - (i + 1)) := by omega
          rw [e1]
          apply pl_mono
          rw [e]
          exact (mem_insTs _ _).mpr (.inr (mem_plcs.mpr ⟨s, h4, rfl⟩))
        have hb2 : hitF (clS cs ns j) o = true := by
          unfold hitF
          rw [Bool.or_eq_true]
          exact .inr (List.any_eq_true.mpr ⟨[c.at_, s], mem_plcs.mpr ⟨s, h3, by rw [h2]⟩, decide_eq_true hp⟩)
        rcases cl_turn (ns := ns) hj with ⟨_, e2⟩ | ⟨b2, _⟩
        · refine fin hjl ?_
          rw [e2]
          exact (mem_insAll _ _).mpr (.inl (mem_ins.mpr (.inr rfl)))
        · rw [hb2] at b2
          cases b2
    · rw [hb] at b
      cases b
theorem clF_nd : (clF cs ns).Nodup := cl_nd _
theorem clF_len (inc : (nums cs).Pairwise (· < ·)) (hl : ∀ c ∈ cs, ∀ l ∈ c.leans, l < c.n) (sub : ∀ x ∈ ns, x ∈ nums cs) : (clF cs ns).length ≤ cs.length := by
  have := nodup_le (clF_nd (cs := cs) (ns := ns)) fun x hx => reach_mem sub ((cl_iff inc hl).mp hx)
  unfold nums at this
  rwa [List.length_map] at this
end
end K08
namespace K08
open PySem PySem.Spec PyProof.Rows L2 Dl
local macro_rules | `(tactic| walk_at "v") => `(tactic| first
  | refine we_d (i := 0) rfl (vis3 rfl) rfl ?_ | refine we_o (i := 0) rfl (vis3 rfl) rfl ?_
  | refine we_d (i := 1) rfl (vis3 rfl) rfl ?_ | refine we_o (i := 1) rfl (vis3 rfl) rfl ?_
  | refine we_d (i := 2) rfl (vis3 rfl) rfl ?_ | refine we_o (i := 2) rfl (vis3 rfl) rfl ?_
  | refine we_d (i := 3) rfl (vis3 rfl) rfl ?_ | refine we_o (i := 3) rfl (vis3 rfl) rfl ?_
  | refine we_d (i := 4) rfl (vis3 rfl) rfl ?_ | refine we_o (i := 4) rfl (vis3 rfl) rfl ?_
  | refine we_d (i := 5) rfl (vis3 rfl) rfl ?_ | refine we_o (i := 5) rfl (vis3 rfl) rfl ?_
  | refine we_d (i := 6) rfl (vis3 rfl) rfl ?_ | refine we_o (i := 6) rfl (vis3 rfl) rfl ?_
  | refine we_d (i := 7) rfl (vis3 rfl) rfl ?_ | refine we_o (i := 7) rfl (vis3 rfl) rfl ?_
  | refine we_d (i := 8) rfl (vis3 rfl) rfl ?_ | refine we_o (i := 8) rfl (vis3 rfl) rfl ?_
  | refine we_d (i := 9) rfl (vis3 rfl) rfl ?_ | refine we_o (i := 9) rfl (vis3 rfl) rfl ?_
  | refine we_d (i := 10) rfl (vis3 rfl) rfl ?_ | refine we_o (i := 10) rfl (vis3 rfl) rfl ?_
  | refine we_d (i := 11) rfl (vis3 rfl) rfl ?_ | refine we_o (i := 11) rfl (vis3 rfl) rfl ?_
  | refine we_d (i := 12) rfl (vis3 rfl) rfl ?_ | refine we_o (i := 12) rfl (vis3 rfl) rfl ?_
  | refine we_d (i := 13) rfl (vis3 rfl) rfl ?_ | refine we_o (i := 13) rfl (vis3 rfl) rfl ?_
  | refine we_d (i := 14) rfl (vis3 rfl) rfl ?_ | refine we_o (i := 14) rfl (vis3 rfl) rfl ?_
  | refine we_d (i := 15) rfl (vis3 rfl) rfl ?_ | refine we_o (i := 15) rfl (vis3 rfl) rfl ?_
  | refine we_d (i := 16) rfl (vis3 rfl) rfl ?_ | refine we_o (i := 16) rfl (vis3 rfl) rfl ?_
  | refine we_d (i := 17) rfl (vis3 rfl) rfl ?_ | refine we_o (i := 17) rfl (vis3 rfl) rfl ?_
  | refine we_d (i := 18) rfl (vis3 rfl) rfl ?_ | refine we_o (i := 18) rfl (vis3 rfl) rfl ?_
  | refine we_d (i := 19) rfl (vis3 rfl) rfl ?_ | refine we_o (i := 19) rfl (vis3 rfl) rfl ?_
  | refine we_d (i := 20) rfl (vis3 rfl) rfl ?_ | refine we_o (i := 20) rfl (vis3 rfl) rfl ?_)
local macro_rules | `(tactic| walk_at "si") => `(tactic| first
  | refine ws_set (i := 0) (by assumption) rfl (loc2 rfl) (by decide) ?_
  | refine ws_set (i := 1) (by assumption) rfl (loc2 rfl) (by decide) ?_
  | refine ws_set (i := 2) (by assumption) rfl (loc2 rfl) (by decide) ?_
  | refine ws_set (i := 3) (by assumption) rfl (loc2 rfl) (by decide) ?_
  | refine ws_set (i := 4) (by assumption) rfl (loc2 rfl) (by decide) ?_
  | refine ws_set (i := 5) (by assumption) rfl (loc2 rfl) (by decide) ?_
  | refine ws_set (i := 6) (by assumption) rfl (loc2 rfl) (by decide) ?_
  | refine ws_set (i := 7) (by assumption) rfl (loc2 rfl) (by decide) ?_
  | refine ws_set (i := 8) (by assumption) rfl (loc2 rfl) (by decide) ?_
  | refine ws_set (i := 9) (by assumption) rfl (loc2 rfl) (by decide) ?_
  | refine ws_set (i := 10) (by assumption) rfl (loc2 rfl) (by decide) ?_
  | refine ws_set (i := 11) (by assumption) rfl (loc2 rfl) (by decide) ?_
  | refine ws_set (i := 12) (by assumption) rfl (loc2 rfl) (by decide) ?_
  | refine ws_set (i := 13) (by assumption) rfl (loc2 rfl) (by decide) ?_
  | refine ws_set (i := 14) (by assumption) rfl (loc2 rfl) (by decide) ?_
  | refine ws_set (i := 15) (by assumption) rfl (loc2 rfl) (by decide) ?_
  | refine ws_set (i := 16) (by assumption) rfl (loc2 rfl) (by decide) ?_
  | refine ws_set (i := 17) (by assumption) rfl (loc2 rfl) (by decide) ?_
  | refine ws_set (i := 18) (by assumption) rfl (loc2 rfl) (by decide) ?_
  | refine ws_set (i := 19) (by assumption) rfl (loc2 rfl) (by decide) ?_
  | refine ws_set (i := 20) (by assumption) rfl (loc2 rfl) (by decide) ?_)
local macro_rules | `(tactic| walk_at "gi") => `(tactic| first
  | refine wg_name (i := 0) (by assumption) rfl (loc2 rfl) (by decide) ?_
  | refine wg_name (i := 1) (by assumption) rfl (loc2 rfl) (by decide) ?_
  | refine wg_name (i := 2) (by assumption) rfl (loc2 rfl) (by decide) ?_
  | refine wg_name (i := 3) (by assumption) rfl (loc2 rfl) (by decide) ?_
  | refine wg_name (i := 4) (by assumption) rfl (loc2 rfl) (by decide) ?_
  | refine wg_name (i := 5) (by assumption) rfl (loc2 rfl) (by decide) ?_
  | refine wg_name (i := 6) (by assumption) rfl (loc2 rfl) (by decide) ?_
  | refine wg_name (i := 7) (by assumption) rfl (loc2 rfl) (by decide) ?_
  | refine wg_name (i := 8) (by assumption) rfl (loc2 rfl) (by decide) ?_
  | refine wg_name (i := 9) (by assumption) rfl (loc2 rfl) (by decide) ?_
  | refine wg_name (i := 10) (by assumption) rfl (loc2 rfl) (by decide) ?_
  | refine wg_name (i := 11) (by assumption) rfl (loc2 rfl) (by decide) ?_
  | refine wg_name (i := 12) (by assumption) rfl (loc2 rfl) (by decide) ?_
  | refine wg_name (i := 13) (by assumption) rfl (loc2 rfl) (by decide) ?_
  | refine wg_name (i := 14) (by assumption) rfl (loc2 rfl) (by decide) ?_
  | refine wg_name (i := 15) (by assumption) rfl (loc2 rfl) (by decide) ?_
  | refine wg_name (i := 16) (by assumption) rfl (loc2 rfl) (by decide) ?_
  | refine wg_name (i := 17) (by assumption) rfl (loc2 rfl) (by decide) ?_
  | refine wg_name (i := 18) (by assumption) rfl (loc2 rfl) (by decide) ?_
  | refine wg_name (i := 19) (by assumption) rfl (loc2 rfl) (by decide) ?_
  | refine wg_name (i := 20) (by assumption) rfl (loc2 rfl) (by decide) ?_)
local macro_rules | `(tactic| walk_at "side") => `(tactic| first | exact rfl | exact Nat.le_trans (m := 1000) (Nat.le_of_ble_eq_true rfl) sz1000 | omega | decide | assumption)
local macro_rules | `(tactic| walk_at "we") => `(tactic| first
  | (refine isName ?_; walk_at "v")
  | refine we_int ?_ | refine we_bl ?_ | refine we_non ?_ | refine we_str ?_
  | refine we_ix ?_
  | refine we_addG ?_ | refine we_sub ?_ | refine we_mulG ?_ | refine we_div ?_ | refine we_mod ?_ | refine we_pow ?_ | refine we_neg ?_
  | refine we_gt ?_ | refine we_lt ?_ | refine we_ge ?_ | refine we_le ?_
  | refine we_tup ?_ | refine we_lst ?_ | refine we_dict0 ?_
  | refine we_len (by assumption) rfl ?_ | refine we_slG ?_ | refine we_eqG (by assumption) ?_ | refine we_neG (by assumption) ?_ | refine we_not ?_ | refine we_one ?_ | refine we_and ?_ | refine we_or ?_
  | refine we_call2 (by assumption) (by assumption) (by assumption) (by decide) rfl ?_)
local macro_rules | `(tactic| walk_at "wt") => `(tactic| first
  | refine wt_gt ?_ | refine wt_lt ?_ | refine wt_ge ?_ | refine wt_le ?_ | refine wt_not ?_
  | refine wt_eqG (by assumption) ?_ | refine wt_neG (by assumption) ?_ | refine wt_bool ?_ | refine wt_val ?_)
local macro_rules | `(tactic| walk_at "ws") => `(tactic| first
  | refine ws_ret ?_ | (refine isSet ?_; walk_at "si") | refine ws_if ?_
  | refine ws_append (pe_bm PySem.F.plainAttrs_list PySem.F.slot_list_append PySem.F.type_list_append mt_append pe_m (pa_cons pe_m pa_nil)) ?_
  | refine ws_continue ?_ | refine ws_break ?_ | refine ws_pass ?_)
local macro_rules | `(tactic| walk_at "l") => `(tactic| first
  | refine And.intro (Exists.intro _ rfl) ?_
  | refine And.intro trivial ?_
  | refine Exists.intro _ (And.intro rfl ?_)
  | refine Exists.intro _ (Exists.intro _ (And.intro rfl (And.intro rfl ?_)))
  | refine And.intro (And.intro (by walk_at "side") (by walk_at "side") : CDiv _ _) ?_
  | refine And.intro (.inl (And.intro (by walk_at "side") (by walk_at "side")) : CMul _ _) ?_
  | refine And.intro (.inr (And.intro (by walk_at "side") (by walk_at "side")) : CMul _ _) ?_
  | refine And.intro (And.intro (List.cons_ne_nil _ _) (And.intro (by walk_at "side") (And.intro (by walk_at "side") (by walk_at "side")))) ?_
  | refine And.intro (by walk_at "side") ?_)
local macro_rules | `(tactic| walk_at "step") => `(tactic| first
  | (refine isWE ?_; walk_at "we")
  | (refine isWT ?_; walk_at "wt")
  | (refine isWSs ?_; first | refine wss_nil ?_ | refine wss_one ?_ | refine wss_cons ?_)
  | (refine isWS ?_; walk_at "ws")
  | (refine isWDs ?_; first | refine wds_nil ?_ | refine wds_cons ?_)
  | (refine isWW ?_; first | refine ww_and1 ?_ | refine ww_or1 ?_ | refine ww_and ?_ | refine ww_or ?_)
  | refine allB_i fun _ _ _ _ _ => ?_
  | refine asI_i (allB_i fun _ _ _ _ _ => ?_)
  | (refine isWG ?_; first | walk_at "gi" | refine wg_tup rfl ?_ rfl)
  | (refine isWGs ?_; first | refine wgs_nil ?_ | refine wgs_consN ?_)
  | (refine isWO ?_; first | refine wo_none ?_ | refine wo_some ?_)
  | (refine isWA ?_; first | refine wa_nil ?_ | refine wa_cons ?_)
  | walk_at "l")
local macro_rules | `(tactic| walk_at "go") => `(tactic| repeat (walk_at "step"))
set_option maxHeartbeats 2000000
theorem can_conv {Pg : Program} {w : World} {K : PySem.W.Frag} {mg : Str → Option Value} {base : Heap} {k : Nat} {x : Str} {S S2 : SpD} (C : Can Pg w K mg base k x S) (h : ∀ R Q, S2 R Q → S R Q) (mono : ∀ A Z Z', (∀ sv R', Z sv R' → Z' sv R') → S2 A Z → S2 A Z') : Can Pg w K mg base k x S2 := by
  obtain ⟨f, fd, ps, G, h1, h2, h3⟩ := C.ex
  have up : ∀ vs H Q E, liftS K S2 vs H Q E → liftS K S vs H Q E := fun vs H Q E ⟨F, Hd, R, w, q⟩ => ⟨F, Hd, R, w, h _ _ q⟩
  exact ⟨⟨f, fd, ps, ⟨fun vs H Q E q => G.len vs H Q E (up _ _ _ _ q), fun A outer s H args us vs Q E g r e b v q => G.run A outer s H args us vs Q E g r e b v (up _ _ _ _ q)⟩, h1, h2, h3⟩, mono⟩
structure Fine (cs : List Chg) : Prop where
  sm : Small cs
  lt : cs.length ≤ 20
  inc : (nums cs).Pairwise (· < ·)
  le : ∀ c ∈ cs, ∀ l ∈ c.leans, l < c.n
def SubN (cs : List Chg) (ns : List Int) : Prop := (∀ x ∈ ns, x ∈ nums cs) ∧ ns.Nodup
theorem SubN.len {cs : List Chg} {ns : List Int} (h : SubN cs ns) : ns.length ≤ cs.length := by
  have := nodup_le h.2 h.1
  unfold nums at this
  rwa [List.length_map] at this
section
variable {Pg : Program} {w : World} {K : PySem.W.Frag} {mg : Str → Option Value} {base : Heap}
/-- the sorted list of what is reached -/
structure Clo (cs : List Chg) (ns out : List Int) : Prop where
  s : out.Pairwise (· < ·)
  m : ∀ x, x ∈ out ↔ Reach cs ns x
theorem Clo.eq {cs : List Chg} {ns a b : List Int} (h1 : Clo cs ns a) (h2 : Clo cs ns b) : a = b := srt_ext h1.s h2.s fun x => by rw [h1.m, h2.m]
theorem Clo.sub {cs : List Chg} {ns a : List Int} (h1 : Clo cs ns a) (h : SubN cs ns) : SubN cs a := ⟨fun x hx => reach_mem h.1 ((h1.m x).mp hx), h1.s.imp fun h e => by omega⟩
def sClosed2 : SpD := fun R Q => ∃ cs ns, R = [.d (csD cs), .d (.list (ns.map .int))] ∧ (Fine cs ∧ SubN cs ns) ∧ ∀ out : List Int, Clo cs ns out → Q (.own (.lst (out.map .int))) R
theorem closed2 {j : Nat} (C : Can Pg w K mg base j "closed_of" sClosed) : Can Pg w K mg base j "closed_of" sClosed2 := by
  refine can_conv C (fun R Q ⟨cs, ns, h1, ⟨h2, h3⟩, h4⟩ => ⟨cs, ns, h1, ⟨h2.sm, ?_, ?_⟩, fun ns' p1 p2 => h4 ns' ⟨srt_of p1 p2 clF_nd, fun x => ?_⟩⟩) fun A Z Z' k ⟨a, b, h1, h2, h3⟩ => ⟨a, b, h1, h2, fun o g => k _ _ (h3 o g)⟩
  · have := h3.len
    have := h2.lt
    omega
  · have := clF_len h2.inc h2.le h3.1
    have := h2.lt
    omega
  · rw [p1.mem_iff]
    exact cl_iff h2.inc h2.le
abbrev NIs : List Str := ["changes", "numbers"]
theorem scIs : FnScope NIs ["changes", "numbers"] (defScope (topS 2)) := ⟨rfl, rfl, rfl, by decide +kernel, rfl, by decide +kernel, by decide +kernel⟩
def sIs : SpD := fun R Q => ∃ cs ns, R = [.d (csD cs), .d (.list (ns.map .int))] ∧ (Fine cs ∧ SubN cs ns) ∧ ∀ out srt : List Int, Clo cs ns out → srt.Pairwise (· < ·) → (∀ x, x ∈ srt ↔ x ∈ ns) → Q (.d (.bool (decide (out = srt)))) R
theorem ok_is {f : Addr} {fd : FuncData} (F : Fun K "is_closed" "is_closed" (topS 2) f fd) (hm : mg "is_closed" = some (.ref f)) (hb : Binds K fd ["changes", "numbers"] []) (ms : mg "sorted" = none) (me : mg "set" = none) (cC : Can Pg w K mg base 1 "closed_of" sClosed2) : Can Pg w K mg base 2 "is_closed" sIs := by
  refine can_def F scIs hm hb (fun A Z Z' k ⟨a, b, h1, h2, h3⟩ => ⟨a, b, h1, h2, fun o s g1 g2 g3 => k _ _ (h3 o s g1 g2 g3)⟩) (by decide) (fun R Q h => ?_) (fun cdv A outer s H E hgd hr R Q h => ?_)
  · obtain ⟨a, b, rfl, _⟩ := h
    rfl
  · obtain ⟨cs, ns, rfl, ⟨h1, h2⟩, q⟩ := h
    show WSs _ [] _ [.d (csD cs), .d (.list (ns.map .int))] _
    have nd : NIs.Nodup := scIs.nd
    refine wss_one (ws_ret ?_)
    walk_at "go"
    refine ⟨cs, ns, rfl, ⟨h1, h2⟩, fun out ho => ⟨rfl, ?_⟩⟩
    refine we_sortedSetI rfl ms rfl me rfl ?_
    walk_at "go"
    have := h2.len
    have := h1.lt
    refine ⟨by omega, fun srt g1 g2 => ⟨⟨_, rfl⟩, ?_⟩⟩
    refine gEq_ints (a := out) (b := srt) ?_ ?_ ?_
    · rfl
    · rfl
    exact q out srt ho g1 g2
abbrev NLC : List Str := ["_law_some", "_law_numbers", "_law_found", "_law_waiting", "_law_here", "_law_one", "_law_change"]
theorem scLC : FnScope NLC ["_law_some", "_law_numbers"] (defScope (topS 15)) := ⟨rfl, rfl, rfl, by decide +kernel, rfl, by decide +kernel, by decide +kernel⟩
def sLC : SpD := fun R Q => ∃ cs ns, R = [.d (csD cs), .d (.list (ns.map .int))] ∧ (Fine cs ∧ SubN cs ns) ∧ ∀ out : List Int, Clo cs ns out → Q (.own (.lst (out.map .int))) R
/-- found, waiting: what the law keeps -/
structure Wk (cs : List Chg) (ns fs ws : List Int) : Prop where
  nd : fs.Nodup
  sub : ∀ x ∈ fs, x ∈ nums cs
  wf : ∀ x ∈ ws, x ∈ fs
  re : ∀ x ∈ fs, Reach cs ns x
  al : ∀ x ∈ ns, x ∈ fs
  wn : ws.Nodup
theorem Wk.len {cs : List Chg} {ns fs ws : List Int} (h : Wk cs ns fs ws) : fs.length ≤ cs.length := by
  have := nodup_le h.nd h.sub
  unfold nums at this
  rwa [List.length_map] at this
def Done (cs : List Chg) (fs ws : List Int) : Prop := ∀ c ∈ cs, c.n ∈ fs → c.n ∉ ws → ∀ m ∈ wantsF cs c, m ∈ fs
theorem filter_one {cs : List Chg} (inc : (nums cs).Pairwise (· < ·)) {c : Chg} (hc : c ∈ cs) : (cs.filter fun o => decide (o.n = c.n)) = [c] := by
  induction cs with
  | nil => cases hc
  | cons x r ih =>
    have inc' : ∀ y ∈ nums r, x.n < y := (List.pairwise_cons.mp inc).1
    have inc2 : (nums r).Pairwise (· < ·) := (List.pairwise_cons.mp inc).2
    rcases List.mem_cons.mp hc with e | hc
    · subst e
      rw [List.filter_cons, if_pos (decide_eq_true rfl)]
      congr 1
      rw [List.filter_eq_nil_iff]
      intro o ho z
      have := inc' o.n (List.mem_map.mpr ⟨o, ho, rfl⟩)
      have := of_decide_eq_true z
      omega
    · have := inc' c.n (List.mem_map.mpr ⟨c, hc, rfl⟩)
      rw [List.filter_cons, if_neg (by rw [decide_eq_false (by omega)]; exact Bool.false_ne_true)]
      exact ih inc2 hc
theorem ok_lc {f : Addr} {fd : FuncData} (F : Fun K "_law_closed" "_law_closed" (topS 15) f fd) (hm : mg "_law_closed" = some (.ref f)) (hb : Binds K fd ["_law_some", "_law_numbers"] []) (ml : mg "list" = none) (ms : mg "sorted" = none) (cWants : Can Pg w K mg base 3 "_law_wants" sWants) : Can Pg w K mg base 4 "_law_closed" sLC := by
  refine can_def F scLC hm hb (fun A Z Z' k ⟨a, b, h1, h2, h3⟩ => ⟨a, b, h1, h2, fun o g => k _ _ (h3 o g)⟩) (by decide) (fun R Q h => ?_) (fun cdv A outer s H E hgd hr R Q h => ?_)
  · obtain ⟨a, b, rfl, _⟩ := h
    rfl
  · obtain ⟨cs, ns, rfl, ⟨hF, hS⟩, q⟩ := h
    show WSs _ [] _ [.d (csD cs), .d (.list (ns.map .int)), .no, .no, .no, .no, .no] _
    have nd : NLC.Nodup := scLC.nd
    refine wss_cons ?_
    walk_at "si"
    refine we_list ml rfl ?_
    walk_at "go"
    refine we_list ml rfl ?_
    walk_at "go"
    refine ws_while PassesOwn.never (fun m R' => ∃ fs ws s4 s5, R' = [.d (csD cs), .d (.list (ns.map .int)), .own (.lst (fs.map .int)), .own (.lst (ws.map .int)), s4, s5, .no] ∧ Wk cs ns fs ws ∧ Done cs fs ws ∧ m = 2 * (cs.length - fs.length) + ws.length) (2 * (cs.length - ns.length) + ns.length) ⟨ns, ns, _, _, rfl, ⟨hS.2, hS.1, fun x h => h, fun x h => .base h, fun x h => h, hS.2⟩, fun c hc h1 h2 => absurd h1 h2, rfl⟩ fun m R' h => ?_
    obtain ⟨fs, ws, s4, s5, rfl, hW, hD, rfl⟩ := h
    walk_at "go"
    refine gEq_ints (a := ws) (b := []) ?_ ?_ ?_
    · rfl
    · rfl
    refine ⟨fun e => ?_, fun e => ?_⟩
    · have hne : ws ≠ [] := by simpa using e
      obtain ⟨w0, d, rfl⟩ : ∃ w0 d, ws = w0 ++ [d] := ⟨ws.dropLast, ws.getLast hne, (List.dropLast_concat_getLast hne).symm⟩
      obtain ⟨c, hc, rfl⟩ := List.mem_map.mp (hW.sub d (hW.wf d (by simp)))
      have ef := filter_one hF.inc hc
      have hcs := hF.sm.2 c hc
      walk_at "go"
      refine we_pop ?_
      walk_at "go"
      refine ⟨3, w0.map .int, .int c.n, rfl, by rw [List.map_append]; rfl, ?_⟩
      walk_at "go"
      refine ws_forL (js := [5]) PassesOwn.never rfl ?_
      walk_at "go"
      refine we_lc1 [("_law_change", 6)] [6] rfl nd (blkOk_by (N := NLC) (sc := defScope (topS 15)) (by decide +kernel)) (by decide) (by decide) (.list ?_)
      walk_at "go"
      refine lc_pure1 (as := cs) (enc := chgD) (g := chgD) (fun o => decide (o.n = c.n)) [.d (csD cs), .d (.list (ns.map .int)), .own (.lst (fs.map .int)), .own (.lst (w0.map .int)), .d (.int c.n), s5, .no] rfl (szle (by have := hF.lt; omega)) (fun o ho => ?_) ?_
      · walk_at "go"
        refine ⟨fun _ => ?_, fun _ => rfl⟩
        walk_at "go"
        rfl
      rw [ef]
      walk_at "go"
      refine ⟨cs, c, rfl, ⟨hF.sm, hcs.1, hcs.2⟩, rfl, ?_⟩
      have hwm : ∀ m ∈ wantsF cs c, m ∈ nums cs := fun m hm => by
        rcases mem_wants.mp hm with ⟨_, h⟩ | ⟨o, ho, rfl, _⟩
        · exact h
        · exact List.mem_map.mpr ⟨o, ho, rfl⟩
      have hrc : Reach cs ns c.n := hW.re _ (hW.wf _ (by simp))
      refine ⟨(wantsF cs c).map PyData.int, fun j R' => ∃ ad s5', R' = [.d (csD cs), .d (.list (ns.map .int)), .own (.lst ((fs ++ ad).map .int)), .own (.lst ((w0 ++ ad).map .int)), .d (.int c.n), s5', .no] ∧ Wk cs ns (fs ++ ad) (w0 ++ ad) ∧ ∀ m ∈ (wantsF cs c).take j, m ∈ fs ++ ad, rfl,
        ⟨[], s5, by rw [List.append_nil, List.append_nil]; rfl, ⟨by rw [List.append_nil]; exact hW.nd, by rw [List.append_nil]; exact hW.sub, by rw [List.append_nil, List.append_nil]; exact fun x hx => hW.wf x (List.mem_append_left _ hx), by rw [List.append_nil]; exact hW.re, by rw [List.append_nil]; exact hW.al, by rw [List.append_nil]; exact hW.wn.sublist (List.sublist_append_left _ _)⟩, fun m hm => by cases hm⟩, fun j x R' hx h => ?_, fun R' h => ?_⟩
      · obtain ⟨ad, s5', rfl, hW2, hT⟩ := h
        rw [List.getElem?_map] at hx
        cases hqs : (wantsF cs c)[j]? with
        | none => rw [hqs] at hx; cases hx
        | some y =>
          rw [hqs] at hx
          cases hx
          have hy : y ∈ wantsF cs c := List.mem_of_getElem? hqs
          have ht : (wantsF cs c).take (j + 1) = (wantsF cs c).take j ++ [y] := by
            rw [List.take_add_one, hqs]
            rfl
          walk_at "gi"
          refine wss_one (ws_if ?_)
          apply wt_notIn
          · rfl
          walk_at "go"
          refine gIn_l y (fs ++ ad) ?_ ?_ ?_
          · rfl
          · rfl
          refine ⟨fun e => ?_, fun e => ?_⟩
          · have hn : y ∉ fs ++ ad := by simpa using e
            have hl := hW2.len
            have hl2 := hF.lt
            have hw : (w0 ++ ad).length ≤ 1000 := by
              have := nodup_le hW2.wn hW2.wf
              omega
            walk_at "go"
            refine ⟨?_, ?_⟩
            · rw [List.length_map]
              exact Nat.lt_of_le_of_lt (show _ ≤ 10000 by omega) (by decide)
            walk_at "go"
            refine ⟨?_, ?_⟩
            · rw [List.length_map]
              exact Nat.lt_of_le_of_lt (show _ ≤ 10000 by omega) (by decide)
            refine ⟨ad ++ [y], .d (.int y), ?_, ?_, ?_⟩
            · rw [← List.append_assoc, ← List.append_assoc, List.map_append (l₁ := fs ++ ad), List.map_append (l₁ := w0 ++ ad)]
              rfl
            · rw [← List.append_assoc, ← List.append_assoc]
              refine ⟨List.nodup_append.mpr ⟨hW2.nd, by simp, fun a ha b hb e2 => ?_⟩, fun x hx => ?_, fun x hx => ?_, fun x hx => ?_, fun x hx => List.mem_append_left _ (hW2.al x hx), List.nodup_append.mpr ⟨hW2.wn, by simp, fun a ha b hb e2 => hn (by rw [← List.mem_singleton.mp hb, ← e2]; exact hW2.wf a ha)⟩⟩
              · rw [List.mem_singleton] at hb
                subst hb
                exact hn (by rw [← e2]; exact ha)
              · rcases List.mem_append.mp hx with hx | hx
                · exact hW2.sub x hx
                · rw [List.mem_singleton.mp hx]
                  exact hwm y hy
              · rcases List.mem_append.mp hx with hx | hx
                · exact List.mem_append_left _ (hW2.wf x hx)
                · exact List.mem_append_right _ hx
              · rcases List.mem_append.mp hx with hx | hx
                · exact hW2.re x hx
                · rw [List.mem_singleton.mp hx]
                  exact .step hc hrc hy
            · intro m hm
              rw [ht] at hm
              rw [← List.append_assoc]
              rcases List.mem_append.mp hm with hm | hm
              · exact List.mem_append_left _ (hT m hm)
              · exact List.mem_append_right _ hm
          · have hin : y ∈ fs ++ ad := by
              rw [Bool.not_eq_false'] at e
              exact of_decide_eq_true e
            refine wss_nil ?_
            refine ⟨ad, .d (.int y), rfl, hW2, fun m hm => ?_⟩
            rw [ht] at hm
            rcases List.mem_append.mp hm with hm | hm
            · exact hT m hm
            · rw [List.mem_singleton.mp hm]
              exact hin
      · obtain ⟨ad, s5', rfl, hW2, hT⟩ := h
        rw [List.length_map, List.take_length] at hT
        have hl := hW2.len
        rw [List.length_append] at hl
        refine ⟨2 * (cs.length - (fs ++ ad).length) + (w0 ++ ad).length, ?_, fs ++ ad, w0 ++ ad, _, _, rfl, hW2, fun o ho h1 h2 m hm => ?_, rfl⟩
        · rw [List.length_append, List.length_append, List.length_append, List.length_singleton]
          omega
        · by_cases eo : o.n = c.n
          · have : o = c := by
              have h3 := filter_one hF.inc ho
              rw [eo, ef] at h3
              exact (List.cons.inj h3).1.symm
            subst this
            exact hT m hm
          · have h3 : o.n ∈ fs := by
              rcases List.mem_append.mp h1 with h1 | h1
              · exact h1
              · exact absurd (List.mem_append_right _ h1) h2
            exact List.mem_append_left _ (hD o ho h3 (fun z => by
              rcases List.mem_append.mp z with z | z
              · exact h2 (List.mem_append_left _ z)
              · exact eo (List.mem_singleton.mp z)) m hm)
    · have he : ws = [] := by simpa using e
      subst he
      walk_at "go"
      refine we_sortedI ms rfl ?_
      walk_at "go"
      intro ns' p1 p2
      exact q ns' ⟨srt_of p1 p2 hW.nd, fun x => by
        rw [p1.mem_iff]
        refine ⟨hW.re x, fun r => ?_⟩
        induction r with
        | base h => exact hW.al _ h
        | @step c m hc _ hm ih => exact hD c hc ih (by simp) m hm⟩
end
end K08
namespace K08
open PySem PySem.Spec PyProof.Rows L2 Dl
local macro_rules | `(tactic| walk_at "v") => `(tactic| first
  | refine we_d (i := 0) rfl (vis3 rfl) rfl ?_ | refine we_o (i := 0) rfl (vis3 rfl) rfl ?_
  | refine we_d (i := 1) rfl (vis3 rfl) rfl ?_ | refine we_o (i := 1) rfl (vis3 rfl) rfl ?_
  | refine we_d (i := 2) rfl (vis3 rfl) rfl ?_ | refine we_o (i := 2) rfl (vis3 rfl) rfl ?_
  | refine we_d (i := 3) rfl (vis3 rfl) rfl ?_ | refine we_o (i := 3) rfl (vis3 rfl) rfl ?_
  | refine we_d (i := 4) rfl (vis3 rfl) rfl ?_ | refine we_o (i := 4) rfl (vis3 rfl) rfl ?_
  | refine we_d (i := 5) rfl (vis3 rfl) rfl ?_ | refine we_o (i := 5) rfl (vis3 rfl) rfl ?_
  | refine we_d (i := 6) rfl (vis3 rfl) rfl ?_ | refine we_o (i := 6) rfl (vis3 rfl) rfl ?_
  | refine we_d (i := 7) rfl (vis3 rfl) rfl ?_ | refine we_o (i := 7) rfl (vis3 rfl) rfl ?_
  | refine we_d (i := 8) rfl (vis3 rfl) rfl ?_ | refine we_o (i := 8) rfl (vis3 rfl) rfl ?_
  | refine we_d (i := 9) rfl (vis3 rfl) rfl ?_ | refine we_o (i := 9) rfl (vis3 rfl) rfl ?_
  | refine we_d (i := 10) rfl (vis3 rfl) rfl ?_ | refine we_o (i := 10) rfl (vis3 rfl) rfl ?_
  | refine we_d (i := 11) rfl (vis3 rfl) rfl ?_ | refine we_o (i := 11) rfl (vis3 rfl) rfl ?_
  | refine we_d (i := 12) rfl (vis3 rfl) rfl ?_ | refine we_o (i := 12) rfl (vis3 rfl) rfl ?_
  | refine we_d (i := 13) rfl (vis3 rfl) rfl ?_ | refine we_o (i := 13) rfl (vis3 rfl) rfl ?_
  | refine we_d (i := 14) rfl (vis3 rfl) rfl ?_ | refine we_o (i := 14) rfl (vis3 rfl) rfl ?_
  | refine we_d (i := 15) rfl (vis3 rfl) rfl ?_ | refine we_o (i := 15) rfl (vis3 rfl) rfl ?_
  | refine we_d (i := 16) rfl (vis3 rfl) rfl ?_ | refine we_o (i := 16) rfl (vis3 rfl) rfl ?_
  | refine we_d (i := 17) rfl (vis3 rfl) rfl ?_ | refine we_o (i := 17) rfl (vis3 rfl) rfl ?_
  | refine we_d (i := 18) rfl (vis3 rfl) rfl ?_ | refine we_o (i := 18) rfl (vis3 rfl) rfl ?_
  | refine we_d (i := 19) rfl (vis3 rfl) rfl ?_ | refine we_o (i := 19) rfl (vis3 rfl) rfl ?_
  | refine we_d (i := 20) rfl (vis3 rfl) rfl ?_ | refine we_o (i := 20) rfl (vis3 rfl) rfl ?_)
local macro_rules | `(tactic| walk_at "si") => `(tactic| first
  | refine ws_set (i := 0) (by assumption) rfl (loc2 rfl) (by decide) ?_
  | refine ws_set (i := 1) (by assumption) rfl (loc2 rfl) (by decide) ?_
  | refine ws_set (i := 2) (by assumption) rfl (loc2 rfl) (by decide) ?_
  | refine ws_set (i := 3) (by assumption) rfl (loc2 rfl) (by decide) ?_
  | refine ws_set (i := 4) (by assumption) rfl (loc2 rfl) (by decide) ?_
  | refine ws_set (i := 5) (by assumption) rfl (loc2 rfl) (by decide) ?_
  | refine ws_set (i := 6) (by assumption) rfl (loc2 rfl) (by decide) ?_
  | refine ws_set (i := 7) (by assumption) rfl (loc2 rfl) (by decide) ?_
  | refine ws_set (i := 8) (by assumption) rfl (loc2 rfl) (by decide) ?_
  | refine ws_set (i := 9) (by assumption) rfl (loc2 rfl) (by decide) ?_
  | refine ws_set (i := 10) (by assumption) rfl (loc2 rfl) (by decide) ?_
  | refine ws_set (i := 11) (by assumption) rfl (loc2 rfl) (by decide) ?_
  | refine ws_set (i := 12) (by assumption) rfl (loc2 rfl) (by decide) ?_
  | refine ws_set (i := 13) (by assumption) rfl (loc2 rfl) (by decide) ?_
  | refine ws_set (i := 14) (by assumption) rfl (loc2 rfl) (by decide) ?_
  | refine ws_set (i := 15) (by assumption) rfl (loc2 rfl) (by decide) ?_
  | refine ws_set (i := 16) (by assumption) rfl (loc2 rfl) (by decide) ?_
  | refine ws_set (i := 17) (by assumption) rfl (loc2 rfl) (by decide) ?_
  | refine ws_set (i := 18) (by assumption) rfl (loc2 rfl) (by decide) ?_
  | refine ws_set (i := 19) (by assumption) rfl (loc2 rfl) (by decide) ?_
  | refine ws_set (i := 20) (by assumption) rfl (loc2 rfl) (by decide) ?_)
local macro_rules | `(tactic| walk_at "gi") => `(tactic| first
  | refine wg_name (i := 0) (by assumption) rfl (loc2 rfl) (by decide) ?_
  | refine wg_name (i := 1) (by assumption) rfl (loc2 rfl) (by decide) ?_
  | refine wg_name (i := 2) (by assumption) rfl (loc2 rfl) (by decide) ?_
  | refine wg_name (i := 3) (by assumption) rfl (loc2 rfl) (by decide) ?_
  | refine wg_name (i := 4) (by assumption) rfl (loc2 rfl) (by decide) ?_
  | refine wg_name (i := 5) (by assumption) rfl (loc2 rfl) (by decide) ?_
  | refine wg_name (i := 6) (by assumption) rfl (loc2 rfl) (by decide) ?_
  | refine wg_name (i := 7) (by assumption) rfl (loc2 rfl) (by decide) ?_
  | refine wg_name (i := 8) (by assumption) rfl (loc2 rfl) (by decide) ?_
  | refine wg_name (i := 9) (by assumption) rfl (loc2 rfl) (by decide) ?_
  | refine wg_name (i := 10) (by assumption) rfl (loc2 rfl) (by decide) ?_
  | refine wg_name (i := 11) (by assumption) rfl (loc2 rfl) (by decide) ?_
  | refine wg_name (i := 12) (by assumption) rfl (loc2 rfl) (by decide) ?_
  | refine wg_name (i := 13) (by assumption) rfl (loc2 rfl) (by decide) ?_
  | refine wg_name (i := 14) (by assumption) rfl (loc2 rfl) (by decide) ?_
  | refine wg_name (i := 15) (by assumption) rfl (loc2 rfl) (by decide) ?_
  | refine wg_name (i := 16) (by assumption) rfl (loc2 rfl) (by decide) ?_
  | refine wg_name (i := 17) (by assumption) rfl (loc2 rfl) (by decide) ?_
  | refine wg_name (i := 18) (by assumption) rfl (loc2 rfl) (by decide) ?_
  | refine wg_name (i := 19) (by assumption) rfl (loc2 rfl) (by decide) ?_
  | refine wg_name (i := 20) (by assumption) rfl (loc2 rfl) (by decide) ?_)
local macro_rules | `(tactic| walk_at "side") => `(tactic| first | exact rfl | exact Nat.le_trans (m := 1000) (Nat.le_of_ble_eq_true rfl) sz1000 | omega | decide | assumption)
local macro_rules | `(tactic| walk_at "we") => `(tactic| first
  | (refine isName ?_; walk_at "v")
  | refine we_int ?_ | refine we_bl ?_ | refine we_non ?_ | refine we_str ?_
  | refine we_ix ?_
  | refine we_addG ?_ | refine we_sub ?_ | refine we_mulG ?_ | refine we_div ?_ | refine we_mod ?_ | refine we_pow ?_ | refine we_neg ?_
  | refine we_gt ?_ | refine we_lt ?_ | refine we_ge ?_ | refine we_le ?_
  | refine we_tup ?_ | refine we_lst ?_ | refine we_dict0 ?_
  | refine we_len (by assumption) rfl ?_ | refine we_slG ?_ | refine we_eqG (by assumption) ?_ | refine we_neG (by assumption) ?_ | refine we_not ?_ | refine we_one ?_ | refine we_and ?_ | refine we_or ?_
  | refine we_call2 (by assumption) (by assumption) (by assumption) (by decide) rfl ?_)
local macro_rules | `(tactic| walk_at "wt") => `(tactic| first
  | refine wt_gt ?_ | refine wt_lt ?_ | refine wt_ge ?_ | refine wt_le ?_ | refine wt_not ?_
  | refine wt_eqG (by assumption) ?_ | refine wt_neG (by assumption) ?_ | refine wt_bool ?_ | refine wt_val ?_)
local macro_rules | `(tactic| walk_at "ws") => `(tactic| first
  | refine ws_ret ?_ | (refine isSet ?_; walk_at "si") | refine ws_if ?_
  | refine ws_append (pe_bm PySem.F.plainAttrs_list PySem.F.slot_list_append PySem.F.type_list_append mt_append pe_m (pa_cons pe_m pa_nil)) ?_
  | refine ws_continue ?_ | refine ws_break ?_ | refine ws_pass ?_)
local macro_rules | `(tactic| walk_at "l") => `(tactic| first
  | refine And.intro (Exists.intro _ rfl) ?_
  | refine And.intro trivial ?_
  | refine Exists.intro _ (And.intro rfl ?_)
  | refine Exists.intro _ (Exists.intro _ (And.intro rfl (And.intro rfl ?_)))
  | refine And.intro (And.intro (by walk_at "side") (by walk_at "side") : CDiv _ _) ?_
  | refine And.intro (.inl (And.intro (by walk_at "side") (by walk_at "side")) : CMul _ _) ?_
  | refine And.intro (.inr (And.intro (by walk_at "side") (by walk_at "side")) : CMul _ _) ?_
  | refine And.intro (And.intro (List.cons_ne_nil _ _) (And.intro (by walk_at "side") (And.intro (by walk_at "side") (by walk_at "side")))) ?_
  | refine And.intro (by walk_at "side") ?_)
local macro_rules | `(tactic| walk_at "step") => `(tactic| first
  | (refine isWE ?_; walk_at "we")
  | (refine isWT ?_; walk_at "wt")
  | (refine isWSs ?_; first | refine wss_nil ?_ | refine wss_one ?_ | refine wss_cons ?_)
  | (refine isWS ?_; walk_at "ws")
  | (refine isWDs ?_; first | refine wds_nil ?_ | refine wds_cons ?_)
  | (refine isWW ?_; first | refine ww_and1 ?_ | refine ww_or1 ?_ | refine ww_and ?_ | refine ww_or ?_)
  | refine allB_i fun _ _ _ _ _ => ?_
  | refine asI_i (allB_i fun _ _ _ _ _ => ?_)
  | (refine isWG ?_; first | walk_at "gi" | refine wg_tup rfl ?_ rfl)
  | (refine isWGs ?_; first | refine wgs_nil ?_ | refine wgs_consN ?_)
  | (refine isWO ?_; first | refine wo_none ?_ | refine wo_some ?_)
  | (refine isWA ?_; first | refine wa_nil ?_ | refine wa_cons ?_)
  | walk_at "l")
local macro_rules | `(tactic| walk_at "go") => `(tactic| repeat (walk_at "step"))
set_option maxHeartbeats 2000000
abbrev NWR : List Str := ["_law_pool_here", "_law_image_here", "_law_some", "_law_rest", "_law_done", "_law_turn", "_law_at", "_law_along", "_law_change"]
theorem scWR : FnScope NWR ["_law_pool_here", "_law_image_here", "_law_some"] (defScope (topS 16)) := ⟨rfl, rfl, rfl, by decide +kernel, rfl, by decide +kernel, by decide +kernel⟩
def ClosedIn (cs : List Chg) (dn : List Int) : Prop := ∀ c ∈ cs, c.n ∈ dn → ∀ m ∈ wantsF cs c, m ∈ dn
theorem reach_closed {cs : List Chg} {dn : List Int} (h : ClosedIn cs dn) {x : Int} (r : Reach cs dn x) : x ∈ dn := by
  induction r with
  | base h => exact h
  | @step c m hc _ hm ih => exact h c hc ih m hm
def restF (cs : List Chg) (dn : List Int) : List Chg := cs.filter fun c => !decide (c.n ∈ dn)
theorem rest_sub {cs : List Chg} {dn : List Int} : (restF cs dn).Sublist cs := List.filter_sublist
theorem fine_rest {cs : List Chg} {dn : List Int} (h : Fine cs) : Fine (restF cs dn) :=
  ⟨⟨Nat.le_trans rest_sub.length_le h.sm.1, fun c hc => h.sm.2 c (rest_sub.subset hc)⟩, Nat.le_trans rest_sub.length_le h.lt, h.inc.sublist (rest_sub.map _), fun c hc => h.le c (rest_sub.subset hc)⟩
theorem mem_restF {cs : List Chg} {dn : List Int} {c : Chg} : c ∈ restF cs dn ↔ c ∈ cs ∧ c.n ∉ dn := by
  unfold restF
  rw [List.mem_filter, Bool.not_eq_true', decide_eq_false_iff_not]
/-- what goes along is of the list -/
theorem along_in {cs : List Chg} {page : Int} {x : Int} (h : x ∈ goesF cs page) : ∃ c ∈ cs, c.n = x ∧ c.at_ = page := by
  obtain ⟨i, c, _, h1, h2, h3⟩ := al_in _ h
  exact ⟨c, List.mem_of_getElem? h1, h2, h3⟩
structure Wr (cs : List Chg) (dn : List Int) : Prop where
  sub : SubN cs dn
  cl : ClosedIn cs dn
theorem Wr.more {cs : List Chg} {dn al : List Int} {page : Int} (hF : Fine cs) (h : Wr cs dn) (p : al.Perm (goesF (restF cs dn) page)) : Wr cs (dn ++ al) ∧ restF cs (dn ++ al) = (restF cs dn).filter fun c => !decide (c.n ∈ al) := by
  have hR := fine_rest (dn := dn) hF
  have inn : ∀ x ∈ al, ∃ c ∈ restF cs dn, c.n = x ∧ c.at_ = page := fun x hx => along_in (p.mem_iff.mp hx)
  refine ⟨⟨⟨fun x hx => ?_, List.nodup_append.mpr ⟨h.sub.2, p.nodup_iff.mpr (goes_nd _), fun a ha b hb e => ?_⟩⟩, fun c hc hn m hm => ?_⟩, ?_⟩
  · rcases List.mem_append.mp hx with hx | hx
    · exact h.sub.1 x hx
    · obtain ⟨c, hc, rfl, _⟩ := inn x hx
      exact List.mem_map.mpr ⟨c, (mem_restF.mp hc).1, rfl⟩
  · obtain ⟨c, hc, e2, _⟩ := inn b hb
    exact (mem_restF.mp hc).2 (by rw [e2, ← e]; exact ha)
  · by_cases hmd : m ∈ dn
    · exact List.mem_append_left _ hmd
    refine List.mem_append_right _ ?_
    rcases List.mem_append.mp hn with hn | hn
    · exact absurd (h.cl c hc hn m hm) hmd
    · obtain ⟨c', hc', e1, e2⟩ := inn _ hn
      have e3 : c' = c := by
        have h3 := filter_one hF.inc hc
        have h4 := filter_one hF.inc (mem_restF.mp hc').1
        rw [e1, h3] at h4
        exact (List.cons.inj h4).1.symm
      subst e3
      refine p.mem_iff.mpr ((taken_wants hR.inc hc' (hR.le c' hc') e2).mp (p.mem_iff.mp hn) m ?_)
      rcases mem_wants.mp hm with ⟨g1, g2⟩ | ⟨o, ho, rfl, g1, g2, g3⟩
      · obtain ⟨o, ho, e5⟩ := List.mem_map.mp g2
        exact mem_wants.mpr (.inl ⟨g1, List.mem_map.mpr ⟨o, mem_restF.mpr ⟨ho, by rw [e5]; exact hmd⟩, e5⟩⟩)
      · exact mem_wants.mpr (.inr ⟨o, mem_restF.mpr ⟨ho, hmd⟩, rfl, g1, g2, g3⟩)
  · unfold restF
    rw [List.filter_filter]
    apply List.filter_congr
    intro c _
    by_cases h1 : c.n ∈ dn <;> by_cases h2 : c.n ∈ al <;> simp [h1, h2]
/-- the first of what is left goes along as its page is written -/
theorem first_along {c : Chg} {r : List Chg} (hF : Fine (c :: r)) : c.n ∈ goesF (c :: r) c.at_ := by
  refine (taken_wants hF.inc List.mem_cons_self (hF.le c List.mem_cons_self) rfl).mpr fun m hm => ?_
  have h1 := want_lt (hF.le c List.mem_cons_self) hm
  have h2 : m ∈ nums (c :: r) := by
    rcases mem_wants.mp hm with ⟨_, h⟩ | ⟨o, ho, rfl, _⟩
    · exact h
    · exact List.mem_map.mpr ⟨o, ho, rfl⟩
  rcases List.mem_cons.mp h2 with e | h3
  · have : m = c.n := e
    omega
  · have : c.n < m := (List.pairwise_cons.mp hF.inc).1 m h3
    omega
theorem lay_all {α : Type} (f : α → D) (h : ∀ a, (f a).canLay0 = true) : ∀ xs : List α, PyData.canLayAll0 (xs.map f) = true
  | [] => rfl
  | x :: r => by
    rw [List.map_cons]
    show ((f x).canLay0 && PyData.canLayAll0 (r.map f)) = true
    rw [h x, lay_all f h r]
    rfl
theorem lay_chg (c : Chg) : (chgD c).canLay0 = true := by
  show (PyData.canLay0 (.int c.n) && (PyData.canLay0 (.int c.at_) && (PyData.canLayAll0 (c.puts.map putD2) && (PyData.canLayAll0 (c.leans.map PyData.int) && true)))) = true
  rw [lay_all putD2 (fun p => rfl), lay_ints]
  rfl
theorem depth_chg (c : Chg) : (chgD c).depth ≤ 3 := by
  have h1 := pAll putD2 1 c.puts fun p _ => Nat.le_refl 1
  have h2 := depth_ints c.leans
  show max 0 (max 0 (max (PyData.depthAll (c.puts.map putD2) + 1) (max (PyData.depthAll (c.leans.map PyData.int) + 1) 0))) + 1 ≤ 3
  rw [h2]
  omega
theorem shaped_cs (cs : List Chg) : SeqAt.shaped (csD cs) = true := by
  unfold SeqAt.shaped
  rw [Bool.and_eq_true, decide_eq_true_eq]
  refine ⟨lay_all chgD lay_chg cs, ?_⟩
  have := pAll chgD 3 cs fun c _ => depth_chg c
  show PyData.depthAll (cs.map chgD) + 1 ≤ 64
  omega
theorem eqv_cs (cs : List Chg) : PyData.eqv (csD cs) (.list []) = decide (cs = []) := by
  unfold csD
  cases cs with
  | nil => simp [PyData.eqv, PyData.eqvAll]
  | cons c r => simp [PyData.eqv, PyData.eqvAll]
local macro_rules | `(tactic| walk_at "we") => `(tactic| refine we_catS ?_)
section
variable {Pg : Program} {w : World} {K : PySem.W.Frag} {mg : Str → Option Value} {base : Heap}
def sWR : SpD := fun R Q => ∃ (a b : Int) (np nn : Nat) (cs : List Chg), R = [pool a b, .d (imgE np nn), .d (csD cs)] ∧ (PoolOk b ∧ Sizes np nn ∧ Fine cs) ∧ ∀ a' b' : Int, PoolOk b' → Q (.d (.bool true)) [pool a' b', .d (imgE np nn), .d (csD cs)]
theorem ok_wr {f : Addr} {fd : FuncData} (F : Fun K "_law_written_right" "_law_written_right" (topS 16) f fd) (hm : mg "_law_written_right" = some (.ref f)) (hb : Binds K fd ["_law_pool_here", "_law_image_here", "_law_some"] []) (ml : mg "list" = none) (ms : mg "sorted" = none) (mr : mg "range" = none)
    (cDraw : Can Pg w K mg base 1 "_law_draw" sDraw) (cMany : Can Pg w K mg base 1 "_law_many" sMany) (cGoes : Can Pg w K mg base 2 "goes_along" sGoes) (cIs : Can Pg w K mg base 2 "is_closed" sIs) (cLC : Can Pg w K mg base 4 "_law_closed" sLC) : Can Pg w K mg base 5 "_law_written_right" sWR := by
  refine can_def F scWR hm hb (fun A Z Z' k ⟨a, b, c, d, e, h1, h2, h3⟩ => ⟨a, b, c, d, e, h1, h2, fun o s g => k _ _ (h3 o s g)⟩) (by decide) (fun R Q h => ?_) (fun cdv A outer s H E hgd hr R Q h => ?_)
  · obtain ⟨a, b, c, d, e, rfl, _⟩ := h
    rfl
  · obtain ⟨a, b, np, nn, cs, rfl, ⟨hp, hs, hF⟩, q⟩ := h
    show WSs _ [0] _ [pool a b, .d (imgE np nn), .d (csD cs), .no, .no, .no, .no, .no, .no] _
    have nd : NWR.Nodup := scWR.nd
    have hM := manyE_eq np nn
    have hM1 := hs
    unfold Sizes at hM1
    refine wss_cons ?_
    walk_at "si"
    refine we_list ml rfl ?_
    walk_at "go"
    refine ws_fz 3 (ds := cs.map chgD) rfl (by decide) ?_
    refine ws_fz 4 (ds := []) rfl (by decide) ?_
    refine ws_forR (js := [5]) PassesOwn.never rfl mr rfl ?_
    walk_at "go"
    refine ⟨fun i R' => ∃ (a b : Int) (dn : List Int) (s5 s6 s7 : SV), R' = [pool a b, .d (imgE np nn), .d (csD cs), .d (csD (restF cs dn)), .d (.list (dn.map .int)), s5, s6, s7, .no] ∧ PoolOk b ∧ Wr cs dn,
      ⟨a, b, [], .no, .no, .no, ?_, hp, ⟨fun x hx => (by cases hx), .nil⟩, fun c hc hn => (by cases hn)⟩, fun i R' hlt h => ?_, fun R' h => ?_⟩
    · have e : restF cs [] = cs := List.filter_eq_self.mpr fun c _ => rfl
      rw [e]
      rfl
    · obtain ⟨a, b, dn, s5, s6, s7, rfl, hp, hW⟩ := h
      have hR := fine_rest (dn := dn) hF
      walk_at "gi"
      walk_at "go"
      refine ⟨tkE np, nsE nn, dtE np, rfl, ⟨rfl, ?_⟩⟩
      walk_at "go"
      refine ⟨_, _, _, rfl, ⟨by rw [show manyF (nsE nn) (dtE np) = manyE np nn from rfl]; omega, by rw [show manyF (nsE nn) (dtE np) = manyE np nn from rfl]; omega⟩, hp, fun r1 a1 b1 hr1 hp1 => ⟨rfl, ?_⟩⟩
      walk_at "go"
      refine ⟨restF cs dn, r1, rfl, ⟨hR.sm, by have := hR.lt; omega⟩, fun al p1 p2 => ⟨rfl, ?_⟩⟩
      obtain ⟨hW2, hRe⟩ := hW.more hF p1
      have hal : al.length ≤ 20 := by
        have h1 := nodup_le (p1.nodup_iff.mpr (goes_nd _)) (m := nums (restF cs dn)) fun x hx => by
          obtain ⟨c, hc, e, _⟩ := along_in (p1.mem_iff.mp hx)
          exact List.mem_map.mpr ⟨c, hc, e⟩
        have h2 := hR.lt
        unfold nums at h1
        rw [List.length_map] at h1
        omega
      have hdl := hW.sub.len
      have hcl := hF.lt
      refine wss_fz 7 (ds := al.map .int) rfl (by decide) ?_
      walk_at "go"
      refine ⟨by rw [List.length_map, List.length_map]; exact szle (by omega), ?_⟩
      rw [← List.map_append]
      refine wss_fz 4 (ds := (dn ++ al).map .int) rfl (by decide) ?_
      refine nrmS [pool a1 b1, .d (imgE np nn), .d (csD cs), .d (csD (restF cs dn)), .d (.list ((dn ++ al).map .int)), .d (.int i), .d (.int r1), .d (.list (al.map .int)), .no] rfl ?_
      refine wss_cons ?_
      refine ws_setLc1 (i := 3) [("_law_change", 8)] [8] rfl nd rfl rfl (sw_true rfl rfl rfl (by decide +kernel)) (blkOk_by (N := NWR) (sc := defScope (topS 16)) (by decide +kernel)) (by decide) (by decide) (by decide) (.list ?_)
      walk_at "go"
      refine lc_pure1 (as := restF cs dn) (enc := chgD) (g := chgD) (fun c => !decide (c.n ∈ al)) [pool a1 b1, .d (imgE np nn), .d (csD cs), .d (csD (restF cs dn)), .d (.list ((dn ++ al).map .int)), .d (.int i), .d (.int r1), .d (.list (al.map .int)), .no] rfl (szle (by have := hR.lt; omega)) (fun c hc => ?_) ?_
      · walk_at "go"
        refine wt_notIn rfl ?_
        walk_at "go"
        refine gIn_l c.n al ?_ ?_ ?_
        · rfl
        · rfl
        walk_at "go"
        refine ⟨fun _ => ?_, fun _ => rfl⟩
        walk_at "go"
        rfl
      rw [← hRe]
      refine wss_fz 3 (ds := (restF cs (dn ++ al)).map chgD) rfl (by decide) ?_
      refine nrmS [pool a1 b1, .d (imgE np nn), .d (csD cs), .d (csD (restF cs (dn ++ al))), .d (.list ((dn ++ al).map .int)), .d (.int i), .d (.int r1), .d (.list (al.map .int)), .no] rfl ?_
      walk_at "go"
      refine ⟨cs, dn ++ al, rfl, ⟨hF, hW2.sub⟩, fun out ho => ⟨rfl, ?_⟩⟩
      refine we_sortedI ms rfl ?_
      walk_at "go"
      intro srt s1 s2
      have hs1 := srt_of s1 s2 hW2.sub.2
      have same : ∀ out', Clo cs (dn ++ al) out' → out' = srt := fun out' h' => srt_ext h'.s hs1 fun x => by
        rw [h'.m, s1.mem_iff]
        exact ⟨fun r => reach_closed hW2.cl r, fun h => .base h⟩
      have e1 := same out ho
      subst e1
      refine ⟨⟨_, rfl⟩, ?_⟩
      refine gEq_ints (a := out) (b := out) ?_ ?_ ?_
      · rfl
      · rfl
      rw [decide_eq_true rfl]
      refine ⟨fun _ => ?_, fun z => Bool.noConfusion z⟩
      walk_at "go"
      refine wt_isNotB ?_
      walk_at "go"
      refine ⟨cs, dn ++ al, rfl, ⟨hF, hW2.sub⟩, fun out2 srt2 h2 h3 h4 => ⟨rfl, ?_⟩⟩
      have e2 := same out2 h2
      have e3 : srt2 = out := srt_ext h3 hs1 fun x => by rw [h4, s1.mem_iff]
      rw [e2, e3, decide_eq_true rfl]
      walk_at "go"
      refine ⟨fun z => Bool.noConfusion z, fun _ => ?_⟩
      walk_at "go"
      exact ⟨a1, b1, dn ++ al, _, _, _, rfl, hp1, hW2⟩
    · obtain ⟨a, b, dn, s5, s6, s7, rfl, hp, hW⟩ := h
      refine wss_cons ?_
      refine ws_while PassesOwn.never (fun m R' => ∃ (rs : List Chg) (s7 : SV), R' = [pool a b, .d (imgE np nn), .d (csD cs), .d (csD rs), .d (.list (dn.map .int)), s5, s6, s7, .no] ∧ Fine rs ∧ m = rs.length) _ ⟨restF cs dn, _, rfl, fine_rest hF, rfl⟩ fun m R' h => ?_
      obtain ⟨rs, s7', rfl, hR, rfl⟩ := h
      walk_at "go"
      refine ⟨csD rs, .list [], rfl, rfl, shaped_cs rs, rfl, ?_⟩
      rw [eqv_cs]
      refine ⟨fun e => ?_, fun e => ?_⟩
      · have hne : rs ≠ [] := by simpa using e
        obtain ⟨c, r, rfl⟩ := List.exists_cons_of_ne_nil hne
        walk_at "go"
        refine ⟨(c :: r).map chgD, chgD c, rfl, atI_of (by decide) rfl, ?_⟩
        walk_at "go"
        refine ⟨c :: r, c.at_, rfl, ⟨hR.sm, by have := hR.lt; omega⟩, fun al p1 p2 => ⟨rfl, ?_⟩⟩
        have hcal : c.n ∈ al := p1.mem_iff.mpr (first_along hR)
        refine wss_fz 7 (ds := al.map .int) rfl (by decide) ?_
        refine nrmS [pool a b, .d (imgE np nn), .d (csD cs), .d (csD (c :: r)), .d (.list (dn.map .int)), s5, s6, .d (.list (al.map .int)), .no] rfl ?_
        refine wss_cons (ws_if ?_)
        apply wt_notIn
        · rfl
        walk_at "go"
        refine ⟨(c :: r).map chgD, chgD c, rfl, atI_of (by decide) rfl, ?_⟩
        walk_at "go"
        refine gIn_l c.n al ?_ ?_ ?_
        · rfl
        · rfl
        refine ⟨fun e2 => ?_, fun _ => ?_⟩
        · rw [Bool.not_eq_true', decide_eq_false_iff_not] at e2
          exact absurd hcal e2
        refine wss_nil ?_
        refine wss_cons ?_
        refine ws_setLc1 (i := 3) [("_law_change", 8)] [8] rfl nd rfl rfl (sw_true rfl rfl rfl (by decide +kernel)) (blkOk_by (N := NWR) (sc := defScope (topS 16)) (by decide +kernel)) (by decide) (by decide) (by decide) (.list ?_)
        walk_at "go"
        refine lc_pure1 (as := c :: r) (enc := chgD) (g := chgD) (fun c => !decide (c.n ∈ al)) [pool a b, .d (imgE np nn), .d (csD cs), .d (csD (c :: r)), .d (.list (dn.map .int)), s5, s6, .d (.list (al.map .int)), .no] rfl (szle (by have := hR.lt; omega)) (fun c hc => ?_) ?_
        · walk_at "go"
          refine wt_notIn rfl ?_
          walk_at "go"
          refine gIn_l c.n al ?_ ?_ ?_
          · rfl
          · rfl
          walk_at "go"
          refine ⟨fun _ => ?_, fun _ => rfl⟩
          walk_at "go"
          rfl
        have sub : ((c :: r).filter fun c => !decide (c.n ∈ al)).Sublist (c :: r) := List.filter_sublist
        have lt : ((c :: r).filter fun c => !decide (c.n ∈ al)).length < (c :: r).length := by
          rw [List.filter_cons, if_neg (by rw [decide_eq_true hcal]; exact Bool.false_ne_true)]
          exact Nat.lt_succ_of_le (List.length_filter_le _ _)
        refine wss_fz 3 (ds := ((c :: r).filter fun c => !decide (c.n ∈ al)).map chgD) rfl (by decide) ?_
        refine wss_nil ?_
        exact ⟨_, lt, _, _, rfl, ⟨⟨Nat.le_trans sub.length_le hR.sm.1, fun o ho => hR.sm.2 o (sub.subset ho)⟩, Nat.le_trans sub.length_le hR.lt, hR.inc.sublist (sub.map _), fun o ho => hR.le o (sub.subset ho)⟩, rfl⟩
      · walk_at "go"
        exact q _ _ hp
end
end K08
namespace K08
open PySem PySem.Spec PyProof.Rows L2 Dl
local macro_rules | `(tactic| walk_at "v") => `(tactic| first
  | refine we_d (i := 0) rfl (vis3 rfl) rfl ?_ | refine we_o (i := 0) rfl (vis3 rfl) rfl ?_
  | refine we_d (i := 1) rfl (vis3 rfl) rfl ?_ | refine we_o (i := 1) rfl (vis3 rfl) rfl ?_
  | refine we_d (i := 2) rfl (vis3 rfl) rfl ?_ | refine we_o (i := 2) rfl (vis3 rfl) rfl ?_
  | refine we_d (i := 3) rfl (vis3 rfl) rfl ?_ | refine we_o (i := 3) rfl (vis3 rfl) rfl ?_
  | refine we_d (i := 4) rfl (vis3 rfl) rfl ?_ | refine we_o (i := 4) rfl (vis3 rfl) rfl ?_
  | refine we_d (i := 5) rfl (vis3 rfl) rfl ?_ | refine we_o (i := 5) rfl (vis3 rfl) rfl ?_
  | refine we_d (i := 6) rfl (vis3 rfl) rfl ?_ | refine we_o (i := 6) rfl (vis3 rfl) rfl ?_
  | refine we_d (i := 7) rfl (vis3 rfl) rfl ?_ | refine we_o (i := 7) rfl (vis3 rfl) rfl ?_
  | refine we_d (i := 8) rfl (vis3 rfl) rfl ?_ | refine we_o (i := 8) rfl (vis3 rfl) rfl ?_
  | refine we_d (i := 9) rfl (vis3 rfl) rfl ?_ | refine we_o (i := 9) rfl (vis3 rfl) rfl ?_
  | refine we_d (i := 10) rfl (vis3 rfl) rfl ?_ | refine we_o (i := 10) rfl (vis3 rfl) rfl ?_
  | refine we_d (i := 11) rfl (vis3 rfl) rfl ?_ | refine we_o (i := 11) rfl (vis3 rfl) rfl ?_
  | refine we_d (i := 12) rfl (vis3 rfl) rfl ?_ | refine we_o (i := 12) rfl (vis3 rfl) rfl ?_
  | refine we_d (i := 13) rfl (vis3 rfl) rfl ?_ | refine we_o (i := 13) rfl (vis3 rfl) rfl ?_
  | refine we_d (i := 14) rfl (vis3 rfl) rfl ?_ | refine we_o (i := 14) rfl (vis3 rfl) rfl ?_
  | refine we_d (i := 15) rfl (vis3 rfl) rfl ?_ | refine we_o (i := 15) rfl (vis3 rfl) rfl ?_
  | refine we_d (i := 16) rfl (vis3 rfl) rfl ?_ | refine we_o (i := 16) rfl (vis3 rfl) rfl ?_
  | refine we_d (i := 17) rfl (vis3 rfl) rfl ?_ | refine we_o (i := 17) rfl (vis3 rfl) rfl ?_
  | refine we_d (i := 18) rfl (vis3 rfl) rfl ?_ | refine we_o (i := 18) rfl (vis3 rfl) rfl ?_
  | refine we_d (i := 19) rfl (vis3 rfl) rfl ?_ | refine we_o (i := 19) rfl (vis3 rfl) rfl ?_
  | refine we_d (i := 20) rfl (vis3 rfl) rfl ?_ | refine we_o (i := 20) rfl (vis3 rfl) rfl ?_)
local macro_rules | `(tactic| walk_at "si") => `(tactic| first
  | refine ws_set (i := 0) (by assumption) rfl (loc2 rfl) (by decide) ?_
  | refine ws_set (i := 1) (by assumption) rfl (loc2 rfl) (by decide) ?_
  | refine ws_set (i := 2) (by assumption) rfl (loc2 rfl) (by decide) ?_
  | refine ws_set (i := 3) (by assumption) rfl (loc2 rfl) (by decide) ?_
  | refine ws_set (i := 4) (by assumption) rfl (loc2 rfl) (by decide) ?_
  | refine ws_set (i := 5) (by assumption) rfl (loc2 rfl) (by decide) ?_
  | refine ws_set (i := 6) (by assumption) rfl (loc2 rfl) (by decide) ?_
  | refine ws_set (i := 7) (by assumption) rfl (loc2 rfl) (by decide) ?_
  | refine ws_set (i := 8) (by assumption) rfl (loc2 rfl) (by decide) ?_
  | refine ws_set (i := 9) (by assumption) rfl (loc2 rfl) (by decide) ?_
  | refine ws_set (i := 10) (by assumption) rfl (loc2 rfl) (by decide) ?_
  | refine ws_set (i := 11) (by assumption) rfl (loc2 rfl) (by decide) ?_
  | refine ws_set (i := 12) (by assumption) rfl (loc2 rfl) (by decide) ?_
  | refine ws_set (i := 13) (by assumption) rfl (loc2 rfl) (by decide) ?_
  | refine ws_set (i := 14) (by assumption) rfl (loc2 rfl) (by decide) ?_
  | refine ws_set (i := 15) (by assumption) rfl (loc2 rfl) (by decide) ?_
  | refine ws_set (i := 16) (by assumption) rfl (loc2 rfl) (by decide) ?_
  | refine ws_set (i := 17) (by assumption) rfl (loc2 rfl) (by decide) ?_
  | refine ws_set (i := 18) (by assumption) rfl (loc2 rfl) (by decide) ?_
  | refine ws_set (i := 19) (by assumption) rfl (loc2 rfl) (by decide) ?_
  | refine ws_set (i := 20) (by assumption) rfl (loc2 rfl) (by decide) ?_)
local macro_rules | `(tactic| walk_at "gi") => `(tactic| first
  | refine wg_name (i := 0) (by assumption) rfl (loc2 rfl) (by decide) ?_
  | refine wg_name (i := 1) (by assumption) rfl (loc2 rfl) (by decide) ?_
  | refine wg_name (i := 2) (by assumption) rfl (loc2 rfl) (by decide) ?_
  | refine wg_name (i := 3) (by assumption) rfl (loc2 rfl) (by decide) ?_
  | refine wg_name (i := 4) (by assumption) rfl (loc2 rfl) (by decide) ?_
  | refine wg_name (i := 5) (by assumption) rfl (loc2 rfl) (by decide) ?_
  | refine wg_name (i := 6) (by assumption) rfl (loc2 rfl) (by decide) ?_
  | refine wg_name (i := 7) (by assumption) rfl (loc2 rfl) (by decide) ?_
  | refine wg_name (i := 8) (by assumption) rfl (loc2 rfl) (by decide) ?_
  | refine wg_name (i := 9) (by assumption) rfl (loc2 rfl) (by decide) ?_
  | refine wg_name (i := 10) (by assumption) rfl (loc2 rfl) (by decide) ?_
  | refine wg_name (i := 11) (by assumption) rfl (loc2 rfl) (by decide) ?_
  | refine wg_name (i := 12) (by assumption) rfl (loc2 rfl) (by decide) ?_
  | refine wg_name (i := 13) (by assumption) rfl (loc2 rfl) (by decide) ?_
  | refine wg_name (i := 14) (by assumption) rfl (loc2 rfl) (by decide) ?_
  | refine wg_name (i := 15) (by assumption) rfl (loc2 rfl) (by decide) ?_
  | refine wg_name (i := 16) (by assumption) rfl (loc2 rfl) (by decide) ?_
  | refine wg_name (i := 17) (by assumption) rfl (loc2 rfl) (by decide) ?_
  | refine wg_name (i := 18) (by assumption) rfl (loc2 rfl) (by decide) ?_
  | refine wg_name (i := 19) (by assumption) rfl (loc2 rfl) (by decide) ?_
  | refine wg_name (i := 20) (by assumption) rfl (loc2 rfl) (by decide) ?_)
local macro_rules | `(tactic| walk_at "side") => `(tactic| first | exact rfl | exact Nat.le_trans (m := 1000) (Nat.le_of_ble_eq_true rfl) sz1000 | omega | decide | assumption)
local macro_rules | `(tactic| walk_at "we") => `(tactic| first
  | (refine isName ?_; walk_at "v")
  | refine we_int ?_ | refine we_bl ?_ | refine we_non ?_ | refine we_str ?_
  | refine we_ix ?_
  | refine we_addG ?_ | refine we_sub ?_ | refine we_mulG ?_ | refine we_div ?_ | refine we_mod ?_ | refine we_pow ?_ | refine we_neg ?_
  | refine we_gt ?_ | refine we_lt ?_ | refine we_ge ?_ | refine we_le ?_
  | refine we_tup ?_ | refine we_lst ?_ | refine we_dict0 ?_
  | refine we_len (by assumption) rfl ?_ | refine we_slG ?_ | refine we_eqG (by assumption) ?_ | refine we_neG (by assumption) ?_ | refine we_not ?_ | refine we_one ?_ | refine we_and ?_ | refine we_or ?_
  | refine we_call2 (by assumption) (by assumption) (by assumption) (by decide) rfl ?_)
local macro_rules | `(tactic| walk_at "wt") => `(tactic| first
  | refine wt_gt ?_ | refine wt_lt ?_ | refine wt_ge ?_ | refine wt_le ?_ | refine wt_not ?_
  | refine wt_eqG (by assumption) ?_ | refine wt_neG (by assumption) ?_ | refine wt_bool ?_ | refine wt_val ?_)
local macro_rules | `(tactic| walk_at "ws") => `(tactic| first
  | refine ws_ret ?_ | (refine isSet ?_; walk_at "si") | refine ws_if ?_
  | refine ws_append (pe_bm PySem.F.plainAttrs_list PySem.F.slot_list_append PySem.F.type_list_append mt_append pe_m (pa_cons pe_m pa_nil)) ?_
  | refine ws_continue ?_ | refine ws_break ?_ | refine ws_pass ?_)
local macro_rules | `(tactic| walk_at "l") => `(tactic| first
  | refine And.intro (Exists.intro _ rfl) ?_
  | refine And.intro trivial ?_
  | refine Exists.intro _ (And.intro rfl ?_)
  | refine Exists.intro _ (Exists.intro _ (And.intro rfl (And.intro rfl ?_)))
  | refine And.intro (And.intro (by walk_at "side") (by walk_at "side") : CDiv _ _) ?_
  | refine And.intro (.inl (And.intro (by walk_at "side") (by walk_at "side")) : CMul _ _) ?_
  | refine And.intro (.inr (And.intro (by walk_at "side") (by walk_at "side")) : CMul _ _) ?_
  | refine And.intro (And.intro (List.cons_ne_nil _ _) (And.intro (by walk_at "side") (And.intro (by walk_at "side") (by walk_at "side")))) ?_
  | refine And.intro (by walk_at "side") ?_)
local macro_rules | `(tactic| walk_at "step") => `(tactic| first
  | (refine isWE ?_; walk_at "we")
  | (refine isWT ?_; walk_at "wt")
  | (refine isWSs ?_; first | refine wss_nil ?_ | refine wss_one ?_ | refine wss_cons ?_)
  | (refine isWS ?_; walk_at "ws")
  | (refine isWDs ?_; first | refine wds_nil ?_ | refine wds_cons ?_)
  | (refine isWW ?_; first | refine ww_and1 ?_ | refine ww_or1 ?_ | refine ww_and ?_ | refine ww_or ?_)
  | refine allB_i fun _ _ _ _ _ => ?_
  | refine asI_i (allB_i fun _ _ _ _ _ => ?_)
  | (refine isWG ?_; first | walk_at "gi" | refine wg_tup rfl ?_ rfl)
  | (refine isWGs ?_; first | refine wgs_nil ?_ | refine wgs_consN ?_)
  | (refine isWO ?_; first | refine wo_none ?_ | refine wo_some ?_)
  | (refine isWA ?_; first | refine wa_nil ?_ | refine wa_cons ?_)
  | walk_at "l")
local macro_rules | `(tactic| walk_at "go") => `(tactic| repeat (walk_at "step"))
set_option maxHeartbeats 4000000
abbrev NLaw : List Str := ["_law_script", "_law_k", "_law_pool_here", "_law_image_here", "_law_some", "_law_kept", "_law_numbers", "_law_turn", "_law_own", "_law_due", "_law_held", "_law_change", "_law_number"]
theorem scLaw : FnScope NLaw ["_law_script"] (defScope (topS 17)) := ⟨rfl, rfl, rfl, by decide +kernel, rfl, by decide +kernel, by decide +kernel⟩
theorem GoodCs.fine {np nn : Nat} {cs : List Chg} (g : GoodCs np nn cs) : Fine cs := ⟨g.small, by have := g.len; omega, g.inc, fun c hc l hl => ((g.all c hc).lb l hl).2⟩
theorem sh_ints {ns : List Int} (hl : ns.length ≤ 13) (h : ∀ x ∈ ns, Tiny x) : Shows (.list (ns.map PyData.int)) 1 26000 := (sh_lst PyData.int 0 1921 13 ns hl fun x hx => sh_int (h x hx)).up (Nat.le_refl _) (by decide)
theorem sh_two {a b : D} (ha : Shows a 1 26000) (hb : Shows b 1 26000) : Shows (.list [a, b]) 2 53000 := by
  have := sh_lst id 1 26000 2 [a, b] (Nat.le_refl _) fun x hx => by
    rcases List.mem_cons.mp hx with e | hx
    · subst e
      exact ha
    · rw [List.mem_singleton.mp hx]
      exact hb
  rw [List.map_id] at this
  exact this.up (Nat.le_refl _) (by decide)
local macro_rules | `(tactic| walk_at "we") => `(tactic| first
  | refine we_max2 rfl (by assumption) rfl ?_
  | refine we_min2 rfl (by assumption) rfl ?_)
section
variable {Pg : Program} {w : World} {K : PySem.W.Frag} {mg : Str → Option Value} {base : Heap}
def sLaw : SpD := fun R Q => ∃ ns : List Int, R = [.d (.list (ns.map .int))] ∧ ns.length ≤ 63 ∧ ∀ R', Q (.d (.bool true)) R'
theorem ok_law {f : Addr} {fd : FuncData} (F : Fun K "law" "law" (topS 17) f fd) (ml : mg "len" = none) (mr : mg "range" = none) (mx : mg "max" = none) (mn : mg "min" = none) (mp : mg "repr" = none) (ms : mg "sorted" = none)
    (cClosed : Can Pg w K mg base 1 "closed_of" sClosed2) (cIs : Can Pg w K mg base 2 "is_closed" sIs) (cPool : Can Pg w K mg base 1 "_law_pool" sPool) (cDraw : Can Pg w K mg base 1 "_law_draw" sDraw) (cImage : Can Pg w K mg base 2 "_law_image" sImage) (cChg : Can Pg w K mg base 2 "_law_changes" sChg) (cLC : Can Pg w K mg base 4 "_law_closed" sLC) (cWR : Can Pg w K mg base 5 "_law_written_right" sWR) : FnG Pg w K mg base CX0 6 f fd ["_law_script"] (liftS K sLaw) := by
  refine fn_def F scLaw (by decide) (fun R Q h => ?_) (fun cdv A outer s H E hgd hr R Q h => ?_)
  · obtain ⟨a, rfl, _⟩ := h
    rfl
  · obtain ⟨ns, rfl, hn, q⟩ := h
    show WSs _ [] _ [.d (.list (ns.map .int)), .no, .no, .no, .no, .no, .no, .no, .no, .no, .no, .no, .no] _
    have nd : NLaw.Nodup := scLaw.nd
    have hu100 : (A.deeper (envOfC "law" (defScope (topS 17)) s.heap.objs.size f cdv)).units + 100 < cLine := by have := hr.un; omega
    walk_at "go"
    refine ws_forR (js := [1]) PassesOwn.never rfl mr rfl ?_
    walk_at "go"
    rw [List.length_map]
    generalize hT : (if (if (ns.length : Int) < 20 then (ns.length : Int) else 20) > 1 then (if (ns.length : Int) < 20 then (ns.length : Int) else 20) else 1) = T
    have hT1 : 0 ≤ T ∧ T ≤ 20 := by
      subst hT
      split <;> split <;> omega
    refine ⟨fun i R' => ∃ s1 s2 s3 s4 s5 s6 s7 s8 s9 s10, R' = [.d (.list (ns.map .int)), s1, s2, s3, s4, s5, s6, s7, s8, s9, s10, .no, .no], ⟨_, _, _, _, _, _, _, _, _, _, rfl⟩, fun i R' hlt h => ?_, fun R' h => ?_⟩
    · obtain ⟨s1, s2, s3, s4, s5, s6, s7, s8, s9, s10, rfl⟩ := h
      walk_at "gi"
      walk_at "go"
      refine ⟨ns, _, rfl, ⟨by omega, by omega⟩, fun a1 b1 hp1 => ⟨rfl, ?_⟩⟩
      walk_at "go"
      refine ⟨_, _, rfl, hp1, fun np nn a2 b2 g1 g2 hp2 => ⟨rfl, ?_⟩⟩
      walk_at "go"
      refine ⟨_, _, np, nn, rfl, ⟨hp2, g1, g2⟩, fun a3 b3 cs hp3 gc => ⟨rfl, ?_⟩⟩
      have sh := sh_cs gc
      have hF := gc.fine
      refine wss_fz 4 (ds := cs.map chgD) rfl (by decide) ?_
      refine wss_cons ?_
      walk_at "si"
      refine we_repr hgd hu100 mp rfl ?_
      walk_at "go"
      refine ⟨sh.s, sh.h, Nat.le_trans sh.p (by decide), Nat.le_trans sh.l (by decide), ?_⟩
      refine nrmS [.d (.list (ns.map .int)), .d (.int i), pool a3 b3, .d (imgE np nn), .d (csD cs), .d (.str (csD cs).shown), s6, s7, s8, s9, s10, .no, .no] rfl ?_
      refine wss_cons ?_
      refine ws_setLc0 (i := 6) [("_law_change", 11)] [11] rfl nd rfl rfl (sw_true rfl rfl rfl (by decide +kernel)) (blkOk_by (N := NLaw) (sc := defScope (topS 17)) (by decide +kernel)) (by decide) (by decide) (by decide) (.list ?_)
      walk_at "go"
      refine lc_pure0 (as := cs) (enc := chgD) (g := fun o => .int o.n) [.d (.list (ns.map .int)), .d (.int i), pool a3 b3, .d (imgE np nn), .d (csD cs), .d (.str (csD cs).shown), s6, s7, s8, s9, s10, .no, .no] rfl (szle (by have := hF.lt; omega)) (fun o ho => ?_) ?_
      · walk_at "go"
        rfl
      have en : (cs.map fun o => PyData.int o.n) = (nums cs).map .int := by
        unfold nums
        rw [List.map_map]
        rfl
      rw [en]
      refine wss_fz 6 (ds := (nums cs).map .int) rfl (by decide) ?_
      refine wss_cons ?_
      refine ws_forR (js := [7]) PassesOwn.never rfl mr rfl ?_
      walk_at "go"
      refine ⟨fun j R' => ∃ (a b : Int) (s7 s8 s9 s10 : SV), R' = [.d (.list (ns.map .int)), .d (.int i), pool a b, .d (imgE np nn), .d (csD cs), .d (.str (csD cs).shown), .d (.list ((nums cs).map .int)), s7, s8, s9, s10, .no, .no] ∧ PoolOk b, ⟨a3, b3, s7, s8, s9, s10, rfl, hp3⟩, fun j R' hlt h => ?_, fun R' h => ?_⟩
      · obtain ⟨a, b, s7, s8, s9, s10, rfl, hp⟩ := h
        walk_at "gi"
        refine wss_cons ?_
        refine ws_setLc1 (i := 8) [("_law_number", 12)] [12] rfl nd rfl rfl (sw_true rfl rfl rfl (by decide +kernel)) (blkOk_by (N := NLaw) (sc := defScope (topS 17)) (by decide +kernel)) (by decide) (by decide) (by decide) (.list ?_)
        walk_at "go"
        refine ⟨szle (by rw [List.length_map]; unfold nums; rw [List.length_map]; have := hF.lt; omega), fun t acc R' => ∃ (a b : Int) (ss : List Int), R' = [.d (.list (ns.map .int)), .d (.int i), pool a b, .d (imgE np nn), .d (csD cs), .d (.str (csD cs).shown), .d (.list ((nums cs).map .int)), .d (.int j), s8, s9, s10, .no, .no] ∧ PoolOk b ∧ acc = ss.map .int ∧ ss.Sublist ((nums cs).take t), ⟨a, b, [], rfl, hp, rfl, List.nil_sublist _⟩, fun t x acc R' hx h => ?_, fun acc R' h => ?_⟩
        · obtain ⟨a4, b4, ss, rfl, hp4, rfl, hu⟩ := h
          rw [List.getElem?_map] at hx
          cases hq : (nums cs)[t]? with
          | none => rw [hq] at hx; cases hx
          | some y =>
            rw [hq] at hx
            cases hx
            have ht : (nums cs).take (t + 1) = (nums cs).take t ++ [y] := by
              rw [List.take_add_one, hq]
              rfl
            unfold Tn1
            walk_at "go"
            refine ⟨_, _, _, rfl, ⟨by decide, by decide⟩, hp4, fun r5 a5 b5 hr5 hp5 => ⟨rfl, ?_⟩⟩
            walk_at "go"
            refine ⟨fun _ => ?_, fun _ => ?_⟩
            · walk_at "go"
              exact ⟨a5, b5, ss ++ [y], rfl, hp5, by rw [List.map_append]; rfl, by rw [ht]; exact hu.append (List.Sublist.refl _)⟩
            · exact ⟨a5, b5, ss, rfl, hp5, rfl, by rw [ht]; exact hu.trans (List.sublist_append_left _ _)⟩
        · obtain ⟨a4, b4, own, rfl, hp4, rfl, hu⟩ := h
          rw [List.length_map, List.take_length] at hu
          have hinc : own.Pairwise (· < ·) := hF.inc.sublist hu
          have hsub : SubN cs own := ⟨fun x hx => hu.subset hx, hinc.imp fun h e => by omega⟩
          refine wss_fz 8 (ds := own.map .int) rfl (by decide) ?_
          walk_at "go"
          refine ⟨cs, own, rfl, ⟨hF, hsub⟩, fun due hdue => ⟨rfl, ?_⟩⟩
          refine wss_fz 9 (ds := due.map .int) rfl (by decide) ?_
          refine nrmS [.d (.list (ns.map .int)), .d (.int i), pool a4 b4, .d (imgE np nn), .d (csD cs), .d (.str (csD cs).shown), .d (.list ((nums cs).map .int)), .d (.int j), .d (.list (own.map .int)), .d (.list (due.map .int)), s10, .no, .no] rfl ?_
          have hsubD : SubN cs due := hdue.sub hsub
          have hdd : Clo cs due due := ⟨hdue.s, fun x => ⟨.base, reach_idem hdue.m⟩⟩
          have tiny : ∀ x ∈ nums cs, Tiny x := fun x hx => by
            obtain ⟨c, hc, rfl⟩ := List.mem_map.mp hx
            exact ⟨(gc.all c hc).n0, by have := (gc.all c hc).n1; omega⟩
          have sh2 := sh_two (sh_ints (ns := own) (Nat.le_trans hsub.len gc.len) fun x hx => tiny x (hsub.1 x hx)) (sh_ints (ns := due) (Nat.le_trans hsubD.len gc.len) fun x hx => tiny x (hsubD.1 x hx))
          refine wss_cons ?_
          walk_at "si"
          refine we_repr hgd hu100 mp rfl ?_
          walk_at "go"
          refine ⟨sh2.s, sh2.h, Nat.le_trans sh2.p (by decide), Nat.le_trans sh2.l (by decide), ?_⟩
          refine nrmS [.d (.list (ns.map .int)), .d (.int i), pool a4 b4, .d (imgE np nn), .d (csD cs), .d (.str (csD cs).shown), .d (.list ((nums cs).map .int)), .d (.int j), .d (.list (own.map .int)), .d (.list (due.map .int)), .d (.str (PyData.list [.list (own.map .int), .list (due.map .int)]).shown), .no, .no] rfl ?_
          walk_at "go"
          refine ⟨cs, own, rfl, ⟨hF, hsub⟩, fun o1 ho1 => ⟨rfl, ?_⟩⟩
          rw [ho1.eq hdue]
          walk_at "go"
          refine gEq_ints (a := due) (b := due) ?_ ?_ ?_
          · rfl
          · rfl
          rw [decide_eq_true rfl]
          refine ⟨fun _ => ?_, fun z => Bool.noConfusion z⟩
          walk_at "go"
          refine we_reprB mp rfl ?_
          walk_at "go"
          refine ⟨cs, own, rfl, ⟨hF, hsub⟩, fun out srt h2 h3 h4 => ⟨rfl, ?_⟩⟩
          rw [h2.eq hdue, show srt = own from srt_ext h3 hinc h4]
          refine we_reprB mp rfl ?_
          walk_at "go"
          refine we_sortedI ms rfl ?_
          walk_at "go"
          intro srt' s1 s2
          rw [show srt' = own from srt_ext (srt_of s1 s2 hsub.2) hinc fun x => s1.mem_iff]
          walk_at "go"
          refine gEq_ints (a := own) (b := due) ?_ ?_ ?_
          · rfl
          · rfl
          have ed : decide (due = own) = decide (own = due) := by
            by_cases e : own = due
            · rw [decide_eq_true e, decide_eq_true e.symm]
            · rw [decide_eq_false e, decide_eq_false (fun z => e z.symm)]
          rw [ed]
          refine ⟨⟨_, rfl⟩, ?_⟩
          refine eqG_str _ ?_
          refine ⟨fun z => Bool.noConfusion z, fun _ => ?_⟩
          refine wss_nil ?_
          refine nrmS [.d (.list (ns.map .int)), .d (.int i), pool a4 b4, .d (imgE np nn), .d (csD cs), .d (.str (csD cs).shown), .d (.list ((nums cs).map .int)), .d (.int j), .d (.list (own.map .int)), .d (.list (due.map .int)), .d (.str (PyData.list [.list (own.map .int), .list (due.map .int)]).shown), .no, .no] rfl ?_
          walk_at "go"
          refine ⟨cs, due, rfl, ⟨hF, hsubD⟩, fun o2 ho2 => ⟨rfl, ?_⟩⟩
          rw [ho2.eq hdd]
          walk_at "go"
          refine gEq_ints (a := due) (b := due) ?_ ?_ ?_
          · rfl
          · rfl
          rw [decide_eq_true rfl]
          refine ⟨fun _ => ?_, fun z => Bool.noConfusion z⟩
          walk_at "go"
          refine wt_isNotB ?_
          walk_at "go"
          refine ⟨cs, due, rfl, ⟨hF, hsubD⟩, fun out srt h2 h3 h4 => ⟨rfl, ?_⟩⟩
          rw [h2.eq hdd, show srt = due from srt_ext h3 hdue.s h4, decide_eq_true rfl]
          walk_at "go"
          refine ⟨fun _ => ?_, fun z => Bool.noConfusion z⟩
          walk_at "go"
          refine we_repr hgd hu100 mp rfl ?_
          walk_at "go"
          refine ⟨sh.s, sh.h, Nat.le_trans sh.p (by decide), Nat.le_trans sh.l (by decide), ?_⟩
          walk_at "go"
          refine eqG_str _ ?_
          refine ⟨fun z => Bool.noConfusion z, fun _ => ?_⟩
          refine wss_nil ?_
          refine nrmS [.d (.list (ns.map .int)), .d (.int i), pool a4 b4, .d (imgE np nn), .d (csD cs), .d (.str (csD cs).shown), .d (.list ((nums cs).map .int)), .d (.int j), .d (.list (own.map .int)), .d (.list (due.map .int)), .d (.str (PyData.list [.list (own.map .int), .list (due.map .int)]).shown), .no, .no] rfl ?_
          refine wss_cons ?_
          refine ws_appendO (pe_bm PySem.F.plainAttrs_list PySem.F.slot_list_append PySem.F.type_list_append mt_append pe_m (pa_cons pe_m pa_nil)) ?_
          walk_at "go"
          refine ⟨cs, due, rfl, ⟨hF, hsubD⟩, fun o3 ho3 => ⟨rfl, ?_⟩⟩
          rw [ho3.eq hdd]
          refine ⟨due.map .int, rfl, ?_, ?_⟩
          · rw [List.length_map]
            have h1 := hsubD.len
            have h2 := hF.lt
            exact Nat.lt_of_le_of_lt (show _ ≤ 10000 by omega) (by decide)
          walk_at "go"
          refine we_repr hgd hu100 mp rfl ?_
          walk_at "go"
          refine ⟨sh2.s, sh2.h, Nat.le_trans sh2.p (by decide), Nat.le_trans sh2.l (by decide), ?_⟩
          walk_at "go"
          refine eqG_str _ ?_
          refine ⟨fun z => Bool.noConfusion z, fun _ => ?_⟩
          walk_at "go"
          exact ⟨a4, b4, _, _, _, _, rfl, hp4⟩
      · obtain ⟨a, b, s7, s8, s9, s10, rfl, hp⟩ := h
        walk_at "go"
        refine ⟨a, b, np, nn, cs, rfl, ⟨hp, ⟨g1, g2⟩, hF⟩, fun a' b' hp' => ⟨rfl, ?_⟩⟩
        walk_at "go"
        refine ⟨fun z => Bool.noConfusion z, fun _ => ?_⟩
        walk_at "go"
        exact ⟨_, _, _, _, _, _, _, _, _, _, rfl⟩
    · obtain ⟨s1, s2, s3, s4, s5, s6, s7, s8, s9, s10, rfl⟩ := h
      walk_at "go"
      exact q _
end
end K08
namespace K08
open PySem PySem.Spec PyProof.Rows L2 Dl
local macro_rules | `(tactic| walk_at "v") => `(tactic| first
  | refine we_d (i := 0) rfl (vis3 rfl) rfl ?_ | refine we_o (i := 0) rfl (vis3 rfl) rfl ?_
  | refine we_d (i := 1) rfl (vis3 rfl) rfl ?_ | refine we_o (i := 1) rfl (vis3 rfl) rfl ?_
  | refine we_d (i := 2) rfl (vis3 rfl) rfl ?_ | refine we_o (i := 2) rfl (vis3 rfl) rfl ?_
  | refine we_d (i := 3) rfl (vis3 rfl) rfl ?_ | refine we_o (i := 3) rfl (vis3 rfl) rfl ?_
  | refine we_d (i := 4) rfl (vis3 rfl) rfl ?_ | refine we_o (i := 4) rfl (vis3 rfl) rfl ?_
  | refine we_d (i := 5) rfl (vis3 rfl) rfl ?_ | refine we_o (i := 5) rfl (vis3 rfl) rfl ?_
  | refine we_d (i := 6) rfl (vis3 rfl) rfl ?_ | refine we_o (i := 6) rfl (vis3 rfl) rfl ?_
  | refine we_d (i := 7) rfl (vis3 rfl) rfl ?_ | refine we_o (i := 7) rfl (vis3 rfl) rfl ?_
  | refine we_d (i := 8) rfl (vis3 rfl) rfl ?_ | refine we_o (i := 8) rfl (vis3 rfl) rfl ?_
  | refine we_d (i := 9) rfl (vis3 rfl) rfl ?_ | refine we_o (i := 9) rfl (vis3 rfl) rfl ?_
  | refine we_d (i := 10) rfl (vis3 rfl) rfl ?_ | refine we_o (i := 10) rfl (vis3 rfl) rfl ?_
  | refine we_d (i := 11) rfl (vis3 rfl) rfl ?_ | refine we_o (i := 11) rfl (vis3 rfl) rfl ?_
  | refine we_d (i := 12) rfl (vis3 rfl) rfl ?_ | refine we_o (i := 12) rfl (vis3 rfl) rfl ?_
  | refine we_d (i := 13) rfl (vis3 rfl) rfl ?_ | refine we_o (i := 13) rfl (vis3 rfl) rfl ?_
  | refine we_d (i := 14) rfl (vis3 rfl) rfl ?_ | refine we_o (i := 14) rfl (vis3 rfl) rfl ?_
  | refine we_d (i := 15) rfl (vis3 rfl) rfl ?_ | refine we_o (i := 15) rfl (vis3 rfl) rfl ?_
  | refine we_d (i := 16) rfl (vis3 rfl) rfl ?_ | refine we_o (i := 16) rfl (vis3 rfl) rfl ?_
  | refine we_d (i := 17) rfl (vis3 rfl) rfl ?_ | refine we_o (i := 17) rfl (vis3 rfl) rfl ?_
  | refine we_d (i := 18) rfl (vis3 rfl) rfl ?_ | refine we_o (i := 18) rfl (vis3 rfl) rfl ?_
  | refine we_d (i := 19) rfl (vis3 rfl) rfl ?_ | refine we_o (i := 19) rfl (vis3 rfl) rfl ?_
  | refine we_d (i := 20) rfl (vis3 rfl) rfl ?_ | refine we_o (i := 20) rfl (vis3 rfl) rfl ?_)
local macro_rules | `(tactic| walk_at "si") => `(tactic| first
  | refine ws_set (i := 0) (by assumption) rfl (loc2 rfl) (by decide) ?_
  | refine ws_set (i := 1) (by assumption) rfl (loc2 rfl) (by decide) ?_
  | refine ws_set (i := 2) (by assumption) rfl (loc2 rfl) (by decide) ?_
  | refine ws_set (i := 3) (by assumption) rfl (loc2 rfl) (by decide) ?_
  | refine ws_set (i := 4) (by assumption) rfl (loc2 rfl) (by decide) ?_
  | refine ws_set (i := 5) (by assumption) rfl (loc2 rfl) (by decide) ?_
  | refine ws_set (i := 6) (by assumption) rfl (loc2 rfl) (by decide) ?_
  | refine ws_set (i := 7) (by assumption) rfl (loc2 rfl) (by decide) ?_
  | refine ws_set (i := 8) (by assumption) rfl (loc2 rfl) (by decide) ?_
  | refine ws_set (i := 9) (by assumption) rfl (loc2 rfl) (by decide) ?_
  | refine ws_set (i := 10) (by assumption) rfl (loc2 rfl) (by decide) ?_
  | refine ws_set (i := 11) (by assumption) rfl (loc2 rfl) (by decide) ?_
  | refine ws_set (i := 12) (by assumption) rfl (loc2 rfl) (by decide) ?_
  | refine ws_set (i := 13) (by assumption) rfl (loc2 rfl) (by decide) ?_
  | refine ws_set (i := 14) (by assumption) rfl (loc2 rfl) (by decide) ?_
  | refine ws_set (i := 15) (by assumption) rfl (loc2 rfl) (by decide) ?_
  | refine ws_set (i := 16) (by assumption) rfl (loc2 rfl) (by decide) ?_
  | refine ws_set (i := 17) (by assumption) rfl (loc2 rfl) (by decide) ?_
  | refine ws_set (i := 18) (by assumption) rfl (loc2 rfl) (by decide) ?_
  | refine ws_set (i := 19) (by assumption) rfl (loc2 rfl) (by decide) ?_
  | refine ws_set (i := 20) (by assumption) rfl (loc2 rfl) (by decide) ?_)
local macro_rules | `(tactic| walk_at "gi") => `(tactic| first
  | refine wg_name (i := 0) (by assumption) rfl (loc2 rfl) (by decide) ?_
  | refine wg_name (i := 1) (by assumption) rfl (loc2 rfl) (by decide) ?_
  | refine wg_name (i := 2) (by assumption) rfl (loc2 rfl) (by decide) ?_
  | refine wg_name (i := 3) (by assumption) rfl (loc2 rfl) (by decide) ?_
  | refine wg_name (i := 4) (by assumption) rfl (loc2 rfl) (by decide) ?_
  | refine wg_name (i := 5) (by assumption) rfl (loc2 rfl) (by decide) ?_
  | refine wg_name (i := 6) (by assumption) rfl (loc2 rfl) (by decide) ?_
  | refine wg_name (i := 7) (by assumption) rfl (loc2 rfl) (by decide) ?_
  | refine wg_name (i := 8) (by assumption) rfl (loc2 rfl) (by decide) ?_
  | refine wg_name (i := 9) (by assumption) rfl (loc2 rfl) (by decide) ?_
  | refine wg_name (i := 10) (by assumption) rfl (loc2 rfl) (by decide) ?_
  | refine wg_name (i := 11) (by assumption) rfl (loc2 rfl) (by decide) ?_
  | refine wg_name (i := 12) (by assumption) rfl (loc2 rfl) (by decide) ?_
  | refine wg_name (i := 13) (by assumption) rfl (loc2 rfl) (by decide) ?_
  | refine wg_name (i := 14) (by assumption) rfl (loc2 rfl) (by decide) ?_
  | refine wg_name (i := 15) (by assumption) rfl (loc2 rfl) (by decide) ?_
  | refine wg_name (i := 16) (by assumption) rfl (loc2 rfl) (by decide) ?_
  | refine wg_name (i := 17) (by assumption) rfl (loc2 rfl) (by decide) ?_
  | refine wg_name (i := 18) (by assumption) rfl (loc2 rfl) (by decide) ?_
  | refine wg_name (i := 19) (by assumption) rfl (loc2 rfl) (by decide) ?_
  | refine wg_name (i := 20) (by assumption) rfl (loc2 rfl) (by decide) ?_)
local macro_rules | `(tactic| walk_at "side") => `(tactic| first | exact rfl | exact Nat.le_trans (m := 1000) (Nat.le_of_ble_eq_true rfl) sz1000 | omega | decide | assumption)
local macro_rules | `(tactic| walk_at "we") => `(tactic| first
  | (refine isName ?_; walk_at "v")
  | refine we_int ?_ | refine we_bl ?_ | refine we_non ?_ | refine we_str ?_
  | refine we_ix ?_
  | refine we_addG ?_ | refine we_sub ?_ | refine we_mulG ?_ | refine we_div ?_ | refine we_mod ?_ | refine we_pow ?_ | refine we_neg ?_
  | refine we_gt ?_ | refine we_lt ?_ | refine we_ge ?_ | refine we_le ?_
  | refine we_tup ?_ | refine we_lst ?_ | refine we_dict0 ?_
  | refine we_len (by assumption) rfl ?_ | refine we_slG ?_ | refine we_eqG (by assumption) ?_ | refine we_neG (by assumption) ?_ | refine we_not ?_ | refine we_one ?_ | refine we_and ?_ | refine we_or ?_
  | refine we_call2 (by assumption) (by assumption) (by assumption) (by decide) rfl ?_)
local macro_rules | `(tactic| walk_at "wt") => `(tactic| first
  | refine wt_gt ?_ | refine wt_lt ?_ | refine wt_ge ?_ | refine wt_le ?_ | refine wt_not ?_
  | refine wt_eqG (by assumption) ?_ | refine wt_neG (by assumption) ?_ | refine wt_bool ?_ | refine wt_val ?_)
local macro_rules | `(tactic| walk_at "ws") => `(tactic| first
  | refine ws_ret ?_ | (refine isSet ?_; walk_at "si") | refine ws_if ?_
  | refine ws_append (pe_bm PySem.F.plainAttrs_list PySem.F.slot_list_append PySem.F.type_list_append mt_append pe_m (pa_cons pe_m pa_nil)) ?_
  | refine ws_continue ?_ | refine ws_break ?_ | refine ws_pass ?_)
local macro_rules | `(tactic| walk_at "l") => `(tactic| first
  | refine And.intro (Exists.intro _ rfl) ?_
  | refine And.intro trivial ?_
  | refine Exists.intro _ (And.intro rfl ?_)
  | refine Exists.intro _ (Exists.intro _ (And.intro rfl (And.intro rfl ?_)))
  | refine And.intro (And.intro (by walk_at "side") (by walk_at "side") : CDiv _ _) ?_
  | refine And.intro (.inl (And.intro (by walk_at "side") (by walk_at "side")) : CMul _ _) ?_
  | refine And.intro (.inr (And.intro (by walk_at "side") (by walk_at "side")) : CMul _ _) ?_
  | refine And.intro (And.intro (List.cons_ne_nil _ _) (And.intro (by walk_at "side") (And.intro (by walk_at "side") (by walk_at "side")))) ?_
  | refine And.intro (by walk_at "side") ?_)
local macro_rules | `(tactic| walk_at "step") => `(tactic| first
  | (refine isWE ?_; walk_at "we")
  | (refine isWT ?_; walk_at "wt")
  | (refine isWSs ?_; first | refine wss_nil ?_ | refine wss_one ?_ | refine wss_cons ?_)
  | (refine isWS ?_; walk_at "ws")
  | (refine isWDs ?_; first | refine wds_nil ?_ | refine wds_cons ?_)
  | (refine isWW ?_; first | refine ww_and1 ?_ | refine ww_or1 ?_ | refine ww_and ?_ | refine ww_or ?_)
  | refine allB_i fun _ _ _ _ _ => ?_
  | refine asI_i (allB_i fun _ _ _ _ _ => ?_)
  | (refine isWG ?_; first | walk_at "gi" | refine wg_tup rfl ?_ rfl)
  | (refine isWGs ?_; first | refine wgs_nil ?_ | refine wgs_consN ?_)
  | (refine isWO ?_; first | refine wo_none ?_ | refine wo_some ?_)
  | (refine isWA ?_; first | refine wa_nil ?_ | refine wa_cons ?_)
  | walk_at "l")
local macro_rules | `(tactic| walk_at "go") => `(tactic| repeat (walk_at "step"))
theorem tab_is {K : PySem.W.Frag} {x : Str} {f c P : Addr} {oc o1 : Value} {od o2 : Option Addr} {fd : FuncData} {sl o3 : Array (Option Value)} {vs : Array Value} (a : PySem.W.nsIn K mainGlobals x = some (some (.ref f))) (l : K.lookup f = some ⟨oc, od, .func fd, sl⟩) (hc : fd.code = .ref c)
    (lc : K.lookup c = some ⟨o1, o2, .fields vs, o3⟩) (hv : vs[11]? = some (.ref P)) : PySem.W.tabIn K x = some (c, P) := by
  unfold PySem.W.tabIn
  rw [a]
  dsimp only
  rw [l]
  dsimp only
  rw [hc]
  dsimp only
  rw [lc]
  dsimp only
  rw [hv]
theorem tabs_in {q : Program} {lo : List Str} {mean : ExcName → Option Value} {mg mb : Str → Option Value} {h : Heap} {K : PySem.W.Frag} {c P : Addr} {d : DefRec} (T : PyProof.Rows.Top q lo mean mg mb h) (X : K.In h) (hr : (recsOf q).find? (fun e => e.name == PySem.Str.ofString "closed_of") = some d)
    (zt : PySem.W.tabIn K "closed_of" = some (c, P)) (zo : K.lookup P = none) : TabsIn K h := by
  have one : ∀ b ∈ tabAt K, b = P := fun b hb => by
    obtain ⟨x, hx, c2, e⟩ := tabAt_of hb
    rw [List.mem_singleton.mp hx, zt] at e
    cases e
    rfl
  refine ⟨fun b hb => ?_, fun b hb => ?_, fun x hx c2 P2 e => ?_⟩
  · rw [one b hb]
    exact (PySem.W.tab_of T X hr zt).2
  · rw [one b hb]
    exact zo
  · rw [List.mem_singleton.mp hx] at e
    exact (PySem.W.tab_of T X hr e).1
theorem all_mk {w : World} {K : PySem.W.Frag} {h : Heap} {mg : Str → Option Value} {fa c P : Addr} (X : K.In h) (G : h.Ns mainGlobals mg) (hfa : mg "law" = some (.ref fa))
    {f1 f2 f3 f4 f6 f7 f8 f9 f10 f11 f12 f13 f14 f15 f16 f17 : Addr} {od1 an1 od2 an2 od3 an3 od4 an4 od6 an6 od7 an7 od8 an8 od9 an9 od10 an10 od11 an11 od12 an12 od13 an13 od14 an14 od15 an15 od16 an16 od17 an17 : Option Addr} {sl1 sl2 sl3 sl4 sl6 sl7 sl8 sl9 sl10 sl11 sl12 sl13 sl14 sl15 sl16 sl17 : Array (Option Value)} {oc1 kV1 dc1 pm1 cd1 ct1 oc2 kV2 dc2 pm2 cd2 ct2 oc3 kV3 dc3 pm3 cd3 ct3 oc4 kV4 dc4 pm4 cd4 ct4 oc6 kV6 dc6 pm6 cd6 ct6 oc7 kV7 dc7 pm7 cd7 ct7 oc8 kV8 dc8 pm8 cd8 ct8 oc9 kV9 dc9 pm9 cd9 ct9 oc10 kV10 dc10 pm10 cd10 ct10 oc11 kV11 dc11 pm11 cd11 ct11 oc12 kV12 dc12 pm12 cd12 ct12 oc13 kV13 dc13 pm13 cd13 ct13 oc14 kV14 dc14 pm14 cd14 ct14 oc15 kV15 dc15 pm15 cd15 ct15 oc16 kV16 dc16 pm16 cd16 ct16 oc17 kV17 dc17 pm17 cd17 ct17 : Value}
    (a1 : PySem.W.nsIn K mainGlobals "goes_along" = some (some (.ref f1))) (l1 : K.lookup f1 = some ⟨oc1, od1, .func (PySem.W.fnOf "goes_along" "goes_along" (defArgs (topS 1)) (defBody (topS 1)) (defScope (topS 1)) .none kV1 dc1 pm1 an1 cd1 ct1), sl1⟩) (c1 : PySem.W.codeIn K cd1 "goes_along" = true) (k1 : PySem.W.keepIn K (.ref f1) = true)
    (a2 : PySem.W.nsIn K mainGlobals "is_closed" = some (some (.ref f2))) (l2 : K.lookup f2 = some ⟨oc2, od2, .func (PySem.W.fnOf "is_closed" "is_closed" (defArgs (topS 2)) (defBody (topS 2)) (defScope (topS 2)) .none kV2 dc2 pm2 an2 cd2 ct2), sl2⟩) (c2 : PySem.W.codeIn K cd2 "is_closed" = true) (k2 : PySem.W.keepIn K (.ref f2) = true)
    (a3 : PySem.W.nsIn K mainGlobals "closed_of" = some (some (.ref f3))) (l3 : K.lookup f3 = some ⟨oc3, od3, .func (PySem.W.fnOf "closed_of" "closed_of" (defArgs (topS 3)) (defBody (topS 3)) (defScope (topS 3)) .none kV3 dc3 pm3 an3 cd3 ct3), sl3⟩) (c3 : PySem.W.codeIn K cd3 "closed_of" = true) (k3 : PySem.W.keepIn K (.ref f3) = true)
    (a4 : PySem.W.nsIn K mainGlobals "_leans_on_others" = some (some (.ref f4))) (l4 : K.lookup f4 = some ⟨oc4, od4, .func (PySem.W.fnOf "_leans_on_others" "_leans_on_others" (defArgs (topS 4)) (defBody (topS 4)) (defScope (topS 4)) .none kV4 dc4 pm4 an4 cd4 ct4), sl4⟩) (c4 : PySem.W.codeIn K cd4 "_leans_on_others" = true) (k4 : PySem.W.keepIn K (.ref f4) = true)
    (a6 : PySem.W.nsIn K mainGlobals "_law_pool" = some (some (.ref f6))) (l6 : K.lookup f6 = some ⟨oc6, od6, .func (PySem.W.fnOf "_law_pool" "_law_pool" (defArgs (topS 6)) (defBody (topS 6)) (defScope (topS 6)) .none kV6 dc6 pm6 an6 cd6 ct6), sl6⟩) (c6 : PySem.W.codeIn K cd6 "_law_pool" = true) (k6 : PySem.W.keepIn K (.ref f6) = true)
    (a7 : PySem.W.nsIn K mainGlobals "_law_draw" = some (some (.ref f7))) (l7 : K.lookup f7 = some ⟨oc7, od7, .func (PySem.W.fnOf "_law_draw" "_law_draw" (defArgs (topS 7)) (defBody (topS 7)) (defScope (topS 7)) .none kV7 dc7 pm7 an7 cd7 ct7), sl7⟩) (c7 : PySem.W.codeIn K cd7 "_law_draw" = true) (k7 : PySem.W.keepIn K (.ref f7) = true)
    (a8 : PySem.W.nsIn K mainGlobals "_law_image" = some (some (.ref f8))) (l8 : K.lookup f8 = some ⟨oc8, od8, .func (PySem.W.fnOf "_law_image" "_law_image" (defArgs (topS 8)) (defBody (topS 8)) (defScope (topS 8)) .none kV8 dc8 pm8 an8 cd8 ct8), sl8⟩) (c8 : PySem.W.codeIn K cd8 "_law_image" = true) (k8 : PySem.W.keepIn K (.ref f8) = true)
    (a9 : PySem.W.nsIn K mainGlobals "_law_many" = some (some (.ref f9))) (l9 : K.lookup f9 = some ⟨oc9, od9, .func (PySem.W.fnOf "_law_many" "_law_many" (defArgs (topS 9)) (defBody (topS 9)) (defScope (topS 9)) .none kV9 dc9 pm9 an9 cd9 ct9), sl9⟩) (c9 : PySem.W.codeIn K cd9 "_law_many" = true) (k9 : PySem.W.keepIn K (.ref f9) = true)
    (a10 : PySem.W.nsIn K mainGlobals "_law_slots" = some (some (.ref f10))) (l10 : K.lookup f10 = some ⟨oc10, od10, .func (PySem.W.fnOf "_law_slots" "_law_slots" (defArgs (topS 10)) (defBody (topS 10)) (defScope (topS 10)) .none kV10 dc10 pm10 an10 cd10 ct10), sl10⟩) (c10 : PySem.W.codeIn K cd10 "_law_slots" = true) (k10 : PySem.W.keepIn K (.ref f10) = true)
    (a11 : PySem.W.nsIn K mainGlobals "_law_changes" = some (some (.ref f11))) (l11 : K.lookup f11 = some ⟨oc11, od11, .func (PySem.W.fnOf "_law_changes" "_law_changes" (defArgs (topS 11)) (defBody (topS 11)) (defScope (topS 11)) .none kV11 dc11 pm11 an11 cd11 ct11), sl11⟩) (c11 : PySem.W.codeIn K cd11 "_law_changes" = true) (k11 : PySem.W.keepIn K (.ref f11) = true)
    (a12 : PySem.W.nsIn K mainGlobals "_law_spots" = some (some (.ref f12))) (l12 : K.lookup f12 = some ⟨oc12, od12, .func (PySem.W.fnOf "_law_spots" "_law_spots" (defArgs (topS 12)) (defBody (topS 12)) (defScope (topS 12)) .none kV12 dc12 pm12 an12 cd12 ct12), sl12⟩) (c12 : PySem.W.codeIn K cd12 "_law_spots" = true) (k12 : PySem.W.keepIn K (.ref f12) = true)
    (a13 : PySem.W.nsIn K mainGlobals "_law_share" = some (some (.ref f13))) (l13 : K.lookup f13 = some ⟨oc13, od13, .func (PySem.W.fnOf "_law_share" "_law_share" (defArgs (topS 13)) (defBody (topS 13)) (defScope (topS 13)) .none kV13 dc13 pm13 an13 cd13 ct13), sl13⟩) (c13 : PySem.W.codeIn K cd13 "_law_share" = true) (k13 : PySem.W.keepIn K (.ref f13) = true)
    (a14 : PySem.W.nsIn K mainGlobals "_law_wants" = some (some (.ref f14))) (l14 : K.lookup f14 = some ⟨oc14, od14, .func (PySem.W.fnOf "_law_wants" "_law_wants" (defArgs (topS 14)) (defBody (topS 14)) (defScope (topS 14)) .none kV14 dc14 pm14 an14 cd14 ct14), sl14⟩) (c14 : PySem.W.codeIn K cd14 "_law_wants" = true) (k14 : PySem.W.keepIn K (.ref f14) = true)
    (a15 : PySem.W.nsIn K mainGlobals "_law_closed" = some (some (.ref f15))) (l15 : K.lookup f15 = some ⟨oc15, od15, .func (PySem.W.fnOf "_law_closed" "_law_closed" (defArgs (topS 15)) (defBody (topS 15)) (defScope (topS 15)) .none kV15 dc15 pm15 an15 cd15 ct15), sl15⟩) (c15 : PySem.W.codeIn K cd15 "_law_closed" = true) (k15 : PySem.W.keepIn K (.ref f15) = true)
    (a16 : PySem.W.nsIn K mainGlobals "_law_written_right" = some (some (.ref f16))) (l16 : K.lookup f16 = some ⟨oc16, od16, .func (PySem.W.fnOf "_law_written_right" "_law_written_right" (defArgs (topS 16)) (defBody (topS 16)) (defScope (topS 16)) .none kV16 dc16 pm16 an16 cd16 ct16), sl16⟩) (c16 : PySem.W.codeIn K cd16 "_law_written_right" = true) (k16 : PySem.W.keepIn K (.ref f16) = true)
    (a17 : PySem.W.nsIn K mainGlobals "law" = some (some (.ref f17))) (l17 : K.lookup f17 = some ⟨oc17, od17, .func (PySem.W.fnOf "law" "law" (defArgs (topS 17)) (defBody (topS 17)) (defScope (topS 17)) .none kV17 dc17 pm17 an17 cd17 ct17), sl17⟩) (c17 : PySem.W.codeIn K cd17 "law" = true) (k17 : PySem.W.keepIn K (.ref f17) = true)
    (z_any : PySem.W.nsIn K mainGlobals "any" = some none) (z_sorted : PySem.W.nsIn K mainGlobals "sorted" = some none) (z_len : PySem.W.nsIn K mainGlobals "len" = some none) (z_max : PySem.W.nsIn K mainGlobals "max" = some none) (z_min : PySem.W.nsIn K mainGlobals "min" = some none) (z_int : PySem.W.nsIn K mainGlobals "int" = some none) (z_range : PySem.W.nsIn K mainGlobals "range" = some none) (z_tuple : PySem.W.nsIn K mainGlobals "tuple" = some none) (z_list : PySem.W.nsIn K mainGlobals "list" = some none) (z_repr : PySem.W.nsIn K mainGlobals "repr" = some none) (z_set : PySem.W.nsIn K mainGlobals "set" = some none) (zt : PySem.W.tabIn K "closed_of" = some (c, P)) :
    ∃ fd : FuncData, (∀ (s : Shared) (v : Value), BindsTo s fd ⟨[v], []⟩ [("_law_script", v)]) ∧ ∀ base : Heap, K.In base → base.Ns mainGlobals mg → TabBs K mg base → FnG PySem.Challenge.rw_writeorders_k08_closed_lists.prog w K mg base CX0 6 fa fd ["_law_script"] (liftS K sLaw) := by
  have e := hfa.symm.trans (PySem.W.mg_of X G a17)
  cases e
  have F1 := fun_mk (st := topS 1) l1 c1 k1
  have b1 := F1.binds (ps := ["changes", "page"]) fun _ _ _ _ _ _ us hl => match us, hl with | [_, _], _ => rfl
  have m1 := PySem.W.mg_of X G a1
  have F2 := fun_mk (st := topS 2) l2 c2 k2
  have b2 := F2.binds (ps := ["changes", "numbers"]) fun _ _ _ _ _ _ us hl => match us, hl with | [_, _], _ => rfl
  have m2 := PySem.W.mg_of X G a2
  have F3 := fun_mk (st := topS 3) l3 c3 k3
  have b3 := F3.binds (ps := ["changes", "numbers"]) fun _ _ _ _ _ _ us hl => match us, hl with | [_, _], _ => rfl
  have m3 := PySem.W.mg_of X G a3
  have F4 := fun_mk (st := topS 4) l4 c4 k4
  have b4 := F4.binds (ps := ["leans", "listed", "along"]) fun _ _ _ _ _ _ us hl => match us, hl with | [_, _, _], _ => rfl
  have m4 := PySem.W.mg_of X G a4
  have F6 := fun_mk (st := topS 6) l6 c6 k6
  have b6 := F6.binds (ps := ["_law_script", "_law_k"]) fun _ _ _ _ _ _ us hl => match us, hl with | [_, _], _ => rfl
  have m6 := PySem.W.mg_of X G a6
  have F7 := fun_mk (st := topS 7) l7 c7 k7
  have b7 := F7.binds (ps := ["_law_pool_here", "_law_many_here"]) fun _ _ _ _ _ _ us hl => match us, hl with | [_, _], _ => rfl
  have m7 := PySem.W.mg_of X G a7
  have F8 := fun_mk (st := topS 8) l8 c8 k8
  have b8 := F8.binds (ps := ["_law_pool_here"]) fun _ _ _ _ _ _ us hl => match us, hl with | [_], _ => rfl
  have m8 := PySem.W.mg_of X G a8
  have F9 := fun_mk (st := topS 9) l9 c9 k9
  have b9 := F9.binds (ps := ["_law_image_here"]) fun _ _ _ _ _ _ us hl => match us, hl with | [_], _ => rfl
  have m9 := PySem.W.mg_of X G a9
  have F10 := fun_mk (st := topS 10) l10 c10 k10
  have b10 := F10.binds (ps := ["_law_image_here", "_law_at"]) fun _ _ _ _ _ _ us hl => match us, hl with | [_, _], _ => rfl
  have m10 := PySem.W.mg_of X G a10
  have F11 := fun_mk (st := topS 11) l11 c11 k11
  have b11 := F11.binds (ps := ["_law_pool_here", "_law_image_here"]) fun _ _ _ _ _ _ us hl => match us, hl with | [_, _], _ => rfl
  have m11 := PySem.W.mg_of X G a11
  have F12 := fun_mk (st := topS 12) l12 c12 k12
  have b12 := F12.binds (ps := ["_law_change"]) fun _ _ _ _ _ _ us hl => match us, hl with | [_], _ => rfl
  have m12 := PySem.W.mg_of X G a12
  have F13 := fun_mk (st := topS 13) l13 c13 k13
  have b13 := F13.binds (ps := ["_law_one", "_law_other"]) fun _ _ _ _ _ _ us hl => match us, hl with | [_, _], _ => rfl
  have m13 := PySem.W.mg_of X G a13
  have F14 := fun_mk (st := topS 14) l14 c14 k14
  have b14 := F14.binds (ps := ["_law_some", "_law_change"]) fun _ _ _ _ _ _ us hl => match us, hl with | [_, _], _ => rfl
  have m14 := PySem.W.mg_of X G a14
  have F15 := fun_mk (st := topS 15) l15 c15 k15
  have b15 := F15.binds (ps := ["_law_some", "_law_numbers"]) fun _ _ _ _ _ _ us hl => match us, hl with | [_, _], _ => rfl
  have m15 := PySem.W.mg_of X G a15
  have F16 := fun_mk (st := topS 16) l16 c16 k16
  have b16 := F16.binds (ps := ["_law_pool_here", "_law_image_here", "_law_some"]) fun _ _ _ _ _ _ us hl => match us, hl with | [_, _, _], _ => rfl
  have m16 := PySem.W.mg_of X G a16
  have F17 := fun_mk (st := topS 17) l17 c17 k17
  have n_any := PySem.W.mg_none_of X G z_any
  have n_sorted := PySem.W.mg_none_of X G z_sorted
  have n_len := PySem.W.mg_none_of X G z_len
  have n_max := PySem.W.mg_none_of X G z_max
  have n_min := PySem.W.mg_none_of X G z_min
  have n_int := PySem.W.mg_none_of X G z_int
  have n_range := PySem.W.mg_none_of X G z_range
  have n_tuple := PySem.W.mg_none_of X G z_tuple
  have n_list := PySem.W.mg_none_of X G z_list
  have n_repr := PySem.W.mg_none_of X G z_repr
  have n_set := PySem.W.mg_none_of X G z_set
  refine ⟨PySem.W.fnOf "law" "law" (defArgs (topS 17)) (defBody (topS 17)) (defScope (topS 17)) .none kV17 dc17 pm17 an17 cd17 ct17, fun s v => .of_eq rfl, fun base _ _ tb => ?_⟩
  have TB := tb _ List.mem_cons_self c P zt
  have cLeans := ok_leans (Pg := PySem.Challenge.rw_writeorders_k08_closed_lists.prog) (w := w) (base := base) F4 m4 b4 n_any
  have cGoes := ok_goes F1 m1 b1 n_any n_sorted cLeans
  have cClosed := closed2 (ok_closed (Pg := PySem.Challenge.rw_writeorders_k08_closed_lists.prog) (w := w) (base := base) F3 m3 b3 n_any n_sorted zt TB (code_of F3 a3 zt))
  have cIs := ok_is F2 m2 b2 n_sorted n_set cClosed
  have cPool := ok_pool (Pg := PySem.Challenge.rw_writeorders_k08_closed_lists.prog) (w := w) (base := base) F6 m6 b6 n_len n_max n_int
  have cDraw := ok_draw (Pg := PySem.Challenge.rw_writeorders_k08_closed_lists.prog) (w := w) (base := base) F7 m7 b7
  have cImage := ok_image F8 m8 b8 cDraw
  have cMany := ok_many (Pg := PySem.Challenge.rw_writeorders_k08_closed_lists.prog) (w := w) (base := base) F9 m9 b9 n_len
  have cSlots := ok_slots (Pg := PySem.Challenge.rw_writeorders_k08_closed_lists.prog) (w := w) (base := base) F10 m10 b10 n_len
  have cChg := ok_chg F11 m11 b11 n_len n_range n_tuple cDraw cMany cSlots
  have cSpots := ok_spots (Pg := PySem.Challenge.rw_writeorders_k08_closed_lists.prog) (w := w) (base := base) F12 m12 b12
  have cShare := ok_share F13 m13 b13 cSpots
  have cWants := ok_wants F14 m14 b14 cShare
  have cLC := ok_lc F15 m15 b15 n_list n_sorted cWants
  have cWR := ok_wr F16 m16 b16 n_list n_sorted n_range cDraw cMany cGoes cIs cLC
  exact ok_law F17 n_len n_range n_max n_min n_repr n_sorted cClosed cIs cPool cDraw cImage cChg cLC cWR
end K08
open PySem PySem.W PyProof.Rows
set_option maxHeartbeats 0 in
theorem PySem.Challenge.cw_writeorders_k08_closed_lists_holds : PySem.Challenge.rw_writeorders_k08_closed_lists.Holds := by
  w_on; o_law; k_head; (case hw => w_witness2)
  k_fill
  refine Dl.walk_GT (l := PySem.Challenge.rw_writeorders_k08_closed_lists) (n := 63) (k := 6) (x := "_law_script") (sp := fun K => Dl.liftS K K08.sLaw) rfl (by decide) rfl ⟨rfl, by decide, by decide⟩ (fun w h Y => PySem.W.km_in_of Y) ?T ?F (fun K H a ns hl hO hT hS => Dl.law_data hO hT hS ⟨ns, rfl, hl, fun _ => rfl⟩ fun A Z Z' k ⟨a, h1, h2, h3⟩ => ⟨a, h1, h2, fun R' => k _ _ (h3 R')⟩)
  case T =>
    intro w h lo mean mg mb T KX
    refine' K08.tabs_in T KX ?hr ?zt ?zo
    (case hr => first | rfl | kernel_rfl); 
    (case zt => refine' K08.tab_is ?ta ?tl ?tc ?tlc ?tv; (case ta => k_is); (case tl => k_is); (case tc => rfl); (case tlc => k_is); (case tv => rfl)); (case zo => first | rfl | kernel_rfl | (simp only []; decide +kernel))
  case F =>
    intro w mg fa h KX G hmg
    refine' K08.all_mk KX G hmg ?a1 ?l1 ?c1 ?k1 ?a2 ?l2 ?c2 ?k2 ?a3 ?l3 ?c3 ?k3 ?a4 ?l4 ?c4 ?k4 ?a6 ?l6 ?c6 ?k6 ?a7 ?l7 ?c7 ?k7 ?a8 ?l8 ?c8 ?k8 ?a9 ?l9 ?c9 ?k9 ?a10 ?l10 ?c10 ?k10 ?a11 ?l11 ?c11 ?k11 ?a12 ?l12 ?c12 ?k12 ?a13 ?l13 ?c13 ?k13 ?a14 ?l14 ?c14 ?k14 ?a15 ?l15 ?c15 ?k15 ?a16 ?l16 ?c16 ?k16 ?a17 ?l17 ?c17 ?k17 ?z_any ?z_sorted ?z_len ?z_max ?z_min ?z_int ?z_range ?z_tuple ?z_list ?z_repr ?z_set ?zt
    (case a1 => k_is); (case l1 => k_is); (case c1 => k_is); (case k1 => k_is)
    (case a2 => k_is); (case l2 => k_is); (case c2 => k_is); (case k2 => k_is)
    (case a3 => k_is); (case l3 => k_is); (case c3 => k_is); (case k3 => k_is)
    (case a4 => k_is); (case l4 => k_is); (case c4 => k_is); (case k4 => k_is)
    (case a6 => k_is); (case l6 => k_is); (case c6 => k_is); (case k6 => k_is)
    (case a7 => k_is); (case l7 => k_is); (case c7 => k_is); (case k7 => k_is)
    (case a8 => k_is); (case l8 => k_is); (case c8 => k_is); (case k8 => k_is)
    (case a9 => k_is); (case l9 => k_is); (case c9 => k_is); (case k9 => k_is)
    (case a10 => k_is); (case l10 => k_is); (case c10 => k_is); (case k10 => k_is)
    (case a11 => k_is); (case l11 => k_is); (case c11 => k_is); (case k11 => k_is)
    (case a12 => k_is); (case l12 => k_is); (case c12 => k_is); (case k12 => k_is)
    (case a13 => k_is); (case l13 => k_is); (case c13 => k_is); (case k13 => k_is)
    (case a14 => k_is); (case l14 => k_is); (case c14 => k_is); (case k14 => k_is)
    (case a15 => k_is); (case l15 => k_is); (case c15 => k_is); (case k15 => k_is)
    (case a16 => k_is); (case l16 => k_is); (case c16 => k_is); (case k16 => k_is)
    (case a17 => k_is); (case l17 => k_is); (case c17 => k_is); (case k17 => k_is)
    (case z_any => k_is); (case z_sorted => k_is); (case z_len => k_is); (case z_max => k_is); (case z_min => k_is); (case z_int => k_is); (case z_range => k_is); (case z_tuple => k_is); (case z_list => k_is); (case z_repr => k_is); (case z_set => k_is)
    (case zt => refine' K08.tab_is ?ta ?tl ?tc ?tlc ?tv; (case ta => k_is); (case tl => k_is); (case tc => rfl); (case tlc => k_is); (case tv => rfl))
