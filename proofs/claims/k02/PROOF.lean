import PyProof.Rows.All
import HandS.ForMost
import HandS.TupAny
import HandS.TupMul
import HandS.SortKw
import HandS.More
import HandS.Conv
import HandS.IsInst
import HandS.DictComp
import HandS.Flow
import HandS.SortInts
import HandS.Strs
import HandS.Lambda
import HandS.EndTab
import KE.SortKeyHeap
import HandS.SetFor
import HandS.Style
import KE.DataEq
import KE.KEqDict
import HandS.Text
import HandS.Walk
import PyProof.ListStr
import PyProof.StrOps2
import KE.KRevSl
import PyProof.StrLawsRepr
import PyProof.ReprText
import HandS.ForExc
import HandS.ExcInit
import HandS.ExcField
import KE.KExcIs
import HandS.ExcIs
import KE.KExcInit
import HandS.Iter
import KE.GoesMore
import PySem.Challenge.RW_writeorders_k02_first_images
set_option Elab.async false
set_option linter.all false
set_option maxRecDepth 100000
set_option autoImplicit false
namespace Dl
open PySem PySem.Spec PyProof.Rows L2

/-! data, and what a name holds -/
abbrev D := PyData
inductive MC where
  | lst (ds : List D) | dK (kvs : List (Key × D)) | dT (kvs : List (List Key × D))
inductive SV where
  | no | d (x : D) | loc (i : Nat) | own (m : MC) | ex (a : Addr) (d : Option Addr) (fs : List (Str × D))
abbrev DS := List SV

mutual
/-- a value read as data: a tuple is a tracked tuple itself; an empty dict -/
inductive Dq (K : PySem.W.Frag) (H : Hp) : V → D → Prop
  | non : Dq K H .non .none
  | bl (b : Bool) : Dq K H (.bl b) (.bool b)
  | int (i : Int) : Dq K H (.int i) (.int i)
  | str (x : Str) : Dq K H (.str x) (.str x)
  | lst {a : Addr} {vs : List V} {xs : List D} : SqL K H a vs → DqAll K H vs xs → Dq K H (.ref a) (.list xs)
  | tup {a : Addr} {vs : List V} {xs : List D} : H a = some (.tup vs) → DqAll K H vs xs → Dq K H (.ref a) (.tuple xs)
  | dct0 {a : Addr} : H a = some (.dK []) → Dq K H (.ref a) (.dict [])
inductive DqAll (K : PySem.W.Frag) (H : Hp) : List V → List D → Prop
  | nil : DqAll K H [] []
  | cons {v : V} {x : D} {vs : List V} {xs : List D} : Dq K H v x → DqAll K H vs xs → DqAll K H (v :: vs) (x :: xs)
end
mutual
theorem Dq.dp {K : PySem.W.Frag} {H : Hp} : ∀ {v : V} {x : D}, Dq K H v x → x.hasDict = false → Dp K H v x
  | _, _, .non, _ => .non
  | _, _, .bl b, _ => .bl b
  | _, _, .int i, _ => .int i
  | _, _, .str x, _ => .str x
  | _, _, .lst hs ha, e => .lst hs (DqAll.dp ha e)
  | _, _, .tup hs ha, e => .tup (SqT.of hs) (DqAll.dp ha e)
  | _, _, .dct0 _, e => by cases e
theorem DqAll.dp {K : PySem.W.Frag} {H : Hp} : ∀ {vs : List V} {xs : List D}, DqAll K H vs xs → PyData.hasDictAll xs = false → DpAll K H vs xs
  | _, _, .nil, _ => .nil
  | _, _, .cons (x := x) (xs := xs) h t, e => by
    have e' : (x.hasDict || PyData.hasDictAll xs) = false := e
    rw [Bool.or_eq_false_iff] at e'
    exact .cons (h.dp e'.1) (t.dp e'.2)
end
theorem nd_of {d : D} (h : SeqAt.shaped d = true) : d.hasDict = false := by
  unfold SeqAt.shaped at h
  rw [Bool.and_eq_true] at h
  exact PyData.hasDict_of_canLay d h.1
theorem sameT {K : PySem.W.Frag} {H H' : Hp} {a : Addr} {xs : List V} (e : Same H H') (h : SqT K H a xs) : SqT K H' a xs := by
  rcases h with (h | ⟨o, h⟩) | h
  · exact .inl (.inl (e _ _ h))
  · exact .inl (.inr ⟨o, e _ _ h⟩)
  · exact .inr h
mutual
theorem dpMono {K : PySem.W.Frag} {H H' : Hp} (e : Same H H') : ∀ {v : V} {x : D}, Dq K H v x → Dq K H' v x
  | _, _, .non => .non
  | _, _, .bl b => .bl b
  | _, _, .int i => .int i
  | _, _, .str x => .str x
  | _, _, .lst hs ha => .lst (e.seq hs) (dpAllMono e ha)
  | _, _, .tup hs ha => .tup (e _ _ hs) (dpAllMono e ha)
  | _, _, .dct0 h => .dct0 (e _ _ h)
theorem dpAllMono {K : PySem.W.Frag} {H H' : Hp} (e : Same H H') : ∀ {vs : List V} {xs : List D}, DqAll K H vs xs → DqAll K H' vs xs
  | _, _, .nil => .nil
  | _, _, .cons h t => .cons (dpMono e h) (dpAllMono e t)
end
theorem dpAllLen {K : PySem.W.Frag} {H : Hp} : ∀ {vs : List V} {xs : List D}, DqAll K H vs xs → vs.length = xs.length
  | _, _, .nil => rfl
  | _, _, .cons _ t => by rw [List.length_cons, List.length_cons, dpAllLen t]
theorem dpAllGet {K : PySem.W.Frag} {H : Hp} : ∀ {vs : List V} {xs : List D} {i : Nat} {x : D}, DqAll K H vs xs → xs[i]? = some x → ∃ v, vs[i]? = some v ∧ Dq K H v x
  | _, _, _, _, .nil, e => by simp at e
  | _, _, 0, _, .cons h _, e => by
    simp at e
    subst e
    exact ⟨_, rfl, h⟩
  | _, _, i + 1, _, .cons _ t, e => by
    obtain ⟨v, h1, h2⟩ := dpAllGet (i := i) t (by simpa using e)
    exact ⟨v, by simpa using h1, h2⟩
theorem dpAllGetV {K : PySem.W.Frag} {H : Hp} : ∀ {vs : List V} {xs : List D} {i : Nat} {v : V}, DqAll K H vs xs → vs[i]? = some v → ∃ x, xs[i]? = some x ∧ Dq K H v x
  | _, _, _, _, .nil, e => by simp at e
  | _, _, 0, _, .cons h _, e => by
    simp at e
    subst e
    exact ⟨_, rfl, h⟩
  | _, _, i + 1, _, .cons _ t, e => by
    obtain ⟨v, h1, h2⟩ := dpAllGetV (i := i) t (by simpa using e)
    exact ⟨v, by simpa using h1, h2⟩
theorem dpAllApp {K : PySem.W.Frag} {H : Hp} : ∀ {vs ws : List V} {xs ys : List D}, DqAll K H vs xs → DqAll K H ws ys → DqAll K H (vs ++ ws) (xs ++ ys)
  | _, _, _, _, .nil, h => h
  | _, _, _, _, .cons h t, h2 => .cons h (dpAllApp t h2)
theorem dpAllTake {K : PySem.W.Frag} {H : Hp} : ∀ {vs : List V} {xs : List D} (n : Nat), DqAll K H vs xs → DqAll K H (vs.take n) (xs.take n)
  | _, _, 0, _ => .nil
  | _, _, _ + 1, .nil => .nil
  | _, _, n + 1, .cons h t => .cons h (dpAllTake n t)
theorem dpAllDrop {K : PySem.W.Frag} {H : Hp} : ∀ {vs : List V} {xs : List D} (n : Nat), DqAll K H vs xs → DqAll K H (vs.drop n) (xs.drop n)
  | _, _, 0, h => h
  | _, _, _ + 1, .nil => .nil
  | _, _, n + 1, .cons _ t => dpAllDrop n t
theorem dpAllSet {K : PySem.W.Frag} {H : Hp} {v : V} {x : D} (h : Dq K H v x) : ∀ {vs : List V} {xs : List D} (n : Nat), DqAll K H vs xs → DqAll K H (vs.set n v) (xs.set n x)
  | _, _, _, .nil => .nil
  | _, _, 0, .cons _ t => .cons h t
  | _, _, n + 1, .cons q t => .cons q (dpAllSet h n t)
theorem dpAllDropLast {K : PySem.W.Frag} {H : Hp} {vs : List V} {xs : List D} (h : DqAll K H vs xs) : DqAll K H vs.dropLast xs.dropLast := by
  rw [List.dropLast_eq_take, List.dropLast_eq_take, dpAllLen h]
  exact dpAllTake _ h
theorem dpAllInts {K : PySem.W.Frag} {H : Hp} : ∀ {ns : List Int} {vs : List V}, DqAll K H vs (ns.map PyData.int) → vs = ns.map V.int
  | [], _, .nil => rfl
  | n :: r, _, .cons h t => by
    cases h
    rw [dpAllInts t]
    rfl
theorem dpAllOfInts {K : PySem.W.Frag} {H : Hp} : ∀ ns : List Int, DqAll K H (ns.map V.int) (ns.map PyData.int)
  | [] => .nil
  | n :: r => .cons (.int n) (dpAllOfInts r)
theorem dpAllBls {K : PySem.W.Frag} {H : Hp} : ∀ {ns : List Bool} {vs : List V}, DqAll K H vs (ns.map PyData.bool) → vs = ns.map V.bl
  | [], _, .nil => rfl
  | n :: r, _, .cons h t => by
    cases h
    rw [dpAllBls t]
    rfl

/-- a held thing at an address -/
def CRp (K : PySem.W.Frag) (Hd : Hp) : MC → HO → Prop
  | .lst ds, o => ∃ vs, o = .lst vs ∧ DqAll K Hd vs ds
  | .dK kvs, o => ∃ ws, o = .dK ws ∧ Paired (fun (p : Key × D) (q : Key × V) => p.1 = q.1 ∧ Dq K Hd q.2 p.2) kvs ws
  | .dT kvs, o => ∃ ws, o = .dT ws ∧ Paired (fun (p : List Key × D) (q : List Key × V) => p.1 = q.1 ∧ Dq K Hd q.2 p.2) kvs ws
theorem CRp.mono {K : PySem.W.Frag} {H H' : Hp} (e : Same H H') : ∀ {m : MC} {o : HO}, CRp K H m o → CRp K H' m o
  | .lst _, _, ⟨vs, h, t⟩ => ⟨vs, h, dpAllMono e t⟩
  | .dK _, _, ⟨vs, h, t⟩ => ⟨vs, h, Paired.mapP t fun _ _ q => ⟨q.1, dpMono e q.2⟩⟩
  | .dT _, _, ⟨vs, h, t⟩ => ⟨vs, h, Paired.mapP t fun _ _ q => ⟨q.1, dpMono e q.2⟩⟩

/-- a caught exception's own fields: none, or the things of its dict -/
def ExR (K : PySem.W.Frag) (Hd : Hp) : Option Addr → List (Str × D) → Prop
  | none, fs => fs = []
  | some a, fs => ∃ ws, Hd a = some (.xd ws) ∧ Paired (fun (p : Str × D) (q : Str × V) => p.1 = q.1 ∧ Dq K Hd q.2 p.2) fs ws
theorem ExR.mono {K : PySem.W.Frag} {H H' : Hp} (e : Same H H') : ∀ {d : Option Addr} {fs : List (Str × D)}, ExR K H d fs → ExR K H' d fs
  | none, _, h => h
  | some _, _, ⟨ws, h, t⟩ => ⟨ws, e _ _ h, Paired.mapP t fun _ _ q => ⟨q.1, dpMono e q.2⟩⟩

/-- the defs that make lambdas, and their tables -/
def lamDefs : List Str := ["closed_of"]
def tabsOf (K : PySem.W.Frag) : List (Addr × Str) := lamDefs.filterMap fun x => (PySem.W.tabIn K x).map fun cp => (cp.2, x ++ ".<locals>." ++ "<lambda>")
/-- no table of code objects among them -/
def NoT (H : Hp) : Prop := ∀ (a : Addr) (ps : Array Value), H a ≠ some (.tbl ps)
def PlainO : HO → Prop
  | .tbl _ => False
  | _ => True
structure Fr where
  Hf : Hp
  al : Nat → Addr
  Fz : Addr → Prop
structure Wd (K : PySem.W.Frag) (F : Fr) (P : List Nat) (R : DS) (σ : L2.St) (Hd H : Hp) : Prop where
  dat : Same Hd H
  frm : Same F.Hf H
  len : R.length = σ.length
  val : ∀ (i : Nat) (x : D), R[i]? = some (SV.d x) → ∃ v, σ[i]? = some (some v) ∧ Dq K Hd v x
  own : ∀ (i : Nat) (m : MC), R[i]? = some (SV.own m) → ∃ a o, σ[i]? = some (some (V.ref a)) ∧ H a = some o ∧ CRp K Hd m o ∧ Hd a = none ∧ F.Hf a = none
  apart : ∀ (i j : Nat) (m n : MC) (a : Addr), R[i]? = some (SV.own m) → R[j]? = some (SV.own n) → σ[i]? = some (some (V.ref a)) → σ[j]? = some (some (V.ref a)) → i = j
  pin : ∀ (i : Nat), i ∈ P → ∃ m, R[i]? = some (SV.own m) ∧ σ[i]? = some (some (V.ref (F.al i)))
  prot : ∀ a, F.Fz a → Hd a = none ∧ F.Hf a ≠ none
  exs : ∀ (i : Nat) (a : Addr) (d : Option Addr) (fs : List (Str × D)), R[i]? = some (SV.ex a d fs) → σ[i]? = some (some (V.ref a)) ∧ ExR K Hd d fs
  tabs : LamX.Tabs (tabsOf K) H ∧ NoT Hd ∧ NoT F.Hf
def Rp (K : PySem.W.Frag) (F : Fr) (R : DS) (σ : L2.St) (Hd H : Hp) : SV → V → Prop
  | .no, _ => False
  | .d x, v => Dq K Hd v x
  | .loc i, v => σ[i]? = some (some v) ∧ ∃ m, R[i]? = some (SV.own m)
  | .own m, v => ∃ a o, v = .ref a ∧ H a = some o ∧ CRp K Hd m o ∧ Hd a = none ∧ F.Hf a = none ∧ ∀ (i : Nat) (n : MC), R[i]? = some (SV.own n) → σ[i]? ≠ some (some (V.ref a))
  | .ex a d fs, v => v = .ref a ∧ ExR K Hd d fs
def Post (K : PySem.W.Frag) (F : Fr) (P : List Nat) (σ : L2.St) (Hd : Hp) (Q : SV → DS → Prop) : VK := fun v H' =>
  ∃ Hd' R' sv, Same Hd Hd' ∧ Wd K F P R' σ Hd' H' ∧ Rp K F R' σ Hd' H' sv v ∧ Q sv R'

/-! the widest readings -/
def TEm (X : Cx) (e : Expr) : TE := fun σ H Q => ∀ pins s, Inv X pins σ H s → wpAny (model X.prog X.w) X.A (eval e X.env) (EP X pins σ Q) X.xe s
theorem pe_m {X : Cx} {e : Expr} : PE X e (TEm X e) := ⟨fun pins s _ _ _ I h => h pins s I⟩
theorem TEm.mono {X : Cx} {e : Expr} {σ : L2.St} {H : Hp} {Q Q' : VK} (h : TEm X e σ H Q) (k : ∀ v H', Q v H' → Q' v H') : TEm X e σ H Q' := fun pins s I =>
  thn (h pins s I) fun _ _ ⟨v, H', J, r, q⟩ => ⟨v, H', J, r, k v H' q⟩
theorem TEm.of {X : Cx} {e : Expr} {t : TE} {σ : L2.St} {H : Hp} {Q : VK} (p : PE X e t) (h : t σ H Q) : TEm X e σ H Q := fun pins s I => p.run pins s σ H Q I h
def TTm (X : Cx) (e : Expr) : TT := fun σ H Q => ∀ pins s, Inv X pins σ H s → wpAny (model X.prog X.w) X.A (isTrue e X.env (eval e X.env)) (TP X pins σ Q) X.xe s
theorem pt_m {X : Cx} {e : Expr} : PT X e (TTm X e) := ⟨fun pins s _ _ _ I h => h pins s I⟩
theorem TTm.mono {X : Cx} {e : Expr} {σ : L2.St} {H : Hp} {Q Q' : Bool → Hp → Prop} (h : TTm X e σ H Q) (k : ∀ v H', Q v H' → Q' v H') : TTm X e σ H Q' := fun pins s I =>
  thn (h pins s I) fun _ _ ⟨H', J, q⟩ => ⟨H', J, k _ H' q⟩
theorem TTm.of {X : Cx} {e : Expr} {t : TT} {σ : L2.St} {H : Hp} {Q : Bool → Hp → Prop} (p : PT X e t) (h : t σ H Q) : TTm X e σ H Q := fun pins s I => p.run pins s σ H Q I h
def TWm (X : Cx) (e : Expr) : TT := fun σ H Q => ∀ (whole : Sem Value) pins s, Inv X pins σ H s → wpAny (model X.prog X.w) X.A (isTrue e X.env whole) (TP X pins σ Q) X.xe s
theorem pw_m {X : Cx} {e : Expr} : PW X e (TWm X e) := ⟨fun whole pins s _ _ _ I h => h whole pins s I⟩
theorem TWm.mono {X : Cx} {e : Expr} {σ : L2.St} {H : Hp} {Q Q' : Bool → Hp → Prop} (h : TWm X e σ H Q) (k : ∀ v H', Q v H' → Q' v H') : TWm X e σ H Q' := fun whole pins s I =>
  thn (h whole pins s I) fun _ _ ⟨H', J, q⟩ => ⟨H', J, k _ H' q⟩
theorem TWm.of {X : Cx} {e : Expr} {t : TT} {σ : L2.St} {H : Hp} {Q : Bool → Hp → Prop} (p : PW X e t) (h : t σ H Q) : TWm X e σ H Q := fun whole pins s I => p.run whole pins s σ H Q I h
def TAm (X : Cx) (es : List Expr) : TA := fun σ H Q => ∀ (pos : Pos) pins s, Inv X pins σ H s → wpAny (model X.prog X.w) X.A (spliced (backTo pos (starEach es X.env))) (AP X pins σ Q) X.xe s
theorem pa_m {X : Cx} {es : List Expr} : PA X es (TAm X es) := ⟨fun pos pins s _ _ _ I h => h pos pins s I⟩
theorem TAm.mono {X : Cx} {es : List Expr} {σ : L2.St} {H : Hp} {Q Q' : List V → Hp → Prop} (h : TAm X es σ H Q) (k : ∀ v H', Q v H' → Q' v H') : TAm X es σ H Q' := fun pos pins s I =>
  thn (h pos pins s I) fun _ _ ⟨v, H', J, r, q⟩ => ⟨v, H', J, r, k v H' q⟩
theorem TAm.of {X : Cx} {es : List Expr} {t : TA} {σ : L2.St} {H : Hp} {Q : List V → Hp → Prop} (p : PA X es t) (h : t σ H Q) : TAm X es σ H Q := fun pos pins s I => p.run pos pins s σ H Q I h
def Le (D D' : Ends) : Prop := (∀ σ H, D.nx σ H → D'.nx σ H) ∧ (∀ v H, D.rt v H → D'.rt v H) ∧ (∀ σ H, D.bk σ H → D'.bk σ H) ∧ (∀ σ H, D.ct σ H → D'.ct σ H)
theorem SP.mono {X : Cx} {pins : List (Addr × Obj)} {D D' : Ends} {f : Flow} {s : Shared} (l : Le D D') (h : SP X pins D f s) : SP X pins D' f s := by
  cases f with
  | next => obtain ⟨σ, H, I, q⟩ := h; exact ⟨σ, H, I, l.1 _ _ q⟩
  | brk => obtain ⟨σ, H, I, q⟩ := h; exact ⟨σ, H, I, l.2.2.1 _ _ q⟩
  | cont => obtain ⟨σ, H, I, q⟩ := h; exact ⟨σ, H, I, l.2.2.2 _ _ q⟩
  | ret v => obtain ⟨x, σ, H, I, r, q⟩ := h; exact ⟨x, σ, H, I, r, l.2.1 _ _ q⟩
def TSm (X : Cx) (st : Stmt) : TS := fun D σ H => ∀ pins s, Inv X pins σ H s → wpAny (model X.prog X.w) X.A (exec st X.env) (SP X pins D) X.xe s
theorem ps_m {X : Cx} {st : Stmt} : PS X st (TSm X st) := ⟨fun pins s _ _ _ I h => h pins s I⟩
theorem TSm.mono {X : Cx} {st : Stmt} {σ : L2.St} {H : Hp} {D D' : Ends} (h : TSm X st D σ H) (l : Le D D') : TSm X st D' σ H := fun pins s I => thn (h pins s I) fun _ _ q => SP.mono l q
theorem TSm.of {X : Cx} {st : Stmt} {t : TS} {σ : L2.St} {H : Hp} {D : Ends} (p : PS X st t) (h : t D σ H) : TSm X st D σ H := fun pins s I => p.run pins s σ H D I h
def TSsm (X : Cx) (st : List Stmt) : TS := fun D σ H => ∀ pins s, Inv X pins σ H s → wpAny (model X.prog X.w) X.A (execs st X.env) (SP X pins D) X.xe s
theorem pss_m {X : Cx} {st : List Stmt} : PSs X st (TSsm X st) := ⟨fun pins s _ _ _ I h => h pins s I⟩
theorem TSsm.mono {X : Cx} {st : List Stmt} {σ : L2.St} {H : Hp} {D D' : Ends} (h : TSsm X st D σ H) (l : Le D D') : TSsm X st D' σ H := fun pins s I => thn (h pins s I) fun _ _ q => SP.mono l q
theorem TSsm.of {X : Cx} {st : List Stmt} {t : TS} {σ : L2.St} {H : Hp} {D : Ends} (p : PSs X st t) (h : t D σ H) : TSsm X st D σ H := fun pins s I => p.run pins s σ H D I h

/-! what is shown of a piece of code: by data alone -/
structure WE (X : Cx) (P : List Nat) (e : Expr) (R : DS) (Q : SV → DS → Prop) : Prop where
  run : ∀ F σ Hd H, Wd X.K F P R σ Hd H → TEm X e σ H (Post X.K F P σ Hd Q)
def PostT (K : PySem.W.Frag) (F : Fr) (P : List Nat) (σ : L2.St) (Hd : Hp) (Q : Bool → DS → Prop) : Bool → Hp → Prop := fun b H' =>
  ∃ Hd' R', Same Hd Hd' ∧ Wd K F P R' σ Hd' H' ∧ Q b R'
structure WT (X : Cx) (P : List Nat) (e : Expr) (R : DS) (Q : Bool → DS → Prop) : Prop where
  run : ∀ F σ Hd H, Wd X.K F P R σ Hd H → TTm X e σ H (PostT X.K F P σ Hd Q)
structure WW (X : Cx) (P : List Nat) (e : Expr) (R : DS) (Q : Bool → DS → Prop) : Prop where
  run : ∀ F σ Hd H, Wd X.K F P R σ Hd H → TWm X e σ H (PostT X.K F P σ Hd Q)
/-- arguments: each is data, or a name's own thing -/
def PostA (K : PySem.W.Frag) (F : Fr) (P : List Nat) (σ : L2.St) (Hd : Hp) (Q : List SV → DS → Prop) : List V → Hp → Prop := fun vs H' =>
  ∃ Hd' R' svs, Same Hd Hd' ∧ Wd K F P R' σ Hd' H' ∧ Paired (fun sv v => (match sv with | .d x => Dq K Hd' v x | .loc i => σ[i]? = some (some v) | _ => False)) svs vs ∧ Q svs R'
structure WA (X : Cx) (P : List Nat) (es : List Expr) (R : DS) (Q : List SV → DS → Prop) : Prop where
  run : ∀ F σ Hd H, Wd X.K F P R σ Hd H → TAm X es σ H (PostA X.K F P σ Hd Q)
structure DEnds where
  nx : DS → Prop
  rt : SV → DS → Prop
  bk : DS → Prop := fun _ => False
  ct : DS → Prop := fun _ => False
def up (K : PySem.W.Frag) (F : Fr) (P : List Nat) (Hd : Hp) (q : DS → Prop) : L2.St → Hp → Prop := fun σ' H' => ∃ Hd' R', Same Hd Hd' ∧ Wd K F P R' σ' Hd' H' ∧ q R'
/-- at a def's end -/
def Fin (K : PySem.W.Frag) (F : Fr) (P : List Nat) (R : DS) (sv : SV) (v : V) (Hd H : Hp) : Prop :=
  Same Hd H ∧ Same F.Hf H ∧ ((∀ a, F.Fz a → Hd a = none) ∧ LamX.Tabs (tabsOf K) H ∧ NoT Hd) ∧ (∀ i, i ∈ P → ∃ m o, R[i]? = some (SV.own m) ∧ H (F.al i) = some o ∧ CRp K Hd m o ∧ Hd (F.al i) = none) ∧
    (match sv with
      | .d x => Dq K Hd v x
      | .own m => ∃ a o, v = .ref a ∧ H a = some o ∧ CRp K Hd m o ∧ Hd a = none ∧ F.Hf a = none ∧ ∀ i, i ∈ P → F.al i ≠ a
      | _ => False)
def upR (K : PySem.W.Frag) (F : Fr) (P : List Nat) (Hd : Hp) (q : SV → DS → Prop) : VK := fun v H' => ∃ Hd' R' sv, Same Hd Hd' ∧ Fin K F P R' sv v Hd' H' ∧ q sv R'
def upD (K : PySem.W.Frag) (F : Fr) (P : List Nat) (Hd : Hp) (D : DEnds) : Ends := { nx := up K F P Hd D.nx, rt := upR K F P Hd D.rt, bk := up K F P Hd D.bk, ct := up K F P Hd D.ct }
structure WS (X : Cx) (P : List Nat) (st : Stmt) (R : DS) (D : DEnds) : Prop where
  run : ∀ F σ Hd H, Wd X.K F P R σ Hd H → TSm X st (upD X.K F P Hd D) σ H
structure WSs (X : Cx) (P : List Nat) (st : List Stmt) (R : DS) (D : DEnds) : Prop where
  run : ∀ F σ Hd H, Wd X.K F P R σ Hd H → TSsm X st (upD X.K F P Hd D) σ H

theorem up_same {K : PySem.W.Frag} {F : Fr} {P : List Nat} {Hd Hd' : Hp} {q : DS → Prop} (e : Same Hd Hd') {σ : L2.St} {H : Hp} (h : up K F P Hd' q σ H) : up K F P Hd q σ H := by
  obtain ⟨Hd2, R, e2, w, h⟩ := h
  exact ⟨Hd2, R, e.trans e2, w, h⟩
theorem upD_le {K : PySem.W.Frag} {F : Fr} {P : List Nat} {Hd Hd' : Hp} {D : DEnds} (e : Same Hd Hd') : Le (upD K F P Hd' D) (upD K F P Hd D) :=
  ⟨fun _ _ h => up_same e h, fun _ _ ⟨Hd2, R, sv, e2, w, h⟩ => ⟨Hd2, R, sv, e.trans e2, w, h⟩, fun _ _ h => up_same e h, fun _ _ h => up_same e h⟩

section
variable {X : Cx} {P : List Nat} {R : DS}
theorem WE.of {e : Expr} {Q : SV → DS → Prop} {t : TE} (p : PE X e t) (h : ∀ F σ Hd H, Wd X.K F P R σ Hd H → t σ H (Post X.K F P σ Hd Q)) : WE X P e R Q := ⟨fun F σ Hd H w => TEm.of p (h F σ Hd H w)⟩
theorem WE.use {e : Expr} {Q : SV → DS → Prop} (h : WE X P e R Q) {F : Fr} {σ : L2.St} {Hd H : Hp} (w : Wd X.K F P R σ Hd H) {Z : VK}
    (k : ∀ Hd' R' sv v H', Same Hd Hd' → Wd X.K F P R' σ Hd' H' → Rp X.K F R' σ Hd' H' sv v → Q sv R' → Z v H') : TEm X e σ H Z :=
  (h.run F σ Hd H w).mono fun v H' ⟨Hd', R', sv, e1, w1, r1, q1⟩ => k Hd' R' sv v H' e1 w1 r1 q1
theorem WE.mono {e : Expr} {Q Q' : SV → DS → Prop} (h : WE X P e R Q) (k : ∀ sv R', Q sv R' → Q' sv R') : WE X P e R Q' :=
  ⟨fun F σ Hd H w => h.use w fun Hd' R' sv v H' e1 w1 r1 q1 => ⟨Hd', R', sv, e1, w1, r1, k _ _ q1⟩⟩
theorem WT.of {e : Expr} {Q : Bool → DS → Prop} {t : TT} (p : PT X e t) (h : ∀ F σ Hd H, Wd X.K F P R σ Hd H → t σ H (PostT X.K F P σ Hd Q)) : WT X P e R Q := ⟨fun F σ Hd H w => TTm.of p (h F σ Hd H w)⟩
theorem WT.use {e : Expr} {Q : Bool → DS → Prop} (h : WT X P e R Q) {F : Fr} {σ : L2.St} {Hd H : Hp} (w : Wd X.K F P R σ Hd H) {Z : Bool → Hp → Prop}
    (k : ∀ Hd' R' b H', Same Hd Hd' → Wd X.K F P R' σ Hd' H' → Q b R' → Z b H') : TTm X e σ H Z :=
  (h.run F σ Hd H w).mono fun v H' ⟨Hd', R', e1, w1, q1⟩ => k Hd' R' v H' e1 w1 q1
theorem WT.mono {e : Expr} {Q Q' : Bool → DS → Prop} (h : WT X P e R Q) (k : ∀ b R', Q b R' → Q' b R') : WT X P e R Q' :=
  ⟨fun F σ Hd H w => h.use w fun Hd' R' b H' e1 w1 q1 => ⟨Hd', R', e1, w1, k _ _ q1⟩⟩
theorem WW.of {e : Expr} {Q : Bool → DS → Prop} {t : TT} (p : PW X e t) (h : ∀ F σ Hd H, Wd X.K F P R σ Hd H → t σ H (PostT X.K F P σ Hd Q)) : WW X P e R Q := ⟨fun F σ Hd H w => TWm.of p (h F σ Hd H w)⟩
theorem WW.use {e : Expr} {Q : Bool → DS → Prop} (h : WW X P e R Q) {F : Fr} {σ : L2.St} {Hd H : Hp} (w : Wd X.K F P R σ Hd H) {Z : Bool → Hp → Prop}
    (k : ∀ Hd' R' b H', Same Hd Hd' → Wd X.K F P R' σ Hd' H' → Q b R' → Z b H') : TWm X e σ H Z :=
  (h.run F σ Hd H w).mono fun v H' ⟨Hd', R', e1, w1, q1⟩ => k Hd' R' v H' e1 w1 q1
theorem WA.of {es : List Expr} {Q : List SV → DS → Prop} {t : TA} (p : PA X es t) (h : ∀ F σ Hd H, Wd X.K F P R σ Hd H → t σ H (PostA X.K F P σ Hd Q)) : WA X P es R Q := ⟨fun F σ Hd H w => TAm.of p (h F σ Hd H w)⟩
theorem WS.of {st : Stmt} {D : DEnds} {t : TS} (p : PS X st t) (h : ∀ F σ Hd H, Wd X.K F P R σ Hd H → t (upD X.K F P Hd D) σ H) : WS X P st R D := ⟨fun F σ Hd H w => TSm.of p (h F σ Hd H w)⟩
theorem WSs.of {st : List Stmt} {D : DEnds} {t : TS} (p : PSs X st t) (h : ∀ F σ Hd H, Wd X.K F P R σ Hd H → t (upD X.K F P Hd D) σ H) : WSs X P st R D := ⟨fun F σ Hd H w => TSsm.of p (h F σ Hd H w)⟩
end
end Dl
namespace Dl
open PySem PySem.Spec PyProof.Rows L2
section
variable {K : PySem.W.Frag} {F : Fr} {P : List Nat} {R : DS} {σ : L2.St} {Hd H H' : Hp} {p a : Addr} {o : HO}
theorem sameNew (h : H p = none) : Same H (upd H p o) := fun b u e => by
  rw [upd_ne (ne_of_none e h)]
  exact e
theorem sameUp {H1 : Hp} (s : Same H H1) (h : H p = none) : Same H (upd H1 p o) := fun b u e => by
  rw [upd_ne (ne_of_none e h)]
  exact s b u e
theorem sameNone (s : Same H H') (h : H' a = none) : H a = none := by
  cases q : H a with
  | none => rfl
  | some u => rw [s a u q] at h; cases h
theorem noT_up (h : NoT H) (ho : PlainO o) : NoT (upd H p o) := fun b ps z => by
  by_cases hb : b = p
  · subst hb
    rw [upd_same] at z
    cases z
    exact ho
  · rw [upd_ne hb] at z
    exact h b ps z
theorem crp_plain {m : MC} (h : CRp K Hd m o) : PlainO o := by
  cases m with
  | lst ds => obtain ⟨vs, rfl, _⟩ := h; trivial
  | dK kvs => obtain ⟨vs, rfl, _⟩ := h; trivial
  | dT kvs => obtain ⟨vs, rfl, _⟩ := h; trivial
/-- neither a table nor what a table tells -/
def Bare (o : HO) : Prop := PlainO o ∧ ∀ c q, o ≠ LamX.CodeO c q
theorem crp_bare {m : MC} (h : CRp K Hd m o) : Bare o := by
  refine ⟨crp_plain h, fun c q z => ?_⟩
  unfold LamX.CodeO at z
  cases m with
  | lst ds => obtain ⟨vs, e, _⟩ := h; rw [e] at z; cases z
  | dK kvs => obtain ⟨vs, e, _⟩ := h; rw [e] at z; cases z
  | dT kvs => obtain ⟨vs, e, _⟩ := h; rw [e] at z; cases z
theorem tabs_new {T : List (Addr × Str)} (t : LamX.Tabs T H) (h : H p = none) : LamX.Tabs T (upd H p o) := t.ext fun b u e => by
  rw [upd_ne (ne_of_none e h)]
  exact e
theorem tabs_poke {T : List (Addr × Str)} {o0 : HO} (t : LamX.Tabs T H) (h : H a = some o0) (hb : Bare o0) : LamX.Tabs T (upd H a o) := fun x hx => by
  obtain ⟨ps, h1, h2, h3⟩ := t x hx
  refine ⟨ps, ?_, h2, fun pos cv hc => ?_⟩
  · rw [upd_ne (fun z => by
      rw [z, h] at h1
      cases h1
      exact hb.1)]
    exact h1
  · obtain ⟨c, e1, e2⟩ := h3 pos cv hc
    refine ⟨c, e1, ?_⟩
    rw [upd_ne (fun z => by
      rw [z, h] at e2
      exact hb.2 _ _ (Option.some.inj e2))]
    exact e2
theorem SVx {R : DS} {i : Nat} {x y : SV} (h : R[i]? = some x) (h2 : R[i]? = some y) : x = y := Option.some.inj (h.symm.trans h2)

/-- nothing of what is held changes: the heap grows by an object that is not known -/
theorem Wd.allocH (w : Wd K F P R σ Hd H) (h : H p = none) : Wd K F P R σ Hd (upd H p o) :=
  ⟨sameUp w.dat (sameNone w.dat h), sameUp w.frm (sameNone w.frm h), w.len, w.val, fun i m e => by
    obtain ⟨a, u, e1, e2, e3, e4, e5⟩ := w.own i m e
    exact ⟨a, u, e1, by rw [upd_ne (ne_of_none e2 h)]; exact e2, e3, e4, e5⟩, w.apart, w.pin, w.prot, w.exs, tabs_new w.tabs.1 h, w.tabs.2⟩
theorem Wd.allocD (w : Wd K F P R σ Hd H) (h : H p = none) (ho : PlainO o := by trivial) : Wd K F P R σ (upd Hd p o) (upd H p o) ∧ Same Hd (upd Hd p o) := by
  have hd : Hd p = none := sameNone w.dat h
  refine ⟨⟨fun b u e => ?_, sameUp w.frm (sameNone w.frm h), w.len, fun i x e => ?_, fun i m e => ?_, w.apart, w.pin, fun b hb => ⟨by
    have h1 := w.prot b hb
    have ne : b ≠ p := fun z => by
      subst z
      cases q : F.Hf b with
      | none => exact h1.2 q
      | some u => rw [w.frm b u q] at h; cases h
    rw [upd_ne ne]; exact h1.1, (w.prot b hb).2⟩, fun i a d fs e => ⟨(w.exs i a d fs e).1, (w.exs i a d fs e).2.mono (sameNew hd)⟩, tabs_new w.tabs.1 h, noT_up w.tabs.2.1 ho, w.tabs.2.2⟩, sameNew hd⟩
  · by_cases hb : b = p
    · subst hb
      rw [upd_same] at e ⊢
      exact e
    · rw [upd_ne hb] at e ⊢
      exact w.dat b u e
  · obtain ⟨v, e1, e2⟩ := w.val i x e
    exact ⟨v, e1, dpMono (sameNew hd) e2⟩
  · obtain ⟨a, u, e1, e2, e3, e4, e5⟩ := w.own i m e
    have ne : a ≠ p := ne_of_none e2 h
    exact ⟨a, u, e1, by rw [upd_ne ne]; exact e2, e3.mono (sameNew hd), by rw [upd_ne ne]; exact e4, e5⟩
/-- a thing that no name holds becomes data -/
theorem Wd.freeze (w : Wd K F P R σ Hd H) (ha : H a = some o) (hd : Hd a = none) (hf : F.Hf a = none) (hn : ∀ (i : Nat) (n : MC), R[i]? = some (SV.own n) → σ[i]? ≠ some (some (V.ref a))) (ho : PlainO o := by trivial) :
    Wd K F P R σ (upd Hd a o) H ∧ Same Hd (upd Hd a o) := by
  refine ⟨⟨fun b u e => ?_, w.frm, w.len, fun i x e => ?_, fun i m e => ?_, w.apart, w.pin, fun b hb => ⟨by
    have h1 := w.prot b hb
    have ne : b ≠ a := fun z => by
      subst z
      exact h1.2 hf
    rw [upd_ne ne]; exact h1.1, (w.prot b hb).2⟩, fun i a d fs e => ⟨(w.exs i a d fs e).1, (w.exs i a d fs e).2.mono (sameNew hd)⟩, w.tabs.1, noT_up w.tabs.2.1 ho, w.tabs.2.2⟩, sameNew hd⟩
  · by_cases hb : b = a
    · subst hb
      rw [upd_same] at e
      cases e
      exact ha
    · rw [upd_ne hb] at e
      exact w.dat b u e
  · obtain ⟨v, e1, e2⟩ := w.val i x e
    exact ⟨v, e1, dpMono (sameNew hd) e2⟩
  · obtain ⟨b, u, e1, e2, e3, e4, e5⟩ := w.own i m e
    have ne : b ≠ a := fun z => by
      subst z
      exact hn i m e e1
    exact ⟨b, u, e1, e2, e3.mono (sameNew hd), by rw [upd_ne ne]; exact e4, e5⟩
/-- the caught ones stay where another name is set -/
theorem Wd.exsSet (w : Wd K F P R σ Hd H) {i : Nat} {y : SV} {ov : Option V} (hy : ∀ a d fs, y ≠ .ex a d fs) (j : Nat) (a : Addr) (d : Option Addr) (fs : List (Str × D)) (e : (R.set i y)[j]? = some (SV.ex a d fs)) : (i ≠ j ∧ R[j]? = some (SV.ex a d fs)) ∧ (σ.set i ov)[j]? = some (some (V.ref a)) ∧ ExR K Hd d fs := by
  have ne : i ≠ j := fun z => by
    subst z
    have hl : i < R.length := by
      have := (List.getElem?_eq_some_iff.mp e).1
      rwa [List.length_set] at this
    rw [List.getElem?_set_self hl] at e
    exact hy a d fs (Option.some.inj e)
  rw [List.getElem?_set_ne ne] at e
  rw [List.getElem?_set_ne ne]
  exact ⟨⟨ne, e⟩, w.exs j a d fs e⟩
theorem Wd.setD (w : Wd K F P R σ Hd H) {i : Nat} {x : D} {v : V} (hP : i ∉ P) (h : Dq K Hd v x) : Wd K F P (R.set i (.d x)) (σ.set i (some v)) Hd H := by
  refine ⟨w.dat, w.frm, by rw [List.length_set, List.length_set]; exact w.len, fun j y e => ?_, fun j m e => ?_, fun j k m n a e1 e2 e3 e4 => ?_, fun j hj => ?_, w.prot, fun j a d fs e => (w.exsSet (by intro _ _ _ z; cases z) j a d fs e).2, w.tabs⟩
  · by_cases hi : i = j
    · subst hi
      have hl : i < R.length := by
        have := (List.getElem?_eq_some_iff.mp e).1
        rwa [List.length_set] at this
      rw [List.getElem?_set_self hl] at e
      cases e
      exact ⟨v, List.getElem?_set_self (by rw [← w.len]; exact hl), h⟩
    · rw [List.getElem?_set_ne hi] at e ⊢
      exact w.val j y e
  · by_cases hi : i = j
    · subst hi
      have hl : i < R.length := by
        have := (List.getElem?_eq_some_iff.mp e).1
        rwa [List.length_set] at this
      rw [List.getElem?_set_self hl] at e
      cases e
    · rw [List.getElem?_set_ne hi] at e ⊢
      exact w.own j m e
  · have n1 : i ≠ j := fun z => by
      subst z
      have hl : i < R.length := by
        have := (List.getElem?_eq_some_iff.mp e1).1
        rwa [List.length_set] at this
      rw [List.getElem?_set_self hl] at e1
      cases e1
    have n2 : i ≠ k := fun z => by
      subst z
      have hl : i < R.length := by
        have := (List.getElem?_eq_some_iff.mp e2).1
        rwa [List.length_set] at this
      rw [List.getElem?_set_self hl] at e2
      cases e2
    rw [List.getElem?_set_ne n1] at e1 e3
    rw [List.getElem?_set_ne n2] at e2 e4
    exact w.apart j k m n a e1 e2 e3 e4
  · have ne : i ≠ j := fun z => hP (z ▸ hj)
    rw [List.getElem?_set_ne ne, List.getElem?_set_ne ne]
    exact w.pin j hj
/-- forget a name's thing, or a value -/
theorem Wd.setNo (w : Wd K F P R σ Hd H) {i : Nat} {ov : Option V} (hP : i ∉ P) : Wd K F P (R.set i .no) (σ.set i ov) Hd H := by
  have no : ∀ {j : Nat} {y : SV}, (R.set i SV.no)[j]? = some y → y ≠ .no → i ≠ j ∧ R[j]? = some y := fun {j y} e n => by
    have ne : i ≠ j := fun z => by
      subst z
      have hl : i < R.length := by
        have := (List.getElem?_eq_some_iff.mp e).1
        rwa [List.length_set] at this
      rw [List.getElem?_set_self hl] at e
      exact n (Option.some.inj e).symm
    rw [List.getElem?_set_ne ne] at e
    exact ⟨ne, e⟩
  refine ⟨w.dat, w.frm, by rw [List.length_set, List.length_set]; exact w.len, fun j y e => ?_, fun j m e => ?_, fun j k m n a e1 e2 e3 e4 => ?_, fun j hj => ?_, w.prot, fun j a d fs e => (w.exsSet (by intro _ _ _ z; cases z) j a d fs e).2, w.tabs⟩
  · obtain ⟨ne, e'⟩ := no e (by intro z; cases z)
    rw [List.getElem?_set_ne ne]
    exact w.val j y e'
  · obtain ⟨ne, e'⟩ := no e (by intro z; cases z)
    rw [List.getElem?_set_ne ne]
    exact w.own j m e'
  · obtain ⟨n1, e1'⟩ := no e1 (by intro z; cases z)
    obtain ⟨n2, e2'⟩ := no e2 (by intro z; cases z)
    rw [List.getElem?_set_ne n1] at e3
    rw [List.getElem?_set_ne n2] at e4
    exact w.apart j k m n a e1' e2' e3 e4
  · have ne : i ≠ j := fun z => hP (z ▸ hj)
    rw [List.getElem?_set_ne ne, List.getElem?_set_ne ne]
    exact w.pin j hj
/-- a name gets a new thing -/
theorem Wd.setOwn (w : Wd K F P R σ Hd H) {i : Nat} {m : MC} (hP : i ∉ P) (ha : H a = some o) (hc : CRp K Hd m o) (hd : Hd a = none) (hf : F.Hf a = none)
    (hn : ∀ (i : Nat) (n : MC), R[i]? = some (SV.own n) → σ[i]? ≠ some (some (V.ref a))) : Wd K F P (R.set i (.own m)) (σ.set i (some (.ref a))) Hd H := by
  have at_ : ∀ {j : Nat} {y : SV}, (R.set i (SV.own m))[j]? = some y → (i = j ∧ y = .own m ∧ i < R.length) ∨ (i ≠ j ∧ R[j]? = some y) := fun {j y} e => by
    by_cases z : i = j
    · subst z
      have hl : i < R.length := by
        have := (List.getElem?_eq_some_iff.mp e).1
        rwa [List.length_set] at this
      rw [List.getElem?_set_self hl] at e
      exact .inl ⟨rfl, (Option.some.inj e).symm, hl⟩
    · rw [List.getElem?_set_ne z] at e
      exact .inr ⟨z, e⟩
  refine ⟨w.dat, w.frm, by rw [List.length_set, List.length_set]; exact w.len, fun j y e => ?_, fun j n e => ?_, fun j k n n' b e1 e2 e3 e4 => ?_, fun j hj => ?_, w.prot, fun j a d fs e => (w.exsSet (by intro _ _ _ z; cases z) j a d fs e).2, w.tabs⟩
  · rcases at_ e with ⟨_, z, _⟩ | ⟨ne, e'⟩
    · cases z
    · rw [List.getElem?_set_ne ne]
      exact w.val j y e'
  · rcases at_ e with ⟨z1, z, hl⟩ | ⟨ne, e'⟩
    · subst z1
      cases z
      exact ⟨a, o, List.getElem?_set_self (by rw [← w.len]; exact hl), ha, hc, hd, hf⟩
    · rw [List.getElem?_set_ne ne]
      exact w.own j n e'
  · rcases at_ e1 with ⟨z1, _, hl⟩ | ⟨ne, e1'⟩
    · rcases at_ e2 with ⟨z2, _, _⟩ | ⟨ne2, e2'⟩
      · exact z1.symm.trans z2
      · subst z1
        rw [List.getElem?_set_self (by rw [← w.len]; exact hl)] at e3
        cases e3
        rw [List.getElem?_set_ne ne2] at e4
        exact absurd e4 (hn k n' e2')
    · rcases at_ e2 with ⟨z2, _, hl⟩ | ⟨ne2, e2'⟩
      · subst z2
        rw [List.getElem?_set_self (by rw [← w.len]; exact hl)] at e4
        cases e4
        rw [List.getElem?_set_ne ne] at e3
        exact absurd e3 (hn j n e1')
      · rw [List.getElem?_set_ne ne] at e3
        rw [List.getElem?_set_ne ne2] at e4
        exact w.apart j k n n' b e1' e2' e3 e4
  · have ne : i ≠ j := fun z => hP (z ▸ hj)
    rw [List.getElem?_set_ne ne, List.getElem?_set_ne ne]
    exact w.pin j hj
/-- a name's thing changes -/
theorem Wd.change (w : Wd K F P R σ Hd H) {i : Nat} {m m' : MC} {o' : HO} (hi : R[i]? = some (.own m)) (hs : σ[i]? = some (some (.ref a))) (hc : CRp K Hd m' o') :
    Wd K F P (R.set i (.own m')) σ Hd (upd H a o') := by
  obtain ⟨b, ob, s1, hb, hcb, hdb, hfb⟩ := w.own i m hi
  rw [hs] at s1
  cases s1
  have hl : i < R.length := (List.getElem?_eq_some_iff.mp hi).1
  have at_ : ∀ {j : Nat} {y : SV}, (R.set i (SV.own m'))[j]? = some y → (i = j ∧ y = .own m') ∨ (i ≠ j ∧ R[j]? = some y) := fun {j y} e => by
    by_cases z : i = j
    · subst z
      rw [List.getElem?_set_self hl] at e
      exact .inl ⟨rfl, (Option.some.inj e).symm⟩
    · rw [List.getElem?_set_ne z] at e
      exact .inr ⟨z, e⟩
  refine ⟨fun b u e => ?_, fun b u e => ?_, by rw [List.length_set]; exact w.len, fun j y e => ?_, fun j n e => ?_, fun j k n n' b e1 e2 e3 e4 => ?_, fun j hj => ?_, w.prot, fun j a d fs e => w.exs j a d fs (w.exsSet (ov := none) (by intro _ _ _ z; cases z) j a d fs e).1.2, tabs_poke w.tabs.1 hb (crp_bare hcb), w.tabs.2⟩
  · rw [upd_ne (ne_of_none e hdb)]
    exact w.dat b u e
  · rw [upd_ne (ne_of_none e hfb)]
    exact w.frm b u e
  · rcases at_ e with ⟨_, z⟩ | ⟨ne, e'⟩
    · cases z
    · exact w.val j y e'
  · rcases at_ e with ⟨z1, z⟩ | ⟨ne, e'⟩
    · subst z1
      cases z
      exact ⟨a, o', hs, upd_same, hc, hdb, hfb⟩
    · obtain ⟨c, u, e1, e2, e3, e4, e5⟩ := w.own j n e'
      have nc : c ≠ a := fun z => by
        subst z
        exact ne (w.apart i j m n c hi e' hs e1)
      exact ⟨c, u, e1, by rw [upd_ne nc]; exact e2, e3, e4, e5⟩
  · have o1 : ∃ n, R[j]? = some (.own n) := by
      rcases at_ e1 with ⟨z, _⟩ | ⟨_, e⟩
      · exact ⟨m, z ▸ hi⟩
      · exact ⟨n, e⟩
    have o2 : ∃ n, R[k]? = some (.own n) := by
      rcases at_ e2 with ⟨z, _⟩ | ⟨_, e⟩
      · exact ⟨m, z ▸ hi⟩
      · exact ⟨n', e⟩
    obtain ⟨n1, o1⟩ := o1
    obtain ⟨n2, o2⟩ := o2
    exact w.apart j k n1 n2 b o1 o2 e3 e4
  · obtain ⟨n, e1, e2⟩ := w.pin j hj
    by_cases z : i = j
    · subst z
      exact ⟨m', List.getElem?_set_self hl, e2⟩
    · exact ⟨n, by rw [List.getElem?_set_ne z]; exact e1, e2⟩
/-- a name's thing becomes data -/
theorem Wd.fz (w : Wd K F P R σ Hd H) {i : Nat} {ds : List D} (hi : R[i]? = some (.own (.lst ds))) (hP : i ∉ P) :
    ∃ Hd' v, σ[i]? = some (some v) ∧ Same Hd Hd' ∧ Wd K F P (R.set i (.d (.list ds))) σ Hd' H ∧ Dq K Hd' v (.list ds) := by
  obtain ⟨a, o, s1, ha, hc, hd, hf⟩ := w.own i _ hi
  obtain ⟨vs, rfl, hv⟩ := hc
  have w1 : Wd K F P (R.set i .no) (σ.set i (some (.ref a))) Hd H := w.setNo hP
  have es : σ.set i (some (V.ref a)) = σ := by
    obtain ⟨hl, e⟩ := List.getElem?_eq_some_iff.mp s1
    rw [← e]
    exact List.set_getElem_self hl
  rw [es] at w1
  have hl : i < R.length := (List.getElem?_eq_some_iff.mp hi).1
  obtain ⟨w2, s2⟩ := w1.freeze (o := .lst vs) ha hd hf fun j n e z => by
    have ne : i ≠ j := fun y => by
      subst y
      rw [List.getElem?_set_self hl] at e
      cases e
    rw [List.getElem?_set_ne ne] at e
    exact ne (w.apart i j _ n a hi e s1 z)
  have dp : Dq K (upd Hd a (.lst vs)) (.ref a) (.list ds) := .lst (SqL.of upd_same) (dpAllMono s2 hv)
  have w3 := w2.setD (i := i) (x := .list ds) (v := .ref a) hP dp
  rw [es, List.set_set] at w3
  exact ⟨_, _, s1, s2, w3, dp⟩

/-! what is read of a value -/
def vL (R : DS) : SV → Option (List D)
  | .d (.list ds) => some ds
  | .loc i => match R[i]? with
    | some (.own (.lst ds)) => some ds
    | _ => none
  | .own (.lst ds) => some ds
  | _ => none
def vT : SV → Option (List D)
  | .d (.tuple ds) => some ds
  | _ => none
def vD (R : DS) : SV → Option D
  | .d x => some x
  | .loc i => match R[i]? with
    | some (.own (.lst ds)) => some (.list ds)
    | _ => none
  | .own (.lst ds) => some (.list ds)
  | _ => none
theorem Rp.list {sv : SV} {v : V} {ds : List D} (w : Wd K F P R σ Hd H) (r : Rp K F R σ Hd H sv v) (h : vL R sv = some ds) : ∃ a vs, v = .ref a ∧ SqL K H a vs ∧ DqAll K Hd vs ds := by
  unfold vL at h
  split at h
  · cases h
    have r' : Dq K Hd v (.list ds) := r
    cases r' with
    | lst h1 h2 => exact ⟨_, _, rfl, w.dat.seq h1, h2⟩
  · rename_i i
    obtain ⟨rv, m, rm⟩ := r
    split at h
    · rename_i e
      cases h
      obtain ⟨a, o, s1, ha, ⟨vs, ho, hv⟩, _⟩ := w.own i _ e
      subst ho
      rw [rv] at s1
      cases s1
      exact ⟨a, vs, rfl, SqL.of ha, hv⟩
    · cases h
  · cases h
    obtain ⟨a, o, rfl, ha, ⟨vs, ho, hv⟩, _⟩ := r
    subst ho
    exact ⟨a, vs, rfl, SqL.of ha, hv⟩
  · cases h
theorem Rp.tup {sv : SV} {v : V} {ds : List D} (w : Wd K F P R σ Hd H) (r : Rp K F R σ Hd H sv v) (h : vT sv = some ds) : ∃ a vs, v = .ref a ∧ SqT K Hd a vs ∧ SqT K H a vs ∧ DqAll K Hd vs ds := by
  unfold vT at h
  split at h
  · cases h
    have r' : Dq K Hd v (.tuple ds) := r
    cases r' with
    | tup h1 h2 => exact ⟨_, _, rfl, SqT.of h1, sameT w.dat (SqT.of h1), h2⟩
  · cases h
theorem Rp.dat {sv : SV} {v : V} {x : D} (w : Wd K F P R σ Hd H) (r : Rp K F R σ Hd H sv v) (h : vD R sv = some x) : Dq K H v x := by
  unfold vD at h
  split at h
  · cases h
    have r' : Dq K Hd v x := r
    exact dpMono w.dat r'
  · rename_i i
    split at h
    · rename_i e
      cases h
      obtain ⟨a, vs, rfl, h1, h2⟩ := Rp.list (sv := .loc i) w r (show vL R (.loc i) = some _ by unfold vL; simp only [e]; rfl)
      exact .lst h1 (dpAllMono w.dat h2)
    · cases h
  · rename_i ds
    cases h
    obtain ⟨a, vs, rfl, h1, h2⟩ := Rp.list (sv := .own (.lst ds)) w r rfl
    exact .lst h1 (dpAllMono w.dat h2)
  · cases h
end

/-- what stands still while something else is looked at -/
def stb : SV → (SV → Prop) → Prop
  | .d x, k => k (.d x)
  | .loc i, k => k (.loc i)
  | .own (.lst ds), k => k (.d (.list ds))
  | _, _ => False
def asD : SV → (D → Prop) → Prop
  | .d x, k => k x
  | .own (.lst ds), k => k (.list ds)
  | _, _ => False
def asI : SV → (Int → Prop) → Prop
  | .d (.int i), k => k i
  | _, _ => False
def asB : SV → (Bool → Prop) → Prop
  | .d (.bool i), k => k i
  | _, _ => False
def asS : SV → (Str → Prop) → Prop
  | .d (.str i), k => k i
  | _, _ => False
section
variable {X : Cx} {P : List Nat} {R : DS}
theorem asI.elim {sv : SV} {k : Int → Prop} (h : asI sv k) : ∃ i, sv = .d (.int i) ∧ k i := by
  unfold asI at h
  split at h
  · exact ⟨_, rfl, h⟩
  · cases h
theorem asB.elim {sv : SV} {k : Bool → Prop} (h : asB sv k) : ∃ i, sv = .d (.bool i) ∧ k i := by
  unfold asB at h
  split at h
  · exact ⟨_, rfl, h⟩
  · cases h
theorem asS.elim {sv : SV} {k : Str → Prop} (h : asS sv k) : ∃ i, sv = .d (.str i) ∧ k i := by
  unfold asS at h
  split at h
  · exact ⟨_, rfl, h⟩
  · cases h
/-- freezing a value at hand -/
theorem WE.fzD {e : Expr} {Q : D → DS → Prop} (h : WE X P e R fun sv R' => asD sv fun x => Q x R') : WE X P e R fun sv R' => ∃ x, sv = .d x ∧ Q x R' :=
  ⟨fun F σ Hd H w => h.use w fun Hd' R' sv v H' e1 w1 r1 q1 => by
    unfold asD at q1
    split at q1
    · exact ⟨Hd', R', _, e1, w1, r1, _, rfl, q1⟩
    · obtain ⟨a, o, rfl, ha, ⟨vs, ho, hv⟩, hd, hf, hn⟩ := r1
      subst ho
      obtain ⟨w2, s2⟩ := w1.freeze ha hd hf hn
      rename_i ds
      exact ⟨_, R', .d (.list ds), e1.trans s2, w2, (Dq.lst (SqL.of upd_same) (dpAllMono s2 hv) : Dq _ _ _ _), _, rfl, q1⟩
    · cases q1⟩
theorem WE.stb {e : Expr} {Q : SV → DS → Prop} (h : WE X P e R fun sv R' => stb sv fun x => Q x R') : WE X P e R fun sv R' => (∀ m, sv ≠ .own m) ∧ Q sv R' :=
  ⟨fun F σ Hd H w => h.use w fun Hd' R' sv v H' e1 w1 r1 q1 => by
    unfold Dl.stb at q1
    split at q1
    · exact ⟨Hd', R', _, e1, w1, r1, (by intro m z; cases z), q1⟩
    · exact ⟨Hd', R', _, e1, w1, r1, (by intro m z; cases z), q1⟩
    · obtain ⟨a, o, rfl, ha, ⟨vs, ho, hv⟩, hd, hf, hn⟩ := r1
      subst ho
      obtain ⟨w2, s2⟩ := w1.freeze ha hd hf hn
      rename_i ds
      exact ⟨_, R', .d (.list ds), e1.trans s2, w2, (Dq.lst (SqL.of upd_same) (dpAllMono s2 hv) : Dq _ _ _ _), (by intro m z; cases z), q1⟩
    · cases q1⟩
theorem WE.stbX {e : Expr} {Q : SV → DS → Prop} (h : WE X P e R fun sv R' => Dl.stb sv fun x => Q x R') : WE X P e R fun sv R' => ((∀ m, sv ≠ .own m) ∧ ∀ a d fs, sv ≠ .ex a d fs) ∧ Q sv R' :=
  ⟨fun F σ Hd H w => h.use w fun Hd' R' sv v H' e1 w1 r1 q1 => by
    unfold Dl.stb at q1
    split at q1
    · exact ⟨Hd', R', _, e1, w1, r1, ⟨(by intro m z; cases z), by intro _ _ _ z; cases z⟩, q1⟩
    · exact ⟨Hd', R', _, e1, w1, r1, ⟨(by intro m z; cases z), by intro _ _ _ z; cases z⟩, q1⟩
    · obtain ⟨a, o, rfl, ha, ⟨vs, ho, hv⟩, hd, hf, hn⟩ := r1
      subst ho
      obtain ⟨w2, s2⟩ := w1.freeze ha hd hf hn
      rename_i ds
      exact ⟨_, R', .d (.list ds), e1.trans s2, w2, (Dq.lst (SqL.of upd_same) (dpAllMono s2 hv) : Dq _ _ _ _), ⟨(by intro m z; cases z), by intro _ _ _ z; cases z⟩, q1⟩
    · cases q1⟩
/-- what stands still, moved on -/
theorem Rp.on {K : PySem.W.Frag} {F : Fr} {R R' : DS} {σ : L2.St} {Hd Hd' H H' : Hp} {sv : SV} {v : V} {y : D} (hs : ∀ m, sv ≠ .own m) (r : Rp K F R σ Hd H sv v) (e : Same Hd Hd') (h : vD R' sv = some y) : Rp K F R' σ Hd' H' sv v := by
  cases sv with
  | no => cases r
  | d x => exact (dpMono e r : Dq _ _ _ _)
  | own m => exact absurd rfl (hs m)
  | ex a d fs => exact ⟨r.1, r.2.mono e⟩
  | loc i =>
    refine ⟨r.1, ?_⟩
    unfold vD at h
    simp only at h
    split at h
    · rename_i e; exact ⟨_, e⟩
    · cases h
end
end Dl
namespace Dl
open PySem PySem.Spec PyProof.Rows L2
section
variable {X : Cx} {P : List Nat} {R : DS} {a b c e : Expr} {pos : Pos} {Q : SV → DS → Prop}
theorem Post.here {K : PySem.W.Frag} {F : Fr} {σ : L2.St} {Hd H : Hp} {sv : SV} {v : V} (w : Wd K F P R σ Hd H) (r : Rp K F R σ Hd H sv v) (q : Q sv R) : Post K F P σ Hd Q v H := ⟨Hd, R, sv, Same.refl Hd, w, r, q⟩
theorem Post.same {K : PySem.W.Frag} {F : Fr} {σ : L2.St} {Hd Hd' H : Hp} {v : V} (e : Same Hd Hd') (h : Post K F P σ Hd' Q v H) : Post K F P σ Hd Q v H := by
  obtain ⟨Hd2, R2, sv, e2, w, r, q⟩ := h
  exact ⟨Hd2, R2, sv, e.trans e2, w, r, q⟩
theorem PostT.same {K : PySem.W.Frag} {F : Fr} {σ : L2.St} {Hd Hd' H : Hp} {v : Bool} {Q : Bool → DS → Prop} (e : Same Hd Hd') (h : PostT K F P σ Hd' Q v H) : PostT K F P σ Hd Q v H := by
  obtain ⟨Hd2, R2, e2, w, q⟩ := h
  exact ⟨Hd2, R2, e.trans e2, w, q⟩
theorem PostA.same {K : PySem.W.Frag} {F : Fr} {σ : L2.St} {Hd Hd' H : Hp} {v : List V} {Q : List SV → DS → Prop} (e : Same Hd Hd') (h : PostA K F P σ Hd' Q v H) : PostA K F P σ Hd Q v H := by
  obtain ⟨Hd2, R2, svs, e2, w, q⟩ := h
  exact ⟨Hd2, R2, svs, e.trans e2, w, q⟩

/-! names, constants -/
theorem we_d {x : Str} {i : Nat} {dx : D} (hN : X.N[i]? = some x) (hv : Vis X.env.scope x) (hR : R[i]? = some (.d dx)) (q : Q (.d dx) R)
    (hd : (x == ("__debug__" : Str)) = false := by decide) (hcd : (x == ("__classdict__" : Str)) = false := by decide) : WE X P (.Name x pos) R Q :=
  .of (pe_var hN hv hd hcd) fun F σ Hd H w => by
    obtain ⟨v, e1, e2⟩ := w.val i dx hR
    exact ⟨v, e1, .here w (show Rp _ _ _ _ _ _ (.d dx) v from e2) q⟩
theorem we_o {x : Str} {i : Nat} {m : MC} (hN : X.N[i]? = some x) (hv : Vis X.env.scope x) (hR : R[i]? = some (.own m)) (q : Q (.loc i) R)
    (hd : (x == ("__debug__" : Str)) = false := by decide) (hcd : (x == ("__classdict__" : Str)) = false := by decide) : WE X P (.Name x pos) R Q :=
  .of (pe_var hN hv hd hcd) fun F σ Hd H w => by
    obtain ⟨a, o, e1, _⟩ := w.own i m hR
    exact ⟨_, e1, .here w (show Rp _ _ _ _ _ _ (.loc i) _ from ⟨e1, m, hR⟩) q⟩
theorem we_int {i : Int} {j : _} (q : Q (.d (.int i)) R) : WE X P (.Constant (.int i) j pos) R Q := .of pe_int fun F σ Hd H w => .here w (show Rp _ _ _ _ _ _ (.d (.int i)) _ from .int i) q
theorem we_bl {i : Bool} {j : _} (q : Q (.d (.bool i)) R) : WE X P (.Constant (.bool i) j pos) R Q := .of pe_bl fun F σ Hd H w => .here w (show Rp _ _ _ _ _ _ (.d (.bool i)) _ from .bl i) q
theorem we_non {j : _} (q : Q (.d .none) R) : WE X P (.Constant .none j pos) R Q := .of pe_non fun F σ Hd H w => .here w (show Rp _ _ _ _ _ _ (.d .none) _ from .non) q
theorem we_str {i : Str} {j : _} (q : Q (.d (.str i)) R) : WE X P (.Constant (.str i) j pos) R Q := .of pe_str fun F σ Hd H w => .here w (show Rp _ _ _ _ _ _ (.d (.str i)) _ from .str i) q
theorem we_globI {x : Str} {i : Int} {t : Tok} (hm : X.mg x = some (.int i t)) (hg : Gl X x) (q : Q (.d (.int i)) R) (hd : (x == ("__debug__" : Str)) = false := by decide) : WE X P (.Name x pos) R Q :=
  .of (pe_glob (v := .int i) hg hm ⟨t, rfl⟩ hd) fun F σ Hd H w => .here w (show Rp _ _ _ _ _ _ (.d (.int i)) _ from .int i) q

/-! two ints -/
def Fits (X : Cx) (P : List Nat) (R : DS) (t : TE) (Q : SV → DS → Prop) : Prop := ∀ F σ Hd H, Wd X.K F P R σ Hd H → ∀ Z : VK, (∀ v H', Post X.K F P σ Hd Q v H' → Z v H') → t σ H Z
theorem WE.fit {t : TE} (pe : PE X e t) (f : Fits X P R t Q) : WE X P e R Q := .of pe fun F σ Hd H w => f F σ Hd H w _ fun _ _ h => h
theorem WT.fit {t : TE} {Q : Bool → DS → Prop} (pt : PT X e (fun σ H Q => t σ H fun x H' => ∃ k, x = .bl k ∧ Q k H')) (f : Fits X P R t fun x R1 => asB x fun c => Q c R1) : WT X P e R Q :=
  .of pt fun F σ Hd H w => f F σ Hd H w _ fun v H' h => by
    obtain ⟨Hd', R', sv, e1, w1, r1, q1⟩ := h
    obtain ⟨c, rfl, h1⟩ := q1.elim
    cases (show Dq _ _ v (.bool c) from r1)
    exact ⟨c, rfl, Hd', R', e1, w1, h1⟩
theorem twoI {r : R2} {C : Int → Int → Prop} {g : Int → Int → D} {gv : Int → Int → V} (hg : ∀ i j K H, Dq K H (gv i j) (g i j))
    (hr : ∀ i j H (Z : VK), C i j → Z (gv i j) H → r (.int i) (.int j) H Z)
    (h : WE X P a R fun x R1 => asI x fun i => WE X P b R1 fun y R2 => asI y fun j => C i j ∧ Q (.d (g i j)) R2) : Fits X P R (tOp r (TEm X a) (TEm X b)) Q :=
  fun F σ Hd H w Z hZ => h.use w fun Hd1 R1 x v H1 e1 w1 r1 q1 => by
    obtain ⟨i, rfl, q1⟩ := q1.elim
    cases (show Dq _ _ v (.int i) from r1)
    exact q1.use w1 fun Hd2 R2 y u H2 e2 w2 r2 q2 => by
      obtain ⟨j, rfl, c, q2⟩ := q2.elim
      cases (show Dq _ _ u (.int j) from r2)
      exact hr i j H2 _ c (hZ _ _ (.same (e1.trans e2) (.here w2 (show Rp _ _ _ _ _ _ (.d (g i j)) _ from hg i j _ _) q2)))
theorem we_add (h : WE X P a R fun x R1 => asI x fun i => WE X P b R1 fun y R2 => asI y fun j => True ∧ Q (.d (.int (i + j))) R2) : WE X P (.BinOp a .Add b pos) R Q :=
  .fit (pe_op op_add pe_m pe_m) (twoI (g := fun i j => .int (i + j)) (C := fun _ _ => True) (fun i j K H => .int _) (fun i j H Z _ q => ⟨i, j, rfl, rfl, q⟩) h)
theorem we_sub (h : WE X P a R fun x R1 => asI x fun i => WE X P b R1 fun y R2 => asI y fun j => True ∧ Q (.d (.int (i - j))) R2) : WE X P (.BinOp a .Sub b pos) R Q :=
  .fit (pe_op op_sub pe_m pe_m) (twoI (g := fun i j => .int (i - j)) (C := fun _ _ => True) (fun i j K H => .int _) (fun i j H Z _ q => ⟨i, j, rfl, rfl, q⟩) h)
theorem we_mul (h : WE X P a R fun x R1 => asI x fun i => WE X P b R1 fun y R2 => asI y fun j => CMul i j ∧ Q (.d (.int (i * j))) R2) : WE X P (.BinOp a .Mult b pos) R Q :=
  .fit (pe_op op_mul pe_m pe_m) (twoI (g := fun i j => .int (i * j)) (C := CMul) (fun i j K H => .int _) (fun i j H Z c q => ⟨i, j, rfl, rfl, c, q⟩) h)
theorem we_div (h : WE X P a R fun x R1 => asI x fun i => WE X P b R1 fun y R2 => asI y fun j => CDiv i j ∧ Q (.d (.int (i / j))) R2) : WE X P (.BinOp a .FloorDiv b pos) R Q :=
  .fit (pe_op op_fdiv pe_m pe_m) (twoI (g := fun i j => .int (i / j)) (C := CDiv) (fun i j K H => .int _) (fun i j H Z c q => ⟨i, j, rfl, rfl, c, q⟩) h)
theorem we_mod (h : WE X P a R fun x R1 => asI x fun i => WE X P b R1 fun y R2 => asI y fun j => 0 < j ∧ Q (.d (.int (i % j))) R2) : WE X P (.BinOp a .Mod b pos) R Q :=
  .fit (pe_op op_mod pe_m pe_m) (twoI (g := fun i j => .int (i % j)) (C := fun _ j => 0 < j) (fun i j K H => .int _) (fun i j H Z c q => ⟨i, j, rfl, rfl, c, q⟩) h)
theorem we_pow (h : WE X P a R fun x R1 => asI x fun i => WE X P b R1 fun y R2 => asI y fun j => CPow i j ∧ Q (.d (.int (i ^ j.toNat))) R2) : WE X P (.BinOp a .Pow b pos) R Q :=
  .fit (pe_op op_pow pe_m pe_m) (twoI (g := fun i j => .int (i ^ j.toNat)) (C := CPow) (fun i j K H => .int _) (fun i j H Z c q => ⟨i, j, rfl, rfl, c, q⟩) h)
theorem we_neg (h : WE X P a R fun x R1 => asI x fun i => Q (.d (.int (-i))) R1) : WE X P (.UnaryOp .USub a pos) R Q :=
  .of (pe_un un_neg pe_m) fun F σ Hd H w => h.use w fun Hd1 R1 x v H1 e1 w1 r1 q1 => by
    obtain ⟨i, rfl, q1⟩ := q1.elim
    cases (show Dq _ _ v (.int i) from r1)
    exact ⟨i, rfl, .same e1 (.here w1 (show Rp _ _ _ _ _ _ (.d (.int (-i))) _ from .int _) q1)⟩
theorem we_lt (h : WE X P a R fun x R1 => asI x fun i => WE X P b R1 fun y R2 => asI y fun j => True ∧ Q (.d (.bool (decide (i < j)))) R2) : WE X P (.Compare a [.Lt] [b] pos) R Q :=
  .fit (pe_cmpR op_lt pe_m pe_m (nomark _)) (twoI (g := fun i j => .bool (decide (i < j))) (C := fun _ _ => True) (fun i j K H => .bl _) (fun i j H Z _ q => ⟨i, j, rfl, rfl, q⟩) h)
theorem wt_lt {Q : Bool → DS → Prop} (h : WE X P a R fun x R1 => asI x fun i => WE X P b R1 fun y R2 => asI y fun j => True ∧ Q (decide (i < j)) R2) : WT X P (.Compare a [.Lt] [b] pos) R Q :=
  .fit (pt_cmpR op_lt pe_m pe_m (nomark _)) (twoI (Q := fun x R1 => asB x fun c => Q c R1) (g := fun i j => .bool (decide (i < j))) (C := fun _ _ => True) (fun i j K H => .bl _) (fun i j H Z _ q => ⟨i, j, rfl, rfl, q⟩) h)
theorem we_le (h : WE X P a R fun x R1 => asI x fun i => WE X P b R1 fun y R2 => asI y fun j => True ∧ Q (.d (.bool (decide (i ≤ j)))) R2) : WE X P (.Compare a [.LtE] [b] pos) R Q :=
  .fit (pe_cmpR op_le pe_m pe_m (nomark _)) (twoI (g := fun i j => .bool (decide (i ≤ j))) (C := fun _ _ => True) (fun i j K H => .bl _) (fun i j H Z _ q => ⟨i, j, rfl, rfl, q⟩) h)
theorem wt_le {Q : Bool → DS → Prop} (h : WE X P a R fun x R1 => asI x fun i => WE X P b R1 fun y R2 => asI y fun j => True ∧ Q (decide (i ≤ j)) R2) : WT X P (.Compare a [.LtE] [b] pos) R Q :=
  .fit (pt_cmpR op_le pe_m pe_m (nomark _)) (twoI (Q := fun x R1 => asB x fun c => Q c R1) (g := fun i j => .bool (decide (i ≤ j))) (C := fun _ _ => True) (fun i j K H => .bl _) (fun i j H Z _ q => ⟨i, j, rfl, rfl, q⟩) h)
theorem we_gt (h : WE X P a R fun x R1 => asI x fun i => WE X P b R1 fun y R2 => asI y fun j => True ∧ Q (.d (.bool (decide (j < i)))) R2) : WE X P (.Compare a [.Gt] [b] pos) R Q :=
  .fit (pe_cmpR op_gt pe_m pe_m (nomark _)) (twoI (g := fun i j => .bool (decide (j < i))) (C := fun _ _ => True) (fun i j K H => .bl _) (fun i j H Z _ q => ⟨i, j, rfl, rfl, q⟩) h)
theorem wt_gt {Q : Bool → DS → Prop} (h : WE X P a R fun x R1 => asI x fun i => WE X P b R1 fun y R2 => asI y fun j => True ∧ Q (decide (j < i)) R2) : WT X P (.Compare a [.Gt] [b] pos) R Q :=
  .fit (pt_cmpR op_gt pe_m pe_m (nomark _)) (twoI (Q := fun x R1 => asB x fun c => Q c R1) (g := fun i j => .bool (decide (j < i))) (C := fun _ _ => True) (fun i j K H => .bl _) (fun i j H Z _ q => ⟨i, j, rfl, rfl, q⟩) h)
theorem we_ge (h : WE X P a R fun x R1 => asI x fun i => WE X P b R1 fun y R2 => asI y fun j => True ∧ Q (.d (.bool (decide (j ≤ i)))) R2) : WE X P (.Compare a [.GtE] [b] pos) R Q :=
  .fit (pe_cmpR op_ge pe_m pe_m (nomark _)) (twoI (g := fun i j => .bool (decide (j ≤ i))) (C := fun _ _ => True) (fun i j K H => .bl _) (fun i j H Z _ q => ⟨i, j, rfl, rfl, q⟩) h)
theorem wt_ge {Q : Bool → DS → Prop} (h : WE X P a R fun x R1 => asI x fun i => WE X P b R1 fun y R2 => asI y fun j => True ∧ Q (decide (j ≤ i)) R2) : WT X P (.Compare a [.GtE] [b] pos) R Q :=
  .fit (pt_cmpR op_ge pe_m pe_m (nomark _)) (twoI (Q := fun x R1 => asB x fun c => Q c R1) (g := fun i j => .bool (decide (j ≤ i))) (C := fun _ _ => True) (fun i j K H => .bl _) (fun i j H Z _ q => ⟨i, j, rfl, rfl, q⟩) h)

/-! two things -/
theorem two {r : R2} {G : SV → SV → DS → Prop}
    (h : WE X P a R fun x R1 => stb x fun x => WE X P b R1 fun y R2 => (∃ d, vD R2 x = some d) ∧ G x y R2)
    (hr : ∀ F σ Hd H x y R2 v u (Z : VK), Wd X.K F P R2 σ Hd H → Rp X.K F R2 σ Hd H x v → Rp X.K F R2 σ Hd H y u → G x y R2 → (∀ v H', Post X.K F P σ Hd Q v H' → Z v H') → r v u H Z) : Fits X P R (tOp r (TEm X a) (TEm X b)) Q :=
  fun F σ Hd H w Z hZ => h.stb.use w fun Hd1 R1 x v H1 e1 w1 r1 q1 => q1.2.use w1 fun Hd2 R2 y u H2 e2 w2 r2 q2 => by
    obtain ⟨⟨d, hd⟩, g⟩ := q2
    exact hr F σ Hd2 H2 x y R2 v u _ w2 (Rp.on q1.1 r1 e2 hd) r2 g fun v H' h => hZ v H' (h.same (e1.trans e2))
/-- == , != of data -/
structure gEq (R2 : DS) (x y : SV) (k : Bool → Prop) : Prop where
  ex : ∃ d d', vD R2 x = some d ∧ vD R2 y = some d' ∧ SeqAt.shaped d = true ∧ SeqAt.shaped d' = true ∧ k (PyData.eqv d d')
theorem fit_eq (h : WE X P a R fun x R1 => stb x fun x => WE X P b R1 fun y R2 => (∃ d, vD R2 x = some d) ∧ gEq R2 x y fun c => Q (.d (.bool c)) R2) : Fits X P R (tOp (rEqD X.K) (TEm X a) (TEm X b)) Q :=
  two h fun F σ Hd H x y R2 v u Z w r1 r2 g k => by
    obtain ⟨d, d', h1, h2, s1, s2, q⟩ := g
    exact ⟨d, d', (Rp.dat w r1 h1).dp (nd_of s1), (Rp.dat w r2 h2).dp (nd_of s2), s1, s2, k _ _ (.here w (show Rp _ _ _ _ _ _ (.d (.bool _)) _ from .bl _) q)⟩
theorem fit_ne (h : WE X P a R fun x R1 => stb x fun x => WE X P b R1 fun y R2 => (∃ d, vD R2 x = some d) ∧ gEq R2 x y fun c => Q (.d (.bool (!c))) R2) : Fits X P R (tOp (rNeD X.K) (TEm X a) (TEm X b)) Q :=
  two h fun F σ Hd H x y R2 v u Z w r1 r2 g k => by
    obtain ⟨d, d', h1, h2, s1, s2, q⟩ := g
    exact ⟨d, d', (Rp.dat w r1 h1).dp (nd_of s1), (Rp.dat w r2 h2).dp (nd_of s2), s1, s2, k _ _ (.here w (show Rp _ _ _ _ _ _ (.d (.bool _)) _ from .bl _) q)⟩
theorem we_eq (hu : X.A.units + 64 < cLine) (h : WE X P a R fun x R1 => stb x fun x => WE X P b R1 fun y R2 => (∃ d, vD R2 x = some d) ∧ gEq R2 x y fun c => Q (.d (.bool c)) R2) : WE X P (.Compare a [.Eq] [b] pos) R Q :=
  .fit (pe_cmpR (op_eqD hu) pe_m pe_m (nomark _)) (fit_eq h)
theorem wt_eq {Q : Bool → DS → Prop} (hu : X.A.units + 64 < cLine) (h : WE X P a R fun x R1 => stb x fun x => WE X P b R1 fun y R2 => (∃ d, vD R2 x = some d) ∧ gEq R2 x y fun c => Q c R2) : WT X P (.Compare a [.Eq] [b] pos) R Q :=
  .fit (pt_cmpR (op_eqD hu) pe_m pe_m (nomark _)) (fit_eq (Q := fun x R1 => asB x fun c => Q c R1) h)
theorem we_ne (hu : X.A.units + 64 < cLine) (h : WE X P a R fun x R1 => stb x fun x => WE X P b R1 fun y R2 => (∃ d, vD R2 x = some d) ∧ gEq R2 x y fun c => Q (.d (.bool (!c))) R2) : WE X P (.Compare a [.NotEq] [b] pos) R Q :=
  .fit (pe_cmpR (op_neD hu) pe_m pe_m (nomark _)) (fit_ne h)
theorem wt_ne {Q : Bool → DS → Prop} (hu : X.A.units + 64 < cLine) (h : WE X P a R fun x R1 => stb x fun x => WE X P b R1 fun y R2 => (∃ d, vD R2 x = some d) ∧ gEq R2 x y fun c => Q (!c) R2) : WT X P (.Compare a [.NotEq] [b] pos) R Q :=
  .fit (pt_cmpR (op_neD hu) pe_m pe_m (nomark _)) (fit_ne (Q := fun x R1 => asB x fun c => Q c R1) h)
theorem eqV_int (i j : Int) : eqV (.int i) (.int j) = decide (i = j) := rfl
theorem inV_ints (i : Int) : ∀ ns : List Int, inV (.int i) (ns.map V.int) = decide (i ∈ ns)
  | [] => rfl
  | n :: r => by
    have h := inV_ints i r
    unfold inV at h ⊢
    rw [List.map_cons, List.any_cons, h, eqV_int]
    by_cases e : n = i
    · simp [e]
    · have e' : ¬ i = n := fun z => e z.symm
      simp [e, e']
theorem flat_ints : ∀ ns : List Int, (ns.map V.int).all flatV = true
  | [] => rfl
  | n :: r => by
    rw [List.map_cons, List.all_cons, flat_ints r]
    rfl
/-- in, not in: ints in a list of ints -/
structure gIn (R2 : DS) (x y : SV) (k : Bool → Prop) : Prop where
  ex : ∃ (i : Int) (ns : List Int), x = .d (.int i) ∧ vL R2 y = some (ns.map PyData.int) ∧ k (decide (i ∈ ns))
theorem fit_in (h : WE X P a R fun x R1 => stb x fun x => WE X P b R1 fun y R2 => (∃ d, vD R2 x = some d) ∧ gIn R2 x y fun c => Q (.d (.bool c)) R2) : Fits X P R (tOp (rIn X.K false) (TEm X a) (TEm X b)) Q :=
  two h fun F σ Hd H x y R2 v u Z w r1 r2 g k => by
    obtain ⟨i, ns, rfl, h1, q⟩ := g
    obtain ⟨p, vs, rfl, hl, hv⟩ := Rp.list w r2 h1
    cases dpAllInts hv
    cases (show Dq _ _ v (.int i) from r1)
    exact ⟨p, _, rfl, .inl hl, rfl, flat_ints ns, k _ _ (.here w (show Rp _ _ _ _ _ _ (.d (.bool (decide (i ∈ ns)))) _ from (by
      show Dq X.K Hd (.bl (inV (.int i) (ns.map V.int))) _
      rw [inV_ints]
      exact .bl _)) q)⟩
theorem fit_notIn (h : WE X P a R fun x R1 => stb x fun x => WE X P b R1 fun y R2 => (∃ d, vD R2 x = some d) ∧ gIn R2 x y fun c => Q (.d (.bool (!c))) R2) : Fits X P R (tOp (rIn X.K true) (TEm X a) (TEm X b)) Q :=
  two h fun F σ Hd H x y R2 v u Z w r1 r2 g k => by
    obtain ⟨i, ns, rfl, h1, q⟩ := g
    obtain ⟨p, vs, rfl, hl, hv⟩ := Rp.list w r2 h1
    cases dpAllInts hv
    cases (show Dq _ _ v (.int i) from r1)
    exact ⟨p, _, rfl, .inl hl, rfl, flat_ints ns, k _ _ (.here w (show Rp _ _ _ _ _ _ (.d (.bool (!decide (i ∈ ns)))) _ from (by
      show Dq X.K Hd (.bl (!inV (.int i) (ns.map V.int))) _
      rw [inV_ints]
      exact .bl _)) q)⟩
theorem we_in (hm : behindInMarks .In b = false) (h : WE X P a R fun x R1 => stb x fun x => WE X P b R1 fun y R2 => (∃ d, vD R2 x = some d) ∧ gIn R2 x y fun c => Q (.d (.bool c)) R2) : WE X P (.Compare a [.In] [b] pos) R Q :=
  .fit (pe_cmpR op_in_seq pe_m pe_m hm) (fit_in h)
theorem wt_in {Q : Bool → DS → Prop} (hm : behindInMarks .In b = false) (h : WE X P a R fun x R1 => stb x fun x => WE X P b R1 fun y R2 => (∃ d, vD R2 x = some d) ∧ gIn R2 x y fun c => Q c R2) : WT X P (.Compare a [.In] [b] pos) R Q :=
  .fit (pt_cmpR op_in_seq pe_m pe_m hm) (fit_in (Q := fun x R1 => asB x fun c => Q c R1) h)
theorem we_notIn (hm : behindInMarks .NotIn b = false) (h : WE X P a R fun x R1 => stb x fun x => WE X P b R1 fun y R2 => (∃ d, vD R2 x = some d) ∧ gIn R2 x y fun c => Q (.d (.bool (!c))) R2) : WE X P (.Compare a [.NotIn] [b] pos) R Q :=
  .fit (pe_cmpR op_notIn_seq pe_m pe_m hm) (fit_notIn h)
theorem wt_notIn {Q : Bool → DS → Prop} (hm : behindInMarks .NotIn b = false) (h : WE X P a R fun x R1 => stb x fun x => WE X P b R1 fun y R2 => (∃ d, vD R2 x = some d) ∧ gIn R2 x y fun c => Q (!c) R2) : WT X P (.Compare a [.NotIn] [b] pos) R Q :=
  .fit (pt_cmpR op_notIn_seq pe_m pe_m hm) (fit_notIn (Q := fun x R1 => asB x fun c => Q c R1) h)

/-! dicts that a name holds -/
def hasK {κ β : Type} [DecidableEq κ] (kvs : List (κ × β)) (k : κ) : Bool := kvs.any fun kv => decide (kv.1 = k)
theorem hasK_of {κ : Type} [DecidableEq κ] {G : (κ × D) → (κ × V) → Prop} (hG : ∀ p q, G p q → p.1 = q.1) (k : κ) : ∀ {kvs : List (κ × D)} {ws : List (κ × V)}, Paired G kvs ws → (valV ws k).isSome = hasK kvs k
  | _, _, .nil => rfl
  | _, _, .cons (a := p) (b := q) h t => by
    have ih := hasK_of hG k t
    rw [← valV_any] at ih ⊢
    unfold hasK at ih ⊢
    rw [List.any_cons, List.any_cons, ih, hG p q h]
/-- a key in a dict that a name holds: int keys -/
structure gInD (R2 : DS) (x y : SV) (k : Bool → Prop) : Prop where
  ex : ∃ (i : Int) (j : Nat) (kvs : List (Key × D)), x = .d (.int i) ∧ y = .loc j ∧ R2[j]? = some (.own (.dK kvs)) ∧ k (hasK kvs (Sum.inl i))
theorem fit_inD (h : WE X P a R fun x R1 => stb x fun x => WE X P b R1 fun y R2 => gInD R2 x y fun c => Q (.d (.bool c)) R2) : Fits X P R (tDIn (TEm X a) (TEm X b)) Q :=
  fun F σ Hd H w Z hZ => h.stb.use w fun Hd1 R1 x v H1 e1 w1 r1 q1 => q1.2.use w1 fun Hd2 R2 y u H2 e2 w2 r2 q2 => by
    obtain ⟨i, j, kvs, rfl, rfl, hR, q⟩ := q2
    cases (show Dq _ _ v (.int i) from r1)
    obtain ⟨p, o, s1, hp, ⟨ws, ho, hc⟩, _⟩ := w2.own j _ hR
    subst ho
    have s2 := r2.1
    rw [s1] at s2
    cases s2
    refine ⟨p, _, rfl, DGet.k (k := Sum.inl i) hp, hZ _ _ (.same (e1.trans e2) (.here w2 (sv := .d (.bool (hasK kvs (Sum.inl i)))) ?_ q))⟩
    rw [hasK_of (fun _ _ h => h.1) _ hc]
    exact .bl _
theorem fit_notInD (h : WE X P a R fun x R1 => stb x fun x => WE X P b R1 fun y R2 => gInD R2 x y fun c => Q (.d (.bool (!c))) R2) : Fits X P R (tDNotIn (TEm X a) (TEm X b)) Q :=
  fun F σ Hd H w Z hZ => h.stb.use w fun Hd1 R1 x v H1 e1 w1 r1 q1 => q1.2.use w1 fun Hd2 R2 y u H2 e2 w2 r2 q2 => by
    obtain ⟨i, j, kvs, rfl, rfl, hR, q⟩ := q2
    cases (show Dq _ _ v (.int i) from r1)
    obtain ⟨p, o, s1, hp, ⟨ws, ho, hc⟩, _⟩ := w2.own j _ hR
    subst ho
    have s2 := r2.1
    rw [s1] at s2
    cases s2
    refine ⟨p, _, rfl, DGet.k (k := Sum.inl i) hp, hZ _ _ (.same (e1.trans e2) (.here w2 (sv := .d (.bool (!hasK kvs (Sum.inl i)))) ?_ q))⟩
    rw [hasK_of (fun _ _ h => h.1) _ hc]
    exact .bl _
theorem we_inD (hu : X.A.units + 1 < cLine) (hm : behindInMarks .In b = false) (h : WE X P a R fun x R1 => stb x fun x => WE X P b R1 fun y R2 => gInD R2 x y fun c => Q (.d (.bool c)) R2) : WE X P (.Compare a [.In] [b] pos) R Q :=
  .fit (pe_cmp (pc_din hu pe_m pe_m) hm) (fit_inD h)
theorem wt_inD {Q : Bool → DS → Prop} (hu : X.A.units + 1 < cLine) (hm : behindInMarks .In b = false) (h : WE X P a R fun x R1 => stb x fun x => WE X P b R1 fun y R2 => gInD R2 x y fun c => Q c R2) : WT X P (.Compare a [.In] [b] pos) R Q :=
  .fit (pt_cmp (pc_din hu pe_m pe_m) hm) (fit_inD (Q := fun x R1 => asB x fun c => Q c R1) h)
theorem we_notInD (hu : X.A.units + 1 < cLine) (hm : behindInMarks .NotIn b = false) (h : WE X P a R fun x R1 => stb x fun x => WE X P b R1 fun y R2 => gInD R2 x y fun c => Q (.d (.bool (!c))) R2) : WE X P (.Compare a [.NotIn] [b] pos) R Q :=
  .fit (pe_cmp (pc_dnotin hu pe_m pe_m) hm) (fit_notInD h)
theorem wt_notInD {Q : Bool → DS → Prop} (hu : X.A.units + 1 < cLine) (hm : behindInMarks .NotIn b = false) (h : WE X P a R fun x R1 => stb x fun x => WE X P b R1 fun y R2 => gInD R2 x y fun c => Q (!c) R2) : WT X P (.Compare a [.NotIn] [b] pos) R Q :=
  .fit (pt_cmp (pc_dnotin hu pe_m pe_m) hm) (fit_notInD (Q := fun x R1 => asB x fun c => Q c R1) h)

/-! and, or, not: truths -/
theorem we_one {op : _} (h : WE X P a R Q) : WE X P (.BoolOp op [a] pos) R Q := .of (pe_one pe_m) fun F σ Hd H w => h.run F σ Hd H w
theorem we_and {rest : List Expr} (h : WE X P a R fun x R1 => asB x fun c => (c = true → WE X P (.BoolOp .And (b :: rest) pos) R1 Q) ∧ (c = false → Q (.d (.bool false)) R1)) : WE X P (.BoolOp .And (a :: b :: rest) pos) R Q :=
  .of (pe_and pe_m pe_m) fun F σ Hd H w => h.use w fun Hd1 R1 x v H1 e1 w1 r1 q1 => by
    obtain ⟨c, rfl, h1, h2⟩ := q1.elim
    cases (show Dq _ _ v (.bool c) from r1)
    refine ⟨c, rfl, ?_⟩
    cases c with
    | true => exact iteT ((h1 rfl).use w1 fun Hd2 R2 y u H2 e2 w2 r2 q2 => .same (e1.trans e2) (.here w2 r2 q2))
    | false => exact iteF (.same e1 (.here w1 (show Rp _ _ _ _ _ _ (.d (.bool false)) _ from .bl _) (h2 rfl)))
theorem we_or {rest : List Expr} (h : WE X P a R fun x R1 => asB x fun c => (c = false → WE X P (.BoolOp .Or (b :: rest) pos) R1 Q) ∧ (c = true → Q (.d (.bool true)) R1)) : WE X P (.BoolOp .Or (a :: b :: rest) pos) R Q :=
  .of (pe_or pe_m pe_m) fun F σ Hd H w => h.use w fun Hd1 R1 x v H1 e1 w1 r1 q1 => by
    obtain ⟨c, rfl, h1, h2⟩ := q1.elim
    cases (show Dq _ _ v (.bool c) from r1)
    refine ⟨c, rfl, ?_⟩
    cases c with
    | false => exact iteF ((h1 rfl).use w1 fun Hd2 R2 y u H2 e2 w2 r2 q2 => .same (e1.trans e2) (.here w2 r2 q2))
    | true => exact iteT (.same e1 (.here w1 (show Rp _ _ _ _ _ _ (.d (.bool true)) _ from .bl _) (h2 rfl)))
theorem we_not (h : WE X P a R fun x R1 => asB x fun c => Q (.d (.bool (!c))) R1) : WE X P (.UnaryOp .Not a pos) R Q :=
  .of (pe_not pe_m) fun F σ Hd H w => h.use w fun Hd1 R1 x v H1 e1 w1 r1 q1 => by
    obtain ⟨c, rfl, h1⟩ := q1.elim
    cases (show Dq _ _ v (.bool c) from r1)
    exact ⟨c, rfl, .same e1 (.here w1 (show Rp _ _ _ _ _ _ (.d (.bool (!c))) _ from .bl _) h1)⟩
/-! tests -/
theorem wt_val {Q : Bool → DS → Prop} (h : WE X P e R fun x R1 => asB x fun c => Q c R1) (he : ∀ whole, isTrue e X.env whole = (do let v ← whole; standAt e.pos; holding [v] (truthy v)) := by intro _; rfl) : WT X P e R Q :=
  .of (pt_val pe_m he) fun F σ Hd H w => h.use w fun Hd1 R1 x v H1 e1 w1 r1 q1 => by
    obtain ⟨c, rfl, h1⟩ := q1.elim
    cases (show Dq _ _ v (.bool c) from r1)
    exact ⟨c, rfl, Hd1, R1, e1, w1, h1⟩
theorem wt_w {Q : Bool → DS → Prop} (h : WW X P e R Q) : WT X P e R Q := .of (PW.pt pw_m) fun F σ Hd H w => h.run F σ Hd H w
theorem ww_and1 {Q : Bool → DS → Prop} (h : WT X P a R Q) : WW X P (.BoolOp .And [a] pos) R Q := .of (pw_and1 pt_m) fun F σ Hd H w => h.run F σ Hd H w
theorem ww_or1 {Q : Bool → DS → Prop} (h : WT X P a R Q) : WW X P (.BoolOp .Or [a] pos) R Q := .of (pw_or1 pt_m) fun F σ Hd H w => h.run F σ Hd H w
theorem ww_and {rest : List Expr} {Q : Bool → DS → Prop} (h : WT X P a R fun c R1 => (c = true → WW X P (.BoolOp .And (b :: rest) pos) R1 Q) ∧ (c = false → Q false R1)) : WW X P (.BoolOp .And (a :: b :: rest) pos) R Q :=
  .of (pw_and pt_m pw_m) fun F σ Hd H w => h.use w fun Hd1 R1 c H1 e1 w1 q1 => by
    cases c with
    | true => exact iteT ((q1.1 rfl).use w1 fun Hd2 R2 b H2 e2 w2 q2 => ⟨Hd2, R2, e1.trans e2, w2, q2⟩)
    | false => exact iteF ⟨Hd1, R1, e1, w1, q1.2 rfl⟩
theorem ww_or {rest : List Expr} {Q : Bool → DS → Prop} (h : WT X P a R fun c R1 => (c = false → WW X P (.BoolOp .Or (b :: rest) pos) R1 Q) ∧ (c = true → Q true R1)) : WW X P (.BoolOp .Or (a :: b :: rest) pos) R Q :=
  .of (pw_or pt_m pw_m) fun F σ Hd H w => h.use w fun Hd1 R1 c H1 e1 w1 q1 => by
    cases c with
    | false => exact iteF ((q1.1 rfl).use w1 fun Hd2 R2 b H2 e2 w2 q2 => ⟨Hd2, R2, e1.trans e2, w2, q2⟩)
    | true => exact iteT ⟨Hd1, R1, e1, w1, q1.2 rfl⟩
theorem wt_not {Q : Bool → DS → Prop} (h : WT X P a R fun c R1 => Q (!c) R1) : WT X P (.UnaryOp .Not a pos) R Q :=
  .of (pt_not pt_m) fun F σ Hd H w => h.use w fun Hd1 R1 c H1 e1 w1 q1 => ⟨Hd1, R1, e1, w1, q1⟩
end
end Dl
namespace Dl
open PySem PySem.Spec PyProof.Rows L2
/-! displays -/
def PostDs (K : PySem.W.Frag) (F : Fr) (P : List Nat) (σ : L2.St) (Hd : Hp) (Q : List D → DS → Prop) : List V → Hp → Prop := fun vs H' =>
  ∃ Hd' R' ds, Same Hd Hd' ∧ Wd K F P R' σ Hd' H' ∧ DqAll K Hd' vs ds ∧ Q ds R'
structure WDs (X : Cx) (P : List Nat) (es : List Expr) (R : DS) (Q : List D → DS → Prop) : Prop where
  run : ∀ F σ Hd H, Wd X.K F P R σ Hd H → TAm X es σ H (PostDs X.K F P σ Hd Q)
section
variable {X : Cx} {P : List Nat} {R : DS} {a b c e : Expr} {es : List Expr} {pos : Pos} {Q : SV → DS → Prop}
theorem WDs.use {Q : List D → DS → Prop} (h : WDs X P es R Q) {F : Fr} {σ : L2.St} {Hd H : Hp} (w : Wd X.K F P R σ Hd H) {Z : List V → Hp → Prop}
    (k : ∀ Hd' R' ds vs H', Same Hd Hd' → Wd X.K F P R' σ Hd' H' → DqAll X.K Hd' vs ds → Q ds R' → Z vs H') : TAm X es σ H Z :=
  (h.run F σ Hd H w).mono fun v H' ⟨Hd', R', ds, e1, w1, r1, q1⟩ => k Hd' R' ds v H' e1 w1 r1 q1
theorem wds_nil {Q : List D → DS → Prop} (q : Q [] R) : WDs X P [] R Q := ⟨fun F σ Hd H w => TAm.of pa_nil ⟨Hd, R, [], Same.refl _, w, .nil, q⟩⟩
theorem wds_cons {Q : List D → DS → Prop} (h : WE X P a R fun sv R1 => asD sv fun x => WDs X P es R1 fun ds R2 => Q (x :: ds) R2)
    (hs : starEach (a :: es) X.env = (false, eval a X.env) :: starEach es X.env := by rfl) : WDs X P (a :: es) R Q :=
  ⟨fun F σ Hd H w => TAm.of (pa_cons pe_m pa_m hs) (h.fzD.use w fun Hd1 R1 sv v H1 e1 w1 r1 q1 => by
    obtain ⟨x, rfl, q1⟩ := q1
    exact q1.use w1 fun Hd2 R2 ds vs H2 e2 w2 r2 q2 => ⟨Hd2, R2, x :: ds, e1.trans e2, w2, .cons (dpMono e2 r1) r2, q2⟩)⟩
theorem we_tup {x1 : _} (h : WDs X P es R fun ds R1 => ds.length ≤ sizeLine ∧ Q (.d (.tuple ds)) R1) : WE X P (.Tuple es x1 pos) R Q :=
  .of (pe_tup pa_m) fun F σ Hd H w => h.use w fun Hd1 R1 ds vs H1 e1 w1 r1 q1 => ⟨by rw [dpAllLen r1]; exact q1.1, fun p hp => by
    obtain ⟨w2, s2⟩ := w1.allocD (o := .tup vs) hp
    exact .same (e1.trans s2) (.here w2 (show Rp _ _ _ _ _ _ (.d (.tuple ds)) _ from Dq.tup (upd_same) (dpAllMono s2 r1)) q1.2)⟩
theorem ownNew {K : PySem.W.Frag} {F : Fr} {R : DS} {σ : L2.St} {Hd H : Hp} {m : MC} {o : HO} {p : Addr} (w : Wd K F P R σ Hd H) (hp : H p = none) (hc : CRp K Hd m o) : Rp K F R σ Hd (upd H p o) (.own m) (.ref p) :=
  ⟨p, o, rfl, upd_same, hc, sameNone w.dat hp, sameNone w.frm hp, fun i n hi z => by
    obtain ⟨a, u, s1, ha, _⟩ := w.own i n hi
    rw [z] at s1
    cases s1
    rw [hp] at ha
    cases ha⟩
theorem crL {K : PySem.W.Frag} {Hd : Hp} {vs : List V} {ds : List D} (h : DqAll K Hd vs ds) : CRp K Hd (.lst ds) (.lst vs) := ⟨vs, rfl, h⟩
theorem crK0 {K : PySem.W.Frag} {Hd : Hp} : CRp K Hd (.dK []) (.dK []) := ⟨[], rfl, .nil⟩
theorem crT0 {K : PySem.W.Frag} {Hd : Hp} : CRp K Hd (.dT []) (.dT []) := ⟨[], rfl, .nil⟩
theorem we_lst (h : WDs X P es R fun ds R1 => ds.length ≤ sizeLine ∧ Q (.own (.lst ds)) R1) : WE X P (.List es pos) R Q :=
  .of (pe_lst pa_m) fun F σ Hd H w => h.use w fun Hd1 R1 ds vs H1 e1 w1 r1 q1 => ⟨by rw [dpAllLen r1]; exact q1.1, fun p hp =>
    .same e1 (.here (w1.allocH hp) (ownNew w1 hp (crL r1)) q1.2)⟩
theorem we_dict0 (q : Q (.own (.dK [])) R) : WE X P (.Dict [] [] pos) R Q := .of pe_dnewK fun F σ Hd H w p hp => .here (w.allocH hp) (ownNew w hp crK0) q
theorem we_dictT0 (q : Q (.own (.dT [])) R) : WE X P (.Dict [] [] pos) R Q := .of pe_dnewT fun F σ Hd H w p hp => .here (w.allocH hp) (ownNew w hp crT0) q

/-! subscripts -/
def vS (R : DS) (sv : SV) : Option (List D) := (vL R sv).or (vT sv)
theorem Rp.seq {K : PySem.W.Frag} {F : Fr} {σ : L2.St} {Hd H : Hp} {sv : SV} {v : V} {ds : List D} (w : Wd K F P R σ Hd H) (r : Rp K F R σ Hd H sv v) (h : vS R sv = some ds) :
    ∃ a vs, v = .ref a ∧ (SqL K H a vs ∨ SqT K H a vs) ∧ DqAll K Hd vs ds := by
  unfold vS at h
  cases hl : vL R sv with
  | some xs =>
    rw [hl] at h
    cases h
    obtain ⟨a, vs, h1, h2, h3⟩ := Rp.list w r hl
    exact ⟨a, vs, h1, .inl h2, h3⟩
  | none =>
    rw [hl] at h
    obtain ⟨a, vs, h1, _, h2, h3⟩ := Rp.tup w r h
    exact ⟨a, vs, h1, .inr h2, h3⟩
theorem atD {K : PySem.W.Frag} {H : Hp} {vs : List V} {ds : List D} {i : Int} {z : D} (h : DqAll K H vs ds) (e : atI ds i = some z) : ∃ v, atI vs i = some v ∧ Dq K H v z := by
  unfold atI at e ⊢
  rw [dpAllLen h]
  cases q : ixN ds.length i with
  | none =>
    rw [q] at e
    cases e
  | some j =>
    rw [q] at e
    exact dpAllGet h e
theorem we_ix (h : WE X P a R fun x R1 => stb x fun x => WE X P b R1 fun y R2 => (∃ d, vD R2 x = some d) ∧ asI y fun i => ∃ ds z, vS R2 x = some ds ∧ atI ds i = some z ∧ Q (.d z) R2)
    (hs : PlainIx b := by exact fun _ _ => rfl) : WE X P (.Subscript a b pos) R Q :=
  .fit (pe_ix ix_seq pe_m pe_m hs) (two h fun F σ Hd H x y R2 v u Z w r1 r2 g k => by
    obtain ⟨i, rfl, ds, z, h1, h2, q⟩ := g.elim
    cases (show Dq _ _ u (.int i) from r2)
    obtain ⟨p, vs, rfl, hh, hv⟩ := Rp.seq w r1 h1
    obtain ⟨z', e1, e2⟩ := atD hv h2
    have q' := k _ _ (.here w (show Rp _ _ _ _ _ _ (.d z) z' from e2) q)
    rcases hh with hh | hh
    · exact .inl ⟨p, vs, i, z', rfl, rfl, hh, e1, q'⟩
    · exact .inr (.inl ⟨p, vs, i, z', rfl, rfl, hh, e1, q'⟩))
/-- a slice's parts -/
structure WO (X : Cx) (P : List Nat) (o : Option Expr) (R : DS) (Q : Option Int → DS → Prop) : Prop where
  ex : ∃ t, PO X o t ∧ ∀ F σ Hd H, Wd X.K F P R σ Hd H → ∀ Z : Option Int → Hp → Prop, (∀ Hd' R' i H', Same Hd Hd' → Wd X.K F P R' σ Hd' H' → Q i R' → Z i H') → t σ H Z
theorem wo_none {Q : Option Int → DS → Prop} (q : Q none R) : WO X P none R Q := ⟨_, po_none, fun F σ Hd H w Z hZ => hZ Hd R none H (Same.refl _) w q⟩
theorem wo_some {Q : Option Int → DS → Prop} (h : WE X P e R fun x R1 => asI x fun i => Q (some i) R1) : WO X P (some e) R Q :=
  ⟨_, po_some pe_m, fun F σ Hd H w Z hZ => h.use w fun Hd1 R1 x v H1 e1 w1 r1 q1 => by
    obtain ⟨i, rfl, q⟩ := q1.elim
    cases (show Dq _ _ v (.int i) from r1)
    exact ⟨i, rfl, hZ _ _ _ _ e1 w1 q⟩⟩
def cutD (xs : List D) (lo hi : Option Int) : List D := (xs.drop (HT.sIx xs.length 0 lo)).take (HT.sIx xs.length xs.length hi - HT.sIx xs.length 0 lo)
theorem cut_dp {K : PySem.W.Frag} {H : Hp} {vs : List V} {ds : List D} (h : DqAll K H vs ds) (lo hi : Option Int) : DqAll K H (cutV vs lo hi) (cutD ds lo hi) := by
  unfold cutV cutD
  rw [dpAllLen h]
  exact dpAllTake _ (dpAllDrop _ h)
/-- the widest reading of a part -/
def TOm (X : Cx) (o : Option Expr) : TO := fun σ H Q => ∀ pins s, Inv X pins σ H s → wpAny (model X.prog X.w) X.A (evalPart o X.env) (fun u s' => ∃ o H', Inv X pins σ H' s' ∧ IsPart u o ∧ Q o H') X.xe s
theorem po_m {o : Option Expr} : PO X o (TOm X o) := ⟨fun pins s _ _ _ I h => h pins s I⟩
theorem WO.use {o : Option Expr} {Q : Option Int → DS → Prop} (h : WO X P o R Q) {F : Fr} {σ : L2.St} {Hd H : Hp} (w : Wd X.K F P R σ Hd H) {Z : Option Int → Hp → Prop}
    (k : ∀ Hd' R' i H', Same Hd Hd' → Wd X.K F P R' σ Hd' H' → Q i R' → Z i H') : TOm X o σ H Z := by
  obtain ⟨t, p, f⟩ := h.ex
  exact fun pins s I => p.run pins s σ H Z I (f F σ Hd H w Z k)
theorem we_sl {lo hi : Option Expr} {p2 : Pos} (h : WE X P a R fun x R1 => stb x fun x => WO X P lo R1 fun l R2 => WO X P hi R2 fun u R3 => ∃ ds, vL R3 x = some ds ∧ Q (.own (.lst (cutD ds l u))) R3) :
    WE X P (.Subscript a (.Slice lo hi none p2) pos) R Q :=
  .of (pe_slice sl_list pe_m po_m po_m) fun F σ Hd H w => h.stb.use w fun Hd1 R1 x v H1 e1 w1 r1 q1 => q1.2.use w1 fun Hd2 R2 l H2 e2 w2 q2 => q2.use w2 fun Hd3 R3 u H3 e3 w3 q3 => by
    obtain ⟨ds, h1, q⟩ := q3
    have hv : vD R3 x = some (.list ds) := by
      unfold vL at h1
      unfold vD
      split at h1 <;> first | (cases h1; rfl) | skip
      · split at h1
        · rename_i e; cases h1; simp only [e]
        · cases h1
      · cases h1
    obtain ⟨p, vs, rfl, hl, hc⟩ := Rp.list w3 (Rp.on q1.1 r1 (e2.trans e3) hv) h1
    exact ⟨p, vs, rfl, hl, fun z hz => .same ((e1.trans e2).trans e3) (.here (w3.allocH hz) (ownNew w3 hz (crL (cut_dp hc l u))) q)⟩
theorem we_slT {lo hi : Option Expr} {p2 : Pos} (h : WE X P a R fun x R1 => ∃ ds, x = .d (.tuple ds) ∧ WO X P lo R1 fun l R2 => WO X P hi R2 fun u R3 => Q (.d (.tuple (cutD ds l u))) R3) :
    WE X P (.Subscript a (.Slice lo hi none p2) pos) R Q :=
  .of (pe_slice sl_tupA pe_m po_m po_m) fun F σ Hd H w => h.use w fun Hd1 R1 x v H1 e1 w1 r1 q1 => by
    obtain ⟨ds, rfl, q1⟩ := q1
    exact q1.use w1 fun Hd2 R2 l H2 e2 w2 q2 => q2.use w2 fun Hd3 R3 u H3 e3 w3 q => by
      obtain ⟨p, vs, rfl, _, hl, hc⟩ := Rp.tup (sv := .d (.tuple ds)) w3 (show Rp _ _ _ _ _ _ (.d (.tuple ds)) v from dpMono (e2.trans e3) r1) rfl
      refine ⟨p, vs, rfl, hl, fun hw => ?_, fun _ z hz => ?_⟩
      · have e : cutD ds l u = ds := by
          unfold cutD
          rw [dpAllLen hc] at hw
          rw [hw.1, hw.2, List.drop_zero, Nat.sub_zero, List.take_length]
        rw [e] at q
        exact .same ((e1.trans e2).trans e3) (.here w3 (show Rp _ _ _ _ _ _ (.d (.tuple ds)) _ from dpMono (e2.trans e3) r1) q)
      · obtain ⟨w4, s4⟩ := w3.allocD (o := .tup (cutV vs l u)) hz
        exact .same (((e1.trans e2).trans e3).trans s4) (.here w4 (show Rp _ _ _ _ _ _ (.d (.tuple (cutD ds l u))) _ from Dq.tup (upd_same) (dpAllMono s4 (cut_dp hc l u))) q)

/-! built-ins of one argument -/
theorem call1 {x : Str} {p : Pos} {id : String} {r : List V → Hp → VK → Prop} (hc : CallR X (.builtin id) r) (hg : Gl X x) (hm : X.mg x = none) (hv : bootBuiltins x = some (.builtin id)) {G : SV → DS → Prop}
    (h : WE X P a R G) (hr : ∀ F σ Hd H sv R1 v (Z : VK), Wd X.K F P R1 σ Hd H → Rp X.K F R1 σ Hd H sv v → G sv R1 → (∀ v H', Post X.K F P σ Hd Q v H' → Z v H') → r [v] H Z)
    (hn : x ≠ "__name__" := by decide) (hdb : (x == ("__debug__" : Str)) = false := by decide)
    (he : starEach [a] X.env = (false, eval a X.env) :: starEach [] X.env := by rfl) (hpl : (backTo pos (starEach [] X.env)).any (·.1) = false := by rfl) : WE X P (.Call (.Name x p) [a] [] pos) R Q :=
  .of (pe_callB hc hg hm hv (pa_cons pe_m pa_nil he) hn hdb he hpl) fun F σ Hd H w => h.use w fun Hd1 R1 sv v H1 e1 w1 r1 q1 => hr F σ Hd1 H1 sv R1 v _ w1 r1 q1 fun _ _ h => h.same e1
theorem callT1 {x : Str} {p : Pos} {id : String} {r : List V → Hp → VK → Prop} (hc : CallR X (.type id) r) (hg : Gl X x) (hm : X.mg x = none) (hv : bootBuiltins x = some (.type id)) {G : SV → DS → Prop}
    (h : WE X P a R G) (hr : ∀ F σ Hd H sv R1 v (Z : VK), Wd X.K F P R1 σ Hd H → Rp X.K F R1 σ Hd H sv v → G sv R1 → (∀ v H', Post X.K F P σ Hd Q v H' → Z v H') → r [v] H Z)
    (hn : x ≠ "__name__" := by decide) (hdb : (x == ("__debug__" : Str)) = false := by decide)
    (he : starEach [a] X.env = (false, eval a X.env) :: starEach [] X.env := by rfl) (hpl : (backTo pos (starEach [] X.env)).any (·.1) = false := by rfl) : WE X P (.Call (.Name x p) [a] [] pos) R Q :=
  .of (pe_callTy hc hg hm hv (pa_cons pe_m pa_nil he) hn hdb he hpl) fun F σ Hd H w => h.use w fun Hd1 R1 sv v H1 e1 w1 r1 q1 => hr F σ Hd1 H1 sv R1 v _ w1 r1 q1 fun _ _ h => h.same e1
theorem we_len {p : Pos} (hm : X.mg "len" = none) (hg : Gl X "len") (h : WE X P a R fun x R1 => ∃ ds, vS R1 x = some ds ∧ Q (.d (.int (ds.length : Int))) R1)
    (he : starEach [a] X.env = (false, eval a X.env) :: starEach [] X.env := by rfl) (hpl : (backTo pos (starEach [] X.env)).any (·.1) = false := by rfl) : WE X P (.Call (.Name "len" p) [a] [] pos) R Q :=
  call1 call_len_seq hg hm PySem.boot_len h (fun F σ Hd H sv R1 v Z w r g k => by
    obtain ⟨ds, h1, q⟩ := g
    obtain ⟨a, vs, rfl, hh, hv⟩ := Rp.seq w r h1
    exact ⟨a, vs, rfl, hh, k _ _ (.here w (show Rp _ _ _ _ _ _ (.d (.int (ds.length : Int))) _ by rw [dpAllLen hv]; exact .int _) q)⟩) (he := he) (hpl := hpl)
theorem we_any {p : Pos} (hc : X.calm = true) (hm : X.mg "any" = none) (hg : Gl X "any") (h : WE X P a R fun x R1 => ∃ bs : List Bool, vL R1 x = some (bs.map PyData.bool) ∧ Q (.d (.bool (bs.any id))) R1)
    (he : starEach [a] X.env = (false, eval a X.env) :: starEach [] X.env := by rfl) (hpl : (backTo pos (starEach [] X.env)).any (·.1) = false := by rfl) : WE X P (.Call (.Name "any" p) [a] [] pos) R Q :=
  call1 (cr_any hc) hg hm (by decide +kernel) h (fun F σ Hd H sv R1 v Z w r g k => by
    obtain ⟨bs, h1, q⟩ := g
    obtain ⟨a, vs, rfl, hh, hv⟩ := Rp.list w r h1
    cases dpAllBls hv
    exact ⟨a, bs, rfl, hh, k _ _ (.here w (show Rp _ _ _ _ _ _ (.d (.bool (bs.any id))) _ from .bl _) q)⟩) (he := he) (hpl := hpl)
theorem we_all {p : Pos} (hc : X.calm = true) (hm : X.mg "all" = none) (hg : Gl X "all") (h : WE X P a R fun x R1 => ∃ bs : List Bool, vL R1 x = some (bs.map PyData.bool) ∧ Q (.d (.bool (bs.all id))) R1)
    (he : starEach [a] X.env = (false, eval a X.env) :: starEach [] X.env := by rfl) (hpl : (backTo pos (starEach [] X.env)).any (·.1) = false := by rfl) : WE X P (.Call (.Name "all" p) [a] [] pos) R Q :=
  call1 (cr_all hc) hg hm (by decide +kernel) h (fun F σ Hd H sv R1 v Z w r g k => by
    obtain ⟨bs, h1, q⟩ := g
    obtain ⟨a, vs, rfl, hh, hv⟩ := Rp.list w r h1
    cases dpAllBls hv
    exact ⟨a, bs, rfl, hh, k _ _ (.here w (show Rp _ _ _ _ _ _ (.d (.bool (bs.all id))) _ from .bl _) q)⟩) (he := he) (hpl := hpl)
theorem we_list {p : Pos} (hm : X.mg "list" = none) (hg : Gl X "list") (h : WE X P a R fun x R1 => ∃ ds, vS R1 x = some ds ∧ Q (.own (.lst ds)) R1)
    (he : starEach [a] X.env = (false, eval a X.env) :: starEach [] X.env := by rfl) (hpl : (backTo pos (starEach [] X.env)).any (·.1) = false := by rfl) : WE X P (.Call (.Name "list" p) [a] [] pos) R Q :=
  callT1 call_list_of hg hm (by decide +kernel) h (fun F σ Hd H sv R1 v Z w r g k => by
    obtain ⟨ds, h1, q⟩ := g
    obtain ⟨a, vs, rfl, hh, hv⟩ := Rp.seq w r h1
    exact ⟨a, vs, rfl, hh, fun l hl => k _ _ (.here (w.allocH hl) (ownNew w hl (crL hv)) q)⟩) (he := he) (hpl := hpl)
theorem we_tupleL {p : Pos} (hm : X.mg "tuple" = none) (hg : Gl X "tuple") (h : WE X P a R fun x R1 => ∃ ds, vL R1 x = some ds ∧ Q (.d (.tuple ds)) R1)
    (he : starEach [a] X.env = (false, eval a X.env) :: starEach [] X.env := by rfl) (hpl : (backTo pos (starEach [] X.env)).any (·.1) = false := by rfl) : WE X P (.Call (.Name "tuple" p) [a] [] pos) R Q :=
  callT1 call_tuple_of hg hm (by decide +kernel) h (fun F σ Hd H sv R1 v Z w r g k => by
    obtain ⟨ds, h1, q⟩ := g
    obtain ⟨a, vs, rfl, hh, hv⟩ := Rp.list w r h1
    exact ⟨a, vs, rfl, .inl ⟨hh, fun l hl => by
      obtain ⟨w2, s2⟩ := w.allocD (o := .tup vs) hl
      exact k _ _ (.same s2 (.here w2 (show Rp _ _ _ _ _ _ (.d (.tuple ds)) _ from Dq.tup (upd_same) (dpAllMono s2 hv)) q))⟩⟩) (he := he) (hpl := hpl)
theorem we_sortedI {p : Pos} (hm : X.mg "sorted" = none) (hg : Gl X "sorted") (h : WE X P a R fun x R1 => ∃ ns : List Int, vL R1 x = some (ns.map PyData.int) ∧ ∀ ns' : List Int, ns'.Perm ns → ns'.Pairwise (· ≤ ·) → Q (.own (.lst (ns'.map PyData.int))) R1)
    (he : starEach [a] X.env = (false, eval a X.env) :: starEach [] X.env := by rfl) (hpl : (backTo pos (starEach [] X.env)).any (·.1) = false := by rfl) : WE X P (.Call (.Name "sorted" p) [a] [] pos) R Q :=
  call1 cr_sortedI hg hm (by decide +kernel) h (fun F σ Hd H sv R1 v Z w r g k => by
    obtain ⟨ns, h1, q⟩ := g
    obtain ⟨a, vs, rfl, hh, hv⟩ := Rp.list w r h1
    cases dpAllInts hv
    exact ⟨a, ns, rfl, hh, fun ns' l p1 p2 hl => k _ _ (.here (w.allocH hl) (ownNew w hl (crL (dpAllOfInts ns'))) (q ns' p1 p2))⟩) (he := he) (hpl := hpl)
theorem keys_of {G : (Key × D) → (Key × V) → Prop} (hG : ∀ p q, G p q → p.1 = q.1) : ∀ {kvs : List (Key × D)} {ws : List (Key × V)}, Paired G kvs ws → ws.map (·.1) = kvs.map (·.1)
  | _, _, .nil => rfl
  | _, _, .cons h t => by rw [List.map_cons, List.map_cons, keys_of hG t, hG _ _ h]
theorem we_sortedD {p : Pos} (hc : X.calm = true) (hm : X.mg "sorted" = none) (hg : Gl X "sorted") (h : WE X P a R fun x R1 => ∃ (j : Nat) (kvs : List (Key × D)) (ks : List Int), x = .loc j ∧ R1[j]? = some (.own (.dK kvs)) ∧ kvs.map (·.1) = ks.map Sum.inl ∧ ks.length < 64 ∧
      ∀ ns' : List Int, ns'.Perm ks → ns'.Pairwise (· ≤ ·) → Q (.own (.lst (ns'.map PyData.int))) R1)
    (he : starEach [a] X.env = (false, eval a X.env) :: starEach [] X.env := by rfl) (hpl : (backTo pos (starEach [] X.env)).any (·.1) = false := by rfl) : WE X P (.Call (.Name "sorted" p) [a] [] pos) R Q :=
  call1 (call_sortedDI hc) hg hm (by decide +kernel) h (fun F σ Hd H sv R1 v Z w r g k => by
    obtain ⟨j, kvs, ks, rfl, hR, hk, hl, q⟩ := g
    obtain ⟨d, o, s1, hd, ⟨ws, ho, hcv⟩, _⟩ := w.own j _ hR
    subst ho
    have s2 := r.1
    rw [s1] at s2
    cases s2
    exact ⟨d, ws, ks, rfl, .inl hd, (keys_of (fun _ _ h => h.1) hcv).trans hk, hl, fun ns' l p1 p2 hl => k _ _ (.here (w.allocH hl) (ownNew w hl (crL (dpAllOfInts ns'))) (q ns' p1 p2))⟩) (he := he) (hpl := hpl)
theorem we_intB {p : Pos} (hm : X.mg "int" = none) (hg : Gl X "int") (h : WE X P a R fun x R1 => asB x fun c => Q (.d (.int (if c then 1 else 0))) R1)
    (he : starEach [a] X.env = (false, eval a X.env) :: starEach [] X.env := by rfl) (hpl : (backTo pos (starEach [] X.env)).any (·.1) = false := by rfl) : WE X P (.Call (.Name "int" p) [a] [] pos) R Q :=
  callT1 call_int1 hg hm (by decide +kernel) h (fun F σ Hd H sv R1 v Z w r g k => by
    obtain ⟨c, rfl, q⟩ := g.elim
    cases (show Dq _ _ v (.bool c) from r)
    exact .inr ⟨c, rfl, k _ _ (.here w (show Rp _ _ _ _ _ _ (.d (.int (if c then 1 else 0))) _ from .int _) q)⟩) (he := he) (hpl := hpl)
theorem we_max2 {p : Pos} (hc : X.calm = true) (hm : X.mg "max" = none) (hg : Gl X "max") (h : WE X P a R fun x R1 => asI x fun i => WE X P b R1 fun y R2 => asI y fun j => Q (.d (.int (if j > i then j else i))) R2)
    (he : starEach [a, b] X.env = (false, eval a X.env) :: starEach [b] X.env := by rfl) (he2 : starEach [b] X.env = (false, eval b X.env) :: starEach [] X.env := by rfl) (hpl : (backTo pos (starEach [b] X.env)).any (·.1) = false := by rfl) : WE X P (.Call (.Name "max" p) [a, b] [] pos) R Q :=
  .of (pe_callB (call_max2 hc) hg hm (by decide +kernel) (pa_cons pe_m (pa_cons pe_m pa_nil he2) he) (by decide) (by decide) he hpl) fun F σ Hd H w => h.use w fun Hd1 R1 x v H1 e1 w1 r1 q1 => by
    obtain ⟨i, rfl, q1⟩ := q1.elim
    cases (show Dq _ _ v (.int i) from r1)
    exact q1.use w1 fun Hd2 R2 y u H2 e2 w2 r2 q2 => by
      obtain ⟨j, rfl, q⟩ := q2.elim
      cases (show Dq _ _ u (.int j) from r2)
      exact ⟨i, j, rfl, .same (e1.trans e2) (.here w2 (show Rp _ _ _ _ _ _ (.d (.int (if j > i then j else i))) _ from .int _) q)⟩
/-! repr -/
theorem call_reprD (hg : X.A.guards = some []) (hu : X.A.units + 100 < cLine) : CallR X (.builtin "repr") (fun xs H Q => ∃ v d, xs = [v] ∧ Dq X.K H v d ∧ isDisplay d = true ∧ d.showable = true ∧ d.hasDict = false ∧ d.depth ≤ 64 ∧ d.shown.length ≤ sizeLine ∧ Q (.str d.shown) H) := by
  intro pins s σ H vs us Q I rs h
  obtain ⟨v, d, rfl, hd, hdis, hsh, hnd, hdep, hsz, q⟩ := h
  obtain ⟨u, rfl, ru⟩ := Vals.one rs
  obtain ⟨as, r1⟩ := Dp.reads I d v u (hd.dp hnd) ru
  obtain ⟨a, rfl⟩ := isRef_of_reads r1 hdis
  exact repr_of_reads' r1 hsh (PyData.noDict_hsm hnd) hg (by omega) (fun _ _ e => e) (fun h' u tk hk => ⟨.str d.shown, H, I.kept (t' := tk) hk, ⟨u, rfl⟩, q⟩) hsz
theorem we_repr {p : Pos} (hgd : X.A.guards = some []) (hu : X.A.units + 100 < cLine) (hm : X.mg "repr" = none) (hg : Gl X "repr")
    (h : WE X P a R fun x R1 => ∃ d, vD R1 x = some d ∧ isDisplay d = true ∧ d.showable = true ∧ d.hasDict = false ∧ d.depth ≤ 64 ∧ d.shown.length ≤ sizeLine ∧ Q (.d (.str d.shown)) R1)
    (he : starEach [a] X.env = (false, eval a X.env) :: starEach [] X.env := by rfl) (hpl : (backTo pos (starEach [] X.env)).any (·.1) = false := by rfl) : WE X P (.Call (.Name "repr" p) [a] [] pos) R Q :=
  call1 (call_reprD hgd hu) hg hm (by decide +kernel) h (fun F σ Hd H sv R1 v Z w r g k => by
    obtain ⟨d, h1, h2, h3, h4, h5, h6, q⟩ := g
    exact ⟨v, d, rfl, Rp.dat w r h1, h2, h3, h4, h5, h6, k _ _ (.here w (show Rp _ _ _ _ _ _ (.d (.str d.shown)) _ from .str _) q)⟩) (he := he) (hpl := hpl)
end
end Dl
namespace Dl
open PySem PySem.Spec PyProof.Rows L2
/-! targets -/
def TGm (X : Cx) (tg : Expr) : TG := fun v σ H Q => ∀ pins s u, Inv X pins σ H s → RelV v u → wpAny (model X.prog X.w) X.A (assign tg X.env u) (fun _ s' => ∃ σ' H', Inv X pins σ' H' s' ∧ Q σ' H') X.xe s
theorem pg_m {X : Cx} {tg : Expr} : PG X tg (TGm X tg) := ⟨fun pins s _ _ _ u _ I r h => h pins s u I r⟩
theorem TGm.of {X : Cx} {tg : Expr} {t : TG} {v : V} {σ : L2.St} {H : Hp} {Q : L2.St → Hp → Prop} (p : PG X tg t) (h : t v σ H Q) : TGm X tg v σ H Q := fun pins s u I r => p.run pins s σ H v u Q I r h
theorem TGm.mono {X : Cx} {tg : Expr} {v : V} {σ : L2.St} {H : Hp} {Q Q' : L2.St → Hp → Prop} (h : TGm X tg v σ H Q) (k : ∀ σ' H', Q σ' H' → Q' σ' H') : TGm X tg v σ H Q' := fun pins s u I r =>
  thn (h pins s u I r) fun _ _ ⟨σ', H', J, q⟩ => ⟨σ', H', J, k _ _ q⟩
/-- a target gets data; js: the slots that it stores -/
structure WG (X : Cx) (P : List Nat) (tg : Expr) (js : List Nat) (R : DS) (x : D) (Q : DS → Prop) : Prop where
  run : ∀ F σ Hd H v, Wd X.K F P R σ Hd H → Dq X.K Hd v x → TGm X tg v σ H fun σ' H' => ∃ Hd' R', Same Hd Hd' ∧ Wd X.K F P R' σ' Hd' H' ∧ (∀ vs : List Nat, (∀ j ∈ js, j ∈ vs) → wipe σ' vs = wipe σ vs) ∧ Q R'
structure WGs (X : Cx) (P : List Nat) (tgs : List Expr) (js : List Nat) (R : DS) (xs : List D) (Q : DS → Prop) : Prop where
  ex : ∃ t, PGs X tgs t ∧ ∀ F σ Hd H vs, Wd X.K F P R σ Hd H → DqAll X.K Hd vs xs → ∀ Z : L2.St → Hp → Prop, (∀ Hd' R' σ' H', Same Hd Hd' → Wd X.K F P R' σ' Hd' H' → (∀ ws : List Nat, (∀ j ∈ js, j ∈ ws) → wipe σ' ws = wipe σ ws) → Q R' → Z σ' H') → t vs σ H Z
theorem set_set_ne {α : Type} {l : List α} {i j : Nat} {x y : α} (h : i ≠ j) : (l.set i x).set j y = (l.set j y).set i x := List.set_comm x y h
theorem wipe_set_in {σ : L2.St} {i : Nat} {x : Option V} : ∀ {vs : List Nat}, i ∈ vs → wipe (σ.set i x) vs = wipe σ vs
  | [], h => by cases h
  | v :: vs, h => by
    unfold wipe
    by_cases hi : i ∈ vs
    · rw [wipe_set_in hi]
    · have e : v = i := by
        rcases List.mem_cons.mp h with e | e
        · exact e.symm
        · exact absurd e hi
      subst e
      have out : ∀ (ws : List Nat) (τ : L2.St), v ∉ ws → wipe (τ.set v x) ws = (wipe τ ws).set v x := by
        intro ws
        induction ws with
        | nil => intro τ _; rfl
        | cons a ws ih =>
          intro τ hw
          have h1 : v ≠ a := fun z => hw (z ▸ List.mem_cons_self)
          unfold wipe
          rw [ih τ (fun z => hw (List.mem_cons_of_mem _ z)), List.set_comm _ _ h1]
      rw [out vs σ hi, List.set_set]
section
variable {X : Cx} {P : List Nat} {R : DS} {a b c e tg : Expr} {es : List Expr} {pos : Pos}
theorem wg_name {i : Nat} {x : Str} {d : D} {Q : DS → Prop} (hN : X.N.Nodup) (hi : X.N[i]? = some x) (hx : Loc X.env.scope x) (hP : i ∉ P) (q : Q (R.set i (.d d)))
    (hf : X.fn x = true ∨ X.env.scope.names.lookup x = some .local := by first | exact .inl rfl | exact .inr rfl | assumption) : WG X P (.Name x pos) [i] R d Q :=
  ⟨fun F σ Hd H v w r => TGm.of (pg_name hN hi hx hf) ⟨Hd, _, Same.refl _, w.setD hP r, fun vs hv => wipe_set_in (hv i List.mem_cons_self), q⟩⟩
theorem wgs_nil {Q : DS → Prop} (q : Q R) : WGs X P [] [] R [] Q := ⟨_, pgs_nil, fun F σ Hd H vs w r Z hZ => by
  cases r
  exact ⟨rfl, hZ Hd R σ H (Same.refl _) w (fun _ _ => rfl) q⟩⟩
theorem wgs_cons {js ks : List Nat} {x : D} {xs : List D} {Q : DS → Prop} (h : WG X P e js R x fun R1 => WGs X P es ks R1 xs Q)
    (hs : (assignEach (e :: es) X.env).map (·.2) = assign e X.env :: (assignEach es X.env).map (·.2) := by rfl) : WGs X P (e :: es) (js ++ ks) R (x :: xs) Q := by
  -- the readings of the rest, whatever was stored ahead
  refine ⟨gCons (TGm X e) (fun vs σ H Z => ∀ pins s us, Inv X pins σ H s → Vals vs us → wpAny (model X.prog X.w) X.A (assignInOrder ((assignEach es X.env).map (·.2)) us) (fun _ s' => ∃ σ' H', Inv X pins σ' H' s' ∧ Z σ' H') X.xe s),
    pgs_cons pg_m ⟨fun pins s σ H vs us Z I r h => h pins s us I r⟩ hs, fun F σ Hd H vs w r Z hZ => ?_⟩
  cases r with
  | cons r1 r2 =>
    refine ⟨_, _, rfl, (h.run F σ Hd H _ w r1).mono fun σ1 H1 h1 => ?_⟩
    obtain ⟨Hd1, R1, e1, w1, wp1, q1⟩ := h1
    obtain ⟨t, p, f⟩ := q1.ex
    intro pins s us I rv
    refine p.run pins s σ1 H1 _ us Z I rv (f F σ1 Hd1 H1 _ w1 (dpAllMono e1 r2) Z fun Hd2 R2 σ2 H2 e2 w2 wp2 q2 => hZ Hd2 R2 σ2 H2 (e1.trans e2) w2 (fun ws hw => ?_) q2)
    rw [wp2 ws fun j hj => hw j (List.mem_append_right _ hj), wp1 ws fun j hj => hw j (List.mem_append_left _ hj)]
theorem wg_tup {k : Nat} {js : List Nat} {xs : List D} {n : Nat} {Q : DS → Prop} (hc : X.calm = true) (h : WGs X P es js R xs Q) (hl : xs.length = n)
    (hn : (assignEach es X.env).length = n := by rfl) (hst : (assignEach es X.env).findIdx? (·.1) = none := by rfl) : WG X P (.Tuple es k pos) js R (.tuple xs) Q := by
  obtain ⟨t, p, f⟩ := h.ex
  refine ⟨fun F σ Hd H v w r => TGm.of (pg_tup hc p hn hst) ?_⟩
  cases r with
  | tup h1 h2 => exact ⟨_, _, rfl, sameT w.dat (SqT.of h1), (dpAllLen h2).trans hl, f F σ Hd H _ w h2 _ fun Hd' R' σ' H' e' w' wp q => ⟨Hd', R', e', w', wp, q⟩⟩

/-! statements -/
variable {D' : DEnds} {st : Stmt} {sts rest : List Stmt}
theorem up_here {K : PySem.W.Frag} {F : Fr} {Hd : Hp} {q : DS → Prop} {σ : L2.St} {H : Hp} (w : Wd K F P R σ Hd H) (h : q R) : up K F P Hd q σ H := ⟨Hd, R, Same.refl _, w, h⟩
theorem wss_nil (q : D'.nx R) : WSs X P [] R D' := .of pss_nil fun F σ Hd H w => up_here w q
theorem wss_one (h : WS X P st R D') : WSs X P [st] R D' := .of (pss_one ps_m) fun F σ Hd H w => h.run F σ Hd H w
theorem wss_cons (h : WS X P st R { D' with nx := fun R1 => WSs X P rest R1 D' }) : WSs X P (st :: rest) R D' :=
  .of (pss_cons ps_m pss_m) fun F σ Hd H w => (h.run F σ Hd H w).mono ⟨fun σ' H' h => by
    obtain ⟨Hd1, R1, e1, w1, q1⟩ := h
    exact (q1.run F σ' Hd1 H' w1).mono (upD_le e1), fun _ _ h => h, fun _ _ h => h, fun _ _ h => h⟩
/-- a name's own thing becomes data, a name is forgotten: anywhere -/
theorem wss_fz (i : Nat) {ds : List D} (hi : R[i]? = some (.own (.lst ds))) (hP : i ∉ P) (h : WSs X P sts (R.set i (.d (.list ds))) D') : WSs X P sts R D' :=
  ⟨fun F σ Hd H w => by
    obtain ⟨Hd1, v, _, e1, w1, _⟩ := w.fz hi hP
    exact (h.run F σ Hd1 H w1).mono (upD_le e1)⟩
theorem ws_pass (q : D'.nx R) : WS X P (.Pass pos) R D' := .of ps_pass fun F σ Hd H w => up_here w q
theorem ws_break (q : D'.bk R) : WS X P (.Break pos) R D' := .of ps_break fun F σ Hd H w => up_here w q
theorem ws_continue (q : D'.ct R) : WS X P (.Continue pos) R D' := .of ps_continue fun F σ Hd H w => up_here w q
theorem ws_doc {x : Str} {j : _} {pos' : Pos} (q : D'.nx R) : WS X P (.Expr (.Constant (.str x) j pos) pos') R D' := .of ps_doc fun F σ Hd H w => up_here w q
theorem ws_expr (h : WE X P e R fun _ R1 => D'.nx R1) (hs : swapsWith e none pos.line X.env = pure false := by rfl) : WS X P (.Expr e pos) R D' :=
  .of (ps_expr pe_m hs) fun F σ Hd H w => h.use w fun Hd1 R1 sv v H1 e1 w1 r1 q1 => ⟨Hd1, R1, e1, w1, q1⟩
/-- what goes into a name -/
def put (i : Nat) (R : DS) (k : DS → Prop) : SV → Prop
  | .d x => k (R.set i (.d x))
  | .own m => k (R.set i (.own m))
  | _ => False
theorem put_ok {K : PySem.W.Frag} {F : Fr} {Hd H : Hp} {σ : L2.St} {i : Nat} {sv : SV} {v : V} {k : DS → Prop} (w : Wd K F P R σ Hd H) (r : Rp K F R σ Hd H sv v) (hP : i ∉ P) (h : put i R k sv) : up K F P Hd k (σ.set i (some v)) H := by
  unfold put at h
  split at h
  · exact ⟨Hd, _, Same.refl _, w.setD hP r, h⟩
  · obtain ⟨a, o, rfl, ha, hc, hd, hf, hn⟩ := r
    exact ⟨Hd, _, Same.refl _, w.setOwn hP ha hc hd hf hn, h⟩
  · cases h
theorem ws_set {i : Nat} {x : Str} {pos' : Pos} (hN : X.N.Nodup) (hi : X.N[i]? = some x) (hx : Loc X.env.scope x) (hP : i ∉ P) (h : WE X P e R fun sv R1 => put i R1 D'.nx sv)
    (hs : swapsWith e (some (.Name x pos')) pos.line X.env = pure false := by rfl) (hf : X.fn x = true ∨ X.env.scope.names.lookup x = some .local := by first | exact .inl rfl | exact .inr rfl | assumption) : WS X P (.Assign [.Name x pos'] e pos) R D' :=
  .of (ps_set hN hi hx pe_m hs hf) fun F σ Hd H w => h.use w fun Hd1 R1 sv v H1 e1 w1 r1 q1 => up_same e1 (put_ok w1 r1 hP q1)
/-- a, b = e -/
theorem ws_unp {js : List Nat} (h : WE X P e R fun sv R1 => asD sv fun x => WG X P tg js R1 x D'.nx) (hs : swapsWithSole [tg] e pos.line X.env = pure false := by rfl) (hw : swappedStores [tg] e X.env = pure none := by rfl)
    (h1 : (assignEach [tg] X.env).map (·.2) = [assign tg X.env] := by rfl) : WS X P (.Assign [tg] e pos) R D' :=
  .of (ps_asg pe_m pg_m hs hw h1) fun F σ Hd H w => h.fzD.use w fun Hd1 R1 sv v H1 e1 w1 r1 q1 => by
    obtain ⟨x, rfl, q1⟩ := q1
    exact (q1.run F σ Hd1 H1 v w1 r1).mono fun σ' H' ⟨Hd', R', e', w', _, q⟩ => ⟨Hd', R', e1.trans e', w', q⟩
theorem ws_if {A B : List Stmt} (h : WT X P c R fun k R1 => (k = true → WSs X P A R1 D') ∧ (k = false → WSs X P B R1 D')) : WS X P (.If c A B pos) R D' :=
  .of (ps_if pt_m pss_m pss_m) fun F σ Hd H w => h.use w fun Hd1 R1 k H1 e1 w1 q1 => by
    cases k with
    | true => exact iteT (((q1.1 rfl).run F σ Hd1 H1 w1).mono (upD_le e1))
    | false => exact iteF (((q1.2 rfl).run F σ Hd1 H1 w1).mono (upD_le e1))
/-- what is handed back -/
def ret (P : List Nat) (R : DS) (k : SV → DS → Prop) : SV → Prop
  | .d x => k (.d x) R
  | .own m => k (.own m) R
  | .loc i => i ∉ P ∧ ∃ m, R[i]? = some (.own m) ∧ k (.own m) R
  | .no => False
  | .ex _ _ _ => False
theorem ws_ret (h : WE X P e R fun sv R1 => ret P R1 D'.rt sv) : WS X P (.Return (some e) pos) R D' :=
  .of (ps_ret pe_m) fun F σ Hd H w => h.use w fun Hd1 R1 sv v H1 e1 w1 r1 q1 => by
    have pins : ∀ i, i ∈ P → ∃ m o, R1[i]? = some (SV.own m) ∧ H1 (F.al i) = some o ∧ CRp X.K Hd1 m o ∧ Hd1 (F.al i) = none := fun i hi => by
      obtain ⟨m, h1, h2⟩ := w1.pin i hi
      obtain ⟨a, o, s1, s2, s3, s4, _⟩ := w1.own i m h1
      rw [h2] at s1
      cases s1
      exact ⟨m, o, h1, s2, s3, s4⟩
    unfold ret at q1
    split at q1
    · rename_i x
      exact ⟨Hd1, R1, .d x, e1, ⟨w1.dat, w1.frm, ⟨fun a ha => (w1.prot a ha).1, w1.tabs.1, w1.tabs.2.1⟩, pins, r1⟩, q1⟩
    · rename_i m
      obtain ⟨a, o, rfl, ha, hc, hd, hf, hn⟩ := r1
      refine ⟨Hd1, R1, .own m, e1, ⟨w1.dat, w1.frm, ⟨fun a ha => (w1.prot a ha).1, w1.tabs.1, w1.tabs.2.1⟩, pins, a, o, rfl, ha, hc, hd, hf, fun i hi z => ?_⟩, q1⟩
      obtain ⟨n, h1, h2⟩ := w1.pin i hi
      rw [z] at h2
      exact hn i n h1 h2
    · rename_i i
      obtain ⟨hP, m, hm, q1⟩ := q1
      obtain ⟨a, o, s1, s2, s3, s4, s5⟩ := w1.own i m hm
      have s6 := r1.1
      rw [s1] at s6
      cases s6
      refine ⟨Hd1, R1, .own m, e1, ⟨w1.dat, w1.frm, ⟨fun a ha => (w1.prot a ha).1, w1.tabs.1, w1.tabs.2.1⟩, pins, a, o, rfl, s2, s3, s4, s5, fun j hj z => ?_⟩, q1⟩
      obtain ⟨n, h1, h2⟩ := w1.pin j hj
      rw [z] at h2
      exact hP ((w1.apart i j m n a hm h1 s1 h2) ▸ hj)
    · cases q1
    · cases q1
/-- a list that a name holds gets one more -/
theorem ws_append {o : Expr} {apos cpos : Pos} (pe : PE X (.Call (.Attribute o "append" apos) [e] [] cpos) (tBM X.K "list" rAppend (TEm X o) (tCons (TEm X e) tNil)))
    (h : WE X P o R fun x R1 => ∃ i ds0, x = .loc i ∧ R1[i]? = some (.own (.lst ds0)) ∧ WE X P e R1 fun y R2 => asD y fun d => ∃ ds, R2[i]? = some (.own (.lst ds)) ∧ ds.length < sizeLine ∧ D'.nx (R2.set i (.own (.lst (ds ++ [d])))))
    (hsw : swapsWith (.Call (.Attribute o "append" apos) [e] [] cpos) none pos.line X.env = pure false := by rfl) : WS X P (.Expr (.Call (.Attribute o "append" apos) [e] [] cpos) pos) R D' :=
  .of (ps_expr pe hsw) fun F σ Hd H w => h.use w fun Hd1 R1 sv v H1 e1 w1 r1 q1 => by
    obtain ⟨i, ds0, rfl, h0, q1⟩ := q1
    obtain ⟨a, vs, rfl, hl, _⟩ := Rp.list w1 r1 (show vL R1 (.loc i) = some ds0 by unfold vL; simp only [h0])
    refine ⟨.inl ⟨rfl, vs, hl⟩, q1.fzD.use w1 fun Hd2 R2 y u H2 e2 w2 r2 q2 => ?_⟩
    obtain ⟨d, rfl, ds, hR, hz, q⟩ := q2
    obtain ⟨a', o', s1, s2, ⟨vs', rfl, hv⟩, _⟩ := w2.own i _ hR
    have s3 := r1.1
    rw [s1] at s3
    cases s3
    refine ⟨a, vs', u, rfl, rfl, s2, by rw [dpAllLen hv]; exact hz, Hd2, _, e1.trans e2, w2.change hR s1 (crL (dpAllApp hv (.cons r2 .nil))), q⟩
/-- d[k] = v: a dict of int keys that a name holds -/
theorem paired_any {κ : Type} [DecidableEq κ] {G : (κ × D) → (κ × V) → Prop} (hG : ∀ p q, G p q → p.1 = q.1) (k : κ) : ∀ {kvs : List (κ × D)} {ws : List (κ × V)}, Paired G kvs ws → (ws.any fun kv => decide (kv.1 = k)) = kvs.any fun kv => decide (kv.1 = k)
  | _, _, .nil => rfl
  | _, _, .cons (a := p) (b := q) h t => by
    rw [List.any_cons, List.any_cons, paired_any hG k t, hG p q h]
def putD {κ : Type} [DecidableEq κ] (kvs : List (κ × D)) (k : κ) (v : D) : List (κ × D) := if (kvs.any fun kv => decide (kv.1 = k)) = true then kvs.map (fun kv => if kv.1 = k then (kv.1, v) else kv) else kvs ++ [(k, v)]
theorem paired_map {κ : Type} [DecidableEq κ] {K : PySem.W.Frag} {H : Hp} (k : κ) {v : V} {d : D} (r : Dq K H v d) : ∀ {kvs : List (κ × D)} {ws : List (κ × V)}, Paired (fun (p : κ × D) (q : κ × V) => p.1 = q.1 ∧ Dq K H q.2 p.2) kvs ws →
    Paired (fun (p : κ × D) (q : κ × V) => p.1 = q.1 ∧ Dq K H q.2 p.2) (kvs.map fun kv => if kv.1 = k then (kv.1, d) else kv) (ws.map fun kv => if kv.1 = k then (kv.1, v) else kv)
  | _, _, .nil => .nil
  | _, _, .cons (a := p) (b := q) h t => by
    rw [List.map_cons, List.map_cons]
    refine .cons ?_ (paired_map k r t)
    by_cases e : p.1 = k
    · rw [if_pos e, if_pos (h.1 ▸ e)]
      exact ⟨h.1, r⟩
    · rw [if_neg e, if_neg (fun z => e (h.1.trans z))]
      exact h
theorem paired_app {α β : Type} {G : α → β → Prop} {x : α} {y : β} (g : G x y) : ∀ {kvs : List α} {ws : List β}, Paired G kvs ws → Paired G (kvs ++ [x]) (ws ++ [y])
  | _, _, .nil => .cons g .nil
  | _, _, .cons h t => .cons h (paired_app g t)
theorem put_dp {κ : Type} [DecidableEq κ] {K : PySem.W.Frag} {H : Hp} (k : κ) {v : V} {d : D} (r : Dq K H v d) {kvs : List (κ × D)} {ws : List (κ × V)} (h : Paired (fun (p : κ × D) (q : κ × V) => p.1 = q.1 ∧ Dq K H q.2 p.2) kvs ws) :
    Paired (fun (p : κ × D) (q : κ × V) => p.1 = q.1 ∧ Dq K H q.2 p.2) (putD kvs k d) (putK ws k v) := by
  unfold putD putK
  rw [paired_any (fun _ _ h => h.1) k h]
  split
  · exact paired_map k r h
  · exact paired_app ⟨rfl, r⟩ h
theorem pairedLen {α β : Type} {G : α → β → Prop} : ∀ {kvs : List α} {ws : List β}, Paired G kvs ws → ws.length = kvs.length
  | _, _, .nil => rfl
  | _, _, .cons _ t => by rw [List.length_cons, List.length_cons, pairedLen t]
theorem crK {K : PySem.W.Frag} {Hd : Hp} {kvs : List (Key × D)} {ws : List (Key × V)} (h : Paired (fun (p : Key × D) (q : Key × V) => p.1 = q.1 ∧ Dq K Hd q.2 p.2) kvs ws) : CRp K Hd (.dK kvs) (.dK ws) := ⟨ws, rfl, h⟩
theorem ws_dput {o k : Expr} {pos' : Pos} (hu : X.A.units + 1 < cLine) (h : WE X P e R fun z R1 => asD z fun d => WE X P o R1 fun x R2 => ∃ i, x = .loc i ∧ WE X P k R2 fun y R3 => asI y fun n => ∃ kvs, R3[i]? = some (.own (.dK kvs)) ∧ kvs.length < sizeLine ∧ D'.nx (R3.set i (.own (.dK (putD kvs (Sum.inl n) d)))))
    (hs : swapsWith e (some (.Subscript o k pos')) pos.line X.env = pure false := by rfl) : WS X P (.Assign [.Subscript o k pos'] e pos) R D' :=
  .of (ps_dput hu pe_m pe_m pe_m hs) fun F σ Hd H w => h.fzD.use w fun Hd1 R1 z v H1 e1 w1 r1 q1 => by
    obtain ⟨d, rfl, q1⟩ := q1
    exact q1.use w1 fun Hd2 R2 x u H2 e2 w2 r2 q2 => by
      obtain ⟨i, rfl, q2⟩ := q2
      exact q2.use w2 fun Hd3 R3 y t H3 e3 w3 r3 q3 => by
        obtain ⟨n, rfl, kvs, hR, hz, q⟩ := q3.elim
        cases (show Dq _ _ t (.int n) from r3)
        obtain ⟨a, o', s1, s2, ⟨ws, rfl, hv⟩, _⟩ := w3.own i _ hR
        have s3 := r2.1
        rw [s1] at s3
        cases s3
        exact ⟨a, _, rfl, DPut.k (k := Sum.inl n) s2 (by rw [pairedLen hv]; exact hz), Hd3, _, (e1.trans e2).trans e3, w3.change hR s1 (crK (put_dp (Sum.inl n) (dpMono (e2.trans e3) r1) hv)), q⟩
/-- xs[k] = v: a list that a name holds -/
theorem ws_lput {o k : Expr} {pos' : Pos} (hg : PG X (.Subscript o k pos') (gSub (TEm X o) (TEm X k) rSetL))
    (h : WE X P e R fun z R1 => asD z fun d => WE X P o R1 fun x R2 => ∃ i, x = .loc i ∧ WE X P k R2 fun y R3 => asI y fun n => ∃ ds j, R3[i]? = some (.own (.lst ds)) ∧ ixN ds.length n = some j ∧ D'.nx (R3.set i (.own (.lst (ds.set j d)))))
    (hs : swapsWithSole [.Subscript o k pos'] e pos.line X.env = pure false := by rfl) (hw : swappedStores [.Subscript o k pos'] e X.env = pure none := by rfl)
    (h1 : (assignEach [.Subscript o k pos'] X.env).map (·.2) = [assign (.Subscript o k pos') X.env] := by rfl) : WS X P (.Assign [.Subscript o k pos'] e pos) R D' :=
  .of (ps_asg pe_m hg hs hw h1) fun F σ Hd H w => h.fzD.use w fun Hd1 R1 z v H1 e1 w1 r1 q1 => by
    obtain ⟨d, rfl, q1⟩ := q1
    exact q1.use w1 fun Hd2 R2 x u H2 e2 w2 r2 q2 => by
      obtain ⟨i, rfl, q2⟩ := q2
      exact q2.use w2 fun Hd3 R3 y t H3 e3 w3 r3 q3 => by
        obtain ⟨n, rfl, ds, j, hR, hj, q⟩ := q3.elim
        cases (show Dq _ _ t (.int n) from r3)
        obtain ⟨a, o', s1, s2, ⟨vs, rfl, hv⟩, _⟩ := w3.own i _ hR
        have s3 := r2.1
        rw [s1] at s3
        cases s3
        exact ⟨a, vs, n, j, rfl, rfl, s2, by rw [dpAllLen hv]; exact hj, Hd3, _, (e1.trans e2).trans e3, w3.change hR s1 (crL (dpAllSet (dpMono (e2.trans e3) r1) j hv)), q⟩

/-! loops -/
def bodyD (I : DS → Prop) (D' : DEnds) : DEnds := { nx := I, rt := D'.rt, bk := D'.nx, ct := I }
theorem turn_le {K : PySem.W.Frag} {F : Fr} {Hd Hd1 Hd2 : Hp} {I : DS → Prop} {Z : Ends} (e1 : Same Hd Hd1) (e2 : Same Hd1 Hd2) (hZ : Le (upD K F P Hd1 D') Z) :
    Le (upD K F P Hd2 (bodyD I D')) { Z with nx := up K F P Hd1 I, ct := up K F P Hd1 I, bk := Z.nx } :=
  ⟨fun _ _ h => up_same e2 h, fun _ _ h => hZ.2.1 _ _ ((upD_le (D := D') e2).2.1 _ _ h), fun _ _ h => hZ.1 _ _ (up_same e2 h), fun _ _ h => up_same e2 h⟩
theorem ws_forL {js : List Nat} {it : Expr} {body : List Stmt} (hp : PassesOwn (model X.prog X.w) X.A X.env X.xe) (hc : X.calm = true)
    (h : WE X P it R fun sv R1 => asD sv fun d => ∃ (xs : List D) (I : Nat → DS → Prop), d = .list xs ∧ I 0 R1 ∧
      (∀ i x R', xs[i]? = some x → I i R' → WG X P tg js R' x fun R2 => WSs X P body R2 (bodyD (I (i + 1)) D')) ∧ (∀ R', I xs.length R' → D'.nx R'))
    (hs : ∀ x, foldedSetIterable it X.env x = pure x := by intro _; rfl) : WS X P (.For tg it body [] pos) R D' :=
  .of (ps_for hp hc (pi_list pe_m) pg_m pss_m hs) fun F σ Hd H w => h.fzD.use w fun Hd1 R1 sv v H1 e1 w1 r1 q1 => by
    obtain ⟨d, rfl, xs, I, rfl, i0, step, fin⟩ := q1
    have r' : Dq X.K Hd1 v (.list xs) := r1
    cases r' with
    | lst hS hv =>
      rename_i a vs
      refine ⟨a, rfl, ⟨vs, w1.dat.seq hS⟩, for_list (fun i σ' H' => up X.K F P Hd1 (I i) σ' H') ⟨Hd1, R1, Same.refl _, w1, i0⟩ (fun i σ' H' _ ⟨Hd', R', e', w', _⟩ => w'.dat.seq (e'.seq hS)) (fun i x σ' H' hx ⟨Hd', R', e', w', hi⟩ => ?_) (fun σ' H' ⟨Hd', R', e', w', hi⟩ => ⟨Hd', R', e1.trans e', w', fin R' (by rw [← dpAllLen hv]; exact hi)⟩)⟩
      obtain ⟨z, hz, hdp⟩ := dpAllGetV hv hx
      refine ((step i z R' hz hi).run F σ' Hd' H' x w' (dpMono e' hdp)).mono fun σ2 H2 ⟨Hd2, R2, e2, w2, _, q2⟩ => ?_
      exact (q2.run F σ2 Hd2 H2 w2).mono (turn_le e1 (e'.trans e2) (upD_le e1))
theorem ws_forT {js : List Nat} {it : Expr} {body : List Stmt} (hp : PassesOwn (model X.prog X.w) X.A X.env X.xe) (hc : X.calm = true)
    (h : WE X P it R fun sv R1 => asD sv fun d => ∃ (xs : List D) (I : Nat → DS → Prop), d = .tuple xs ∧ I 0 R1 ∧
      (∀ i x R', xs[i]? = some x → I i R' → WG X P tg js R' x fun R2 => WSs X P body R2 (bodyD (I (i + 1)) D')) ∧ (∀ R', I xs.length R' → D'.nx R'))
    (hs : ∀ x, foldedSetIterable it X.env x = pure x := by intro _; rfl) : WS X P (.For tg it body [] pos) R D' :=
  .of (ps_for hp hc (pi_tup pe_m) pg_m pss_m hs) fun F σ Hd H w => h.fzD.use w fun Hd1 R1 sv v H1 e1 w1 r1 q1 => by
    obtain ⟨d, rfl, xs, I, rfl, i0, step, fin⟩ := q1
    have r' : Dq X.K Hd1 v (.tuple xs) := r1
    cases r' with
    | tup hS hv =>
      rename_i a vs
      refine ⟨a, rfl, ⟨vs, sameT w1.dat (SqT.of hS)⟩, for_tup (fun i σ' H' => up X.K F P Hd1 (I i) σ' H') ⟨Hd1, R1, Same.refl _, w1, i0⟩ (fun i σ' H' _ ⟨Hd', R', e', w', _⟩ => sameT w'.dat (sameT e' (SqT.of hS))) (fun i x σ' H' hx ⟨Hd', R', e', w', hi⟩ => ?_) (fun σ' H' ⟨Hd', R', e', w', hi⟩ => ⟨Hd', R', e1.trans e', w', fin R' (by rw [← dpAllLen hv]; exact hi)⟩)⟩
      obtain ⟨z, hz, hdp⟩ := dpAllGetV hv hx
      refine ((step i z R' hz hi).run F σ' Hd' H' x w' (dpMono e' hdp)).mono fun σ2 H2 ⟨Hd2, R2, e2, w2, _, q2⟩ => ?_
      exact (q2.run F σ2 Hd2 H2 w2).mono (turn_le e1 (e'.trans e2) (upD_le e1))
theorem ws_forR {js : List Nat} {body : List Stmt} {p pc : Pos} (hp : PassesOwn (model X.prog X.w) X.A X.env X.xe) (hc : X.calm = true) (hm : X.mg "range" = none) (hg : Gl X "range")
    (h : WE X P a R fun sv R1 => asI sv fun n => (-(2 ^ 62) ≤ n ∧ n < 2 ^ 62) ∧ ∃ (I : Nat → DS → Prop), I 0 R1 ∧
      (∀ (i : Nat) R', (i : Int) < n → I i R' → WG X P tg js R' (.int (i : Int)) fun R2 => WSs X P body R2 (bodyD (I (i + 1)) D')) ∧ (∀ R', I n.toNat R' → D'.nx R'))
    (ha : starEach [a] X.env = (false, eval a X.env) :: starEach [] X.env := by rfl) (ha2 : starEach [a] X.env = [(false, eval a X.env)] := by rfl)
    (hs : ∀ x, foldedSetIterable (.Call (.Name "range" p) [a] [] pc) X.env x = pure x := by intro _; rfl) : WS X P (.For tg (.Call (.Name "range" p) [a] [] pc) body [] pos) R D' :=
  .of (ps_for hp hc (pi_range1 hg hm (pa_cons pe_m pa_nil ha) ha2) pg_m pss_m hs) fun F σ Hd H w => h.use w fun Hd1 R1 sv v H1 e1 w1 r1 q1 => by
    obtain ⟨n, rfl, hn, I, i0, step, fin⟩ := q1.elim
    cases (show Dq _ _ v (.int n) from r1)
    refine ⟨n, rfl, hn.1, hn.2, for_range (lo := 0) (n := n.toNat) (fun i σ' H' => up X.K F P Hd1 (I i) σ' H') ⟨Hd1, R1, Same.refl _, w1, i0⟩ (fun i σ' H' hi ⟨Hd', R', e', w', hI⟩ => ?_) (fun σ' H' ⟨Hd', R', e', w', hi⟩ => ⟨Hd', R', e1.trans e', w', fin R' hi⟩)⟩
    have e0 : (0 : Int) + (i : Int) = (i : Int) := Int.zero_add _
    rw [e0]
    refine ((step i R' (by omega) hI).run F σ' Hd' H' _ w' (.int (i : Int))).mono fun σ2 H2 ⟨Hd2, R2, e2, w2, _, q2⟩ => ?_
    exact (q2.run F σ2 Hd2 H2 w2).mono (turn_le e1 (e'.trans e2) (upD_le e1))
theorem ws_while {body : List Stmt} (hp : PassesOwn (model X.prog X.w) X.A X.env X.xe) (I : Nat → DS → Prop) (m0 : Nat) (i0 : I m0 R)
    (h : ∀ m R', I m R' → WT X P c R' fun b R2 => (b = true → WSs X P body R2 (bodyD (fun R3 => ∃ m', m' < m ∧ I m' R3) D')) ∧ (b = false → D'.nx R2)) : WS X P (.While c body [] pos) R D' :=
  .of (ps_while hp pt_m pss_m) fun F σ Hd H w => by
    refine ⟨fun m σ' H' => up X.K F P Hd (I m) σ' H', ⟨m0, up_here w i0⟩, fun m σ' H' ⟨Hd', R', e', w', hi⟩ => (h m R' hi).use w' fun Hd2 R2 b H2 e2 w2 q2 => ?_⟩
    cases b with
    | true =>
      refine iteT ⟨up X.K F P Hd (fun R3 => ∃ m', m' < m ∧ I m' R3), fun σ3 H3 ⟨Hd3, R3, e3, w3, m', hm, h3⟩ => ⟨m', hm, Hd3, R3, e3, w3, h3⟩, ((q2.1 rfl).run F σ' Hd2 H2 w2).mono (turn_le (Hd := Hd) (Same.refl _) (e'.trans e2) (upD_le (Same.refl _)))⟩
    | false => exact iteF ⟨Hd2, R2, e'.trans e2, w2, q2.2 rfl⟩
end
end Dl
namespace Dl
open PySem PySem.Spec PyProof.Rows L2
def wipeR (R : DS) : List Nat → DS
  | [] => R
  | v :: vs => (wipeR R vs).set v .no
def NoOwn (R : DS) (σ : L2.St) (a : Addr) : Prop := ∀ (i : Nat) (n : MC), R[i]? = some (SV.own n) → σ[i]? ≠ some (some (V.ref a))
section
variable {K : PySem.W.Frag} {F : Fr} {P : List Nat} {R : DS} {σ : L2.St} {Hd H : Hp} {a : Addr} {o : HO}
theorem wipeR_some {i : Nat} {x : SV} (hx : x ≠ .no) : ∀ {vs : List Nat}, (wipeR R vs)[i]? = some x → R[i]? = some x ∧ i ∉ vs
  | [], h => ⟨h, by simp⟩
  | v :: vs, h => by
    unfold wipeR at h
    by_cases hi : v = i
    · subst hi
      by_cases hv : v < (wipeR R vs).length
      · rw [List.getElem?_set_self hv] at h
        exact absurd (Option.some.inj h).symm hx
      · rw [List.getElem?_eq_none (by simpa using hv)] at h; cases h
    · rw [List.getElem?_set_ne hi] at h
      obtain ⟨h1, h2⟩ := wipeR_some hx h
      exact ⟨h1, by simp only [List.mem_cons, not_or]; exact ⟨fun e => hi e.symm, h2⟩⟩
theorem Wd.wiped (w : Wd K F P R σ Hd H) : ∀ {vs : List Nat}, (∀ v ∈ vs, v ∉ P) → Wd K F P (wipeR R vs) (wipe σ vs) Hd H
  | [], _ => w
  | v :: vs, h => (Wd.wiped w fun x hx => h x (List.mem_cons_of_mem _ hx)).setNo (h v List.mem_cons_self)
theorem Wd.unwipe {vs : List Nat} (w : Wd K F P R (wipe σ vs) Hd H) : Wd K F P R σ Hd H :=
  ⟨w.dat, w.frm, w.len.trans (wipe_length σ vs), fun i x e => by
    obtain ⟨v, e1, e2⟩ := w.val i x e
    exact ⟨v, (wipe_some e1).1, e2⟩, fun i m e => by
    obtain ⟨a, o, e1, e2⟩ := w.own i m e
    exact ⟨a, o, (wipe_some e1).1, e2⟩, fun i j m n a e1 e2 e3 e4 => by
    obtain ⟨a1, o1, f1, _⟩ := w.own i m e1
    obtain ⟨a2, o2, f2, _⟩ := w.own j n e2
    have g1 := (wipe_some f1).1
    have g2 := (wipe_some f2).1
    rw [e3] at g1
    rw [e4] at g2
    cases g1
    cases g2
    exact w.apart i j m n a e1 e2 f1 f2, fun i hi => by
    obtain ⟨m, e1, e2⟩ := w.pin i hi
    exact ⟨m, e1, (wipe_some e2).1⟩, w.prot, fun i a d fs e => ⟨(wipe_some (w.exs i a d fs e).1).1, (w.exs i a d fs e).2⟩, w.tabs⟩
def Fr.with (F : Fr) (a : Addr) (o : HO) : Fr := { F with Hf := upd F.Hf a o, Fz := fun b => F.Fz b ∨ b = a }
theorem Wd.enter (w : Wd K F P R σ Hd H) (ha : H a = some o) (hd : Hd a = none) (hn : NoOwn R σ a) (ho : PlainO o := by trivial) : Wd K (F.with a o) P R σ Hd H :=
  ⟨w.dat, fun b u e => by
    by_cases hb : b = a
    · subst hb
      have e' : upd F.Hf b o b = some u := e
      rw [upd_same] at e'
      cases e'
      exact ha
    · have e' : upd F.Hf a o b = some u := e
      rw [upd_ne hb] at e'
      exact w.frm b u e', w.len, w.val, fun i m e => by
    obtain ⟨b, u, e1, e2, e3, e4, e5⟩ := w.own i m e
    have ne : b ≠ a := fun z => by
      subst z
      exact hn i m e e1
    exact ⟨b, u, e1, e2, e3, e4, (upd_ne ne).trans e5⟩, w.apart, w.pin, fun b hb => by
    rcases hb with hb | hb
    · refine ⟨(w.prot b hb).1, ?_⟩
      by_cases z : b = a
      · subst z
        show upd F.Hf b o b ≠ none
        rw [upd_same]
        simp
      · show upd F.Hf a o b ≠ none
        rw [upd_ne z]
        exact (w.prot b hb).2
    · subst hb
      refine ⟨hd, ?_⟩
      show upd F.Hf b o b ≠ none
      rw [upd_same]
      simp, w.exs, w.tabs.1, w.tabs.2.1, noT_up w.tabs.2.2 ho⟩
theorem Wd.leave (w : Wd K (F.with a o) P R σ Hd H) (hf : F.Hf a = none) (hz : ¬ F.Fz a) : Wd K F P R σ Hd H ∧ H a = some o ∧ Hd a = none ∧ NoOwn R σ a := by
  have ha : H a = some o := w.frm a o upd_same
  refine ⟨⟨w.dat, fun b u e => w.frm b u ((upd_ne (ne_of_none e hf)).trans e), w.len, w.val, fun i m e => ?_, w.apart, w.pin, fun b hb => ?_, w.exs, w.tabs.1, w.tabs.2.1, fun b ps q => w.tabs.2.2 b ps ((upd_ne (ne_of_none q hf)).trans q)⟩, ha, (w.prot a (.inr rfl)).1, fun i n e z => ?_⟩
  · obtain ⟨b, u, e1, e2, e3, e4, e5⟩ := w.own i m e
    have e5' : upd F.Hf a o b = none := e5
    have ne : b ≠ a := fun z => by
      subst z
      rw [upd_same] at e5'
      cases e5'
    rw [upd_ne ne] at e5'
    exact ⟨b, u, e1, e2, e3, e4, e5'⟩
  · have h := w.prot b (.inl hb)
    have ne : b ≠ a := fun z => hz (z ▸ hb)
    have h2 : upd F.Hf a o b ≠ none := h.2
    rw [upd_ne ne] at h2
    exact ⟨h.1, h2⟩
  · obtain ⟨b, u, e1, _, _, _, e5⟩ := w.own i n e
    rw [z] at e1
    cases e1
    have e5' : upd F.Hf a o a = none := e5
    rw [upd_same] at e5'
    cases e5'
theorem Wd.poke {o0 : HO} (w : Wd K F P R σ Hd H) (ha : H a = some o0) (hb : Bare o0) (hd : Hd a = none) (hf : F.Hf a = none) (hn : NoOwn R σ a) : Wd K F P R σ Hd (upd H a o) :=
  ⟨fun b u e => by
    rw [upd_ne (ne_of_none e hd)]
    exact w.dat b u e, fun b u e => by
    rw [upd_ne (ne_of_none e hf)]
    exact w.frm b u e, w.len, w.val, fun i m e => by
    obtain ⟨b, u, e1, e2, e3, e4, e5⟩ := w.own i m e
    have ne : b ≠ a := fun z => by
      subst z
      exact hn i m e e1
    exact ⟨b, u, e1, by rw [upd_ne ne]; exact e2, e3, e4, e5⟩, w.apart, w.pin, w.prot, w.exs, tabs_poke w.tabs.1 ha hb, w.tabs.2⟩
theorem NoOwn.wiped {vs : List Nat} (h : NoOwn R σ a) : NoOwn (wipeR R vs) (wipe σ vs) a := fun i n e z =>
  h i n (wipeR_some (by intro y; cases y) e).1 (wipe_some z).1
theorem NoOwn.unwipe {vs : List Nat} (h : NoOwn R (wipe σ vs) a) (w : Wd K F P R (wipe σ vs) Hd H) : NoOwn R σ a := fun i n e z => by
  obtain ⟨b, u, e1, _⟩ := w.own i n e
  have e2 := (wipe_some e1).1
  rw [z] at e2
  cases e2
  exact h i n e e1
end

theorem wipe_in : ∀ (l : List Nat) (τ : L2.St) (vs : List Nat), (∀ v ∈ l, v ∈ vs) → wipe (wipe τ vs) l = wipe τ vs
  | [], _, _, _ => rfl
  | v :: l, τ, vs, hl => by
    show (wipe (wipe τ vs) l).set v none = wipe τ vs
    rw [wipe_in l τ vs fun y hy => hl y (List.mem_cons_of_mem _ hy)]
    have hv : v ∈ vs := hl v List.mem_cons_self
    apply List.ext_getElem?
    intro k
    by_cases hk : v = k
    · subst hk
      by_cases hv2 : v < (wipe τ vs).length
      · rw [List.getElem?_set_self hv2]
        cases q : (wipe τ vs)[v]? with
        | none => rw [List.getElem?_eq_none_iff] at q; omega
        | some y =>
          cases y with
          | none => rfl
          | some z => exact absurd hv (wipe_some q).2
      · rw [List.getElem?_eq_none (by simpa using hv2), List.getElem?_eq_none (by omega)]
    · rw [List.getElem?_set_ne hk]
theorem wipe_wipe (τ : L2.St) (vs : List Nat) : wipe (wipe τ vs) vs = wipe τ vs := wipe_in vs τ vs fun _ h => h

/-! comprehensions -/
def AllB (X : Cx) (scope : Scope) (f : Cx → Prop) : Prop := ∀ (s : Shared) (H : Hp) (C : Addr) (cl : List (Str × Addr)) (fp : List Addr), f (X.blk s H scope (compEnvC scope cl C X.env) fp)
def gB (X : Cx) (scope : Scope) (tg : Expr) : TG := fun v σ H Z => AllB X scope fun Y => TGm Y tg v σ H Z
def teB (X : Cx) (scope : Scope) (e : Expr) : TE := fun σ H Z => AllB X scope fun Y => TEm Y e σ H Z
def ttB (X : Cx) (scope : Scope) (c : Expr) : TT := fun σ H Z => AllB X scope fun Y => TTm Y c σ H Z
/-- where a comprehension stands ahead of turn i -/
def Lp (K : PySem.W.Frag) (F : Fr) (P : List Nat) (τ : L2.St) (Hd1 : Hp) (I : Nat → List D → DS → Prop) (Dl : Addr) (i : Nat) (H' : Hp) : Prop :=
  ∃ Hd' R' va acc, Same Hd1 Hd' ∧ Wd K F P R' τ Hd' H' ∧ H' Dl = some (.lst va) ∧ DqAll K Hd' va acc ∧ Hd' Dl = none ∧ NoOwn R' τ Dl ∧ acc.length ≤ i ∧ I i acc R'
section
variable {X : Cx} {P : List Nat} {R : DS} {elt tg it c : Expr} {scope : Scope} {own : List (Str × Nat)} {js : List Nat} {pos : Pos} {Q : SV → DS → Prop}
/-- one turn, no test -/
def Tn0 (X : Cx) (P : List Nat) (scope : Scope) (tg elt : Expr) (js vs : List Nat) (I : Nat → List D → DS → Prop) (i : Nat) (acc : List D) (x : D) (R' : DS) : Prop :=
  AllB X scope fun Y => WG Y P tg js R' x fun R2 => AllB X scope fun Y => WE Y P elt R2 fun y R4 => asD y fun z => I (i + 1) (acc ++ [z]) (wipeR R4 vs)
def Tn1 (X : Cx) (P : List Nat) (scope : Scope) (tg c elt : Expr) (js vs : List Nat) (I : Nat → List D → DS → Prop) (i : Nat) (acc : List D) (x : D) (R' : DS) : Prop :=
  AllB X scope fun Y => WG Y P tg js R' x fun R2 => AllB X scope fun Y => WT Y P c R2 fun b R3 =>
    (b = true → AllB X scope fun Y => WE Y P elt R3 fun y R4 => asD y fun z => I (i + 1) (acc ++ [z]) (wipeR R4 vs)) ∧ (b = false → I (i + 1) acc (wipeR R3 vs))
theorem lp_push {F : Fr} {σ σ2 : L2.St} {vs : List Nat} {Hd1 Hd2 : Hp} {Dl : Addr} {I : Nat → List D → DS → Prop} {i : Nat} {acc : List D} {va : List V} (hf : F.Hf Dl = none) (hz : ¬ F.Fz Dl) (hvs : ∀ v ∈ vs, v ∉ P) (hw : wipe σ2 vs = wipe σ vs)
    (hl : acc.length ≤ i) (hi : i < sizeLine) {R3 : DS} {H3 : Hp} (e : Same Hd1 Hd2) (w : Wd X.K (F.with Dl (.lst va)) P R3 σ2 Hd2 H3) (hv : DqAll X.K Hd2 va acc)
    (h : AllB X scope fun Y => WE Y P elt R3 fun y R4 => asD y fun z => I (i + 1) (acc ++ [z]) (wipeR R4 vs)) :
    teB X scope elt σ2 H3 fun y H4 => ∃ acc', H4 Dl = some (.lst acc') ∧ acc'.length < sizeLine ∧ Lp X.K F P (wipe σ vs) Hd1 I Dl (i + 1) (upd H4 Dl (.lst (acc' ++ [y]))) :=
  fun s H0 C cl fp => (h s H0 C cl fp).fzD.use w fun Hd4 R4 y u H4 e4 w4 r4 q4 => by
    obtain ⟨z, rfl, q⟩ := q4
    obtain ⟨w5, g1, g2, g3⟩ := Wd.leave w4 hf hz
    refine ⟨va, g1, by rw [dpAllLen hv]; omega, Hd4, wipeR R4 vs, va ++ [u], acc ++ [z], e.trans e4, ?_, upd_same, dpAllApp (dpAllMono e4 hv) (.cons r4 .nil), g2, ?_, by rw [List.length_append]; simpa using hl, q⟩
    · rw [← hw]
      exact (w5.poke g1 (crp_bare (crL (K := X.K) (dpAllMono e4 hv))) g2 hf g3).wiped hvs
    · rw [← hw]
      exact g3.wiped
theorem lp_skip {F : Fr} {σ σ2 : L2.St} {vs : List Nat} {Hd1 Hd2 : Hp} {Dl : Addr} {I : Nat → List D → DS → Prop} {i : Nat} {acc : List D} {va : List V} (hf : F.Hf Dl = none) (hz : ¬ F.Fz Dl) (hvs : ∀ v ∈ vs, v ∉ P) (hw : wipe σ2 vs = wipe σ vs)
    (hl : acc.length ≤ i) {R3 : DS} {H3 : Hp} (e : Same Hd1 Hd2) (w : Wd X.K (F.with Dl (.lst va)) P R3 σ2 Hd2 H3) (hv : DqAll X.K Hd2 va acc) (h : I (i + 1) acc (wipeR R3 vs)) : Lp X.K F P (wipe σ vs) Hd1 I Dl (i + 1) H3 := by
  obtain ⟨w5, g1, g2, g3⟩ := Wd.leave w hf hz
  refine ⟨Hd2, wipeR R3 vs, va, acc, e, ?_, g1, hv, g2, ?_, by omega, h⟩
  · rw [← hw]
    exact w5.wiped hvs
  · rw [← hw]
    exact g3.wiped

/-- what a turn leads to -/
def Nxt (X : Cx) (scope : Scope) (elt : Expr) (F : Fr) (P : List Nat) (τ : L2.St) (Hd1 : Hp) (I : Nat → List D → DS → Prop) (Dl : Addr) (i : Nat) (σ2 : L2.St) (b : Bool) (H3 : Hp) : Prop :=
  if b = true then teB X scope elt σ2 H3 fun y H4 => ∃ acc, H4 Dl = some (.lst acc) ∧ acc.length < sizeLine ∧ Lp X.K F P τ Hd1 I Dl (i + 1) (upd H4 Dl (.lst (acc ++ [y]))) else Lp X.K F P τ Hd1 I Dl (i + 1) H3
theorem lp_turn0 {F : Fr} {σ : L2.St} {vs : List Nat} {Hd1 : Hp} {Dl : Addr} {I : Nat → List D → DS → Prop} {i : Nat} {x : V} {H : Hp} (hf : F.Hf Dl = none) (hz : ¬ F.Fz Dl) (hvs : ∀ v ∈ vs, v ∉ P) (hj : ∀ j ∈ js, j ∈ vs) (hi : i < sizeLine)
    (h : Lp X.K F P (wipe σ vs) Hd1 I Dl i H) (step : ∀ Hd' R' acc, Same Hd1 Hd' → I i acc R' → ∃ d, Dq X.K Hd' x d ∧ Tn0 X P scope tg elt js vs I i acc d R') :
    gB X scope tg x (wipe σ vs) H fun σ2 H2 => wipe σ2 vs = wipe σ vs ∧ tYes σ2 H2 (Nxt X scope elt F P (wipe σ vs) Hd1 I Dl i σ2) := by
  obtain ⟨Hd', R', va, acc, e, w, h1, h2, h3, h4, h5, h6⟩ := h
  obtain ⟨d, hd, tn⟩ := step Hd' R' acc e h6
  intro s H0 C cl fp
  refine ((tn s H0 C cl fp).run (F.with Dl (.lst va)) _ Hd' H x (w.enter h1 h3 h4) hd).mono fun σ2 H2 ⟨Hd2, R2, e2, w2, wp, q2⟩ => ?_
  have hw : wipe σ2 vs = wipe σ vs := by rw [wp vs hj, wipe_wipe]
  refine ⟨hw, ?_⟩
  show Nxt X scope elt F P (wipe σ vs) Hd1 I Dl i σ2 true H2
  exact iteT (lp_push hf hz hvs hw h5 hi (e.trans e2) w2 (dpAllMono e2 h2) q2)
theorem lp_turn1 {F : Fr} {σ : L2.St} {vs : List Nat} {Hd1 : Hp} {Dl : Addr} {I : Nat → List D → DS → Prop} {i : Nat} {x : V} {H : Hp} (hf : F.Hf Dl = none) (hz : ¬ F.Fz Dl) (hvs : ∀ v ∈ vs, v ∉ P) (hj : ∀ j ∈ js, j ∈ vs) (hi : i < sizeLine)
    (h : Lp X.K F P (wipe σ vs) Hd1 I Dl i H) (step : ∀ Hd' R' acc, Same Hd1 Hd' → I i acc R' → ∃ d, Dq X.K Hd' x d ∧ Tn1 X P scope tg c elt js vs I i acc d R') :
    gB X scope tg x (wipe σ vs) H fun σ2 H2 => wipe σ2 vs = wipe σ vs ∧ ttB X scope c σ2 H2 (Nxt X scope elt F P (wipe σ vs) Hd1 I Dl i σ2) := by
  obtain ⟨Hd', R', va, acc, e, w, h1, h2, h3, h4, h5, h6⟩ := h
  obtain ⟨d, hd, tn⟩ := step Hd' R' acc e h6
  intro s H0 C cl fp
  refine ((tn s H0 C cl fp).run (F.with Dl (.lst va)) _ Hd' H x (w.enter h1 h3 h4) hd).mono fun σ2 H2 ⟨Hd2, R2, e2, w2, wp, q2⟩ => ?_
  have hw : wipe σ2 vs = wipe σ vs := by rw [wp vs hj, wipe_wipe]
  refine ⟨hw, fun s H0 C cl fp => (q2 s H0 C cl fp).use w2 fun Hd3 R3 b H3 e3 w3 q3 => ?_⟩
  cases b with
  | true => exact iteT (lp_push hf hz hvs hw h5 hi ((e.trans e2).trans e3) w3 (dpAllMono (e2.trans e3) h2) (q3.1 rfl))
  | false => exact iteF (lp_skip hf hz hvs hw h5 ((e.trans e2).trans e3) w3 (dpAllMono (e2.trans e3) h2) (q3.2 rfl))
theorem lp_start {F : Fr} {σ : L2.St} {vs : List Nat} {Hd1 H1 : Hp} {Dl : Addr} {I : Nat → List D → DS → Prop} {R1 : DS} (w : Wd X.K F P R1 σ Hd1 H1) (hD : H1 Dl = none) (hvs : ∀ v ∈ vs, v ∉ P) (h : I 0 [] (wipeR R1 vs)) :
    Lp X.K F P (wipe σ vs) Hd1 I Dl 0 (upd H1 Dl (.lst [])) ∧ F.Hf Dl = none ∧ ¬ F.Fz Dl := by
  have hf : F.Hf Dl = none := sameNone w.frm hD
  have no : NoOwn R1 σ Dl := fun i n e z => by
    obtain ⟨b, u, e1, e2, _⟩ := w.own i n e
    rw [z] at e1
    cases e1
    rw [hD] at e2
    cases e2
  exact ⟨⟨Hd1, _, [], [], Same.refl _, (w.allocH hD).wiped hvs, upd_same, .nil, sameNone w.dat hD, no.wiped, Nat.le_refl _, h⟩, hf, fun z => (w.prot Dl z).2 hf⟩
theorem lp_end {F : Fr} {σ : L2.St} {vs : List Nat} {Hd1 H : Hp} {Dl : Addr} {I : Nat → List D → DS → Prop} {n : Nat} {Q : SV → DS → Prop} (hf : F.Hf Dl = none) (h : Lp X.K F P (wipe σ vs) Hd1 I Dl n H) (fin : ∀ acc R', I n acc R' → Q (.own (.lst acc)) R') : Post X.K F P σ Hd1 Q (.ref Dl) H := by
  obtain ⟨Hd', R', va, acc, e, w, h1, h2, h3, h4, h5, h6⟩ := h
  exact ⟨Hd', R', .own (.lst acc), e, w.unwipe, ⟨Dl, _, rfl, h1, crL h2, h3, hf, h4.unwipe w⟩, fin acc R' h6⟩
/-- the three sources -/
inductive Src (X : Cx) (P : List Nat) (R : DS) : Expr → (List D → DS → Prop) → Prop where
  | list {it : Expr} {G : List D → DS → Prop} (h : WE X P it R fun sv R1 => asD sv fun d => ∃ xs, d = .list xs ∧ G xs R1) : Src X P R it G
  | tup {it : Expr} {G : List D → DS → Prop} (h : WE X P it R fun sv R1 => asD sv fun d => ∃ xs, d = .tuple xs ∧ G xs R1) : Src X P R it G
  | rng {a : Expr} {p pos : Pos} {G : List D → DS → Prop} (hm : X.mg "range" = none) (hg : Gl X "range") (ha : starEach [a] X.env = (false, eval a X.env) :: starEach [] X.env) (ha2 : starEach [a] X.env = [(false, eval a X.env)])
      (h : WE X P a R fun sv R1 => asI sv fun n => (-(2 ^ 62) ≤ n ∧ n < 2 ^ 62) ∧ G ((List.range n.toNat).map fun i : Nat => .int (i : Int)) R1) : Src X P R (.Call (.Name "range" p) [a] [] pos) G
/-- the reading of a comprehension: with tests as tt -/
theorem lc_core {tt : TT} {vs : List Nat} {Tn : (Nat → List D → DS → Prop) → Nat → List D → D → DS → Prop} {G : (List D → DS → Prop)}
    (turn : ∀ (F : Fr) (σ : L2.St) (Hd1 : Hp) (Dl : Addr) (I : Nat → List D → DS → Prop) (i : Nat) (x : V) (H : Hp), F.Hf Dl = none → ¬ F.Fz Dl → i < sizeLine → Lp X.K F P (wipe σ vs) Hd1 I Dl i H →
      (∀ Hd' R' acc, Same Hd1 Hd' → I i acc R' → ∃ d, Dq X.K Hd' x d ∧ Tn I i acc d R') → gB X scope tg x (wipe σ vs) H fun σ2 H2 => wipe σ2 vs = wipe σ vs ∧ tt σ2 H2 (Nxt X scope elt F P (wipe σ vs) Hd1 I Dl i σ2))
    (hvs : ∀ v ∈ vs, v ∉ P)
    (hG : ∀ xs R1, G xs R1 → xs.length ≤ sizeLine ∧ ∃ I : Nat → List D → DS → Prop, I 0 [] (wipeR R1 vs) ∧ (∀ i x acc R', xs[i]? = some x → I i acc R' → Tn I i acc x R') ∧ ∀ acc R', I xs.length acc R' → Q (.own (.lst acc)) R')
    (hsrc : Src X P R it G) : ∃ wi, PI X tg it wi ∧ Fits X P R (tLc wi (gB X scope tg) tt (teB X scope elt) vs) Q := by
  cases hsrc with
  | list h =>
    refine ⟨_, pi_list pe_m, fun F σ Hd H w Z hZ => h.fzD.use w fun Hd1 R1 sv v H1 e1 w1 r1 q1 => ?_⟩
    obtain ⟨d, rfl, xs, rfl, g⟩ := q1
    obtain ⟨hl, I, i0, step, fin⟩ := hG xs R1 g
    have r' : Dq X.K Hd1 v (.list xs) := r1
    cases r' with
    | lst hS hv =>
      rename_i a ws
      refine ⟨a, rfl, ⟨ws, w1.dat.seq hS⟩, fun Dl hD => ?_⟩
      obtain ⟨l0, hf, hz⟩ := lp_start (vs := vs) w1 hD hvs i0
      refine lc_list (K := X.K) (xs := ws) (Lp X.K F P (wipe σ vs) Hd1 I Dl) l0 (fun i H' _ ⟨Hd', R', va, acc, e', w', _⟩ => w'.dat.seq (e'.seq hS)) (fun i x H' hx hL => ?_) (fun H' hL => hZ _ _ (.same e1 (lp_end hf (by rw [dpAllLen hv] at hL; exact hL) fin)))
      obtain ⟨z, hz1, hdp⟩ := dpAllGetV hv hx
      have hi : i < xs.length := (List.getElem?_eq_some_iff.mp hz1).1
      exact turn F σ Hd1 Dl I i x H' hf hz (by omega) hL fun Hd' R' acc e' hI => ⟨z, dpMono e' hdp, step i z acc R' hz1 hI⟩
  | tup h =>
    refine ⟨_, pi_tup pe_m, fun F σ Hd H w Z hZ => h.fzD.use w fun Hd1 R1 sv v H1 e1 w1 r1 q1 => ?_⟩
    obtain ⟨d, rfl, xs, rfl, g⟩ := q1
    obtain ⟨hl, I, i0, step, fin⟩ := hG xs R1 g
    have r' : Dq X.K Hd1 v (.tuple xs) := r1
    cases r' with
    | tup hS hv =>
      rename_i a ws
      refine ⟨a, rfl, ⟨ws, sameT w1.dat (SqT.of hS)⟩, fun Dl hD => ?_⟩
      obtain ⟨l0, hf, hz⟩ := lp_start (vs := vs) w1 hD hvs i0
      refine lc_tup (K := X.K) (xs := ws) (Lp X.K F P (wipe σ vs) Hd1 I Dl) l0 (fun i H' _ ⟨Hd', R', va, acc, e', w', _⟩ => sameT w'.dat (sameT e' (SqT.of hS))) (fun i x H' hx hL => ?_) (fun H' hL => hZ _ _ (.same e1 (lp_end hf (by rw [dpAllLen hv] at hL; exact hL) fin)))
      obtain ⟨z, hz1, hdp⟩ := dpAllGetV hv hx
      have hi : i < xs.length := (List.getElem?_eq_some_iff.mp hz1).1
      exact turn F σ Hd1 Dl I i x H' hf hz (by omega) hL fun Hd' R' acc e' hI => ⟨z, dpMono e' hdp, step i z acc R' hz1 hI⟩
  | rng hm hg ha ha2 h =>
    refine ⟨_, pi_range1 hg hm (pa_cons pe_m pa_nil ha) ha2, fun F σ Hd H w Z hZ => h.use w fun Hd1 R1 sv v H1 e1 w1 r1 q1 => ?_⟩
    obtain ⟨n, rfl, hn, g⟩ := q1.elim
    cases (show Dq _ _ v (.int n) from r1)
    obtain ⟨hl, I, i0, step, fin⟩ := hG _ R1 g
    rw [List.length_map, List.length_range] at hl fin
    refine ⟨n, rfl, hn.1, hn.2, fun Dl hD => ?_⟩
    obtain ⟨l0, hf, hz⟩ := lp_start (vs := vs) w1 hD hvs i0
    refine lc_range (lo := 0) (n := n.toNat) (Lp X.K F P (wipe σ vs) Hd1 I Dl) l0 (fun i H' hi hL => ?_) (fun H' hL => hZ _ _ (.same e1 (lp_end hf hL fin)))
    have e0 : (0 : Int) + (i : Int) = (i : Int) := Int.zero_add _
    rw [e0]
    exact turn F σ Hd1 Dl I i _ H' hf hz (by omega) hL fun Hd' R' acc e' hI => ⟨.int (i : Int), .int _, step i _ acc R' (by rw [List.getElem?_map, List.getElem?_range hi]; rfl) hI⟩
/-- what is asked of a comprehension -/
structure LcG (Q : SV → DS → Prop) (Tn : (Nat → List D → DS → Prop) → Nat → List D → D → DS → Prop) (vs : List Nat) (xs : List D) (R1 : DS) : Prop where
  ex : xs.length ≤ sizeLine ∧ ∃ I : Nat → List D → DS → Prop, I 0 [] (wipeR R1 vs) ∧ (∀ i x acc R', xs[i]? = some x → I i acc R' → Tn I i acc x R') ∧ ∀ acc R', I xs.length acc R' → Q (.own (.lst acc)) R'
theorem we_lc0 (own : List (Str × Nat)) (js : List Nat) (hc : X.calm = true) (hN : X.N.Nodup) (ok : BlkOk X.N X.env.scope scope own) (hvs : ∀ v ∈ own.map (·.2), v ∉ P) (hj : ∀ j ∈ js, j ∈ own.map (·.2))
    (h : Src X P R it (LcG Q (Tn0 X P scope tg elt js (own.map (·.2))) (own.map (·.2)))) (hs : ∀ x, foldedSetIterable it X.env x = pure x := by intro _; rfl) : WE X P (.ListComp elt [⟨tg, it, [], 0⟩] scope pos) R Q := by
  obtain ⟨wi, pi, f⟩ := lc_core (tg := tg) (elt := elt) (scope := scope) (tt := tYes) (Q := Q) (Tn := Tn0 X P scope tg elt js (own.map (·.2))) (fun F σ Hd1 Dl I i x H hf hz hi hL step => lp_turn0 hf hz hvs hj hi hL step) hvs (fun xs R1 g => g.ex) h
  exact .fit (pe_lc (own := own) hc hN pi ok (fun s H C cl fp => ⟨fun pins s' σ H' v u Z I r h => h s H C cl fp pins s' u I r⟩) (fun _ _ _ _ _ => pts_nil) (fun s H C cl fp => ⟨fun pins s' σ H' Z I h => h s H C cl fp pins s' I⟩) hs) f
theorem we_lc1 (own : List (Str × Nat)) (js : List Nat) (hc : X.calm = true) (hN : X.N.Nodup) (ok : BlkOk X.N X.env.scope scope own) (hvs : ∀ v ∈ own.map (·.2), v ∉ P) (hj : ∀ j ∈ js, j ∈ own.map (·.2))
    (h : Src X P R it (LcG Q (Tn1 X P scope tg c elt js (own.map (·.2))) (own.map (·.2)))) (hs : ∀ x, foldedSetIterable it X.env x = pure x := by intro _; rfl) : WE X P (.ListComp elt [⟨tg, it, [c], 0⟩] scope pos) R Q := by
  obtain ⟨wi, pi, f⟩ := lc_core (tg := tg) (elt := elt) (scope := scope) (tt := ttB X scope c) (Q := Q) (Tn := Tn1 X P scope tg c elt js (own.map (·.2))) (fun F σ Hd1 Dl I i x H hf hz hi hL step => lp_turn1 hf hz hvs hj hi hL step) hvs (fun xs R1 g => g.ex) h
  exact .fit (pe_lc (own := own) hc hN pi ok (fun s H C cl fp => ⟨fun pins s' σ H' v u Z I r h => h s H C cl fp pins s' u I r⟩) (fun s H C cl fp => pts_one ⟨fun pins s' σ H' Z I h => h s H C cl fp pins s' I⟩) (fun s H C cl fp => ⟨fun pins s' σ H' Z I h => h s H C cl fp pins s' I⟩) hs) f
/-- name = [..] -/
theorem ws_setLc0 {i : Nat} {y : Str} {py spos : Pos} {D' : DEnds} (own : List (Str × Nat)) (js : List Nat) (hc : X.calm = true) (hN : X.N.Nodup) (hy : X.N[i]? = some y) (hyl : X.env.scope.names.lookup y = some .local)
    (hsw : swapsWith (.ListComp elt [⟨tg, it, [], 0⟩] scope pos) (some (.Name y py)) spos.line X.env = pure true) (ok : BlkOk X.N X.env.scope scope own) (hP : i ∉ P) (hvs : ∀ v ∈ own.map (·.2), v ∉ P) (hj : ∀ j ∈ js, j ∈ own.map (·.2))
    (h : Src X P R it (LcG (fun sv R1 => put i R1 D'.nx sv) (Tn0 X P scope tg elt js (own.map (·.2))) (own.map (·.2)))) (hs : ∀ x, foldedSetIterable it X.env x = pure x := by intro _; rfl) : WS X P (.Assign [.Name y py] (.ListComp elt [⟨tg, it, [], 0⟩] scope pos) spos) R D' := by
  obtain ⟨wi, pi, f⟩ := lc_core (tg := tg) (elt := elt) (scope := scope) (tt := tYes) (Q := fun sv R1 => put i R1 D'.nx sv) (Tn := Tn0 X P scope tg elt js (own.map (·.2))) (fun F σ Hd1 Dl I i x H hf hz hi hL step => lp_turn0 hf hz hvs hj hi hL step) hvs (fun xs R1 g => g.ex) h
  exact .of (ps_setLc (own := own) hc hN hy hyl hsw pi ok (fun s H C cl fp => ⟨fun pins s' σ H' v u Z I r h => h s H C cl fp pins s' u I r⟩) (fun _ _ _ _ _ => pts_nil) (fun s H C cl fp => ⟨fun pins s' σ H' Z I h => h s H C cl fp pins s' I⟩) hs) fun F σ Hd H w => f F σ Hd H w _ fun v H' ⟨Hd', R', sv, e1, w1, r1, q1⟩ => up_same e1 (put_ok w1 r1 hP q1)
theorem ws_setLc1 {i : Nat} {y : Str} {py spos : Pos} {D' : DEnds} (own : List (Str × Nat)) (js : List Nat) (hc : X.calm = true) (hN : X.N.Nodup) (hy : X.N[i]? = some y) (hyl : X.env.scope.names.lookup y = some .local)
    (hsw : swapsWith (.ListComp elt [⟨tg, it, [c], 0⟩] scope pos) (some (.Name y py)) spos.line X.env = pure true) (ok : BlkOk X.N X.env.scope scope own) (hP : i ∉ P) (hvs : ∀ v ∈ own.map (·.2), v ∉ P) (hj : ∀ j ∈ js, j ∈ own.map (·.2))
    (h : Src X P R it (LcG (fun sv R1 => put i R1 D'.nx sv) (Tn1 X P scope tg c elt js (own.map (·.2))) (own.map (·.2)))) (hs : ∀ x, foldedSetIterable it X.env x = pure x := by intro _; rfl) : WS X P (.Assign [.Name y py] (.ListComp elt [⟨tg, it, [c], 0⟩] scope pos) spos) R D' := by
  obtain ⟨wi, pi, f⟩ := lc_core (tg := tg) (elt := elt) (scope := scope) (tt := ttB X scope c) (Q := fun sv R1 => put i R1 D'.nx sv) (Tn := Tn1 X P scope tg c elt js (own.map (·.2))) (fun F σ Hd1 Dl I i x H hf hz hi hL step => lp_turn1 hf hz hvs hj hi hL step) hvs (fun xs R1 g => g.ex) h
  exact .of (ps_setLc (own := own) hc hN hy hyl hsw pi ok (fun s H C cl fp => ⟨fun pins s' σ H' v u Z I r h => h s H C cl fp pins s' u I r⟩) (fun s H C cl fp => pts_one ⟨fun pins s' σ H' Z I h => h s H C cl fp pins s' I⟩) (fun s H C cl fp => ⟨fun pins s' σ H' Z I h => h s H C cl fp pins s' I⟩) hs) fun F σ Hd H w => f F σ Hd H w _ fun v H' ⟨Hd', R', sv, e1, w1, r1, q1⟩ => up_same e1 (put_ok w1 r1 hP q1)
end
end Dl
namespace Dl
open PySem PySem.Spec PyProof.Rows L2
/-! defs, where nothing else is being shown around them -/
structure FnG (Pg : Program) (w : World) (K : PySem.W.Frag) (mg : Str → Option Value) (base : Heap) (CX : CXT) (k : Nat) (f : Addr) (fd : FuncData) (ps : List Str) (sp : Sp) : Prop where
  len : ∀ vs H Q E, sp vs H Q E → vs.length = ps.length
  run : ∀ (A : Around) (outer : List Env) (s : Shared) (H : Hp) (args : Args) (us : List Value) (vs : List V) (Q : VK) (E : XK), A.guards = some [] → Room k A → Env0 Pg w K mg base A outer s H → BindsTo s fd args (ps.zip us) → Vals vs us → sp vs H Q E →
    codeAny (model Pg w) A (.call (.ref f) args) (CR CX outer Pg w H s Q E) s
theorem FnG.up {Pg : Program} {w : World} {K : PySem.W.Frag} {mg : Str → Option Value} {base : Heap} {CX : CXT} {j k : Nat} {f : Addr} {fd : FuncData} {ps : List Str} {sp : Sp} (G : FnG Pg w K mg base CX j f fd ps sp) (h : j ≤ k) : FnG Pg w K mg base CX k f fd ps sp :=
  ⟨G.len, fun A outer s H args us vs Q E g r => G.run A outer s H args us vs Q E g (r.mono h)⟩
theorem fnG_of {CX : CXT} {Pg : Program} {w : World} {K : PySem.W.Frag} {mg : Str → Option Value} {base : Heap} {k : Nat} {x qual : Str} {st : Stmt} {f : Addr} {fd : FuncData} {N ps : List Str} {sp : Sp} (Fu : Fun K x qual st f fd) (S : FnScope N ps (defScope st))
    (len : ∀ vs H Q E, sp vs H Q E → vs.length = ps.length)
    (body : ∀ (cdv : Value) (A : Around) (outer : List Env) (s : Shared) (H : Hp) (vs : List V) (Q : VK) (E : XK), A.guards = some [] → Room k (A.deeper (envOfC qual (defScope st) s.heap.objs.size f cdv)) → sp vs H Q E →
      TSsm (cxOf CX Pg w K mg base N qual (defScope st) f cdv A outer s H E) (defBody st) { nx := fun _ H' => Q .non H', rt := Q } (start N vs) H) : FnG Pg w K mg base CX (k + 1) f fd ps sp := by
  obtain ⟨oc, od, kV, doc, pm, an, cdv, ct, osl, rfl, lk, hcd⟩ := Fu.ex
  refine ⟨len, fun A outer s H args us vs Q E hgd hr e0 hb r hsp => ?_⟩
  have hl : vs.length = ps.length := len _ _ _ _ hsp
  have kn : K.In s.heap := e0.mod.kin.keeps (h := base) fun b o q => (e0.bs b o q).1
  have lm : s.heap.NoLimit := e0.mod.nolimit.keeps (h := base) fun b o q => (e0.bs b o q).1
  refine codeAny_call_function hr.depth (kn _ _ lk) rfl S.co S.gen rfl (PySem.W.codeRec_of kn hcd) (hb _ _ _ _ (wpAny_newFunctionEnv_cells S.kind (fun y hy => ?_) fun env he s1 nw => ?_))
  · obtain ⟨n, v⟩ := y
    exact (S.par n (List.of_mem_zip hy).1).imp id fun q => ⟨q, PySem.W.cellsFrom_some _ _ _ (.inl q)⟩
  · subst he
    refine ⟨lm.keeps nw.toInCall.keep, codeAny_func ?_⟩
    have J := inv_start (CX := CX) (E := E) S hr.hd e0 hl r nw
    refine wpAny_mono (body cdv A outer s H vs Q E hgd (hr.deeper _) hsp [] s1 J) (fun fl s' hs => ?_) (fun e s' hs => hs)
    have done : ∀ {τ : L2.St} {H' : Hp} {v : V} {u : Value}, Inv (cxOf CX Pg w K mg base N qual (defScope st) f cdv A outer s H E) [] τ H' s' → RelV v u → Q v H' → CE outer Pg w H s Q u s' := fun {_ H' v _} I2 rv q => ⟨v, H', I2.os, I2.bare, I2.base, I2.hok, rv, q⟩
    cases fl with
    | next =>
      obtain ⟨τ, H', I2, q⟩ := hs
      exact done (v := V.non) (u := Value.none) I2 rfl q
    | ret u =>
      obtain ⟨v, τ, H', I2, rv, q⟩ := hs
      exact done I2 rv q
    | brk => exact hs.elim fun _ ⟨_, _, q⟩ => (q : False).elim
    | cont => exact hs.elim fun _ ⟨_, _, q⟩ => (q : False).elim
section
variable {X : Cx} {CX : CXT} {k : Nat} {f : Addr} {fd : FuncData} {ps : List Str} {sp : Sp} {ds : List Value} {dvs : List V} {E : XK} {x : Str} {p pos : Pos} {e : Expr} {es : List Expr} {t : TA}
theorem goG {pins : List (Addr × Obj)} {σ : L2.St} {H : Hp} {s : Shared} {Q : VK} {us : List Value} {vs : List V} (G : FnG X.prog X.w X.K X.mg X.base CX k f fd ps sp) (hgd : X.A.guards = some []) (hr : Room k X.A) (hb : Binds X.K fd ps ds) (hd : Vals dvs ds) (hx : Passes CX X E)
    (I : Inv X pins σ H s) (r : Vals vs us) (h : sp (vs ++ dvs) H Q E) : wpAny (model X.prog X.w) X.A (call (.ref f) us) (EP X pins σ Q) X.xe s := by
  have r2 := r.append hd
  have hl : (us ++ ds).length = ps.length := r2.length.symm.trans (G.len _ _ _ _ h)
  refine wpAny_call (codeAny_mono (G.run X.A X.stack s H _ _ _ Q E hgd hr I.env0 (hb s us I.kIn hl) r2 h) fun res s' hq => ?_)
  match res, hq with
  | .error ex, hq => exact hx pins σ H s ex s' I hq
  | .ok (.ret u), hq => exact I.after hq
  | .ok .next, hq => exact (hq : False).elim
  | .ok .brk, hq => exact (hq : False).elim
  | .ok .cont, hq => exact (hq : False).elim
theorem pe_callG (G : FnG X.prog X.w X.K X.mg X.base CX k f fd ps sp) (hgd : X.A.guards = some []) (hr : Room k X.A) (hg : Gl X x) (hm : X.mg x = some (.ref f)) (hk : PySem.W.keepIn X.K (.ref f) = true) (hb : Binds X.K fd ps ds) (hd : Vals dvs ds) (hx : Passes CX X E) (ha : PA X (e :: es) t)
    (hdb : (x == ("__debug__" : Str)) = false := by decide) (he : starEach (e :: es) X.env = (false, eval e X.env) :: starEach es X.env := by rfl) (hpl : (backTo pos (starEach es X.env)).any (·.1) = false := by rfl) : PE X (.Call (.Name x p) (e :: es) [] pos) (tCall sp dvs E t) :=
  ⟨fun pins s σ H Q I h => wpAny_Call_Name_kw (ld_glob I hg hm (PySem.W.callWith_K (h₀ := X.base) I.ok.mod.kin hk (thn (ha.run pos pins s σ H _ I h) fun us s1 ⟨vs, H1, I1, r, q⟩ => ⟨I1.kIn, goG G hgd hr hb hd hx I1 r q⟩) he hpl) hdb)⟩
end

/-! promises over data -/
abbrev SpD := DS → (SV → DS → Prop) → Prop
def isOwn : SV → Bool
  | .own _ => true
  | _ => false
def ownIx (R : DS) : List Nat := (List.range R.length).filter fun i => isOwn (R.getD i .no)
theorem mem_ownIx {R : DS} {i : Nat} : i ∈ ownIx R ↔ ∃ m, R[i]? = some (.own m) := by
  unfold ownIx
  rw [List.mem_filter, List.mem_range]
  constructor
  · rintro ⟨h1, h2⟩
    rw [List.getD_eq_getElem?_getD, List.getElem?_eq_getElem h1] at h2
    rw [List.getElem?_eq_getElem h1]
    simp only [Option.getD_some] at h2
    cases q : R[i] with
    | own m => exact ⟨m, rfl⟩
    | no => rw [q] at h2; cases h2
    | d x => rw [q] at h2; cases h2
    | ex _ _ _ => rw [q] at h2; cases h2
    | loc j => rw [q] at h2; cases h2
  · rintro ⟨m, h⟩
    refine ⟨(List.getElem?_eq_some_iff.mp h).1, ?_⟩
    rw [List.getD_eq_getElem?_getD, h]
    rfl
def liftS (K : PySem.W.Frag) (S : SpD) : Sp := fun vs H Q _ => ∃ F Hd R, Wd K F (ownIx R) R (vs.map some) Hd H ∧
  S R fun sv R' => ∀ Hd' v H', Same Hd Hd' → Fin K F (ownIx R) R' sv v Hd' H' → Q v H'
/-- a def that can be called: from where the top left it -/
structure Can (Pg : Program) (w : World) (K : PySem.W.Frag) (mg : Str → Option Value) (base : Heap) (k : Nat) (x : Str) (S : SpD) : Prop where
  ex : ∃ f fd ps, FnG Pg w K mg base CX0 k f fd ps (liftS K S) ∧ mg x = some (.ref f) ∧ PySem.W.keepIn K (.ref f) = true ∧ Binds K fd ps []
  mono : ∀ A Z Z', (∀ sv R', Z sv R' → Z' sv R') → S A Z → S A Z'
theorem Can.up {Pg : Program} {w : World} {K : PySem.W.Frag} {mg : Str → Option Value} {base : Heap} {j k : Nat} {x : Str} {S : SpD} (C : Can Pg w K mg base j x S) (h : j ≤ k) : Can Pg w K mg base k x S := by
  obtain ⟨f, fd, ps, G, h1, h2, h3⟩ := C.ex
  exact ⟨⟨f, fd, ps, G.up h, h1, h2, h3⟩, C.mono⟩
/-- what goes back into the names -/
def back : DS → List SV → DS → DS
  | R, .loc j :: svs, a :: as => back (R.set j a) svs as
  | R, _ :: svs, _ :: as => back R svs as
  | R, _, _ => R
theorem back_len : ∀ (svs : List SV) (R as : DS), (back R svs as).length = R.length
  | [], _, _ => rfl
  | s :: _, _, [] => by cases s <;> rfl
  | .loc j :: svs, R, a :: as => by
    show (back (R.set j a) svs as).length = R.length
    rw [back_len svs, List.length_set]
  | .no :: svs, R, a :: as => back_len svs R as
  | .d _ :: svs, R, a :: as => back_len svs R as
  | .own _ :: svs, R, a :: as => back_len svs R as
  | .ex _ _ _ :: svs, R, a :: as => back_len svs R as
theorem back_get {k : Nat} {y : SV} : ∀ (svs : List SV) (R as : DS), as.length = svs.length → (back R svs as)[k]? = some y → (R[k]? = some y ∧ ∀ i : Nat, svs[i]? ≠ some (SV.loc k)) ∨ ∃ i : Nat, svs[i]? = some (SV.loc k) ∧ as[i]? = some y
  | [], R, as, _, h => by
    refine .inl ⟨?_, fun i => by simp⟩
    cases as <;> exact h
  | s :: svs, R, [], hl, _ => by simp at hl
  | s :: svs, R, a :: as, hl, h => by
    have hl' : as.length = svs.length := by simpa using hl
    have ih := fun R0 (h0 : (back R0 svs as)[k]? = some y) => back_get svs R0 as hl' h0
    have go : ∀ R0, (back R0 svs as)[k]? = some y → (R0[k]? = some y → (R[k]? = some y ∧ s ≠ .loc k) ∨ (s = .loc k ∧ a = y)) → (R[k]? = some y ∧ ∀ i : Nat, (s :: svs)[i]? ≠ some (SV.loc k)) ∨ ∃ i : Nat, (s :: svs)[i]? = some (SV.loc k) ∧ (a :: as)[i]? = some y := by
      intro R0 h0 hR
      rcases ih R0 h0 with ⟨h1, h2⟩ | ⟨i, h1, h2⟩
      · rcases hR h1 with ⟨h3, h4⟩ | ⟨h3, h4⟩
        · refine .inl ⟨h3, fun i => ?_⟩
          cases i with
          | zero => simpa using h4
          | succ i => simpa using h2 i
        · exact .inr ⟨0, by simp [h3], by simp [h4]⟩
      · exact .inr ⟨i + 1, by simpa using h1, by simpa using h2⟩
    cases s with
    | loc j =>
      refine go (R.set j a) h fun h1 => ?_
      by_cases e : j = k
      · subst e
        by_cases hj : j < R.length
        · rw [List.getElem?_set_self hj] at h1
          exact .inr ⟨rfl, Option.some.inj h1⟩
        · rw [List.getElem?_eq_none (by simpa using hj)] at h1
          cases h1
      · rw [List.getElem?_set_ne e] at h1
        exact .inl ⟨h1, fun z => e (SV.loc.inj z)⟩
    | no => exact go R h fun h1 => .inl ⟨h1, by intro z; cases z⟩
    | d x => exact go R h fun h1 => .inl ⟨h1, by intro z; cases z⟩
    | own m => exact go R h fun h1 => .inl ⟨h1, by intro z; cases z⟩
    | ex _ _ _ => exact go R h fun h1 => .inl ⟨h1, by intro z; cases z⟩
/-- what an argument is inside -/
def cont (R : DS) : SV → SV
  | .loc i => R.getD i .no
  | x => x
/-- arguments: data, or a name's own thing, each name once -/
def ArgsOk (R : DS) (svs : List SV) : Prop :=
  (∀ i j : Nat, svs[i]? = some (SV.loc j) → ∃ m, R[j]? = some (.own m)) ∧ (∀ i i' j : Nat, svs[i]? = some (SV.loc j) → svs[i']? = some (SV.loc j) → i = i')
abbrev ArgRel (K : PySem.W.Frag) (σ : L2.St) (Hd : Hp) : SV → V → Prop := fun sv v => (match sv with | .d x => Dq K Hd v x | .loc i => σ[i]? = some (some v) | _ => False)
theorem paired_get {α β : Type} {G : α → β → Prop} : ∀ {xs : List α} {ys : List β} {i : Nat} {x : α}, Paired G xs ys → xs[i]? = some x → ∃ y, ys[i]? = some y ∧ G x y
  | _, _, _, _, .nil, e => by simp at e
  | _, _, 0, _, .cons g _, e => by
    simp at e
    subst e
    exact ⟨_, rfl, g⟩
  | _, _, i + 1, _, .cons _ t, e => by
    obtain ⟨y, h1, h2⟩ := paired_get (i := i) t (by simpa using e)
    exact ⟨y, by simpa using h1, h2⟩
theorem paired_len {α β : Type} {G : α → β → Prop} : ∀ {xs : List α} {ys : List β}, Paired G xs ys → xs.length = ys.length
  | _, _, .nil => rfl
  | _, _, .cons _ t => by rw [List.length_cons, List.length_cons, paired_len t]
theorem call_world {K : PySem.W.Frag} {F : Fr} {P : List Nat} {R : DS} {σ : L2.St} {Hd H : Hp} {svs : List SV} {vs : List V} (w : Wd K F P R σ Hd H) (rel : Paired (ArgRel K σ Hd) svs vs) (ok : ArgsOk R svs) :
    ∃ F', Wd K F' (ownIx (svs.map (cont R))) (svs.map (cont R)) (vs.map some) Hd H ∧
      ∀ Hd' R' sv v H', Same Hd Hd' → R'.length = svs.length → Fin K F' (ownIx (svs.map (cont R))) R' sv v Hd' H' → Wd K F P (back R svs R') σ Hd' H' ∧ Rp K F (back R svs R') σ Hd' H' sv v := by
  classical
  let pass : Addr → Prop := fun a => ∃ i j : Nat, svs[i]? = some (SV.loc j) ∧ σ[j]? = some (some (V.ref a))
  let isT : Addr → Prop := fun a => ∃ ps : Array Value, H a = some (.tbl ps)
  let F' : Fr := ⟨fun a => if pass a ∨ isT a then none else H a, fun i => match vs[i]? with | some (.ref a) => a | _ => 0, fun a => F.Fz a ∨ ((∃ (i : Nat) (m : MC), R[i]? = some (SV.own m) ∧ σ[i]? = some (some (V.ref a))) ∧ ¬ pass a)⟩
  have hfp : ∀ {a}, pass a → F'.Hf a = none := fun {a} h => if_pos (.inl h)
  have hfn : ∀ {a} {o : HO}, ¬ pass a → H a = some o → PlainO o → F'.Hf a = H a := fun {a o} h e ho => if_neg fun z => z.elim h fun ⟨ps, e2⟩ => by
    rw [e] at e2
    cases e2
    exact ho
  have plainF : ∀ {a : Addr} {u : HO}, F.Hf a = some u → PlainO u := fun {a u} q => by
    cases u with
    | tbl ps => exact w.tabs.2.2 a ps q
    | _ => trivial
  have passOwn : ∀ {a}, pass a → ∃ (j : Nat) (m : MC) (o : HO), R[j]? = some (SV.own m) ∧ σ[j]? = some (some (V.ref a)) ∧ H a = some o ∧ Hd a = none ∧ F.Hf a = none := fun {a} ⟨i, j, h1, h2⟩ => by
    obtain ⟨m, hm⟩ := ok.1 i j h1
    obtain ⟨b, o, s1, s2, s3, s4, s5⟩ := w.own j m hm
    rw [h2] at s1
    cases s1
    exact ⟨j, m, o, hm, h2, s2, s4, s5⟩
  have argOwn : ∀ {i : Nat} {m : MC}, (svs.map (cont R))[i]? = some (SV.own m) → ∃ (j : Nat) (a : Addr) (o : HO), svs[i]? = some (SV.loc j) ∧ R[j]? = some (SV.own m) ∧ σ[j]? = some (some (V.ref a)) ∧ vs[i]? = some (V.ref a) ∧ H a = some o ∧ CRp K Hd m o ∧ Hd a = none ∧ F.Hf a = none := fun {i m} h => by
    rw [List.getElem?_map] at h
    cases q : svs[i]? with
    | none => rw [q] at h; cases h
    | some s =>
      rw [q] at h
      have h' : cont R s = .own m := Option.some.inj h
      obtain ⟨v, hv, g⟩ := paired_get rel q
      cases s with
      | loc j =>
        have hR : R[j]? = some (.own m) := by
          obtain ⟨m', hm⟩ := ok.1 i j q
          have h' : R.getD j .no = .own m := h'
          rw [List.getD_eq_getElem?_getD, hm] at h'
          rw [hm]
          exact congrArg some h'
        obtain ⟨a, o, s1, s2, s3, s4, s5⟩ := w.own j m hR
        have g' : σ[j]? = some (some v) := g
        rw [s1] at g'
        cases g'
        exact ⟨j, a, o, rfl, hR, s1, hv, s2, s3, s4, s5⟩
      | ex _ _ _ => exact (g : False).elim
      | no => exact (g : False).elim
      | own _ => exact (g : False).elim
      | d x => cases h'
  have w' : Wd K F' (ownIx (svs.map (cont R))) (svs.map (cont R)) (vs.map some) Hd H := by
    refine ⟨w.dat, fun a u e => ?_, by rw [List.length_map, List.length_map]; exact paired_len rel, fun i x e => ?_, fun i m e => ?_, fun i i' m n a e1 e2 e3 e4 => ?_, fun i hi => ?_, fun a ha => ?_, fun i a d fs e => ?_, w.tabs.1, w.tabs.2.1, fun a ps q => ?_⟩
    · have e' : (if pass a ∨ isT a then none else H a) = some u := e
      split at e'
      · cases e'
      · exact e'
    · rw [List.getElem?_map] at e
      cases q : svs[i]? with
      | none => rw [q] at e; cases e
      | some s =>
        rw [q] at e
        have h' : cont R s = .d x := Option.some.inj e
        obtain ⟨v, hv, g⟩ := paired_get rel q
        cases s with
        | loc j =>
          obtain ⟨m, hm⟩ := ok.1 i j q
          have h' : R.getD j .no = .d x := h'
          rw [List.getD_eq_getElem?_getD, hm] at h'
          cases h'
        | no => exact (g : False).elim
        | own _ => exact (g : False).elim
        | ex _ _ _ => exact (g : False).elim
        | d y =>
          cases h'
          exact ⟨v, by rw [List.getElem?_map, hv]; rfl, g⟩
    · obtain ⟨j, a, o, h1, h2, h3, h4, h5, h6, h7, h8⟩ := argOwn e
      exact ⟨a, o, by rw [List.getElem?_map, h4]; rfl, h5, h6, h7, hfp ⟨i, j, h1, h3⟩⟩
    · obtain ⟨j, b, o, h1, h2, h3, h4, _⟩ := argOwn e1
      obtain ⟨j', b', o', h1', h2', h3', h4', _⟩ := argOwn e2
      rw [List.getElem?_map, h4] at e3
      rw [List.getElem?_map, h4'] at e4
      have z1 : b = a := V.ref.inj (Option.some.inj (Option.some.inj e3))
      have z2 : b' = a := V.ref.inj (Option.some.inj (Option.some.inj e4))
      subst z1
      subst z2
      have ej : j = j' := w.apart j j' m n _ h2 h2' h3 h3'
      subst ej
      exact ok.2 i i' j h1 h1'
    · obtain ⟨m, hm⟩ := mem_ownIx.mp hi
      obtain ⟨j, a, o, h1, h2, h3, h4, _⟩ := argOwn hm
      refine ⟨m, hm, ?_⟩
      rw [List.getElem?_map, h4]
      show some (some (V.ref a)) = some (some (V.ref (match vs[i]? with | some (.ref a) => a | _ => 0)))
      rw [h4]
    · rcases ha with ha | ⟨⟨i, m, h1, h2⟩, hp⟩
      · have h := w.prot a ha
        refine ⟨h.1, ?_⟩
        have np : ¬ pass a := fun z => by
          obtain ⟨_, _, _, _, _, _, _, h5⟩ := passOwn z
          exact h.2 h5
        cases q : F.Hf a with
        | none => exact absurd q h.2
        | some u => rw [hfn np (w.frm a u q) (plainF q), w.frm a u q]; simp
      · obtain ⟨b, o, s1, s2, s3, s4, s5⟩ := w.own i m h1
        rw [h2] at s1
        cases s1
        exact ⟨s4, by rw [hfn hp s2 (crp_plain s3), s2]; simp⟩
    · rw [List.getElem?_map] at e
      cases q : svs[i]? with
      | none => rw [q] at e; cases e
      | some s =>
        rw [q] at e
        have h' : cont R s = .ex a d fs := Option.some.inj e
        obtain ⟨v, hv, g⟩ := paired_get rel q
        cases s with
        | loc j =>
          obtain ⟨m, hm⟩ := ok.1 i j q
          have h' : R.getD j .no = .ex a d fs := h'
          rw [List.getD_eq_getElem?_getD, hm] at h'
          cases h'
        | no => exact (g : False).elim
        | own _ => exact (g : False).elim
        | ex _ _ _ => exact (g : False).elim
        | d y => cases h'
    · have q' : (if pass a ∨ isT a then none else H a) = some (HO.tbl ps) := q
      split at q'
      · cases q'
      · rename_i z
        exact z (.inr ⟨ps, q'⟩)
  refine ⟨F', w', fun Hd' R' sv v H' e hl fin => ?_⟩
  obtain ⟨f1, f2, ⟨f3, ft, fn⟩, f4, f5⟩ := fin
  -- where an own thing stands behind the call
  have own2 : ∀ {k : Nat} {m : MC}, (back R svs R')[k]? = some (SV.own m) → ∃ a o n, σ[k]? = some (some (V.ref a)) ∧ H' a = some o ∧ CRp K Hd' m o ∧ Hd' a = none ∧ F.Hf a = none ∧ R[k]? = some (SV.own n) ∧ (pass a → ∃ i, i ∈ ownIx (svs.map (cont R)) ∧ F'.al i = a) := fun {k m} h => by
    rcases back_get svs R R' hl h with ⟨h1, h2⟩ | ⟨i, h1, h2⟩
    · obtain ⟨a, o, s1, s2, s3, s4, s5⟩ := w.own k m h1
      have np : ¬ pass a := fun ⟨i, j, g1, g2⟩ => by
        obtain ⟨n, hn⟩ := ok.1 i j g1
        have := w.apart j k n m a hn h1 g2 s1
        subst this
        exact h2 i g1
      exact ⟨a, o, m, s1, f2 a o (by rw [hfn np s2 (crp_plain s3)]; exact s2), s3.mono e, f3 a (.inr ⟨⟨k, m, h1, s1⟩, np⟩), s5, h1, fun z => absurd z np⟩
    · obtain ⟨n, hn⟩ := ok.1 i k h1
      have hi : i ∈ ownIx (svs.map (cont R)) := mem_ownIx.mpr ⟨n, by
        rw [List.getElem?_map, h1]
        show some (R.getD k .no) = some (.own n)
        rw [List.getD_eq_getElem?_getD, hn]
        rfl⟩
      obtain ⟨m2, o, g1, g2, g3, g4⟩ := f4 i hi
      rw [h2] at g1
      cases g1
      obtain ⟨a, o2, s1, s2, s3, s4, s5⟩ := w.own k n hn
      obtain ⟨u, hu, g⟩ := paired_get rel h1
      have g' : σ[k]? = some (some u) := g
      rw [s1] at g'
      cases g'
      have ea : F'.al i = a := by
        show (match vs[i]? with | some (.ref a) => a | _ => 0) = a
        rw [hu]
      rw [ea] at g2 g4
      exact ⟨a, o, n, s1, g2, g3, g4, s5, hn, fun _ => ⟨i, hi, ea⟩⟩
  have w2 : Wd K F P (back R svs R') σ Hd' H' := by
    refine ⟨f1, fun a u q => ?_, (back_len svs R R').trans w.len, fun i x q => ?_, fun i m q => ?_, fun i j m n a e1 e2 e3 e4 => ?_, fun i hi => ?_, fun a ha => ⟨f3 a (.inl ha), (w.prot a ha).2⟩, fun i a d fs q => ?_, ft, fn, w.tabs.2.2⟩
    · have np : ¬ pass a := fun z => by
        obtain ⟨_, _, _, _, _, _, _, h5⟩ := passOwn z
        rw [h5] at q
        cases q
      exact f2 a u (by rw [hfn np (w.frm a u q) (plainF q)]; exact w.frm a u q)
    · rcases back_get svs R R' hl q with ⟨h1, _⟩ | ⟨i', h1, h2⟩
      · obtain ⟨v, s1, s2⟩ := w.val i x h1
        exact ⟨v, s1, dpMono e s2⟩
      · obtain ⟨n, hn⟩ := ok.1 i' i h1
        have hi : i' ∈ ownIx (svs.map (cont R)) := mem_ownIx.mpr ⟨n, by
          rw [List.getElem?_map, h1]
          show some (R.getD i .no) = some (.own n)
          rw [List.getD_eq_getElem?_getD, hn]
          rfl⟩
        obtain ⟨m2, o, g1, _⟩ := f4 i' hi
        rw [h2] at g1
        cases g1
    · obtain ⟨a, o, n, s1, s2, s3, s4, s5, _⟩ := own2 q
      exact ⟨a, o, s1, s2, s3, s4, s5⟩
    · obtain ⟨b, o, n1, s1, _, _, _, _, s6, _⟩ := own2 e1
      obtain ⟨b', o', n2, t1, _, _, _, _, t6, _⟩ := own2 e2
      exact w.apart i j n1 n2 a s6 t6 e3 e4
    · obtain ⟨m, h1, h2⟩ := w.pin i hi
      have hk : i < (back R svs R').length := by
        rw [back_len]
        exact (List.getElem?_eq_some_iff.mp h1).1
      have q : (back R svs R')[i]? = some (back R svs R')[i] := List.getElem?_eq_getElem hk
      rcases back_get svs R R' hl q with ⟨h3, _⟩ | ⟨i', h3, h4⟩
      · rw [h1] at h3
        exact ⟨m, by rw [q, ← Option.some.inj h3], h2⟩
      · have hi' : i' ∈ ownIx (svs.map (cont R)) := mem_ownIx.mpr ⟨m, by
          rw [List.getElem?_map, h3]
          show some (R.getD i .no) = some (.own m)
          rw [List.getD_eq_getElem?_getD, h1]
          rfl⟩
        obtain ⟨m2, o, g1, _⟩ := f4 i' hi'
        rw [h4] at g1
        exact ⟨m2, by rw [q, Option.some.inj g1], h2⟩
    · rcases back_get svs R R' hl q with ⟨h1, _⟩ | ⟨i', h1, h2⟩
      · exact ⟨(w.exs i a d fs h1).1, (w.exs i a d fs h1).2.mono e⟩
      · obtain ⟨n, hn⟩ := ok.1 i' i h1
        have hi : i' ∈ ownIx (svs.map (cont R)) := mem_ownIx.mpr ⟨n, by
          rw [List.getElem?_map, h1]
          show some (R.getD i .no) = some (.own n)
          rw [List.getD_eq_getElem?_getD, hn]
          rfl⟩
        obtain ⟨m2, o, g1, _⟩ := f4 i' hi
        rw [h2] at g1
        cases g1
  refine ⟨w2, ?_⟩
  cases sv with
  | no => exact (f5 : False).elim
  | loc _ => exact (f5 : False).elim
  | ex _ _ _ => exact (f5 : False).elim
  | d x => exact f5
  | own m =>
    obtain ⟨a, o, rfl, g2, g3, g4, g5, g6⟩ := f5
    have hH : ∀ {u : HO}, ¬ pass a → H a = some u → PlainO u → False := fun {u} np e1 e2 => by
      rw [hfn np e1 e2, e1] at g5
      cases g5
    refine ⟨a, o, rfl, g2, g3, g4, ?_, fun i n q z => ?_⟩
    · cases q : F.Hf a with
      | none => rfl
      | some u =>
        have np : ¬ pass a := fun z => by
          obtain ⟨_, _, _, _, _, _, _, h5⟩ := passOwn z
          rw [h5] at q
          cases q
        exact (hH np (w.frm a u q) (plainF q)).elim
    · obtain ⟨b, o', n', s1, _, _, _, _, s6, s7⟩ := own2 q
      rw [z] at s1
      cases s1
      obtain ⟨c, oc, t1, t2, t3, _⟩ := w.own i n' s6
      rw [z] at t1
      cases t1
      by_cases hp : pass a
      · obtain ⟨i', hi', ea⟩ := s7 hp
        exact g6 i' hi' ea
      · exact hH hp t2 (crp_plain t3)
section
variable {X : Cx} {P : List Nat} {R : DS} {a e : Expr} {es : List Expr} {pos p : Pos} {Q : SV → DS → Prop}
theorem wa_nil {Q : List SV → DS → Prop} (q : Q [] R) : WA X P [] R Q := ⟨fun F σ Hd H w => TAm.of pa_nil ⟨Hd, R, [], Same.refl _, w, .nil, q⟩⟩
theorem wa_cons {Q : List SV → DS → Prop} (h : WE X P a R fun sv R1 => stb sv fun x => WA X P es R1 fun svs R2 => Q (x :: svs) R2)
    (hs : starEach (a :: es) X.env = (false, eval a X.env) :: starEach es X.env := by rfl) : WA X P (a :: es) R Q :=
  ⟨fun F σ Hd H w => TAm.of (pa_cons pe_m pa_m hs) (h.stbX.use w fun Hd1 R1 sv v H1 e1 w1 r1 q1 =>
    (q1.2.run F σ Hd1 H1 w1).mono fun vs H2 ⟨Hd2, R2, svs, e2, w2, r2, q2⟩ => ⟨Hd2, R2, sv :: svs, e1.trans e2, w2, .cons (by
      cases sv with
      | no => exact (r1 : False).elim
      | own m => exact absurd rfl (q1.1.1 m)
      | ex a d fs => exact absurd rfl (q1.1.2 a d fs)
      | d x => exact dpMono e2 r1
      | loc i => exact r1.1) r2, q2⟩)⟩
/-- f(e, ..) -/
theorem we_call {x : Str} {k : Nat} {S : SpD} (C : Can X.prog X.w X.K X.mg X.base k x S) (hgd : X.A.guards = some []) (hr : Room k X.A) (hg : Gl X x)
    (h : WA X P (e :: es) R fun svs R1 => ArgsOk R1 svs ∧ S (svs.map (cont R1)) fun sv R' => R'.length = svs.length ∧ Q sv (back R1 svs R'))
    (hdb : (x == ("__debug__" : Str)) = false := by decide) (he : starEach (e :: es) X.env = (false, eval e X.env) :: starEach es X.env := by rfl) (hpl : (backTo pos (starEach es X.env)).any (·.1) = false := by rfl) : WE X P (.Call (.Name x p) (e :: es) [] pos) R Q := by
  obtain ⟨f, fd, ps, G, hm, hk, hb⟩ := C.ex
  refine .of (pe_callG G hgd hr hg hm hk hb .nil pass0 pa_m hdb he hpl) fun F σ Hd H w => (h.run F σ Hd H w).mono fun vs H1 ⟨Hd1, R1, svs, e1, w1, rel, ok, q⟩ => ?_
  obtain ⟨F', w', k'⟩ := call_world w1 rel ok
  rw [List.append_nil]
  exact ⟨F', Hd1, _, w', C.mono _ _ _ (fun sv R' ⟨hl, q2⟩ Hd' v H' e' fin => by
    obtain ⟨w2, r2⟩ := k' Hd' R' sv v H' e' hl fin
    exact ⟨Hd', _, sv, e1.trans e', w2, r2, q2⟩) q⟩
end
theorem start_world {K : PySem.W.Frag} {F : Fr} {P : List Nat} {R : DS} {vs : List V} {Hd H : Hp} (n : Nat) (w : Wd K F P R (vs.map some) Hd H) : Wd K F P (R ++ List.replicate n .no) (vs.map some ++ List.replicate n none) Hd H := by
  have at_ : ∀ {i : Nat} {x : SV}, x ≠ .no → (R ++ List.replicate n SV.no)[i]? = some x → R[i]? = some x ∧ i < R.length := fun {i x} hx h => by
    by_cases hi : i < R.length
    · rw [List.getElem?_append_left hi] at h
      exact ⟨h, hi⟩
    · rw [List.getElem?_append_right (by omega), List.getElem?_replicate] at h
      split at h
      · exact absurd (Option.some.inj h).symm hx
      · cases h
  have hl : R.length = (vs.map some).length := w.len
  have up_ : ∀ {i : Nat}, i < R.length → (vs.map some ++ List.replicate n none)[i]? = (vs.map some)[i]? := fun {i} hi => List.getElem?_append_left (by rw [← hl]; exact hi)
  refine ⟨w.dat, w.frm, by rw [List.length_append, List.length_append, hl, List.length_replicate, List.length_replicate], fun i x e => ?_, fun i m e => ?_, fun i j m k a e1 e2 e3 e4 => ?_, fun i hi => ?_, w.prot, fun i a d fs e => ?_, w.tabs⟩
  · obtain ⟨h1, h2⟩ := at_ (by intro z; cases z) e
    rw [up_ h2]
    exact w.val i x h1
  · obtain ⟨h1, h2⟩ := at_ (by intro z; cases z) e
    rw [up_ h2]
    exact w.own i m h1
  · obtain ⟨h1, h2⟩ := at_ (by intro z; cases z) e1
    obtain ⟨g1, g2⟩ := at_ (by intro z; cases z) e2
    rw [up_ h2] at e3
    rw [up_ g2] at e4
    exact w.apart i j m k a h1 g1 e3 e4
  · obtain ⟨m, h1, h2⟩ := w.pin i hi
    have hi' : i < R.length := (List.getElem?_eq_some_iff.mp h1).1
    exact ⟨m, by rw [List.getElem?_append_left hi']; exact h1, by rw [up_ hi']; exact h2⟩
  · obtain ⟨h1, h2⟩ := at_ (by intro z; cases z) e
    rw [up_ h2]
    exact w.exs i a d fs h1
/-- what a body is to reach -/
def bodyEnds (n : Nat) (Q : SV → DS → Prop) : DEnds := { nx := fun R' => Q (.d .none) (R'.take n), rt := fun sv R' => Q sv (R'.take n) }
theorem def_run {X : Cx} {S : SpD} {N : List Str} {st : Stmt} {vs : List V} {H : Hp} {Q : VK} (hlen : ∀ R Q, S R Q → R.length ≤ N.length)
    (body : ∀ R Q, S R Q → WSs X (ownIx R) (defBody st) (R ++ List.replicate (N.length - R.length) .no) (bodyEnds R.length Q))
    (h : liftS X.K S vs H Q fun _ _ _ => False) : TSsm X (defBody st) { nx := fun _ H' => Q .non H', rt := Q } (start N vs) H := by
  obtain ⟨F, Hd, R, w, q⟩ := h
  have hl : R.length = vs.length := w.len.trans (by rw [List.length_map])
  have hs : start N vs = vs.map some ++ List.replicate (N.length - R.length) none := by
    rw [hl]
    rfl
  rw [hs]
  refine ((body R _ q).run F _ Hd H (start_world _ w)).mono ⟨fun σ' H' h => ?_, fun v H' h => ?_, fun _ _ h => ?_, fun _ _ h => ?_⟩
  · obtain ⟨Hd', R', e1, w1, q1⟩ := h
    refine q1 Hd' .non H' e1 ⟨w1.dat, w1.frm, ⟨fun a ha => (w1.prot a ha).1, w1.tabs.1, w1.tabs.2.1⟩, fun i hi => ?_, .non⟩
    obtain ⟨m, h1, h2⟩ := w1.pin i hi
    obtain ⟨a, o, s1, s2, s3, s4, _⟩ := w1.own i m h1
    rw [h2] at s1
    cases s1
    obtain ⟨m0, hm0⟩ := mem_ownIx.mp hi
    exact ⟨m, o, by rw [List.getElem?_take_of_lt (List.getElem?_eq_some_iff.mp hm0).1]; exact h1, s2, s3, s4⟩
  · obtain ⟨Hd', R', sv, e1, ⟨f1, f2, f3, f4, f5⟩, q1⟩ := h
    refine q1 Hd' v H' e1 ⟨f1, f2, f3, fun i hi => ?_, f5⟩
    obtain ⟨m, o, h1, h2⟩ := f4 i hi
    obtain ⟨m0, hm0⟩ := mem_ownIx.mp hi
    exact ⟨m, o, by rw [List.getElem?_take_of_lt (List.getElem?_eq_some_iff.mp hm0).1]; exact h1, h2⟩
  · obtain ⟨_, _, _, _, z⟩ := h
    exact (z : False).elim
  · obtain ⟨_, _, _, _, z⟩ := h
    exact (z : False).elim
/-- THE RULE for a def -/
theorem can_def {Pg : Program} {w : World} {K : PySem.W.Frag} {mg : Str → Option Value} {base : Heap} {k : Nat} {x qual : Str} {st : Stmt} {f : Addr} {fd : FuncData} {N ps : List Str} {S : SpD} (Fu : Fun K x qual st f fd) (Sc : FnScope N ps (defScope st)) (hm : mg x = some (.ref f)) (hb : Binds K fd ps [])
    (mono : ∀ A Z Z', (∀ sv R', Z sv R' → Z' sv R') → S A Z → S A Z') (hN : ps.length ≤ N.length) (hlen : ∀ R Q, S R Q → R.length = ps.length)
    (body : ∀ (cdv : Value) (A : Around) (outer : List Env) (s : Shared) (H : Hp) (E : XK), A.guards = some [] → Room k (A.deeper (envOfC qual (defScope st) s.heap.objs.size f cdv)) → ∀ R Q, S R Q →
      WSs (cxOf CX0 Pg w K mg base N qual (defScope st) f cdv A outer s H E).nox (ownIx R) (defBody st) (R ++ List.replicate (N.length - R.length) .no) (bodyEnds R.length Q)) : Can Pg w K mg base (k + 1) x S := by
  refine ⟨⟨f, fd, ps, fnG_of Fu Sc (fun vs H Q E h => ?_) (fun cdv A outer s H vs Q E hgd hr h => ?_), hm, Fu.kp, hb⟩, mono⟩
  · obtain ⟨F, Hd, R, w, q⟩ := h
    have := w.len
    rw [List.length_map] at this
    rw [← this]
    exact hlen R _ q
  · have g := def_run (X := (cxOf CX0 Pg w K mg base N qual (defScope st) f cdv A outer s H E).nox) (N := N) (st := st) (fun R Q h => by rw [hlen R Q h]; exact hN) (body cdv A outer s H E hgd hr) (vs := vs) (H := H) (Q := Q) h
    exact TSsm.of (PSs.nox pss_m) g
end Dl
namespace Dl
open PySem PySem.Spec PyProof.Rows L2
/-! the law's own call, with tables of code objects -/
def tabAt (K : PySem.W.Frag) : List Addr := (tabsOf K).map (·.1)
def emptyTab : Obj := { cls := .none, data := .fields #[] }
structure TabsIn (K : PySem.W.Frag) (h : Heap) : Prop where
  now : ∀ b ∈ tabAt K, h.get? b = some emptyTab
  off : ∀ b ∈ tabAt K, K.lookup b = none
  hd : ∀ x ∈ lamDefs, ∀ c P : Addr, PySem.W.tabIn K x = some (c, P) → PySem.W.CodeHd h c P
def TabBs (K : PySem.W.Frag) (mg : Str → Option Value) (base : Heap) : Prop := ∀ x ∈ lamDefs, ∀ c P : Addr, PySem.W.tabIn K x = some (c, P) → LamX.TabB base mg c P
theorem tabAt_of {K : PySem.W.Frag} {b : Addr} (h : b ∈ tabAt K) : ∃ x ∈ lamDefs, ∃ c : Addr, PySem.W.tabIn K x = some (c, b) := by
  obtain ⟨p, hp, rfl⟩ := List.mem_map.mp h
  obtain ⟨x, hx, e⟩ := List.mem_filterMap.mp hp
  cases q : PySem.W.tabIn K x with
  | none => rw [q] at e; cases e
  | some cp =>
    rw [q] at e
    cases e
    exact ⟨x, hx, cp.1, q⟩
theorem tabAt_mem {K : PySem.W.Frag} {x : Str} {c P : Addr} (hx : x ∈ lamDefs) (h : PySem.W.tabIn K x = some (c, P)) : P ∈ tabAt K :=
  List.mem_map.mpr ⟨(P, x ++ ".<locals>." ++ "<lambda>"), List.mem_filterMap.mpr ⟨x, hx, by rw [h]; rfl⟩, rfl⟩
def OnlyT (K : PySem.W.Frag) (H : Hp) : Prop := ∀ b, H b = none ∨ (∃ o xs, H b = some (.frz o (.lst xs))) ∨ (b ∈ tabAt K ∧ H b = some (.tbl #[]))
theorem law_coreT {Pg : Program} {w : World} {K : PySem.W.Frag} {mg mb : Str → Option Value} {k : Nat} {fa a : Addr} {fd : FuncData} {x : Str} {sp : Sp} {s1 : Shared} {vs : List Value} {H : Hp}
    (kx : K.In s1.heap) (hns : s1.heap.Ns mainGlobals mg) (hb : s1.heap.Ns builtinsNs mb) (hbb : ∀ y : Str, y ≠ "__name__" → mb y = bootBuiltins y) (hlim : s1.heap.NoLimit) (hg : s1.gens = #[])
    (tin : TabsIn K s1.heap) (hbm : ∃ (bm : Addr) (ob : Obj), mg "__builtins__" = some (.ref bm) ∧ bm ≠ builtinsNs ∧ s1.heap.get? bm = some ob ∧ ob.cls = .type "module" ∧ ob.dict = some builtinsNs ∧ ob.data = .plain)
    (ha : s1.heap.get? a = some { cls := .type "list", data := .seq vs.toArray }) (hr : Room k callerA)
    (G : ∀ base : Heap, K.In base → base.Ns mainGlobals mg → TabBs K mg base → FnG Pg w K mg base CX0 k fa fd [x] sp) (hbind : ∀ (s : Shared) (u : Value), BindsTo s fd ⟨[u], []⟩ [(x, u)])
    (only : OnlyT K H) (tabs : ∀ b ∈ tabAt K, H b = some (.tbl #[])) (here : ∀ b, H b ≠ none → (b = a ∧ K.lookup a = none) ∨ b ∈ tabAt K) (hok : HOk Pg w H s1.heap) (go : sp [.ref a] H (fun v _ => v = .bl true) fun _ _ _ => False) :
    codeAny (model Pg w) callerA (.call (.ref fa) ⟨[.ref a], []⟩) (fun r s' => r = .ok (.ret (.bool true)) ∧ OldK s1.heap s'.heap ∧ s'.os = s1.os ∧ AllBare s'.gens) s1 := by
  -- what is neither the script's list nor an empty record stands in the ground
  have free : ∀ {b : Addr} {o : Obj}, s1.heap.get? b = some o → (∀ us n, o.data ≠ .seq us n) → o.data ≠ .fields #[] → H b = none := fun {b o} q n1 n2 => by
    cases z : H b with
    | none => rfl
    | some u =>
      rcases here b (by rw [z]; exact fun y => by cases y) with ⟨y, _⟩ | y
      · rw [y, ha] at q
        cases q
        exact (n1 _ _ rfl).elim
      · rw [tin.now b y] at q
        cases q
        exact (n2 rfl).elim
  have stays : ∀ {b : Addr} {o : Obj}, s1.heap.get? b = some o → (∀ us n, o.data ≠ .seq us n) → o.data ≠ .fields #[] → (hidT s1.heap H).get? b = some o := fun q n1 n2 => hidT_get q (free q n1 n2)
  have names : ∀ {b : Addr} {m : Str → Option Value}, s1.heap.Ns b m → (hidT s1.heap H).Ns b m := fun {b m} ⟨o, es, ep, q, d, r⟩ => ⟨o, es, ep, stays q (fun us n z => by rw [d] at z; cases z) (fun z => by rw [d] at z; cases z), d, r⟩
  have kb : K.In (hidT s1.heap H) := fun b o q => hidT_get (kx b o q) (by
    cases z : H b with
    | none => rfl
    | some u =>
      rcases here b (by rw [z]; exact fun y => by cases y) with ⟨y1, y2⟩ | y
      · subst y1
        rw [q] at y2
        cases y2
      · rw [tin.off b y] at q
        cases q)
  have tb : TabBs K mg (hidT s1.heap H) := fun y hy c P e => by
    have hP := tin.now P (tabAt_mem hy e)
    refine ⟨?_, ?_, fun z => ?_⟩
    · obtain ⟨o, us, file, tf, flags, tg, inF, tx, tt, e1, r1, r2, r3, rest⟩ := tin.hd y hy c P e
      exact ⟨o, us, file, tf, flags, tg, inF, tx, tt, stays e1 (fun us n z => by rw [r2] at z; cases z) (fun z => by
        rw [r2] at z
        cases z
        simp at r3), r1, r2, r3, rest⟩
    · obtain ⟨bm, ob, b1, b2, b3, b4, b5, b6⟩ := hbm
      refine ⟨bm, ob, b1, b2, fun q => ?_, fun q => ?_, stays b3 (fun us n z => by rw [b6] at z; cases z) (fun z => by rw [b6] at z; cases z), b4, b5, b6⟩
      · obtain ⟨o, es, ep, g1, g2, _⟩ := hns
        rw [q, g1] at b3
        cases b3
        rw [g2] at b6
        cases b6
      · rw [q, hP] at b3
        cases b3
        cases b6
    · obtain ⟨o, es, ep, g1, g2, _⟩ := hns
      rw [z, hP] at g1
      cases g1
      cases g2
  have md : Mod K mg (hidT s1.heap H) := ⟨kb, names hns, ⟨mb, names hb, hbb⟩, hlim.elim fun mc hm => ⟨mc, names hm.1, hm.2⟩⟩
  have at0 : Env0 Pg w K mg (hidT s1.heap H) callerA [] s1 H := { frames := rfl, mod := md, bs := fun b o q => of_hidT q, bsz := Nat.le_of_eq (hidT_size _ _), funs := trivial, frf := fun b hb => absurd (show b ∈ ([] : List Addr) from hb) List.not_mem_nil, hok := hok, bare := .of_eq hg }
  have run := (G _ kb (names hns) tb).run callerA [] s1 H ⟨[.ref a], []⟩ [.ref a] [.ref a] _ _ rfl hr at0 (hbind s1 (.ref a)) (.cons rfl .nil) go
  refine codeAny_mono run fun r s' h => ?_
  match r, h with
  | .error e, h => exact (h : False).elim
  | .ok .next, h => exact (h : False).elim
  | .ok .brk, h => exact (h : False).elim
  | .ok .cont, h => exact (h : False).elim
  | .ok (.ret u), h =>
    obtain ⟨v, H', os, bare, un, hok', rv, q⟩ := h
    have e1 : v = .bl true := q
    subst e1
    have e2 : u = Value.bool true := rv
    subst e2
    have same : ∀ b o, b ∉ tabAt K → s1.heap.get? b = some o → s'.heap.get? b = some o := fun b o nb eb => by
      rcases only b with z | ⟨ob, xs, z⟩ | ⟨z, _⟩
      · exact un.keep b o eb z (fun y => by cases y) (fun y => by cases y)
      · have g1 := (hok b _ z).1
        have g2 := (hok' b _ (un.frzs b ob _ z)).1
        rw [eb] at g1
        cases g1
        exact g2
      · exact absurd z nb
    have grew : ∀ b ∈ tabAt K, ∃ more : Array Value, s'.heap.get? b = some { cls := .none, data := .fields more } := fun b hb => by
      obtain ⟨more, z⟩ := un.tbls b #[] (tabs b hb)
      exact ⟨_, hok' b _ z⟩
    refine ⟨rfl, ⟨fun b o eb => ?_, fun b o eb => ?_⟩, os, bare⟩
    · by_cases hb : b ∈ tabAt K
      · obtain ⟨more, hm⟩ := grew b hb
        obtain ⟨y, hy, c, e⟩ := tabAt_of hb
        have now := tin.now b hb
        rw [now] at eb
        cases eb
        exact .inr (.inl ⟨((tin.hd y hy c b e).tab now).isCodeTable, rfl, #[], more, rfl, by rw [Array.empty_append]; exact hm⟩)
      · exact .inl (same b o hb eb)
    · by_cases hb : b ∈ tabAt K
      · obtain ⟨more, hm⟩ := grew b hb
        exact ⟨_, hm⟩
      · exact ⟨o, same b o hb eb⟩
theorem law_callT {Pg : Program} {w : World} {K : PySem.W.Frag} {mg mb : Str → Option Value} {k : Nat} {fa a : Addr} {fd : FuncData} {x : Str} {sp : Sp} {s1 : Shared} {vs : List Value} {ns : List Int}
    (kx : K.In s1.heap) (hns : s1.heap.Ns mainGlobals mg) (hb : s1.heap.Ns builtinsNs mb) (hbb : ∀ y : Str, y ≠ "__name__" → mb y = bootBuiltins y) (hlim : s1.heap.NoLimit) (hg : s1.gens = #[])
    (tin : TabsIn K s1.heap) (hbm : ∃ (bm : Addr) (ob : Obj), mg "__builtins__" = some (.ref bm) ∧ bm ≠ builtinsNs ∧ s1.heap.get? bm = some ob ∧ ob.cls = .type "module" ∧ ob.dict = some builtinsNs ∧ ob.data = .plain)
    (ha : s1.heap.get? a = some { cls := .type "list", data := .seq vs.toArray }) (hi : IntsAre vs ns) (hl : ns.length ≤ sizeLine) (hr : Room k callerA)
    (G : ∀ base : Heap, K.In base → base.Ns mainGlobals mg → TabBs K mg base → FnG Pg w K mg base CX0 k fa fd [x] sp) (hbind : ∀ (s : Shared) (u : Value), BindsTo s fd ⟨[u], []⟩ [(x, u)])
    (hsp : ∀ H : Hp, OnlyT K H → (∀ b ∈ tabAt K, H b = some (.tbl #[])) → SqL K H a (ns.map V.int) → sp [.ref a] H (fun v _ => v = .bl true) fun _ _ _ => False) :
    codeAny (model Pg w) callerA (.call (.ref fa) ⟨[.ref a], []⟩) (fun r s' => r = .ok (.ret (.bool true)) ∧ OldK s1.heap s'.heap ∧ s'.os = s1.os ∧ AllBare s'.gens) s1 := by
  have rv := vals_ints hi
  have an : a ∉ tabAt K := fun z => by
    have q := tin.now a z
    rw [ha] at q
    have := congrArg Obj.data (Option.some.inj q)
    cases this
  classical
  let H0 : Hp := fun b => if b ∈ tabAt K then some (.tbl #[]) else none
  have in0 : ∀ {b}, b ∈ tabAt K → H0 b = some (.tbl #[]) := fun h => if_pos h
  have out0 : ∀ {b}, b ∉ tabAt K → H0 b = none := fun h => if_neg h
  cases hk : K.lookup a with
  | some o =>
    have e := kx a o hk
    rw [ha] at e
    cases e
    have on : OnlyT K H0 := fun b => if z : b ∈ tabAt K then .inr (.inr ⟨z, in0 z⟩) else .inl (out0 z)
    refine law_coreT (H := H0) kx hns hb hbb hlim hg tin hbm ha hr G hbind on (fun b hb => in0 hb) (fun b z => .inr (Decidable.byContradiction fun y => z (out0 y))) (fun b u z => ?_) (hsp H0 on (fun b hb => in0 hb) (.inr ⟨_, _, _, hk, rfl, rfl, rfl, ?_, by simpa using rv⟩))
    · by_cases y : b ∈ tabAt K
      · rw [in0 y] at z
        cases z
        exact tin.now b y
      · rw [out0 y] at z
        cases z
    · rw [List.size_toArray, hi.length]
      exact hl
  | none =>
    let ob : Obj := { cls := .type "list", data := .seq vs.toArray }
    let H : Hp := fun b => if b = a then some (.frz ob (.lst (ns.map V.int))) else H0 b
    have at_ : H a = some (.frz ob (.lst (ns.map V.int))) := if_pos rfl
    have off : ∀ {b : Addr}, b ≠ a → H b = H0 b := fun h => if_neg h
    have tab : ∀ b ∈ tabAt K, H b = some (.tbl #[]) := fun b hb => (off (fun z => an (z ▸ hb))).trans (in0 hb)
    have on : OnlyT K H := fun b => if z : b = a then .inr (.inl ⟨ob, ns.map V.int, z ▸ at_⟩) else if y : b ∈ tabAt K then .inr (.inr ⟨y, tab b y⟩) else .inl ((off z).trans (out0 y))
    refine law_coreT (H := H) kx hns hb hbb hlim hg tin hbm ha hr G hbind on tab (fun b z => ?_) (fun b u z => ?_) (hsp H on tab (.inl (.inr ⟨ob, at_⟩)))
    · by_cases y : b = a
      · exact .inl ⟨y, hk⟩
      · exact .inr (Decidable.byContradiction fun y2 => z ((off y).trans (out0 y2)))
    · by_cases y : b = a
      · subst y
        rw [at_] at z
        cases z
        exact ⟨ha, by rw [List.length_map]; exact hl, vs, _, rv, ha⟩
      · rw [off y] at z
        by_cases y2 : b ∈ tabAt K
        · rw [in0 y2] at z
          cases z
          exact tin.now b y2
        · rw [out0 y2] at z
          cases z
/-- the goal that k_head leaves, with tables: from the promise of the law's def -/
theorem walk_GT {l : PySem.W.OpenLaw} {n k : Nat} {q : Program} {loose : List Str} {XP : (Str → Option Value) → Heap → Prop} {YP : World → Heap → Prop} {d : DefRec} {K : Params → PySem.W.Frag} {sp : PySem.W.Frag → Sp} {x : Str}
    (hn : l.most = some n) (hn2 : n ≤ sizeLine) (hdf : d.params.defaults = []) (hr : Room k callerA) (hY : ∀ (w : World) (h : Heap), YP w h → (K w.params).In h)
    (hT : ∀ (w : World) (h : Heap) (lo : List Str) (mean : ExcName → Option Value) (mg mb : Str → Option Value), PyProof.Rows.Top q lo mean mg mb h → (K w.params).In h → TabsIn (K w.params) h)
    (F : ∀ (w : World) (mg : Str → Option Value) (fa : Addr) (h : Heap), (K w.params).In h → h.Ns mainGlobals mg → mg d.name = some (.ref fa) → ∃ fd : FuncData, (∀ (s : Shared) (u : Value), BindsTo s fd ⟨[u], []⟩ [(x, u)]) ∧
      ∀ base : Heap, (K w.params).In base → base.Ns mainGlobals mg → TabBs (K w.params) mg base → FnG l.prog w (K w.params) mg base CX0 k fa fd [x] (sp (K w.params)))
    (hsp : ∀ (K : PySem.W.Frag) (H : Hp) (a : Addr) (ns : List Int), ns.length ≤ n → OnlyT K H → (∀ b ∈ tabAt K, H b = some (.tbl #[])) → SqL K H a (ns.map V.int) → sp K [.ref a] H (fun v _ => v = .bl true) fun _ _ _ => False) : PySem.W.WalkO q loose XP YP l.row.toRowW d [] (fun f vs => PySem.call f vs) := by
  refine Att.attach_call hn hdf fun w s0 s1 mg mb fa o pm cd doc a vs ns Gr Y ho hd hcd hmg hobj hints hlen hg => ?_
  have kx := hY w _ Y
  obtain ⟨fd, hb, hF⟩ := F w mg fa _ kx Gr.T.g hmg
  exact law_callT kx Gr.T.g Gr.T.b Gr.T.builtins Gr.T.nolimit hg (hT w _ _ _ _ _ Gr.T kx) Gr.T.bmain hobj hints (Nat.le_trans hlen hn2) hr hF hb fun H hO hT2 hS => hsp (K w.params) H a ns hlen hO hT2 hS
/-- a law over data: the script's ints -/
theorem law_data {K : PySem.W.Frag} {S : SpD} {H : Hp} {a : Addr} {ns : List Int} (only : OnlyT K H) (tabs : ∀ b ∈ tabAt K, H b = some (.tbl #[])) (hS : SqL K H a (ns.map V.int)) (h : S [.d (.list (ns.map PyData.int))] fun sv R' => sv = .d (.bool true))
    (mono : ∀ A Z Z', (∀ sv R', Z sv R' → Z' sv R') → S A Z → S A Z') : liftS K S [.ref a] H (fun v _ => v = .bl true) fun _ _ _ => False := by
  classical
  let Hd : Hp := fun b => if b ∈ tabAt K then none else H b
  have dat : Same Hd H := fun b u e => by
    have e' : (if b ∈ tabAt K then none else H b) = some u := e
    split at e'
    · cases e'
    · exact e'
  have hS' : SqL K Hd a (ns.map V.int) := by
    rcases hS with hS | hS
    · rcases hS with hS | ⟨o, hS⟩
      · refine .inl (.inl ?_)
        have : a ∉ tabAt K := fun z => by
          rw [tabs a z] at hS
          cases hS
        exact (if_neg this).trans hS
      · refine .inl (.inr ⟨o, ?_⟩)
        have : a ∉ tabAt K := fun z => by
          rw [tabs a z] at hS
          cases hS
        exact (if_neg this).trans hS
    · exact .inr hS
  refine ⟨⟨fun _ => none, fun _ => 0, fun _ => False⟩, Hd, [.d (.list (ns.map PyData.int))], ⟨dat, fun b u z => (by cases z), rfl, fun i x e => ?_, fun i m e => ?_, fun i j m n b e _ _ _ => ?_, fun i hi => ?_, fun b hb => (show False from hb).elim, fun i b d fs e => (by cases i with
    | zero => simp at e
    | succ i => simp at e), fun p hp => ?_, fun b ps q => ?_, fun b ps q => (by cases q)⟩, mono _ _ _ (fun sv R' e Hd' v H' _ fin => ?_) h⟩
  · cases i with
    | zero =>
      have e' : x = .list (ns.map PyData.int) := by simpa using e.symm
      subst e'
      exact ⟨.ref a, rfl, .lst hS' (dpAllOfInts ns)⟩
    | succ i => simp at e
  · cases i with
    | zero => simp at e
    | succ i => simp at e
  · cases i with
    | zero => simp at e
    | succ i => simp at e
  · have : ownIx [SV.d (.list (ns.map PyData.int))] = [] := rfl
    rw [this] at hi
    cases hi
  · exact LamX.TabS.nil (tabs p.1 (List.mem_map.mpr ⟨p, hp, rfl⟩))
  · have q' : (if b ∈ tabAt K then none else H b) = some (HO.tbl ps) := q
    split at q'
    · cases q'
    · rename_i nb
      rcases only b with z | ⟨o, xs, z⟩ | ⟨z, _⟩
      · rw [q'] at z; cases z
      · rw [q'] at z; cases z
      · exact nb z
  · subst e
    have r : Dq K Hd' v (.bool true) := fin.2.2.2.2
    cases r
    rfl
end Dl
namespace Dl
open PySem PySem.Spec PyProof.Rows L2
/-! what a frame knows of what runs around it -/
structure Ard (X : Cx) (k : Nat) : Prop where
  gd : X.A.guards = some []
  rm : Room k X.A
theorem Ard.u64 {X : Cx} {k : Nat} (a : Ard X k) : X.A.units + 64 < cLine := a.rm.units
theorem Ard.u1 {X : Cx} {k : Nat} (a : Ard X k) : X.A.units + 1 < cLine := by have := a.rm.units; omega
theorem Ard.u100 {X : Cx} {k : Nat} (a : Ard X k) : X.A.units + 100 < cLine := by have := a.rm.un; omega
theorem vis3 {sc : Scope} {x : Str} (h : (match sc.names.lookup x with | some .local => true | some .cell => true | some .free => true | _ => false) = true) : Vis sc x := by
  unfold Vis
  revert h
  cases sc.names.lookup x with
  | none => intro h; cases h
  | some k => cases k <;> intro h <;> simp at h ⊢
theorem loc2 {sc : Scope} {x : Str} (h : (match sc.names.lookup x with | some .local => true | some .cell => true | _ => false) = true) : L2.Loc sc x := by
  unfold L2.Loc
  revert h
  cases sc.names.lookup x with
  | none => intro h; cases h
  | some k => cases k <;> intro h <;> simp at h ⊢
section
variable {X : Cx} {P : List Nat} {R : DS} {e tg : Expr} {es : List Expr} {st : Stmt} {sts : List Stmt} {D' : DEnds} {x : Str} {pos pos' : Pos} {js : List Nat} {dx : D} {dxs : List D}
theorem isWE {Q : SV → DS → Prop} (h : WE X P e R Q) : WE X P e R Q := h
theorem isWT {Q : Bool → DS → Prop} (h : WT X P e R Q) : WT X P e R Q := h
theorem isWW {Q : Bool → DS → Prop} (h : WW X P e R Q) : WW X P e R Q := h
theorem isWA {Q : List SV → DS → Prop} (h : WA X P es R Q) : WA X P es R Q := h
theorem isWDs {Q : List D → DS → Prop} (h : WDs X P es R Q) : WDs X P es R Q := h
theorem isWS (h : WS X P st R D') : WS X P st R D' := h
theorem isWSs (h : WSs X P sts R D') : WSs X P sts R D' := h
theorem isWG {Q : DS → Prop} (h : WG X P tg js R dx Q) : WG X P tg js R dx Q := h
theorem isWGs {Q : DS → Prop} (h : WGs X P es js R dxs Q) : WGs X P es js R dxs Q := h
theorem isName {Q : SV → DS → Prop} (h : WE X P (.Name x pos) R Q) : WE X P (.Name x pos) R Q := h
theorem isSet (h : WS X P (.Assign [.Name x pos'] e pos) R D') : WS X P (.Assign [.Name x pos'] e pos) R D' := h
end
end Dl
namespace Dl
open PySem PySem.Spec PyProof.Rows L2
def locs : List SV → List Nat
  | [] => []
  | .loc j :: r => j :: locs r
  | _ :: r => locs r
def argsB (R : DS) (svs : List SV) : Bool := ((locs svs).all fun j => isOwn (R.getD j .no)) && decide (locs svs).Nodup
theorem mem_locs {j : Nat} : ∀ {svs : List SV} {i : Nat}, svs[i]? = some (SV.loc j) → j ∈ locs svs
  | [], _, h => by simp at h
  | s :: r, 0, h => by
    have e : s = .loc j := by simpa using h
    subst e
    exact List.mem_cons_self
  | s :: r, i + 1, h => by
    have ih : j ∈ locs r := mem_locs (i := i) (by simpa using h)
    cases s <;> first | exact ih | exact List.mem_cons_of_mem _ ih
theorem locs_once {j : Nat} : ∀ {svs : List SV} {i i' : Nat}, (locs svs).Nodup → svs[i]? = some (SV.loc j) → svs[i']? = some (SV.loc j) → i = i'
  | [], _, _, _, h, _ => by simp at h
  | s :: r, 0, 0, _, _, _ => rfl
  | s :: r, 0, i' + 1, nd, h, h' => by
    have e : s = .loc j := by simpa using h
    subst e
    have nd' : (j :: locs r).Nodup := nd
    exact absurd (mem_locs (i := i') (by simpa using h')) (List.nodup_cons.mp nd').1
  | s :: r, i + 1, 0, nd, h, h' => by
    have e : s = .loc j := by simpa using h'
    subst e
    have nd' : (j :: locs r).Nodup := nd
    exact absurd (mem_locs (i := i) (by simpa using h)) (List.nodup_cons.mp nd').1
  | s :: r, i + 1, i' + 1, nd, h, h' => by
    have nd' : (locs r).Nodup := by
      cases s <;> first | exact nd | exact (List.nodup_cons.mp (show (_ :: locs r).Nodup from nd)).2
    exact congrArg (· + 1) (locs_once (j := j) (svs := r) (i := i) (i' := i') nd' (by simpa using h) (by simpa using h'))
theorem argsOk_of {R : DS} {svs : List SV} (h : argsB R svs = true) : ArgsOk R svs := by
  unfold argsB at h
  rw [Bool.and_eq_true, List.all_eq_true, decide_eq_true_eq] at h
  refine ⟨fun i j q => ?_, fun i i' j q q' => locs_once h.2 q q'⟩
  have g := h.1 j (mem_locs q)
  rw [List.getD_eq_getElem?_getD] at g
  cases z : R[j]? with
  | none => rw [z] at g; cases g
  | some s =>
    rw [z] at g
    cases s with
    | own m => exact ⟨m, rfl⟩
    | no => cases g
    | d x => cases g
    | loc k => cases g
    | ex _ _ _ => cases g
section
variable {X : Cx} {P : List Nat} {R R' : DS} {e : Expr} {es : List Expr} {pos p : Pos} {Q : SV → DS → Prop}
theorem we_call2 {x : Str} {j k : Nat} {S : SpD} (hr : Room k X.A) (hgd : X.A.guards = some []) (C : Can X.prog X.w X.K X.mg X.base j x S) (hjk : j ≤ k) (hg : Gl X x)
    (h : WA X P (e :: es) R fun svs R1 => argsB R1 svs = true ∧ S (svs.map (cont R1)) fun sv R' => R'.length = svs.length ∧ Q sv (back R1 svs R'))
    (hdb : (x == ("__debug__" : Str)) = false := by decide) (he : starEach (e :: es) X.env = (false, eval e X.env) :: starEach es X.env := by rfl) (hpl : (backTo pos (starEach es X.env)).any (·.1) = false := by rfl) : WE X P (.Call (.Name x p) (e :: es) [] pos) R Q :=
  we_call (C.up hjk) hgd hr hg ⟨fun F σ Hd H w => (h.run F σ Hd H w).mono fun vs H' ⟨Hd', R', svs, e1, w1, r1, q1, q2⟩ => ⟨Hd', R', svs, e1, w1, r1, argsOk_of q1, q2⟩⟩ hdb he hpl
theorem nrmE (R' : DS) (h : R = R') (q : WE X P e R' Q) : WE X P e R Q := h ▸ q
theorem nrmS {sts : List Stmt} {D' : DEnds} (R' : DS) (h : R = R') (q : WSs X P sts R' D') : WSs X P sts R D' := h ▸ q
end
/-! comprehensions that change nothing -/
section
variable {X : Cx} {P : List Nat} {R0 R1 : DS} {elt tg c : Expr} {scope : Scope} {js vs : List Nat} {Q : SV → DS → Prop} {α : Type}
theorem lc_pure0 {as : List α} {enc g : α → D} (R0 : DS) (hR : wipeR R1 vs = R0) (hl : as.length ≤ sizeLine)
    (turn : ∀ a ∈ as, AllB X scope fun Y => WG Y P tg js R0 (enc a) fun R2 => AllB X scope fun Y => WE Y P elt R2 fun y R4 => asD y fun z => z = g a ∧ wipeR R4 vs = R0) (fin : Q (.own (.lst (as.map g))) R0) :
    LcG Q (Tn0 X P scope tg elt js vs) vs (as.map enc) R1 := by
  refine ⟨by rw [List.length_map]; exact hl, fun i acc R => R = R0 ∧ acc = (as.take i).map g, ⟨hR, rfl⟩, fun i x acc R hx h => ?_, fun acc R h => ?_⟩
  · obtain ⟨rfl, rfl⟩ := h
    rw [List.getElem?_map] at hx
    cases q : as[i]? with
    | none => rw [q] at hx; cases hx
    | some a =>
      rw [q] at hx
      cases hx
      intro s H C cl fp
      have t := turn a (List.mem_of_getElem? q) s H C cl fp
      refine ⟨fun F σ Hd H1 v w r => (t.run F σ Hd H1 v w r).mono fun σ2 H2 ⟨Hd2, R2, e2, w2, wp, q2⟩ => ⟨Hd2, R2, e2, w2, wp, fun s H C cl fp => (q2 s H C cl fp).mono fun y R4 h4 => ?_⟩⟩
      unfold asD at h4 ⊢
      split at h4
      · refine ⟨h4.2, ?_⟩
        rw [h4.1, List.take_add_one, q, List.map_append]
        rfl
      · refine ⟨h4.2, ?_⟩
        rw [h4.1, List.take_add_one, q, List.map_append]
        rfl
      · exact h4
  · obtain ⟨rfl, rfl⟩ := h
    rw [List.length_map, List.take_length]
    exact fin
theorem lc_pure1 {as : List α} {enc g : α → D} (p : α → Bool) (R0 : DS) (hR : wipeR R1 vs = R0) (hl : as.length ≤ sizeLine)
    (turn : ∀ a ∈ as, AllB X scope fun Y => WG Y P tg js R0 (enc a) fun R2 => AllB X scope fun Y => WT Y P c R2 fun b R3 => b = p a ∧ (b = true → AllB X scope fun Y => WE Y P elt R3 fun y R4 => asD y fun z => z = g a ∧ wipeR R4 vs = R0) ∧ (b = false → wipeR R3 vs = R0))
    (fin : Q (.own (.lst ((as.filter p).map g))) R0) : LcG Q (Tn1 X P scope tg c elt js vs) vs (as.map enc) R1 := by
  refine ⟨by rw [List.length_map]; exact hl, fun i acc R => R = R0 ∧ acc = ((as.take i).filter p).map g, ⟨hR, rfl⟩, fun i x acc R hx h => ?_, fun acc R h => ?_⟩
  · obtain ⟨rfl, rfl⟩ := h
    rw [List.getElem?_map] at hx
    cases q : as[i]? with
    | none => rw [q] at hx; cases hx
    | some a =>
      rw [q] at hx
      cases hx
      have et : (as.take (i + 1)).filter p = (as.take i).filter p ++ (if p a = true then [a] else []) := by
        rw [List.take_add_one, q, List.filter_append]
        show _ ++ List.filter p [a] = _
        rw [List.filter_cons]
        rfl
      intro s H C cl fp
      have t := turn a (List.mem_of_getElem? q) s H C cl fp
      refine ⟨fun F σ Hd H1 v w r => (t.run F σ Hd H1 v w r).mono fun σ2 H2 ⟨Hd2, R2, e2, w2, wp, q2⟩ => ⟨Hd2, R2, e2, w2, wp, fun s H C cl fp => (q2 s H C cl fp).mono fun b R3 h3 => ?_⟩⟩
      obtain ⟨hb, h3, h3'⟩ := h3
      refine ⟨fun eb => fun s H C cl fp => (h3 eb s H C cl fp).mono fun y R4 h4 => ?_, fun eb => ⟨h3' eb, ?_⟩⟩
      · rw [hb] at eb
        have add : ∀ z, z = g a → ((as.take i).filter p).map g ++ [z] = ((as.take (i + 1)).filter p).map g := fun z ez => by
          rw [et, if_pos eb, List.map_append, ez]
          rfl
        unfold asD at h4 ⊢
        split at h4
        · exact ⟨h4.2, add _ h4.1⟩
        · exact ⟨h4.2, add _ h4.1⟩
        · exact h4
      · rw [hb] at eb
        rw [et, if_neg (by rw [eb]; exact Bool.false_ne_true), List.append_nil]
  · obtain ⟨rfl, rfl⟩ := h
    rw [List.length_map, List.take_length]
    exact fin
end
end Dl
namespace Dl
open PySem PySem.Spec PyProof.Rows L2
/-! a tuple once, and more often -/
set_option maxHeartbeats 4000000 in
theorem tup_once (l : Addr) (items : Array Value) (n : Nat) (dd : Option Addr) (sl : Array (Option Value)) (u : Tok) :
    Meets (Builtin.«tuple.__mul__» ⟨[.ref l, .int 1 u], []⟩) (fun _ R s => s.heap.get? l = some { cls := .type "tuple", dict := dd, data := .seq items n, slots := sl } ∧ R (.ok (.ret (.ref l))) s) :=
  .of_wp fun prog w A R s h => by
    obtain ⟨hp, g, d, tk, os⟩ := s
    obtain ⟨hl, h⟩ := h
    have f1 := AutoSeq1.idx_int
    have b1 : (items.isEmpty || (1 : Int) == 1) = true := by simp
    wp_walk using wpAny_loadPart' hl
    repeat (first
      | (refine wpAny_ite_true (decide_eq_true b1) ?_; wp_walk using wpAny_loadPart' hl)
      | (rw [if_pos b1]; wp_walk using wpAny_loadPart' hl))
    exact ⟨_, rfl, h⟩

section
variable {X : Cx} {P : List Nat} {R : DS} {a b c e : Expr} {rest : List Expr} {pos p : Pos} {Q : SV → DS → Prop}
theorem op_once : OpR X (binaryOp .Mult) (fun x y H Q => ∃ l xs, x = .ref l ∧ y = .int 1 ∧ SqT X.K H l xs ∧ Q (.ref l) H) := by
  intro pins s σ H x y v u Q I rx ry h
  obtain ⟨l, xs, rfl, rfl, hT, q⟩ := h
  cases rx
  obtain ⟨t, rfl⟩ := ry
  obtain ⟨its, r, ⟨⟨cls, dd, data, sl⟩, ho, hc, n, hd⟩, hs⟩ := I.tuple hT
  simp only at hc hd
  subst hc hd
  exact wpAny_binaryOp_repeat_ref (T := "tuple") (U := "int") (by decide) ⟨_, ho, rfl⟩ (fun s' => typeIs_int s' 1 t) noFill_tuple_mul F.fills_int_mul F.slot_int_rmul repeat_tuple F.slot_int_index.lookup
    (call_meets F.slot_int_rmul (typeIs_int s 1 t) F.entry_int_rmul (F.args_int_rmul_2 _ _) (int_rmul_tuple 1 t l its.toArray n dd sl) ⟨ho, rfl, ⟨_, ho, rfl⟩,
      call_meets F.slot_tuple_mul ⟨_, ho, rfl⟩ F.entry_tuple_mul (F.args_tuple_mul_2 _ _) (tup_once l its.toArray n dd sl t) ⟨ho, .ref l, H, I, rfl, q⟩⟩)
theorem rep_dp {K : PySem.W.Frag} {H : Hp} {vs : List V} {ds : List D} (h : DqAll K H vs ds) : ∀ n : Nat, DqAll K H (List.replicate n vs).flatten (List.replicate n ds).flatten
  | 0 => .nil
  | n + 1 => by
    rw [List.replicate_succ, List.replicate_succ, List.flatten_cons, List.flatten_cons]
    exact dpAllApp h (rep_dp h n)
theorem we_repT (h : WE X P a R fun x R1 => ∃ ds, x = .d (.tuple ds) ∧ WE X P b R1 fun y R2 => asI y fun k => (ds ≠ [] ∧ 1 ≤ k ∧ k ≤ 1000 ∧ ds.length ≤ 1000) ∧ Q (.d (.tuple (List.replicate k.toNat ds).flatten)) R2) : WE X P (.BinOp a .Mult b pos) R Q :=
  .of (pe_op (op_repT.or op_once) pe_m pe_m) fun F σ Hd H w => h.use w fun Hd1 R1 x v H1 e1 w1 r1 q1 => by
    obtain ⟨ds, rfl, q1⟩ := q1
    exact q1.use w1 fun Hd2 R2 y u H2 e2 w2 r2 q2 => by
      obtain ⟨k, rfl, ⟨g1, g2, g3, g4⟩, q⟩ := q2.elim
      cases (show Dq _ _ u (.int k) from r2)
      obtain ⟨l, vs, rfl, _, hT, hv⟩ := Rp.tup (sv := .d (.tuple ds)) w2 (show Rp _ _ _ _ _ _ (.d (.tuple ds)) v from dpMono e2 r1) rfl
      have hne : vs ≠ [] := fun z => g1 (by
        have := dpAllLen hv
        rw [z] at this
        exact List.eq_nil_of_length_eq_zero this.symm)
      by_cases hk : k = 1
      · subst hk
        refine .inr ⟨l, vs, rfl, rfl, hT, .same (e1.trans e2) (.here w2 (sv := .d (.tuple (List.replicate (Int.toNat 1) ds).flatten)) ?_ q)⟩
        have e : (List.replicate (Int.toNat 1) ds).flatten = ds := by
          show (List.replicate 1 ds).flatten = ds
          rw [List.replicate_one, List.flatten_cons, List.flatten_nil, List.append_nil]
        rw [e]
        exact dpMono e2 r1
      · refine .inl ⟨l, k, vs, rfl, rfl, hT, hne, by omega, g3, by rw [dpAllLen hv]; exact g4, fun z hz => ?_⟩
        obtain ⟨w3, s3⟩ := w2.allocD (o := .tup (List.replicate k.toNat vs).flatten) hz
        exact .same ((e1.trans e2).trans s3) (.here w3 (show Rp _ _ _ _ _ _ (.d (.tuple (List.replicate k.toNat ds).flatten)) _ from Dq.tup (upd_same) (rep_dp (dpAllMono s3 hv) _)) q)
theorem we_addT (h : WE X P a R fun x R1 => ∃ ds, x = .d (.tuple ds) ∧ WE X P b R1 fun y R2 => ∃ es, y = .d (.tuple es) ∧ ds.length + es.length ≤ sizeLine ∧ Q (.d (.tuple (ds ++ es))) R2) : WE X P (.BinOp a .Add b pos) R Q :=
  .of (pe_op op_catA pe_m pe_m) fun F σ Hd H w => h.use w fun Hd1 R1 x v H1 e1 w1 r1 q1 => by
    obtain ⟨ds, rfl, q1⟩ := q1
    exact q1.use w1 fun Hd2 R2 y u H2 e2 w2 r2 q2 => by
      obtain ⟨es, rfl, hz, q⟩ := q2
      obtain ⟨l, vs, rfl, _, hT, hv⟩ := Rp.tup (sv := .d (.tuple ds)) w2 (show Rp _ _ _ _ _ _ (.d (.tuple ds)) v from dpMono e2 r1) rfl
      obtain ⟨m, us, rfl, _, hU, hu⟩ := Rp.tup (sv := .d (.tuple es)) w2 r2 rfl
      refine ⟨l, m, vs, us, rfl, rfl, hT, hU, by rw [dpAllLen hv, dpAllLen hu]; exact hz, fun z => ?_, fun _ z => ?_, fun _ _ z hz => ?_⟩
      · subst z
        cases hv
        exact .same (e1.trans e2) (.here w2 r2 q)
      · subst z
        cases hu
        rw [List.append_nil] at q
        exact .same (e1.trans e2) (.here w2 (show Rp _ _ _ _ _ _ (.d (.tuple ds)) _ from dpMono e2 r1) q)
      · obtain ⟨w3, s3⟩ := w2.allocD (o := .tup (vs ++ us)) hz
        exact .same ((e1.trans e2).trans s3) (.here w3 (show Rp _ _ _ _ _ _ (.d (.tuple (ds ++ es))) _ from Dq.tup (upd_same) (dpAllApp (dpAllMono s3 hv) (dpAllMono s3 hu))) q)
/-! list + list -/
def vO (R : DS) : SV → Option (List D)
  | .own (.lst ds) => some ds
  | .loc i => match R[i]? with
    | some (.own (.lst ds)) => some ds
    | _ => none
  | _ => none
theorem Rp.exact {K : PySem.W.Frag} {F : Fr} {P : List Nat} {R : DS} {σ : L2.St} {Hd H : Hp} {sv : SV} {v : V} {ds : List D} (w : Wd K F P R σ Hd H) (r : Rp K F R σ Hd H sv v) (h : vO R sv = some ds) : ∃ a vs, v = .ref a ∧ H a = some (.lst vs) ∧ DqAll K Hd vs ds := by
  unfold vO at h
  split at h
  · cases h
    obtain ⟨a, o, rfl, ha, ⟨vs, ho, hv⟩, _⟩ := r
    subst ho
    exact ⟨a, vs, rfl, ha, hv⟩
  · rename_i i
    split at h
    · rename_i e
      cases h
      obtain ⟨a, o, s1, ha, ⟨vs, ho, hv⟩, _⟩ := w.own i _ e
      subst ho
      have s2 := r.1
      rw [s1] at s2
      cases s2
      exact ⟨a, vs, rfl, ha, hv⟩
    · cases h
  · cases h
theorem we_catL (h : WE X P a R fun x R1 => ∃ i, x = .loc i ∧ WE X P b R1 fun y R2 => ∃ ds es, R2[i]? = some (.own (.lst ds)) ∧ vO R2 y = some es ∧ ds.length + es.length ≤ sizeLine ∧ Q (.own (.lst (ds ++ es))) R2) : WE X P (.BinOp a .Add b pos) R Q :=
  .of (pe_op op_cat pe_m pe_m) fun F σ Hd H w => h.use w fun Hd1 R1 x v H1 e1 w1 r1 q1 => by
    obtain ⟨i, rfl, q1⟩ := q1
    exact q1.use w1 fun Hd2 R2 y u H2 e2 w2 r2 q2 => by
      obtain ⟨ds, es, hR, hy, hz, q⟩ := q2
      obtain ⟨m, us, rfl, hm, hu⟩ := Rp.exact w2 r2 hy
      obtain ⟨l, o, s1, hl, ⟨vs, ho, hv⟩, _⟩ := w2.own i _ hR
      subst ho
      have s2 := r1.1
      rw [s1] at s2
      cases s2
      exact ⟨l, m, vs, us, rfl, rfl, hl, hm, by rw [dpAllLen hv, dpAllLen hu]; exact hz, fun z hz => .same (e1.trans e2) (.here (w2.allocH hz) (ownNew w2 hz (crL (dpAllApp hv hu))) q)⟩
theorem we_catO (h : WE X P a R fun x R1 => ∃ ds, x = .own (.lst ds) ∧ WE X P b R1 fun y R2 => ∃ es, vO R2 y = some es ∧ ds.length + es.length ≤ sizeLine ∧ Q (.own (.lst (ds ++ es))) R2) : WE X P (.BinOp a .Add b pos) R Q :=
  .of (pe_op op_cat pe_m pe_m) fun F σ Hd H w => h.use w fun Hd1 R1 x v H1 e1 w1 r1 q1 => by
    obtain ⟨ds, rfl, q1⟩ := q1
    obtain ⟨l, o, rfl, hl, ⟨vs, ho, hv⟩, hd, hf, hn⟩ := r1
    subst ho
    have hz0 : ¬ F.Fz l := fun z => (w1.prot l z).2 hf
    exact (q1.run (F.with l (.lst vs)) σ Hd1 H1 (w1.enter hl hd hn)).mono fun u H2 ⟨Hd2, R2, y, e2, w2, r2, q2⟩ => by
      obtain ⟨es, hy, hz, q⟩ := q2
      obtain ⟨m, us, rfl, hm, hu⟩ := Rp.exact w2 r2 hy
      obtain ⟨w3, g1, g2, g3⟩ := Wd.leave w2 hf hz0
      exact ⟨l, m, vs, us, rfl, rfl, g1, hm, by rw [dpAllLen hv, dpAllLen hu]; exact hz, fun z hz => .same (e1.trans e2) (.here (w3.allocH hz) (ownNew w3 hz (crL (dpAllApp (dpAllMono e2 hv) hu))) q)⟩
/-- xs or ys: lists -/
theorem we_orL (h : WE X P a R fun x R1 => ∃ ds, x = .own (.lst ds) ∧ (ds ≠ [] → Q (.own (.lst ds)) R1) ∧ (ds = [] → WE X P (.BoolOp .Or (b :: rest) pos) R1 Q)) : WE X P (.BoolOp .Or (a :: b :: rest) pos) R Q :=
  .of (pe_orT pe_m pe_m) fun F σ Hd H w => h.use w fun Hd1 R1 x v H1 e1 w1 r1 q1 => by
    obtain ⟨ds, rfl, g1, g2⟩ := q1
    obtain ⟨l, vs, rfl, hl, hv⟩ := Rp.list w1 r1 rfl
    refine ⟨!vs.isEmpty, .inl ⟨vs, hl, rfl⟩, ?_⟩
    cases ds with
    | nil =>
      cases hv
      exact iteF ((g2 rfl).use w1 fun Hd2 R2 y u H2 e2 w2 r2 q2 => .same (e1.trans e2) (.here w2 r2 q2))
    | cons d ds =>
      cases hv
      exact iteT (.same e1 (.here w1 r1 (g1 (by intro z; cases z))))
/-! == of ints, texts, truths -/
def sc2 : SV → SV → (Bool → Prop) → Prop
  | .d (.int i), .d (.int j), k => k (decide (i = j))
  | .d (.str i), .d (.str j), k => k (decide (i = j))
  | .d (.bool i), .d (.bool j), k => k (decide (i = j))
  | _, _, _ => False
theorem sc2_ok {K : PySem.W.Frag} {H : Hp} {F : Fr} {R : DS} {σ : L2.St} {Hd : Hp} {x y : SV} {v u : V} {k : Bool → Prop} (h : sc2 x y k) (r1 : Rp K F R σ Hd H x v) (r2 : Rp K F R σ Hd H y u) : scal v u = true ∧ k (decide (v = u)) := by
  unfold sc2 at h
  split at h
  · cases (show Dq _ _ v (.int _) from r1)
    cases (show Dq _ _ u (.int _) from r2)
    refine ⟨rfl, ?_⟩
    rw [dec_int, Bool.beq_eq_decide_eq]
    exact h
  · cases (show Dq _ _ v (.str _) from r1)
    cases (show Dq _ _ u (.str _) from r2)
    refine ⟨rfl, ?_⟩
    have e : ∀ i j : Str, decide (V.str i = V.str j) = decide (i = j) := fun i j => by
      by_cases z : i = j
      · subst z; simp
      · rw [decide_eq_false z, decide_eq_false fun y => z (V.str.inj y)]
    rw [e]
    exact h
  · cases (show Dq _ _ v (.bool _) from r1)
    cases (show Dq _ _ u (.bool _) from r2)
    refine ⟨rfl, ?_⟩
    rw [dec_bl, Bool.beq_eq_decide_eq]
    exact h
  · cases h
theorem fit_eqS (h : WE X P a R fun x R1 => stb x fun x => WE X P b R1 fun y R2 => (∃ d, vD R2 x = some d) ∧ sc2 x y fun c => Q (.d (.bool c)) R2) : Fits X P R (tOp rEq (TEm X a) (TEm X b)) Q :=
  two h fun F σ Hd H x y R2 v u Z w r1 r2 g k => by
    obtain ⟨g1, g2⟩ := sc2_ok g r1 r2
    exact ⟨g1, k _ _ (.here w (show Rp _ _ _ _ _ _ (.d (.bool _)) _ from .bl _) g2)⟩
theorem fit_neS (h : WE X P a R fun x R1 => stb x fun x => WE X P b R1 fun y R2 => (∃ d, vD R2 x = some d) ∧ sc2 x y fun c => Q (.d (.bool (!c))) R2) : Fits X P R (tOp rNe (TEm X a) (TEm X b)) Q :=
  two h fun F σ Hd H x y R2 v u Z w r1 r2 g k => by
    obtain ⟨g1, g2⟩ := sc2_ok g r1 r2
    exact ⟨g1, k _ _ (.here w (show Rp _ _ _ _ _ _ (.d (.bool _)) _ from .bl _) g2)⟩
theorem we_eqS (h : WE X P a R fun x R1 => stb x fun x => WE X P b R1 fun y R2 => (∃ d, vD R2 x = some d) ∧ sc2 x y fun c => Q (.d (.bool c)) R2) : WE X P (.Compare a [.Eq] [b] pos) R Q := .fit (pe_cmpR op_eq pe_m pe_m (nomark _)) (fit_eqS h)
theorem wt_eqS {Q : Bool → DS → Prop} (h : WE X P a R fun x R1 => stb x fun x => WE X P b R1 fun y R2 => (∃ d, vD R2 x = some d) ∧ sc2 x y fun c => Q c R2) : WT X P (.Compare a [.Eq] [b] pos) R Q :=
  .fit (pt_cmpR op_eq pe_m pe_m (nomark _)) (fit_eqS (Q := fun x R1 => asB x fun c => Q c R1) h)
theorem we_neS (h : WE X P a R fun x R1 => stb x fun x => WE X P b R1 fun y R2 => (∃ d, vD R2 x = some d) ∧ sc2 x y fun c => Q (.d (.bool (!c))) R2) : WE X P (.Compare a [.NotEq] [b] pos) R Q := .fit (pe_cmpR op_ne pe_m pe_m (nomark _)) (fit_neS h)
theorem wt_neS {Q : Bool → DS → Prop} (h : WE X P a R fun x R1 => stb x fun x => WE X P b R1 fun y R2 => (∃ d, vD R2 x = some d) ∧ sc2 x y fun c => Q (!c) R2) : WT X P (.Compare a [.NotEq] [b] pos) R Q :=
  .fit (pt_cmpR op_ne pe_m pe_m (nomark _)) (fit_neS (Q := fun x R1 => asB x fun c => Q c R1) h)
/-! isinstance with a built-in class -/
def tyN : D → String
  | .none => "NoneType" | .bool _ => "bool" | .int _ => "int" | .str _ => "str" | .list _ => "list" | .tuple _ => "tuple" | .dict _ => "dict"
end
end Dl
namespace Dl
open PySem PySem.Spec PyProof.Rows L2
/-! isinstance with a built-in class -/
theorem ty_of {K : PySem.W.Frag} {H : Hp} {v : V} {x : D} (h : Dq K H v x) : TyX K H v (.type (tyN x)) := by
  cases h with
  | non => exact .base .non
  | bl b => exact .base (.bl b)
  | int i => exact .base (.int i)
  | str x => exact .base (.str x)
  | lst hs ha =>
    rcases hs with (hs | ⟨o, hs⟩) | ⟨o, its, n, hk, hc, _⟩
    · exact .base (.lst hs)
    · exact .base (.frz hs)
    · exact .kList hk hc
  | tup hs ha => exact .base (.tup hs)
  | dct0 h => exact .base (.dK h)

section
variable {X : Cx} {P : List Nat} {R : DS} {a b c e kx vx tg it : Expr} {scope : Scope} {js : List Nat} {pos p p2 : Pos} {Q : SV → DS → Prop}
theorem we_isi {y : Str} {T : String} (hm : X.mg "isinstance" = none) (hg : Gl X "isinstance") (hm2 : X.mg y = none) (hg2 : Gl X y) (hv : bootBuiltins y = some (.type T))
    (h : WE X P a R fun x R1 => ∃ d k, vD R1 x = some d ∧ kitB (tyN d) T = some k ∧ Q (.d (.bool k)) R1) (hn : y ≠ "__name__" := by decide) (hd : (y == ("__debug__" : Str)) = false := by decide)
    (he : starEach [a, .Name y p2] X.env = (false, eval a X.env) :: starEach [.Name y p2] X.env := by rfl) (he2 : starEach [.Name y p2] X.env = (false, eval (.Name y p2) X.env) :: starEach [] X.env := by rfl) (hpl : (backTo pos (starEach [.Name y p2] X.env)).any (·.1) = false := by rfl) :
    WE X P (.Call (.Name "isinstance" p) [a, .Name y p2] [] pos) R Q :=
  .of (pe_callB call_isi hg hm (by decide +kernel) (pa_cons pe_m (pa_cons (pe_bltn (v := .ty T) hg2 hm2 hv rfl hn hd) pa_nil he2) he) (by decide) (by decide) he hpl) fun F σ Hd H w => h.use w fun Hd1 R1 x v H1 e1 w1 r1 q1 => by
    obtain ⟨d, k, hd, hk, q⟩ := q1
    exact ⟨v, .ty T, _, _, k, rfl, .ty T, ty_of (Rp.dat w1 r1 hd), kit_ty hk, .same e1 (.here w1 (show Rp _ _ _ _ _ _ (.d (.bool k)) _ from .bl k) q)⟩

/-! {k: v for ..}: int keys, over a list, no test -/
def LpD (K : PySem.W.Frag) (F : Fr) (P : List Nat) (τ : L2.St) (Hd1 : Hp) (I : Nat → List (Key × D) → DS → Prop) (Dl : Addr) (i : Nat) (H' : Hp) : Prop :=
  ∃ Hd' R' ws kvs, Same Hd1 Hd' ∧ Wd K F P R' τ Hd' H' ∧ H' Dl = some (.dK ws) ∧ Paired (fun (p : Key × D) (q : Key × V) => p.1 = q.1 ∧ Dq K Hd' q.2 p.2) kvs ws ∧ Hd' Dl = none ∧ NoOwn R' τ Dl ∧ kvs.length ≤ i ∧ I i kvs R'
theorem putD_len {κ : Type} [DecidableEq κ] (kvs : List (κ × D)) (k : κ) (v : D) : (putD kvs k v).length ≤ kvs.length + 1 := by
  unfold putD
  split
  · rw [List.length_map]; omega
  · rw [List.length_append]; simp
def TnD (X : Cx) (P : List Nat) (scope : Scope) (tg kx vx : Expr) (js vs : List Nat) (I : Nat → List (Key × D) → DS → Prop) (i : Nat) (kvs : List (Key × D)) (x : D) (R' : DS) : Prop :=
  AllB X scope fun Y => WG Y P tg js R' x fun R2 => AllB X scope fun Y => WE Y P kx R2 fun y R3 => asI y fun n => AllB X scope fun Y => WE Y P vx R3 fun z R4 => asD z fun d => I (i + 1) (putD kvs (Sum.inl n) d) (wipeR R4 vs)
theorem dc_fits (own : List (Str × Nat)) (js : List Nat) (hvs : ∀ v ∈ own.map (·.2), v ∉ P) (hj : ∀ j ∈ js, j ∈ own.map (·.2))
    (h : WE X P it R fun sv R1 => asD sv fun d => ∃ (xs : List D) (I : Nat → List (Key × D) → DS → Prop), d = .list xs ∧ xs.length ≤ sizeLine ∧ I 0 [] (wipeR R1 (own.map (·.2))) ∧
      (∀ i x kvs R', xs[i]? = some x → I i kvs R' → TnD X P scope tg kx vx js (own.map (·.2)) I i kvs x R') ∧ ∀ kvs R', I xs.length kvs R' → Q (.own (.dK kvs)) R') : Fits X P R (tDc (iList X.K (TEm X it)) (gB X scope tg) tYes (teB X scope kx) (teB X scope vx) (own.map (·.2))) Q :=
  fun F σ Hd H w Z hZ => h.fzD.use w fun Hd1 R1 sv v H1 e1 w1 r1 q1 => by
    obtain ⟨d, rfl, xs, I, rfl, hl, i0, step, fin⟩ := q1
    have r' : Dq X.K Hd1 v (.list xs) := r1
    cases r' with
    | lst hS hv =>
      rename_i ad ws
      refine ⟨ad, rfl, ⟨ws, w1.dat.seq hS⟩, fun Dl hD => ?_⟩
      have hf : F.Hf Dl = none := sameNone w1.frm hD
      have hz : ¬ F.Fz Dl := fun z => (w1.prot Dl z).2 hf
      have no : NoOwn R1 σ Dl := fun i n q z => by
        obtain ⟨b, u, s1, s2, _⟩ := w1.own i n q
        rw [z] at s1
        cases s1
        rw [hD] at s2
        cases s2
      have l0 : LpD X.K F P (wipe σ (own.map (·.2))) Hd1 I Dl 0 (upd H1 Dl (.dK [])) := ⟨Hd1, _, [], [], Same.refl _, (w1.allocH hD).wiped hvs, upd_same, .nil, sameNone w1.dat hD, no.wiped, Nat.le_refl _, i0⟩
      refine ⟨fun i m H' => m = ws.length - i ∧ i ≤ ws.length ∧ LpD X.K F P (wipe σ (own.map (·.2))) Hd1 I Dl i H', ⟨ws.length, by simp, Nat.zero_le _, l0⟩, fun i m H' hW => ?_⟩
      obtain ⟨rfl, hi, hL⟩ := hW
      have hL0 := hL
      obtain ⟨Hd', R', va, kvs, e, w', h1, h2, h3, h4, h5, h6⟩ := hL
      have hA : SqL X.K H' ad ws := w'.dat.seq (e.seq hS)
      by_cases hlt : i < ws.length
      · have hx : ws[i]? = some ws[i] := List.getElem?_eq_getElem hlt
        obtain ⟨x, hx1, hdp⟩ := dpAllGetV hv hx
        have hi2 : i < xs.length := (List.getElem?_eq_some_iff.mp hx1).1
        refine .inr ⟨⟨ws, _, hA, hx⟩, LpD X.K F P (wipe σ (own.map (·.2))) Hd1 I Dl (i + 1), fun H2 hN2 => ⟨ws.length - (i + 1), by omega, rfl, hlt, hN2⟩, fun y H2 hy => ?_⟩
        obtain ⟨rfl, fy⟩ := hy
        have ey : y = ws[i] := Option.some.inj ((fy _ hA).symm.trans hx)
        subst ey
        intro s H0 C cl fp
        refine ((step i x kvs R' hx1 h6 s H0 C cl fp).run (F.with Dl (.dK va)) _ Hd' _ _ (w'.enter h1 h3 h4) (dpMono e hdp)).mono fun σ2 H2 ⟨Hd2, R2, e2, w2, wp, q2⟩ => ?_
        have hw : wipe σ2 (own.map (·.2)) = wipe σ (own.map (·.2)) := by rw [wp _ hj, wipe_wipe]
        refine ⟨hw, iteT (B := LpD X.K F P (wipe σ (own.map (·.2))) Hd1 I Dl (i + 1) H2) fun s H0 C cl fp => (q2 s H0 C cl fp).use w2 fun Hd3 R3 y3 u3 H3 e3 w3 r3 q3 => ?_⟩
        obtain ⟨n, rfl, q3⟩ := q3.elim
        cases (show Dq _ _ u3 (.int n) from r3)
        intro s H0 C cl fp
        refine (q3 s H0 C cl fp).fzD.use w3 fun Hd4 R4 y4 u4 H4 e4 w4 r4 q4 => ?_
        obtain ⟨d4, rfl, q4⟩ := q4
        obtain ⟨w5, g1, g2, g3⟩ := Wd.leave w4 hf hz
        have hv2 : Paired (fun (p : Key × D) (q : Key × V) => p.1 = q.1 ∧ Dq X.K Hd4 q.2 p.2) kvs va := Paired.mapP h2 fun _ _ q => ⟨q.1, dpMono ((e2.trans e3).trans e4) q.2⟩
        refine ⟨va, Sum.inl n, rfl, g1, by rw [pairedLen hv2]; omega, Hd4, wipeR R4 (own.map (·.2)), _, putD kvs (Sum.inl n) d4, ((e.trans e2).trans e3).trans e4, ?_, upd_same, put_dp (Sum.inl n) r4 hv2, g2, ?_, Nat.le_trans (putD_len kvs (Sum.inl n) d4) (by omega), q4⟩
        · rw [← hw]
          exact (w5.poke g1 (crp_bare (crK hv2)) g2 hf g3).wiped hvs
        · rw [← hw]
          exact g3.wiped
      · have ei : i = xs.length := by rw [← dpAllLen hv]; omega
        subst ei
        exact .inl ⟨⟨ws, hA, by omega⟩, hZ _ _ ⟨Hd', R', .own (.dK kvs), e1.trans e, w'.unwipe, ⟨Dl, _, rfl, h1, crK h2, h3, hf, h4.unwipe w'⟩, fin kvs R' h6⟩⟩
theorem we_dc0 (own : List (Str × Nat)) (js : List Nat) (hc : X.calm = true) (hN : X.N.Nodup) (ok : BlkOk X.N X.env.scope scope own) (hvs : ∀ v ∈ own.map (·.2), v ∉ P) (hj : ∀ j ∈ js, j ∈ own.map (·.2))
    (h : WE X P it R fun sv R1 => asD sv fun d => ∃ (xs : List D) (I : Nat → List (Key × D) → DS → Prop), d = .list xs ∧ xs.length ≤ sizeLine ∧ I 0 [] (wipeR R1 (own.map (·.2))) ∧
      (∀ i x kvs R', xs[i]? = some x → I i kvs R' → TnD X P scope tg kx vx js (own.map (·.2)) I i kvs x R') ∧ ∀ kvs R', I xs.length kvs R' → Q (.own (.dK kvs)) R')
    (hs : ∀ x, foldedSetIterable it X.env x = pure x := by intro _; rfl) : WE X P (.DictComp kx vx [⟨tg, it, [], 0⟩] scope pos) R Q :=
  .fit (pe_dc (own := own) hc hN (pi_list pe_m) ok (fun s H C cl fp => (⟨fun pins s' σ H' v u Z I r h => h s H C cl fp pins s' u I r⟩ : PG _ tg (gB X scope tg))) (fun _ _ _ _ _ => pts_nil) (fun s H C cl fp => (⟨fun pins s' σ H' Z I h => h s H C cl fp pins s' I⟩ : PE _ kx (teB X scope kx)))
    (fun s H C cl fp => (⟨fun pins s' σ H' Z I h => h s H C cl fp pins s' I⟩ : PE _ vx (teB X scope vx))) hs) (dc_fits own js hvs hj h)
end
end Dl
namespace Dl
open PySem PySem.Spec PyProof.Rows L2
theorem atI_of {α : Type} {xs : List α} {i : Int} {v : α} (h0 : 0 ≤ i) (h : xs[i.toNat]? = some v) : atI xs i = some v := by
  have e : i = ((i.toNat : Nat) : Int) := by omega
  have := atI_nat h
  rw [← e] at this
  exact this
theorem rep_one {α : Type} (x : α) : ∀ n : Nat, (List.replicate n [x]).flatten = List.replicate n x
  | 0 => rfl
  | n + 1 => by rw [List.replicate_succ, List.replicate_succ, List.flatten_cons, rep_one x n]; rfl
theorem lay_ints : ∀ ns : List Int, PyData.canLayAll0 (ns.map PyData.int) = true
  | [] => rfl
  | n :: r => by
    rw [List.map_cons]
    show (PyData.canLay0 (.int n) && PyData.canLayAll0 (r.map PyData.int)) = true
    rw [lay_ints r]
    rfl
theorem depth_ints : ∀ ns : List Int, PyData.depthAll (ns.map PyData.int) = 0
  | [] => rfl
  | n :: r => by
    rw [List.map_cons]
    show max (PyData.depth (.int n)) (PyData.depthAll (r.map PyData.int)) = 0
    rw [depth_ints r]
    rfl
theorem shaped_ints (ns : List Int) : SeqAt.shaped (.list (ns.map PyData.int)) = true := by
  unfold SeqAt.shaped
  rw [Bool.and_eq_true, decide_eq_true_eq]
  refine ⟨lay_ints ns, ?_⟩
  show PyData.depthAll (ns.map PyData.int) + 1 ≤ 64
  rw [depth_ints]
  decide
theorem eqv_int (i j : Int) : PyData.eqv (.int i) (.int j) = (i == j) := by simp [PyData.eqv]
theorem eqvAll_ints : ∀ a b : List Int, PyData.eqvAll (a.map PyData.int) (b.map PyData.int) = decide (a = b)
  | [], [] => by simp [PyData.eqvAll]
  | [], y :: b => by simp [PyData.eqvAll]
  | x :: a, [] => by simp [PyData.eqvAll]
  | x :: a, y :: b => by
    rw [List.map_cons, List.map_cons]
    show (PyData.eqv (.int x) (.int y) && PyData.eqvAll (a.map PyData.int) (b.map PyData.int)) = _
    rw [eqvAll_ints a b, eqv_int]
    by_cases h : x = y
    · subst h
      simp
    · simp [h]
theorem eqv_ints (a b : List Int) : PyData.eqv (.list (a.map PyData.int)) (.list (b.map PyData.int)) = decide (a = b) := by
  rw [← eqvAll_ints]
  simp [PyData.eqv]
/-- lists of ints against one another -/
theorem gEq_ints {R2 : DS} {x y : SV} {a b : List Int} {k : Bool → Prop} (h1 : vD R2 x = some (.list (a.map PyData.int))) (h2 : vD R2 y = some (.list (b.map PyData.int))) (q : k (decide (a = b))) : gEq R2 x y k :=
  ⟨_, _, h1, h2, shaped_ints a, shaped_ints b, by rw [eqv_ints]; exact q⟩
end Dl
namespace Dl
open PySem PySem.Spec PyProof.Rows L2
theorem allB_i {X : Cx} {scope : Scope} {f : Cx → Prop} (h : ∀ (s : Shared) (H : Hp) (C : Addr) (cl : List (Str × Addr)) (fp : List Addr), f (X.blk s H scope (compEnvC scope cl C X.env) fp)) : AllB X scope f := h
theorem wgs_consN {X : Cx} {P : List Nat} {R : DS} {e : Expr} {es : List Expr} {j : Nat} {ks : List Nat} {x : D} {xs : List D} {Q : DS → Prop} (h : WG X P e [j] R x fun R1 => WGs X P es ks R1 xs Q)
    (hs : (assignEach (e :: es) X.env).map (·.2) = assign e X.env :: (assignEach es X.env).map (·.2) := by rfl) : WGs X P (e :: es) (j :: ks) R (x :: xs) Q := wgs_cons h hs
theorem wt_bool {X : Cx} {P : List Nat} {R : DS} {op : _} {es : List Expr} {pos : Pos} {Q : Bool → DS → Prop} (h : WW X P (.BoolOp op es pos) R Q) : WT X P (.BoolOp op es pos) R Q := wt_w h
theorem gIn_l {R2 : DS} {x y : SV} {k : Bool → Prop} (i : Int) (ns : List Int) (hx : x = .d (.int i)) (hy : vL R2 y = some (ns.map PyData.int)) (q : k (decide (i ∈ ns))) : gIn R2 x y k := ⟨i, ns, hx, hy, q⟩
theorem gInD_l {R2 : DS} {x y : SV} {k : Bool → Prop} (i : Int) (j : Nat) (kvs : List (Key × D)) (hx : x = .d (.int i)) (hy : y = .loc j) (hR : R2[j]? = some (.own (.dK kvs))) (q : k (hasK kvs (Sum.inl i))) : gInD R2 x y k := ⟨i, j, kvs, hx, hy, hR, q⟩
theorem ws_fz (i : Nat) {X : Cx} {P : List Nat} {R : DS} {st : Stmt} {D' : DEnds} {ds : List D} (hi : R[i]? = some (.own (.lst ds))) (hP : i ∉ P) (h : WS X P st (R.set i (.d (.list ds))) D') : WS X P st R D' :=
  ⟨fun F σ Hd H w => by
    obtain ⟨Hd1, v, _, e1, w1, _⟩ := w.fz hi hP
    exact (h.run F σ Hd1 H w1).mono (upD_le e1)⟩
theorem sz1000 : 1000 ≤ sizeLine := by decide
theorem szle {n : Nat} (h : n ≤ 1000) : n ≤ sizeLine := Nat.le_trans h sz1000
/-! +, *, ==, slices: by what the left one is -/
def asT : SV → (List D → Prop) → Prop
  | .d (.tuple ds), k => k ds
  | _, _ => False
theorem asT.elim {sv : SV} {k : List D → Prop} (h : asT sv k) : ∃ ds, sv = .d (.tuple ds) ∧ k ds := by
  unfold asT at h
  split at h
  · exact ⟨_, rfl, h⟩
  · cases h
section
variable {X : Cx} {P : List Nat} {R : DS} {a b e : Expr} {pos : Pos} {Q : SV → DS → Prop}
def addG (X : Cx) (P : List Nat) (b : Expr) (Q : SV → DS → Prop) (R1 : DS) : SV → Prop
  | .d (.int i) => WE X P b R1 fun y R2 => asI y fun j => Q (.d (.int (i + j))) R2
  | .d (.tuple ds) => WE X P b R1 fun y R2 => asT y fun es => ds.length + es.length ≤ sizeLine ∧ Q (.d (.tuple (ds ++ es))) R2
  | .loc i => WE X P b R1 fun y R2 => ∃ ds es, R2[i]? = some (.own (.lst ds)) ∧ vO R2 y = some es ∧ ds.length + es.length ≤ sizeLine ∧ Q (.own (.lst (ds ++ es))) R2
  | .own (.lst ds) => WE X P b R1 fun y R2 => ∃ es, vO R2 y = some es ∧ ds.length + es.length ≤ sizeLine ∧ Q (.own (.lst (ds ++ es))) R2
  | _ => False
theorem we_addG (h : WE X P a R fun x R1 => addG X P b Q R1 x) : WE X P (.BinOp a .Add b pos) R Q :=
  .of (pe_op (op_add.or (op_catA.or op_cat)) pe_m pe_m) fun F σ Hd H w => h.use w fun Hd1 R1 x v H1 e1 w1 r1 q1 => by
    unfold addG at q1
    split at q1
    · rename_i i
      cases (show Dq _ _ v (.int i) from r1)
      exact q1.use w1 fun Hd2 R2 y u H2 e2 w2 r2 q2 => by
        obtain ⟨j, rfl, q⟩ := q2.elim
        cases (show Dq _ _ u (.int j) from r2)
        exact .inl ⟨i, j, rfl, rfl, .same (e1.trans e2) (.here w2 (show Rp _ _ _ _ _ _ (.d (.int (i + j))) _ from .int _) q)⟩
    · rename_i ds
      exact q1.use w1 fun Hd2 R2 y u H2 e2 w2 r2 q2 => by
        obtain ⟨es, rfl, hz, q⟩ := q2.elim
        obtain ⟨l, vs, rfl, _, hT, hv⟩ := Rp.tup (sv := .d (.tuple ds)) w2 (show Rp _ _ _ _ _ _ (.d (.tuple ds)) v from dpMono e2 r1) rfl
        obtain ⟨m, us, rfl, _, hU, hu⟩ := Rp.tup (sv := .d (.tuple es)) w2 r2 rfl
        refine .inr (.inl ⟨l, m, vs, us, rfl, rfl, hT, hU, by rw [dpAllLen hv, dpAllLen hu]; exact hz, fun z => ?_, fun _ z => ?_, fun _ _ z hz => ?_⟩)
        · subst z
          cases hv
          exact .same (e1.trans e2) (.here w2 r2 q)
        · subst z
          cases hu
          rw [List.append_nil] at q
          exact .same (e1.trans e2) (.here w2 (show Rp _ _ _ _ _ _ (.d (.tuple ds)) _ from dpMono e2 r1) q)
        · obtain ⟨w3, s3⟩ := w2.allocD (o := .tup (vs ++ us)) hz
          exact .same ((e1.trans e2).trans s3) (.here w3 (show Rp _ _ _ _ _ _ (.d (.tuple (ds ++ es))) _ from Dq.tup (upd_same) (dpAllApp (dpAllMono s3 hv) (dpAllMono s3 hu))) q)
    · rename_i i
      exact q1.use w1 fun Hd2 R2 y u H2 e2 w2 r2 q2 => by
        obtain ⟨ds, es, hR, hy, hz, q⟩ := q2
        obtain ⟨m, us, rfl, hm, hu⟩ := Rp.exact w2 r2 hy
        obtain ⟨l, o, s1, hl, ⟨vs, ho, hv⟩, _⟩ := w2.own i _ hR
        subst ho
        have s2 := r1.1
        rw [s1] at s2
        cases s2
        exact .inr (.inr ⟨l, m, vs, us, rfl, rfl, hl, hm, by rw [dpAllLen hv, dpAllLen hu]; exact hz, fun z hz => .same (e1.trans e2) (.here (w2.allocH hz) (ownNew w2 hz (crL (dpAllApp hv hu))) q)⟩)
    · rename_i ds
      obtain ⟨l, o, rfl, hl, ⟨vs, ho, hv⟩, hd, hf, hn⟩ := r1
      subst ho
      have hz0 : ¬ F.Fz l := fun z => (w1.prot l z).2 hf
      exact (q1.run (F.with l (.lst vs)) σ Hd1 H1 (w1.enter hl hd hn)).mono fun u H2 ⟨Hd2, R2, y, e2, w2, r2, q2⟩ => by
        obtain ⟨es, hy, hz, q⟩ := q2
        obtain ⟨m, us, rfl, hm, hu⟩ := Rp.exact w2 r2 hy
        obtain ⟨w3, g1, g2, g3⟩ := Wd.leave w2 hf hz0
        exact .inr (.inr ⟨l, m, vs, us, rfl, rfl, g1, hm, by rw [dpAllLen hv, dpAllLen hu]; exact hz, fun z hz => .same (e1.trans e2) (.here (w3.allocH hz) (ownNew w3 hz (crL (dpAllApp (dpAllMono e2 hv) hu))) q)⟩)
    · cases q1
def mulG (X : Cx) (P : List Nat) (b : Expr) (Q : SV → DS → Prop) (R1 : DS) : SV → Prop
  | .d (.int i) => WE X P b R1 fun y R2 => asI y fun j => CMul i j ∧ Q (.d (.int (i * j))) R2
  | .d (.tuple ds) => WE X P b R1 fun y R2 => asI y fun k => (ds ≠ [] ∧ 1 ≤ k ∧ k ≤ 1000 ∧ ds.length ≤ 1000) ∧ Q (.d (.tuple (List.replicate k.toNat ds).flatten)) R2
  | _ => False
theorem we_mulG (h : WE X P a R fun x R1 => mulG X P b Q R1 x) : WE X P (.BinOp a .Mult b pos) R Q :=
  .of (pe_op (op_mul.or (op_repT.or op_once)) pe_m pe_m) fun F σ Hd H w => h.use w fun Hd1 R1 x v H1 e1 w1 r1 q1 => by
    unfold mulG at q1
    split at q1
    · rename_i i
      cases (show Dq _ _ v (.int i) from r1)
      exact q1.use w1 fun Hd2 R2 y u H2 e2 w2 r2 q2 => by
        obtain ⟨j, rfl, c, q⟩ := q2.elim
        cases (show Dq _ _ u (.int j) from r2)
        exact .inl ⟨i, j, rfl, rfl, c, .same (e1.trans e2) (.here w2 (show Rp _ _ _ _ _ _ (.d (.int (i * j))) _ from .int _) q)⟩
    · rename_i ds
      exact q1.use w1 fun Hd2 R2 y u H2 e2 w2 r2 q2 => by
        obtain ⟨k, rfl, ⟨g1, g2, g3, g4⟩, q⟩ := q2.elim
        cases (show Dq _ _ u (.int k) from r2)
        obtain ⟨l, vs, rfl, _, hT, hv⟩ := Rp.tup (sv := .d (.tuple ds)) w2 (show Rp _ _ _ _ _ _ (.d (.tuple ds)) v from dpMono e2 r1) rfl
        have hne : vs ≠ [] := fun z => g1 (by
          have := dpAllLen hv
          rw [z] at this
          exact List.eq_nil_of_length_eq_zero this.symm)
        by_cases hk : k = 1
        · subst hk
          refine .inr (.inr ⟨l, vs, rfl, rfl, hT, .same (e1.trans e2) (.here w2 (sv := .d (.tuple (List.replicate (Int.toNat 1) ds).flatten)) ?_ q)⟩)
          have e : (List.replicate (Int.toNat 1) ds).flatten = ds := by
            show (List.replicate 1 ds).flatten = ds
            rw [List.replicate_one, List.flatten_cons, List.flatten_nil, List.append_nil]
          rw [e]
          exact dpMono e2 r1
        · refine .inr (.inl ⟨l, k, vs, rfl, rfl, hT, hne, by omega, g3, by rw [dpAllLen hv]; exact g4, fun z hz => ?_⟩)
          obtain ⟨w3, s3⟩ := w2.allocD (o := .tup (List.replicate k.toNat vs).flatten) hz
          exact .same ((e1.trans e2).trans s3) (.here w3 (show Rp _ _ _ _ _ _ (.d (.tuple (List.replicate k.toNat ds).flatten)) _ from Dq.tup (upd_same) (rep_dp (dpAllMono s3 hv) _)) q)
    · cases q1
def eqG (R2 : DS) (x y : SV) (k : Bool → Prop) : Prop := match x, y with
  | .d (.int i), .d (.int j) => k (decide (i = j))
  | .d (.str i), .d (.str j) => k (decide (i = j))
  | .d (.bool i), .d (.bool j) => k (decide (i = j))
  | x, y => gEq R2 x y k
theorem eqG_or {R2 : DS} {x y : SV} {k : Bool → Prop} (h : eqG R2 x y k) : sc2 x y k ∨ gEq R2 x y k := by
  unfold eqG at h
  split at h
  · exact .inl h
  · exact .inl h
  · exact .inl h
  · exact .inr h
theorem fit_eqG (h : WE X P a R fun x R1 => stb x fun x => WE X P b R1 fun y R2 => (∃ d, vD R2 x = some d) ∧ eqG R2 x y fun c => Q (.d (.bool c)) R2) : Fits X P R (tOp (fun x y H Q => rEq x y H Q ∨ rEqD X.K x y H Q) (TEm X a) (TEm X b)) Q :=
  two h fun F σ Hd H x y R2 v u Z w r1 r2 g k => by
    rcases eqG_or g with g | ⟨d, d', h1, h2, s1, s2, q⟩
    · obtain ⟨g1, g2⟩ := sc2_ok g r1 r2
      exact .inl ⟨g1, k _ _ (.here w (show Rp _ _ _ _ _ _ (.d (.bool _)) _ from .bl _) g2)⟩
    · exact .inr ⟨d, d', (Rp.dat w r1 h1).dp (nd_of s1), (Rp.dat w r2 h2).dp (nd_of s2), s1, s2, k _ _ (.here w (show Rp _ _ _ _ _ _ (.d (.bool _)) _ from .bl _) q)⟩
theorem fit_neG (h : WE X P a R fun x R1 => stb x fun x => WE X P b R1 fun y R2 => (∃ d, vD R2 x = some d) ∧ eqG R2 x y fun c => Q (.d (.bool (!c))) R2) : Fits X P R (tOp (fun x y H Q => rNe x y H Q ∨ rNeD X.K x y H Q) (TEm X a) (TEm X b)) Q :=
  two h fun F σ Hd H x y R2 v u Z w r1 r2 g k => by
    rcases eqG_or g with g | ⟨d, d', h1, h2, s1, s2, q⟩
    · obtain ⟨g1, g2⟩ := sc2_ok g r1 r2
      exact .inl ⟨g1, k _ _ (.here w (show Rp _ _ _ _ _ _ (.d (.bool _)) _ from .bl _) g2)⟩
    · exact .inr ⟨d, d', (Rp.dat w r1 h1).dp (nd_of s1), (Rp.dat w r2 h2).dp (nd_of s2), s1, s2, k _ _ (.here w (show Rp _ _ _ _ _ _ (.d (.bool _)) _ from .bl _) q)⟩
theorem we_eqG {k : Nat} (hr : Room k X.A) (h : WE X P a R fun x R1 => stb x fun x => WE X P b R1 fun y R2 => (∃ d, vD R2 x = some d) ∧ eqG R2 x y fun c => Q (.d (.bool c)) R2) : WE X P (.Compare a [.Eq] [b] pos) R Q :=
  .fit (pe_cmpR (op_eq.or (op_eqD hr.units)) pe_m pe_m (nomark _)) (fit_eqG h)
theorem wt_eqG {k : Nat} {Q : Bool → DS → Prop} (hr : Room k X.A) (h : WE X P a R fun x R1 => stb x fun x => WE X P b R1 fun y R2 => (∃ d, vD R2 x = some d) ∧ eqG R2 x y fun c => Q c R2) : WT X P (.Compare a [.Eq] [b] pos) R Q :=
  .fit (pt_cmpR (op_eq.or (op_eqD hr.units)) pe_m pe_m (nomark _)) (fit_eqG (Q := fun x R1 => asB x fun c => Q c R1) h)
theorem we_neG {k : Nat} (hr : Room k X.A) (h : WE X P a R fun x R1 => stb x fun x => WE X P b R1 fun y R2 => (∃ d, vD R2 x = some d) ∧ eqG R2 x y fun c => Q (.d (.bool (!c))) R2) : WE X P (.Compare a [.NotEq] [b] pos) R Q :=
  .fit (pe_cmpR (op_ne.or (op_neD hr.units)) pe_m pe_m (nomark _)) (fit_neG h)
theorem wt_neG {k : Nat} {Q : Bool → DS → Prop} (hr : Room k X.A) (h : WE X P a R fun x R1 => stb x fun x => WE X P b R1 fun y R2 => (∃ d, vD R2 x = some d) ∧ eqG R2 x y fun c => Q (!c) R2) : WT X P (.Compare a [.NotEq] [b] pos) R Q :=
  .fit (pt_cmpR (op_ne.or (op_neD hr.units)) pe_m pe_m (nomark _)) (fit_neG (Q := fun x R1 => asB x fun c => Q c R1) h)
/-- x[lo:hi]: a list (a new one), a tuple -/
def slG (Q : SV → DS → Prop) (R3 : DS) (l u : Option Int) : SV → Prop
  | .d (.tuple ds) => Q (.d (.tuple (cutD ds l u))) R3
  | .d (.list ds) => Q (.own (.lst (cutD ds l u))) R3
  | .loc i => ∃ ds, R3[i]? = some (.own (.lst ds)) ∧ Q (.own (.lst (cutD ds l u))) R3
  | _ => False
theorem we_slG {lo hi : Option Expr} {p2 : Pos} (h : WE X P a R fun x R1 => stb x fun x => WO X P lo R1 fun l R2 => WO X P hi R2 fun u R3 => slG Q R3 l u x) : WE X P (.Subscript a (.Slice lo hi none p2) pos) R Q :=
  .of (pe_slice (sl_list.or sl_tupA) pe_m po_m po_m) fun F σ Hd H w => h.stb.use w fun Hd1 R1 x v H1 e1 w1 r1 q1 => q1.2.use w1 fun Hd2 R2 l H2 e2 w2 q2 => q2.use w2 fun Hd3 R3 u H3 e3 w3 q => by
    have lst : ∀ ds, vL R3 x = some ds → vD R3 x = some (.list ds) → Q (.own (.lst (cutD ds l u))) R3 → rSlL X.K v l u H3 (Post X.K F P σ Hd Q) := fun ds h1 h2 q => by
      obtain ⟨p, vs, rfl, hl, hc⟩ := Rp.list w3 (Rp.on q1.1 r1 (e2.trans e3) h2) h1
      exact ⟨p, vs, rfl, hl, fun z hz => .same ((e1.trans e2).trans e3) (.here (w3.allocH hz) (ownNew w3 hz (crL (cut_dp hc l u))) q)⟩
    unfold slG at q
    split at q
    · rename_i ds
      obtain ⟨p, vs, rfl, _, hl, hc⟩ := Rp.tup (sv := .d (.tuple ds)) w3 (show Rp _ _ _ _ _ _ (.d (.tuple ds)) v from dpMono (e2.trans e3) r1) rfl
      refine .inr ⟨p, vs, rfl, hl, fun hw => ?_, fun _ z hz => ?_⟩
      · have e : cutD ds l u = ds := by
          unfold cutD
          rw [dpAllLen hc] at hw
          rw [hw.1, hw.2, List.drop_zero, Nat.sub_zero, List.take_length]
        rw [e] at q
        exact .same ((e1.trans e2).trans e3) (.here w3 (show Rp _ _ _ _ _ _ (.d (.tuple ds)) _ from dpMono (e2.trans e3) r1) q)
      · obtain ⟨w4, s4⟩ := w3.allocD (o := .tup (cutV vs l u)) hz
        exact .same (((e1.trans e2).trans e3).trans s4) (.here w4 (show Rp _ _ _ _ _ _ (.d (.tuple (cutD ds l u))) _ from Dq.tup (upd_same) (dpAllMono s4 (cut_dp hc l u))) q)
    · rename_i ds
      exact .inl (lst ds rfl rfl q)
    · rename_i i
      obtain ⟨ds, hR, q⟩ := q
      exact .inl (lst ds (by unfold vL; simp only [hR]) (by unfold vD; simp only [hR]) q)
    · cases q
theorem isWO {o : Option Expr} {Q : Option Int → DS → Prop} (h : WO X P o R Q) : WO X P o R Q := h
end
end Dl
namespace Dl
open PySem PySem.Spec PyProof.Rows L2
theorem nrmB {Z : DS → Prop} {R : DS} (R' : DS) (h : R = R') (q : Z R') : Z R := h ▸ q
theorem asI_i {i : Int} {k : Int → Prop} (h : k i) : asI (.d (.int i)) k := h
theorem asD_d {x : D} {k : D → Prop} (h : k x) : asD (.d x) k := h
theorem asD_o {ds : List D} {k : D → Prop} (h : k (.list ds)) : asD (.own (.lst ds)) k := h
theorem asB_b {i : Bool} {k : Bool → Prop} (h : k i) : asB (.d (.bool i)) k := h
section
variable {X : Cx} {P : List Nat} {R : DS} {kx vx tg it : Expr} {scope : Scope} {pos : Pos}
theorem sw_dict {gs : List Comprehension} {py : Pos} {y : Str} {l : Nat} {env : Env} (h1 : env.scope.kind = .function) (h2 : env.scope.names.lookup y = some .local) (h3 : (py.line == pos.line) = true)
    (h4 : (scope.names.any fun (n, k) => n == y && (k == .local || k == .cell)) = false) : swapsWith (.DictComp kx vx gs scope pos) (some (.Name y py)) l env = pure true := by
  have a1 : env.kindOf y = some .local := h2
  have a2 : env.blockKind = .function := by
    unfold Env.blockKind
    rw [h1]
    rfl
  unfold swapsWith
  simp only [a2, a1, h4, Expr.pos, h3]
  rfl
theorem ps_setDc {i : Nat} {y : Str} {py spos : Pos} {own : List (Str × Nat)} {wi : TI} {g : TG} {tt : TT} {tk tv : TE} (hc : X.calm = true) (hN : X.N.Nodup) (hy : X.N[i]? = some y) (hyl : X.env.scope.names.lookup y = some .local)
    (hsw : swapsWith (.DictComp kx vx [⟨tg, it, [], 0⟩] scope pos) (some (.Name y py)) spos.line X.env = pure true) (hi : PI X tg it wi) (ok : BlkOk X.N X.env.scope scope own)
    (hg : ∀ (s : Shared) (H : Hp) (C : Addr) (cl : List (Str × Addr)) (fp : List Addr), PG (X.blk s H scope (compEnvC scope cl C X.env) fp) tg g) (ht : ∀ (s : Shared) (H : Hp) (C : Addr) (cl : List (Str × Addr)) (fp : List Addr), PTs (X.blk s H scope (compEnvC scope cl C X.env) fp) [] tt)
    (hk : ∀ (s : Shared) (H : Hp) (C : Addr) (cl : List (Str × Addr)) (fp : List Addr), PE (X.blk s H scope (compEnvC scope cl C X.env) fp) kx tk) (hv : ∀ (s : Shared) (H : Hp) (C : Addr) (cl : List (Str × Addr)) (fp : List Addr), PE (X.blk s H scope (compEnvC scope cl C X.env) fp) vx tv)
    (hs : ∀ x, foldedSetIterable it X.env x = pure x) : PS X (.Assign [.Name y py] (.DictComp kx vx [⟨tg, it, [], 0⟩] scope pos) spos) (tAsg (tDc wi g tt tk tv (own.map (·.2))) (gName i)) :=
  ⟨fun pins s σ H D I h => by
    rw [exec_Assign_Name_used (hs := hsw)]
    refine wpAny_bind (wpAny_standAt ?_)
    refine wpAny_bind ?_
    show wpAny _ X.A (do let _ ← comprehension (.DictComp kx vx [⟨tg, it, [], 0⟩] scope pos) scope X.env (firstIterPos [⟨tg, it, [], 0⟩] pos) newDict false (eval it X.env) (some (assign (.Name y py) X.env))) _ _ s
    have h0 : tDc wi g tt tk tv (own.map (·.2)) σ H fun x H1 => gName i x σ H1 D.nx := h
    refine wpAny_bind (thn (dc_core (Qf := fun _ s2 => SP X pins D .next s2) hc hN I hi ok hg ht hk hv hs h0 fun L C s2 m H2 J q hn f => ?_) fun _ s2 hq => wpAny_pure (wpAny_pure hq))
    show wpAny _ _ (assign (.Name y py) X.env (Value.ref L)) _ _ _
    refine wpAny_assign_Name (store_ok2 (v := V.ref L) J hN hy (Or.inl hyl) rfl (fun s3 J3 ⟨a, sb, ha⟩ => ?_) (Or.inr hyl))
    have hne : C ≠ a := ha.elim (fun z => by rw [z]; exact f.2.1) fun z e => f.2.2.2.2.1 y a z e.symm
    exact ⟨m, hn.sameBut sb hne, fun h3 sb3 => ⟨_, H2, J3.turned (t' := s3.toks) (fun b o hb e => (sb3.2 b hb).trans e) f.1 f.2.1 f.2.2.2.1 f.2.2.2.2.1 f.2.2.2.2.2, q⟩⟩⟩
theorem ws_setDc0 {i : Nat} {y : Str} {py spos : Pos} {D' : DEnds} (own : List (Str × Nat)) (js : List Nat) (hc : X.calm = true) (hN : X.N.Nodup) (hy : X.N[i]? = some y) (hyl : X.env.scope.names.lookup y = some .local)
    (hsw : swapsWith (.DictComp kx vx [⟨tg, it, [], 0⟩] scope pos) (some (.Name y py)) spos.line X.env = pure true) (ok : BlkOk X.N X.env.scope scope own) (hP : i ∉ P) (hvs : ∀ v ∈ own.map (·.2), v ∉ P) (hj : ∀ j ∈ js, j ∈ own.map (·.2))
    (h : WE X P it R fun sv R1 => asD sv fun d => ∃ (xs : List D) (I : Nat → List (Key × D) → DS → Prop), d = .list xs ∧ xs.length ≤ sizeLine ∧ I 0 [] (wipeR R1 (own.map (·.2))) ∧
      (∀ i x kvs R', xs[i]? = some x → I i kvs R' → TnD X P scope tg kx vx js (own.map (·.2)) I i kvs x R') ∧ ∀ kvs R', I xs.length kvs R' → put i R' D'.nx (.own (.dK kvs)))
    (hs : ∀ x, foldedSetIterable it X.env x = pure x := by intro _; rfl) : WS X P (.Assign [.Name y py] (.DictComp kx vx [⟨tg, it, [], 0⟩] scope pos) spos) R D' :=
  .of (ps_setDc (own := own) hc hN hy hyl hsw (pi_list pe_m) ok (fun s H C cl fp => (⟨fun pins s' σ H' v u Z I r h => h s H C cl fp pins s' u I r⟩ : PG _ tg (gB X scope tg))) (fun _ _ _ _ _ => pts_nil) (fun s H C cl fp => (⟨fun pins s' σ H' Z I h => h s H C cl fp pins s' I⟩ : PE _ kx (teB X scope kx)))
    (fun s H C cl fp => (⟨fun pins s' σ H' Z I h => h s H C cl fp pins s' I⟩ : PE _ vx (teB X scope vx))) hs) fun F σ Hd H w => dc_fits (Q := fun sv R1 => put i R1 D'.nx sv) own js hvs hj h F σ Hd H w _ fun v H' ⟨Hd', R', sv, e1, w1, r1, q1⟩ => up_same e1 (put_ok w1 r1 hP q1)
end
end Dl
namespace Dl
open PySem PySem.Spec PyProof.Rows L2
/-! sorted(xs, key=lambda y: y[0], reverse=True), the items tuples that begin with ints -/
/-- the lambda's own names -/
def lamS (y : Str) : Scope := { kind := .function, names := [(y, .local)], isGenerator := false, isCoroutine := false, more := [] }
def lamA (y : Str) (p : Pos) : Arguments := { posonlyargs := [], args := [{ arg := y, annotation := none, pos := p }], vararg := none, kwonlyargs := [], kw_defaults := [], kwarg := none, defaults := [] }
def lamB (y : Str) (j0 : Nat) (p1 p2 p3 : Pos) : Expr := .Subscript (.Name y p1) (.Constant (.int 0) j0 p2) p3
section
variable {prog : Program} {w : World} {A : Around} {s : Shared} {f c' t : Addr} {q : Str} {pm ctv : Value} {its : List Value} {i : Int} {tk : Tok} {y : Str}
theorem lam_run (hlim : s.heap.NoLimit) (hd : A.depth < recursionLimit) (pa p1 p2 p3 : Pos) (j0 : Nat) (hy : (y == ("__debug__" : Str)) = false)
    (ho : s.heap.get? f = some (PySem.W.kla_obj "<lambda>" q (lamA y pa) (lamB y j0 p1 p2 p3) (lamS y) [] pm c' ctv)) (hc : s.heap.CodeRec (.ref c') q)
    (ht : IsTup s.heap t (Value.int i tk :: its).toArray) (hb : bindArgs (PySem.W.kla_fn "<lambda>" q (lamA y pa) (lamB y j0 p1 p2 p3) (lamS y) [] pm (.ref c') ctv) ⟨[.ref t], []⟩ = pure [(y, .ref t)]) : wpAny (model prog w) A (call (.ref f) [.ref t]) (PySem.W.KeyPure (.int i) s) (fun _ _ => False) s := by
  refine wpAny_call (PySem.W.kla_callFunE hd ho rfl rfl rfl rfl hc ?_)
  rw [hb]
  have ly : (lamS y).names.lookup y = some .local := by
    show List.lookup y [(y, NameKind.local)] = _
    simp [List.lookup]
  refine wpAny_pure (wpAny_newFunctionEnv (fun x hx => ?_) (fun x hx => ?_) (fun h1 hns hsb => ⟨hlim.fresh _ hsb, PySem.W.kla_codeExpr ?_⟩) rfl)
  · rw [List.mem_singleton.mp hx]
    exact fun z => by cases z
  · rw [List.mem_singleton.mp hx]
    exact ly
  have kp : ∀ b o, s.heap.get? b = some o → h1.get? b = some o := fun b o e => hsb.extBut b o (Nat.ne_of_lt (Heap.lt_size e)) (Heap.get?_push_of_some _ e)
  obtain ⟨o, g1, g2, g3⟩ := ht
  have ht1 : IsTup h1 t (Value.int i tk :: its).toArray := ⟨o, kp _ _ g1, g2, g3⟩
  have lk : ([(y, Value.ref t)].reverse).lookup y = some (.ref t) := by
    show List.lookup y [(y, Value.ref t)] = _
    simp [List.lookup]
  refine Subscript_ (wpAny_Name (wpAny_loadName_local rfl ly hns lk ?_) hy)
  refine wpAny_Constant_int ?_
  refine subscriptTail_builtinR (x := .int i tk) ht1.typeIs slot_tuple_getitem.lookup (getItem_tuple (j := 0) ht1 (by decide) (by decide) ?_ ?_ ⟨rfl, ?_⟩) ?_
  · simp [seqIndex?]
  · rfl
  · exact ⟨h1, _, rfl, kp, .int i tk⟩
  · rfl
end

theorem Wd.extN {K : PySem.W.Frag} {F : Fr} {P : List Nat} {R : DS} {σ : L2.St} {Hd H H1 : Hp} (w : Wd K F P R σ Hd H) (e : LamX.ExtN H H1) (t : LamX.Tabs (tabsOf K) H1) : Wd K F P R σ Hd H1 :=
  ⟨fun b u q => e b u (w.dat b u q) fun ps z => w.tabs.2.1 b ps (z ▸ q), fun b u q => e b u (w.frm b u q) fun ps z => w.tabs.2.2 b ps (z ▸ q), w.len, w.val, fun i m q => by
    obtain ⟨a, o, e1, e2, e3, e4, e5⟩ := w.own i m q
    refine ⟨a, o, e1, e a o e2 fun ps z => ?_, e3, e4, e5⟩
    have := crp_plain e3
    rw [z] at this
    exact this, w.apart, w.pin, w.prot, w.exs, t, w.tabs.2⟩
theorem each_of {α : Type} {K : PySem.W.Frag} {Hd : Hp} {R : Value → α → Prop} {enc : α → D} : ∀ {vs : List V} {us : List Value} {as : List α}, Vals vs us → DqAll K Hd vs (as.map enc) → (∀ (v : V) (u : Value) (x : α), RelV v u → Dq K Hd v (enc x) → x ∈ as → R u x) → PySem.W.EachIs R us as
  | _, _, [], .nil, _, _ => .nil
  | _, _, x :: as, .cons r rs, h, k => by
    cases h with
    | cons h1 h2 => exact .cons (k _ _ x r h1 List.mem_cons_self) (each_of rs h2 fun v u z a b c => k v u z a b (List.mem_cons_of_mem _ c))
theorem of_each {α : Type} {K : PySem.W.Frag} {Hd : Hp} {R : Value → α → Prop} {enc : α → D} (k : ∀ u x, R u x → ∃ v : V, RelV v u ∧ Dq K Hd v (enc x)) : ∀ {us : List Value} {as : List α}, PySem.W.EachIs R us as → ∃ vs : List V, Vals vs us ∧ DqAll K Hd vs (as.map enc)
  | _, _, .nil => ⟨[], .nil, .nil⟩
  | _, _, .cons h t => by
    obtain ⟨v, r, d⟩ := k _ _ h
    obtain ⟨vs, rs, ds⟩ := of_each k t
    exact ⟨v :: vs, .cons r rs, .cons d ds⟩
section
variable {X : Cx} {P : List Nat} {R : DS} {a : Expr} {Q : SV → DS → Prop} {α : Type}
theorem we_sortedLam {y : Str} {x : Str} {c Pt : Addr} {k : Nat} {j0 j1 : Nat} {p pos pl pa p1 p2 p3 p4 kp1 kp2 : Pos} (as : List α) (enc : α → D) (key : α → Int) (hr : Room k X.A) (hm : X.mg "sorted" = none) (hg : Gl X "sorted") (hx : lamDefs = [x]) (ht : PySem.W.tabIn X.K x = some (c, Pt)) (TB : LamX.TabB X.base X.mg c Pt)
    (hcode : X.env.code = .ref c) (hq : X.env.qual = x ++ ".<locals>.") (henc : ∀ z ∈ as, ∃ r, enc z = .tuple (.int (key z) :: r)) (hl : as.length ≤ sizeLine)
    (h : WE X P a R fun sv R1 => sv = .d (.list (as.map enc)) ∧ Q (.own (.lst ((as.mergeSort (PySem.W.dataLe true fun z => PyData.int (key z))).map enc))) R1) (hy : (y == ("__debug__" : Str)) = false)
    (hb : ∀ (q : Str) (pm cv ctv u : Value), bindArgs (PySem.W.kla_fn "<lambda>" q (lamA y pa) (lamB y j0 p1 p2 p3) (lamS y) [] pm cv ctv) ⟨[u], []⟩ = pure [(y, u)])
    (he0 : starEach [a] X.env = (false, eval a X.env) :: starEach [] X.env := by rfl) (he : backTo pos (starEach [a] X.env) = (false, eval a X.env) :: backTo pos (starEach [] X.env) := by rfl) (hpl : (backTo pos (starEach [a] X.env)).any (·.1) = false := by rfl) :
    WE X P (.Call (.Name "sorted" p) [a] [⟨some "key", .Lambda (lamA y pa) (lamB y j0 p1 p2 p3) (lamS y) pl, kp1⟩, ⟨some "reverse", .Constant (.bool true) j1 p4, kp2⟩] pos) R Q := by
  have hT : tabsOf X.K = [(Pt, X.env.qual ++ "<lambda>")] := by
    unfold tabsOf
    rw [hx, hq]
    simp [ht]
  refine ⟨fun F σ Hd H w => fun pins s I => ?_⟩
  have hbv : bootBuiltins (Str.ofString "sorted") = some (.builtin "sorted") := by decide +kernel
  refine wpAny_Call_Name_kw (ld_blt I hg hm hbv ?_ (by decide) (by decide))
  refine PyProof.Rows.callWith_kw (thn ((pa_cons (pe_m (X := X) (e := a)) pa_nil he0).run pos pins s σ H (fun vs H1 => ∃ v Hd1 R1, vs = [v] ∧ Same Hd Hd1 ∧ Wd X.K F P R1 σ Hd1 H1 ∧ Dq X.K Hd1 v (.list (as.map enc)) ∧ Q (.own (.lst ((as.mergeSort (PySem.W.dataLe true fun z => PyData.int (key z))).map enc))) R1) I ?_) fun us s1 hh => ?_) he hpl rfl rfl
  · exact h.use w fun Hd1 R1 sv v H1 e1 w1 r1 q1 => by
      obtain ⟨rfl, q1⟩ := q1
      exact ⟨v, Hd1, R1, rfl, e1, w1, r1, q1⟩
  obtain ⟨vs, H1, I1, r1, v, Hd1, R1, rfl, e1, w1, d1, q1⟩ := hh
  show wpAny _ _ (evalAll ((do let v ← eval (.Lambda (lamA y pa) (lamB y j0 p1 p2 p3) (lamS y) pl) X.env; standAt pos; pure v) :: (do let v ← eval (.Constant (.bool true) j1 p4) X.env; standAt pos; pure v) :: [])) _ _ _
  refine wpAny_evalAll_cons (wpAny_bind (LamX.lam_make2 (T := tabsOf X.K) I1 TB hcode (by rw [hT]; exact List.mem_cons_self) (fun p hp hP => by rw [hT] at hp; rw [List.mem_singleton.mp hp]) w1.tabs.1 rfl (fun y hy hf => ?_) fun f c' pm ctv H2 s2 I2 eN T2 hf hfn hfr hco => wpAny_bind (wpAny_standAt (wpAny_pure ?_))))
  · rw [List.mem_singleton.mp hy] at hf
    cases hf
  refine wpAny_evalAll_cons (wpAny_bind (wpAny_Constant_bool (wpAny_bind (wpAny_standAt (wpAny_pure ?_)))))
  refine wpAny_evalAll_nil ?_
  have w2 := w1.extN eN T2
  cases r1 with
  | cons ru rn =>
    rename_i u us'
    cases rn
    cases d1 with
    | lst hS hv =>
      rename_i l vs
      cases ru
      obtain ⟨its, rI, pl, hz⟩ := I2.list (w2.dat.seq hS)
      let RR : Value → α → Prop := fun u x => (∃ v : V, RelV v u ∧ Dq X.K Hd1 v (enc x)) ∧ ∃ (t : Addr) (ws : List Value) (tk : Tok), u = .ref t ∧ IsTup s2.heap t (Value.int (key x) tk :: ws).toArray
      have each : PySem.W.EachIs RR its as := each_of rI hv fun v u x rv dp hx => by
        refine ⟨⟨v, rv, dp⟩, ?_⟩
        obtain ⟨r, er⟩ := henc x hx
        rw [er] at dp
        cases dp with
        | tup h1 h2 =>
          rename_i t ws
          cases rv
          obtain ⟨its2, r2, p2, _⟩ := I2.tuple (sameT w2.dat (SqT.of h1))
          cases h2 with
          | cons hi hr2 =>
            cases hi
            cases r2 with
            | cons g1 g2 =>
              obtain ⟨tk, e⟩ := g1
              subst e
              exact ⟨t, _, tk, rfl, p2⟩
      obtain ⟨⟨oc, cv, tq, hoc, hdc, hvc⟩, _, _⟩ := I2.hok c' _ hco
      refine PySem.W.sorted_key_data (R := RR) (bs := as) (vs := its) (b := true) (f := .ref f) (fun z => PyData.int (key z)) pl.isList each ?_ ?_ hl ?_ (ksk_s2 _ _ _) (fun x => ksk_l2 _ _ _) (fun x => ksk_t2 f x true) (fun u x hR hx h tk kp => ?_) fun out c2 h' tk kp fr hg2 hlen ho => ?_
      · intro d hd d' hd'
        obtain ⟨z, _, rfl⟩ := List.mem_map.mp hd
        obtain ⟨z', _, rfl⟩ := List.mem_map.mp hd'
        rfl
      · refine .inr fun d hd => ?_
        obtain ⟨z, _, rfl⟩ := List.mem_map.mp hd
        exact And.intro (fun z => by cases z) (fun xs z => by cases z)
      · intro x hx
        have := hr.un
        show X.A.units + 2 + 0 < cLine
        omega
      · obtain ⟨_, t, ws, tk2, rfl, ht2⟩ := hR
        obtain ⟨o, g1, g2, g3⟩ := ht2
        exact lam_run (I2.nolimit.keeps kp) hr.depth pa p1 p2 p3 j0 hy (kp _ _ hf) ⟨c', oc, cv, tq, rfl, kp _ _ hoc, hdc, hvc⟩ ⟨o, kp _ _ g1, g2, g3⟩ (hb _ _ _ _ _)
      · obtain ⟨us, ru, du⟩ := of_each (enc := enc) (fun u x hR => hR.1) ho
        have nH : H2 (s2.heap.objs.size + 1) = none := I2.hok.fresh (Nat.le_succ _)
        have lu : us.length ≤ sizeLine := by
          rw [ru.length, hlen]
          exact hl
        have J := I2.laid (t' := tk) (a := s2.heap.objs.size + 1) (o := .lst us) kp (Nat.le_succ _) ⟨lu, out, c2, ru, hg2⟩
        exact ⟨.ref (s2.heap.objs.size + 1), _, J, rfl, Hd1, R1, _, e1, w2.allocH nH, ownNew w2 nH (crL du), q1⟩
end
end Dl
set_option maxHeartbeats 4000000
namespace Dl
open PySem PySem.Spec PyProof.Rows L2
/-! set(xs) of a list of intl, its place in the heap known to the slot -/
section
variable {Pg : Program} {w : World} {A : Around} {E : Value → Shared → Prop} {s : Shared}
/-- a set just made -/
def set0 (w : World) : Obj := { cls := .type "set", dict := none, data := .set #[] 0 (.fresh 0 0 (!w.params.followText "set-order")) }
/-- the filling of a new set from a list -/
theorem set_fill {l : Addr} {items : Array Value} {ns : List Int} (dry : A.handled = none) (isl : s.heap.IsList l items) (intl : IntsAre items.toList ns) (few : ns.length + 1 < scanBound) :
    codeAny (model Pg w) A (.call (.builtin "set.__init__") ⟨[.ref s.heap.objs.size, .ref l], []⟩) (wants (fun r s2 => r = .none ∧ ∃ (g : Heap) (tk c : Nat), s2 = { s with heap := g, toks := tk } ∧ SetR w g s.heap.objs.size (fun j => decide (j ∈ ns)) c ∧ c ≤ ns.length ∧
      ∀ b o, s.heap.get? b = some o → g.get? b = some o) E) { s with heap := s.heap.push (set0 w) } := by
  have many : items.size = ns.length := by
    have := IntsAre.length intl
    rwa [Array.length_toList] at this
  have atS : (s.heap.push (set0 w)).get? s.heap.objs.size = some (set0 w) := Heap.get?_push_size _ rfl
  have tyS : Shared.TypeIs { s with heap := s.heap.push (set0 w) } (.ref s.heap.objs.size) "set" := ⟨_, atS, rfl⟩
  refine codeAny_call_builtin F.called_set.init.plain F.entry_set_init (check_set_init_1 tyS ?_)
  obtain ⟨⟨cl, di, da, so⟩, old, e1, n0, e2⟩ := isl
  dsimp only at e1 e2
  subst e1
  subst e2
  have oldP := Heap.get?_push_of_some (set0 w) old
  have is1 : (s.heap.push (set0 w)).IsList l items := ⟨_, oldP, rfl, n0, rfl⟩
  have sub1 := F.sub_list_set
  have sub2 := F.sub_list_frozenset
  have no : (Value.type "list" == Value.type "dict") = false := by decide
  unfold Builtin.«set.__init__» noKeywords Builtin.Frozenset.updateFrom
  generalize it : pyIter = go
  wp_walk
  subst it
  apply wpAny_pyIter_list is1
  apply wpAny_bind
  apply wpAny_runValue
  have ltl : l < s.heap.objs.size := Heap.lt_size old
  have dry3 : A.in1.in1.handled = none := by simp [dry]
  have next : (s.heap.push (set0 w)).objs.size = s.heap.objs.size + 1 := by rw [Heap.size_push]
  have apart : l ≠ (s.heap.push (set0 w)).objs.size := Nat.ne_of_lt (by rw [next]; exact Nat.lt_succ_of_lt ltl)
  have notIn : s.heap.objs.size ∉ [(s.heap.push (set0 w)).objs.size, l] := fun z => by
    rcases List.mem_cons.mp z with z | z
    · rw [next] at z
      exact Nat.ne_of_lt (Nat.lt_succ_self _) z
    · exact Nat.ne_of_gt ltl (List.mem_singleton.mp z)
  have vals : ∀ (i : Nat) (v : Value), items[i]? = some v → ∃ z t, ns[i]? = some z ∧ v = .int z t := fun i v hv => by
    have hi : i < ns.length := by
      rw [← many]
      exact (Array.getElem?_eq_some_iff.mp hv).1
    obtain ⟨t, e⟩ := IntsAre.int_at intl i v (by rw [Array.getElem?_toList]; exact hv)
    rw [List.getD_eq_getElem?_getD, List.getElem?_eq_getElem hi] at e
    exact ⟨ns[i], t, List.getElem?_eq_getElem hi, e⟩
  refine set_update_ints ((Walks.list dry3 _ l apart items).toS) s.heap.objs.size notIn ns many few vals (items.size - 0) 0 _ (by omega) (Nat.zero_le _) ?st ?first ?last
  case st => exact ⟨⟨_, Heap.get?_push_size _ rfl, rfl, rfl⟩, is1.push _⟩
  case last =>
    intro s2 c hm hc hS
    obtain ⟨g, gs, dr, tk, os⟩ := s2
    obtain rfl : gs = s.gens := hm.gens
    obtain rfl : dr = s.drawn := hm.drawn
    obtain rfl : os = s.os := hm.os
    show wpAny _ _ _ _ _ _
    refine wpAny_pure ?_
    show wpAny _ _ (PySem.ret Value.none) _ _ _
    rw [many] at hc
    refine wpAny_pure ⟨rfl, g, tk, c, rfl, hS, hc, fun b o e => hm.heap b o (fun z => ?_) (Heap.get?_push_of_some _ (Heap.get?_push_of_some _ e))⟩
    have lb := Heap.lt_size e
    rcases List.mem_cons.mp z with z | z
    · exact Nat.ne_of_lt lb z
    · have z2 := List.mem_singleton.mp z
      rw [next] at z2
      exact Nat.ne_of_lt (Nat.lt_succ_of_lt lb) z2
  case first => exact ⟨0, Nat.le_refl 0, setR_new_at (w := w) (Heap.get?_push_of_some _ atS)⟩
theorem set_listI {l : Addr} {items : Array Value} {ns : List Int} {Q : Value → Shared → Prop} (dry : A.handled = none) (isl : s.heap.IsList l items) (intl : IntsAre items.toList ns) (few : ns.length + 1 < scanBound)
    (h : ∀ (g : Heap) (tk c : Nat), SetR w g s.heap.objs.size (fun j => decide (j ∈ ns)) c → c ≤ ns.length → (∀ b o, s.heap.get? b = some o → g.get? b = some o) → Q (.ref s.heap.objs.size) { s with heap := g, toks := tk }) :
    wpAny (model Pg w) A (call (.type "set") [.ref l]) Q E s := by
  have m0 := F.called_set.mro
  obtain ⟨q1, q2, mro⟩ := m0
  have made := F.called_set.made
  have sub := F.called_set.sub
  refine wpAny_call (codeAny_of_tree (show wpAny _ _ (callAny (.type "set") _) _ _ _ from wpAny_pure ⟨Code.quiet_builtin _ (by decide +kernel), codeAny_builtin F.entry_type_call ?_⟩))
  rw [Around.under_plain (weight_type_call_type "set" [.ref l] []) rfl]
  have g1 := F.called_set.notType
  have g2 := F.called_set.canCreate
  have g3 := F.typeCall_set_1 (.ref l)
  repeat (any_goals (first | assumption | wp_step))
  refine codeAny_mono (code_set_led1 (.ref l) (E := E) (Q₁ := fun v s2 => v = .ref s.heap.objs.size ∧ s2 = { s with heap := s.heap.push (set0 w) }) ⟨rfl, rfl⟩) fun r s1 hr => ?_
  match r, hr with
  | .error e, hr => exact hr
  | .ok .next, hr => exact hr.elim
  | .ok .brk, hr => exact hr.elim
  | .ok .cont, hr => exact hr.elim
  | .ok (.ret v), hr =>
    obtain ⟨rfl, rfl⟩ := hr
    have atS : (s.heap.push (set0 w)).get? s.heap.objs.size = some (set0 w) := Heap.get?_push_size _ rfl
    have tyS : Shared.TypeIs { s with heap := s.heap.push (set0 w) } (.ref s.heap.objs.size) "set" := ⟨_, atS, rfl⟩
    have i1 := F.called_set.init.lookup
    have i2 := F.called_set.init.bind (.ref s.heap.objs.size)
    repeat (any_goals (first | assumption | wp_step))
    refine codeAny_mono (set_fill (Pg := Pg) (E := E) (by simpa using dry) isl intl few) fun r2 s2 hr2 => ?_
    match r2, hr2 with
    | .error e, hr2 => exact hr2
    | .ok .next, hr2 => exact hr2.elim
    | .ok .brk, hr2 => exact hr2.elim
    | .ok .cont, hr2 => exact hr2.elim
    | .ok (.ret u), hr2 =>
      obtain ⟨rfl, g, tk, c, rfl, hS, hc, hk⟩ := hr2
      repeat (any_goals (first | assumption | wp_step))
      exact h g tk c hS hc hk
end
end Dl
set_option maxHeartbeats 1000000
namespace Dl
open PySem PySem.Spec PyProof.Rows L2
section
variable {X : Cx} {P : List Nat} {R : DS} {a b e : Expr} {es : List Expr} {pos p : Pos} {Q : SV → DS → Prop} {D' : DEnds}
/-! sorted(set(xs)), ints -/
theorem cr_setI (hc : X.calm = true) : CallR X (.type "set") (fun xs H Q => ∃ (l : Addr) (ns : List Int), xs = [V.ref l] ∧ SqL X.K H l (ns.map V.int) ∧ ns.length < 64 ∧
    ∀ (p : Addr) (c : Nat), H p = none → c ≤ ns.length → Q (.ref p) (upd H p (SetO X.w p (fun j => decide (j ∈ ns)) c))) := by
  intro pins s σ H xs us Q I r h
  obtain ⟨l, ns, rfl, hs, hl, q⟩ := h
  rw [Vals.ref1 r]
  obtain ⟨its, rI, pl, hz⟩ := I.list hs
  refine set_listI (I.ok.hd hc) pl.isList (ints_vals rI) (by unfold scanBound; omega) fun g tk c hS hc hk => ?_
  have nH : H s.heap.objs.size = none := I.hok.fresh (Nat.le_refl _)
  exact ⟨.ref s.heap.objs.size, _, I.laid (t' := tk) hk (Nat.le_refl _) (setO_new hS), rfl, q _ c nH hc⟩
theorem we_sortedSetI {p2 pos2 : Pos} (hc : X.calm = true) (hm : X.mg "sorted" = none) (hg : Gl X "sorted") (hm2 : X.mg "set" = none) (hg2 : Gl X "set")
    (h : WE X P a R fun x R1 => ∃ ns : List Int, vL R1 x = some (ns.map PyData.int) ∧ ns.length < 64 ∧ ∀ out : List Int, out.Pairwise (· < ·) → (∀ k, k ∈ out ↔ k ∈ ns) → Q (.own (.lst (out.map PyData.int))) R1)
    (he : starEach [a] X.env = (false, eval a X.env) :: starEach [] X.env := by rfl) (hpl : (backTo pos2 (starEach [] X.env)).any (·.1) = false := by rfl)
    (he2 : starEach [.Call (.Name "set" p2) [a] [] pos2] X.env = (false, eval (.Call (.Name "set" p2) [a] [] pos2) X.env) :: starEach [] X.env := by rfl) (hpl2 : (backTo pos (starEach [] X.env)).any (·.1) = false := by rfl) :
    WE X P (.Call (.Name "sorted" p) [.Call (.Name "set" p2) [a] [] pos2] [] pos) R Q :=
  .of (pe_callB (cr_sortedSet hc) hg hm (by decide +kernel) (pa_cons (pe_callTy (cr_setI hc) hg2 hm2 (by decide +kernel) (pa_cons pe_m pa_nil he) (by decide) (by decide) he hpl) pa_nil he2) (by decide) (by decide) he2 hpl2) fun F σ Hd H w => h.use w fun Hd1 R1 sv v H1 e1 w1 r1 q1 => by
    obtain ⟨ns, hv, hl, q⟩ := q1
    obtain ⟨l, vs, rfl, hs, hd⟩ := Rp.list w1 r1 hv
    obtain rfl := dpAllInts hd
    refine ⟨l, ns, rfl, hs, hl, fun s0 c n0 hc0 => ⟨s0, _, c, rfl, upd_same, by omega, fun out p1 o1 o2 o3 n1 => ?_⟩⟩
    have w2 := w1.allocH (o := SetO X.w s0 (fun j => decide (j ∈ ns)) c) n0
    exact .same e1 (.here (w2.allocH n1) (ownNew w2 n1 (crL (dpAllOfInts out))) (q out o1 fun k => by rw [o2]; exact decide_eq_true_iff))
/-! dicts whose keys are tuples of ints -/
def kI (ks : List Int) : List Key := ks.map Sum.inl
theorem tup_key {K : PySem.W.Frag} {H : Hp} {v : V} {ks : List Int} (h : Dq K H v (.tuple (ks.map PyData.int))) : ∃ b, v = .ref b ∧ H b = some (.tup ((kI ks).map kV)) := by
  cases h with
  | tup h1 h2 =>
    refine ⟨_, rfl, ?_⟩
    rw [h1, dpAllInts h2]
    unfold kI
    rw [List.map_map]
    rfl
structure gInT (R2 : DS) (x y : SV) (k : Bool → Prop) : Prop where
  ex : ∃ (ks : List Int) (j : Nat) (kvs : List (List Key × D)), x = .d (.tuple (ks.map PyData.int)) ∧ y = .loc j ∧ R2[j]? = some (.own (.dT kvs)) ∧ k (hasK kvs (kI ks))
theorem fit_inT (h : WE X P a R fun x R1 => stb x fun x => WE X P b R1 fun y R2 => gInT R2 x y fun c => Q (.d (.bool c)) R2) : Fits X P R (tDIn (TEm X a) (TEm X b)) Q :=
  fun F σ Hd H w Z hZ => h.stb.use w fun Hd1 R1 x v H1 e1 w1 r1 q1 => q1.2.use w1 fun Hd2 R2 y u H2 e2 w2 r2 q2 => by
    obtain ⟨ks, j, kvs, rfl, rfl, hR, q⟩ := q2
    obtain ⟨b, rfl, hb⟩ := tup_key (show Dq _ _ v (.tuple (ks.map PyData.int)) from r1)
    obtain ⟨p, o, s1, hp, ⟨ws, ho, hc⟩, _⟩ := w2.own j _ hR
    subst ho
    have s2 := r2.1
    rw [s1] at s2
    cases s2
    refine ⟨p, _, rfl, DGet.t (k := kI ks) hp (w2.dat _ _ (e2 _ _ hb)), hZ _ _ (.same (e1.trans e2) (.here w2 (sv := .d (.bool (hasK kvs (kI ks)))) ?_ q))⟩
    rw [hasK_of (fun _ _ h => h.1) _ hc]
    exact .bl _
theorem we_inT (hu : X.A.units + 1 < cLine) (hm : behindInMarks .In b = false) (h : WE X P a R fun x R1 => stb x fun x => WE X P b R1 fun y R2 => gInT R2 x y fun c => Q (.d (.bool c)) R2) : WE X P (.Compare a [.In] [b] pos) R Q :=
  .fit (pe_cmp (pc_din hu pe_m pe_m) hm) (fit_inT h)
theorem crT {K : PySem.W.Frag} {Hd : Hp} {kvs : List (List Key × D)} {ws : List (List Key × V)} (h : Paired (fun (p : List Key × D) (q : List Key × V) => p.1 = q.1 ∧ Dq K Hd q.2 p.2) kvs ws) : CRp K Hd (.dT kvs) (.dT ws) := ⟨ws, rfl, h⟩
theorem ws_tput {o k : Expr} {pos' : Pos} (hu : X.A.units + 1 < cLine) (h : WE X P e R fun z R1 => asD z fun d => WE X P o R1 fun x R2 => ∃ i, x = .loc i ∧ WE X P k R2 fun y R3 => ∃ (ks : List Int) (kvs : List (List Key × D)), y = .d (.tuple (ks.map PyData.int)) ∧ R3[i]? = some (.own (.dT kvs)) ∧ kvs.length < sizeLine ∧ D'.nx (R3.set i (.own (.dT (putD kvs (kI ks) d)))))
    (hs : swapsWith e (some (.Subscript o k pos')) pos.line X.env = pure false := by rfl) : WS X P (.Assign [.Subscript o k pos'] e pos) R D' :=
  .of (ps_dput hu pe_m pe_m pe_m hs) fun F σ Hd H w => h.fzD.use w fun Hd1 R1 z v H1 e1 w1 r1 q1 => by
    obtain ⟨d, rfl, q1⟩ := q1
    exact q1.use w1 fun Hd2 R2 x u H2 e2 w2 r2 q2 => by
      obtain ⟨i, rfl, q2⟩ := q2
      exact q2.use w2 fun Hd3 R3 y t H3 e3 w3 r3 q3 => by
        obtain ⟨ks, kvs, rfl, hR, hz, q⟩ := q3
        obtain ⟨b, rfl, hb⟩ := tup_key (show Dq _ _ t (.tuple (ks.map PyData.int)) from r3)
        obtain ⟨a, o', s1, s2, ⟨ws, rfl, hv⟩, _⟩ := w3.own i _ hR
        have s3 := r2.1
        rw [s1] at s3
        cases s3
        exact ⟨a, _, rfl, DPut.t (k := kI ks) s2 (w3.dat _ _ hb) (by rw [pairedLen hv]; exact hz), Hd3, _, (e1.trans e2).trans e3, w3.change hR s1 (crT (put_dp (kI ks) (dpMono (e2.trans e3) r1) hv)), q⟩
/-! xs.pop() of a list that a name holds -/
theorem we_pop {o : Expr} {apos : Pos} (h : WE X P o R fun x R1 => ∃ i ds d, x = .loc i ∧ R1[i]? = some (.own (.lst (ds ++ [d]))) ∧ Q (.d d) (R1.set i (.own (.lst ds))))
    (hbase : attributeBase o "pop" X.env (eval o X.env) = eval o X.env := by rfl) (hline : (apos.endLine == pos.line) = true := by rfl) : WE X P (.Call (.Attribute o "pop" apos) [] [] pos) R Q :=
  .of (pe_bm0 PySem.F.plainAttrs_list PySem.F.slot_list_pop PySem.F.type_list_pop mt_pop pe_m hbase hline) fun F σ Hd H w => h.use w fun Hd1 R1 sv v H1 e1 w1 r1 q1 => by
    obtain ⟨i, ds, d, rfl, hR, q⟩ := q1
    obtain ⟨a, o', s1, s2, ⟨vs, rfl, hv⟩, _⟩ := w1.own i _ hR
    have s3 := r1.1
    rw [s1] at s3
    cases s3
    have hl := dpAllLen hv
    rw [List.length_append, List.length_singleton] at hl
    have hd : (ds ++ [d])[vs.length - 1]? = some d := by
      rw [hl, Nat.add_sub_cancel, List.getElem?_append_right (Nat.le_refl _)]
      simp
    obtain ⟨y, hy, ry⟩ := dpAllGet hv hd
    have hv2 : DqAll X.K Hd1 vs.dropLast ds := by
      have := dpAllDropLast hv
      rwa [List.dropLast_concat] at this
    exact ⟨.inl ⟨rfl, vs, .inl (.inl s2)⟩, a, vs, y, rfl, rfl, s2, hy, Hd1, _, .d d, e1, w1.change hR s1 (crL hv2), ry, q⟩
/-! what is made at once gets one more, and is let go -/
theorem ws_appendO {o : Expr} {apos cpos : Pos} (pe : PE X (.Call (.Attribute o "append" apos) [e] [] cpos) (tBM X.K "list" rAppend (TEm X o) (tCons (TEm X e) tNil)))
    (h : WE X P o R fun x R1 => ∃ ds, x = .own (.lst ds) ∧ ds.length < sizeLine ∧ WE X P e R1 fun y R2 => asD y fun d => D'.nx R2)
    (hsw : swapsWith (.Call (.Attribute o "append" apos) [e] [] cpos) none pos.line X.env = pure false := by rfl) : WS X P (.Expr (.Call (.Attribute o "append" apos) [e] [] cpos) pos) R D' :=
  .of (ps_expr pe hsw) fun F σ Hd H w => h.use w fun Hd1 R1 sv v H1 e1 w1 r1 q1 => by
    obtain ⟨ds, rfl, hz, q1⟩ := q1
    obtain ⟨l, o', rfl, hl, ⟨vs, ho, hv⟩, hd, hf, hn⟩ := r1
    subst ho
    have hz0 : ¬ F.Fz l := fun z => (w1.prot l z).2 hf
    refine ⟨.inl ⟨rfl, vs, .inl (.inl hl)⟩, (q1.fzD.run (F.with l (.lst vs)) σ Hd1 H1 (w1.enter hl hd hn)).mono fun u H2 ⟨Hd2, R2, y, e2, w2, r2, q2⟩ => ?_⟩
    obtain ⟨d, rfl, q⟩ := q2
    obtain ⟨w3, g1, g2, g3⟩ := Wd.leave w2 hf hz0
    exact ⟨l, vs, u, rfl, rfl, g1, by rw [dpAllLen hv]; exact hz, Hd2, _, e1.trans e2, w3.poke g1 (crp_bare (crL (K := X.K) (dpAllMono e2 hv))) g2 hf g3, q⟩
/-! is, is not of truths -/
theorem wt_isNotB {Q : Bool → DS → Prop} (h : WE X P a R fun x R1 => asB x fun i => WE X P b R1 fun y R2 => asB y fun j => Q (!decide (i = j)) R2) : WT X P (.Compare a [.IsNot] [b] pos) R Q :=
  .of (pt_cmpR op_notBl pe_m pe_m (nomark _)) fun F σ Hd H w => h.use w fun Hd1 R1 x v H1 e1 w1 r1 q1 => by
    obtain ⟨i, rfl, q1⟩ := q1.elim
    cases (show Dq _ _ v (.bool i) from r1)
    exact q1.use w1 fun Hd2 R2 y u H2 e2 w2 r2 q2 => by
      obtain ⟨j, rfl, q⟩ := q2.elim
      cases (show Dq _ _ u (.bool j) from r2)
      exact ⟨i, j, rfl, rfl, _, rfl, Hd2, R2, e1.trans e2, w2, q⟩
/-! min of two; repr of a truth -/
theorem we_min2 (hc : X.calm = true) (hm : X.mg "min" = none) (hg : Gl X "min") (h : WE X P a R fun x R1 => asI x fun i => WE X P b R1 fun y R2 => asI y fun j => Q (.d (.int (if j < i then j else i))) R2)
    (he : starEach [a, b] X.env = (false, eval a X.env) :: starEach [b] X.env := by rfl) (he2 : starEach [b] X.env = (false, eval b X.env) :: starEach [] X.env := by rfl) (hpl : (backTo pos (starEach [b] X.env)).any (·.1) = false := by rfl) : WE X P (.Call (.Name "min" p) [a, b] [] pos) R Q :=
  .of (pe_callB (call_min2 hc) hg hm (by decide +kernel) (pa_cons pe_m (pa_cons pe_m pa_nil he2) he) (by decide) (by decide) he hpl) fun F σ Hd H w => h.use w fun Hd1 R1 x v H1 e1 w1 r1 q1 => by
    obtain ⟨i, rfl, q1⟩ := q1.elim
    cases (show Dq _ _ v (.int i) from r1)
    exact q1.use w1 fun Hd2 R2 y u H2 e2 w2 r2 q2 => by
      obtain ⟨j, rfl, q⟩ := q2.elim
      cases (show Dq _ _ u (.int j) from r2)
      exact ⟨i, j, rfl, .same (e1.trans e2) (.here w2 (show Rp _ _ _ _ _ _ (.d (.int (if j < i then j else i))) _ from .int _) q)⟩
theorem call_reprB : CallR X (.builtin "repr") (fun xs H Q => ∃ c : Bool, xs = [V.bl c] ∧ Q (.str (if c then "True" else "False" : String)) H) := by
  intro pins s σ H xs us Q I r h
  obtain ⟨c, rfl, q⟩ := h
  obtain ⟨u, rfl, ru⟩ := Vals.one r
  cases (show u = Value.bool c from ru)
  refine PySem.P.repr_of_bool ⟨.str _, H, I.tok _, ⟨_, rfl⟩, ?_⟩
  cases c <;> exact q
theorem we_reprB (hm : X.mg "repr" = none) (hg : Gl X "repr") (h : WE X P a R fun x R1 => asB x fun c => Q (.d (.str (if c then "True" else "False" : String))) R1)
    (he : starEach [a] X.env = (false, eval a X.env) :: starEach [] X.env := by rfl) (hpl : (backTo pos (starEach [] X.env)).any (·.1) = false := by rfl) : WE X P (.Call (.Name "repr" p) [a] [] pos) R Q :=
  call1 call_reprB hg hm (by decide +kernel) h (fun F σ Hd H sv R1 v Z w r g k => by
    obtain ⟨c, rfl, q⟩ := g.elim
    cases (show Dq _ _ v (.bool c) from r)
    exact ⟨c, rfl, k _ _ (.here w (show Rp _ _ _ _ _ _ (.d (.str _)) _ from .str _) q)⟩) (he := he) (hpl := hpl)
theorem eqG_str {R2 : DS} {k : Bool → Prop} (x : Str) (q : k true) : eqG R2 (.d (.str x)) (.d (.str x)) k := by
  show k (decide (x = x))
  rw [decide_eq_true rfl]
  exact q
end
section
variable {Pg : Program} {w : World} {K : PySem.W.Frag} {mg : Str → Option Value} {base : Heap} {k : Nat} {x qual : Str} {st : Stmt} {f : Addr} {fd : FuncData} {N ps : List Str} {S : SpD}
/-- as can_def, of the def that the row calls -/
theorem fn_def (Fu : Fun K x qual st f fd) (Sc : FnScope N ps (defScope st)) (hN : ps.length ≤ N.length) (hlen : ∀ R Q, S R Q → R.length = ps.length)
    (body : ∀ (cdv : Value) (A : Around) (outer : List Env) (s : Shared) (H : Hp) (E : XK), A.guards = some [] → Room k (A.deeper (envOfC qual (defScope st) s.heap.objs.size f cdv)) → ∀ R Q, S R Q →
      WSs (cxOf CX0 Pg w K mg base N qual (defScope st) f cdv A outer s H E).nox (ownIx R) (defBody st) (R ++ List.replicate (N.length - R.length) .no) (bodyEnds R.length Q)) : FnG Pg w K mg base CX0 (k + 1) f fd ps (liftS K S) := by
  refine fnG_of Fu Sc (fun vs H Q E h => ?_) (fun cdv A outer s H vs Q E hgd hr h => ?_)
  · obtain ⟨F, Hd, R, w, q⟩ := h
    have := w.len
    rw [List.length_map] at this
    rw [← this]
    exact hlen R _ q
  · have g := def_run (X := (cxOf CX0 Pg w K mg base N qual (defScope st) f cdv A outer s H E).nox) (N := N) (st := st) (fun R Q h => by rw [hlen R Q h]; exact hN) (body cdv A outer s H E hgd hr) (vs := vs) (H := H) (Q := Q) h
    exact TSsm.of (PSs.nox pss_m) g
end
end Dl
namespace Dl
open PySem PySem.Spec PyProof.Rows L2
/-! a def whose code object is known -/
theorem fnG_ofC {CX : CXT} {Pg : Program} {w : World} {K : PySem.W.Frag} {mg : Str → Option Value} {base : Heap} {k : Nat} {x qual : Str} {st : Stmt} {f : Addr} {fd : FuncData} {N ps : List Str} {sp : Sp} (Fu : Fun K x qual st f fd) (S : FnScope N ps (defScope st))
    (len : ∀ vs H Q E, sp vs H Q E → vs.length = ps.length)
    (body : ∀ (cdv : Value), fd.code = cdv → ∀ (A : Around) (outer : List Env) (s : Shared) (H : Hp) (vs : List V) (Q : VK) (E : XK), A.guards = some [] → Room k (A.deeper (envOfC qual (defScope st) s.heap.objs.size f cdv)) → sp vs H Q E →
      TSsm (cxOf CX Pg w K mg base N qual (defScope st) f cdv A outer s H E) (defBody st) { nx := fun _ H' => Q .non H', rt := Q } (start N vs) H) : FnG Pg w K mg base CX (k + 1) f fd ps sp := by
  obtain ⟨oc, od, kV, doc, pm, an, cdv, ct, osl, rfl, lk, hcd⟩ := Fu.ex
  refine ⟨len, fun A outer s H args us vs Q E hgd hr e0 hb r hsp => ?_⟩
  have hl : vs.length = ps.length := len _ _ _ _ hsp
  have kn : K.In s.heap := e0.mod.kin.keeps (h := base) fun b o q => (e0.bs b o q).1
  have lm : s.heap.NoLimit := e0.mod.nolimit.keeps (h := base) fun b o q => (e0.bs b o q).1
  refine codeAny_call_function hr.depth (kn _ _ lk) rfl S.co S.gen rfl (PySem.W.codeRec_of kn hcd) (hb _ _ _ _ (wpAny_newFunctionEnv_cells S.kind (fun y hy => ?_) fun env he s1 nw => ?_))
  · obtain ⟨n, v⟩ := y
    exact (S.par n (List.of_mem_zip hy).1).imp id fun q => ⟨q, PySem.W.cellsFrom_some _ _ _ (.inl q)⟩
  · subst he
    refine ⟨lm.keeps nw.toInCall.keep, codeAny_func ?_⟩
    have J := inv_start (CX := CX) (E := E) S hr.hd e0 hl r nw
    refine wpAny_mono (body cdv rfl A outer s H vs Q E hgd (hr.deeper _) hsp [] s1 J) (fun fl s' hs => ?_) (fun e s' hs => hs)
    have done : ∀ {τ : L2.St} {H' : Hp} {v : V} {u : Value}, Inv (cxOf CX Pg w K mg base N qual (defScope st) f cdv A outer s H E) [] τ H' s' → RelV v u → Q v H' → CE outer Pg w H s Q u s' := fun {_ H' v _} I2 rv q => ⟨v, H', I2.os, I2.bare, I2.base, I2.hok, rv, q⟩
    cases fl with
    | next =>
      obtain ⟨τ, H', I2, q⟩ := hs
      exact done (v := V.non) (u := Value.none) I2 rfl q
    | ret u =>
      obtain ⟨v, τ, H', I2, rv, q⟩ := hs
      exact done I2 rv q
    | brk => exact hs.elim fun _ ⟨_, _, q⟩ => (q : False).elim
    | cont => exact hs.elim fun _ ⟨_, _, q⟩ => (q : False).elim
theorem can_defC {Pg : Program} {w : World} {K : PySem.W.Frag} {mg : Str → Option Value} {base : Heap} {k : Nat} {x qual : Str} {st : Stmt} {f : Addr} {fd : FuncData} {N ps : List Str} {S : SpD} (Fu : Fun K x qual st f fd) (Sc : FnScope N ps (defScope st)) (hm : mg x = some (.ref f)) (hb : Binds K fd ps [])
    (mono : ∀ A Z Z', (∀ sv R', Z sv R' → Z' sv R') → S A Z → S A Z') (hN : ps.length ≤ N.length) (hlen : ∀ R Q, S R Q → R.length = ps.length)
    (body : ∀ (cdv : Value), fd.code = cdv → ∀ (A : Around) (outer : List Env) (s : Shared) (H : Hp) (E : XK), A.guards = some [] → Room k (A.deeper (envOfC qual (defScope st) s.heap.objs.size f cdv)) → ∀ R Q, S R Q →
      WSs (cxOf CX0 Pg w K mg base N qual (defScope st) f cdv A outer s H E).nox (ownIx R) (defBody st) (R ++ List.replicate (N.length - R.length) .no) (bodyEnds R.length Q)) : Can Pg w K mg base (k + 1) x S := by
  refine ⟨⟨f, fd, ps, fnG_ofC Fu Sc (fun vs H Q E h => ?_) (fun cdv hcd A outer s H vs Q E hgd hr h => ?_), hm, Fu.kp, hb⟩, mono⟩
  · obtain ⟨F, Hd, R, w, q⟩ := h
    have := w.len
    rw [List.length_map] at this
    rw [← this]
    exact hlen R _ q
  · have g := def_run (X := (cxOf CX0 Pg w K mg base N qual (defScope st) f cdv A outer s H E).nox) (N := N) (st := st) (fun R Q h => by rw [hlen R Q h]; exact hN) (body cdv hcd A outer s H E hgd hr) (vs := vs) (H := H) (Q := Q) h
    exact TSsm.of (PSs.nox pss_m) g
theorem code_of {K : PySem.W.Frag} {x qual : Str} {st : Stmt} {f c P : Addr} {fd : FuncData} (Fu : Fun K x qual st f fd) (ha : PySem.W.nsIn K mainGlobals x = some (some (.ref f))) (ht : PySem.W.tabIn K x = some (c, P)) : fd.code = .ref c := by
  obtain ⟨oc, od, kV, doc, pm, an, cdv, ct, osl, rfl, lk, hcd⟩ := Fu.ex
  unfold PySem.W.tabIn at ht
  rw [ha] at ht
  dsimp only at ht
  rw [lk] at ht
  dsimp only at ht
  show cdv = .ref c
  cases cdv with
  | ref c2 =>
    dsimp only at ht
    split at ht
    · split at ht
      · cases ht
        rfl
      · cases ht
    · cases ht
  | _ => cases ht
end Dl
set_option maxHeartbeats 1000000
namespace Dl
open PySem PySem.Spec PyProof.Rows L2
section
variable {X : Cx} {P : List Nat} {R : DS} {a b e : Expr} {pos p : Pos} {Q : SV → DS → Prop}
/-! xs + ys: any two lists that are read -/
theorem op_catS : OpR X (binaryOp .Add) (fun x y H Q => ∃ l m vs us, x = V.ref l ∧ y = V.ref m ∧ SqL X.K H l vs ∧ SqL X.K H m us ∧ vs.length + us.length ≤ sizeLine ∧ ∀ p, H p = none → Q (.ref p) (upd H p (.lst (vs ++ us)))) := by
  intro pins s σ H x y v u Q I rx ry h
  obtain ⟨l, m, vs, us, rfl, rfl, h1, h2, hz, q⟩ := h
  cases rx
  cases ry
  obtain ⟨its, r1, ⟨⟨c1, d1, a1, s1⟩, n1, g1, g2, g3, g4⟩, _⟩ := I.list h1
  obtain ⟨its2, r2, ⟨⟨c2, d2, a2, s2⟩, n2, k1, k2, k3, k4⟩, _⟩ := I.list h2
  dsimp only at g2 g3 g4 k2 k3 k4
  subst g2 g3 g4 k2 k3 k4
  have z1 := r1.length
  have z2 := r2.length
  have hn : H s.heap.objs.size = none := I.hok.fresh (Nat.le_refl _)
  have es : its.toArray ++ its2.toArray = (its ++ its2).toArray := by simp
  have hs : its.toArray.size + its2.toArray.size ≤ sizeLine := by
    rw [List.size_toArray, List.size_toArray]
    omega
  refine concat_meets ⟨_, g1, rfl⟩ ⟨_, k1, rfl⟩ noFill_list_add seq_list_add PySem.F.slot_list_add PySem.F.entry_list_add (PySem.F.args_list_add_2 _ _) (list_addW l m _ _ n1 n2 _ _ s1 s2 hs) ⟨g1, k1, ?_⟩
  rw [es]
  exact ⟨.ref s.heap.objs.size, _, I.laid (t' := s.toks) (a := s.heap.objs.size) (o := .lst (vs ++ us)) (fun b o e => Heap.get?_push_of_some _ e) (Nat.le_refl _) ⟨by rw [List.length_append]; omega, its ++ its2, 0, r1.append r2, Heap.get?_push_size _ rfl⟩, rfl, q _ hn⟩
theorem we_catS (h : WE X P a R fun x R1 => stb x fun x => WE X P b R1 fun y R2 => (∃ d, vD R2 x = some d) ∧ ∃ ds es, vL R2 x = some ds ∧ vL R2 y = some es ∧ ds.length + es.length ≤ sizeLine ∧ Q (.own (.lst (ds ++ es))) R2) : WE X P (.BinOp a .Add b pos) R Q :=
  .fit (pe_op op_catS pe_m pe_m) (two h fun F σ Hd H x y R2 v u Z w r1 r2 g k => by
    obtain ⟨ds, es, h1, h2, hz, q⟩ := g
    obtain ⟨l, vs, rfl, g1, g2⟩ := Rp.list w r1 h1
    obtain ⟨m, us, rfl, k1, k2⟩ := Rp.list w r2 h2
    exact ⟨l, m, vs, us, rfl, rfl, g1, k1, by rw [dpAllLen g2, dpAllLen k2]; exact hz, fun p hp => k _ _ (.here (w.allocH hp) (ownNew w hp (crL (dpAllApp g2 k2))) q)⟩)
end
end Dl
namespace Dl
open PySem PySem.Spec PyProof.Rows L2
open Sem (wp)
open PySem.SeqAt
open AutoSeq1 (wpAny_loadPart')
open MeetsSeq
/-! a dict against a text and against None -/
section
variable {A : Around} {E : Value → Shared → Prop} {s : Shared} {M : Model}
structure DAt (h : Heap) (l : Addr) : Prop where
  ex : ∃ (o : Obj) (es : Array DictEntry) (n : Nat), h.get? l = some o ∧ o.cls = .type "dict" ∧ o.data = .dict es n
theorem str_eq_dict (b : Str) (u : Tok) (l : Addr) (es : Array DictEntry) (n : Nat) (dd : Option Addr) (sl : Array (Option Value)) :
    Meets (Builtin.«str.__eq__» ⟨[.str b u, .ref l], []⟩) (fun _ R s => s.heap.get? l = some { cls := .type "dict", dict := dd, data := .dict es n, slots := sl } ∧ R (.ok (.ret .notImplemented)) s) :=
  .of_wp fun prog w A R s h => by obtain ⟨hp, g, d, tk, os⟩ := s; obtain ⟨hl, h⟩ := h; wp_walk using wpAny_load hl; exact ⟨_, rfl, h⟩
theorem str_ne_dict (b : Str) (u : Tok) (l : Addr) (es : Array DictEntry) (n : Nat) (dd : Option Addr) (sl : Array (Option Value)) :
    Meets (Builtin.«str.__ne__» ⟨[.str b u, .ref l], []⟩) (fun _ R s => s.heap.get? l = some { cls := .type "dict", dict := dd, data := .dict es n, slots := sl } ∧ R (.ok (.ret .notImplemented)) s) :=
  .of_wp fun prog w A R s h => by obtain ⟨hp, g, d, tk, os⟩ := s; obtain ⟨hl, h⟩ := h; wp_walk using wpAny_load hl; exact ⟨_, rfl, h⟩
theorem dict_eq_no {prog : Program} {w : World} {l : Addr} {x : Value} {T : String} {Q' : Value → Shared → Prop} (hl : s.TypeIs (.ref l) "dict") (hx : s.TypeIs x T) (hs : isSubtype (.type T) (.type "dict") = pure false) (h : Q' .notImplemented s) :
    wpAny (model prog w) A (call (.builtin "dict.__eq__") [.ref l, x]) Q' E s := by
  refine wpAny_call_entry PySem.F.slot_dict_eq hl PySem.F.entry_dict_eq ?_ (PySem.F.args_dict_eq_2 _ _)
  show wpAny _ _ (Builtin.Dict.dictSlotArgs "__eq__" ⟨[.ref l, x], []⟩ >>= _) _ _ s
  refine wpAny_bind ?_
  unfold Builtin.Dict.dictSlotArgs
  refine wpAny_bind (wpAny_notOrdered_dict hl ?_)
  show wpAny _ _ (pure (Value.ref l, x)) _ _ s
  refine wpAny_pure ?_
  refine wpAny_bind (wpAny_isInstance (T := T) hx hs ?_)
  simp only [Bool.not_false, if_true]
  refine wpAny_bind (wpAny_rule ?_)
  refine wpAny_bind (wpAny_pure ?_)
  exact wpAny_pure ⟨_, rfl, h⟩
theorem dict_ne_no {prog : Program} {w : World} {l : Addr} {x : Value} {T : String} {Q' : Value → Shared → Prop} (hl : s.TypeIs (.ref l) "dict") (hx : s.TypeIs x T) (hs : isSubtype (.type T) (.type "dict") = pure false) (h : Q' .notImplemented s) :
    wpAny (model prog w) A (call (.builtin "dict.__ne__") [.ref l, x]) Q' E s := by
  refine wpAny_call_entry PySem.F.slot_dict_ne hl PySem.F.entry_dict_ne ?_ (PySem.F.args_dict_ne_2 _ _)
  show wpAny _ _ (Builtin.Dict.dictSlotArgs "__ne__" ⟨[.ref l, x], []⟩ >>= _) _ _ s
  refine wpAny_bind ?_
  unfold Builtin.Dict.dictSlotArgs
  refine wpAny_bind (wpAny_notOrdered_dict hl ?_)
  show wpAny _ _ (pure (Value.ref l, x)) _ _ s
  refine wpAny_pure ?_
  refine wpAny_bind (wpAny_isInstance (T := T) hx hs ?_)
  simp only [Bool.not_false, if_true]
  refine wpAny_bind (wpAny_rule ?_)
  refine wpAny_bind (wpAny_pure ?_)
  exact wpAny_pure ⟨_, rfl, h⟩
theorem d_eq_str {l : Addr} (b : Str) (u : Tok) (hl : DAt s.heap l) (hu : A.units < cLine) : RcAt A s (.ref l) (.str b u) false := fun prog w E Q h => by
  obtain ⟨⟨cls, dd, data, sl⟩, es, n, ho, hc, hd⟩ := hl.ex
  simp only at hc hd
  subst hc hd
  have ht : s.TypeIs (.ref l) "dict" := ⟨_, ho, rfl⟩
  refine rc_eq_decline_or (k := false) ht (typeIs_str s b u) (by decide) F.sub_str_dict F.slot_dict_eq F.slot_str_eq_refl (fun _ hq => ?_) (fun _ hq => ?_) (fun _ hq => ?_) (.inr hu) h
  · exact dict_eq_no ht (typeIs_str s b u) F.sub_str_dict hq
  · exact call_meets F.slot_str_eq_refl (typeIs_str s b u) F.entry_str_eq (F.args_str_eq_2 _ _) (str_eq_dict b u l es n dd sl) ⟨ho, hq⟩
  · exact wpAny_of_eq (rfl : isSame (.ref l) (.str b u) = pure false) hq
theorem d_ne_str {l : Addr} (b : Str) (u : Tok) (hl : DAt s.heap l) (hu : A.units < cLine) : RcNeAt A s (.ref l) (.str b u) true := fun prog w E Q h => by
  obtain ⟨⟨cls, dd, data, sl⟩, es, n, ho, hc, hd⟩ := hl.ex
  simp only at hc hd
  subst hc hd
  have ht : s.TypeIs (.ref l) "dict" := ⟨_, ho, rfl⟩
  refine rc_ne_decline_or (k := false) ht (typeIs_str s b u) (by decide) F.sub_str_dict F.slot_dict_ne F.slot_str_ne_refl (fun _ hq => ?_) (fun _ hq => ?_) (fun _ hq => ?_) (.inr hu) h
  · exact dict_ne_no ht (typeIs_str s b u) F.sub_str_dict hq
  · exact call_meets F.slot_str_ne_refl (typeIs_str s b u) F.entry_str_ne (F.args_str_ne_2 _ _) (str_ne_dict b u l es n dd sl) ⟨ho, hq⟩
  · exact wpAny_of_eq (rfl : isSame (.ref l) (.str b u) = pure false) hq
theorem d_eq_none {l : Addr} (hl : DAt s.heap l) (hu : A.units < cLine) : EqAt A s (.ref l) .none false := fun prog w E Q h => by
  obtain ⟨⟨cls, dd, data, sl⟩, es, n, ho, hc, hd⟩ := hl.ex
  simp only at hc hd
  subst hc hd
  have ht : s.TypeIs (.ref l) "dict" := ⟨_, ho, rfl⟩
  unfold eqBool
  refine wpAny_holding ?_
  refine wpAny_ite_split (fun hab => absurd (eq_of_beq hab) nofun) (fun _ => ?_)
  refine wpAny_bind ?_
  refine rc_eq_decline_or (k := false) ht rfl (by decide) F.sub_NoneType_dict F.slot_dict_eq F.slot_NoneType_eq_refl (fun _ hq => ?_) (fun _ hq => ?_) (fun _ hq => ?_) (.inr hu) (wpAny_truthy_bool h)
  · exact dict_eq_no ht rfl F.sub_NoneType_dict hq
  · exact call_gives F.slot_NoneType_eq_refl rfl F.entry_NoneType_eq (F.args_NoneType_eq_2 _ _) (NoneType___eq___none_ref_0 l) hq
  · exact wpAny_of_eq (rfl : isSame (.ref l) .none = pure false) hq
end
/-! data against a text, against a tuple of Nones -/
section
variable {A : Around} {s : Shared}
theorem dat_of_dict {h : Heap} {l : Addr} {kvs : List (PyData × PyData)} {as : List Addr} (r : Reads h (.ref l) (.dict kvs) as) : DAt h l := by
  cases r with
  | dict h1 h2 h3 _ _ => exact ⟨_, _, _, h1, h2, h3⟩
def strE (d : D) (x : Str) : Bool := match d with | .str y => y == x | _ => false
theorem rc_str {v : Value} {d : D} {as : List Addr} (r : Reads s.heap v d as) (x : Str) (u : Tok) (hu : A.units < cLine) : RcAt A s v (.str x u) (strE d x) := by
  cases r with
  | none => exact RcAt.none_str x u
  | bool b => exact RcAt.bool_str b x u
  | int i t => exact RcAt.int_str i t x u
  | str y t => exact RcAt.str_str y t x u
  | list h1 h2 h3 h4 => exact RcAt.list_str x u ⟨_, h1, h2, _, h3⟩ hu
  | tuple h1 h2 h3 h4 => exact RcAt.tuple_str x u ⟨_, h1, h2, _, h3⟩ hu
  | dict h1 h2 h3 h4 h5 => exact d_eq_str x u ⟨_, _, _, h1, h2, h3⟩ hu
theorem rn_str {v : Value} {d : D} {as : List Addr} (r : Reads s.heap v d as) (x : Str) (u : Tok) (hu : A.units < cLine) : RcNeAt A s v (.str x u) (!strE d x) := by
  cases r with
  | none => exact RcNeAt.none_str x u
  | bool b => exact RcNeAt.bool_str b x u
  | int i t => exact RcNeAt.int_str i t x u
  | str y t => exact RcNeAt.str_str y t x u
  | list h1 h2 h3 h4 => exact RcNeAt.list_str x u ⟨_, h1, h2, _, h3⟩ hu
  | tuple h1 h2 h3 h4 => exact RcNeAt.tuple_str x u ⟨_, h1, h2, _, h3⟩ hu
  | dict h1 h2 h3 h4 h5 => exact d_ne_str x u ⟨_, _, _, h1, h2, h3⟩ hu
def isN : D → Bool
  | .none => true
  | _ => false
theorem eq_none {v : Value} {d : D} {as : List Addr} (r : Reads s.heap v d as) (hu : A.units < cLine) : EqAt A s v .none (isN d) := by
  cases r with
  | none => exact EqAt.same .none
  | bool b => exact EqAt.bool_none b
  | int i t => exact EqAt.int_none i t
  | str y t => exact EqAt.str_none y t
  | list h1 h2 h3 h4 => exact EqAt.list_none ⟨_, h1, h2, _, h3⟩ hu
  | tuple h1 h2 h3 h4 => exact EqAt.tuple_none ⟨_, h1, h2, _, h3⟩ hu
  | dict h1 h2 h3 h4 h5 => exact d_eq_none ⟨_, _, _, h1, h2, h3⟩ hu
def nonE : List D → Nat → Bool
  | [], 0 => true
  | x :: r, n + 1 => isN x && nonE r n
  | _, _ => false
theorem nonE_range : ∀ (xs : List D) (n : Nat), ((List.range (min xs.length n)).all (fun j => isN (xs.getD j .none)) && (xs.length == n)) = nonE xs n
  | [], 0 => rfl
  | [], n + 1 => rfl
  | x :: r, 0 => rfl
  | x :: r, n + 1 => by
    have ih := nonE_range r n
    show _ = (isN x && nonE r n)
    rw [← ih, List.length_cons, Nat.succ_min_succ, List.range_succ_eq_map, List.all_cons, List.all_map]
    have e : (r.length + 1 == n + 1) = (r.length == n) := by
      by_cases h : r.length = n
      · rw [h, beq_self_eq_true, beq_self_eq_true]
      · rw [beq_eq_false_iff_ne.mpr h, beq_eq_false_iff_ne.mpr (by omega)]
    rw [e, Bool.and_assoc]
    rfl
theorem reads_nones {h : Heap} : ∀ {n : Nat} {us : List Value} {as : List Addr}, ReadsAll h us (List.replicate n PyData.none) as → us = List.replicate n Value.none
  | 0, _, _, .nil => rfl
  | n + 1, _, _, r => by
    rw [List.replicate_succ] at r
    cases r with
    | cons r1 r2 =>
      cases r1
      rw [reads_nones r2]
      rfl
theorem eq_items {vs : List Value} {xs : List D} {as : List Addr} (r : ReadsAll s.heap vs xs as) (hu : A.units < cLine) : ∀ (j : Nat) (v : Value), vs[j]? = some v → EqAt A s v .none (isN (xs.getD j .none)) := by
  induction xs generalizing vs as with
  | nil =>
    cases r
    intro j v e
    simp at e
  | cons x xs ih =>
    cases r with
    | cons r1 r2 =>
      intro j v e
      cases j with
      | zero =>
        simp at e
        subst e
        exact eq_none r1 hu
      | succ j =>
        have := ih r2 j v (by simpa using e)
        simpa using this
theorem rc_nones {v y : Value} {xs : List D} {n : Nat} {as bs : List Addr} (r1 : Reads s.heap v (.tuple xs) as) (r2 : Reads s.heap y (.tuple (List.replicate n .none)) bs) (hu : A.in1.units < cLine) : RcAt A s v y (nonE xs n) := by
  have hu0 : A.units < cLine := Nat.lt_of_le_of_lt (Nat.le_succ _) hu
  cases r1 with
  | tuple h1 h2 h3 h4 =>
    cases r2 with
    | tuple k1 k2 k3 k4 =>
      rename_i o1 v1 n1 a1 o2 v2 n2
      have e2 := reads_nones k4
      have n1' : v1.size = xs.length := by simpa using ReadsAll.length _ _ _ h4
      have n2' : v2.size = n := by
        have := ReadsAll.length _ _ _ k4
        simpa using this
      have := RcAt.tuples (A := A) (s := s) (e := fun j => isN (xs.getD j .none)) ⟨_, h1, h2, _, h3⟩ ⟨_, k1, k2, _, k3⟩ hu0 fun j j1 j2 => by
        have g := eq_items (A := A.in1) h4 hu j v1[j] (by simp)
        have e3 : v2[j] = Value.none := by
          have e4 : v2.toList[j]? = some v2[j] := by simp
          rw [e2, List.getElem?_replicate] at e4
          split at e4
          · exact (Option.some.inj e4).symm
          · cases e4
        rw [e3]
        exact g
      rw [n1', n2', nonE_range] at this
      exact this
theorem rn_nones {v y : Value} {xs : List D} {n : Nat} {as bs : List Addr} (r1 : Reads s.heap v (.tuple xs) as) (r2 : Reads s.heap y (.tuple (List.replicate n .none)) bs) (hu : A.in1.units < cLine) : RcNeAt A s v y (!nonE xs n) := by
  have hu0 : A.units < cLine := Nat.lt_of_le_of_lt (Nat.le_succ _) hu
  cases r1 with
  | tuple h1 h2 h3 h4 =>
    cases r2 with
    | tuple k1 k2 k3 k4 =>
      rename_i o1 v1 n1 a1 o2 v2 n2
      have e2 := reads_nones k4
      have n1' : v1.size = xs.length := by simpa using ReadsAll.length _ _ _ h4
      have n2' : v2.size = n := by
        have := ReadsAll.length _ _ _ k4
        simpa using this
      have := RcNeAt.tuples (A := A) (s := s) (e := fun j => isN (xs.getD j .none)) ⟨_, h1, h2, _, h3⟩ ⟨_, k1, k2, _, k3⟩ hu0 fun j j1 j2 => by
        have g := eq_items (A := A.in1) h4 hu j v1[j] (by simp)
        have e3 : v2[j] = Value.none := by
          have e4 : v2.toList[j]? = some v2[j] := by simp
          rw [e2, List.getElem?_replicate] at e4
          split at e4
          · exact (Option.some.inj e4).symm
          · cases e4
        rw [e3]
        exact g
      rw [n1', n2', nonE_range] at this
      exact this
end
end Dl
namespace Dl
open PySem PySem.Spec PyProof.Rows L2
open PySem.SeqAt
section
variable {X : Cx} {pins : List (Addr × Obj)} {σ : L2.St} {H : Hp} {s : Shared}
theorem d0_at (I : Inv X pins σ H s) {a : Addr} (h : H a = some (.dK [])) : ∃ (o : Obj) (n : Nat), s.heap.get? a = some o ∧ o.cls = .type "dict" ∧ o.data = .dict #[] n ∧ (a == sysModules) = false := by
  obtain ⟨_, hs, vs, kv, o, es, ep, ho, hx, hd, _, hp, _⟩ := I.hok a _ h
  cases kv
  have he : es = #[] := by
    have hl := hp.length
    obtain ⟨l⟩ := es
    cases l with
    | nil => rfl
    | cons x r => simp at hl
  subst he
  exact ⟨o, ep, ho, hx.1, hd, hs⟩
theorem d0_reads (I : Inv X pins σ H s) {a : Addr} (h : H a = some (.dK [])) : ∃ as, Reads s.heap (.ref a) (.dict []) as := by
  obtain ⟨o, n, ho, hc, hd, _⟩ := d0_at I h
  exact ⟨_, Reads.dict ho hc hd .nil .nil⟩
mutual
theorem dq_reads (I : Inv X pins σ H s) : ∀ (d : D) (v : V) (u : Value), Dq X.K H v d → RelV v u → ∃ as, Reads s.heap u d as
  | .none, _, _, h, r => by cases h; cases r; exact ⟨_, Reads.none⟩
  | .bool b, _, _, h, r => by cases h; cases r; exact ⟨_, Reads.bool b⟩
  | .int i, _, _, h, r => by cases h; obtain ⟨t, rfl⟩ := r; exact ⟨_, Reads.int i t⟩
  | .str x, _, _, h, r => by cases h; obtain ⟨t, rfl⟩ := r; exact ⟨_, Reads.str x t⟩
  | .list ds, _, _, h, r => by
    cases h with
    | lst h1 h2 =>
      cases r
      obtain ⟨its, q, ⟨o, n, ho, hc, _, hd⟩, _⟩ := I.list h1
      obtain ⟨as, k⟩ := dq_readsAll I ds _ its h2 q
      exact ⟨_, Reads.list ho hc hd k⟩
  | .tuple ds, _, _, h, r => by
    cases h with
    | tup h1 h2 =>
      cases r
      obtain ⟨its, q, ⟨o, ho, hc, n, hd⟩, _⟩ := I.tuple (SqT.of h1)
      obtain ⟨as, k⟩ := dq_readsAll I ds _ its h2 q
      exact ⟨_, Reads.tuple ho hc hd k⟩
  | .dict kvs, _, _, h, r => by
    cases h with
    | dct0 h1 =>
      cases r
      exact d0_reads I h1
theorem dq_readsAll (I : Inv X pins σ H s) : ∀ (ds : List D) (vs : List V) (us : List Value), DqAll X.K H vs ds → Vals vs us → ∃ as, ReadsAll s.heap us ds as
  | [], _, _, h, r => by cases h; cases r; exact ⟨_, ReadsAll.nil⟩
  | d :: ds, _, _, h, r => by
    cases h with
    | cons h1 h2 =>
      cases r with
      | cons r1 r2 =>
        obtain ⟨as, k1⟩ := dq_reads I d _ _ h1 r1
        obtain ⟨bs, k2⟩ := dq_readsAll I ds _ _ h2 r2
        exact ⟨_, ReadsAll.cons k1 k2⟩
end
/-- the text of data, empty dicts among it -/
structure TxK (X : Cx) (s : Shared) (n : Nat) (u : Value) (t : Str) : Prop where
  ex : ∃ bs, ReadAtMost s.heap n bs ∧ ReprK X.prog X.w bs s.heap n u t
structure TxA (X : Cx) (s : Shared) (n : Nat) (us : List Value) (ts : List Str) : Prop where
  ex : ∃ bs, ReadAtMost s.heap n bs ∧ ReprAllK X.prog X.w bs s.heap n us ts
theorem ram_nil {h : Heap} {n : Nat} : ReadAtMost h n [] := fun _ z => nomatch z
theorem tx_is {n : Nat} {u : Value} {t : Str} (h : ReprIs X.prog X.w u t) : TxK X s n u t := ⟨[], ram_nil, ReprK.of_is h _ _ _⟩
mutual
theorem dq_tx (I : Inv X pins σ H s) : ∀ (d : D) (v : V) (u : Value), Dq X.K H v d → RelV v u → d.showable = true → d.shown.length ≤ sizeLine → TxK X s d.depth u d.shown
  | .none, _, _, h, r, _, _ => by cases h; cases r; exact tx_is ReprIs.none
  | .bool b, _, _, h, r, _, _ => by cases h; cases r; exact tx_is (ReprIs.bool b)
  | .int i, _, _, h, r, hs, _ => by
    cases h
    obtain ⟨t, rfl⟩ := r
    exact tx_is (ReprIs.int t (by simpa [PyData.showable] using hs))
  | .str x, _, _, h, r, _, hz => by
    cases h
    obtain ⟨t, rfl⟩ := r
    exact tx_is (ReprIs.str x t hz)
  | .list ds, v, u, h, r, hs, hz => by
    obtain ⟨as, rd⟩ := dq_reads I _ _ _ h r
    cases h with
    | lst h1 h2 =>
      rename_i a vs
      cases r
      have hz' : (listText (PyData.shownAll ds)).length ≤ sizeLine := hz
      obtain ⟨its, q, ⟨o, n, ho, hc, _, hd⟩, _⟩ := I.list h1
      obtain ⟨bs, hb, hk⟩ := (dq_txAll I ds _ its h2 q (by simpa [PyData.showable] using hs) fun t ht => Nat.le_trans (listText_mem_le ht) hz').ex
      have ne : a ∉ bs := not_mem_of_deeper rd (Nat.lt_succ_self _) hb
      refine ⟨a :: bs, ReadAtMost.cons rd (Nat.le_succ _) hb, ?_⟩
      cases its with
      | nil =>
        cases q
        cases h2
        exact ReprK.listEmpty ho hc hd
      | cons y l => exact ReprK.list ho hc hd ne (by simpa using hk.length_eq) fun i z e => hk.item i z (by simpa using e)
  | .tuple ds, v, u, h, r, hs, hz => by
    obtain ⟨as, rd⟩ := dq_reads I _ _ _ h r
    cases h with
    | tup h1 h2 =>
      rename_i a vs
      cases r
      have hz' : (tupleText (PyData.shownAll ds)).length ≤ sizeLine := hz
      obtain ⟨its, q, ⟨o, ho, hc, n, hd⟩, _⟩ := I.tuple (SqT.of h1)
      obtain ⟨bs, hb, hk⟩ := (dq_txAll I ds _ its h2 q (by simpa [PyData.showable] using hs) fun t ht => Nat.le_trans (tupleText_mem_le ht) hz').ex
      have ne : a ∉ bs := not_mem_of_deeper rd (Nat.lt_succ_self _) hb
      exact ⟨a :: bs, ReadAtMost.cons rd (Nat.le_succ _) hb, ReprK.tuple ho hc hd ne hk⟩
  | .dict kvs, v, u, h, r, hs, hz => by
    obtain ⟨as, rd⟩ := dq_reads I _ _ _ h r
    cases h with
    | dct0 h1 =>
      rename_i a
      cases r
      obtain ⟨o, n, ho, hc, hd, hy⟩ := d0_at I h1
      exact ⟨[a], ReadAtMost.cons rd (Nat.zero_le _) ram_nil, ReprK.dict ho hc hd hy (fun z => nomatch z) .nil⟩
theorem dq_txAll (I : Inv X pins σ H s) : ∀ (ds : List D) (vs : List V) (us : List Value), DqAll X.K H vs ds → Vals vs us → PyData.showableAll ds = true → (∀ t ∈ PyData.shownAll ds, t.length ≤ sizeLine) → TxA X s (PyData.depthAll ds) us (PyData.shownAll ds)
  | [], _, _, h, r, _, _ => by cases h; cases r; exact ⟨[], ram_nil, .nil⟩
  | d :: ds, _, _, h, r, hs, hz => by
    cases h with
    | cons h1 h2 =>
      cases r with
      | cons r1 r2 =>
        have hs' : d.showable = true ∧ PyData.showableAll ds = true := by simpa [PyData.showableAll] using hs
        obtain ⟨b1, g1, k1⟩ := (dq_tx I d _ _ h1 r1 hs'.1 (hz _ List.mem_cons_self)).ex
        obtain ⟨b2, g2, k2⟩ := (dq_txAll I ds _ _ h2 r2 hs'.2 fun t ht => hz t (List.mem_cons_of_mem _ ht)).ex
        have l1 : d.depth ≤ PyData.depthAll (d :: ds) := Nat.le_max_left _ _
        have l2 : PyData.depthAll ds ≤ PyData.depthAll (d :: ds) := Nat.le_max_right _ _
        refine ⟨b1 ++ b2, (g1.mono l1).append (g2.mono l2), ?_⟩
        exact .cons ((k1.more fun b hb => List.mem_append_left _ hb).level_le l1) (k2.more_le (fun b hb => List.mem_append_right _ hb) l2)
end
end
end Dl
namespace Dl
open PySem PySem.Spec PyProof.Rows L2
open PySem.SeqAt
section
variable {X : Cx} {pins : List (Addr × Obj)} {σ : L2.St} {H : Hp} {s : Shared}
/-- repr of any data -/
theorem call_reprX (hg : X.A.guards = some []) (hu : X.A.units + 100 < cLine) : CallR X (.builtin "repr") (fun xs H Q => ∃ v d, xs = [v] ∧ Dq X.K H v d ∧ d.showable = true ∧ d.depth ≤ 64 ∧ d.shown.length ≤ sizeLine ∧ Q (.str d.shown) H) := by
  intro pins s σ H vs us Q I rs h
  obtain ⟨v, d, rfl, hd, hsh, hdep, hsz, q⟩ := h
  obtain ⟨u, rfl, ru⟩ := Vals.one rs
  cases d with
  | none =>
    cases hd
    cases ru
    exact PySem.P.repr_of_none ⟨.str _, H, I.tok _, ⟨_, rfl⟩, q⟩
  | bool b =>
    cases hd
    cases ru
    exact PySem.P.repr_of_bool ⟨.str _, H, I.tok _, ⟨_, rfl⟩, q⟩
  | int i =>
    cases hd
    obtain ⟨t, rfl⟩ := ru
    exact PySem.P.repr_of_int (by simpa [PyData.showable] using hsh) ⟨.str _, H, I.tok _, ⟨_, rfl⟩, q⟩
  | str x =>
    cases hd
    obtain ⟨t, rfl⟩ := ru
    exact PySem.P.repr_of_str ⟨.str _, H, I.tok _, ⟨_, rfl⟩, q⟩ hsz
  | list ds =>
    obtain ⟨as, rd⟩ := dq_reads I _ _ _ hd ru
    cases hd with
    | lst h1 h2 =>
      rename_i a vs
      cases ru
      have hz' : (listText (PyData.shownAll ds)).length ≤ sizeLine := hsz
      obtain ⟨its, r, ⟨o, n, ho, hc, _, hdt⟩, _⟩ := I.list h1
      obtain ⟨bs, hb, hk⟩ := (dq_txAll I ds _ its h2 r (by simpa [PyData.showable] using hsh) fun t ht => Nat.le_trans (listText_mem_le ht) hz').ex
      have ne : a ∉ bs := not_mem_of_deeper rd (Nat.lt_succ_self _) hb
      have hd1 : PyData.depthAll ds + 1 ≤ 64 := hdep
      refine call_repr_slot (by omega) ⟨o, ho, hc⟩ F.slot_list_repr.toG ?_
      cases its with
      | nil =>
        cases r
        cases h2
        exact call_list_repr_empty ⟨o, ho, hc⟩ ho hdt ⟨_, _, rfl, .str _, H, I.tok _, ⟨_, rfl⟩, q⟩
      | cons y l =>
        exact call_list_reprK ho hc hdt ne (by simpa using hk.length_eq) (fun i z e => hk.item i z (by simpa using e)) hg (fun b _ => Clear.nil b) (by show X.A.units + 1 + _ < cLine; omega) (fun _ _ e => e) (fun h' t tk hkp => ⟨_, _, rfl, .str _, H, I.kept (t' := tk) hkp, ⟨t, rfl⟩, q⟩) hz'
  | tuple ds =>
    obtain ⟨as, rd⟩ := dq_reads I _ _ _ hd ru
    cases hd with
    | tup h1 h2 =>
      rename_i a vs
      cases ru
      have hz' : (tupleText (PyData.shownAll ds)).length ≤ sizeLine := hsz
      obtain ⟨its, r, ⟨o, ho, hc, n, hdt⟩, _⟩ := I.tuple (SqT.of h1)
      obtain ⟨bs, hb, hk⟩ := (dq_txAll I ds _ its h2 r (by simpa [PyData.showable] using hsh) fun t ht => Nat.le_trans (tupleText_mem_le ht) hz').ex
      have ne : a ∉ bs := not_mem_of_deeper rd (Nat.lt_succ_self _) hb
      have hd1 : PyData.depthAll ds + 1 ≤ 64 := hdep
      refine call_repr_slot (by omega) ⟨o, ho, hc⟩ F.slot_tuple_repr ?_
      exact call_tuple_reprK ho hc hdt ne hk hg (fun b _ => Clear.nil b) (by show X.A.units + 1 + _ < cLine; omega) (fun _ _ e => e) (fun h' t tk hkp => ⟨_, _, rfl, .str _, H, I.kept (t' := tk) hkp, ⟨t, rfl⟩, q⟩) hz'
  | dict kvs =>
    cases hd with
    | dct0 h1 =>
      rename_i a
      cases ru
      obtain ⟨o, n, ho, hc, hdt, hy⟩ := d0_at I h1
      refine call_repr_slot (by omega) ⟨o, ho, hc⟩ F.slot_dict_repr ?_
      exact call_dict_reprK (as := []) (d := 0) (ps := []) ho hc hdt hy (fun z => nomatch z) .nil hg (fun b _ => Clear.nil b) (by show X.A.units + 1 + _ < cLine; omega) (fun _ _ e => e) (fun h' t tk hkp => ⟨_, _, rfl, .str _, H, I.kept (t' := tk) hkp, ⟨t, rfl⟩, q⟩) hsz
end
section
variable {X : Cx} {P : List Nat} {R : DS} {a b e : Expr} {pos : Pos} {Q : SV → DS → Prop}
theorem we_reprX {p : Pos} (hgd : X.A.guards = some []) (hu : X.A.units + 100 < cLine) (hm : X.mg "repr" = none) (hg : Gl X "repr")
    (h : WE X P a R fun x R1 => ∃ d, vD R1 x = some d ∧ d.showable = true ∧ d.depth ≤ 64 ∧ d.shown.length ≤ sizeLine ∧ Q (.d (.str d.shown)) R1)
    (he : starEach [a] X.env = (false, eval a X.env) :: starEach [] X.env := by rfl) (hpl : (backTo pos (starEach [] X.env)).any (·.1) = false := by rfl) : WE X P (.Call (.Name "repr" p) [a] [] pos) R Q :=
  call1 (call_reprX hgd hu) hg hm (by decide +kernel) h (fun F σ Hd H sv R1 v Z w r g k => by
    obtain ⟨d, h1, h2, h3, h4, q⟩ := g
    exact ⟨v, d, rfl, Rp.dat w r h1, h2, h3, h4, k _ _ (.here w (show Rp _ _ _ _ _ _ (.d (.str d.shown)) _ from .str _) q)⟩) (he := he) (hpl := hpl)
/-! any data against a text, against a tuple of Nones -/
def rEqS (K : PySem.W.Frag) : R2 := fun x y H Q => ∃ d t, Dq K H x d ∧ y = .str t ∧ Q (.bl (strE d t)) H
def rNeS (K : PySem.W.Frag) : R2 := fun x y H Q => ∃ d t, Dq K H x d ∧ y = .str t ∧ Q (.bl (!strE d t)) H
theorem op_eqS (hu : X.A.units + 1 < cLine) : OpR X (compareOp .Eq) (rEqS X.K) := by
  intro pins s σ H x y v u Q I rx ry h
  obtain ⟨d, t, hd, rfl, q⟩ := h
  obtain ⟨as, r1⟩ := dq_reads I d x v hd rx
  obtain ⟨tk, rfl⟩ := ry
  exact rc_str r1 t tk (by omega) _ _ _ _ ⟨.bl _, H, I, rfl, q⟩
theorem op_neS (hu : X.A.units + 1 < cLine) : OpR X (compareOp .NotEq) (rNeS X.K) := by
  intro pins s σ H x y v u Q I rx ry h
  obtain ⟨d, t, hd, rfl, q⟩ := h
  obtain ⟨as, r1⟩ := dq_reads I d x v hd rx
  obtain ⟨tk, rfl⟩ := ry
  exact rn_str r1 t tk (by omega) _ _ _ _ ⟨.bl _, H, I, rfl, q⟩
def rEqN (K : PySem.W.Frag) : R2 := fun x y H Q => ∃ ds n, Dq K H x (.tuple ds) ∧ Dq K H y (.tuple (List.replicate n .none)) ∧ Q (.bl (nonE ds n)) H
def rNeN (K : PySem.W.Frag) : R2 := fun x y H Q => ∃ ds n, Dq K H x (.tuple ds) ∧ Dq K H y (.tuple (List.replicate n .none)) ∧ Q (.bl (!nonE ds n)) H
theorem op_eqN (hu : X.A.units + 1 < cLine) : OpR X (compareOp .Eq) (rEqN X.K) := by
  intro pins s σ H x y v u Q I rx ry h
  obtain ⟨ds, n, hd, he, q⟩ := h
  obtain ⟨as, r1⟩ := dq_reads I _ x v hd rx
  obtain ⟨bs, r2⟩ := dq_reads I _ y u he ry
  exact rc_nones r1 r2 hu _ _ _ _ ⟨.bl _, H, I, rfl, q⟩
theorem op_neN (hu : X.A.units + 1 < cLine) : OpR X (compareOp .NotEq) (rNeN X.K) := by
  intro pins s σ H x y v u Q I rx ry h
  obtain ⟨ds, n, hd, he, q⟩ := h
  obtain ⟨as, r1⟩ := dq_reads I _ x v hd rx
  obtain ⟨bs, r2⟩ := dq_reads I _ y u he ry
  exact rn_nones r1 r2 hu _ _ _ _ ⟨.bl _, H, I, rfl, q⟩
/-- x == a text: x of any kind -/
def gStr (R2 : DS) (x y : SV) (k : Bool → Prop) : Prop := ∃ d t, vD R2 x = some d ∧ y = .d (.str t) ∧ k (strE d t)
def gNon (R2 : DS) (x y : SV) (k : Bool → Prop) : Prop := ∃ ds n, x = .d (.tuple ds) ∧ y = .d (.tuple (List.replicate n .none)) ∧ k (nonE ds n)
theorem fit_eqX (h : WE X P a R fun x R1 => stb x fun x => WE X P b R1 fun y R2 => (∃ d, vD R2 x = some d) ∧ gStr R2 x y fun c => Q (.d (.bool c)) R2) : Fits X P R (tOp (rEqS X.K) (TEm X a) (TEm X b)) Q :=
  two h fun F σ Hd H x y R2 v u Z w r1 r2 g k => by
    obtain ⟨d, t, h1, rfl, q⟩ := g
    cases (show Dq _ _ u (.str t) from r2)
    exact ⟨d, t, Rp.dat w r1 h1, rfl, k _ _ (.here w (show Rp _ _ _ _ _ _ (.d (.bool _)) _ from .bl _) q)⟩
theorem fit_neX (h : WE X P a R fun x R1 => stb x fun x => WE X P b R1 fun y R2 => (∃ d, vD R2 x = some d) ∧ gStr R2 x y fun c => Q (.d (.bool (!c))) R2) : Fits X P R (tOp (rNeS X.K) (TEm X a) (TEm X b)) Q :=
  two h fun F σ Hd H x y R2 v u Z w r1 r2 g k => by
    obtain ⟨d, t, h1, rfl, q⟩ := g
    cases (show Dq _ _ u (.str t) from r2)
    exact ⟨d, t, Rp.dat w r1 h1, rfl, k _ _ (.here w (show Rp _ _ _ _ _ _ (.d (.bool _)) _ from .bl _) q)⟩
theorem fit_eqNn (h : WE X P a R fun x R1 => stb x fun x => WE X P b R1 fun y R2 => (∃ d, vD R2 x = some d) ∧ gNon R2 x y fun c => Q (.d (.bool c)) R2) : Fits X P R (tOp (rEqN X.K) (TEm X a) (TEm X b)) Q :=
  two h fun F σ Hd H x y R2 v u Z w r1 r2 g k => by
    obtain ⟨ds, n, rfl, rfl, q⟩ := g
    exact ⟨ds, n, Rp.dat w r1 rfl, Rp.dat w r2 rfl, k _ _ (.here w (show Rp _ _ _ _ _ _ (.d (.bool _)) _ from .bl _) q)⟩
theorem fit_neNn (h : WE X P a R fun x R1 => stb x fun x => WE X P b R1 fun y R2 => (∃ d, vD R2 x = some d) ∧ gNon R2 x y fun c => Q (.d (.bool (!c))) R2) : Fits X P R (tOp (rNeN X.K) (TEm X a) (TEm X b)) Q :=
  two h fun F σ Hd H x y R2 v u Z w r1 r2 g k => by
    obtain ⟨ds, n, rfl, rfl, q⟩ := g
    exact ⟨ds, n, Rp.dat w r1 rfl, Rp.dat w r2 rfl, k _ _ (.here w (show Rp _ _ _ _ _ _ (.d (.bool _)) _ from .bl _) q)⟩
theorem wt_eqX {k : Nat} {Q : Bool → DS → Prop} (hr : Room k X.A) (h : WE X P a R fun x R1 => stb x fun x => WE X P b R1 fun y R2 => (∃ d, vD R2 x = some d) ∧ gStr R2 x y fun c => Q c R2) : WT X P (.Compare a [.Eq] [b] pos) R Q :=
  .fit (pt_cmpR (op_eqS (hu_of hr)) pe_m pe_m (nomark _)) (fit_eqX (Q := fun x R1 => asB x fun c => Q c R1) h)
theorem we_eqX {k : Nat} (hr : Room k X.A) (h : WE X P a R fun x R1 => stb x fun x => WE X P b R1 fun y R2 => (∃ d, vD R2 x = some d) ∧ gStr R2 x y fun c => Q (.d (.bool c)) R2) : WE X P (.Compare a [.Eq] [b] pos) R Q :=
  .fit (pe_cmpR (op_eqS (hu_of hr)) pe_m pe_m (nomark _)) (fit_eqX h)
theorem wt_neX {k : Nat} {Q : Bool → DS → Prop} (hr : Room k X.A) (h : WE X P a R fun x R1 => stb x fun x => WE X P b R1 fun y R2 => (∃ d, vD R2 x = some d) ∧ gStr R2 x y fun c => Q (!c) R2) : WT X P (.Compare a [.NotEq] [b] pos) R Q :=
  .fit (pt_cmpR (op_neS (hu_of hr)) pe_m pe_m (nomark _)) (fit_neX (Q := fun x R1 => asB x fun c => Q c R1) h)
theorem we_neX {k : Nat} (hr : Room k X.A) (h : WE X P a R fun x R1 => stb x fun x => WE X P b R1 fun y R2 => (∃ d, vD R2 x = some d) ∧ gStr R2 x y fun c => Q (.d (.bool (!c))) R2) : WE X P (.Compare a [.NotEq] [b] pos) R Q :=
  .fit (pe_cmpR (op_neS (hu_of hr)) pe_m pe_m (nomark _)) (fit_neX h)
theorem we_eqNn {k : Nat} (hr : Room k X.A) (h : WE X P a R fun x R1 => stb x fun x => WE X P b R1 fun y R2 => (∃ d, vD R2 x = some d) ∧ gNon R2 x y fun c => Q (.d (.bool c)) R2) : WE X P (.Compare a [.Eq] [b] pos) R Q :=
  .fit (pe_cmpR (op_eqN (hu_of hr)) pe_m pe_m (nomark _)) (fit_eqNn h)
theorem wt_neNn {k : Nat} {Q : Bool → DS → Prop} (hr : Room k X.A) (h : WE X P a R fun x R1 => stb x fun x => WE X P b R1 fun y R2 => (∃ d, vD R2 x = some d) ∧ gNon R2 x y fun c => Q (!c) R2) : WT X P (.Compare a [.NotEq] [b] pos) R Q :=
  .fit (pt_cmpR (op_neN (hu_of hr)) pe_m pe_m (nomark _)) (fit_neNn (Q := fun x R1 => asB x fun c => Q c R1) h)
end
end Dl
namespace Dl
open PySem PySem.Spec PyProof.Rows L2
section
variable {X : Cx} {P : List Nat} {R : DS} {a b c e : Expr} {pos : Pos} {Q : SV → DS → Prop}
/-! is None, is True -/
theorem dq_isN {K : PySem.W.Frag} {H : Hp} {v : V} {d : D} (h : Dq K H v d) : decide (v = .non) = isN d := by
  cases h <;> simp [isN]
def gIsN (R2 : DS) (x y : SV) (k : Bool → Prop) : Prop := ∃ d, vD R2 x = some d ∧ y = .d .none ∧ k (isN d)
theorem fit_isN (h : WE X P a R fun x R1 => stb x fun x => WE X P b R1 fun y R2 => (∃ d, vD R2 x = some d) ∧ gIsN R2 x y fun c => Q (.d (.bool c)) R2) : Fits X P R (tOp (fun x y H Q => y = V.non ∧ Q (.bl (decide (x = V.non))) H) (TEm X a) (TEm X b)) Q :=
  two h fun F σ Hd H x y R2 v u Z w r1 r2 g k => by
    obtain ⟨d, h1, rfl, q⟩ := g
    cases (show Dq _ _ u .none from r2)
    refine ⟨rfl, ?_⟩
    rw [dq_isN (Rp.dat w r1 h1)]
    exact k _ _ (.here w (show Rp _ _ _ _ _ _ (.d (.bool _)) _ from .bl _) q)
theorem fit_notN (h : WE X P a R fun x R1 => stb x fun x => WE X P b R1 fun y R2 => (∃ d, vD R2 x = some d) ∧ gIsN R2 x y fun c => Q (.d (.bool (!c))) R2) : Fits X P R (tOp (fun x y H Q => y = V.non ∧ Q (.bl (!decide (x = V.non))) H) (TEm X a) (TEm X b)) Q :=
  two h fun F σ Hd H x y R2 v u Z w r1 r2 g k => by
    obtain ⟨d, h1, rfl, q⟩ := g
    cases (show Dq _ _ u .none from r2)
    refine ⟨rfl, ?_⟩
    rw [dq_isN (Rp.dat w r1 h1)]
    exact k _ _ (.here w (show Rp _ _ _ _ _ _ (.d (.bool _)) _ from .bl _) q)
theorem we_isN (h : WE X P a R fun x R1 => stb x fun x => WE X P b R1 fun y R2 => (∃ d, vD R2 x = some d) ∧ gIsN R2 x y fun c => Q (.d (.bool c)) R2) : WE X P (.Compare a [.Is] [b] pos) R Q :=
  .fit (pe_cmpR op_isN pe_m pe_m (nomark _)) (fit_isN h)
theorem wt_isN {Q : Bool → DS → Prop} (h : WE X P a R fun x R1 => stb x fun x => WE X P b R1 fun y R2 => (∃ d, vD R2 x = some d) ∧ gIsN R2 x y fun c => Q c R2) : WT X P (.Compare a [.Is] [b] pos) R Q :=
  .fit (pt_cmpR op_isN pe_m pe_m (nomark _)) (fit_isN (Q := fun x R1 => asB x fun c => Q c R1) h)
theorem we_notN (h : WE X P a R fun x R1 => stb x fun x => WE X P b R1 fun y R2 => (∃ d, vD R2 x = some d) ∧ gIsN R2 x y fun c => Q (.d (.bool (!c))) R2) : WE X P (.Compare a [.IsNot] [b] pos) R Q :=
  .fit (pe_cmpR op_notN pe_m pe_m (nomark _)) (fit_notN h)
theorem wt_notN {Q : Bool → DS → Prop} (h : WE X P a R fun x R1 => stb x fun x => WE X P b R1 fun y R2 => (∃ d, vD R2 x = some d) ∧ gIsN R2 x y fun c => Q (!c) R2) : WT X P (.Compare a [.IsNot] [b] pos) R Q :=
  .fit (pt_cmpR op_notN pe_m pe_m (nomark _)) (fit_notN (Q := fun x R1 => asB x fun c => Q c R1) h)
def isBo (d : D) (b : Bool) : Bool := match d with | .bool c => decide (c = b) | _ => false
theorem dq_isB {K : PySem.W.Frag} {H : Hp} {v : V} {d : D} {b : Bool} (h : Dq K H v d) : decide (v = .bl b) = isBo d b := by
  cases h <;> simp [isBo]
theorem op_isX : OpR X (compareOp .Is) (fun x y H Q => ∃ b : Bool, y = V.bl b ∧ Q (.bl (decide (x = V.bl b))) H) := by
  intro pins s σ H x y v u Q I rx ry h
  obtain ⟨b, rfl, q⟩ := h
  cases (show u = Value.bool b from ry)
  have no : ∀ {v : Value}, plainIs v (.bool b) = true → v ≠ .bool b → x ≠ V.bl b → wpAny (model X.prog X.w) X.A (compareOp .Is v (.bool b)) (EP X pins σ Q) X.xe s := fun hp hn hx => by
    rw [decide_eq_false hx] at q
    exact wpAny_is_other hp hn ⟨.bl false, H, I, rfl, q⟩
  cases x with
  | bl k =>
    cases (show v = Value.bool k from rx)
    by_cases e : k = b
    · subst e
      rw [decide_eq_true rfl] at q
      exact wpAny_is_self rfl ⟨.bl true, H, I, rfl, q⟩
    · exact no rfl (fun z => e (Value.bool.inj z)) (fun z => e (V.bl.inj z))
  | ref l => cases rx; exact no rfl nofun nofun
  | non => cases rx; exact no rfl nofun nofun
  | int i => obtain ⟨t, rfl⟩ := rx; exact no rfl nofun nofun
  | str z => obtain ⟨t, rfl⟩ := rx; exact no rfl nofun nofun
  | byt z => obtain ⟨t, rfl⟩ := rx; exact no rfl nofun nofun
  | flt z => obtain ⟨t, rfl⟩ := rx; exact no rfl nofun nofun
  | ty n => cases rx; exact no rfl nofun nofun
def gIsB (R2 : DS) (x y : SV) (k : Bool → Prop) : Prop := ∃ d b, vD R2 x = some d ∧ y = .d (.bool b) ∧ k (isBo d b)
theorem we_isX (h : WE X P a R fun x R1 => stb x fun x => WE X P b R1 fun y R2 => (∃ d, vD R2 x = some d) ∧ gIsB R2 x y fun c => Q (.d (.bool c)) R2) : WE X P (.Compare a [.Is] [b] pos) R Q :=
  .fit (pe_cmpR op_isX pe_m pe_m (nomark _)) (two h fun F σ Hd H x y R2 v u Z w r1 r2 g k => by
    obtain ⟨d, b, h1, rfl, q⟩ := g
    cases (show Dq _ _ u (.bool b) from r2)
    refine ⟨b, rfl, ?_⟩
    rw [dq_isB (Rp.dat w r1 h1)]
    exact k _ _ (.here w (show Rp _ _ _ _ _ _ (.d (.bool _)) _ from .bl _) q))
/-! {} as data -/
theorem we_dictD (q : Q (.d (.dict [])) R) : WE X P (.Dict [] [] pos) R Q := .of pe_dnewK fun F σ Hd H w p hp => by
  obtain ⟨w2, s2⟩ := w.allocD (o := .dK []) hp
  exact .same s2 (.here w2 (show Rp _ _ _ _ _ _ (.d (.dict [])) _ from Dq.dct0 upd_same) q)
/-! a <= b <= c of texts -/
def leS (x y : Str) : Bool := !decide (y.cps.toList < x.cps.toList)
theorem we_chainS (h : WE X P a R fun x R1 => asS x fun i => WE X P b R1 fun y R2 => asS y fun j => (leS i j = true → WE X P c R2 fun z R3 => asS z fun l => Q (.d (.bool (leS j l))) R3) ∧ (leS i j = false → Q (.d (.bool false)) R2))
    (hm : lastMarks [.LtE, .LtE] [b, c] = false := by rfl) : WE X P (.Compare a [.LtE, .LtE] [b, c] pos) R Q :=
  .of (pe_chain op_le_str op_le_str pe_m pe_m pe_m hm) fun F σ Hd H w => h.use w fun Hd1 R1 x v H1 e1 w1 r1 q1 => by
    obtain ⟨i, rfl, q1⟩ := q1.elim
    cases (show Dq _ _ v (.str i) from r1)
    exact q1.use w1 fun Hd2 R2 y u H2 e2 w2 r2 q2 => by
      obtain ⟨j, rfl, h1, h2⟩ := q2.elim
      cases (show Dq _ _ u (.str j) from r2)
      refine ⟨i, j, rfl, rfl, leS i j, rfl, ?_⟩
      cases z : leS i j with
      | true =>
        exact iteT ((h1 z).use w2 fun Hd3 R3 y u H3 e3 w3 r3 q3 => by
          obtain ⟨l, rfl, q⟩ := q3.elim
          cases (show Dq _ _ u (.str l) from r3)
          exact ⟨j, l, rfl, rfl, .same (e1.trans (e2.trans e3)) (.here w3 (show Rp _ _ _ _ _ _ (.d (.bool (leS j l))) _ from .bl _) q)⟩)
      | false =>
        exact iteF (.same (e1.trans e2) (.here w2 (show Rp _ _ _ _ _ _ (.d (.bool false)) _ from .bl _) (h2 z)))
/-! a text in a row of texts -/
theorem inV_strs (x : Str) : ∀ xs : List Str, inV (.str x) (xs.map V.str) = decide (x ∈ xs)
  | [] => rfl
  | y :: r => by
    have ih := inV_strs x r
    show ((eqV (.str y) (.str x)) || inV (.str x) (r.map V.str)) = _
    rw [ih]
    have e : eqV (.str y) (.str x) = decide (y = x) := rfl
    rw [e]
    by_cases h : y = x
    · subst h
      simp
    · have h' : ¬ x = y := fun z => h z.symm
      simp [h, h']
theorem flat_strs : ∀ xs : List Str, (xs.map V.str).all flatV = true
  | [] => rfl
  | x :: r => by
    rw [List.map_cons, List.all_cons, flat_strs r]
    rfl
theorem dpAllStrs {K : PySem.W.Frag} {H : Hp} : ∀ {ns : List Str} {vs : List V}, DqAll K H vs (ns.map PyData.str) → vs = ns.map V.str
  | [], _, .nil => rfl
  | n :: r, _, .cons h t => by
    cases h
    rw [dpAllStrs t]
    rfl
def gInS (R2 : DS) (x y : SV) (k : Bool → Prop) : Prop := ∃ (z : Str) (zs : List Str), x = .d (.str z) ∧ vS R2 y = some (zs.map PyData.str) ∧ k (decide (z ∈ zs))
theorem we_inS (hm : behindInMarks .In b = false) (h : WE X P a R fun x R1 => stb x fun x => WE X P b R1 fun y R2 => (∃ d, vD R2 x = some d) ∧ gInS R2 x y fun c => Q (.d (.bool c)) R2) : WE X P (.Compare a [.In] [b] pos) R Q :=
  .fit (pe_cmpR op_in_seq pe_m pe_m hm) (two h fun F σ Hd H x y R2 v u Z w r1 r2 g k => by
    obtain ⟨z, zs, rfl, h1, q⟩ := g
    obtain ⟨p, vs, rfl, hl, hv⟩ := Rp.seq w r2 h1
    cases dpAllStrs hv
    cases (show Dq _ _ v (.str z) from r1)
    refine ⟨p, _, rfl, hl, rfl, flat_strs zs, ?_⟩
    show Z (.bl (inV (.str z) (zs.map V.str))) H
    rw [inV_strs]
    exact k _ _ (.here w (show Rp _ _ _ _ _ _ (.d (.bool _)) _ from .bl _) q))
theorem wt_notInS {Q : Bool → DS → Prop} (hm : behindInMarks .NotIn b = false) (h : WE X P a R fun x R1 => stb x fun x => WE X P b R1 fun y R2 => (∃ d, vD R2 x = some d) ∧ gInS R2 x y fun c => Q (!c) R2) : WT X P (.Compare a [.NotIn] [b] pos) R Q :=
  .fit (pt_cmpR op_notIn_seq pe_m pe_m hm) (two (Q := fun x R1 => asB x fun c => Q c R1) h fun F σ Hd H x y R2 v u Z w r1 r2 g k => by
    obtain ⟨z, zs, rfl, h1, q⟩ := g
    obtain ⟨p, vs, rfl, hl, hv⟩ := Rp.seq w r2 h1
    cases dpAllStrs hv
    cases (show Dq _ _ v (.str z) from r1)
    refine ⟨p, _, rfl, hl, rfl, flat_strs zs, ?_⟩
    show Z (.bl (!inV (.str z) (zs.map V.str))) H
    rw [inV_strs]
    exact k _ _ (.here w (show Rp _ _ _ _ _ _ (.d (.bool _)) _ from .bl _) q))
/-! list(text) -/
def sgn (x : Str) : List Str := x.cps.toList.map fun n => ⟨#[n]⟩
theorem call_listStr (hc : X.calm = true) : CallR X (.type "list") (fun xs H Q => ∃ x, xs = [V.str x] ∧ x.cps.size ≤ sizeLine ∧ ∀ l, H l = none → Q (.ref l) (upd H l (.lst ((sgn x).map V.str)))) := by
  intro pins s σ H xs us Q I r h
  obtain ⟨x, rfl, hz, q⟩ := h
  obtain ⟨u, rfl, rx⟩ := Vals.one r
  obtain ⟨t, rfl⟩ := rx
  refine call_list_str (I.ok.hd hc) x t (fun h' tk acc c' hk hS hacc => ?_) hz
  have hv : Vals ((sgn x).map V.str) acc.toList := by
    have key : ∀ (cs : List Nat) (us : List Value), us.length = cs.length → (∀ (j : Nat) (v : Value), us[j]? = some v → ∃ c u, cs[j]? = some c ∧ v = Value.str ⟨#[c]⟩ u) → Vals ((cs.map fun n => (⟨#[n]⟩ : Str)).map V.str) us := by
      intro cs
      induction cs with
      | nil =>
        intro us hl _
        rw [List.eq_nil_of_length_eq_zero hl]
        exact .nil
      | cons n cs ih =>
        intro us hl hv
        cases us with
        | nil => cases hl
        | cons v us =>
          refine .cons ?_ (ih us (by simpa using hl) fun j z e => by simpa using hv (j + 1) z (by simpa using e))
          obtain ⟨c, u, e1, e2⟩ := hv 0 v rfl
          cases e1
          exact ⟨u, e2⟩
    refine key _ _ (by simp [hacc.1]) fun j v e => ?_
    obtain ⟨c, u, e1, e2⟩ := hacc.2 j v (by simpa using e)
    exact ⟨c, u, by simpa using e1, e2⟩
  have hlen : ((sgn x).map V.str).length ≤ sizeLine := by simpa [sgn] using hz
  exact ⟨.ref s.heap.objs.size, _, I.laid (t' := tk) hk (Nat.le_refl _) (show ObjOk X.prog X.w _ h' _ (.lst _) from ⟨hlen, acc.toList, c', hv, by simpa using hS⟩), rfl, q _ (I.hok.fresh (Nat.le_refl _))⟩
theorem we_listS {p : Pos} (hc : X.calm = true) (hm : X.mg "list" = none) (hg : Gl X "list") (h : WE X P a R fun x R1 => asS x fun z => z.cps.size ≤ sizeLine ∧ Q (.own (.lst ((sgn z).map PyData.str))) R1)
    (he : starEach [a] X.env = (false, eval a X.env) :: starEach [] X.env := by rfl) (hpl : (backTo pos (starEach [] X.env)).any (·.1) = false := by rfl) : WE X P (.Call (.Name "list" p) [a] [] pos) R Q :=
  callT1 (call_listStr hc) hg hm (by decide +kernel) h (fun F σ Hd H sv R1 v Z w r g k => by
    obtain ⟨z, rfl, hz, q⟩ := g.elim
    cases (show Dq _ _ v (.str z) from r)
    have hv : ∀ zs : List Str, DqAll X.K Hd (zs.map V.str) (zs.map PyData.str) := fun zs => by
      induction zs with
      | nil => exact .nil
      | cons y r ih => exact .cons (.str y) ih
    exact ⟨z, rfl, hz, fun l hl => k _ _ (.here (w.allocH hl) (ownNew w hl (crL (hv (sgn z)))) q)⟩) (he := he) (hpl := hpl)
end
end Dl
namespace Dl
open PySem PySem.Spec PyProof.Rows L2
section
variable {X : Cx} {P : List Nat} {R : DS} {a b c e it tg elt : Expr} {scope : Scope} {pos : Pos} {Q : SV → DS → Prop}
/-! a comprehension over a text -/
theorem sgn_get {z : Str} {i : Nat} {ch : Nat} (h : z.cps[i]? = some ch) : ((sgn z).map PyData.str)[i]? = some (.str ⟨#[ch]⟩) := by
  unfold sgn
  rw [List.getElem?_map, List.getElem?_map, Array.getElem?_toList, h]
  rfl
theorem sgn_len (z : Str) : ((sgn z).map PyData.str).length = z.cps.size := by simp [sgn]
theorem lcS_core {tt : TT} {vs : List Nat} {Tn : (Nat → List D → DS → Prop) → Nat → List D → D → DS → Prop} {G : (List D → DS → Prop)}
    (turn : ∀ (F : Fr) (σ : L2.St) (Hd1 : Hp) (Dl : Addr) (I : Nat → List D → DS → Prop) (i : Nat) (x : V) (H : Hp), F.Hf Dl = none → ¬ F.Fz Dl → i < sizeLine → Lp X.K F P (wipe σ vs) Hd1 I Dl i H →
      (∀ Hd' R' acc, Same Hd1 Hd' → I i acc R' → ∃ d, Dq X.K Hd' x d ∧ Tn I i acc d R') → gB X scope tg x (wipe σ vs) H fun σ2 H2 => wipe σ2 vs = wipe σ vs ∧ tt σ2 H2 (Nxt X scope elt F P (wipe σ vs) Hd1 I Dl i σ2))
    (hvs : ∀ v ∈ vs, v ∉ P)
    (hG : ∀ xs R1, G xs R1 → xs.length ≤ sizeLine ∧ ∃ I : Nat → List D → DS → Prop, I 0 [] (wipeR R1 vs) ∧ (∀ i x acc R', xs[i]? = some x → I i acc R' → Tn I i acc x R') ∧ ∀ acc R', I xs.length acc R' → Q (.own (.lst acc)) R')
    (h : WE X P it R fun sv R1 => asS sv fun z => G ((sgn z).map PyData.str) R1) : Fits X P R (tLc (iStr (TEm X it)) (gB X scope tg) tt (teB X scope elt) vs) Q :=
  fun F σ Hd H w Z hZ => h.use w fun Hd1 R1 sv v H1 e1 w1 r1 q1 => by
    obtain ⟨z, rfl, g⟩ := q1.elim
    cases (show Dq _ _ v (.str z) from r1)
    obtain ⟨hl, I, i0, step, fin⟩ := hG _ R1 g
    rw [sgn_len] at hl fin
    refine ⟨z, rfl, fun Dl hD => ?_⟩
    obtain ⟨l0, hf, hz⟩ := lp_start (vs := vs) w1 hD hvs i0
    refine lc_it walk_str (Lp X.K F P (wipe σ vs) Hd1 I Dl) l0 (fun _ _ _ _ => trivial) (fun i x H H' hi hL hY => ?_) (fun H' hL => hZ _ _ (.same e1 (lp_end hf hL fin)))
    obtain ⟨rfl, ch, hch, rfl⟩ := hY
    exact turn F σ Hd1 Dl I i _ H' hf hz (by omega) hL fun Hd' R' acc e' hI => ⟨_, .str _, step i _ acc R' (sgn_get hch) hI⟩
theorem we_lcS0 (own : List (Str × Nat)) (js : List Nat) (hc : X.calm = true) (hN : X.N.Nodup) (ok : BlkOk X.N X.env.scope scope own) (hvs : ∀ v ∈ own.map (·.2), v ∉ P) (hj : ∀ j ∈ js, j ∈ own.map (·.2))
    (h : WE X P it R fun sv R1 => asS sv fun z => LcG Q (Tn0 X P scope tg elt js (own.map (·.2))) (own.map (·.2)) ((sgn z).map PyData.str) R1) (hs : ∀ x, foldedSetIterable it X.env x = pure x := by intro _; rfl) : WE X P (.ListComp elt [⟨tg, it, [], 0⟩] scope pos) R Q :=
  .fit (pe_lc (own := own) hc hN (pi_str pe_m) ok (fun s H C cl fp => ⟨fun pins s' σ H' v u Z I r h => h s H C cl fp pins s' u I r⟩) (fun _ _ _ _ _ => pts_nil) (fun s H C cl fp => ⟨fun pins s' σ H' Z I h => h s H C cl fp pins s' I⟩) hs)
    (lcS_core (tg := tg) (elt := elt) (scope := scope) (tt := tYes) (Q := Q) (Tn := Tn0 X P scope tg elt js (own.map (·.2))) (fun F σ Hd1 Dl I i x H hf hz hi hL step => lp_turn0 hf hz hvs hj hi hL step) hvs (fun xs R1 g => g.ex) h)
theorem we_lcS1 (own : List (Str × Nat)) (js : List Nat) (hc : X.calm = true) (hN : X.N.Nodup) (ok : BlkOk X.N X.env.scope scope own) (hvs : ∀ v ∈ own.map (·.2), v ∉ P) (hj : ∀ j ∈ js, j ∈ own.map (·.2))
    (h : WE X P it R fun sv R1 => asS sv fun z => LcG Q (Tn1 X P scope tg c elt js (own.map (·.2))) (own.map (·.2)) ((sgn z).map PyData.str) R1) (hs : ∀ x, foldedSetIterable it X.env x = pure x := by intro _; rfl) : WE X P (.ListComp elt [⟨tg, it, [c], 0⟩] scope pos) R Q :=
  .fit (pe_lc (own := own) hc hN (pi_str pe_m) ok (fun s H C cl fp => ⟨fun pins s' σ H' v u Z I r h => h s H C cl fp pins s' u I r⟩) (fun s H C cl fp => pts_one ⟨fun pins s' σ H' Z I h => h s H C cl fp pins s' I⟩) (fun s H C cl fp => ⟨fun pins s' σ H' Z I h => h s H C cl fp pins s' I⟩) hs)
    (lcS_core (tg := tg) (elt := elt) (scope := scope) (tt := ttB X scope c) (Q := Q) (Tn := Tn1 X P scope tg c elt js (own.map (·.2))) (fun F σ Hd1 Dl I i x H hf hz hi hL step => lp_turn1 hf hz hvs hj hi hL step) hvs (fun xs R1 g => g.ex) h)
/-! a text, more than once -/
def repS (x : Str) (n : Nat) : Str := ⟨(List.replicate n x.cps).foldl (· ++ ·) #[]⟩
theorem op_mulS : OpR X (binaryOp .Mult) (fun x y H Q => ∃ (z : Str) (n : Int), x = V.str z ∧ y = V.int n ∧ (2 ≤ n ∧ n ≤ 1000 ∧ z.length ≠ 0 ∧ z.length ≤ 1000 ∧ (repS z n.toNat).length ≤ sizeLine) ∧ Q (.str (repS z n.toNat)) H) := by
  intro pins s σ H x y v u Q I rx ry h
  obtain ⟨z, n, rfl, rfl, ⟨h1, h2, h3, h4, h5⟩, q⟩ := h
  obtain ⟨t, rfl⟩ := rx
  obtain ⟨t', rfl⟩ := ry
  have e1 : (n == 1 || z.length == 0) = false := by
    rw [Bool.or_eq_false_iff, beq_eq_false_iff_ne, beq_eq_false_iff_ne]
    exact ⟨by omega, h3⟩
  refine PySem.P.mul_str (by rw [decide_eq_false (by omega), decide_eq_false (by omega)]; rfl) (fun _ _ => ?_) (fun _ _ => ?_) ?_
  · have hq : (2 ^ 63 - 1) / n ≥ 1000 := by
      have h6 : (1000 : Int) * n ≤ 2 ^ 63 - 1 := by omega
      exact Int.le_ediv_of_mul_le (by omega) h6
    omega
  · have h7 : z.length * n.toNat ≤ 1000 * 1000 := Nat.mul_le_mul h4 (by omega)
    have h8 : (1000 * 1000 : Nat) ≤ sizeLine := by decide
    show decide (z.length * n.toNat > sizeLine) = false
    exact decide_eq_false (by omega)
  · rw [if_neg (by omega), if_neg (by rw [e1]; exact Bool.false_ne_true)]
    exact ⟨h5, .str _, H, I.tok _, ⟨_, rfl⟩, q⟩
theorem we_mulS (h : WE X P a R fun x R1 => asS x fun z => WE X P b R1 fun y R2 => asI y fun n => (2 ≤ n ∧ n ≤ 1000 ∧ z.length ≠ 0 ∧ z.length ≤ 1000 ∧ (repS z n.toNat).length ≤ sizeLine) ∧ Q (.d (.str (repS z n.toNat))) R2) : WE X P (.BinOp a .Mult b pos) R Q :=
  .of (pe_op op_mulS pe_m pe_m) fun F σ Hd H w => h.use w fun Hd1 R1 x v H1 e1 w1 r1 q1 => by
    obtain ⟨z, rfl, q1⟩ := q1.elim
    cases (show Dq _ _ v (.str z) from r1)
    exact q1.use w1 fun Hd2 R2 y u H2 e2 w2 r2 q2 => by
      obtain ⟨n, rfl, g, q⟩ := q2.elim
      cases (show Dq _ _ u (.int n) from r2)
      exact ⟨z, n, rfl, rfl, g, .same (e1.trans e2) (.here w2 (show Rp _ _ _ _ _ _ (.d (.str _)) _ from .str _) q)⟩
end
end Dl
namespace Dl
open PySem PySem.Spec PyProof.Rows L2
section
variable {X : Cx} {P : List Nat} {R : DS} {a b c : Expr} {pos : Pos} {Q : SV → DS → Prop}
/-- a <= b <= c, of ints -/
theorem we_chain (h : WE X P a R fun x R1 => asI x fun i => WE X P b R1 fun y R2 => asI y fun j => (i ≤ j → WE X P c R2 fun z R3 => asI z fun l => Q (.d (.bool (decide (j ≤ l)))) R3) ∧ (¬ i ≤ j → Q (.d (.bool false)) R2))
    (hm : lastMarks [.LtE, .LtE] [b, c] = false := by rfl) : WE X P (.Compare a [.LtE, .LtE] [b, c] pos) R Q :=
  .of (pe_chain op_le op_le pe_m pe_m pe_m hm) fun F σ Hd H w => h.use w fun Hd1 R1 x v H1 e1 w1 r1 q1 => by
    obtain ⟨i, rfl, q1⟩ := q1.elim
    cases (show Dq _ _ v (.int i) from r1)
    exact q1.use w1 fun Hd2 R2 y u H2 e2 w2 r2 q2 => by
      obtain ⟨j, rfl, h1, h2⟩ := q2.elim
      cases (show Dq _ _ u (.int j) from r2)
      refine ⟨i, j, rfl, rfl, decide (i ≤ j), rfl, ?_⟩
      by_cases z : i ≤ j
      · rw [decide_eq_true z]
        exact iteT ((h1 z).use w2 fun Hd3 R3 y u H3 e3 w3 r3 q3 => by
          obtain ⟨l, rfl, q⟩ := q3.elim
          cases (show Dq _ _ u (.int l) from r3)
          exact ⟨j, l, rfl, rfl, .same (e1.trans (e2.trans e3)) (.here w3 (show Rp _ _ _ _ _ _ (.d (.bool (decide (j ≤ l)))) _ from .bl _) q)⟩)
      · rw [decide_eq_false z]
        exact iteF (.same (e1.trans e2) (.here w2 (show Rp _ _ _ _ _ _ (.d (.bool false)) _ from .bl _) (h2 z)))
/-- a module's own int -/
theorem we_glob {x : Str} {i : Int} {u : Value} (hm : X.mg x = some u) (hg : Gl X x) (hr : L2.RelV (.int i) u) (q : Q (.d (.int i)) R) (hd : (x == ("__debug__" : Str)) = false := by decide) : WE X P (.Name x pos) R Q :=
  .of (pe_glob hg hm hr hd) fun F σ Hd H w => .here w (show Rp _ _ _ _ _ _ (.d (.int i)) _ from .int _) q
end

section
variable {X : Cx} {P : List Nat} {R : DS} {a b c : Expr} {pos : Pos} {Q : SV → DS → Prop}
/-- a <= b <= c of ints, as a test -/
theorem wt_chain {Q : Bool → DS → Prop} (h : WE X P a R fun x R1 => asI x fun i => WE X P b R1 fun y R2 => asI y fun j => (i ≤ j → WE X P c R2 fun z R3 => asI z fun l => Q (decide (j ≤ l)) R3) ∧ (¬ i ≤ j → Q false R2))
    (hm : lastMarks [.LtE, .LtE] [b, c] = false := by rfl) : WT X P (.Compare a [.LtE, .LtE] [b, c] pos) R Q :=
  .fit (pt_chain op_le op_le pe_m pe_m pe_m hm) fun F σ Hd H w Z hZ => h.use w fun Hd1 R1 x v H1 e1 w1 r1 q1 => by
    obtain ⟨i, rfl, q1⟩ := q1.elim
    cases (show Dq _ _ v (.int i) from r1)
    exact q1.use w1 fun Hd2 R2 y u H2 e2 w2 r2 q2 => by
      obtain ⟨j, rfl, h1, h2⟩ := q2.elim
      cases (show Dq _ _ u (.int j) from r2)
      refine ⟨i, j, rfl, rfl, decide (i ≤ j), rfl, ?_⟩
      by_cases z : i ≤ j
      · rw [decide_eq_true z]
        exact iteT ((h1 z).use w2 fun Hd3 R3 y u H3 e3 w3 r3 q3 => by
          obtain ⟨l, rfl, q⟩ := q3.elim
          cases (show Dq _ _ u (.int l) from r3)
          exact ⟨j, l, rfl, rfl, hZ _ _ (.same (e1.trans (e2.trans e3)) (.here w3 (show Rp _ _ _ _ _ _ (.d (.bool (decide (j ≤ l)))) _ from .bl _) q))⟩)
      · rw [decide_eq_false z]
        exact iteF (hZ _ _ (.same (e1.trans e2) (.here w2 (show Rp _ _ _ _ _ _ (.d (.bool false)) _ from .bl _) (h2 z))))
theorem we_lenS {p : Pos} (hm : X.mg "len" = none) (hg : Gl X "len") (h : WE X P a R fun x R1 => asS x fun z => z.length ≤ sizeLine ∧ Q (.d (.int (z.length : Int))) R1)
    (he : starEach [a] X.env = (false, eval a X.env) :: starEach [] X.env := by rfl) (hpl : (backTo pos (starEach [] X.env)).any (·.1) = false := by rfl) : WE X P (.Call (.Name "len" p) [a] [] pos) R Q :=
  call1 call_len_str hg hm (by decide +kernel) h (fun F σ Hd H sv R1 v Z w r g k => by
    obtain ⟨z, rfl, hz, q⟩ := g.elim
    cases (show Dq _ _ v (.str z) from r)
    exact ⟨z, rfl, hz, k _ _ (.here w (show Rp _ _ _ _ _ _ (.d (.int _)) _ from .int _) q)⟩) (he := he) (hpl := hpl)
end
section
variable {X : Cx} {P : List Nat} {R0 R1 : DS} {elt tg : Expr} {scope : Scope} {js vs : List Nat} {Q : SV → DS → Prop}
theorem lc_ids {xs : List D} {g : D → D} (R0 : DS) (hR : wipeR R1 vs = R0) (hl : xs.length ≤ sizeLine)
    (turn : ∀ a ∈ xs, AllB X scope fun Y => WG Y P tg js R0 a fun R2 => AllB X scope fun Y => WE Y P elt R2 fun y R4 => asD y fun z => z = g a ∧ wipeR R4 vs = R0) (fin : Q (.own (.lst (xs.map g))) R0) :
    LcG Q (Tn0 X P scope tg elt js vs) vs xs R1 := by
  have h := lc_pure0 (as := xs) (enc := id) (g := g) R0 hR hl turn fin
  rwa [List.map_id] at h
end
/-! what sort of thing it is -/
def isTup : D → Bool | .tuple _ => true | _ => false
def isStr : D → Bool | .str _ => true | _ => false
def isBool : D → Bool | .bool _ => true | _ => false
def isIntB : D → Bool | .int _ => true | .bool _ => true | _ => false
theorem kit_tup (d : D) : kitB (tyN d) "tuple" = some (isTup d) := by cases d <;> rfl
theorem kit_str (d : D) : kitB (tyN d) "str" = some (isStr d) := by cases d <;> rfl
theorem kit_bool (d : D) : kitB (tyN d) "bool" = some (isBool d) := by cases d <;> rfl
theorem kit_int (d : D) : kitB (tyN d) "int" = some (isIntB d) := by cases d <;> rfl
theorem tup_of {d : D} (h : isTup d = true) : ∃ xs, d = .tuple xs := by
  cases d <;> first | exact ⟨_, rfl⟩ | cases h
theorem str_of {d : D} (h : isStr d = true) : ∃ xs, d = .str xs := by
  cases d <;> first | exact ⟨_, rfl⟩ | cases h
end Dl
namespace Dl
open PySem PySem.Spec PyProof.Rows L2
open PySem.SeqAt
section
variable {A : Around} {s : Shared}
/-- a list of any data against [] -/
theorem rc_emp {v y : Value} {xs : List D} {as bs : List Addr} (r1 : Reads s.heap v (.list xs) as) (r2 : Reads s.heap y (.list []) bs) (hu : A.units < cLine) : RcAt A s v y xs.isEmpty := by
  cases r1 with
  | @list l1 o1 v1 n1 xs1 as1 h1 h2 h3 h4 =>
    cases r2 with
    | @list l2 o2 v2 n2 xs2 as2 k1 k2 k3 k4 =>
      have n1' : v1.size = xs.length := by simpa using ReadsAll.length _ _ _ h4
      have n2' : v2.size = 0 := by simpa using ReadsAll.length _ _ _ k4
      cases xs with
      | nil =>
        have := RcAt.lists (A := A) (s := s) (e := fun _ => true) ⟨_, h1, h2, _, h3⟩ ⟨_, k1, k2, _, k3⟩ (by rw [n1', n2']; rfl) hu fun j j1 _ => absurd j1 (by rw [n1']; exact Nat.not_lt_zero _)
        rw [n1'] at this
        exact this
      | cons x r =>
        exact RcAt.lists_lengths (A := A) (s := s) ⟨_, h1, h2, _, h3⟩ ⟨_, k1, k2, _, k3⟩ (by rw [n1', n2']; rfl) hu
end
section
variable {X : Cx} {P : List Nat} {R : DS} {a b e : Expr} {pos : Pos} {Q : SV → DS → Prop}
def rEq0 (K : PySem.W.Frag) : R2 := fun x y H Q => ∃ ds, Dq K H x (.list ds) ∧ Dq K H y (.list []) ∧ Q (.bl ds.isEmpty) H
theorem op_eq0 (hu : X.A.units + 1 < cLine) : OpR X (compareOp .Eq) (rEq0 X.K) := by
  intro pins s σ H x y v u Q I rx ry h
  obtain ⟨ds, hd, he, q⟩ := h
  obtain ⟨as, r1⟩ := dq_reads I _ x v hd rx
  obtain ⟨bs, r2⟩ := dq_reads I _ y u he ry
  exact rc_emp r1 r2 (by omega) _ _ _ _ ⟨.bl _, H, I, rfl, q⟩
def gEmp (R2 : DS) (x y : SV) (k : Bool → Prop) : Prop := ∃ ds, vD R2 x = some (.list ds) ∧ vD R2 y = some (.list []) ∧ k ds.isEmpty
theorem we_eq0 {k : Nat} (hr : Room k X.A) (h : WE X P a R fun x R1 => stb x fun x => WE X P b R1 fun y R2 => (∃ d, vD R2 x = some d) ∧ gEmp R2 x y fun c => Q (.d (.bool c)) R2) : WE X P (.Compare a [.Eq] [b] pos) R Q :=
  .fit (pe_cmpR (op_eq0 (hu_of hr)) pe_m pe_m (nomark _)) (two h fun F σ Hd H x y R2 v u Z w r1 r2 g k => by
    obtain ⟨ds, h1, h2, q⟩ := g
    exact ⟨ds, Rp.dat w r1 h1, Rp.dat w r2 h2, k _ _ (.here w (show Rp _ _ _ _ _ _ (.d (.bool _)) _ from .bl _) q)⟩)
theorem stb_d {x : D} {k : SV → Prop} (h : k (.d x)) : stb (.d x) k := h
theorem stb_o {ds : List D} {k : SV → Prop} (h : k (.d (.list ds))) : stb (.own (.lst ds)) k := h
end
end Dl
namespace Dl
open PySem PySem.Spec PyProof.Rows L2
section
variable {X : Cx} {P : List Nat} {R : DS} {a b c : Expr} {pos : Pos}
/-- a <= b <= c of texts, as a test -/
theorem wt_chainS {Q : Bool → DS → Prop} (h : WE X P a R fun x R1 => asS x fun i => WE X P b R1 fun y R2 => asS y fun j => (leS i j = true → WE X P c R2 fun z R3 => asS z fun l => Q (leS j l) R3) ∧ (leS i j = false → Q false R2))
    (hm : lastMarks [.LtE, .LtE] [b, c] = false := by rfl) : WT X P (.Compare a [.LtE, .LtE] [b, c] pos) R Q :=
  .fit (pt_chain op_le_str op_le_str pe_m pe_m pe_m hm) fun F σ Hd H w Z hZ => h.use w fun Hd1 R1 x v H1 e1 w1 r1 q1 => by
    obtain ⟨i, rfl, q1⟩ := q1.elim
    cases (show Dq _ _ v (.str i) from r1)
    exact q1.use w1 fun Hd2 R2 y u H2 e2 w2 r2 q2 => by
      obtain ⟨j, rfl, h1, h2⟩ := q2.elim
      cases (show Dq _ _ u (.str j) from r2)
      refine ⟨i, j, rfl, rfl, leS i j, rfl, ?_⟩
      cases z : leS i j with
      | true =>
        exact iteT ((h1 z).use w2 fun Hd3 R3 y u H3 e3 w3 r3 q3 => by
          obtain ⟨l, rfl, q⟩ := q3.elim
          cases (show Dq _ _ u (.str l) from r3)
          exact ⟨j, l, rfl, rfl, hZ _ _ (.same (e1.trans (e2.trans e3)) (.here w3 (show Rp _ _ _ _ _ _ (.d (.bool (leS j l))) _ from .bl _) q))⟩)
      | false =>
        exact iteF (hZ _ _ (.same (e1.trans e2) (.here w2 (show Rp _ _ _ _ _ _ (.d (.bool false)) _ from .bl _) (h2 z))))
end
end Dl
/-! t[::-1] of a tuple -/
namespace HT
open PySem PySem.Spec PyProof.Rows
section
variable {prog : Program} {w : World} {A : Around} {E : Value → Shared → Prop} {s : Shared}
theorem sliceApplied_rev {sl : Addr} {n : Nat} {u : Tok} {Q : Int × Int × Nat → Shared → Prop} (hs : s.heap.IsSliceOf sl .none .none (.int (-1) u))
    (h : Q ((n : Int) - 1, -1, n) s) : wpAny (model prog w) A (Builtin.Slice.sliceApplied (.ref sl) (pure (n : Int))) Q E s := by
  obtain ⟨os, hos, hcs, hds⟩ := id hs
  unfold Builtin.Slice.sliceApplied Builtin.Slice.sliceFields
  refine wpAny_bind (wpAny_bind (wpAny_field hos hds (x := .none) rfl (wpAny_bind (wpAny_field hos hds (x := .none) rfl (wpAny_bind (wpAny_field hos hds (x := .int (-1) u) rfl (wpAny_pure ?_)))))))
  refine wpAny_bind (slicePart_int ?_)
  show wpAny _ _ (if ((-1 : Int) == 0) = true then _ else _) _ _ s
  rw [if_neg (by decide)]
  refine wpAny_bind (slicePart_none (wpAny_bind (slicePart_none (wpAny_bind (wpAny_pure ?_)))))
  show wpAny _ _ (pure ((n : Int) - 1, (-1 : Int), Builtin.Slice.slicePlaces ((n : Int) - 1) (-1) (-1))) _ _ s
  have e : Builtin.Slice.slicePlaces ((n : Int) - 1) (-1) (-1) = n := by
    unfold Builtin.Slice.slicePlaces
    have h1 : ¬ ((-1 : Int) > 0) := by decide
    rw [if_neg h1, show (- -1 : Int) = 1 from rfl, Int.ediv_one]
    split <;> omega
  rw [e]
  exact wpAny_pure h
theorem fm_congr {α β : Type} {f g : α → Option β} : ∀ {l : List α}, (∀ x ∈ l, f x = g x) → l.filterMap f = l.filterMap g
  | [], _ => rfl
  | x :: r, h => by
    rw [List.filterMap_cons, List.filterMap_cons, h x List.mem_cons_self, fm_congr fun y hy => h y (List.mem_cons_of_mem _ hy)]
theorem pick_rev (xs : Array Value) : ((List.range xs.size).filterMap fun (m : Nat) => xs[(((xs.size : Int) - 1) + (m : Int) * (-1)).toNat]?).toArray = xs.toList.reverse.toArray := by
  have e : (List.range xs.size).filterMap (fun (m : Nat) => xs[(((xs.size : Int) - 1) + (m : Int) * (-1)).toNat]?) = ((List.range xs.size).map fun k => xs.size - 1 - k).filterMap (xs[·]?) := by
    rw [List.filterMap_map]
    refine fm_congr fun m hm => ?_
    have := List.mem_range.mp hm
    have e2 : (((xs.size : Int) - 1) + (m : Int) * (-1)).toNat = xs.size - 1 - m := by omega
    show xs[_]? = xs[xs.size - 1 - m]?
    rw [e2]
  rw [e, PySem.W.krv_range, List.filterMap_reverse, PySem.W.krv_all]
theorem getItem_tuple_rev {t sl : Addr} {items : Array Value} {u : Tok} {Q : Value → Shared → Prop} (ht : IsTup s.heap t items) (hs : s.heap.IsSliceOf sl .none .none (.int (-1) u))
    (h : Q (.ref s.heap.objs.size) { s with heap := s.heap.push { cls := .type "tuple", data := .seq items.toList.reverse.toArray } })
    (hsz : items.size ≤ sizeLine) : wpAny (model prog w) A (getItem (.ref t) (.ref sl)) Q E s := by
  have htake : sizeOk (.seq items.toList.reverse.toArray) := by
    show items.toList.reverse.toArray.size ≤ sizeLine
    rw [List.size_toArray, List.length_reverse, Array.length_toList]
    exact hsz
  obtain ⟨os, hos, hcs, hds⟩ := id hs
  have hTs : s.TypeIs (.ref sl) "slice" := ⟨os, hos, hcs⟩
  unfold getItem
  try with_reducible refine wpAny_holding ?_
  first | refine wpAny_bind (wpAny_pure ?_) | skip
  refine wpAny_bind (wpAny_sequenceKey ht.typeIs (by decide) ?_)
  refine wpAny_bind (wpAny_callSpecial?_slot (name := Str.ofString "__getitem__") ht.typeIs PyProof.Rows.slot_tuple_getitem
    (wpAny_call_entry PyProof.Rows.slot_tuple_getitem ht.typeIs entry_tuple_getitem ?_ (args_tuple_getitem _ _)))
  show wpAny _ _ (Builtin.Tuple.tupleItemsOf (.ref t) >>= _) _ _ s
  refine wpAny_bind (tupleItemsOf_ ht ?_)
  refine wpAny_bind (wpAny_typeOf hTs ?_)
  rw [if_pos (by decide)]
  refine wpAny_bind (sliceApplied_rev hs ?_)
  have hno : ¬ ((((items.size : Int) - 1) == 0 && ((-1 : Int)) == 1 && items.size == items.size) = true) := by
    intro q
    rw [Bool.and_eq_true, Bool.and_eq_true] at q
    exact absurd q.1.2 (by decide)
  show wpAny _ _ (if (((items.size : Int) - 1) == 0 && ((-1 : Int)) == 1 && items.size == items.size) = true then _ else _) _ _ s
  rw [if_neg hno, pick_rev]
  first
    | exact wpAny_bind (m := Builtin.Tuple.tupleExact _) (wpAny_newObj_type (wpAny_pure ⟨_, rfl, wpAny_pure h⟩) htake)
    | exact wpAny_bind (m := Builtin.Tuple.tupleExact _) (wpAny_newObj_type (wpAny_bind (wpAny_pure (wpAny_pure ⟨_, rfl, wpAny_pure h⟩))) htake)
    | exact wpAny_bind (wpAny_bind (m := Builtin.Tuple.tupleExact _) (wpAny_newObj_type (wpAny_pure (wpAny_pure ⟨_, rfl, wpAny_pure h⟩)) htake))
    | exact wpAny_bind (wpAny_bind (m := Builtin.Tuple.tupleExact _) (wpAny_newObj_type (wpAny_pure ⟨_, rfl, wpAny_pure h⟩) htake))
end
end HT
namespace Dl
open PySem PySem.Spec PyProof.Rows L2
theorem Vals_rev : ∀ {xs : List V} {us : List Value}, Vals xs us → Vals xs.reverse us.reverse
  | _, _, .nil => .nil
  | _, _, .cons r t => by
    rw [List.reverse_cons, List.reverse_cons]
    exact Vals.append (Vals_rev t) (.cons r .nil)
theorem dpAllRev {K : PySem.W.Frag} {H : Hp} : ∀ {vs : List V} {xs : List D}, DqAll K H vs xs → DqAll K H vs.reverse xs.reverse
  | _, _, .nil => .nil
  | _, _, .cons h t => by
    rw [List.reverse_cons, List.reverse_cons]
    exact dpAllApp (dpAllRev t) (.cons h .nil)
section
variable {X : Cx} {P : List Nat} {R : DS} {a b c e k : Expr} {pos p2 : Pos} {Q : SV → DS → Prop} {te tk : TE}
def rRevT (K : PySem.W.Frag) : V → Hp → VK → Prop := fun x H Q => ∃ t xs, x = .ref t ∧ SqT K H t xs ∧ ∀ p, H p = none → Q (.ref p) (upd H p (.tup xs.reverse))
theorem pe_rev (he : PE X e te) (hk : PE X k tk) : PE X (.Subscript e (.Slice none none (some k) p2) pos) (fun σ H Q => te σ H fun x H1 => tk σ H1 fun y H2 => y = .int (-1) ∧ rRevT X.K x H2 Q) := by
  refine ⟨fun pins s σ H Q I h => ?_⟩
  refine Subscript_ (thn (he.run pins s σ H _ I h) fun v s1 ⟨x, H1, I1, r1, q1⟩ => ?_)
  refine wpAny_Slice ?_
  rw [evalPart_none]
  refine wpAny_pure ?_
  refine wpAny_pure ?_
  rw [evalPart_some]
  refine thn (hk.run pins s1 σ H1 _ I1 q1) fun u s3 ⟨y, H3, I3, r3, q3⟩ => ?_
  obtain ⟨rfl, t, xs, rfl, hx, q⟩ := q3
  obtain ⟨tk, rfl⟩ := r3
  cases r1
  have I4 : Inv X pins σ H3 { s3 with heap := s3.heap.push { cls := .type "slice", data := .fields #[.none, .none, .int (-1) tk] } } := I3.kept (t' := s3.toks) fun b ob q => Heap.get?_push_of_some _ q
  show wpAny (model X.prog X.w) X.A (subscriptTail e (.Slice none none (some k) p2) (.ref t) (.ref s3.heap.objs.size)) (EP X pins σ Q) X.xe { s3 with heap := s3.heap.push { cls := .type "slice", data := .fields #[.none, .none, .int (-1) tk] } }
  obtain ⟨its, r, ht, hz⟩ := I4.tuple hx
  have hlen : its.toArray.size = xs.length := by rw [List.size_toArray]; exact r.length.symm
  refine tail_any (ops := [.ref t, .ref s3.heap.objs.size]) ht.typeIs PyProof.Rows.slot_tuple_getitem.lookup ?_ (by with_unfolding_all rfl)
  refine HT.getItem_tuple_rev ht (Heap.IsSliceOf.new ..) ?_ (by rw [hlen]; exact hz)
  refine ⟨.ref _, _, I4.laid (t' := s3.toks) (o := .tup xs.reverse) (fun b ob q => Heap.get?_push_of_some _ q) (Nat.le_refl _) ?_, rfl, q _ (I4.hok.fresh (Nat.le_refl _))⟩
  refine ⟨by rw [List.length_reverse]; exact hz, _, Vals_rev r, ?_⟩
  exact IsTup.new _ _
theorem we_revT (h : WE X P a R fun x R1 => ∃ ds, x = .d (.tuple ds) ∧ WE X P k R1 fun y R2 => y = .d (.int (-1)) ∧ Q (.d (.tuple ds.reverse)) R2) : WE X P (.Subscript a (.Slice none none (some k) p2) pos) R Q :=
  .of (pe_rev pe_m pe_m) fun F σ Hd H w => h.use w fun Hd1 R1 x v H1 e1 w1 r1 q1 => by
    obtain ⟨ds, rfl, q1⟩ := q1
    have r1' : Dq X.K Hd1 v (.tuple ds) := r1
    cases r1' with
    | tup hS hv =>
      rename_i t vs
      exact q1.use w1 fun Hd2 R2 y u H2 e2 w2 r2 q2 => by
        obtain ⟨rfl, q⟩ := q2
        cases (show Dq _ _ u (.int (-1)) from r2)
        refine ⟨rfl, t, vs, rfl, sameT w2.dat (SqT.of (e2 _ _ hS)), fun p hp => ?_⟩
        obtain ⟨w3, s3⟩ := w2.allocD (o := .tup vs.reverse) hp
        exact .same (e1.trans (e2.trans s3)) (.here w3 (show Rp _ _ _ _ _ _ (.d (.tuple ds.reverse)) _ from Dq.tup upd_same (dpAllRev (dpAllMono (e2.trans s3) hv))) q)
end
end Dl
/-! t * 0 of a tuple -/
namespace L2
open PySem PySem.Spec PyProof.Rows
set_option maxHeartbeats 4000000 in
theorem tuple_mul0 (l : Addr) (items : Array Value) (n : Nat) (dd : Option Addr) (sl : Array (Option Value)) (u : Tok) (c1 : (items.isEmpty || (0 : Int) == 1) = false) :
    Meets (Builtin.«tuple.__mul__» ⟨[.ref l, .int 0 u], []⟩) (fun _ R s => s.heap.get? l = some { cls := .type "tuple", dict := dd, data := .seq items n, slots := sl } ∧
      R (.ok (.ret (Value.ref s.heap.objs.size))) { s with heap := s.heap.push { cls := Value.type "tuple", data := Data.seq #[] }, toks := s.toks }) :=
  .of_wp fun prog w A R s h => by
    obtain ⟨hp, g, d, tk, os⟩ := s
    obtain ⟨hl, h⟩ := h
    have f1 := AutoSeq1.idx_int
    wp_walk using wpAny_loadPart' hl
    repeat (first
      | (refine wpAny_ite_false (decide_eq_false (by decide)) ?_; wp_walk using wpAny_loadPart' hl)
      | (refine wpAny_ite_false (decide_eq_false (by rw [c1]; exact Bool.false_ne_true)) ?_; wp_walk using wpAny_loadPart' hl)
      | (refine wpAny_ite_true (decide_eq_true (by rfl)) ?_; wp_walk using wpAny_loadPart' hl)
      | (refine wpAny_ite_true (by rfl) ?_; wp_walk using wpAny_loadPart' hl))
    exact ⟨_, rfl, h⟩
def rRep0 (K : PySem.W.Frag) : R2 := fun x y H Q => ∃ l xs, x = .ref l ∧ y = .int 0 ∧ SqT K H l xs ∧ xs ≠ [] ∧ ∀ p, H p = none → Q (.ref p) (upd H p (.tup []))
section
variable {X : Cx}
theorem op_rep0 : OpR X (binaryOp .Mult) (rRep0 X.K) := by
  intro pins s σ H x y v u Q I rx ry h
  obtain ⟨l, xs, rfl, rfl, hT, hne, q⟩ := h
  cases rx
  obtain ⟨t, rfl⟩ := ry
  obtain ⟨its, r, ⟨⟨cls, dd, data, sl⟩, ho, hc, n, hd⟩, hs⟩ := I.tuple hT
  simp only at hc hd
  subst hc hd
  have hle : its.length = xs.length := r.length.symm
  have hn : its ≠ [] := fun e => hne (by
    rw [e] at hle
    exact List.eq_nil_of_length_eq_zero hle.symm)
  have hi : its.toArray.isEmpty = false := by
    cases its with
    | nil => exact absurd rfl hn
    | cons a b => rfl
  have c1 : (its.toArray.isEmpty || (0 : Int) == 1) = false := by
    rw [hi]
    rfl
  refine wpAny_binaryOp_repeat_ref (T := "tuple") (U := "int") (by decide) ⟨_, ho, rfl⟩ (fun s' => typeIs_int s' 0 t) noFill_tuple_mul F.fills_int_mul F.slot_int_rmul repeat_tuple F.slot_int_index.lookup
    (call_meets F.slot_int_rmul (typeIs_int s 0 t) F.entry_int_rmul (F.args_int_rmul_2 _ _) (int_rmul_tuple 0 t l its.toArray n dd sl)
      ⟨ho, rfl, ⟨_, ho, rfl⟩, call_meets F.slot_tuple_mul ⟨_, ho, rfl⟩ F.entry_tuple_mul (F.args_tuple_mul_2 _ _) (tuple_mul0 l its.toArray n dd sl t c1) ⟨ho, ?_⟩⟩)
  refine ⟨.ref s.heap.objs.size, _, I.laid (t' := s.toks) (o := .tup []) (fun b ob q => Heap.get?_push_of_some _ q) (Nat.le_refl _) ?_, rfl, q _ (I.hok.fresh (Nat.le_refl _))⟩
  exact ⟨Nat.zero_le _, [], .nil, IsTup.new _ _⟩
end
end L2
namespace Dl
open PySem PySem.Spec PyProof.Rows L2
section
variable {X : Cx} {P : List Nat} {R : DS} {a b c e k o : Expr} {pos p2 : Pos} {Q : SV → DS → Prop}
/-- (..,) * n, n 0 or 1 -/
theorem we_mul01 (h : WE X P a R fun x R1 => ∃ ds, x = .d (.tuple ds) ∧ WE X P b R1 fun y R2 => asI y fun k => (ds ≠ [] ∧ (k = 0 ∨ k = 1)) ∧ Q (.d (.tuple (if k = 0 then [] else ds))) R2) : WE X P (.BinOp a .Mult b pos) R Q :=
  .of (pe_op (op_rep0.or op_once) pe_m pe_m) fun F σ Hd H w => h.use w fun Hd1 R1 x v H1 e1 w1 r1 q1 => by
    obtain ⟨ds, rfl, q1⟩ := q1
    exact q1.use w1 fun Hd2 R2 y u H2 e2 w2 r2 q2 => by
      obtain ⟨k, rfl, ⟨g1, g2⟩, q⟩ := q2.elim
      cases (show Dq _ _ u (.int k) from r2)
      obtain ⟨l, vs, rfl, _, hT, hv⟩ := Rp.tup (sv := .d (.tuple ds)) w2 (show Rp _ _ _ _ _ _ (.d (.tuple ds)) v from dpMono e2 r1) rfl
      have hne : vs ≠ [] := fun z => g1 (by
        have := dpAllLen hv
        rw [z] at this
        exact List.eq_nil_of_length_eq_zero this.symm)
      rcases g2 with rfl | rfl
      · rw [if_pos rfl] at q
        refine .inl ⟨l, vs, rfl, rfl, hT, hne, fun z hz => ?_⟩
        obtain ⟨w3, s3⟩ := w2.allocD (o := .tup []) hz
        exact .same ((e1.trans e2).trans s3) (.here w3 (show Rp _ _ _ _ _ _ (.d (.tuple [])) _ from Dq.tup upd_same .nil) q)
      · rw [if_neg (by decide)] at q
        exact .inr ⟨l, vs, rfl, rfl, hT, .same (e1.trans e2) (.here w2 (sv := .d (.tuple ds)) (dpMono e2 r1) q)⟩
/-- a text's sign by its place -/
theorem we_ixS (h : WE X P a R fun x R1 => asS x fun z => WE X P b R1 fun y R2 => asI y fun i => ∃ n, z.length ≤ sizeLine ∧ atI z.cps.toList i = some n ∧ Q (.d (.str ⟨#[n]⟩)) R2)
    (hs : PlainIx b := by exact fun _ _ => rfl) : WE X P (.Subscript a b pos) R Q :=
  .of (pe_ix ix_str pe_m pe_m hs) fun F σ Hd H w => h.use w fun Hd1 R1 x v H1 e1 w1 r1 q1 => by
    obtain ⟨z, rfl, q1⟩ := q1.elim
    cases (show Dq _ _ v (.str z) from r1)
    exact q1.use w1 fun Hd2 R2 y u H2 e2 w2 r2 q2 => by
      obtain ⟨i, rfl, n, hz, ha, q⟩ := q2.elim
      cases (show Dq _ _ u (.int i) from r2)
      exact ⟨z, i, n, rfl, rfl, hz, ha, .same (e1.trans e2) (.here w2 (show Rp _ _ _ _ _ _ (.d (.str ⟨#[n]⟩)) _ from .str _) q)⟩
/-- a text's join of a list of texts -/
theorem we_join {apos : Pos} (h : WE X P o R fun x R1 => asS x fun z => WE X P e R1 fun y R2 => stb y fun y => ∃ ys : List Str, vL R2 y = some (ys.map PyData.str) ∧ (ys.map (·.length)).sum + ys.length * z.length ≤ 16777216 ∧ Q (.d (.str (Txt.join z ys))) R2)
    (hs : starEach [e] X.env = [(false, eval e X.env)] := by rfl) (hbase : attributeBase o "join" X.env (eval o X.env) = eval o X.env := by rfl) (hline : (apos.endLine == pos.line) = true := by rfl) :
    WE X P (.Call (.Attribute o "join" apos) [e] [] pos) R Q :=
  .of (pe_join pe_m pe_m hs hbase hline) fun F σ Hd H w => h.use w fun Hd1 R1 x v H1 e1 w1 r1 q1 => by
    obtain ⟨z, rfl, q1⟩ := q1.elim
    cases (show Dq _ _ v (.str z) from r1)
    refine ⟨⟨z, rfl⟩, q1.stb.use w1 fun Hd2 R2 y u H2 e2 w2 r2 q2 => ?_⟩
    obtain ⟨ys, h1, h2, q⟩ := q2.2
    obtain ⟨p, vs, rfl, hl, hv⟩ := Rp.list w2 r2 h1
    cases dpAllStrs hv
    exact ⟨z, p, ys, rfl, rfl, .inl hl, h2, .same (e1.trans e2) (.here w2 (show Rp _ _ _ _ _ _ (.d (.str _)) _ from .str _) q)⟩
/-- one sign not in a text -/
theorem wt_notInG {Q : Bool → DS → Prop} (hm : behindInMarks .NotIn b = false) (h : WE X P a R fun x R1 => asS x fun y => WE X P b R1 fun u R2 => asS u fun z => ∃ n, y = ⟨#[n]⟩ ∧ Q (!decide (n ∈ z.cps.toList)) R2) : WT X P (.Compare a [.NotIn] [b] pos) R Q :=
  .fit (pt_cmpR op_notIn_sign pe_m pe_m hm) fun F σ Hd H w Z hZ => h.use w fun Hd1 R1 x v H1 e1 w1 r1 q1 => by
    obtain ⟨y, rfl, q1⟩ := q1.elim
    cases (show Dq _ _ v (.str y) from r1)
    exact q1.use w1 fun Hd2 R2 y2 u H2 e2 w2 r2 q2 => by
      obtain ⟨z, rfl, n, rfl, q⟩ := q2.elim
      cases (show Dq _ _ u (.str z) from r2)
      exact ⟨n, z, rfl, rfl, hZ _ _ (.same (e1.trans e2) (.here w2 (show Rp _ _ _ _ _ _ (.d (.bool (!decide (n ∈ z.cps.toList)))) _ from .bl _) q))⟩
/-! a dict of texts to ints -/
theorem we_dispI {keys : List (Option Expr)} {values : List Expr} {trs : List (TE × TE)} (kis : List (Str × Int)) (hp : PPs X pos keys values trs) (ht : ∀ (σ : L2.St) (H : Hp) (Z : List (V × V) → Hp → Prop), Z (kis.map fun p => (V.str p.1, V.int p.2)) H → tPairs trs σ H Z)
    (hmg : mergeK [] (kis.map fun p => ((Sum.inr p.1 : Key), V.int p.2)) = kis.map fun p => ((Sum.inr p.1 : Key), V.int p.2)) (hall : keys.all (·.isSome) = true) (hl : keys.length = values.length) (h0 : keys ≠ []) (h15 : keys.length ≤ 15) (hk15 : kis.length ≤ 15)
    (q : Q (.own (.dK (kis.map fun p => ((Sum.inr p.1 : Key), PyData.int p.2)))) R) : WE X P (.Dict keys values pos) R Q :=
  .of (pe_disp hp hall hl h0 h15) fun F σ Hd H w => by
    intro p hpn
    refine ht σ _ _ ⟨upd_same, kis.map fun p => ((Sum.inr p.1 : Key), V.int p.2), ?_, by rw [List.length_map]; exact hk15, ?_⟩
    · rw [List.map_map]
      rfl
    · rw [hmg, upd_upd]
      have hc : ∀ l : List (Str × Int), Paired (fun (p : Key × D) (q : Key × V) => p.1 = q.1 ∧ Dq X.K Hd q.2 p.2) (l.map fun p => ((Sum.inr p.1 : Key), PyData.int p.2)) (l.map fun p => ((Sum.inr p.1 : Key), V.int p.2)) := fun l => by
        induction l with
        | nil => exact .nil
        | cons x r ih => exact .cons ⟨rfl, .int _⟩ ih
      exact .here (w.allocH hpn) (ownNew w hpn (crK (hc kis))) q
theorem valV_of {κ : Type} [DecidableEq κ] {K : PySem.W.Frag} {H : Hp} (k : κ) {d : D} : ∀ {kvs : List (κ × D)} {ws : List (κ × V)}, Paired (fun (p : κ × D) (q : κ × V) => p.1 = q.1 ∧ Dq K H q.2 p.2) kvs ws → (kvs.find? fun kv => decide (kv.1 = k)).map (·.2) = some d → ∃ v, valV ws k = some v ∧ Dq K H v d
  | _, _, .nil, h => by cases h
  | _, _, .cons (a := p) (b := q) g t, h => by
    rw [List.find?_cons] at h
    by_cases e : p.1 = k
    · rw [decide_eq_true e] at h
      cases h
      refine ⟨q.2, ?_, g.2⟩
      unfold valV
      rw [List.find?_cons, decide_eq_true (show q.1 = k from g.1 ▸ e)]
      rfl
    · rw [decide_eq_false e] at h
      obtain ⟨v, h1, h2⟩ := valV_of k t h
      refine ⟨v, ?_, h2⟩
      unfold valV at h1 ⊢
      rw [List.find?_cons, decide_eq_false (show ¬ q.1 = k from fun z => e (g.1.trans z))]
      exact h1
/-- a text not in such a dict -/
theorem wt_notInDS {Q : Bool → DS → Prop} (hu : X.A.units + 1 < cLine) (hm : behindInMarks .NotIn b = false) (h : WE X P a R fun x R1 => asS x fun z => WE X P b R1 fun y R2 => ∃ j kvs, y = .loc j ∧ R2[j]? = some (.own (.dK kvs)) ∧ Q (!hasK kvs (Sum.inr z : Key)) R2) : WT X P (.Compare a [.NotIn] [b] pos) R Q :=
  .of (pt_cmp (pc_dnotin hu pe_m pe_m) hm) fun F σ Hd H w => h.use w fun Hd1 R1 x v H1 e1 w1 r1 q1 => by
    obtain ⟨z, rfl, q1⟩ := q1.elim
    cases (show Dq _ _ v (.str z) from r1)
    exact q1.use w1 fun Hd2 R2 y u H2 e2 w2 r2 q2 => by
      obtain ⟨j, kvs, rfl, hR, q⟩ := q2
      obtain ⟨p, o, s1, hp, ⟨ws, ho, hc⟩, _⟩ := w2.own j _ hR
      subst ho
      have s2 := r2.1
      rw [s1] at s2
      cases s2
      refine ⟨p, _, rfl, DGet.k (k := Sum.inr z) hp, _, rfl, ?_⟩
      rw [hasK_of (fun _ _ h => h.1) _ hc]
      exact ⟨Hd2, R2, e1.trans e2, w2, q⟩
/-- d[k], k a text that is there -/
theorem we_dgetS (hu : X.A.units + 1 < cLine) (h : WE X P a R fun x R1 => ∃ j, x = .loc j ∧ WE X P b R1 fun y R2 => asS y fun z => ∃ kvs d, R2[j]? = some (.own (.dK kvs)) ∧ (kvs.find? fun kv => decide (kv.1 = (Sum.inr z : Key))).map (·.2) = some d ∧ Q (.d d) R2)
    (hs : NoSl b := by exact fun _ _ => rfl) : WE X P (.Subscript a b pos) R Q :=
  .of (pe_dget hu pe_m pe_m hs) fun F σ Hd H w => h.use w fun Hd1 R1 x v H1 e1 w1 r1 q1 => by
    obtain ⟨j, rfl, q1⟩ := q1
    exact q1.use w1 fun Hd2 R2 y u H2 e2 w2 r2 q2 => by
      obtain ⟨z, rfl, kvs, d, hR, hf, q⟩ := q2.elim
      cases (show Dq _ _ u (.str z) from r2)
      obtain ⟨p, o, s1, hp, ⟨ws, ho, hc⟩, _⟩ := w2.own j _ hR
      subst ho
      have s2 := r1.1
      rw [s1] at s2
      cases s2
      obtain ⟨v, hv, hd⟩ := valV_of _ hc hf
      have g := DGet.k (k := (Sum.inr z : Key)) hp
      rw [hv] at g
      exact ⟨p, v, rfl, g, .same (e1.trans e2) (.here w2 (show Rp _ _ _ _ _ _ (.d d) v from dpMono w2.dat hd |> fun _ => hd) q)⟩
end
end Dl
namespace Dl
open PySem PySem.Spec PyProof.Rows L2
/-! calls by keywords alone: data for each -/
structure CanK (Pg : Program) (w : World) (K : PySem.W.Frag) (mg : Str → Option Value) (base : Heap) (k : Nat) (x : Str) (S : SpD) (ks : List Str) (g : {α : Type} → List α → List α) : Prop where
  ex : ∃ f fd ps, FnG Pg w K mg base CX0 k f fd ps (liftS K S) ∧ mg x = some (.ref f) ∧ PySem.W.keepIn K (.ref f) = true ∧ ∀ (s : Shared) (us : List Value), us.length = ks.length → BindsTo s fd ⟨[], ks.zip us⟩ (ps.zip (g us))
  rel : ∀ {α β : Type} {G : α → β → Prop} {xs : List α} {ys : List β}, Paired G xs ys → Paired G (g xs) (g ys)
  mono : ∀ A Z Z', (∀ sv R', Z sv R' → Z' sv R') → S A Z → S A Z'
def TKm (X : Cx) (kws : List Keyword) : TA := fun σ H Q => ∀ (pos : Pos) pins s, Inv X pins σ H s → wpAny (model X.prog X.w) X.A (evalAll ((backToKw pos (keywordEach kws X.env)).map (·.2))) (AP X pins σ Q) X.xe s
theorem pk_m {X : Cx} {kws : List Keyword} : PK X kws (TKm X kws) := ⟨fun pos pins s _ _ _ I h => h pos pins s I⟩
theorem TKm.of {X : Cx} {kws : List Keyword} {t : TA} {σ : L2.St} {H : Hp} {Q : List V → Hp → Prop} (p : PK X kws t) (h : t σ H Q) : TKm X kws σ H Q := fun pos pins s I => p.run pos pins s σ H Q I h
theorem TKm.mono {X : Cx} {kws : List Keyword} {σ : L2.St} {H : Hp} {Q Q' : List V → Hp → Prop} (h : TKm X kws σ H Q) (k : ∀ v H', Q v H' → Q' v H') : TKm X kws σ H Q' := fun pos pins s I =>
  thn (h pos pins s I) fun _ _ ⟨v, H', J, r, q⟩ => ⟨v, H', J, r, k v H' q⟩
structure WK (X : Cx) (P : List Nat) (kws : List Keyword) (R : DS) (Q : List D → DS → Prop) : Prop where
  run : ∀ F σ Hd H, Wd X.K F P R σ Hd H → TKm X kws σ H fun vs H' => ∃ Hd' R' ds, Same Hd Hd' ∧ Wd X.K F P R' σ Hd' H' ∧ DqAll X.K Hd' vs ds ∧ Q ds R'
section
variable {X : Cx} {P : List Nat} {R : DS} {e : Expr} {kws : List Keyword} {pos p kpos : Pos} {nm : Option Str}
theorem wk_nil {Q : List D → DS → Prop} (q : Q [] R) : WK X P [] R Q := ⟨fun F σ Hd H w => TKm.of pk_nil ⟨Hd, R, [], Same.refl _, w, .nil, q⟩⟩
theorem wk_cons {Q : List D → DS → Prop} (h : WE X P e R fun sv R1 => asD sv fun d => WK X P kws R1 fun ds R2 => Q (d :: ds) R2) : WK X P (⟨nm, e, kpos⟩ :: kws) R Q :=
  ⟨fun F σ Hd H w => TKm.of (pk_cons pe_m pk_m) (h.fzD.use w fun Hd1 R1 sv v H1 e1 w1 r1 q1 => by
    obtain ⟨d, rfl, q1⟩ := q1
    exact (q1.run F σ Hd1 H1 w1).mono fun vs H2 ⟨Hd2, R2, ds, e2, w2, r2, q2⟩ => ⟨Hd2, R2, d :: ds, e1.trans e2, w2, .cons (dpMono e2 r1) r2, q2⟩)⟩
theorem pair_all {K : PySem.W.Frag} {σ : L2.St} {H : Hp} : ∀ {vs : List V} {ds : List D}, DqAll K H vs ds → Paired (fun sv v => (match sv with | .d x => Dq K H v x | .loc i => σ[i]? = some (some v) | _ => False)) (ds.map SV.d) vs
  | _, _, .nil => .nil
  | _, _, .cons h t => .cons h (pair_all t)
theorem pe_callGK0 {CX : CXT} {k : Nat} {f : Addr} {fd : FuncData} {ps ks : List Str} {sp : Sp} {x : Str} {E : XK} {tk : TA} {g : {α : Type} → List α → List α} (G : FnG X.prog X.w X.K X.mg X.base CX k f fd ps sp) (hgd : X.A.guards = some []) (hr : Room k X.A) (hg : Gl X x) (hm : X.mg x = some (.ref f)) (hk : PySem.W.keepIn X.K (.ref f) = true)
    (hb : ∀ (s : Shared) (us : List Value), us.length = ks.length → BindsTo s fd ⟨[], ks.zip us⟩ (ps.zip (g us))) (rel : ∀ {α β : Type} {G : α → β → Prop} {xs : List α} {ys : List β}, Paired G xs ys → Paired G (g xs) (g ys)) (hx : Passes CX X E) (hkw : PK X kws tk)
    (hall : (backToKw pos (keywordEach kws X.env)).all (·.1.isSome) = true := by rfl) (hks : (backToKw pos (keywordEach kws X.env)).filterMap (·.1) = ks := by rfl) (hdb : (x == ("__debug__" : Str)) = false := by decide)
    (hpl : ((backTo pos (starEach [] X.env)).any (·.1) || (backToKw pos (keywordEach kws X.env)).any (·.1.isNone)) = false := by rfl) :
    PE X (.Call (.Name x p) [] kws pos) (fun σ H Q => tk σ H fun vs H1 => vs.length = ks.length ∧ sp (g vs) H1 Q E) := by
  refine ⟨fun pins s σ H Q I h => ?_⟩
  refine wpAny_Call_Name_kw (ld_glob I hg hm ?_ hdb)
  refine PySem.W.callWith_KW0 (h₀ := X.base) I.ok.mod.kin hk hall ?_ hpl
  refine thn (hkw.run pos pins s σ H _ I h) fun ws s2 ⟨zs, H2, I2, rz, l2, q2⟩ => ⟨I2.kIn, ?_⟩
  rw [hks]
  refine wpAny_call (codeAny_mono (G.run X.A X.stack s2 H2 _ _ _ Q E hgd hr I2.env0 (hb s2 ws (rz.length.symm.trans l2)) (rel rz) q2) fun res s' hq => ?_)
  match res, hq with
  | .error ex, hq => exact hx pins σ H2 s2 ex s' I2 hq
  | .ok (.ret u), hq => exact I2.after hq
  | .ok .next, hq => exact (hq : False).elim
  | .ok .brk, hq => exact (hq : False).elim
  | .ok .cont, hq => exact (hq : False).elim
theorem we_callK {x : Str} {j k : Nat} {S : SpD} {ks : List Str} {g : {α : Type} → List α → List α} {Q : SV → DS → Prop} (hr : Room k X.A) (hgd : X.A.guards = some []) (C : CanK X.prog X.w X.K X.mg X.base j x S ks g) (hjk : j ≤ k) (hg : Gl X x)
    (h : WK X P kws R fun ds R1 => ds.length = ks.length ∧ S (g (ds.map SV.d)) fun sv R' => R'.length = (g (ds.map SV.d)).length ∧ Q sv (back R1 (g (ds.map SV.d)) R'))
    (nl : ∀ (ds : List D), (∀ i j : Nat, (g (ds.map SV.d))[i]? ≠ some (SV.loc j)) ∧ (g (ds.map SV.d)).map (cont R) = g (ds.map SV.d))
    (hall : (backToKw pos (keywordEach kws X.env)).all (·.1.isSome) = true := by rfl) (hks : (backToKw pos (keywordEach kws X.env)).filterMap (·.1) = ks := by rfl) (hdb : (x == ("__debug__" : Str)) = false := by decide)
    (hpl : ((backTo pos (starEach [] X.env)).any (·.1) || (backToKw pos (keywordEach kws X.env)).any (·.1.isNone)) = false := by rfl) : WE X P (.Call (.Name x p) [] kws pos) R Q := by
  obtain ⟨f, fd, ps, G, hm, hk, hb⟩ := C.ex
  refine .of (pe_callGK0 (G.up hjk) hgd hr hg hm hk hb C.rel pass0 pk_m hall hks hdb hpl) fun F σ Hd H w => (h.run F σ Hd H w).mono fun vs H1 ⟨Hd1, R1, ds, e1, w1, rel, hl, q⟩ => ?_
  refine ⟨(dpAllLen rel).trans hl, ?_⟩
  have rel2 : Paired (ArgRel X.K σ Hd1) (g (ds.map SV.d)) (g vs) := C.rel (pair_all rel)
  have ok : ArgsOk R1 (g (ds.map SV.d)) := ⟨fun i j e => absurd e ((nl ds).1 i j), fun i i' j e => absurd e ((nl ds).1 i j)⟩
  have ce : (g (ds.map SV.d)).map (cont R1) = g (ds.map SV.d) := by
    have key : ∀ (l : List SV), (∀ i j : Nat, l[i]? ≠ some (SV.loc j)) → l.map (cont R1) = l := fun l hl => by
      induction l with
      | nil => rfl
      | cons s r ih =>
        rw [List.map_cons, ih fun i j => by simpa using hl (i + 1) j]
        cases s with
        | loc j => exact absurd rfl (hl 0 j)
        | _ => rfl
    exact key _ (nl ds).1
  obtain ⟨F', w', k'⟩ := call_world w1 rel2 ok
  rw [ce] at w' k'
  exact ⟨F', Hd1, _, w', C.mono _ _ _ (fun sv R' ⟨hl, q2⟩ Hd' v H' e' fin => by
    obtain ⟨w2, r2⟩ := k' Hd' R' sv v H' e' hl fin
    exact ⟨Hd', _, sv, e1.trans e', w2, r2, q2⟩) q⟩
end
end Dl
namespace Dl
open PySem PySem.Spec PyProof.Rows L2
section
variable {X : Cx} {P : List Nat} {R : DS} {a b : Expr} {pos : Pos}
theorem wt_inS {Q : Bool → DS → Prop} (hm : behindInMarks .In b = false) (h : WE X P a R fun x R1 => stb x fun x => WE X P b R1 fun y R2 => (∃ d, vD R2 x = some d) ∧ gInS R2 x y fun c => Q c R2) : WT X P (.Compare a [.In] [b] pos) R Q :=
  .fit (pt_cmpR op_in_seq pe_m pe_m hm) (two (Q := fun x R1 => asB x fun c => Q c R1) h fun F σ Hd H x y R2 v u Z w r1 r2 g k => by
    obtain ⟨z, zs, rfl, h1, q⟩ := g
    obtain ⟨p, vs, rfl, hl, hv⟩ := Rp.seq w r2 h1
    cases dpAllStrs hv
    cases (show Dq _ _ v (.str z) from r1)
    refine ⟨p, _, rfl, hl, rfl, flat_strs zs, ?_⟩
    show Z (.bl (inV (.str z) (zs.map V.str))) H
    rw [inV_strs]
    exact k _ _ (.here w (show Rp _ _ _ _ _ _ (.d (.bool _)) _ from .bl _) q))
end
section
variable {X : Cx} {P : List Nat} {R0 R1 : DS} {c elt tg : Expr} {scope : Scope} {js vs : List Nat} {Q : SV → DS → Prop}
theorem lc_fil {xs : List D} (p : D → Bool) (R0 : DS) (hR : wipeR R1 vs = R0) (hl : xs.length ≤ sizeLine)
    (turn : ∀ a ∈ xs, AllB X scope fun Y => WG Y P tg js R0 a fun R2 => AllB X scope fun Y => WT Y P c R2 fun b R3 => b = p a ∧ (b = true → AllB X scope fun Y => WE Y P elt R3 fun y R4 => asD y fun z => z = a ∧ wipeR R4 vs = R0) ∧ (b = false → wipeR R3 vs = R0))
    (fin : Q (.own (.lst (xs.filter p))) R0) : LcG Q (Tn1 X P scope tg c elt js vs) vs xs R1 := by
  have h := lc_pure1 (as := xs) (enc := id) (g := id) p R0 hR hl turn (by rw [List.map_id]; exact fin)
  rwa [List.map_id] at h
end
end Dl
namespace Dl
open PySem PySem.Spec PyProof.Rows L2
section
variable {X : Cx} {P : List Nat} {R : DS} {a b : Expr} {pos : Pos}
theorem wt_eqNn {k : Nat} {Q : Bool → DS → Prop} (hr : Room k X.A) (h : WE X P a R fun x R1 => stb x fun x => WE X P b R1 fun y R2 => (∃ d, vD R2 x = some d) ∧ gNon R2 x y fun c => Q c R2) : WT X P (.Compare a [.Eq] [b] pos) R Q :=
  .fit (pt_cmpR (op_eqN (hu_of hr)) pe_m pe_m (nomark _)) (fit_eqNn (Q := fun x R1 => asB x fun c => Q c R1) h)
end
end Dl
namespace Dl
open PySem PySem.Spec PyProof.Rows L2
/-! a join of signs -/
def sg (n : Nat) : Str := ⟨#[n]⟩
theorem joinL_nil : ∀ l : List (List Nat), TL.joinL [] l = l.flatten
  | [] => rfl
  | [p] => by
    show p = p ++ []
    rw [List.append_nil]
  | p :: q :: r => by
    show p ++ ([] ++ TL.joinL [] (q :: r)) = p ++ (q :: r).flatten
    rw [joinL_nil (q :: r)]
    rfl
theorem flat_sg : ∀ ns : List Nat, (ns.map (TL.tl ∘ sg)).flatten = ns
  | [] => rfl
  | n :: r => by
    rw [List.map_cons, List.flatten_cons, flat_sg r]
    rfl
theorem join_sg (ns : List Nat) : (Txt.join "" (ns.map sg)).cps.toList = ns := by
  rw [TL.join_eq]
  have h := TL.tl_join "" (ns.map sg)
  have e : TL.tl "" = [] := rfl
  rw [e, joinL_nil, List.map_map] at h
  refine Eq.trans h ?_
  exact flat_sg ns
theorem join_len (ns : List Nat) : (Txt.join "" (ns.map sg)).length = ns.length := by
  have h := congrArg List.length (join_sg ns)
  exact h
theorem sum_sg : ∀ ns : List Nat, ((ns.map sg).map (·.length)).sum = ns.length
  | [] => rfl
  | n :: r => by
    rw [List.map_cons, List.map_cons, List.sum_cons, sum_sg r, List.length_cons]
    show 1 + r.length = r.length + 1
    omega
theorem shown_sg {x : Str} (h : ∀ n ∈ x.cps.toList, n < 200) : (PyData.str x).shown.length ≤ 10 * x.length + 2 :=
  StrLaws.reprText_len x fun c hc => Nat.lt_trans (h c hc) (by decide)
end Dl
namespace Dl
open PySem PySem.Spec PyProof.Rows L2
/-! statements that may raise: what leaves is told by data -/
abbrev XQ := Addr → List (Str × D) → DS → Prop
def upX (K : PySem.W.Frag) (F : Fr) (P : List Nat) (Hd : Hp) (q : XQ) : Value → Option Addr → L2.St → Hp → Prop := fun cls d σ' H' =>
  ∃ Hd' R' C fs, Same Hd Hd' ∧ Wd K F P R' σ' Hd' H' ∧ cls = .ref C ∧ ExR K Hd' d fs ∧ q C fs R'
theorem upX_same {K : PySem.W.Frag} {F : Fr} {P : List Nat} {Hd Hd' : Hp} {q : XQ} (e : Same Hd Hd') {cls : Value} {d : Option Addr} {σ : L2.St} {H : Hp} (h : upX K F P Hd' q cls d σ H) : upX K F P Hd q cls d σ H := by
  obtain ⟨Hd2, R, C, fs, e2, w, h⟩ := h
  exact ⟨Hd2, R, C, fs, e.trans e2, w, h⟩
structure WSx (X : Cx) (P : List Nat) (st : Stmt) (R : DS) (D' : DEnds) (q : XQ) : Prop where
  run : ∀ F σ Hd H, Wd X.K F P R σ Hd H → ∀ W : WX, Takes X W → (∀ cls d σ' H', upX X.K F P Hd q cls d σ' H' → W cls d σ' H') → TSm X st (upD X.K F P Hd D') σ H
structure WSsx (X : Cx) (P : List Nat) (st : List Stmt) (R : DS) (D' : DEnds) (q : XQ) : Prop where
  run : ∀ F σ Hd H, Wd X.K F P R σ Hd H → ∀ W : WX, Takes X W → (∀ cls d σ' H', upX X.K F P Hd q cls d σ' H' → W cls d σ' H') → TSsm X st (upD X.K F P Hd D') σ H
section
variable {X : Cx} {P : List Nat} {R : DS} {c e : Expr} {st : Stmt} {rest : List Stmt} {pos p : Pos} {D' : DEnds} {q : XQ}
theorem wx_of (h : WS X P st R D') : WSx X P st R D' q := ⟨fun F σ Hd H w _ _ _ => h.run F σ Hd H w⟩
theorem wxs_of (h : WSs X P rest R D') : WSsx X P rest R D' q := ⟨fun F σ Hd H w _ _ _ => h.run F σ Hd H w⟩
theorem wxs_nil (k : D'.nx R) : WSsx X P [] R D' q := wxs_of (wss_nil k)
theorem wxs_cons (h : WSx X P st R { D' with nx := fun R1 => WSsx X P rest R1 D' q } q) : WSsx X P (st :: rest) R D' q :=
  ⟨fun F σ Hd H w W tk hq => TSsm.of (pss_cons ps_m pss_m) ((h.run F σ Hd H w W tk hq).mono ⟨fun σ' H' h => by
    obtain ⟨Hd1, R1, e1, w1, q1⟩ := h
    exact (q1.run F σ' Hd1 H' w1 W tk fun cls d σ' H' z => hq cls d σ' H' (upX_same e1 z)).mono (upD_le e1), fun _ _ h => h, fun _ _ h => h, fun _ _ h => h⟩)⟩
theorem wxs_one (h : WSx X P st R D' q) : WSsx X P [st] R D' q := ⟨fun F σ Hd H w W tk hq => TSsm.of (pss_one ps_m) (h.run F σ Hd H w W tk hq)⟩
theorem wx_if {A B : List Stmt} (h : WT X P c R fun k R1 => (k = true → WSsx X P A R1 D' q) ∧ (k = false → WSsx X P B R1 D' q)) : WSx X P (.If c A B pos) R D' q :=
  ⟨fun F σ Hd H w W tk hq => TSm.of (ps_if pt_m pss_m pss_m) (h.use w fun Hd1 R1 k H1 e1 w1 q1 => by
    have hq' : ∀ cls d σ' H', upX X.K F P Hd1 q cls d σ' H' → W cls d σ' H' := fun cls d σ' H' z => hq cls d σ' H' (upX_same e1 z)
    cases k with
    | true => exact iteT (((q1.1 rfl).run F σ Hd1 H1 w1 W tk hq').mono (upD_le e1))
    | false => exact iteF (((q1.2 rfl).run F σ Hd1 H1 w1 W tk hq').mono (upD_le e1)))⟩
end
/-! an own exception over ValueError with one field, told by its __init__ -/
structure ErrC (Pg : Program) (w : World) (K : PySem.W.Frag) (mg : Str → Option Value) (base : Heap) (x f : Str) (C : Addr) : Prop where
  ox : OexC K C
  hm : mg x = some (.ref C)
  ini : ∃ fI fd ps, PySem.W.findIn K (.ref C) "__init__" = some (some (.ref fI)) ∧ PySem.W.typeIn K (.ref fI) = some (.type "function") ∧
    FnOk Pg w K mg base CX0 1 fI fd ps (fun vs H Q _ => ∃ (a : Addr) (v : V), vs = [.ref a, v] ∧ H a = some (exo a C none) ∧ ∀ dx, H dx = none → dx ≠ a → Q .non (upd (upd H dx (exd dx [(f, v)])) a (exo a C (some dx)))) ∧ Binds K fd ps []
  noF : PySem.W.findIn K (.ref C) f = some none
theorem del_made {H : Hp} {a dx : Addr} {o1 o2 o3 : HO} {o4 : HO} (ha : H a = none) (ne : dx ≠ a) : upd (del (upd (upd (upd H a o1) dx o2) a o3) a) dx o4 = upd H dx o4 := by
  funext b
  by_cases hb : b = dx
  · subst hb
    rw [upd_same, upd_same]
  · rw [upd_ne hb, upd_ne hb]
    by_cases hb2 : b = a
    · subst hb2
      rw [del_same, ha]
    · rw [del_ne hb2, upd_ne hb2, upd_ne hb, upd_ne hb2]
section
variable {X : Cx} {P : List Nat} {R : DS} {e : Expr} {pos p pos2 : Pos} {D' : DEnds} {q : XQ}
theorem wx_raise {x f : Str} {C : Addr} {k : Nat} (T : ErrC X.prog X.w X.K X.mg X.base x f C) (hc : X.calm = true) (hr : Room k X.A) (hk : 2 ≤ k) (hg : Gl X x)
    (h : WE X P e R fun sv R1 => asD sv fun d => q C [(f, d)] R1) (hdb : (x == ("__debug__" : Str)) = false := by decide)
    (he : starEach [e] X.env = (false, eval e X.env) :: starEach [] X.env := by rfl) (hpl : (backTo pos (starEach [] X.env)).any (·.1) = false := by rfl) : WSx X P (.Raise (some (.Call (.Name x p) [e] [] pos)) none pos2) R D' q :=
  ⟨fun F σ Hd H w W tk hq => by
    obtain ⟨fI, fd, ps, i1, i2, G, hb⟩ := T.ini
    refine TSm.of (ps_raise hc tk (pmk_oex (ds := []) (dvs := []) T.ox i1 i2 G (hr.mono hk) hb .nil pass0 hg T.hm (pa_cons pe_m pa_nil he) hdb he hpl)) ?_
    refine h.fzD.use w fun Hd1 R1 sv v H1 e1 w1 r1 q1 => ?_
    obtain ⟨d, rfl, q1⟩ := q1
    refine ⟨(by show 1 ≤ 1000; decide), fun a ha => ⟨a, v, rfl, upd_same, fun dx hdx ne => ?_⟩⟩
    have hdx' : H1 dx = none := by rw [upd_ne ne] at hdx; exact hdx
    refine ⟨rfl, dx, [(f, v)], upd_same, ?_, hdx', ?_⟩
    · rw [upd_ne ne, upd_same]
    · rw [del_made ha ne]
      obtain ⟨w2, s2⟩ := w1.allocD (o := .xd [(f, v)]) hdx'
      refine hq _ _ _ _ ⟨_, R1, C, [(f, d)], e1.trans s2, w2, rfl, ⟨[(f, v)], upd_same, .cons ⟨rfl, dpMono s2 r1⟩ .nil⟩, q1⟩⟩
end
end Dl
namespace Dl
open PySem PySem.Spec PyProof.Rows L2
/-! defs that may raise, and their calls -/
structure WEx (X : Cx) (P : List Nat) (e : Expr) (R : DS) (Q : SV → DS → Prop) (q : XQ) : Prop where
  run : ∀ F σ Hd H, Wd X.K F P R σ Hd H → ∀ W : WX, Takes X W → (∀ cls d σ' H', upX X.K F P Hd q cls d σ' H' → W cls d σ' H') → TEm X e σ H (Post X.K F P σ Hd Q)
abbrev SpX := DS → (SV → DS → Prop) → XQ → Prop
def liftX (K : PySem.W.Frag) (S : SpX) : Sp := fun vs H Q E => ∃ F Hd R, Wd K F (ownIx R) R (vs.map some) Hd H ∧
  S R (fun sv R' => ∀ Hd' v H', Same Hd Hd' → Fin K F (ownIx R) R' sv v Hd' H' → Q v H') fun C fs R' => ∀ Hd' d H', Same Hd Hd' → Fin K F (ownIx R) R' (.d .none) .non Hd' H' → ExR K Hd' d fs → E (.ref C) d H'
structure CanX (Pg : Program) (w : World) (K : PySem.W.Frag) (mg : Str → Option Value) (base : Heap) (k : Nat) (x : Str) (S : SpX) : Prop where
  ex : ∃ f fd ps, FnG Pg w K mg base (L2.CX Pg w) k f fd ps (liftX K S) ∧ mg x = some (.ref f) ∧ PySem.W.keepIn K (.ref f) = true ∧ Binds K fd ps []
  mono : ∀ A Z Z' Y Y', (∀ sv R', Z sv R' → Z' sv R') → (∀ C fs R', Y C fs R' → Y' C fs R') → S A Z Y → S A Z' Y'
theorem Wd.fin {K : PySem.W.Frag} {F : Fr} {R R1 : DS} {σ : L2.St} {Hd H : Hp} (w1 : Wd K F (ownIx R) R1 σ Hd H) : Fin K F (ownIx R) (R1.take R.length) (.d .none) .non Hd H := by
  refine ⟨w1.dat, w1.frm, ⟨fun a ha => (w1.prot a ha).1, w1.tabs.1, w1.tabs.2.1⟩, fun i hi => ?_, .non⟩
  obtain ⟨m, h1, h2⟩ := w1.pin i hi
  obtain ⟨a, o, s1, s2, s3, s4, _⟩ := w1.own i m h1
  rw [h2] at s1
  cases s1
  obtain ⟨m0, hm0⟩ := mem_ownIx.mp hi
  exact ⟨m, o, by rw [List.getElem?_take_of_lt (List.getElem?_eq_some_iff.mp hm0).1]; exact h1, s2, s3, s4⟩
theorem def_runX {X : Cx} {S : SpX} {N : List Str} {st : Stmt} {vs : List V} {H : Hp} {Q : VK} {E : XK} (tk : Takes X fun cls d _ H => E cls d H) (hlen : ∀ R Q q, S R Q q → R.length ≤ N.length)
    (body : ∀ R Q q, S R Q q → WSsx X (ownIx R) (defBody st) (R ++ List.replicate (N.length - R.length) .no) (bodyEnds R.length Q) fun C fs R' => q C fs (R'.take R.length))
    (h : liftX X.K S vs H Q E) : TSsm X (defBody st) { nx := fun _ H' => Q .non H', rt := Q } (start N vs) H := by
  obtain ⟨F, Hd, R, w, q⟩ := h
  have hl : R.length = vs.length := w.len.trans (by rw [List.length_map])
  have hs : start N vs = vs.map some ++ List.replicate (N.length - R.length) none := by
    rw [hl]
    rfl
  rw [hs]
  refine ((body R _ _ q).run F _ Hd H (start_world _ w) _ tk fun cls d σ' H' ⟨Hd', R', C, fs, e1, w1, ec, x1, q1⟩ => ?_).mono ⟨fun σ' H' h => ?_, fun v H' h => ?_, fun _ _ h => ?_, fun _ _ h => ?_⟩
  · subst ec
    exact q1 Hd' d H' e1 w1.fin x1
  · obtain ⟨Hd', R', e1, w1, q1⟩ := h
    exact q1 Hd' .non H' e1 w1.fin
  · obtain ⟨Hd', R', sv, e1, ⟨f1, f2, f3, f4, f5⟩, q1⟩ := h
    refine q1 Hd' v H' e1 ⟨f1, f2, f3, fun i hi => ?_, f5⟩
    obtain ⟨m, o, h1, h2⟩ := f4 i hi
    obtain ⟨m0, hm0⟩ := mem_ownIx.mp hi
    exact ⟨m, o, by rw [List.getElem?_take_of_lt (List.getElem?_eq_some_iff.mp hm0).1]; exact h1, h2⟩
  · obtain ⟨_, _, _, _, z⟩ := h
    exact (z : False).elim
  · obtain ⟨_, _, _, _, z⟩ := h
    exact (z : False).elim
/-- THE RULE for a def that may raise -/
theorem can_defX {Pg : Program} {w : World} {K : PySem.W.Frag} {mg : Str → Option Value} {base : Heap} {k : Nat} {x qual : Str} {st : Stmt} {f : Addr} {fd : FuncData} {N ps : List Str} {S : SpX} (Fu : Fun K x qual st f fd) (Sc : FnScope N ps (defScope st)) (hm : mg x = some (.ref f)) (hb : Binds K fd ps [])
    (mono : ∀ A Z Z' Y Y', (∀ sv R', Z sv R' → Z' sv R') → (∀ C fs R', Y C fs R' → Y' C fs R') → S A Z Y → S A Z' Y') (hN : ps.length ≤ N.length) (hlen : ∀ R Q q, S R Q q → R.length = ps.length)
    (body : ∀ (cdv : Value) (A : Around) (outer : List Env) (s : Shared) (H : Hp) (E : XK), A.guards = some [] → Room k (A.deeper (envOfC qual (defScope st) s.heap.objs.size f cdv)) → ∀ R Q q, S R Q q →
      WSsx (cxOf (L2.CX Pg w) Pg w K mg base N qual (defScope st) f cdv A outer s H E) (ownIx R) (defBody st) (R ++ List.replicate (N.length - R.length) .no) (bodyEnds R.length Q) fun C fs R' => q C fs (R'.take R.length)) : CanX Pg w K mg base (k + 1) x S := by
  refine ⟨⟨f, fd, ps, fnG_of Fu Sc (fun vs H Q E h => ?_) (fun cdv A outer s H vs Q E hgd hr h => ?_), hm, Fu.kp, hb⟩, mono⟩
  · obtain ⟨F, Hd, R, w, q⟩ := h
    have := w.len
    rw [List.length_map] at this
    rw [← this]
    exact hlen R _ _ q
  · exact def_runX (X := cxOf (L2.CX Pg w) Pg w K mg base N qual (defScope st) f cdv A outer s H E) (N := N) (st := st) (takes_of rfl rfl rfl rfl) (fun R Q q h => by rw [hlen R Q q h]; exact hN) (body cdv A outer s H E hgd hr) h
section
variable {X : Cx} {P : List Nat} {R : DS} {e : Expr} {es : List Expr} {pos p : Pos} {Q : SV → DS → Prop} {q : XQ} {D' : DEnds}
theorem pe_callGS {CX : CXT} {k : Nat} {f : Addr} {fd : FuncData} {ps : List Str} {sp : Sp} {E : L2.St → XK} {x : Str} {t : TA} (G : FnG X.prog X.w X.K X.mg X.base CX k f fd ps sp) (hgd : X.A.guards = some []) (hr : Room k X.A) (hg : Gl X x) (hm : X.mg x = some (.ref f)) (hk : PySem.W.keepIn X.K (.ref f) = true) (hb : Binds X.K fd ps []) (hx : ∀ σ, PassesAt CX X σ (E σ)) (ha : PA X (e :: es) t)
    (hdb : (x == ("__debug__" : Str)) = false := by decide) (he : starEach (e :: es) X.env = (false, eval e X.env) :: starEach es X.env := by rfl) (hpl : (backTo pos (starEach es X.env)).any (·.1) = false := by rfl) : PE X (.Call (.Name x p) (e :: es) [] pos) (tCallS sp E t) := by
  refine ⟨fun pins s σ H Q I h => wpAny_Call_Name_kw (ld_glob I hg hm (PySem.W.callWith_K (h₀ := X.base) I.ok.mod.kin hk (thn (ha.run pos pins s σ H _ I h) fun us s1 ⟨vs, H1, I1, r, q⟩ => ⟨I1.kIn, ?_⟩) he hpl) hdb)⟩
  have hl : us.length = ps.length := r.length.symm.trans (G.len _ _ _ _ q)
  have hb' := hb s1 us I1.kIn (by rw [List.append_nil]; exact hl)
  rw [List.append_nil] at hb'
  refine wpAny_call (codeAny_mono (G.run X.A X.stack s1 H1 _ _ _ Q (E σ) hgd hr I1.env0 hb' r q) fun res s' hq => ?_)
  match res, hq with
  | .error ex, hq => exact hx σ pins H1 s1 ex s' I1 hq
  | .ok (.ret u), hq => exact I1.after hq
  | .ok .next, hq => exact (hq : False).elim
  | .ok .brk, hq => exact (hq : False).elim
  | .ok .cont, hq => exact (hq : False).elim
/-- f(e, ..) that may raise -/
theorem wex_call {x : Str} {j k : Nat} {S : SpX} (hr : Room k X.A) (hgd : X.A.guards = some []) (C : CanX X.prog X.w X.K X.mg X.base j x S) (hjk : j ≤ k) (hg : Gl X x)
    (h : WA X P (e :: es) R fun svs R1 => argsB R1 svs = true ∧ S (svs.map (cont R1)) (fun sv R' => R'.length = svs.length ∧ Q sv (back R1 svs R')) fun C fs R' => R'.length = svs.length ∧ q C fs (back R1 svs R'))
    (hdb : (x == ("__debug__" : Str)) = false := by decide) (he : starEach (e :: es) X.env = (false, eval e X.env) :: starEach es X.env := by rfl) (hpl : (backTo pos (starEach es X.env)).any (·.1) = false := by rfl) : WEx X P (.Call (.Name x p) (e :: es) [] pos) R Q q := by
  obtain ⟨f, fd, ps, G, hm, hk, hb⟩ := C.ex
  refine ⟨fun F σ Hd H w W tk hq => TEm.of (pe_callGS (G.up hjk) hgd hr hg hm hk hb (fun σ => passAt tk σ) pa_m hdb he hpl) ((h.run F σ Hd H w).mono fun vs H1 ⟨Hd1, R1, svs, e1, w1, rel, ok, q⟩ => ?_)⟩
  obtain ⟨F', w', k'⟩ := call_world w1 rel (argsOk_of ok)
  refine ⟨F', Hd1, _, w', C.mono _ _ _ _ _ (fun sv R' ⟨hl, q2⟩ Hd' v H' e' fin => ?_) (fun C fs R' ⟨hl, q2⟩ Hd' d H' e' fin x1 => ?_) q⟩
  · obtain ⟨w2, r2⟩ := k' Hd' R' sv v H' e' hl fin
    exact ⟨Hd', _, sv, e1.trans e', w2, r2, q2⟩
  · obtain ⟨w2, r2⟩ := k' Hd' R' _ _ H' e' hl fin
    exact hq _ _ _ _ ⟨Hd', _, C, fs, e1.trans e', w2, rfl, x1, q2⟩
theorem WEx.use {Q : SV → DS → Prop} (h : WEx X P e R Q q) {F : Fr} {σ : L2.St} {Hd H : Hp} (w : Wd X.K F P R σ Hd H) {W : WX} (tk : Takes X W) (hq : ∀ cls d σ' H', upX X.K F P Hd q cls d σ' H' → W cls d σ' H') {Z : VK}
    (k : ∀ Hd' R' sv v H', Same Hd Hd' → Wd X.K F P R' σ Hd' H' → Rp X.K F R' σ Hd' H' sv v → Q sv R' → Z v H') : TEm X e σ H Z :=
  (h.run F σ Hd H w W tk hq).mono fun v H' ⟨Hd', R', sv, e1, w1, r1, q1⟩ => k Hd' R' sv v H' e1 w1 r1 q1
theorem wx_expr (h : WEx X P e R (fun _ R1 => D'.nx R1) q) (hs : swapsWith e none pos.line X.env = pure false := by rfl) : WSx X P (.Expr e pos) R D' q :=
  ⟨fun F σ Hd H w W tk hq => TSm.of (ps_expr pe_m hs) (h.use w tk hq fun Hd1 R1 sv v H1 e1 w1 r1 q1 => ⟨Hd1, R1, e1, w1, q1⟩)⟩
theorem wx_set {i : Nat} {x : Str} {pos' : Pos} (hN : X.N.Nodup) (hi : X.N[i]? = some x) (hx : Loc X.env.scope x) (hP : i ∉ P) (h : WEx X P e R (fun sv R1 => put i R1 D'.nx sv) q)
    (hs : swapsWith e (some (.Name x pos')) pos.line X.env = pure false := by rfl) (hf : X.fn x = true ∨ X.env.scope.names.lookup x = some .local := by first | exact .inl rfl | exact .inr rfl | assumption) : WSx X P (.Assign [.Name x pos'] e pos) R D' q :=
  ⟨fun F σ Hd H w W tk hq => TSm.of (ps_set hN hi hx pe_m hs hf) (h.use w tk hq fun Hd1 R1 sv v H1 e1 w1 r1 q1 => up_same e1 (put_ok w1 r1 hP q1))⟩
end
end Dl
namespace Dl
open PySem PySem.Spec PyProof.Rows L2
/-! a caught exception: its class's looks, its fields -/
def DOk (d : Option Addr) (H : Hp) : Prop := ∀ dd, d = some dd → ∃ ws, H dd = some (.xd ws)
theorem kit_exc {X : Cx} {a D : Addr} {d : Option Addr} {oe : Obj} {pn : List (Addr × Obj)} {pins : List (Addr × Obj)} {σ : L2.St} {H : Hp} {s : Shared} (C : ExcC X.K D) (hz : Zc (.ref D) d oe) (hf : ∃ vs, oe.data = .fields vs) (I : Inv (X.suite a ((a, oe) :: pn)) pins σ H s) (hd : DOk d H) :
    ∃ Pp : Heap → Prop, PySem.W.KitX X.K (.ref a) (.ref D) Pp ∧ Pp s.heap := by
  have hc : (PySem.W.clsIn X.K D).isSome = true := by
    have := C.hd
    unfold PySem.W.hasDictIn at this
    cases e : PySem.W.clsIn X.K D with
    | none => rw [e] at this; cases this
    | some _ => rfl
  obtain ⟨ha, _⟩ := I.pin (a, oe) (List.mem_append_left _ List.mem_cons_self)
  obtain ⟨vs, hv⟩ := hf
  have hn : PySem.W.notCls oe = true := by
    unfold PySem.W.notCls
    rw [hv] <;> rfl
  cases d with
  | none => exact ⟨_, PySem.W.kitx_exc (ox := oe) (od := none) hc C.hg C.hk C.hs C.ha C.hn C.ht C.hm, ⟨ha, hz.1, hn, by rw [hz.2]; trivial⟩⟩
  | some dd =>
    obtain ⟨ws, hw⟩ := hd dd rfl
    have hx : ObjOk X.prog X.w H s.heap dd (.xd ws) := I.hok dd _ hw
    obtain ⟨mA, hns, hr⟩ := hx
    obtain ⟨od, ho, hl⟩ := lookIn_ns hns
    exact ⟨_, PySem.W.kitx_exc (ox := oe) (od := some od) hc C.hg C.hk C.hs C.ha C.hn C.ht C.hm, ⟨ha, hz.1, hn, by rw [hz.2]; exact ho⟩⟩
def rIs1 (K : PySem.W.Frag) (D a : Addr) (d : Option Addr) : List V → Hp → VK → Prop := fun xs H Q => ∃ (c : V) (cv : Value) (b : Bool), xs = [.ref a, c] ∧ ClsV c cv ∧ PySem.W.kitOne K (.ref D) cv = some b ∧ DOk d H ∧ Q (.bl b) H
theorem call_is1 {X : Cx} {a D : Addr} {d : Option Addr} {oe : Obj} {pn : List (Addr × Obj)} (C : ExcC X.K D) (hz : Zc (.ref D) d oe) (hf : ∃ vs, oe.data = .fields vs) : CallR (X.suite a ((a, oe) :: pn)) (.builtin "isinstance") (rIs1 X.K D a d) := by
  intro pins s σ H xs us Q I r h
  obtain ⟨c, cv, b, rfl, hc, hk, hd, q⟩ := h
  obtain ⟨Pp, kx, hp⟩ := kit_exc C hz hf I hd
  cases r with
  | cons r1 r2 =>
    cases r2 with
    | cons r2 r3 =>
      cases r3
      rename_i u1 u2
      have e1 : u1 = .ref a := r1
      subst e1
      have e2 : u2 = cv := by cases hc <;> exact r2
      subst e2
      exact PySem.W.kia_one kx I.kIn hp hk (by intro z; cases z) fun tk => ⟨.bl b, H, I.tok _, rfl, q⟩
def rIsN (K : PySem.W.Frag) (D a : Addr) (d : Option Addr) : List V → Hp → VK → Prop := fun xs H Q => ∃ (tp : Addr) (cs : List V) (us : List Value) (b : Bool), xs = [.ref a, .ref tp] ∧ H tp = some (.tup cs) ∧ Paired ClsV cs us ∧ PySem.W.kitAny K (.ref D) us = some b ∧ DOk d H ∧ Q (.bl b) H
theorem cls_vals {cs : List V} {us ws : List Value} (p : Paired ClsV cs us) (r : Vals cs ws) : ws = us := by
  induction p generalizing ws with
  | nil => cases r; rfl
  | cons h t ih =>
    cases r with
    | cons r1 r2 =>
      rw [ih r2]
      cases h <;> exact congrArg (· :: _) r1
theorem call_isN {X : Cx} {a D : Addr} {d : Option Addr} {oe : Obj} {pn : List (Addr × Obj)} (C : ExcC X.K D) (hz : Zc (.ref D) d oe) (hf : ∃ vs, oe.data = .fields vs) : CallR (X.suite a ((a, oe) :: pn)) (.builtin "isinstance") (rIsN X.K D a d) := by
  intro pins s σ H xs us Q I r h
  obtain ⟨tp, cs, cv, b, rfl, ht, hc, hk, hd, q⟩ := h
  obtain ⟨Pp, kx, hp⟩ := kit_exc C hz hf I hd
  cases r with
  | cons r1 r2 =>
    cases r2 with
    | cons r2 r3 =>
      cases r3
      rename_i u1 u2
      have e1 : u1 = .ref a := r1
      subst e1
      have e2 : u2 = .ref tp := r2
      subst e2
      have hx : ObjOk X.prog X.w H s.heap tp (.tup cs) := I.hok tp _ ht
      obtain ⟨_, its, hv, ⟨oc, od, odt, osl⟩, ho, hcl, n, hdt⟩ := hx
      have e3 := cls_vals hc hv
      subst e3
      have hcl' : oc = .type "tuple" := hcl
      have hdt' : odt = .seq its.toArray n := hdt
      subst hcl' hdt'
      exact PySem.W.kia_tup kx I.kIn hp ho hk (by intro z; cases z) fun tk => ⟨.bl b, H, I.tok _, rfl, q⟩
/-! try .. except C as e -/
theorem Wd.setEx {K : PySem.W.Frag} {F : Fr} {P : List Nat} {R : DS} {σ : L2.St} {Hd H : Hp} (w : Wd K F P R σ Hd H) {i : Nat} {a : Addr} {d : Option Addr} {fs : List (Str × D)} (hP : i ∉ P) (x1 : ExR K Hd d fs) : Wd K F P (R.set i (.ex a d fs)) (σ.set i (some (.ref a))) Hd H := by
  have at_ : ∀ {j : Nat} {y : SV}, (R.set i (SV.ex a d fs))[j]? = some y → (i = j ∧ y = .ex a d fs ∧ i < R.length) ∨ (i ≠ j ∧ R[j]? = some y) := fun {j y} e => by
    by_cases z : i = j
    · subst z
      have hl : i < R.length := by
        have := (List.getElem?_eq_some_iff.mp e).1
        rwa [List.length_set] at this
      rw [List.getElem?_set_self hl] at e
      exact .inl ⟨rfl, (Option.some.inj e).symm, hl⟩
    · rw [List.getElem?_set_ne z] at e
      exact .inr ⟨z, e⟩
  have old : ∀ {j : Nat} {y : SV}, (R.set i (SV.ex a d fs))[j]? = some y → (∀ a d fs, y ≠ .ex a d fs) → i ≠ j ∧ R[j]? = some y := fun {j y} e n => by
    rcases at_ e with ⟨_, z, _⟩ | h
    · exact absurd z (n a d fs)
    · exact h
  refine ⟨w.dat, w.frm, by rw [List.length_set, List.length_set]; exact w.len, fun j y e => ?_, fun j m e => ?_, fun j k m n b e1 e2 e3 e4 => ?_, fun j hj => ?_, w.prot, fun j b d' fs' e => ?_, w.tabs⟩
  · obtain ⟨ne, e'⟩ := old e (by intro _ _ _ z; cases z)
    rw [List.getElem?_set_ne ne]
    exact w.val j y e'
  · obtain ⟨ne, e'⟩ := old e (by intro _ _ _ z; cases z)
    rw [List.getElem?_set_ne ne]
    exact w.own j m e'
  · obtain ⟨n1, e1'⟩ := old e1 (by intro _ _ _ z; cases z)
    obtain ⟨n2, e2'⟩ := old e2 (by intro _ _ _ z; cases z)
    rw [List.getElem?_set_ne n1] at e3
    rw [List.getElem?_set_ne n2] at e4
    exact w.apart j k m n b e1' e2' e3 e4
  · have ne : i ≠ j := fun z => hP (z ▸ hj)
    rw [List.getElem?_set_ne ne, List.getElem?_set_ne ne]
    exact w.pin j hj
  · rcases at_ e with ⟨z1, z, hl⟩ | ⟨ne, e'⟩
    · subst z1
      cases z
      exact ⟨List.getElem?_set_self (by rw [← w.len]; exact hl), x1⟩
    · rw [List.getElem?_set_ne ne]
      exact w.exs j b d' fs' e'
/-- behind a suite its name is gone -/
def offD (i : Nat) (D' : DEnds) : DEnds := { nx := fun R => D'.nx (R.set i .no), rt := D'.rt, bk := fun R => D'.bk (R.set i .no), ct := fun R => D'.ct (R.set i .no) }
theorem up_off {K : PySem.W.Frag} {F : Fr} {P : List Nat} {Hd Hd' : Hp} {i : Nat} {q : DS → Prop} (e : Same Hd Hd') (hP : i ∉ P) {σ : L2.St} {H : Hp} (h : up K F P Hd' (fun R => q (R.set i .no)) σ H) : up K F P Hd q (σ.set i none) H := by
  obtain ⟨Hd2, R, e2, w, h⟩ := h
  exact ⟨Hd2, _, e.trans e2, w.setNo hP, h⟩
section
variable {X : Cx} {P : List Nat} {R : DS}
theorem ws_try_as {i : Nat} {x n : Str} {c : Addr} {body suite : List Stmt} {b₀ : Stmt} {np pos pos' : Pos} {D' : DEnds} (hs : X.stack = X.env :: X.outer) (hf : X.env.frame = some X.env.locals) (hN : X.N.Nodup) (hi : X.N[i]? = some n) (hln : X.env.kindOf n = some .local) (hc : Names X x (.ref c)) (hP : i ∉ P)
    (h : ∀ pn xe, PassesOwn (model X.prog X.w) X.A X.env xe → WSsx (X.tr pn xe) P body R D' fun C fs R1 => PySem.W.exmOne X.K (.ref C) (.ref c) = some true ∧
      ∀ a d oe pn, Zc (.ref C) d oe → (∃ vs, oe.data = .fields vs) → WSs (X.suite a ((a, oe) :: pn)) P (b₀ :: suite) (R1.set i (.ex a d fs)) (offD i D')) :
    WS X P (.Try body [.ExceptHandler (some (.Name x np)) (some n) (b₀ :: suite) pos'] [] [] pos) R D' := by
  refine .of (ps_try_as (i := i) (Wout := fun _ _ _ _ => False)
    (tb := fun W D σ H => ∀ pn xe, Takes (X.tr pn xe) W → PassesOwn (model X.prog X.w) X.A X.env xe → TSsm (X.tr pn xe) body D σ H)
    (ts := fun a cls d D σ H => ∀ oe pn, Zc cls d oe → (∃ vs, oe.data = .fields vs) → TSsm (X.suite a ((a, oe) :: pn)) (b₀ :: suite) D σ H)
    hs hf hN hi hln hc takes0 (fun W pn xe tk po => ⟨fun pins s σ H D I h => h pn xe tk po pins s I⟩) (fun a oe cls d pn hz hf => ⟨fun pins s σ H D I h => h oe pn hz hf pins s I⟩)) fun F σ Hd H w pn xe tk po => ?_
  refine (h pn xe po).run F σ Hd H w _ tk fun cls d σ' H' ⟨Hd', R1, C, fs, e1, w1, ec, x1, hm, q1⟩ => ?_
  subst ec
  refine ⟨true, hm, fun _ a ha oe pn hz hf => ?_, fun z => Bool.noConfusion z⟩
  refine ((q1 a d oe pn hz hf).run F _ Hd' H' (w1.setEx hP x1)).mono ⟨fun _ _ h => up_off e1 hP h, fun _ _ ⟨Hd2, R, sv, e2, w, h⟩ => ⟨Hd2, R, sv, e1.trans e2, w, h⟩, fun _ _ h => up_off e1 hP h, fun _ _ h => up_off e1 hP h⟩
end
end Dl
namespace Dl
open PySem PySem.Spec PyProof.Rows L2
/-! what a suite asks of the caught exception -/
theorem ex_look {K : PySem.W.Frag} {Hd : Hp} {f : Str} : ∀ {fs : List (Str × D)} {ws : List (Str × V)} {x : D}, Paired (fun (p : Str × D) (q : Str × V) => p.1 = q.1 ∧ Dq K Hd q.2 p.2) fs ws → fs.lookup f = some x → ∃ v, ws.lookup f = some v ∧ Dq K Hd v x
  | _, _, _, .nil, h => by cases h
  | (k, y) :: fs, (k', u) :: ws, x, .cons ⟨e, r⟩ t, h => by
    have e' : k = k' := e
    subst e'
    rw [List.lookup_cons] at h ⊢
    split at h
    · rename_i z
      cases h
      exact ⟨u, rfl, r⟩
    · rename_i z
      obtain ⟨v, h1, h2⟩ := ex_look t h
      exact ⟨v, h1, h2⟩
section
variable {X : Cx} {P : List Nat} {R : DS} {a C : Addr} {d : Option Addr} {fs : List (Str × D)} {oe : Obj} {pn : List (Addr × Obj)} {i : Nat} {n : Str} {pos p p2 : Pos} {Q : SV → DS → Prop} {es : List Expr}
theorem we_exf {f : Str} {x : D} (T : XfC X.K C) (hno : PySem.W.findIn X.K (.ref C) f = some none) (hz : Zc (.ref C) d oe) (hf : ∃ vs, oe.data = .fields vs) (hi : X.N[i]? = some n) (hv : Vis X.env.scope n) (hR : R[i]? = some (.ex a d fs)) (hx : fs.lookup f = some x) (q : Q (.d x) R)
    (h1 : (n == ("__debug__" : Str)) = false := by decide) (h2 : (n == ("__classdict__" : Str)) = false := by decide) (hb : attributeBase (.Name n p) f X.env (eval (.Name n p) X.env) = eval (.Name n p) X.env := by rfl) : WE (X.suite a ((a, oe) :: pn)) P (.Attribute (.Name n p) f pos) R Q :=
  .of (pe_xf T hno hz hf (pe_var (X := X.suite a ((a, oe) :: pn)) hi hv h1 h2) hb) fun F σ Hd H w => by
    obtain ⟨s1, x1⟩ := w.exs i a d fs hR
    cases d with
    | none =>
      have x1' : fs = [] := x1
      subst x1'
      cases hx
    | some dd =>
      obtain ⟨ws, hw, pr⟩ := x1
      obtain ⟨v, l1, r1⟩ := ex_look pr hx
      exact ⟨_, s1, rfl, rfl, dd, ws, v, rfl, w.dat _ _ hw, l1, .here w (show Rp _ _ _ _ _ _ (.d x) _ from r1) q⟩
theorem dok_of {K : PySem.W.Frag} {Hd H : Hp} (s : Same Hd H) (x1 : ExR K Hd d fs) : DOk d H := fun dd e => by
  subst e
  obtain ⟨ws, hw, _⟩ := x1
  exact ⟨ws, s _ _ hw⟩
theorem we_is1 {y : Str} {T : String} {b : Bool} (G : ExcC X.K C) (hz : Zc (.ref C) d oe) (hf : ∃ vs, oe.data = .fields vs) (hm : X.mg "isinstance" = none) (hg : Gl X "isinstance") (hm2 : X.mg y = none) (hg2 : Gl X y) (hv2 : bootBuiltins y = some (.type T))
    (hi : X.N[i]? = some n) (hv : Vis X.env.scope n) (hR : R[i]? = some (.ex a d fs)) (hk : PySem.W.kitOne X.K (.ref C) (.type T) = some b) (q : Q (.d (.bool b)) R) (hn : y ≠ "__name__" := by decide) (hd : (y == ("__debug__" : Str)) = false := by decide)
    (h1 : (n == ("__debug__" : Str)) = false := by decide) (h2 : (n == ("__classdict__" : Str)) = false := by decide)
    (he : starEach [.Name n p, .Name y p2] X.env = (false, eval (.Name n p) X.env) :: starEach [.Name y p2] X.env := by rfl) (he2 : starEach [.Name y p2] X.env = (false, eval (.Name y p2) X.env) :: starEach [] X.env := by rfl) (hpl : (backTo pos (starEach [.Name y p2] X.env)).any (·.1) = false := by rfl) {p3 : Pos} :
    WE (X.suite a ((a, oe) :: pn)) P (.Call (.Name "isinstance" p3) [.Name n p, .Name y p2] [] pos) R Q :=
  .of (pe_callB (call_is1 G hz hf) hg hm (by decide +kernel) (pa_cons (pe_var (X := X.suite a ((a, oe) :: pn)) hi hv h1 h2) (pa_cons (pe_bltn (v := .ty T) hg2 hm2 hv2 rfl hn hd) pa_nil he2) he) (by decide) (by decide) he hpl) fun F σ Hd H w => by
    obtain ⟨s1, x1⟩ := w.exs i a d fs hR
    exact ⟨_, s1, .ty T, _, b, rfl, .ty T, hk, dok_of w.dat x1, .here w (show Rp _ _ _ _ _ _ (.d (.bool b)) _ from .bl b) q⟩
theorem we_isAny {t : TA} {cs : List V} {us : List Value} {b : Bool} (G : ExcC X.K C) (hz : Zc (.ref C) d oe) (hf : ∃ vs, oe.data = .fields vs) (hm : X.mg "isinstance" = none) (hg : Gl X "isinstance") (pa : PA (X.suite a ((a, oe) :: pn)) es t) (ht : ∀ σ H Q, Q cs H → t σ H Q) (hl : cs.length ≤ sizeLine) (hc : Paired ClsV cs us)
    (hi : X.N[i]? = some n) (hv : Vis X.env.scope n) (hR : R[i]? = some (.ex a d fs)) (hk : PySem.W.kitAny X.K (.ref C) us = some b) (q : Q (.d (.bool b)) R)
    (h1 : (n == ("__debug__" : Str)) = false := by decide) (h2 : (n == ("__classdict__" : Str)) = false := by decide) {kk : Nat}
    (he : starEach [.Name n p, .Tuple es kk p2] X.env = (false, eval (.Name n p) X.env) :: starEach [.Tuple es kk p2] X.env := by rfl) (he2 : starEach [.Tuple es kk p2] X.env = (false, eval (.Tuple es kk p2) X.env) :: starEach [] X.env := by rfl) (hpl : (backTo pos (starEach [.Tuple es kk p2] X.env)).any (·.1) = false := by rfl) {p3 : Pos} :
    WE (X.suite a ((a, oe) :: pn)) P (.Call (.Name "isinstance" p3) [.Name n p, .Tuple es kk p2] [] pos) R Q :=
  .of (pe_callB (call_isN G hz hf) hg hm (by decide +kernel) (pa_cons (pe_var (X := X.suite a ((a, oe) :: pn)) hi hv h1 h2) (pa_cons (pe_tup pa) pa_nil he2) he) (by decide) (by decide) he hpl) fun F σ Hd H w => by
    obtain ⟨s1, x1⟩ := w.exs i a d fs hR
    refine ⟨_, s1, ht _ _ _ ⟨hl, fun T hT => ?_⟩⟩
    have w2 := w.allocH (o := .tup cs) hT
    exact ⟨T, cs, us, b, rfl, upd_same, hc, hk, dok_of w2.dat x1, .here w2 (show Rp _ _ _ _ _ _ (.d (.bool b)) _ from .bl b) q⟩
end
end Dl
namespace Dl
open PySem PySem.Spec PyProof.Rows L2
/-! an own exception over any built-in one, whose __init__ keeps its one argument -/
theorem ns1_one {h : Heap} {dx : Addr} {o : Obj} {nm : Str} {t : Tok} {hs : Int} {v : Value} {n : Nat} (g : h.get? dx = some o) (e : o.data = .dict #[⟨hs, .str nm t, v⟩] n) : h.Ns1 dx (fun y => if y = nm then some v else none) := by
  refine ⟨o, _, n, g, e, ?_, ?_, fun y => ?_⟩
  · intro x hx
    simp at hx
    subst hx
    exact ⟨nm, t, rfl⟩
  · simp [UniqKeys]
  · by_cases h : y = nm
    · subst h
      simp [nsFind, findBy, Value.isStr]
    · have h' : ¬ nm = y := fun z => h z.symm
      simp [nsFind, findBy, Value.isStr, h, h']
/-- what the top has of such a class -/
structure ErrO (K : PySem.W.Frag) (mg : Str → Option Value) (x f : Str) (st : Stmt) (C : Addr) : Prop where
  gC : mg x = some (.ref C)
  cls : ∃ (B newId initId : String) (bm : List Value) (nm q : Str) (N : Addr) (bs : List Value) (sn : List Str) (sub : List Value) (ab : Bool) (col : Option Bool) (dd : Option Addr) (k0 k1 k2 k3 k5 : Option Value),
    ExcBaseFacts B newId initId bm ∧ StoreFacts B bm "object.__setattr__" "object" ∧ PySem.W.excOver K C bm = true ∧ K.lookup C = some (excClassObj nm q C N bs bm true sn sub ab col dd k0 k1 k2 k3 k5 newId)
  sa : PySem.W.findIn K (.ref C) "__setattr__" = some (some (.builtin "object.__setattr__"))
  tk : PySem.W.takerIn K C f = some none
  hdC : PySem.W.hasDictIn K C = true
  kC : PySem.W.keepIn K (.ref C) = true
  exC : PySem.W.subIn K (.ref C) (.type "BaseException") = some true
  tyC : PySem.W.typeIn K (.ref C) = some (.type "type")
  fn : ∃ (fI : Addr) (q : Str) (oc : Value) (od : Option Addr) (doc pm : Value) (an : Option Addr) (cdv ct : Value) (osl : Array (Option Value)),
    PySem.W.findIn K (.ref C) "__init__" = some (some (.ref fI)) ∧ PySem.W.typeIn K (.ref fI) = some (.type "function") ∧
    K.lookup fI = some ⟨oc, od, .func (PySem.W.fnOf "__init__" q (defArgs st) (defBody st) (defScope st) .none .none doc pm an cdv ct), osl⟩ ∧ PySem.W.codeIn K cdv q = true
/-- what its __init__ says, in the semantics' own words -/
structure IniTxt (f : Str) (st : Stmt) : Prop where
  body : ∃ p1 p2 p3 p4, defBody st = [.Assign [.Attribute (.Name "self" p1) f p2] (.Name f p3) p4]
  kind : (defScope st).kind = .function
  co : (defScope st).isCoroutine = false
  gen : (defScope st).isGenerator = false
  binds : ∀ (s : Shared) (q : Str) (doc pm : Value) (an : Option Addr) (cdv ct r v : Value), BindsTo s (PySem.W.fnOf "__init__" q (defArgs st) (defBody st) (defScope st) .none .none doc pm an cdv ct) ⟨[r, v], []⟩ [("self", r), (f, v)]
  names : (([(("self" : Str), Value.none), (f, Value.none)] : List (Str × Value)).all fun y => List.lookup y.1 (defScope st).names == some NameKind.local || List.lookup y.1 (defScope st).names == some NameKind.cell) = true
  kS : ∀ q L a cd, (envOfC q (defScope st) L a cd).kindOf "self" = some .local
  kF : ∀ q L a cd, (envOfC q (defScope st) L a cd).kindOf f = some .local
  nS : ∀ q L a cd (r v : Value), bindL (envOfC q (defScope st) L a cd).kindOf [(("self" : Str), r), (f, v)] (fun _ => none) "self" = some r
  nF : ∀ q L a cd (r v : Value), bindL (envOfC q (defScope st) L a cd).kindOf [(("self" : Str), r), (f, v)] (fun _ => none) f = some v
  nd : (f == ("__debug__" : Str)) = false
/-- one is made -/
structure MadeE (h h' : Heap) (e C d : Addr) (f : Str) (v : Value) : Prop where
  keep : ∀ b o, h.get? b = some o → h'.get? b = some o
  new : h.objs.size ≤ e
  obj : ∃ oe vs, h'.get? e = some oe ∧ oe.cls = .ref C ∧ oe.dict = some d ∧ oe.data = .fields vs ∧ vs[1]? = some .none
  dbig : h.objs.size ≤ d
  dne : d ≠ e
  ns : h'.Ns1 d (fun y => if y = f then some v else none)
theorem ld_loc {M : Model} {s : Shared} {name : Str} {scope : Scope} {L a : Addr} {cd : Value} {m : Str → Option Value} {x : Str} {pos : Pos} {v : Value} {Q : Value → Shared → Prop} {A : Around} {E : Value → Shared → Prop} (hn : s.heap.Ns L m) (hv : m x = some v) (h : Q v s)
    (hk : scope.kind = .function) (hl : (envOfC name scope L a cd).kindOf x = some .local) (hd : (x == ("__debug__" : Str)) = false) :
    wpAny M A (eval (.Name x pos) (envOfC name scope L a cd)) Q E s := wpAny_Name (wpAny_loadName_local hk hl hn hv h) hd
theorem err_made {prog : Program} {w : World} {A : Around} {R : Result → Shared → Prop} {s : Shared} {K : PySem.W.Frag} {mg : Str → Option Value} {x f : Str} {st : Stmt} {C : Addr} {v : Value} (T : ErrO K mg x f st C) (I : IniTxt f st) (X : K.In s.heap) (hlim : s.heap.NoLimit) (hroom : A.depth + 1 < recursionLimit)
    (hq : ∀ h' tk e d, MadeE s.heap h' e C d f v → R (.ok (.ret (.ref e))) { s with heap := h', toks := tk }) : codeAny (model prog w) A (.call (.ref C) ⟨[v], []⟩) R s := by
  obtain ⟨B, newId, initId, bm, nm, q, N, bs, sn, sub, ab, col, dd, k0, k1, k2, k3, k5, hB, hS, ov, hC⟩ := T.cls
  obtain ⟨fI, qI, oc, od, doc, pm, an, cdv, ct, osl, iC, tC, hI, hcd⟩ := T.fn
  obtain ⟨p1, p2, p3, p4, hbody⟩ := I.body
  obtain ⟨hp, g, dr, tk, os⟩ := s
  have k0 : ∀ b o, hp.get? b = some o → (hp.push (PySem.W.kdv_tup [v])).get? b = some o := fun b o e => Heap.get?_push_of_some _ e
  have k1 : ∀ b o, (hp.push (PySem.W.kdv_tup [v])).get? b = some o → ((hp.push (PySem.W.kdv_tup [v])).push (HandSPX.excO C hp.objs.size)).get? b = some o := fun b o e => Heap.get?_push_of_some _ e
  have k : ∀ b o, hp.get? b = some o → ((hp.push (PySem.W.kdv_tup [v])).push (HandSPX.excO C hp.objs.size)).get? b = some o := fun b o e => k1 b o (k0 b o e)
  have hget : ((hp.push (PySem.W.kdv_tup [v])).push (HandSPX.excO C hp.objs.size)).get? (hp.objs.size + 1) = some (HandSPX.excO C hp.objs.size) := by heap_get
  have hgn : (hp.push (PySem.W.kdv_tup [v])).get? (hp.objs.size + 1) = none := by
    cases e : (hp.push (PySem.W.kdv_tup [v])).get? (hp.objs.size + 1) with
    | none => rfl
    | some o =>
      have z := Heap.lt_size e
      rw [Heap.size_push] at z
      exact absurd z (Nat.lt_irrefl _)
  refine HandSPX.call_own hB (fun X => rfl) (X _ _ hC) (PySem.W.looks_findIn X iC) (fun self => PySem.W.bind_fn X self tC) (by rw [sizeLine_eq]; exact (by decide : 1 ≤ 16777216)) ?_
  refine Att.call_fn (binds := [("self", .ref (hp.objs.size + 1)), (f, v)]) (X.keeps k) (hlim.keeps k) hI hcd ?_ (I.binds _ _ _ _ _ _ _ _ _) I.names (fun s₁ IC => ?_) I.co I.gen I.kind
  · exact hroom
  obtain ⟨h₁, tk₁, rfl⟩ := IC.toInCall.same
  have kk := IC.toInCall.keep
  have hn := IC.toInCall.ns
  have X₁ : K.In h₁ := X.keeps fun b o e => kk b o (k b o e)
  have hx₁ := kk _ _ hget
  rw [hbody]
  refine wpAny_execs_cons (plainObj_wpAny_Assign_Attribute ?_)
  refine ld_loc (v := v) hn (I.nF _ _ _ _ _ _) (ld_loc (v := .ref (hp.objs.size + 1)) hn (I.nS _ _ _ _ _ _) ?_ I.kind (I.kS _ _ _ _) (by decide)) I.kind (I.kF _ _ _ _) I.nd
  refine PySem.W.set_plain X₁ (ox := HandSPX.excO C hp.objs.size) (od := none) ⟨hx₁, rfl, rfl, trivial⟩ T.sa ?_
  refine PySem.W.osa_exc0 (h₀ := hp.push (PySem.W.kdv_tup [v])) (t := hp.objs.size) (c2 := .none) (pre := []) (post := []) (es := [⟨PyData.keyHash w.params f, .str f (tk₁ + 1), v⟩]) (n := 1) hS ⟨hn, fun b o e => kk b o (k1 b o e), ?_⟩ ?_ X₁ ov T.tk T.hdC (fun p hp => by cases hp) (fun p hp => by cases hp) rfl rfl (by show 1 ≤ 1000; decide) fun dx h' fr nw lt => ?_
  · rw [Heap.size_push (hp.push _)]
    exact Nat.le_succ _
  · intro p hp'
    obtain rfl := List.mem_singleton.mp hp'
    refine ⟨hx₁, fun z => ?_, hgn⟩
    have z' : hp.objs.size + 1 = ((hp.push (PySem.W.kdv_tup [v])).push (HandSPX.excO C hp.objs.size)).objs.size := z
    rw [Heap.size_push, Heap.size_push] at z'
    omega
  · refine wpAny_execs_nil ?_
    have nd := nw _ List.mem_cons_self
    have nx := nw _ (List.mem_cons_of_mem _ List.mem_cons_self)
    have l := lt _ List.mem_cons_self
    have l' : hp.objs.size + 1 < dx := l
    exact ⟨rfl, hq h' _ (hp.objs.size + 1) dx ⟨fun b o e => fr.keep b o (k0 b o e), Nat.le_succ _, ⟨_, _, nx.1, rfl, rfl, rfl, rfl⟩, Nat.le_of_lt (Nat.lt_of_succ_lt l'), Nat.ne_of_gt l', ns1_one nd.1 rfl⟩⟩
theorem relO_one {v : V} {v' : Value} (r : L2.RelV v v') (f y : Str) : RelO (List.lookup y [(f, v)]) (if y = f then some v' else none) := by
  by_cases h : y = f
  · subst h
    rw [if_pos rfl, List.lookup_cons]
    simp only [BEq.rfl]
    exact r
  · rw [if_neg h, List.lookup_cons]
    have : (y == f) = false := by simpa using h
    rw [this]
    trivial
/-- C(e) -/
def tMkE (C : Addr) (f : Str) (ta : TA) : L2.St → Hp → XK → Prop := fun σ H Q => ta σ H fun vs H1 => ∃ v, vs = [v] ∧ ∀ d, H1 d = none → Q (.ref C) (some d) (upd H1 d (.xd [(f, v)]))
section
variable {X : Cx} {x f : Str} {st : Stmt} {C : Addr}
theorem pmk_err {a : Expr} {ta : TA} {p pos : Pos} {k : Nat} (T : ErrO X.K X.mg x f st C) (I : IniTxt f st) (hr : Room k X.A) (hk : 1 ≤ k) (ha : PA X [a] ta) (hg : Gl X x) (hdb : (x == ("__debug__" : Str)) = false)
    (he : starEach (a :: []) X.env = (false, eval a X.env) :: starEach [] X.env := by rfl) (hpl : (backTo pos (starEach [] X.env)).any (·.1) = false := by rfl) : PMk X (.Call (.Name x p) [a] [] pos) (tMkE C f ta) := by
  intro pins s σ H Q J h
  refine wpAny_Call_Name_kw (ld_glob J hg T.gC ?_ hdb)
  refine PySem.W.callWith_K (h₀ := X.base) J.ok.mod.kin T.kC (thn (ha.run pos pins s σ H _ J h) fun us s1 hh => ?_) he hpl
  obtain ⟨vs, H1, I1, r1, v, ev, q1⟩ := hh
  subst ev
  refine ⟨I1.kIn, ?_⟩
  cases r1 with
  | cons rv rn =>
    rename_i v' us'
    cases rn
    show wpAny _ _ (call (.ref C) [v']) _ _ _
    have hlim := I1.nolimit
    obtain ⟨hp, g, dr, tk, os⟩ := s1
    refine wpAny_call (err_made T I I1.kIn hlim (by have := (hr.mono hk).dp; omega) fun h' tk' e d M => ?_)
    show MkP X pins σ Q (.ref e) ⟨h', g, dr, tk', os⟩
    obtain ⟨oe, fv, hoe, hc, hd, hdat, h1⟩ := M.obj
    have hns := M.ns
    -- the heap without the exception itself
    obtain ⟨G', g1, g2⟩ := restrict h' fun b => decide (b ≠ e)
    have gk : ∀ b, b ≠ e → G'.get? b = h'.get? b := fun b hb => g1 b (decide_eq_true hb)
    have ge : G'.get? e = none := g2 e (by simp)
    have old : ∀ b o, hp.get? b = some o → G'.get? b = some o := fun b o q => (gk b (Nat.ne_of_lt (Nat.lt_of_lt_of_le (Heap.lt_size q) M.new))).trans (M.keep b o q)
    have ob : ObjOk X.prog X.w (upd H1 d (.xd [(f, v)])) G' d (.xd [(f, v)]) := ⟨_, hns.at (fun o q => (gk d M.dne).trans q), fun y => relO_one rv f y⟩
    have J1 : Inv X pins σ (upd H1 d (.xd [(f, v)])) ⟨G', g, dr, tk', os⟩ := I1.laid (t' := tk') old M.dbig ob
    refine ⟨e, oe, fv, ⟨G', g, dr, tk', os⟩, _, .ref C, some d, rfl, J1, fun b o q => ?_, ge, hoe, ⟨hc, hd⟩, hdat, h1, ?_, rfl, I1.bare, raises_own T.exC T.tyC, q1 d (I1.hok.fresh M.dbig)⟩
    · by_cases hb : b = e
      · have q' : G'.get? b = some o := q
        rw [hb, ge] at q'
        cases q'
      · exact (gk b hb).symm.trans q
    · rw [upd_ne (Ne.symm M.dne)]
      exact I1.hok.fresh M.new
end
section
variable {X : Cx} {P : List Nat} {R : DS} {e : Expr} {pos p pos2 : Pos} {D' : DEnds} {q : XQ}
/-- raise C(e) -/
theorem wx_raiseO {x f : Str} {st : Stmt} {C : Addr} {k : Nat} (T : ErrO X.K X.mg x f st C) (I : IniTxt f st) (hc : X.calm = true) (hr : Room k X.A) (hk : 1 ≤ k) (hg : Gl X x)
    (h : WE X P e R fun sv R1 => asD sv fun d => q C [(f, d)] R1) (hdb : (x == ("__debug__" : Str)) = false := by decide)
    (he : starEach [e] X.env = (false, eval e X.env) :: starEach [] X.env := by rfl) (hpl : (backTo pos (starEach [] X.env)).any (·.1) = false := by rfl) : WSx X P (.Raise (some (.Call (.Name x p) [e] [] pos)) none pos2) R D' q :=
  ⟨fun F σ Hd H w W tk hq => by
    refine TSm.of (ps_raise hc tk (pmk_err T I hr hk (pa_cons pe_m pa_nil he) hg hdb he hpl)) ?_
    refine h.fzD.use w fun Hd1 R1 sv v H1 e1 w1 r1 q1 => ?_
    obtain ⟨d, rfl, q1⟩ := q1
    refine ⟨v, rfl, fun dx hdx => ?_⟩
    obtain ⟨w2, s2⟩ := w1.allocD (o := .xd [(f, v)]) hdx
    exact hq _ _ _ _ ⟨_, R1, C, [(f, d)], e1.trans s2, w2, rfl, ⟨[(f, v)], upd_same, .cons ⟨rfl, dpMono s2 r1⟩ .nil⟩, q1⟩⟩
end
end Dl
namespace Dl
open PySem PySem.Spec PyProof.Rows L2
/-! a def that may raise, called where it doesn't -/
theorem FnG.calm {Pg : Program} {w : World} {K : PySem.W.Frag} {mg : Str → Option Value} {base : Heap} {k : Nat} {f : Addr} {fd : FuncData} {ps : List Str} {sp sp' : Sp} (G : FnG Pg w K mg base (L2.CX Pg w) k f fd ps sp) (h : ∀ vs H Q E, sp' vs H Q E → sp vs H Q fun _ _ _ => False) : FnG Pg w K mg base CX0 k f fd ps sp' :=
  ⟨fun vs H Q E z => G.len vs H Q _ (h vs H Q E z), fun A outer s H args us vs Q E g r e b v z =>
    codeAny_mono (G.run A outer s H args us vs Q _ g r e b v (h vs H Q E z)) fun res s' hq => by
      match res, hq with
      | .error ex, hq =>
        obtain ⟨_, _, _, _, _, _, _, _, _, _, _, _, z⟩ := hq
        exact (z : False).elim
      | .ok (.ret u), hq => exact hq
      | .ok .next, hq => exact (hq : False).elim
      | .ok .brk, hq => exact (hq : False).elim
      | .ok .cont, hq => exact (hq : False).elim⟩
theorem CanX.can {Pg : Program} {w : World} {K : PySem.W.Frag} {mg : Str → Option Value} {base : Heap} {k : Nat} {x : Str} {S : SpX} {S' : SpD} (C : CanX Pg w K mg base k x S) (mono : ∀ A Z Z', (∀ sv R', Z sv R' → Z' sv R') → S' A Z → S' A Z') (h : ∀ R Q, S' R Q → S R Q fun _ _ _ => False) : Can Pg w K mg base k x S' := by
  obtain ⟨f, fd, ps, G, h1, h2, h3⟩ := C.ex
  exact ⟨⟨f, fd, ps, G.calm fun vs H Q E ⟨F, Hd, R, w, z⟩ => ⟨F, Hd, R, w, C.mono _ _ _ _ _ (fun _ _ z => z) (fun _ _ _ z => False.elim z) (h _ _ z)⟩, h1, h2, h3⟩, mono⟩
end Dl
namespace Dl
open PySem PySem.Spec PyProof.Rows L2
section
variable {X : Cx} {P : List Nat} {R : DS} {a : Expr} {pos p : Pos} {Q : SV → DS → Prop}
/-- str(e) of an int -/
theorem we_strI (hm : X.mg "str" = none) (hg : Gl X "str") (h : WE X P a R fun x R1 => asI x fun i => i.natAbs.log2 < 1920 ∧ Q (.d (.str (toString i : String))) R1)
    (he : starEach [a] X.env = (false, eval a X.env) :: starEach [] X.env := by rfl) (hpl : (backTo pos (starEach [] X.env)).any (·.1) = false := by rfl) : WE X P (.Call (.Name "str" p) [a] [] pos) R Q :=
  callT1 call_str_int hg hm (by decide +kernel) h (fun F σ Hd H sv R1 v Z w r g k => by
    obtain ⟨i, rfl, hi, q⟩ := g.elim
    cases (show Dq _ _ v (.int i) from r)
    exact ⟨i, rfl, hi, k _ _ (.here w (show Rp _ _ _ _ _ _ (.d (.str (toString i : String))) _ from .str _) q)⟩) (he := he) (hpl := hpl)
end
end Dl
namespace Dl
open PySem PySem.Spec PyProof.Rows L2
section
variable {X : Cx} {P : List Nat} {R : DS} {a b c tg : Expr} {pos p : Pos} {D' : DEnds}
/-- for .. in range(a, b, c) -/
theorem ws_forR3 {js : List Nat} {body : List Stmt} {p pc : Pos} (hp : PassesOwn (model X.prog X.w) X.A X.env X.xe) (hc : X.calm = true) (hm : X.mg "range" = none) (hg : Gl X "range")
    (h : WA X P [a, b, c] R fun svs R1 => ∃ (i j cc : Int) (n : Nat), svs = [.d (.int i), .d (.int j), .d (.int cc)] ∧ RgC i j cc n ∧ ∃ (I : Nat → DS → Prop), I 0 R1 ∧
      (∀ (k : Nat) R', k < n → I k R' → WG X P tg js R' (.int (i + (k : Nat) * cc)) fun R2 => WSs X P body R2 (bodyD (I (k + 1)) D')) ∧ (∀ R', I n R' → D'.nx R'))
    (ha : starEach [a, b, c] X.env = (false, eval a X.env) :: starEach [b, c] X.env := by rfl) (ha2 : (backTo pc (starEach [b, c] X.env)).any (·.1) = false := by rfl)
    (hs : ∀ x, foldedSetIterable (.Call (.Name "range" p) [a, b, c] [] pc) X.env x = pure x := by intro _; rfl) : WS X P (.For tg (.Call (.Name "range" p) [a, b, c] [] pc) body [] pos) R D' :=
  .of (ps_for hp hc (pi_range3 hg hm pa_m ha ha2) pg_m pss_m hs) fun F σ Hd H w => (h.run F σ Hd H w).mono fun vs H1 ⟨Hd1, R1, svs, e1, w1, rel, q1⟩ => by
    obtain ⟨i, j, cc, n, rfl, hn, I, i0, step, fin⟩ := q1
    obtain ⟨v1, v2, v3, rfl, r1, r2, r3⟩ : ∃ v1 v2 v3, vs = [v1, v2, v3] ∧ Dq X.K Hd1 v1 (.int i) ∧ Dq X.K Hd1 v2 (.int j) ∧ Dq X.K Hd1 v3 (.int cc) := by
      cases rel with
      | cons r1 t =>
        cases t with
        | cons r2 t =>
          cases t with
          | cons r3 t =>
            cases t
            exact ⟨_, _, _, rfl, r1, r2, r3⟩
    cases (show Dq _ _ v1 (.int i) from r1)
    cases (show Dq _ _ v2 (.int j) from r2)
    cases (show Dq _ _ v3 (.int cc) from r3)
    refine ⟨i, j, cc, n, rfl, hn, for_rangeC (fun k σ' H' => up X.K F P Hd1 (I k) σ' H') ⟨Hd1, R1, Same.refl _, w1, i0⟩ (fun k σ' H' hk ⟨Hd', R', e', w', hI⟩ => ?_) (fun σ' H' ⟨Hd', R', e', w', hi⟩ => ⟨Hd', R', e1.trans e', w', fin R' hi⟩)⟩
    refine ((step k R' hk hI).run F σ' Hd' H' _ w' (.int _)).mono fun σ2 H2 ⟨Hd2, R2, e2, w2, _, q2⟩ => ?_
    exact (q2.run F σ2 Hd2 H2 w2).mono (turn_le e1 (e'.trans e2) (upD_le e1))
theorem rg4 : ∀ l : Nat, l ≤ 16 → RgC 0 (l : Int) 4 ((l + 3) / 4) := by
  unfold RgC
  decide +kernel
end
end Dl
namespace Dl
open PySem PySem.Spec PyProof.Rows L2
/-! comprehensions of two clauses, the first over a list, the second over a list or a tuple -/
theorem it_list {K : PySem.W.Frag} {a : Addr} {xs : List V} {H0 : Hp} {Body : (Hp → Prop) → V → Hp → Prop} {Nx : Hp → Prop} (Pv : Nat → Hp → Prop) (h0 : Pv 0 H0) (hl : ∀ i H, i ≤ xs.length → Pv i H → SqL K H a xs)
    (hs : ∀ i x H, xs[i]? = some x → Pv i H → Body (Pv (i + 1)) x H) (hd : ∀ H, Pv xs.length H → Nx H) :
    ∃ W : Nat → Nat → Hp → Prop, (∃ m, W 0 m H0) ∧ ∀ i m H, W i m H →
      ((Itl K a).stop i H ∧ Nx H) ∨ ((Itl K a).go i H ∧ ∃ N : Hp → Prop, (∀ H', N H' → ∃ m', m' < m ∧ W (i + 1) m' H') ∧ ∀ x H', (Itl K a).yld i H x H' → Body N x H') := by
  refine ⟨fun i m H => m = xs.length - i ∧ i ≤ xs.length ∧ Pv i H, ⟨xs.length, by simp, Nat.zero_le _, h0⟩, ?_⟩
  rintro i m H ⟨rfl, hi, p⟩
  have q := hl i H hi p
  by_cases hlt : i < xs.length
  · refine .inr ⟨⟨xs, xs[i], q, by simp [hlt]⟩, Pv (i + 1), fun H' p' => ⟨xs.length - (i + 1), by omega, rfl, hlt, p'⟩, fun x H' y => ?_⟩
    obtain ⟨e, y⟩ := y
    subst e
    exact hs i x _ (y xs q) p
  · have e : i = xs.length := by omega
    subst e
    exact .inl ⟨⟨xs, q, Nat.le_refl _⟩, hd H p⟩
theorem it_tup {K : PySem.W.Frag} {a : Addr} {xs : List V} {H0 : Hp} {Body : (Hp → Prop) → V → Hp → Prop} {Nx : Hp → Prop} (Pv : Nat → Hp → Prop) (h0 : Pv 0 H0) (hl : ∀ i H, i ≤ xs.length → Pv i H → SqT K H a xs)
    (hs : ∀ i x H, xs[i]? = some x → Pv i H → Body (Pv (i + 1)) x H) (hd : ∀ H, Pv xs.length H → Nx H) :
    ∃ W : Nat → Nat → Hp → Prop, (∃ m, W 0 m H0) ∧ ∀ i m H, W i m H →
      ((Itt K a).stop i H ∧ Nx H) ∨ ((Itt K a).go i H ∧ ∃ N : Hp → Prop, (∀ H', N H' → ∃ m', m' < m ∧ W (i + 1) m' H') ∧ ∀ x H', (Itt K a).yld i H x H' → Body N x H') := by
  refine ⟨fun i m H => m = xs.length - i ∧ i ≤ xs.length ∧ Pv i H, ⟨xs.length, by simp, Nat.zero_le _, h0⟩, ?_⟩
  rintro i m H ⟨rfl, hi, p⟩
  have q := hl i H hi p
  by_cases hlt : i < xs.length
  · refine .inr ⟨⟨xs, xs[i], q, by simp [hlt]⟩, Pv (i + 1), fun H' p' => ⟨xs.length - (i + 1), by omega, rfl, hlt, p'⟩, fun x H' y => ?_⟩
    obtain ⟨e, y⟩ := y
    subst e
    exact hs i x _ (y xs q) p
  · have e : i = xs.length := by omega
    subst e
    exact .inl ⟨⟨xs, q, Nat.le_refl _⟩, hd H p⟩
theorem wipe_get {τ : L2.St} {l : List Nat} {k : Nat} : (wipe τ l)[k]? = if k ∈ l ∧ k < τ.length then some none else τ[k]? := by
  induction l with
  | nil => simp [wipe]
  | cons v l ih =>
    show ((wipe τ l).set v none)[k]? = _
    by_cases hk : v = k
    · subst hk
      by_cases hv : v < τ.length
      · rw [List.getElem?_set_self (by rw [wipe_length]; exact hv), if_pos ⟨List.mem_cons_self, hv⟩]
      · rw [List.getElem?_eq_none (by rw [List.length_set, wipe_length]; omega), if_neg fun z => hv z.2, List.getElem?_eq_none (by omega)]
    · rw [List.getElem?_set_ne hk, ih]
      have : (k ∈ v :: l) ↔ k ∈ l := by
        rw [List.mem_cons]
        exact ⟨fun h => h.elim (fun z => absurd z.symm hk) id, .inr⟩
      simp only [this]
theorem wipe_sub {τ : L2.St} {l vs : List Nat} (h : ∀ v ∈ l, v ∈ vs) : wipe (wipe τ l) vs = wipe τ vs := by
  apply List.ext_getElem?
  intro k
  rw [wipe_get, wipe_get, wipe_get, wipe_length]
  by_cases hk : k ∈ vs ∧ k < τ.length
  · rw [if_pos hk, if_pos hk]
  · rw [if_neg hk, if_neg hk]
    by_cases hl : k ∈ l ∧ k < τ.length
    · exact absurd ⟨h k hl.1, hl.2⟩ hk
    · rw [if_neg hl]
/-- where it stands, the new list at Dl -/
def Lq (K : PySem.W.Frag) (F : Fr) (P : List Nat) (τ : L2.St) (Hd1 : Hp) (Dl : Addr) (J : List D → DS → Prop) (H' : Hp) : Prop :=
  ∃ Hd' R' va acc, Same Hd1 Hd' ∧ Wd K F P R' τ Hd' H' ∧ H' Dl = some (.lst va) ∧ DqAll K Hd' va acc ∧ Hd' Dl = none ∧ NoOwn R' τ Dl ∧ J acc R'
section
variable {X : Cx} {P : List Nat} {R : DS} {elt tg it tg1 it1 c : Expr} {scope : Scope} {js js1 vs vs1 : List Nat} {pos : Pos} {Q : SV → DS → Prop}
/-- a test or none -/
def ifsOf : Option Expr → List Expr
  | none => []
  | some c => [c]
def ttO (X : Cx) (scope : Scope) : Option Expr → TT
  | none => tYes
  | some c => ttB X scope c
def WTo (X : Cx) (P : List Nat) (scope : Scope) (o : Option Expr) (R : DS) (Q : Bool → DS → Prop) : Prop :=
  match o with
  | none => Q true R
  | some c => AllB X scope fun Y => WT Y P c R Q
theorem pts_o {o : Option Expr} (s : Shared) (H : Hp) (C : Addr) (cl : List (Str × Addr)) (fp : List Addr) : PTs (X.blk s H scope (compEnvC scope cl C X.env) fp) (ifsOf o) (ttO X scope o) := by
  cases o with
  | none => exact pts_nil
  | some c => exact pts_one ⟨fun pins s' σ H' Z I h => h s H C cl fp pins s' I⟩
theorem wto_use {o : Option Expr} {F : Fr} {σ : L2.St} {Hd1 H1 : Hp} {Qt : Bool → DS → Prop} {Z : Bool → Hp → Prop} (h : WTo X P scope o R Qt) (w : Wd X.K F P R σ Hd1 H1)
    (k : ∀ Hd2 R2 b H2, Same Hd1 Hd2 → Wd X.K F P R2 σ Hd2 H2 → Qt b R2 → Z b H2) : ttO X scope o σ H1 Z := by
  cases o with
  | none => exact k Hd1 R true H1 (Same.refl _) w h
  | some c => exact fun s H0 C cl fp => (h s H0 C cl fp).use w fun Hd2 R2 b H2 e2 w2 q2 => k Hd2 R2 b H2 e2 w2 q2
/-- a turn of the second clause -/
def In1 (X : Cx) (P : List Nat) (scope : Scope) (tg1 : Expr) (o1 : Option Expr) (elt : Expr) (js1 vs1 : List Nat) (J J' : List D → DS → Prop) (y : D) : Prop :=
  ∀ acc R', J acc R' → AllB X scope fun Y => WG Y P tg1 js1 R' y fun R2 => WTo X P scope o1 R2 fun b R3 =>
    (b = true → AllB X scope fun Y => WE Y P elt R3 fun sv R4 => asD sv fun z => acc.length < sizeLine ∧ J' (acc ++ [z]) (wipeR R4 vs1)) ∧ (b = false → J' acc (wipeR R3 vs1))
theorem in_turn {o1 : Option Expr} {F : Fr} {σ2 : L2.St} {Hd1 : Hp} {Dl : Addr} {J J' : List D → DS → Prop} {x : V} {y : D} {H : Hp} (hf : F.Hf Dl = none) (hz : ¬ F.Fz Dl) (hvs : ∀ v ∈ vs1, v ∉ P) (hj : ∀ j ∈ js1, j ∈ vs1)
    (h : Lq X.K F P (wipe σ2 vs1) Hd1 Dl J H) (hx : ∀ Hd', Same Hd1 Hd' → Dq X.K Hd' x y) (st : In1 X P scope tg1 o1 elt js1 vs1 J J' y) :
    gB X scope tg1 x (wipe σ2 vs1) H fun σ3 H5 => wipe σ3 vs1 = wipe σ2 vs1 ∧ ttO X scope o1 σ3 H5 fun b H6 =>
      if b = true then teB X scope elt σ3 H6 fun u H7 => ∃ acc, H7 Dl = some (.lst acc) ∧ acc.length < sizeLine ∧ Lq X.K F P (wipe σ2 vs1) Hd1 Dl J' (upd H7 Dl (.lst (acc ++ [u]))) else Lq X.K F P (wipe σ2 vs1) Hd1 Dl J' H6 := by
  obtain ⟨Hd', R', va, acc, e, w, h1, h2, h3, h4, h6⟩ := h
  have tn := st acc R' h6
  intro s H0 C cl fp
  refine ((tn s H0 C cl fp).run (F.with Dl (.lst va)) _ Hd' H x (w.enter h1 h3 h4) (hx Hd' e)).mono fun σ3 H2 ⟨Hd2, R2, e2, w2, wp, q2⟩ => ?_
  have hw : wipe σ3 vs1 = wipe σ2 vs1 := by rw [wp vs1 hj, wipe_wipe]
  refine ⟨hw, wto_use q2 w2 fun Hd3 R3 b H3 e3 w3 q3 => ?_⟩
  have hv3 := dpAllMono (e2.trans e3) h2
  cases b with
  | true =>
    refine iteT fun s H0 C cl fp => ((q3.1 rfl) s H0 C cl fp).fzD.use w3 fun Hd4 R4 y4 u H4 e4 w4 r4 q4 => ?_
    obtain ⟨z, rfl, ql, q⟩ := q4
    obtain ⟨w5, g1, g2, g3⟩ := Wd.leave w4 hf hz
    refine ⟨va, g1, by rw [dpAllLen hv3]; exact ql, Hd4, wipeR R4 vs1, va ++ [u], acc ++ [z], ((e.trans e2).trans e3).trans e4, ?_, upd_same, dpAllApp (dpAllMono e4 hv3) (.cons r4 .nil), g2, ?_, q⟩
    · rw [← hw]
      exact (w5.poke g1 (crp_bare (crL (K := X.K) (dpAllMono e4 hv3))) g2 hf g3).wiped hvs
    · rw [← hw]
      exact g3.wiped
  | false =>
    refine iteF ?_
    obtain ⟨w5, g1, g2, g3⟩ := Wd.leave w3 hf hz
    refine ⟨Hd3, wipeR R3 vs1, va, acc, (e.trans e2).trans e3, ?_, g1, hv3, g2, ?_, q3.2 rfl⟩
    · rw [← hw]
      exact w5.wiped hvs
    · rw [← hw]
      exact g3.wiped
/-- a turn of the first clause; il: the second is over a list -/
def Out (X : Cx) (P : List Nat) (scope : Scope) (il : Bool) (tg : Expr) (o : Option Expr) (tg1 it1 : Expr) (o1 : Option Expr) (elt : Expr) (js js1 vs vs1 : List Nat) (J J' : List D → DS → Prop) (x : D) : Prop :=
  ∀ acc R', J acc R' → AllB X scope fun Y => WG Y P tg js R' x fun R2 => WTo X P scope o R2 fun b R3 => (b = false → J' acc (wipeR R3 vs)) ∧
    (b = true → AllB X scope fun Y => WE Y P it1 R3 fun sv R4 => asD sv fun d => ∃ ys, d = (if il = true then .list ys else .tuple ys) ∧ ∃ I1 : Nat → List D → DS → Prop, I1 0 acc (wipeR R4 vs1) ∧
      (∀ j y, ys[j]? = some y → In1 X P scope tg1 o1 elt js1 vs1 (I1 j) (I1 (j + 1)) y) ∧ ∀ acc R', I1 ys.length acc R' → J' acc (wipeR R' vs))
def iIn (X : Cx) (scope : Scope) (il : Bool) (it1 : Expr) : TI := if il = true then iList X.K (teB X scope it1) else iTup X.K (teB X scope it1)
theorem out_turn {il : Bool} {o o1 : Option Expr} {F : Fr} {σ : L2.St} {Hd1 : Hp} {Dl : Addr} {J J' : List D → DS → Prop} {x : V} {y : D} {H : Hp} (hf : F.Hf Dl = none) (hz : ¬ F.Fz Dl) (hvs : ∀ v ∈ vs, v ∉ P) (hj : ∀ j ∈ js, j ∈ vs) (hv1 : ∀ v ∈ vs1, v ∈ vs) (hj1 : ∀ j ∈ js1, j ∈ vs1)
    (h : Lq X.K F P (wipe σ vs) Hd1 Dl J H) (hx : ∀ Hd', Same Hd1 Hd' → Dq X.K Hd' x y) (st : Out X P scope il tg o tg1 it1 o1 elt js js1 vs vs1 J J' y) :
    gB X scope tg x (wipe σ vs) H fun σ2 H2 => wipe σ2 vs = wipe σ vs ∧ ttO X scope o σ2 H2 fun b H3 =>
      if b = true then iIn X scope il it1 σ2 H3 fun J1 H4 => ∃ W1 : Nat → Nat → Hp → Prop, (∃ m, W1 0 m H4) ∧ ∀ j k H, W1 j k H →
        (J1.stop j H ∧ Lq X.K F P (wipe σ vs) Hd1 Dl J' H) ∨ (J1.go j H ∧ ∃ Nx1 : Hp → Prop, (∀ H', Nx1 H' → ∃ k', k' < k ∧ W1 (j + 1) k' H') ∧ ∀ x H', J1.yld j H x H' → gB X scope tg1 x (wipe σ2 vs1) H' fun σ3 H5 => wipe σ3 vs1 = wipe σ2 vs1 ∧ ttO X scope o1 σ3 H5 fun b H6 =>
          if b = true then teB X scope elt σ3 H6 fun y H7 => ∃ acc, H7 Dl = some (.lst acc) ∧ acc.length < sizeLine ∧ Nx1 (upd H7 Dl (.lst (acc ++ [y]))) else Nx1 H6)
      else Lq X.K F P (wipe σ vs) Hd1 Dl J' H3 := by
  obtain ⟨Hd', R', va, acc, e, w, h1, h2, h3, h4, h6⟩ := h
  have tn := st acc R' h6
  have hv1P : ∀ v ∈ vs1, v ∉ P := fun v hv => hvs v (hv1 v hv)
  intro s H0 C cl fp
  refine ((tn s H0 C cl fp).run (F.with Dl (.lst va)) _ Hd' H x (w.enter h1 h3 h4) (hx Hd' e)).mono fun σ2 H2 ⟨Hd2, R2, e2, w2, wp, q2⟩ => ?_
  have hw : wipe σ2 vs = wipe σ vs := by rw [wp vs hj, wipe_wipe]
  have hw1 : wipe (wipe σ2 vs1) vs = wipe σ vs := (wipe_sub hv1).trans hw
  refine ⟨hw, wto_use q2 w2 fun Hd3 R3 b H3 e3 w3 q3 => ?_⟩
  have hv3 := dpAllMono (e2.trans e3) h2
  have e03 := (e.trans e2).trans e3
  cases b with
  | false =>
    refine iteF ?_
    obtain ⟨w5, g1, g2, g3⟩ := Wd.leave w3 hf hz
    refine ⟨Hd3, wipeR R3 vs, va, acc, e03, ?_, g1, hv3, g2, ?_, q3.1 rfl⟩
    · rw [← hw]
      exact w5.wiped hvs
    · rw [← hw]
      exact g3.wiped
  | true =>
    have q3 := q3.2 rfl
    have fin : ∀ {I1 : Nat → List D → DS → Prop} {n : Nat} {H : Hp} {Hd4 : Hp}, Same Hd1 Hd4 → (∀ acc R', I1 n acc R' → J' acc (wipeR R' vs)) → Lq X.K F P (wipe σ2 vs1) Hd4 Dl (I1 n) H → Lq X.K F P (wipe σ vs) Hd1 Dl J' H := fun e4 f ⟨Hd5, R5, va5, acc5, e5, w5, k1, k2, k3, k4, k5⟩ => by
      refine ⟨Hd5, wipeR R5 vs, va5, acc5, e4.trans e5, ?_, k1, k2, k3, ?_, f _ _ k5⟩
      · rw [← hw1]
        exact w5.wiped hvs
      · rw [← hw1]
        exact k4.wiped
    cases il with
    | true =>
      refine iteT fun s H0 C cl fp => (q3 s H0 C cl fp).fzD.use w3 fun Hd4 R4 sv v H4 e4 w4 r4 q4 => ?_
      obtain ⟨d, rfl, ys, rfl, I1, i0, step, fi⟩ := q4
      have r' : Dq X.K Hd4 v (.list ys) := r4
      cases r' with
      | lst hS hv =>
        rename_i a ws
        obtain ⟨w5, g1, g2, g3⟩ := Wd.leave w4 hf hz
        refine ⟨a, rfl, ⟨ws, w4.dat.seq hS⟩, ?_⟩
        refine it_list (K := X.K) (xs := ws) (fun j H => Lq X.K F P (wipe σ2 vs1) Hd4 Dl (I1 j) H) ⟨Hd4, wipeR R4 vs1, va, acc, Same.refl _, w5.wiped hv1P, g1, dpAllMono e4 hv3, g2, g3.wiped, i0⟩ (fun j H _ ⟨Hd5, _, _, _, e5, w5, _⟩ => w5.dat.seq (e5.seq hS)) (fun j x H hx hL => ?_) (fun H hL => fin (e03.trans e4) fi (by rw [dpAllLen hv] at hL; exact hL))
        obtain ⟨z, hz1, hdp⟩ := dpAllGetV hv hx
        exact in_turn hf hz hv1P hj1 hL (fun Hd' e' => dpMono e' hdp) (step j z hz1)
    | false =>
      refine iteT fun s H0 C cl fp => (q3 s H0 C cl fp).fzD.use w3 fun Hd4 R4 sv v H4 e4 w4 r4 q4 => ?_
      obtain ⟨d, rfl, ys, rfl, I1, i0, step, fi⟩ := q4
      have r' : Dq X.K Hd4 v (.tuple ys) := r4
      cases r' with
      | tup hS hv =>
        rename_i a ws
        obtain ⟨w5, g1, g2, g3⟩ := Wd.leave w4 hf hz
        refine ⟨a, rfl, ⟨ws, sameT w4.dat (SqT.of hS)⟩, ?_⟩
        refine it_tup (K := X.K) (xs := ws) (fun j H => Lq X.K F P (wipe σ2 vs1) Hd4 Dl (I1 j) H) ⟨Hd4, wipeR R4 vs1, va, acc, Same.refl _, w5.wiped hv1P, g1, dpAllMono e4 hv3, g2, g3.wiped, i0⟩ (fun j H _ ⟨Hd5, _, _, _, e5, w5, _⟩ => sameT w5.dat (sameT e5 (SqT.of hS))) (fun j x H hx hL => ?_) (fun H hL => fin (e03.trans e4) fi (by rw [dpAllLen hv] at hL; exact hL))
        obtain ⟨z, hz1, hdp⟩ := dpAllGetV hv hx
        exact in_turn hf hz hv1P hj1 hL (fun Hd' e' => dpMono e' hdp) (step j z hz1)
theorem pi_in {il : Bool} (s : Shared) (H : Hp) (C : Addr) (cl : List (Str × Addr)) (fp : List Addr) : PI (X.blk s H scope (compEnvC scope cl C X.env) fp) tg1 it1 (iIn X scope il it1) := by
  have pe : PE (X.blk s H scope (compEnvC scope cl C X.env) fp) it1 (teB X scope it1) := ⟨fun pins s' σ H' Z I h => h s H C cl fp pins s' I⟩
  cases il with
  | true => exact pi_list pe
  | false => exact pi_tup pe
theorem lc2_fits {il : Bool} {o o1 : Option Expr} (hvs : ∀ v ∈ vs, v ∉ P) (hj : ∀ j ∈ js, j ∈ vs) (hv1 : ∀ v ∈ vs1, v ∈ vs) (hj1 : ∀ j ∈ js1, j ∈ vs1)
    (h : WE X P it R fun sv R1 => asD sv fun d => ∃ xs, d = .list xs ∧ ∃ I : Nat → List D → DS → Prop, I 0 [] (wipeR R1 vs) ∧ (∀ i x, xs[i]? = some x → Out X P scope il tg o tg1 it1 o1 elt js js1 vs vs1 (I i) (I (i + 1)) x) ∧ ∀ acc R', I xs.length acc R' → Q (.own (.lst acc)) R') :
    Fits X P R (tLc2 (iList X.K (TEm X it)) (gB X scope tg) (ttO X scope o) (iIn X scope il it1) (gB X scope tg1) (ttO X scope o1) (teB X scope elt) vs vs1) Q :=
  fun F σ Hd H w Z hZ => h.fzD.use w fun Hd1 R1 sv v H1 e1 w1 r1 q1 => by
    obtain ⟨d, rfl, xs, rfl, I, i0, step, fin⟩ := q1
    have r' : Dq X.K Hd1 v (.list xs) := r1
    cases r' with
    | lst hS hv =>
      rename_i a ws
      refine ⟨a, rfl, ⟨ws, w1.dat.seq hS⟩, fun Dl hD => ?_⟩
      have hf : F.Hf Dl = none := sameNone w1.frm hD
      have hz : ¬ F.Fz Dl := fun z => (w1.prot Dl z).2 hf
      have no : NoOwn R1 σ Dl := fun i n e z => by
        obtain ⟨b, u, s1, s2, _⟩ := w1.own i n e
        rw [z] at s1
        cases s1
        rw [hD] at s2
        cases s2
      refine it_list (K := X.K) (xs := ws) (fun i H => Lq X.K F P (wipe σ vs) Hd1 Dl (I i) H) ⟨Hd1, _, [], [], Same.refl _, (w1.allocH hD).wiped hvs, upd_same, .nil, sameNone w1.dat hD, no.wiped, i0⟩ (fun i H _ ⟨Hd5, _, _, _, e5, w5, _⟩ => w5.dat.seq (e5.seq hS)) (fun i x H hx hL => ?_) (fun H hL => ?_)
      · obtain ⟨z, hz1, hdp⟩ := dpAllGetV hv hx
        exact out_turn hf hz hvs hj hv1 hj1 hL (fun Hd' e' => dpMono e' hdp) (step i z hz1)
      · rw [dpAllLen hv] at hL
        obtain ⟨Hd', R', va, acc, e, w, h1, h2, h3, h4, h6⟩ := hL
        exact hZ _ _ ⟨Hd', R', .own (.lst acc), e1.trans e, w.unwipe, ⟨Dl, _, rfl, h1, crL h2, h3, hf, h4.unwipe w⟩, fin acc R' h6⟩
theorem we_lc2 (il : Bool) (o o1 : Option Expr) {ifs ifs1 : List Expr} (own : List (Str × Nat)) (js js1 vs1 : List Nat) (hc : X.calm = true) (hN : X.N.Nodup) (ok : BlkOk X.N X.env.scope scope own) (hvs : ∀ v ∈ own.map (·.2), v ∉ P) (hj : ∀ j ∈ js, j ∈ own.map (·.2)) (hv1 : ∀ v ∈ vs1, v ∈ own.map (·.2)) (hj1 : ∀ j ∈ js1, j ∈ vs1)
    (h : WE X P it R fun sv R1 => asD sv fun d => ∃ xs, d = .list xs ∧ ∃ I : Nat → List D → DS → Prop, I 0 [] (wipeR R1 (own.map (·.2))) ∧ (∀ i x, xs[i]? = some x → Out X P scope il tg o tg1 it1 o1 elt js js1 (own.map (·.2)) vs1 (I i) (I (i + 1)) x) ∧ ∀ acc R', I xs.length acc R' → Q (.own (.lst acc)) R')
    (e0 : ifs = ifsOf o := by rfl) (e1 : ifs1 = ifsOf o1 := by rfl)
    (hs : ∀ x, foldedSetIterable it X.env x = pure x := by intro _; rfl) (hs1 : ∀ env x, foldedSetIterable it1 env x = pure x := by intro _ _; rfl) : WE X P (.ListComp elt [⟨tg, it, ifs, 0⟩, ⟨tg1, it1, ifs1, 0⟩] scope pos) R Q := by
  subst e0 e1
  exact .fit (pe_lc2 (own := own) (vs1 := vs1) hc hN (pi_list pe_m) ok hv1 (fun s H C cl fp => ⟨fun pins s' σ H' v u Z I r h => h s H C cl fp pins s' u I r⟩) (fun s H C cl fp => pts_o s H C cl fp) (fun s H C cl fp => pi_in s H C cl fp) (fun s H C cl fp => ⟨fun pins s' σ H' v u Z I r h => h s H C cl fp pins s' u I r⟩) (fun s H C cl fp => pts_o s H C cl fp) (fun s H C cl fp => ⟨fun pins s' σ H' Z I h => h s H C cl fp pins s' I⟩) hs hs1) (lc2_fits hvs hj hv1 hj1 h)
end
end Dl
namespace Dl
open PySem PySem.Spec PyProof.Rows L2
section
variable {X : Cx} {P : List Nat} {R : DS} {a b e : Expr} {es : List Expr} {pos p : Pos} {Q : SV → DS → Prop} {D' : DEnds}
/-- the worth at a key -/
def lkI {κ : Type} [DecidableEq κ] (kvs : List (κ × D)) (k : κ) : Option D := (kvs.find? fun kv => decide (kv.1 = k)).map (·.2)
/-- d[k], d a dict that a name holds, k a whole number that is there -/
theorem we_dgetI (hu : X.A.units + 1 < cLine) (h : WE X P a R fun x R1 => ∃ j, x = .loc j ∧ WE X P b R1 fun y R2 => asI y fun z => ∃ kvs d, R2[j]? = some (.own (.dK kvs)) ∧ lkI kvs (Sum.inl z : Key) = some d ∧ Q (.d d) R2)
    (hs : NoSl b := by exact fun _ _ => rfl) : WE X P (.Subscript a b pos) R Q :=
  .of (pe_dget hu pe_m pe_m hs) fun F σ Hd H w => h.use w fun Hd1 R1 x v H1 e1 w1 r1 q1 => by
    obtain ⟨j, rfl, q1⟩ := q1
    exact q1.use w1 fun Hd2 R2 y u H2 e2 w2 r2 q2 => by
      obtain ⟨z, rfl, kvs, d, hR, hf, q⟩ := q2.elim
      cases (show Dq _ _ u (.int z) from r2)
      obtain ⟨p, o, s1, hp, ⟨ws, ho, hc⟩, _⟩ := w2.own j _ hR
      subst ho
      have s2 := r1.1
      rw [s1] at s2
      cases s2
      obtain ⟨v, hv, hd⟩ := valV_of _ hc hf
      have g := DGet.k (k := (Sum.inl z : Key)) hp
      rw [hv] at g
      exact ⟨p, v, rfl, g, .same (e1.trans e2) (.here w2 (show Rp _ _ _ _ _ _ (.d d) v from hd) q)⟩
/-- d.get(k, e) -/
theorem valV_no {K : PySem.W.Frag} {Hd : Hp} (k : Key) : ∀ {kvs : List (Key × D)} {ws : List (Key × V)}, Paired (fun (p : Key × D) (q : Key × V) => p.1 = q.1 ∧ Dq K Hd q.2 p.2) kvs ws → lkI kvs k = none → valV ws k = none
  | _, _, .nil, _ => rfl
  | _, _, .cons (a := p) (b := q) g t, h => by
    unfold lkI at h
    rw [List.find?_cons] at h
    by_cases e : p.1 = k
    · rw [decide_eq_true e] at h
      cases h
    · rw [decide_eq_false e] at h
      have ih := valV_no k t h
      unfold valV at ih ⊢
      rw [List.find?_cons, decide_eq_false (show ¬ q.1 = k from fun z => e (g.1.trans z))]
      exact ih
theorem we_getD {o k : Expr} {apos : Pos} (hu : X.A.units + 1 < cLine) (m : M2 X o "get" apos k e pos)
    (h : WE X P o R fun x R1 => ∃ j, x = .loc j ∧ (∃ kvs, R1[j]? = some (.own (.dK kvs))) ∧ WE X P k R1 fun y R2 => asI y fun i => WE X P e R2 fun z R3 => asD z fun d => ∃ kvs, R3[j]? = some (.own (.dK kvs)) ∧ Q (.d ((lkI kvs (Sum.inl i : Key)).getD d)) R3) : WE X P (.Call (.Attribute o "get" apos) [k, e] [] pos) R Q :=
  .of (pe_dget2 hu pe_m pe_m pe_m m) fun F σ Hd H w => h.use w fun Hd1 R1 x v H1 e1 w1 r1 q1 => by
    obtain ⟨j, rfl, ⟨kvs0, hR0⟩, q1⟩ := q1
    obtain ⟨p, o0, s1, hp0, ⟨ws0, ho0, hc0⟩, _⟩ := w1.own j _ hR0
    subst ho0
    have s2 := r1.1
    rw [s1] at s2
    cases s2
    refine ⟨p, rfl, .inl ⟨ws0, .inl hp0⟩, q1.use w1 fun Hd2 R2 y u H2 e2 w2 r2 q2 => ?_⟩
    obtain ⟨i, rfl, q2⟩ := q2.elim
    cases (show Dq _ _ u (.int i) from r2)
    refine q2.fzD.use w2 fun Hd3 R3 z v3 H3 e3 w3 r3 q3 => ?_
    obtain ⟨d, rfl, kvs, hR, q⟩ := q3
    obtain ⟨p', o', s1', hp, ⟨ws, ho, hc⟩, _⟩ := w3.own j _ hR
    subst ho
    rw [s1] at s1'
    cases s1'
    refine ⟨valV ws (Sum.inl i), DGet.k (k := (Sum.inl i : Key)) hp, .same ((e1.trans e2).trans e3) ?_⟩
    cases hl : lkI kvs (Sum.inl i : Key) with
    | none =>
      rw [valV_no _ hc hl]
      rw [hl] at q
      exact .here w3 (show Rp _ _ _ _ _ _ (.d d) v3 from r3) q
    | some d2 =>
      obtain ⟨v, hv, hd⟩ := valV_of _ hc hl
      rw [hv]
      rw [hl] at q
      exact .here w3 (show Rp _ _ _ _ _ _ (.d d2) v from hd) q
/-- list(d), d a dict with whole keys that a name holds -/
theorem keys_dq {K : PySem.W.Frag} {Hd : Hp} : ∀ {kvs : List (Key × D)} {ws : List (Key × V)} {ks : List Int}, Paired (fun (p : Key × D) (q : Key × V) => p.1 = q.1 ∧ Dq K Hd q.2 p.2) kvs ws → kvs.map (·.1) = ks.map Sum.inl → DqAll K Hd (ws.map fun kv => kV kv.1) (ks.map PyData.int)
  | _, _, [], .nil, _ => .nil
  | _, _, _ :: _, .nil, h => by cases h
  | _, _, [], .cons _ _, h => by cases h
  | _, _, k :: ks, .cons (a := p) (b := q) g t, h => by
    rw [List.map_cons, List.map_cons] at h
    injection h with h1 h2
    refine .cons ?_ (keys_dq t h2)
    show Dq K Hd (kV q.1) _
    rw [← g.1, h1]
    exact .int k
theorem we_listD {p : Pos} (hc : X.calm = true) (hm : X.mg "list" = none) (hg : Gl X "list") (h : WE X P a R fun x R1 => ∃ (j : Nat) (kvs : List (Key × D)) (ks : List Int), x = .loc j ∧ R1[j]? = some (.own (.dK kvs)) ∧ kvs.map (·.1) = ks.map Sum.inl ∧ Q (.own (.lst (ks.map PyData.int))) R1)
    (he : starEach [a] X.env = (false, eval a X.env) :: starEach [] X.env := by rfl) (hpl : (backTo pos (starEach [] X.env)).any (·.1) = false := by rfl) : WE X P (.Call (.Name "list" p) [a] [] pos) R Q :=
  callT1 (call_list_dK hc) hg hm (by decide +kernel) h (fun F σ Hd H sv R1 v Z w r g k => by
    obtain ⟨j, kvs, ks, rfl, hR, hk, q⟩ := g
    obtain ⟨d, o, s1, hd, ⟨ws, ho, hcv⟩, _⟩ := w.own j _ hR
    subst ho
    have s2 := r.1
    rw [s1] at s2
    cases s2
    exact ⟨d, ws, rfl, hd, fun l hl => k _ _ (.here (w.allocH hl) (ownNew w hl (crL (keys_dq hcv hk))) q)⟩) (he := he) (hpl := hpl)
/-- the truth of a list -/
theorem wt_lst {Q : Bool → DS → Prop} (h : WE X P e R fun x R1 => ∃ ds, vL R1 x = some ds ∧ Q (!ds.isEmpty) R1) (he : ∀ whole, isTrue e X.env whole = (do let v ← whole; standAt e.pos; holding [v] (truthy v)) := by intro _; rfl) : WT X P e R Q :=
  .of (pt_truth pe_m he) fun F σ Hd H w => h.use w fun Hd1 R1 x v H1 e1 w1 r1 q1 => by
    obtain ⟨ds, hv, q⟩ := q1
    obtain ⟨a, vs, rfl, hs, hd⟩ := Rp.list w1 r1 hv
    refine ⟨!ds.isEmpty, .inl ⟨vs, hs, ?_⟩, Hd1, R1, e1, w1, q⟩
    have := dpAllLen hd
    cases vs <;> cases ds <;> first | rfl | cases this
/-- len(set(xs)), xs empty -/
theorem we_lenSet0 {p2 q2 : Pos} (hc : X.calm = true) (hm : X.mg "len" = none) (hg : Gl X "len") (hm2 : X.mg "set" = none) (hg2 : Gl X "set") (h : WE X P a R fun x R1 => vL R1 x = some [] ∧ Q (.d (.int 0)) R1)
    (he : starEach [a] X.env = (false, eval a X.env) :: starEach [] X.env := by rfl) : WE X P (.Call (.Name "len" p) [.Call (.Name "set" p2) [a] [] q2] [] pos) R Q :=
  .of (pe_lenSet hc hg hm hg2 hm2 pe_m he) fun F σ Hd H w => h.use w fun Hd1 R1 x v H1 e1 w1 r1 q1 => by
    obtain ⟨hv, q⟩ := q1
    obtain ⟨a, vs, rfl, hs, hd⟩ := Rp.list w1 r1 hv
    cases hd
    exact ⟨a, [], rfl, .inl hs, by decide, .same e1 (.here w1 (show Rp _ _ _ _ _ _ (.d (.int 0)) _ from .int 0) q)⟩
end
end Dl
namespace Dl
open PySem PySem.Spec PyProof.Rows L2
/-! enumerate(t), t a tuple -/
set_option maxHeartbeats 1000000 in
theorem meets_enT {t : Addr} {items : Array Value} :
    Meets (Builtin.«enumerate.__new__» ⟨[.type "enumerate", .ref t], []⟩) (fun _ R s => s.heap.IsTuple t items ∧
      R (.ok (.ret (.ref (s.heap.push { cls := .type "tuple_iterator", data := .fields #[.ref t, .int 0 0] }).objs.size)))
        { s with heap := (s.heap.push { cls := .type "tuple_iterator", data := .fields #[.ref t, .int 0 0] }).push { cls := .type "enumerate", data := .fields #[.none, .bool false, .ref s.heap.objs.size, rawInt 0, .none, .none] } }) :=
  .of_wp fun prog w A R s h => by
    obtain ⟨hp, g, d, tk, os⟩ := s
    obtain ⟨h1, h⟩ := h
    have hsub := sub_enumerate
    have q1 : ∀ {A' : Around} {E : Value → Shared → Prop} {Q : Value → Shared → Prop}, Q (.ref hp.objs.size) ⟨hp.push { cls := .type "tuple_iterator", data := .fields #[.ref t, .int 0 0] }, g, d, tk, os⟩ → wpAny (model prog w) A' (pyIter (.ref t)) Q E ⟨hp, g, d, tk, os⟩ :=
      fun q => wpAny_pyIter_tuple h1 q
    wp_walk using q1
    refine wpAny_stack_any fun st => wpAny_pure ?_
    split
    · rename_i c _ _ _ _ _
      cases (c == Value.type "enumerate")
      · wp_walk using q1
        exact ⟨_, rfl, h⟩
      · wp_walk using q1
        exact ⟨_, rfl, h⟩
    · wp_walk using q1
      exact ⟨_, rfl, h⟩
theorem call_enT {prog : Program} {w : World} {A : Around} {E : Value → Shared → Prop} {s : Shared} {t : Addr} {items : Array Value} {Q : Value → Shared → Prop} (hT : s.heap.IsTuple t items)
    (h : ∀ h', IsEnum h' (s.heap.objs.size + 1) s.heap.objs.size 0 .none → h'.IsTupleIter s.heap.objs.size t 0 → h'.objs.size = s.heap.objs.size + 2 →
      (∀ b o, s.heap.get? b = some o → h'.get? b = some o) → Q (.ref (s.heap.objs.size + 1)) { s with heap := h' }) :
    wpAny (model prog w) A (call (.type "enumerate") [.ref t]) Q E s := by
  refine callType_new F.called_enumerate (by decide) (F.typeCall_enumerate_1 _) (F.newCall_enumerate_1 _) (fun obj => F.args_object_init_2 obj _) F.entry_enumerate_new
    (meets_enT (t := t) (items := items)) ⟨hT, ?_⟩
  have hz : (s.heap.push { cls := .type "tuple_iterator", data := .fields #[.ref t, .int 0 0] }).objs.size = s.heap.objs.size + 1 := Heap.size_push ..
  show _ ∧ _
  rw [hz]
  have he : IsEnum ((s.heap.push { cls := .type "tuple_iterator", data := .fields #[.ref t, .int 0 0] }).push
      { cls := .type "enumerate", data := .fields #[.none, .bool false, .ref s.heap.objs.size, rawInt 0, .none, .none] }) (s.heap.objs.size + 1) s.heap.objs.size 0 .none := by
    have := Heap.get?_push_size (s.heap.push { cls := .type "tuple_iterator", data := .fields #[.ref t, .int 0 0] })
      (o := { cls := .type "enumerate", data := .fields #[.none, .bool false, .ref s.heap.objs.size, rawInt 0, .none, .none] }) rfl
    rw [hz] at this
    exact this
  refine ⟨⟨_, he, rfl⟩, h _ he ⟨_, Heap.get?_push_of_some _ (Heap.get?_push_size _ rfl), rfl, rfl⟩ (by rw [Heap.size_push, hz]) fun b o x => Heap.get?_push_of_some _ (Heap.get?_push_of_some _ x)⟩
theorem next_enT_end {prog : Program} {w : World} {A : Around} {E : Value → Shared → Prop} {s : Shared} {e it t : Addr} {i : Nat} {items : Array Value} {old : Value} {Q : Option Value → Shared → Prop} (hh : A.handled = none)
    (he : IsEnum s.heap e it i old) (hit : s.heap.IsTupleIter it t i) (hl : s.heap.IsTuple t items) (hx : items[i]? = none)
    (hQ : ∀ h', Heap.ExtBut it s.heap h' → Q none { s with heap := h' }) : wpAny (model prog w) A (pyNext (.ref e)) Q E s := by
  have hT : s.TypeIs (.ref e) "enumerate" := ⟨_, he, rfl⟩
  unfold pyNext
  refine wpAny_bind (wpAny_attempt (wpAny_callSpecial?_slot (name := Str.ofString "__next__") hT F.slot_enumerate_next
    (wpAny_call_entry F.slot_enumerate_next hT F.entry_enumerate_next ?_ (F.args_enumerate_next_1 _))))
  show wpAny _ _ (field (.ref e) 2 >>= _) _ _ _
  refine wpAny_bind (wpAny_field he rfl (x := .ref it) rfl ?_)
  refine wpAny_bind (wpAny_nextOf_tuple_end hh hit hl hx fun h' x he' hx' => ?_)
  obtain ⟨o, ho, hc⟩ := hx'
  refine wpAny_bind (wpAny_isInstance (T := "StopIteration") (b := true) ⟨o, ho, hc⟩ isSubtype_stop ?_)
  exact wpAny_pure (hQ _ he')
/-- the tuple at a, each item in a new pair -/
def Itet (K : PySem.W.Frag) (a : Addr) : It :=
  ⟨fun i H => ∃ (xs : List V) (x : V), SqT K H a xs ∧ xs[i]? = some x, fun i H v H' => ∃ T x, v = .ref T ∧ H T = none ∧ H' = upd H T (.tup [.int (i : Nat), x]) ∧ ∀ xs, SqT K H a xs → xs[i]? = some x, fun i H => ∃ xs : List V, SqT K H a xs ∧ xs.length ≤ i⟩
theorem turn_enT {P : Program} {w : World} {K : PySem.W.Frag} {elts : List Expr} {kk : Nat} {tpos : Pos} (a e it : Addr) :
    Turn P w K (.Tuple elts kk tpos) (Itet K a) [e, it] e (fun i h => (∃ old, IsEnum h e it ((i : Nat) : Int) old) ∧ h.IsTupleIter it a i ∧ e ≠ it ∧ a ≠ e ∧ a ≠ it) where
  mem := by simp
  obj := fun i h st b hb => by
    obtain ⟨⟨old, he⟩, ⟨o, ho, hc, hd⟩, _⟩ := st
    have e' : b = e ∨ b = it := by simpa using hb
    rcases e' with z | z
    · rw [z]; exact ⟨_, he, fun v q => nomatch q⟩
    · rw [z]; exact ⟨o, ho, fun v q => by rw [hd] at q; cases q⟩
  keep := fun i h h' st k => let ⟨⟨old, he⟩, hi, hne⟩ := st; ⟨⟨old, k e (by simp) _ he⟩, hi.at fun o q => k it (by simp) o q, hne⟩
  item := by
    intro X hP hw hK hc i pins s σ H E I hf st hg
    subst hP hw hK
    obtain ⟨⟨old, he⟩, hit, hne, hae, hai⟩ := st
    obtain ⟨xs, x, hq, hx⟩ := hg
    obtain ⟨its, rv, p, hz⟩ := I.tuple hq
    obtain ⟨u, hu, ru⟩ := rv.get hx
    have hel : e < s.heap.objs.size := Heap.lt_size he
    have hil : it < s.heap.objs.size := by obtain ⟨_, q, _⟩ := hit; exact Heap.lt_size q
    have hilt : i < its.toArray.size := by simpa using (List.getElem?_eq_some_iff.mp hu).1
    refine wpAny_pyNext_enum_itemD (Draws.tuple (A := X.A.in1) (I.ok.hd hc) it a hai its.toArray) he ⟨hit, p⟩ hilt hne (by simp [hne, Ne.symm hae]) fun y h' tk hPx ho hst hT hsz hk => ?_
    obtain rfl : y = u := by
      have h1 : its.toArray[i]? = some u := by simpa using hu
      exact Option.some.inj (hPx.symm.trans h1)
    refine ⟨_, rfl, wpAny_letOwnedTupleGo_enum (s := { s with heap := h', toks := tk + 1 }) ho fun h'' he' sb => ?_⟩
    have hT2 : h''.get? s.heap.objs.size = some { cls := .type "tuple", data := .seq #[.int i tk, y] } := (sb.2 _ (Nat.ne_of_gt hel)).trans hT
    have new : ObjOk X.prog X.w (upd H s.heap.objs.size (.tup [.int (i : Nat), x])) h'' s.heap.objs.size (.tup [.int (i : Nat), x]) :=
      ⟨by show 2 ≤ sizeLine; decide, [.int i tk, y], .cons ⟨_, rfl⟩ (.cons ru .nil), ⟨_, hT2, rfl, _, rfl⟩⟩
    have I1 : Inv X pins σ (upd H s.heap.objs.size (.tup [.int (i : Nat), x])) { s with heap := h'', toks := tk + 1 } :=
      I.turnedNew (ch := [e, it]) (fun b ob hb q => (sb.2 b (fun z => hb (by simp [z]))).trans (hk b ob (fun z => hb (by simp [z])) (fun z => hb (by simp [z])) q)) hf (Nat.le_refl _) new
    refine ⟨.ref s.heap.objs.size, _, I1, rfl, ⟨_, x, rfl, I.hok.fresh (Nat.le_refl _), rfl, fun ys hy => by rw [I.tuple_inj hy hq]; exact hx⟩, ⟨⟨y, ?_⟩, hst.1.at fun o q => (sb.2 it (Ne.symm hne)).trans q, hne, hae, hai⟩, fun b hb => ?_⟩
    · have e1 : ((i + 1 : Nat) : Int) = (i : Int) + 1 := by omega
      rw [e1]; exact he'
    · have hb' : b < s.heap.objs.size := by
        have e' : b = e ∨ b = it := by simpa using hb
        rcases e' with z | z
        · rw [z]; exact hel
        · rw [z]; exact hil
      rw [upd_ne (Nat.ne_of_lt hb')]
      exact (hf b hb).1
  done := by
    intro X hP hw hK hc i pins s σ H E I hf st hg
    subst hP hw hK
    obtain ⟨⟨old, he⟩, hit, hne, hae, hai⟩ := st
    obtain ⟨xs, hq, hx⟩ := hg
    obtain ⟨its, rv, p, hz⟩ := I.tuple hq
    obtain ⟨f0, f1, f2, f3, f4, f5⟩ := hf it (by simp)
    have hl := rv.length
    exact next_enT_end (I.ok.hd hc) he hit p (by simp; omega) fun h' eb => ⟨rfl, I.turned (t' := s.toks) (fun b o hb q => eb b o hb q) f0 f1 f3 f4 f5⟩
  self := fun A i s Q E st h => let ⟨⟨_, he⟩, _⟩ := st; wpAny_pyIter_enum he h
def iEnT (K : PySem.W.Frag) (ta : TA) : TI := fun σ H R => ta σ H fun vs H1 => ∃ a xs, vs = [.ref a] ∧ SqT K H1 a xs ∧ R (Itet K a) H1
theorem pi_enT {X : Cx} {e : Expr} {ta : TA} {p pos tpos : Pos} {elts : List Expr} {kk : Nat} (hg : Gl X "enumerate") (hm : X.mg "enumerate" = none) (ha : PA X [e] ta) (hs : starEach [e] X.env = [(false, eval e X.env)] := by rfl) :
    PI X (.Tuple elts kk tpos) (.Call (.Name "enumerate" p) [e] [] pos) (iEnT X.K ta) := by
  refine ⟨fun pins s σ H R I h => ?_⟩
  refine Call_ (ld_blt I hg hm boot_enumerate (PyProof.Rows.callWith_type1 (thn (ha.run pos pins s σ H _ I h) fun us s1 ⟨vs, H1, I1, r1, q1⟩ => ?_) hs rfl))
  obtain ⟨a, xs, ex, hq, q⟩ := q1
  subst ex
  cases r1 with
  | cons r rr =>
    cases rr
    cases r
    obtain ⟨its, rv, p', hz⟩ := I1.tuple hq
    have hal : a < s1.heap.objs.size := by obtain ⟨o, e, _⟩ := p'; exact Heap.lt_size e
    refine call_enT p' fun h' he hit hsz hk => wpAny_pyIter_enum he ?_
    have I2 : Inv X pins σ H1 { s1 with heap := h' } := I1.kept (t' := s1.toks) hk
    refine ⟨s1.heap.objs.size + 1, [s1.heap.objs.size + 1, s1.heap.objs.size], _, _, H1, rfl, I2, turn_enT a (s1.heap.objs.size + 1) s1.heap.objs.size, ⟨⟨.none, he⟩, hit, Nat.succ_ne_self _, Nat.ne_of_lt (Nat.lt_succ_of_lt hal), Nat.ne_of_lt hal⟩, fun b hb => ?_, q⟩
    have e' : b = s1.heap.objs.size + 1 ∨ b = s1.heap.objs.size := by simpa using hb
    have hle : s1.heap.objs.size ≤ b := by
      rcases e' with z | z
      · rw [z]; exact Nat.le_add_right _ _
      · rw [z]; exact Nat.le_refl _
    exact I1.fpOk hle (I1.hok.fresh hle)
section
variable {X : Cx} {P : List Nat} {R : DS} {elt tg a : Expr} {scope : Scope} {js vs : List Nat} {pos p : Pos} {Q : SV → DS → Prop}
theorem in_core {o1 : Option Expr} {F : Fr} {σ2 : L2.St} {Hd1 Hd' : Hp} {Dl : Addr} {J' : List D → DS → Prop} {x : V} {y : D} {H : Hp} {R' : DS} {va : List V} {acc : List D} (hf : F.Hf Dl = none) (hz : ¬ F.Fz Dl) (hvs : ∀ v ∈ vs, v ∉ P) (hj : ∀ j ∈ js, j ∈ vs)
    (e : Same Hd1 Hd') (w : Wd X.K F P R' (wipe σ2 vs) Hd' H) (h1 : H Dl = some (.lst va)) (h2 : DqAll X.K Hd' va acc) (h3 : Hd' Dl = none) (h4 : NoOwn R' (wipe σ2 vs) Dl) (hx : Dq X.K Hd' x y)
    (tn : AllB X scope fun Y => WG Y P tg js R' y fun R2 => WTo X P scope o1 R2 fun b R3 =>
      (b = true → AllB X scope fun Y => WE Y P elt R3 fun sv R4 => asD sv fun z => acc.length < sizeLine ∧ J' (acc ++ [z]) (wipeR R4 vs)) ∧ (b = false → J' acc (wipeR R3 vs))) :
    gB X scope tg x (wipe σ2 vs) H fun σ3 H5 => wipe σ3 vs = wipe σ2 vs ∧ ttO X scope o1 σ3 H5 fun b H6 =>
      if b = true then teB X scope elt σ3 H6 fun u H7 => ∃ acc, H7 Dl = some (.lst acc) ∧ acc.length < sizeLine ∧ Lq X.K F P (wipe σ2 vs) Hd1 Dl J' (upd H7 Dl (.lst (acc ++ [u]))) else Lq X.K F P (wipe σ2 vs) Hd1 Dl J' H6 := by
  intro s H0 C cl fp
  refine ((tn s H0 C cl fp).run (F.with Dl (.lst va)) _ Hd' H x (w.enter h1 h3 h4) hx).mono fun σ3 H2 ⟨Hd2, R2, e2, w2, wp, q2⟩ => ?_
  have hw : wipe σ3 vs = wipe σ2 vs := by rw [wp vs hj, wipe_wipe]
  refine ⟨hw, wto_use q2 w2 fun Hd3 R3 b H3 e3 w3 q3 => ?_⟩
  have hv3 := dpAllMono (e2.trans e3) h2
  cases b with
  | true =>
    refine iteT fun s H0 C cl fp => ((q3.1 rfl) s H0 C cl fp).fzD.use w3 fun Hd4 R4 y4 u H4 e4 w4 r4 q4 => ?_
    obtain ⟨z, rfl, ql, q⟩ := q4
    obtain ⟨w5, g1, g2, g3⟩ := Wd.leave w4 hf hz
    refine ⟨va, g1, by rw [dpAllLen hv3]; exact ql, Hd4, wipeR R4 vs, va ++ [u], acc ++ [z], ((e.trans e2).trans e3).trans e4, ?_, upd_same, dpAllApp (dpAllMono e4 hv3) (.cons r4 .nil), g2, ?_, q⟩
    · rw [← hw]
      exact (w5.poke g1 (crp_bare (crL (K := X.K) (dpAllMono e4 hv3))) g2 hf g3).wiped hvs
    · rw [← hw]
      exact g3.wiped
  | false =>
    refine iteF ?_
    obtain ⟨w5, g1, g2, g3⟩ := Wd.leave w3 hf hz
    refine ⟨Hd3, wipeR R3 vs, va, acc, (e.trans e2).trans e3, ?_, g1, hv3, g2, ?_, q3.2 rfl⟩
    · rw [← hw]
      exact w5.wiped hvs
    · rw [← hw]
      exact g3.wiped
/-- [.. for i, x in enumerate(t)], one test or none -/
theorem we_lcE (o1 : Option Expr) {ifs : List Expr} {elts : List Expr} {kk : Nat} {tpos cpos : Pos} (own : List (Str × Nat)) (js : List Nat) (hc : X.calm = true) (hN : X.N.Nodup) (hm : X.mg "enumerate" = none) (hge : Gl X "enumerate") (ok : BlkOk X.N X.env.scope scope own) (hvs : ∀ v ∈ own.map (·.2), v ∉ P) (hj : ∀ j ∈ js, j ∈ own.map (·.2))
    (h : WE X P a R fun sv R1 => asD sv fun d => ∃ xs, d = .tuple xs ∧ ∃ I : Nat → List D → DS → Prop, I 0 [] (wipeR R1 (own.map (·.2))) ∧ (∀ (i : Nat) x, xs[i]? = some x → In1 X P scope (.Tuple elts kk tpos) o1 elt js (own.map (·.2)) (I i) (I (i + 1)) (.tuple [.int (i : Int), x])) ∧ ∀ acc R', I xs.length acc R' → Q (.own (.lst acc)) R')
    (e0 : ifs = ifsOf o1 := by rfl) (ha : starEach [a] X.env = (false, eval a X.env) :: starEach [] X.env := by rfl) (ha2 : starEach [a] X.env = [(false, eval a X.env)] := by rfl)
    (hs : ∀ x, foldedSetIterable (.Call (.Name "enumerate" p) [a] [] cpos) X.env x = pure x := by intro _; rfl) : WE X P (.ListComp elt [⟨.Tuple elts kk tpos, .Call (.Name "enumerate" p) [a] [] cpos, ifs, 0⟩] scope pos) R Q := by
  subst e0
  refine .fit (pe_lc (own := own) (g := gB X scope (.Tuple elts kk tpos)) (tt := ttO X scope o1) (te := teB X scope elt) hc hN (pi_enT hge hm (pa_cons pe_m pa_nil ha) ha2) ok (fun s H C cl fp => ⟨fun pins s' σ H' v u Z I r h => h s H C cl fp pins s' u I r⟩) (fun s H C cl fp => pts_o s H C cl fp) (fun s H C cl fp => ⟨fun pins s' σ H' Z I h => h s H C cl fp pins s' I⟩) hs) ?_
  intro F σ Hd H w Z hZ
  refine h.fzD.use w fun Hd1 R1 sv v H1 e1 w1 r1 q1 => ?_
  obtain ⟨d, rfl, xs, rfl, I, i0, step, fin⟩ := q1
  have r' : Dq X.K Hd1 v (.tuple xs) := r1
  cases r' with
  | tup hS hv =>
    rename_i b ws
    have hSq : SqT X.K H1 b ws := sameT w1.dat (SqT.of hS)
    refine ⟨b, ws, rfl, hSq, fun Dl hD => ?_⟩
    have hf : F.Hf Dl = none := sameNone w1.frm hD
    have hz : ¬ F.Fz Dl := fun z => (w1.prot Dl z).2 hf
    have no : NoOwn R1 σ Dl := fun i n e z => by
      obtain ⟨b, u, s1, s2, _⟩ := w1.own i n e
      rw [z] at s1
      cases s1
      rw [hD] at s2
      cases s2
    refine ⟨fun i m H => m = ws.length - i ∧ i ≤ ws.length ∧ Lq X.K F P (wipe σ (own.map (·.2))) Hd1 Dl (I i) H, ⟨ws.length, by simp, Nat.zero_le _, ⟨Hd1, _, [], [], Same.refl _, (w1.allocH hD).wiped hvs, upd_same, .nil, sameNone w1.dat hD, no.wiped, i0⟩⟩, ?_⟩
    rintro i m H ⟨rfl, hi, hL⟩
    obtain ⟨Hd', R', va, acc, e, w', h1, h2, h3, h4, h6⟩ := hL
    have hA : SqT X.K H b ws := sameT w'.dat (sameT e (SqT.of hS))
    by_cases hlt : i < ws.length
    · have hx : ws[i]? = some ws[i] := List.getElem?_eq_getElem hlt
      obtain ⟨x, hx1, hdp⟩ := dpAllGetV hv hx
      refine .inr ⟨⟨ws, _, hA, hx⟩, fun H' => Lq X.K F P (wipe σ (own.map (·.2))) Hd1 Dl (I (i + 1)) H', fun H' hL => ⟨ws.length - (i + 1), by omega, rfl, hlt, hL⟩, fun y H' hy => ?_⟩
      obtain ⟨T, x', rfl, hT, rfl, fy⟩ := hy
      have ex : x' = ws[i] := Option.some.inj ((fy _ hA).symm.trans hx)
      subst ex
      obtain ⟨w2, s2⟩ := w'.allocD (o := .tup [.int (i : Nat), ws[i]]) hT
      have hne : Dl ≠ T := fun z => by rw [z, hT] at h1; cases h1
      refine in_core hf hz hvs hj (e.trans s2) w2 (by rw [upd_ne hne]; exact h1) (dpAllMono s2 h2) (by rw [upd_ne hne]; exact h3) h4 ?_ (step i x hx1 acc R' h6)
      exact .tup upd_same (.cons (.int _) (.cons (dpMono (e.trans s2) hdp) .nil))
    · have ei : i = xs.length := by rw [← dpAllLen hv]; omega
      subst ei
      exact .inl ⟨⟨ws, hA, by omega⟩, hZ _ _ ⟨Hd', R', .own (.lst acc), e1.trans e, w'.unwipe, ⟨Dl, _, rfl, h1, crL h2, h3, hf, h4.unwipe w'⟩, fin acc R' h6⟩⟩
end
end Dl
namespace Dl
open PySem PySem.Spec PyProof.Rows L2
section
variable {X : Cx} {P : List Nat} {R : DS} {a e kx vx tg : Expr} {scope : Scope} {pos p : Pos} {Q : SV → DS → Prop}
/-- {k: v for .. in range(n)}: int keys, no test -/
theorem we_dcR {cpos : Pos} (own : List (Str × Nat)) (js : List Nat) (hc : X.calm = true) (hN : X.N.Nodup) (hm : X.mg "range" = none) (hg : Gl X "range") (ok : BlkOk X.N X.env.scope scope own) (hvs : ∀ v ∈ own.map (·.2), v ∉ P) (hj : ∀ j ∈ js, j ∈ own.map (·.2))
    (h : WE X P a R fun sv R1 => asI sv fun n => (-(2 ^ 62) ≤ n ∧ n < 2 ^ 62) ∧ n.toNat ≤ sizeLine ∧ ∃ I : Nat → List (Key × D) → DS → Prop, I 0 [] (wipeR R1 (own.map (·.2))) ∧
      (∀ (i : Nat) kvs R', i < n.toNat → I i kvs R' → TnD X P scope tg kx vx js (own.map (·.2)) I i kvs (.int (i : Int)) R') ∧ ∀ kvs R', I n.toNat kvs R' → Q (.own (.dK kvs)) R')
    (ha : starEach [a] X.env = (false, eval a X.env) :: starEach [] X.env := by rfl) (ha2 : starEach [a] X.env = [(false, eval a X.env)] := by rfl)
    (hs : ∀ x, foldedSetIterable (.Call (.Name "range" p) [a] [] cpos) X.env x = pure x := by intro _; rfl) : WE X P (.DictComp kx vx [⟨tg, .Call (.Name "range" p) [a] [] cpos, [], 0⟩] scope pos) R Q := by
  refine .fit (pe_dc (own := own) (g := gB X scope tg) (tt := tYes) (tk := teB X scope kx) (tv := teB X scope vx) hc hN (pi_range1 hg hm (pa_cons pe_m pa_nil ha) ha2) ok (fun s H C cl fp => ⟨fun pins s' σ H' v u Z I r h => h s H C cl fp pins s' u I r⟩) (fun _ _ _ _ _ => pts_nil) (fun s H C cl fp => ⟨fun pins s' σ H' Z I h => h s H C cl fp pins s' I⟩) (fun s H C cl fp => ⟨fun pins s' σ H' Z I h => h s H C cl fp pins s' I⟩) hs) ?_
  intro F σ Hd H w Z hZ
  refine h.use w fun Hd1 R1 sv v H1 e1 w1 r1 q1 => ?_
  obtain ⟨n, rfl, hn, hsz, I, i0, step, fin⟩ := q1.elim
  cases (show Dq _ _ v (.int n) from r1)
  refine ⟨n, rfl, hn.1, hn.2, fun Dl hD => ?_⟩
  have hf : F.Hf Dl = none := sameNone w1.frm hD
  have hz : ¬ F.Fz Dl := fun z => (w1.prot Dl z).2 hf
  have no : NoOwn R1 σ Dl := fun i n q z => by
    obtain ⟨b, u, s1, s2, _⟩ := w1.own i n q
    rw [z] at s1
    cases s1
    rw [hD] at s2
    cases s2
  have l0 : LpD X.K F P (wipe σ (own.map (·.2))) Hd1 I Dl 0 (upd H1 Dl (.dK [])) := ⟨Hd1, _, [], [], Same.refl _, (w1.allocH hD).wiped hvs, upd_same, .nil, sameNone w1.dat hD, no.wiped, Nat.le_refl _, i0⟩
  refine ⟨fun i m H' => m = n.toNat - i ∧ i ≤ n.toNat ∧ LpD X.K F P (wipe σ (own.map (·.2))) Hd1 I Dl i H', ⟨n.toNat, by simp, Nat.zero_le _, l0⟩, fun i m H' hW => ?_⟩
  obtain ⟨rfl, hi, hL⟩ := hW
  have hL0 := hL
  obtain ⟨Hd', R', va, kvs, e, w', h1, h2, h3, h4, h5, h6⟩ := hL
  by_cases hlt : i < n.toNat
  · refine .inr ⟨hlt, LpD X.K F P (wipe σ (own.map (·.2))) Hd1 I Dl (i + 1), fun H2 hN2 => ⟨n.toNat - (i + 1), by omega, rfl, hlt, hN2⟩, fun y H2 hy => ?_⟩
    obtain ⟨rfl, ey⟩ := hy
    have e0 : (0 : Int) + (i : Int) = (i : Int) := Int.zero_add _
    rw [e0] at ey
    subst ey
    intro s H0 C cl fp
    refine ((step i kvs R' hlt h6 s H0 C cl fp).run (F.with Dl (.dK va)) _ Hd' _ _ (w'.enter h1 h3 h4) (.int _)).mono fun σ2 H2 ⟨Hd2, R2, e2, w2, wp, q2⟩ => ?_
    have hw : wipe σ2 (own.map (·.2)) = wipe σ (own.map (·.2)) := by rw [wp _ hj, wipe_wipe]
    refine ⟨hw, iteT (B := LpD X.K F P (wipe σ (own.map (·.2))) Hd1 I Dl (i + 1) H2) fun s H0 C cl fp => (q2 s H0 C cl fp).use w2 fun Hd3 R3 y3 u3 H3 e3 w3 r3 q3 => ?_⟩
    obtain ⟨m, rfl, q3⟩ := q3.elim
    cases (show Dq _ _ u3 (.int m) from r3)
    intro s H0 C cl fp
    refine (q3 s H0 C cl fp).fzD.use w3 fun Hd4 R4 y4 u4 H4 e4 w4 r4 q4 => ?_
    obtain ⟨d4, rfl, q4⟩ := q4
    obtain ⟨w5, g1, g2, g3⟩ := Wd.leave w4 hf hz
    have hv2 : Paired (fun (p : Key × D) (q : Key × V) => p.1 = q.1 ∧ Dq X.K Hd4 q.2 p.2) kvs va := Paired.mapP h2 fun _ _ q => ⟨q.1, dpMono ((e2.trans e3).trans e4) q.2⟩
    refine ⟨va, Sum.inl m, rfl, g1, by rw [pairedLen hv2]; omega, Hd4, wipeR R4 (own.map (·.2)), _, putD kvs (Sum.inl m) d4, ((e.trans e2).trans e3).trans e4, ?_, upd_same, put_dp (Sum.inl m) r4 hv2, g2, ?_, Nat.le_trans (putD_len kvs (Sum.inl m) d4) (by omega), q4⟩
    · rw [← hw]
      exact (w5.poke g1 (crp_bare (crK hv2)) g2 hf g3).wiped hvs
    · rw [← hw]
      exact g3.wiped
  · have ei : i = n.toNat := by omega
    subst ei
    exact .inl ⟨Nat.le_refl _, hZ _ _ ⟨Hd', R', .own (.dK kvs), e1.trans e, w'.unwipe, ⟨Dl, _, rfl, h1, crK h2, h3, hf, h4.unwipe w'⟩, fin kvs R' h6⟩⟩
/-- xs.count(i), xs a list of ints that is data -/
theorem we_count {o : Expr} {apos : Pos} (h : WE X P o R fun x R1 => ∃ ns : List Int, x = .d (.list (ns.map .int)) ∧ WE X P e R1 fun y R2 => asI y fun i => Q (.d (.int (ns.count i : Nat))) R2)
    (hbase : attributeBase o "count" X.env (eval o X.env) = eval o X.env := by rfl)
    (hfew : ((backTo pos (starEach [e] X.env)).all (fun x => !x.1) && (backToKw pos (keywordEach [] X.env)).all (fun x => x.1.isSome)
      && decide (([e] : List Expr).length + ([] : List Keyword).length + (if ([] : List Keyword).isEmpty then 0 else 1) < 30)) = true := by rfl)
    (hline : (apos.endLine == pos.line) = true := by rfl) (he : starEach [e] X.env = (false, eval e X.env) :: starEach [] X.env := by rfl) (hpl : (backTo pos (starEach [] X.env)).any (·.1) = false := by rfl) : WE X P (.Call (.Attribute o "count" apos) [e] [] pos) R Q :=
  .of (pe_bm PySem.F.plainAttrs_list PySem.F.slot_list_count PySem.F.type_list_count mt_lcount pe_m (pa_cons pe_m pa_nil he) hbase hfew hline he hpl) fun F σ Hd H w => h.use w fun Hd1 R1 sv v H1 e1 w1 r1 q1 => by
    obtain ⟨ns, rfl, q1⟩ := q1
    have r' : Dq X.K Hd1 v (.list (ns.map .int)) := r1
    cases r' with
    | lst hS hv =>
      rename_i a ws
      cases dpAllInts hv
      refine ⟨.inl ⟨rfl, _, w1.dat.seq hS⟩, q1.use w1 fun Hd2 R2 y u H2 e2 w2 r2 q2 => ?_⟩
      obtain ⟨i, rfl, q⟩ := q2.elim
      cases (show Dq _ _ u (.int i) from r2)
      exact ⟨a, ns, i, rfl, rfl, w2.dat.seq (e2.seq hS), .same (e1.trans e2) (.here w2 (show Rp _ _ _ _ _ _ (.d (.int (ns.count i : Nat))) _ from .int _) q)⟩
end
end Dl
namespace Dl
open PySem PySem.Spec PyProof.Rows L2
/-! a call whose first argument is a thing made at once (a dict or a list) that is given over -/
section
variable {K : PySem.W.Frag} {F : Fr} {P : List Nat} {R : DS} {σ : L2.St} {Hd H : Hp} {a : Addr} {m : MC} {o : HO}
theorem app_lt {α : Type} {l : List α} {x y : α} {i : Nat} (h : (l ++ [x])[i]? = some y) : l[i]? = some y ∨ (i = l.length ∧ x = y) := by
  by_cases hi : i < l.length
  · rw [List.getElem?_append_left hi] at h
    exact .inl h
  · rw [List.getElem?_append_right (by omega)] at h
    have e : i - l.length = 0 := by
      by_cases z : i - l.length = 0
      · exact z
      · rw [List.getElem?_eq_none (by rw [List.length_singleton]; omega)] at h
        cases h
    rw [e] at h
    exact .inr ⟨by omega, Option.some.inj h⟩
theorem app_old {α : Type} {l : List α} {x y : α} {i : Nat} (h : l[i]? = some y) : (l ++ [x])[i]? = some y := by
  rw [List.getElem?_append_left (List.getElem?_eq_some_iff.mp h).1]
  exact h
/-- one more name, that holds it -/
theorem Wd.more (w : Wd K F P R σ Hd H) (ha : H a = some o) (hc : CRp K Hd m o) (hd : Hd a = none) (hf : F.Hf a = none) (hn : NoOwn R σ a) : Wd K F P (R ++ [.own m]) (σ ++ [some (.ref a)]) Hd H := by
  have hl := w.len
  have last : (σ ++ [some (V.ref a)])[R.length]? = some (some (V.ref a)) := by
    rw [hl, List.getElem?_append_right (Nat.le_refl _), Nat.sub_self]
    rfl
  refine ⟨w.dat, w.frm, by rw [List.length_append, List.length_append, hl]; rfl, fun i x e => ?_, fun i n e => ?_, fun i j n n' b e1 e2 e3 e4 => ?_, fun i hi => ?_, w.prot, fun i b d fs e => ?_, w.tabs⟩
  · rcases app_lt e with e | ⟨_, e⟩
    · obtain ⟨v, s1, s2⟩ := w.val i x e
      exact ⟨v, app_old s1, s2⟩
    · cases e
  · rcases app_lt e with q | ⟨rfl, q⟩
    · obtain ⟨b, u, s1, s2⟩ := w.own i n q
      exact ⟨b, u, app_old s1, s2⟩
    · cases q
      exact ⟨a, o, last, ha, hc, hd, hf⟩
  · have old : ∀ {k : Nat} {y : SV}, R[k]? = some y → k < σ.length := fun q => by rw [← hl]; exact (List.getElem?_eq_some_iff.mp q).1
    rcases app_lt e1 with e1 | ⟨rfl, e1⟩ <;> rcases app_lt e2 with e2 | ⟨rfl, e2⟩
    · rw [List.getElem?_append_left (old e1)] at e3
      rw [List.getElem?_append_left (old e2)] at e4
      exact w.apart i j n n' b e1 e2 e3 e4
    · rw [List.getElem?_append_left (old e1)] at e3
      rw [last] at e4
      cases e4
      exact absurd e3 (hn i n e1)
    · rw [List.getElem?_append_left (old e2)] at e4
      rw [last] at e3
      cases e3
      exact absurd e4 (hn j n' e2)
    · rfl
  · obtain ⟨n, h1, h2⟩ := w.pin i hi
    exact ⟨n, app_old h1, app_old h2⟩
  · rcases app_lt e with e | ⟨_, e⟩
    · obtain ⟨s1, s2⟩ := w.exs i b d fs e
      exact ⟨app_old s1, s2⟩
    · cases e
/-- that name is let go -/
theorem Wd.less {r : SV} {v : Option V} (w : Wd K F P (R ++ [r]) (σ ++ [v]) Hd H) (hl : R.length = σ.length) (hP : ∀ i ∈ P, i < R.length) : Wd K F P R σ Hd H := by
  have old : ∀ {k : Nat} {y : SV} {z : Option V}, R[k]? = some y → (σ ++ [v])[k]? = some z → σ[k]? = some z := fun q e => by
    rw [List.getElem?_append_left (by rw [← hl]; exact (List.getElem?_eq_some_iff.mp q).1)] at e
    exact e
  refine ⟨w.dat, w.frm, hl, fun i x e => ?_, fun i n e => ?_, fun i j n n' b e1 e2 e3 e4 => w.apart i j n n' b (app_old e1) (app_old e2) (app_old e3) (app_old e4), fun i hi => ?_, w.prot, fun i b d fs e => ?_, w.tabs⟩
  · obtain ⟨u, s1, s2⟩ := w.val i x (app_old e)
    exact ⟨u, old e s1, s2⟩
  · obtain ⟨b, u, s1, s2⟩ := w.own i n (app_old e)
    exact ⟨b, u, old e s1, s2⟩
  · obtain ⟨n, h1, h2⟩ := w.pin i hi
    have hi' := hP i hi
    have h1' : R[i]? = some (.own n) := by rwa [List.getElem?_append_left hi'] at h1
    exact ⟨n, h1', old h1' h2⟩
  · obtain ⟨s1, s2⟩ := w.exs i b d fs (app_old e)
    exact ⟨old e s1, s2⟩
end
section
variable {X : Cx} {P : List Nat} {R : DS} {a e : Expr} {es : List Expr} {pos p : Pos} {Q : SV → DS → Prop}
def AllD (svs : List SV) : Prop := ∀ s ∈ svs, ∃ x, s = .d x
theorem back_d : ∀ (svs : List SV) (R R' : DS), AllD svs → back R svs R' = R
  | [], _, [], _ => rfl
  | [], _, _ :: _, _ => rfl
  | s :: _, _, [], _ => by cases s <;> rfl
  | s :: svs, R, r :: R', h => by
    obtain ⟨x, rfl⟩ := h s List.mem_cons_self
    exact back_d svs R R' fun y hy => h y (List.mem_cons_of_mem _ hy)
theorem cont_d {R : DS} : ∀ svs : List SV, AllD svs → svs.map (cont R) = svs
  | [], _ => rfl
  | s :: svs, h => by
    obtain ⟨x, rfl⟩ := h s List.mem_cons_self
    rw [List.map_cons, cont_d svs fun y hy => h y (List.mem_cons_of_mem _ hy)]
    rfl
theorem noloc {svs : List SV} (h : AllD svs) {i j : Nat} : svs[i]? ≠ some (.loc j) := fun e => by
  obtain ⟨x, q⟩ := h _ (List.mem_of_getElem? e)
  cases q
theorem we_callT {x : Str} {j k : Nat} {S : SpD} (hr : Room k X.A) (hgd : X.A.guards = some []) (C : Can X.prog X.w X.K X.mg X.base j x S) (hjk : j ≤ k) (hg : Gl X x)
    (h : WE X P e R fun sv R1 => ∃ m, sv = .own m ∧ WA X P es R1 fun svs R2 => AllD svs ∧ S (.own m :: svs) fun sv R' => R'.length = svs.length + 1 ∧ Q sv R2)
    (hdb : (x == ("__debug__" : Str)) = false := by decide) (he : starEach (e :: es) X.env = (false, eval e X.env) :: starEach es X.env := by rfl) (hpl : (backTo pos (starEach es X.env)).any (·.1) = false := by rfl) : WE X P (.Call (.Name x p) (e :: es) [] pos) R Q := by
  obtain ⟨f, fd, ps, G, hm, hk, hb⟩ := (C.up hjk).ex
  refine .of (pe_callG G hgd hr hg hm hk hb .nil pass0 (pa_cons pe_m pa_m he) hdb he hpl) fun F σ Hd H w => h.use w fun Hd1 R1 sv v H1 e1 w1 r1 q1 => ?_
  obtain ⟨m, rfl, q1⟩ := q1
  obtain ⟨b, o, rfl, h1, h2, h3, h4, h5⟩ := r1
  have hz : ¬ F.Fz b := fun z => (w1.prot b z).2 h4
  refine (q1.run (F.with b o) σ Hd1 H1 (w1.enter h1 h3 h5 (crp_plain h2))).mono fun vs H2 ⟨Hd2, R2, svs, e2, w2, rel, hd, q⟩ => ?_
  obtain ⟨w3, g1, g2, g3⟩ := Wd.leave w2 h4 hz
  have w4 := w3.more g1 (h2.mono e2) g2 h4 g3
  have hl := w3.len
  have rel' : Paired (ArgRel X.K (σ ++ [some (.ref b)]) Hd2) (.loc R2.length :: svs) (.ref b :: vs) := by
    refine .cons ?_ (Paired.mapP rel fun s u g => ?_)
    · show (σ ++ [some (V.ref b)])[R2.length]? = some (some (V.ref b))
      rw [hl, List.getElem?_append_right (Nat.le_refl _), Nat.sub_self]
      rfl
    · cases s with
      | d x => exact g
      | loc i => exact app_old g
      | no => exact (g : False).elim
      | own _ => exact (g : False).elim
      | ex _ _ _ => exact (g : False).elim
  have own : (R2 ++ [SV.own m])[R2.length]? = some (.own m) := by
    rw [List.getElem?_append_right (Nat.le_refl _), Nat.sub_self]
    rfl
  have ok : ArgsOk (R2 ++ [.own m]) (.loc R2.length :: svs) := by
    refine ⟨fun i j q => ?_, fun i i' j q q' => ?_⟩
    · cases i with
      | zero =>
        have z : SV.loc R2.length = .loc j := Option.some.inj q
        injection z with z
        subst z
        exact ⟨m, own⟩
      | succ i => exact absurd q (noloc hd)
    · cases i with
      | zero =>
        cases i' with
        | zero => rfl
        | succ i' => exact absurd q' (noloc hd)
      | succ i => exact absurd q (noloc hd)
  obtain ⟨F', w', k'⟩ := call_world w4 rel' ok
  have ec : (SV.loc R2.length :: svs).map (cont (R2 ++ [.own m])) = .own m :: svs := by
    rw [List.map_cons, cont_d svs hd]
    show (R2 ++ [SV.own m]).getD R2.length .no :: svs = _
    rw [List.getD_eq_getElem?_getD, own]
    rfl
  rw [ec] at w' k'
  rw [List.append_nil]
  have hP : ∀ i ∈ P, i < R2.length := fun i hi => by
    obtain ⟨n, g, _⟩ := w3.pin i hi
    exact (List.getElem?_eq_some_iff.mp g).1
  exact ⟨F', Hd2, _, w', C.mono _ _ _ (fun sv R' ⟨hl', q2⟩ Hd' v H' e' fin => by
    obtain ⟨w5, r5⟩ := k' Hd' R' sv v H' e' (by rw [hl']; rfl) fin
    cases R' with
    | nil => cases hl'
    | cons r R' =>
      have eb : back (R2 ++ [SV.own m]) (.loc R2.length :: svs) (r :: R') = R2 ++ [r] := by
        show back ((R2 ++ [SV.own m]).set R2.length r) svs R' = _
        rw [back_d _ _ _ hd, List.set_append_right _ _ (Nat.le_refl _), Nat.sub_self]
        rfl
      rw [eb] at w5 r5
      have w6 := w5.less hl hP
      refine ⟨Hd', R2, sv, (e1.trans e2).trans e', w6, ?_, q2⟩
      cases sv with
      | d x => exact r5
      | own n =>
        obtain ⟨c, u, t1, t2, t3, t4, t5, t6⟩ := r5
        exact ⟨c, u, t1, t2, t3, t4, t5, fun i n' z y => t6 i n' (app_old z) (app_old y)⟩
      | no => exact (r5 : False).elim
      | loc i => exact (fin.2.2.2.2 : False).elim
      | ex _ _ _ => exact (fin.2.2.2.2 : False).elim) q⟩
end
end Dl
namespace Dl
open PySem PySem.Spec PyProof.Rows L2
section
variable {X : Cx} {P : List Nat} {R : DS} {a b : Expr} {pos : Pos} {D' : DEnds}
/-- x, y = a, b: two local names -/
theorem ws_par {i j : Nat} {x y : Str} {px py pt pt2 : Pos} {kt k2 : Nat} (hc : X.calm = true) (hN : X.N.Nodup) (hi : X.N[i]? = some x) (hj : X.N[j]? = some y) (hij : i ≠ j) (hx : X.env.scope.names.lookup x = some .local) (hy : X.env.scope.names.lookup y = some .local) (hPi : i ∉ P) (hPj : j ∉ P)
    (h : WE X P a R fun sv R1 => asD sv fun d1 => WE X P b R1 fun sv2 R2 => asD sv2 fun d2 => D'.nx ((R2.set i (.d d1)).set j (.d d2)))
    (hw : swappedStores [.Tuple [.Name x px, .Name y py] kt pt] (.Tuple [a, b] k2 pt2) X.env = pure (some [x, y]) := by rfl)
    (hs : swapsWithSole [.Tuple [.Name x px, .Name y py] kt pt] (.Tuple [a, b] k2 pt2) pos.line X.env = pure false := by rfl)
    (he : starEach [a, b] X.env = (false, eval a X.env) :: starEach [b] X.env := by rfl) (he2 : starEach [b] X.env = (false, eval b X.env) :: starEach [] X.env := by rfl) :
    WS X P (.Assign [.Tuple [.Name x px, .Name y py] kt pt] (.Tuple [a, b] k2 pt2) pos) R D' :=
  .of (ps_par hc hN hi hj hij hx hy (pa_cons pe_m (pa_cons pe_m pa_nil he2) he) hw hs) fun F σ Hd H w => h.fzD.use w fun Hd1 R1 sv v H1 e1 w1 r1 q1 => by
    obtain ⟨d1, rfl, q1⟩ := q1
    exact q1.fzD.use w1 fun Hd2 R2 sv2 v2 H2 e2 w2 r2 q2 => by
      obtain ⟨d2, rfl, q2⟩ := q2
      exact ⟨v, v2, rfl, Hd2, _, e1.trans e2, (w2.setD hPi (dpMono e2 r1)).setD hPj r2, q2⟩
end
end Dl
namespace K02
open PySem PySem.Spec PyProof.Rows L2 Dl
local macro_rules | `(tactic| walk_at "v") => `(tactic| first
  | refine we_d (i := 0) rfl (vis3 rfl) rfl ?_ | refine we_o (i := 0) rfl (vis3 rfl) rfl ?_
  | refine we_d (i := 1) rfl (vis3 rfl) rfl ?_ | refine we_o (i := 1) rfl (vis3 rfl) rfl ?_
  | refine we_d (i := 2) rfl (vis3 rfl) rfl ?_ | refine we_o (i := 2) rfl (vis3 rfl) rfl ?_
  | refine we_d (i := 3) rfl (vis3 rfl) rfl ?_ | refine we_o (i := 3) rfl (vis3 rfl) rfl ?_
  | refine we_d (i := 4) rfl (vis3 rfl) rfl ?_ | refine we_o (i := 4) rfl (vis3 rfl) rfl ?_
  | refine we_d (i := 5) rfl (vis3 rfl) rfl ?_ | refine we_o (i := 5) rfl (vis3 rfl) rfl ?_
  | refine we_d (i := 6) rfl (vis3 rfl) rfl ?_ | refine we_o (i := 6) rfl (vis3 rfl) rfl ?_
  | refine we_d (i := 7) rfl (vis3 rfl) rfl ?_ | refine we_o (i := 7) rfl (vis3 rfl) rfl ?_
  | refine we_d (i := 8) rfl (vis3 rfl) rfl ?_ | refine we_o (i := 8) rfl (vis3 rfl) rfl ?_
  | refine we_d (i := 9) rfl (vis3 rfl) rfl ?_ | refine we_o (i := 9) rfl (vis3 rfl) rfl ?_
  | refine we_d (i := 10) rfl (vis3 rfl) rfl ?_ | refine we_o (i := 10) rfl (vis3 rfl) rfl ?_
  | refine we_d (i := 11) rfl (vis3 rfl) rfl ?_ | refine we_o (i := 11) rfl (vis3 rfl) rfl ?_
  | refine we_d (i := 12) rfl (vis3 rfl) rfl ?_ | refine we_o (i := 12) rfl (vis3 rfl) rfl ?_
  | refine we_d (i := 13) rfl (vis3 rfl) rfl ?_ | refine we_o (i := 13) rfl (vis3 rfl) rfl ?_
  | refine we_d (i := 14) rfl (vis3 rfl) rfl ?_ | refine we_o (i := 14) rfl (vis3 rfl) rfl ?_
  | refine we_d (i := 15) rfl (vis3 rfl) rfl ?_ | refine we_o (i := 15) rfl (vis3 rfl) rfl ?_
  | refine we_d (i := 16) rfl (vis3 rfl) rfl ?_ | refine we_o (i := 16) rfl (vis3 rfl) rfl ?_
  | refine we_d (i := 17) rfl (vis3 rfl) rfl ?_ | refine we_o (i := 17) rfl (vis3 rfl) rfl ?_
  | refine we_d (i := 18) rfl (vis3 rfl) rfl ?_ | refine we_o (i := 18) rfl (vis3 rfl) rfl ?_
  | refine we_d (i := 19) rfl (vis3 rfl) rfl ?_ | refine we_o (i := 19) rfl (vis3 rfl) rfl ?_
  | refine we_d (i := 20) rfl (vis3 rfl) rfl ?_ | refine we_o (i := 20) rfl (vis3 rfl) rfl ?_)
local macro_rules | `(tactic| walk_at "si") => `(tactic| first
  | refine ws_set (i := 0) (by assumption) rfl (loc2 rfl) (by decide) ?_
  | refine ws_set (i := 1) (by assumption) rfl (loc2 rfl) (by decide) ?_
  | refine ws_set (i := 2) (by assumption) rfl (loc2 rfl) (by decide) ?_
  | refine ws_set (i := 3) (by assumption) rfl (loc2 rfl) (by decide) ?_
  | refine ws_set (i := 4) (by assumption) rfl (loc2 rfl) (by decide) ?_
  | refine ws_set (i := 5) (by assumption) rfl (loc2 rfl) (by decide) ?_
  | refine ws_set (i := 6) (by assumption) rfl (loc2 rfl) (by decide) ?_
  | refine ws_set (i := 7) (by assumption) rfl (loc2 rfl) (by decide) ?_
  | refine ws_set (i := 8) (by assumption) rfl (loc2 rfl) (by decide) ?_
  | refine ws_set (i := 9) (by assumption) rfl (loc2 rfl) (by decide) ?_
  | refine ws_set (i := 10) (by assumption) rfl (loc2 rfl) (by decide) ?_
  | refine ws_set (i := 11) (by assumption) rfl (loc2 rfl) (by decide) ?_
  | refine ws_set (i := 12) (by assumption) rfl (loc2 rfl) (by decide) ?_
  | refine ws_set (i := 13) (by assumption) rfl (loc2 rfl) (by decide) ?_
  | refine ws_set (i := 14) (by assumption) rfl (loc2 rfl) (by decide) ?_
  | refine ws_set (i := 15) (by assumption) rfl (loc2 rfl) (by decide) ?_
  | refine ws_set (i := 16) (by assumption) rfl (loc2 rfl) (by decide) ?_
  | refine ws_set (i := 17) (by assumption) rfl (loc2 rfl) (by decide) ?_
  | refine ws_set (i := 18) (by assumption) rfl (loc2 rfl) (by decide) ?_
  | refine ws_set (i := 19) (by assumption) rfl (loc2 rfl) (by decide) ?_
  | refine ws_set (i := 20) (by assumption) rfl (loc2 rfl) (by decide) ?_)
local macro_rules | `(tactic| walk_at "gi") => `(tactic| first
  | refine wg_name (i := 0) (by assumption) rfl (loc2 rfl) (by decide) ?_
  | refine wg_name (i := 1) (by assumption) rfl (loc2 rfl) (by decide) ?_
  | refine wg_name (i := 2) (by assumption) rfl (loc2 rfl) (by decide) ?_
  | refine wg_name (i := 3) (by assumption) rfl (loc2 rfl) (by decide) ?_
  | refine wg_name (i := 4) (by assumption) rfl (loc2 rfl) (by decide) ?_
  | refine wg_name (i := 5) (by assumption) rfl (loc2 rfl) (by decide) ?_
  | refine wg_name (i := 6) (by assumption) rfl (loc2 rfl) (by decide) ?_
  | refine wg_name (i := 7) (by assumption) rfl (loc2 rfl) (by decide) ?_
  | refine wg_name (i := 8) (by assumption) rfl (loc2 rfl) (by decide) ?_
  | refine wg_name (i := 9) (by assumption) rfl (loc2 rfl) (by decide) ?_
  | refine wg_name (i := 10) (by assumption) rfl (loc2 rfl) (by decide) ?_
  | refine wg_name (i := 11) (by assumption) rfl (loc2 rfl) (by decide) ?_
  | refine wg_name (i := 12) (by assumption) rfl (loc2 rfl) (by decide) ?_
  | refine wg_name (i := 13) (by assumption) rfl (loc2 rfl) (by decide) ?_
  | refine wg_name (i := 14) (by assumption) rfl (loc2 rfl) (by decide) ?_
  | refine wg_name (i := 15) (by assumption) rfl (loc2 rfl) (by decide) ?_
  | refine wg_name (i := 16) (by assumption) rfl (loc2 rfl) (by decide) ?_
  | refine wg_name (i := 17) (by assumption) rfl (loc2 rfl) (by decide) ?_
  | refine wg_name (i := 18) (by assumption) rfl (loc2 rfl) (by decide) ?_
  | refine wg_name (i := 19) (by assumption) rfl (loc2 rfl) (by decide) ?_
  | refine wg_name (i := 20) (by assumption) rfl (loc2 rfl) (by decide) ?_)
local macro_rules | `(tactic| walk_at "side") => `(tactic| first | exact rfl | exact Nat.le_trans (m := 1000) (Nat.le_of_ble_eq_true rfl) sz1000 | omega | decide | assumption)
local macro_rules | `(tactic| walk_at "we") => `(tactic| first
  | (refine isName ?_; walk_at "v")
  | refine we_int ?_ | refine we_bl ?_ | refine we_non ?_ | refine we_str ?_
  | refine we_ix ?_
  | refine we_addG ?_ | refine we_sub ?_ | refine we_mulG ?_ | refine we_div ?_ | refine we_mod ?_ | refine we_pow ?_ | refine we_neg ?_
  | refine we_gt ?_ | refine we_lt ?_ | refine we_ge ?_ | refine we_le ?_
  | refine we_tup ?_ | refine we_lst ?_ | refine we_dict0 ?_
  | refine we_len (by assumption) rfl ?_ | refine we_slG ?_ | refine we_eqG (by assumption) ?_ | refine we_neG (by assumption) ?_ | refine we_not ?_ | refine we_one ?_ | refine we_and ?_ | refine we_or ?_
  | refine we_call2 (by assumption) (by assumption) (by assumption) (by decide) rfl ?_)
local macro_rules | `(tactic| walk_at "wt") => `(tactic| first
  | refine wt_gt ?_ | refine wt_lt ?_ | refine wt_ge ?_ | refine wt_le ?_ | refine wt_not ?_
  | refine wt_eqG (by assumption) ?_ | refine wt_neG (by assumption) ?_ | refine wt_bool ?_ | refine wt_val ?_)
local macro_rules | `(tactic| walk_at "ws") => `(tactic| first
  | refine ws_ret ?_ | (refine isSet ?_; walk_at "si") | refine ws_if ?_
  | refine ws_append (pe_bm PySem.F.plainAttrs_list PySem.F.slot_list_append PySem.F.type_list_append mt_append pe_m (pa_cons pe_m pa_nil)) ?_
  | refine ws_continue ?_ | refine ws_break ?_ | refine ws_pass ?_)
local macro_rules | `(tactic| walk_at "l") => `(tactic| first
  | refine And.intro (Exists.intro _ rfl) ?_
  | refine And.intro trivial ?_
  | refine Exists.intro _ (And.intro rfl ?_)
  | refine Exists.intro _ (Exists.intro _ (And.intro rfl (And.intro rfl ?_)))
  | refine And.intro (And.intro (by walk_at "side") (by walk_at "side") : CDiv _ _) ?_
  | refine And.intro (.inl (And.intro (by walk_at "side") (by walk_at "side")) : CMul _ _) ?_
  | refine And.intro (.inr (And.intro (by walk_at "side") (by walk_at "side")) : CMul _ _) ?_
  | refine And.intro (And.intro (List.cons_ne_nil _ _) (And.intro (by walk_at "side") (And.intro (by walk_at "side") (by walk_at "side")))) ?_
  | refine And.intro (by walk_at "side") ?_)
local macro_rules | `(tactic| walk_at "step") => `(tactic| first
  | (refine isWE ?_; walk_at "we")
  | (refine isWT ?_; walk_at "wt")
  | (refine isWSs ?_; first | refine wss_nil ?_ | refine wss_one ?_ | refine wss_cons ?_)
  | (refine isWS ?_; walk_at "ws")
  | (refine isWDs ?_; first | refine wds_nil ?_ | refine wds_cons ?_)
  | (refine isWW ?_; first | refine ww_and1 ?_ | refine ww_or1 ?_ | refine ww_and ?_ | refine ww_or ?_)
  | refine allB_i fun _ _ _ _ _ => ?_
  | refine asI_i (allB_i fun _ _ _ _ _ => ?_)
  | (refine isWG ?_; first | walk_at "gi" | refine wg_tup rfl ?_ rfl)
  | (refine isWGs ?_; first | refine wgs_nil ?_ | refine wgs_consN ?_)
  | (refine isWO ?_; first | refine wo_none ?_ | refine wo_some ?_)
  | (refine isWA ?_; first | refine wa_nil ?_ | refine wa_cons ?_)
  | walk_at "l")
local macro_rules | `(tactic| walk_at "go") => `(tactic| repeat (walk_at "step"))
def topS (i : Nat) : Stmt := PySem.Challenge.pw_writeorders_k02_first_images.main.body.getD i (.Pass ⟨0, 0, 0, 0⟩)
abbrev NDraw : List Str := ["_law_pool_here", "_law_many", "_law_found"]
theorem scDraw : FnScope NDraw ["_law_pool_here", "_law_many"] (defScope (topS 49)) := ⟨rfl, rfl, rfl, by decide +kernel, rfl, by decide +kernel, by decide +kernel⟩
section
variable {Pg : Program} {w : World} {K : PySem.W.Frag} {mg : Str → Option Value} {base : Heap}
/-- any draw -/
def PoolOk (b : Int) : Prop := 0 ≤ b ∧ b < 2147483647
def pool (a b : Int) : SV := .own (.lst [.int a, .int b])
def sDraw : SpD := fun R Q => ∃ a b m : Int, R = [pool a b, .d (.int m)] ∧ (0 < m ∧ m < 1000) ∧ PoolOk b ∧
  ∀ r a' b' : Int, 0 ≤ r ∧ r < m → PoolOk b' → Q (.d (.int r)) [pool a' b', .d (.int m)]
theorem ok_draw {f : Addr} {fd : FuncData} (F : Fun K "_law_draw" "_law_draw" (topS 49) f fd) (hm : mg "_law_draw" = some (.ref f)) (hb : Binds K fd ["_law_pool_here", "_law_many"] []) : Can Pg w K mg base 1 "_law_draw" sDraw := by
  refine can_def F scDraw hm hb (fun A Z Z' k ⟨a, b, m, h1, h2, h3, h4⟩ => ⟨a, b, m, h1, h2, h3, fun r a' b' g1 g2 => k _ _ (h4 r a' b' g1 g2)⟩) (by decide) (fun R Q h => ?_) (fun cdv A outer s H E hgd hr R Q h => ?_)
  · obtain ⟨a, b, m, rfl, _⟩ := h
    rfl
  · obtain ⟨a, b, m, rfl, hm, ⟨hb1, hb2⟩, q⟩ := h
    show WSs _ [0] _ [.own (.lst [.int a, .int b]), .d (.int m), .no] _
    have nd : NDraw.Nodup := scDraw.nd
    walk_at "go"
    refine ⟨fun h => ?_, fun h => ?_⟩
    · have h0 : 0 < a := of_decide_eq_true h
      walk_at "go"
      refine ws_lput (pg_sub pe_m pe_m set_list) ?_
      walk_at "go"
      exact q _ _ _ ⟨Int.emod_nonneg _ (by omega), Int.emod_lt_of_pos _ hm.1⟩ ⟨hb1, hb2⟩
    · walk_at "go"
      refine ws_lput (pg_sub pe_m pe_m set_list) ?_
      walk_at "go"
      exact q _ _ _ ⟨Int.emod_nonneg _ (by omega), Int.emod_lt_of_pos _ hm.1⟩ ⟨by omega, by omega⟩
end

abbrev NPool : List Str := ["_law_script", "_law_k", "_law_cell", "_law_size", "_law_mixed"]
theorem scPool : FnScope NPool ["_law_script", "_law_k"] (defScope (topS 48)) := ⟨rfl, rfl, rfl, by decide +kernel, rfl, by decide +kernel, by decide +kernel⟩
section
variable {Pg : Program} {w : World} {K : PySem.W.Frag} {mg : Str → Option Value} {base : Heap}
def sPool : SpD := fun R Q => ∃ (ns : List Int) (k : Int), R = [.d (.list (ns.map .int)), .d (.int k)] ∧ (0 ≤ k ∧ k < 100) ∧ ∀ a b : Int, PoolOk b → Q (pool a b) R
theorem ok_pool {f : Addr} {fd : FuncData} (F : Fun K "_law_pool" "_law_pool" (topS 48) f fd) (hm : mg "_law_pool" = some (.ref f)) (hb : Binds K fd ["_law_script", "_law_k"] []) (ml : mg "len" = none) (mx : mg "max" = none) (mi : mg "int" = none) : Can Pg w K mg base 1 "_law_pool" sPool := by
  refine can_def F scPool hm hb (fun A Z Z' k ⟨a, b, h1, h2, h3⟩ => ⟨a, b, h1, h2, fun x y g => k _ _ (h3 x y g)⟩) (by decide) (fun R Q h => ?_) (fun cdv A outer s H E hgd hr R Q h => ?_)
  · obtain ⟨a, b, rfl, _⟩ := h
    rfl
  · obtain ⟨ns, k, rfl, ⟨hk0, hk1⟩, q⟩ := h
    show WSs _ [] _ [.d (.list (ns.map .int)), .d (.int k), .no, .no, .no] _
    have nd : NPool.Nodup := scPool.nd
    have rest : ∀ c : Int, WSs (cxOf CX0 Pg w K mg base NPool "_law_pool" (defScope (topS 48)) f cdv A outer s H E).nox [] ((defBody (topS 48)).drop 2) [.d (.list (ns.map .int)), .d (.int k), .d (.int c), .no, .no] (bodyEnds 2 Q) := fun c => by
      refine wss_cons ?_
      walk_at "si"
      refine we_max2 rfl mx rfl ?_
      walk_at "go"
      generalize (if -1 - c > c then -1 - c else c) = sz
      walk_at "go"
      refine we_intB mi rfl ?_
      walk_at "go"
      refine And.intro ⟨by decide, by decide, by decide⟩ ?_
      walk_at "go"
      exact q _ _ ⟨Int.emod_nonneg _ (by decide), Int.emod_lt_of_pos _ (by decide)⟩
    walk_at "go"
    refine ⟨fun e => ?_, fun e => ?_⟩
    · have e1 : k < (ns.length : Int) := by
        have := of_decide_eq_true e
        rw [List.length_map] at this
        exact this
      have hlt : k.toNat < ns.length := by omega
      walk_at "go"
      refine ⟨ns.map .int, .int ns[k.toNat], rfl, ?_, ?_⟩
      · exact atI_of hk0 (by rw [List.getElem?_map, List.getElem?_eq_getElem hlt]; rfl)
      exact rest ns[k.toNat]
    · refine wss_nil ?_
      exact rest 0
end
end K02
namespace K02
open PySem PySem.Spec PyProof.Rows L2 Dl
local macro_rules | `(tactic| walk_at "v") => `(tactic| first
  | refine we_d (i := 0) rfl (vis3 rfl) rfl ?_ | refine we_o (i := 0) rfl (vis3 rfl) rfl ?_
  | refine we_d (i := 1) rfl (vis3 rfl) rfl ?_ | refine we_o (i := 1) rfl (vis3 rfl) rfl ?_
  | refine we_d (i := 2) rfl (vis3 rfl) rfl ?_ | refine we_o (i := 2) rfl (vis3 rfl) rfl ?_
  | refine we_d (i := 3) rfl (vis3 rfl) rfl ?_ | refine we_o (i := 3) rfl (vis3 rfl) rfl ?_
  | refine we_d (i := 4) rfl (vis3 rfl) rfl ?_ | refine we_o (i := 4) rfl (vis3 rfl) rfl ?_
  | refine we_d (i := 5) rfl (vis3 rfl) rfl ?_ | refine we_o (i := 5) rfl (vis3 rfl) rfl ?_
  | refine we_d (i := 6) rfl (vis3 rfl) rfl ?_ | refine we_o (i := 6) rfl (vis3 rfl) rfl ?_
  | refine we_d (i := 7) rfl (vis3 rfl) rfl ?_ | refine we_o (i := 7) rfl (vis3 rfl) rfl ?_
  | refine we_d (i := 8) rfl (vis3 rfl) rfl ?_ | refine we_o (i := 8) rfl (vis3 rfl) rfl ?_
  | refine we_d (i := 9) rfl (vis3 rfl) rfl ?_ | refine we_o (i := 9) rfl (vis3 rfl) rfl ?_
  | refine we_d (i := 10) rfl (vis3 rfl) rfl ?_ | refine we_o (i := 10) rfl (vis3 rfl) rfl ?_
  | refine we_d (i := 11) rfl (vis3 rfl) rfl ?_ | refine we_o (i := 11) rfl (vis3 rfl) rfl ?_
  | refine we_d (i := 12) rfl (vis3 rfl) rfl ?_ | refine we_o (i := 12) rfl (vis3 rfl) rfl ?_
  | refine we_d (i := 13) rfl (vis3 rfl) rfl ?_ | refine we_o (i := 13) rfl (vis3 rfl) rfl ?_
  | refine we_d (i := 14) rfl (vis3 rfl) rfl ?_ | refine we_o (i := 14) rfl (vis3 rfl) rfl ?_
  | refine we_d (i := 15) rfl (vis3 rfl) rfl ?_ | refine we_o (i := 15) rfl (vis3 rfl) rfl ?_
  | refine we_d (i := 16) rfl (vis3 rfl) rfl ?_ | refine we_o (i := 16) rfl (vis3 rfl) rfl ?_
  | refine we_d (i := 17) rfl (vis3 rfl) rfl ?_ | refine we_o (i := 17) rfl (vis3 rfl) rfl ?_
  | refine we_d (i := 18) rfl (vis3 rfl) rfl ?_ | refine we_o (i := 18) rfl (vis3 rfl) rfl ?_
  | refine we_d (i := 19) rfl (vis3 rfl) rfl ?_ | refine we_o (i := 19) rfl (vis3 rfl) rfl ?_
  | refine we_d (i := 20) rfl (vis3 rfl) rfl ?_ | refine we_o (i := 20) rfl (vis3 rfl) rfl ?_)
local macro_rules | `(tactic| walk_at "si") => `(tactic| first
  | refine ws_set (i := 0) (by assumption) rfl (loc2 rfl) (by decide) ?_
  | refine ws_set (i := 1) (by assumption) rfl (loc2 rfl) (by decide) ?_
  | refine ws_set (i := 2) (by assumption) rfl (loc2 rfl) (by decide) ?_
  | refine ws_set (i := 3) (by assumption) rfl (loc2 rfl) (by decide) ?_
  | refine ws_set (i := 4) (by assumption) rfl (loc2 rfl) (by decide) ?_
  | refine ws_set (i := 5) (by assumption) rfl (loc2 rfl) (by decide) ?_
  | refine ws_set (i := 6) (by assumption) rfl (loc2 rfl) (by decide) ?_
  | refine ws_set (i := 7) (by assumption) rfl (loc2 rfl) (by decide) ?_
  | refine ws_set (i := 8) (by assumption) rfl (loc2 rfl) (by decide) ?_
  | refine ws_set (i := 9) (by assumption) rfl (loc2 rfl) (by decide) ?_
  | refine ws_set (i := 10) (by assumption) rfl (loc2 rfl) (by decide) ?_
  | refine ws_set (i := 11) (by assumption) rfl (loc2 rfl) (by decide) ?_
  | refine ws_set (i := 12) (by assumption) rfl (loc2 rfl) (by decide) ?_
  | refine ws_set (i := 13) (by assumption) rfl (loc2 rfl) (by decide) ?_
  | refine ws_set (i := 14) (by assumption) rfl (loc2 rfl) (by decide) ?_
  | refine ws_set (i := 15) (by assumption) rfl (loc2 rfl) (by decide) ?_
  | refine ws_set (i := 16) (by assumption) rfl (loc2 rfl) (by decide) ?_
  | refine ws_set (i := 17) (by assumption) rfl (loc2 rfl) (by decide) ?_
  | refine ws_set (i := 18) (by assumption) rfl (loc2 rfl) (by decide) ?_
  | refine ws_set (i := 19) (by assumption) rfl (loc2 rfl) (by decide) ?_
  | refine ws_set (i := 20) (by assumption) rfl (loc2 rfl) (by decide) ?_)
local macro_rules | `(tactic| walk_at "gi") => `(tactic| first
  | refine wg_name (i := 0) (by assumption) rfl (loc2 rfl) (by decide) ?_
  | refine wg_name (i := 1) (by assumption) rfl (loc2 rfl) (by decide) ?_
  | refine wg_name (i := 2) (by assumption) rfl (loc2 rfl) (by decide) ?_
  | refine wg_name (i := 3) (by assumption) rfl (loc2 rfl) (by decide) ?_
  | refine wg_name (i := 4) (by assumption) rfl (loc2 rfl) (by decide) ?_
  | refine wg_name (i := 5) (by assumption) rfl (loc2 rfl) (by decide) ?_
  | refine wg_name (i := 6) (by assumption) rfl (loc2 rfl) (by decide) ?_
  | refine wg_name (i := 7) (by assumption) rfl (loc2 rfl) (by decide) ?_
  | refine wg_name (i := 8) (by assumption) rfl (loc2 rfl) (by decide) ?_
  | refine wg_name (i := 9) (by assumption) rfl (loc2 rfl) (by decide) ?_
  | refine wg_name (i := 10) (by assumption) rfl (loc2 rfl) (by decide) ?_
  | refine wg_name (i := 11) (by assumption) rfl (loc2 rfl) (by decide) ?_
  | refine wg_name (i := 12) (by assumption) rfl (loc2 rfl) (by decide) ?_
  | refine wg_name (i := 13) (by assumption) rfl (loc2 rfl) (by decide) ?_
  | refine wg_name (i := 14) (by assumption) rfl (loc2 rfl) (by decide) ?_
  | refine wg_name (i := 15) (by assumption) rfl (loc2 rfl) (by decide) ?_
  | refine wg_name (i := 16) (by assumption) rfl (loc2 rfl) (by decide) ?_
  | refine wg_name (i := 17) (by assumption) rfl (loc2 rfl) (by decide) ?_
  | refine wg_name (i := 18) (by assumption) rfl (loc2 rfl) (by decide) ?_
  | refine wg_name (i := 19) (by assumption) rfl (loc2 rfl) (by decide) ?_
  | refine wg_name (i := 20) (by assumption) rfl (loc2 rfl) (by decide) ?_)
local macro_rules | `(tactic| walk_at "side") => `(tactic| first | exact rfl | exact Nat.le_trans (m := 1000) (Nat.le_of_ble_eq_true rfl) sz1000 | omega | decide | assumption)
local macro_rules | `(tactic| walk_at "we") => `(tactic| first
  | (refine isName ?_; walk_at "v")
  | refine we_int ?_ | refine we_bl ?_ | refine we_non ?_ | refine we_str ?_
  | refine we_ix ?_
  | refine we_addG ?_ | refine we_sub ?_ | refine we_mulG ?_ | refine we_div ?_ | refine we_mod ?_ | refine we_pow ?_ | refine we_neg ?_
  | refine we_gt ?_ | refine we_lt ?_ | refine we_ge ?_ | refine we_le ?_
  | refine we_tup ?_ | refine we_lst ?_ | refine we_dict0 ?_
  | refine we_len (by assumption) rfl ?_ | refine we_slG ?_ | refine we_eqG (by assumption) ?_ | refine we_neG (by assumption) ?_ | refine we_not ?_ | refine we_one ?_ | refine we_and ?_ | refine we_or ?_
  | refine we_call2 (by assumption) (by assumption) (by assumption) (by decide) rfl ?_)
local macro_rules | `(tactic| walk_at "wt") => `(tactic| first
  | refine wt_gt ?_ | refine wt_lt ?_ | refine wt_ge ?_ | refine wt_le ?_ | refine wt_not ?_
  | refine wt_eqG (by assumption) ?_ | refine wt_neG (by assumption) ?_ | refine wt_bool ?_ | refine wt_val ?_)
local macro_rules | `(tactic| walk_at "ws") => `(tactic| first
  | refine ws_ret ?_ | (refine isSet ?_; walk_at "si") | refine ws_if ?_
  | refine ws_append (pe_bm PySem.F.plainAttrs_list PySem.F.slot_list_append PySem.F.type_list_append mt_append pe_m (pa_cons pe_m pa_nil)) ?_
  | refine ws_continue ?_ | refine ws_break ?_ | refine ws_pass ?_)
local macro_rules | `(tactic| walk_at "l") => `(tactic| first
  | refine And.intro (Exists.intro _ rfl) ?_
  | refine And.intro trivial ?_
  | refine Exists.intro _ (And.intro rfl ?_)
  | refine Exists.intro _ (Exists.intro _ (And.intro rfl (And.intro rfl ?_)))
  | refine And.intro (And.intro (by walk_at "side") (by walk_at "side") : CDiv _ _) ?_
  | refine And.intro (.inl (And.intro (by walk_at "side") (by walk_at "side")) : CMul _ _) ?_
  | refine And.intro (.inr (And.intro (by walk_at "side") (by walk_at "side")) : CMul _ _) ?_
  | refine And.intro (And.intro (List.cons_ne_nil _ _) (And.intro (by walk_at "side") (And.intro (by walk_at "side") (by walk_at "side")))) ?_
  | refine And.intro (by walk_at "side") ?_)
local macro_rules | `(tactic| walk_at "step") => `(tactic| first
  | (refine isWE ?_; walk_at "we")
  | (refine isWT ?_; walk_at "wt")
  | (refine isWSs ?_; first | refine wss_nil ?_ | refine wss_one ?_ | refine wss_cons ?_)
  | (refine isWS ?_; walk_at "ws")
  | (refine isWDs ?_; first | refine wds_nil ?_ | refine wds_cons ?_)
  | (refine isWW ?_; first | refine ww_and1 ?_ | refine ww_or1 ?_ | refine ww_and ?_ | refine ww_or ?_)
  | refine allB_i fun _ _ _ _ _ => ?_
  | refine asI_i (allB_i fun _ _ _ _ _ => ?_)
  | (refine isWG ?_; first | walk_at "gi" | refine wg_tup rfl ?_ rfl)
  | (refine isWGs ?_; first | refine wgs_nil ?_ | refine wgs_consN ?_)
  | (refine isWO ?_; first | refine wo_none ?_ | refine wo_some ?_)
  | (refine isWA ?_; first | refine wa_nil ?_ | refine wa_cons ?_)
  | walk_at "l")
local macro_rules | `(tactic| walk_at "go") => `(tactic| repeat (walk_at "step"))
mutual
def fit : D → Bool
  | .str x => decide (x.length ≤ 1000)
  | .tuple xs => decide (xs.length ≤ 1000) && fitA xs
  | .list xs => decide (xs.length ≤ 1000) && fitA xs
  | _ => true
def fitA : List D → Bool
  | [] => true
  | x :: r => fit x && fitA r
end
theorem fitA_all : ∀ {xs : List D}, fitA xs = true → ∀ x ∈ xs, fit x = true
  | [], _, _, hx => by cases hx
  | y :: r, h, x, hx => by
    have h' : (fit y && fitA r) = true := h
    rw [Bool.and_eq_true] at h'
    rcases List.mem_cons.mp hx with e | hx
    · rw [e]; exact h'.1
    · exact fitA_all h'.2 x hx
theorem fit_tup {xs : List D} (h : fit (.tuple xs) = true) : xs.length ≤ 1000 ∧ ∀ x ∈ xs, fit x = true := by
  have h' : (decide (xs.length ≤ 1000) && fitA xs) = true := h
  rw [Bool.and_eq_true, decide_eq_true_eq] at h'
  exact ⟨h'.1, fitA_all h'.2⟩
def isW : D → Bool | .int _ => true | _ => false
theorem isW_of (d : D) (h : isIntB d = true) : (!isBool d) = isW d := by cases d <;> first | rfl | cases h
theorem isW_no (d : D) (h : isIntB d = false) : isW d = false := by cases d <;> first | rfl | cases h
def inR (l m : Int) : D → Bool | .int i => decide (l ≤ i) && decide (i ≤ m) | _ => false
def isText : D → Bool | .str x => decide (x.length ≤ 40) && (sgn x).all fun c => leS " " c && leS c "~" | _ => false
def isNam : D → Bool | .str x => (decide (1 ≤ x.length) && decide (x.length ≤ 8)) && (sgn x).all fun c => leS "a" c && leS c "z" | _ => false
def isRow (l m : Int) : D → Bool | .tuple xs => decide (l ≤ (xs.length : Int)) && decide ((xs.length : Int) ≤ m) | _ => false
def isKind : D → Bool | .str x => decide (x ∈ (["file", "folder"] : List Str)) | _ => false
abbrev NW : List Str := ["thing"]
theorem scW : FnScope NW ["thing"] (defScope (topS 15)) := ⟨rfl, rfl, rfl, by decide +kernel, rfl, by decide +kernel, by decide +kernel⟩
abbrev NWi : List Str := ["thing", "least", "most"]
theorem scWi : FnScope NWi ["thing", "least", "most"] (defScope (topS 16)) := ⟨rfl, rfl, rfl, by decide +kernel, rfl, by decide +kernel, by decide +kernel⟩
theorem scRo : FnScope NWi ["thing", "least", "most"] (defScope (topS 21)) := ⟨rfl, rfl, rfl, by decide +kernel, rfl, by decide +kernel, by decide +kernel⟩
abbrev NTx : List Str := ["thing", "sign"]
theorem scTx : FnScope NTx ["thing"] (defScope (topS 17)) := ⟨rfl, rfl, rfl, by decide +kernel, rfl, by decide +kernel, by decide +kernel⟩
theorem scNm : FnScope NTx ["thing"] (defScope (topS 18)) := ⟨rfl, rfl, rfl, by decide +kernel, rfl, by decide +kernel, by decide +kernel⟩
theorem scKd : FnScope NW ["thing"] (defScope (topS 23)) := ⟨rfl, rfl, rfl, by decide +kernel, rfl, by decide +kernel, by decide +kernel⟩
local macro_rules | `(tactic| walk_at "we") => `(tactic| first
  | refine we_chain ?_
  | refine we_glob (by assumption) rfl (by assumption) ?_
  | refine we_isi (by assumption) rfl (by assumption) rfl rfl ?_)
section
variable {Pg : Program} {w : World} {K : PySem.W.Frag} {mg : Str → Option Value} {base : Heap}
def look1 (f : D → Bool) : SpD := fun R Q => ∃ d, R = [.d d] ∧ fit d = true ∧ Q (.d (.bool (f d))) R
def look3 (f : Int → Int → D → Bool) : SpD := fun R Q => ∃ d l m, R = [.d d, .d (.int l), .d (.int m)] ∧ fit d = true ∧ Q (.d (.bool (f l m d))) R
theorem ok_whole {f : Addr} {fd : FuncData} (F : Fun K "is_whole" "is_whole" (topS 15) f fd) (hm : mg "is_whole" = some (.ref f)) (hb : Binds K fd ["thing"] []) (mi : mg "isinstance" = none) (mn : mg "int" = none) (mb : mg "bool" = none) : Can Pg w K mg base 1 "is_whole" (look1 isW) := by
  refine can_def F scW hm hb (fun A Z Z' k ⟨a, h1, h2, h3⟩ => ⟨a, h1, h2, k _ _ h3⟩) (by decide) (fun R Q h => ?_) (fun cdv A outer s H E hgd hr R Q h => ?_)
  · obtain ⟨a, rfl, _⟩ := h
    rfl
  · obtain ⟨d, rfl, hf, q⟩ := h
    show WSs _ [] _ [.d d] _
    have nd : NW.Nodup := scW.nd
    walk_at "go"
    refine ⟨d, isIntB d, rfl, kit_int d, ?_⟩
    refine asB_b ⟨fun e => ?_, fun e => ?_⟩
    · walk_at "go"
      refine ⟨d, isBool d, rfl, kit_bool d, ?_⟩
      refine asB_b ?_
      rw [isW_of d e]
      exact q
    · rw [isW_no d e] at q
      exact q
theorem ok_within {f : Addr} {fd : FuncData} (F : Fun K "is_within" "is_within" (topS 16) f fd) (hm : mg "is_within" = some (.ref f)) (hb : Binds K fd ["thing", "least", "most"] []) (cW : Can Pg w K mg base 1 "is_whole" (look1 isW)) : Can Pg w K mg base 2 "is_within" (look3 inR) := by
  refine can_def F scWi hm hb (fun A Z Z' k ⟨a, b, c, h1, h2, h3⟩ => ⟨a, b, c, h1, h2, k _ _ h3⟩) (by decide) (fun R Q h => ?_) (fun cdv A outer s H E hgd hr R Q h => ?_)
  · obtain ⟨a, b, c, rfl, _⟩ := h
    rfl
  · obtain ⟨d, l, m, rfl, hf, q⟩ := h
    show WSs _ [] _ [.d d, .d (.int l), .d (.int m)] _
    have nd : NWi.Nodup := scWi.nd
    walk_at "go"
    refine ⟨fun e => ?_, fun e => ?_⟩
    · obtain ⟨i, rfl⟩ : ∃ i, d = .int i := by cases d <;> first | exact ⟨_, rfl⟩ | cases e
      walk_at "go"
      have e0 : inR l m (.int i) = (decide (l ≤ i) && decide (i ≤ m)) := rfl
      rw [e0] at q
      refine ⟨fun z => ?_, fun z => ?_⟩
      · rw [decide_eq_true z, Bool.true_and] at q
        walk_at "go"
        exact q
      · rw [decide_eq_false z] at q
        exact q
    · have e0 : inR l m d = false := by cases d <;> first | rfl | cases e
      rw [e0] at q
      exact q
theorem ok_row {f : Addr} {fd : FuncData} (F : Fun K "_is_row" "_is_row" (topS 21) f fd) (hm : mg "_is_row" = some (.ref f)) (hb : Binds K fd ["thing", "least", "most"] []) (mi : mg "isinstance" = none) (mt : mg "tuple" = none) (ml : mg "len" = none) : Can Pg w K mg base 1 "_is_row" (look3 isRow) := by
  refine can_def F scRo hm hb (fun A Z Z' k ⟨a, b, c, h1, h2, h3⟩ => ⟨a, b, c, h1, h2, k _ _ h3⟩) (by decide) (fun R Q h => ?_) (fun cdv A outer s H E hgd hr R Q h => ?_)
  · obtain ⟨a, b, c, rfl, _⟩ := h
    rfl
  · obtain ⟨d, l, m, rfl, hf, q⟩ := h
    show WSs _ [] _ [.d d, .d (.int l), .d (.int m)] _
    have nd : NWi.Nodup := scRo.nd
    walk_at "go"
    refine ⟨d, isTup d, rfl, kit_tup d, ?_⟩
    refine asB_b ⟨fun e => ?_, fun e => ?_⟩
    · obtain ⟨xs, rfl⟩ := tup_of e
      walk_at "go"
      have e0 : isRow l m (.tuple xs) = (decide (l ≤ (xs.length : Int)) && decide ((xs.length : Int) ≤ m)) := rfl
      rw [e0] at q
      refine ⟨fun z => ?_, fun z => ?_⟩
      · rw [decide_eq_true z, Bool.true_and] at q
        walk_at "go"
        exact q
      · rw [decide_eq_false z] at q
        exact q
    · have e0 : isRow l m d = false := by cases d <;> first | rfl | cases e
      rw [e0] at q
      exact q
end
end K02
namespace K02
open PySem PySem.Spec PyProof.Rows L2 Dl
local macro_rules | `(tactic| walk_at "v") => `(tactic| first
  | refine we_d (i := 0) rfl (vis3 rfl) rfl ?_ | refine we_o (i := 0) rfl (vis3 rfl) rfl ?_
  | refine we_d (i := 1) rfl (vis3 rfl) rfl ?_ | refine we_o (i := 1) rfl (vis3 rfl) rfl ?_
  | refine we_d (i := 2) rfl (vis3 rfl) rfl ?_ | refine we_o (i := 2) rfl (vis3 rfl) rfl ?_
  | refine we_d (i := 3) rfl (vis3 rfl) rfl ?_ | refine we_o (i := 3) rfl (vis3 rfl) rfl ?_
  | refine we_d (i := 4) rfl (vis3 rfl) rfl ?_ | refine we_o (i := 4) rfl (vis3 rfl) rfl ?_
  | refine we_d (i := 5) rfl (vis3 rfl) rfl ?_ | refine we_o (i := 5) rfl (vis3 rfl) rfl ?_
  | refine we_d (i := 6) rfl (vis3 rfl) rfl ?_ | refine we_o (i := 6) rfl (vis3 rfl) rfl ?_
  | refine we_d (i := 7) rfl (vis3 rfl) rfl ?_ | refine we_o (i := 7) rfl (vis3 rfl) rfl ?_
  | refine we_d (i := 8) rfl (vis3 rfl) rfl ?_ | refine we_o (i := 8) rfl (vis3 rfl) rfl ?_
  | refine we_d (i := 9) rfl (vis3 rfl) rfl ?_ | refine we_o (i := 9) rfl (vis3 rfl) rfl ?_
  | refine we_d (i := 10) rfl (vis3 rfl) rfl ?_ | refine we_o (i := 10) rfl (vis3 rfl) rfl ?_
  | refine we_d (i := 11) rfl (vis3 rfl) rfl ?_ | refine we_o (i := 11) rfl (vis3 rfl) rfl ?_
  | refine we_d (i := 12) rfl (vis3 rfl) rfl ?_ | refine we_o (i := 12) rfl (vis3 rfl) rfl ?_
  | refine we_d (i := 13) rfl (vis3 rfl) rfl ?_ | refine we_o (i := 13) rfl (vis3 rfl) rfl ?_
  | refine we_d (i := 14) rfl (vis3 rfl) rfl ?_ | refine we_o (i := 14) rfl (vis3 rfl) rfl ?_
  | refine we_d (i := 15) rfl (vis3 rfl) rfl ?_ | refine we_o (i := 15) rfl (vis3 rfl) rfl ?_
  | refine we_d (i := 16) rfl (vis3 rfl) rfl ?_ | refine we_o (i := 16) rfl (vis3 rfl) rfl ?_
  | refine we_d (i := 17) rfl (vis3 rfl) rfl ?_ | refine we_o (i := 17) rfl (vis3 rfl) rfl ?_
  | refine we_d (i := 18) rfl (vis3 rfl) rfl ?_ | refine we_o (i := 18) rfl (vis3 rfl) rfl ?_
  | refine we_d (i := 19) rfl (vis3 rfl) rfl ?_ | refine we_o (i := 19) rfl (vis3 rfl) rfl ?_
  | refine we_d (i := 20) rfl (vis3 rfl) rfl ?_ | refine we_o (i := 20) rfl (vis3 rfl) rfl ?_)
local macro_rules | `(tactic| walk_at "si") => `(tactic| first
  | refine ws_set (i := 0) (by assumption) rfl (loc2 rfl) (by decide) ?_
  | refine ws_set (i := 1) (by assumption) rfl (loc2 rfl) (by decide) ?_
  | refine ws_set (i := 2) (by assumption) rfl (loc2 rfl) (by decide) ?_
  | refine ws_set (i := 3) (by assumption) rfl (loc2 rfl) (by decide) ?_
  | refine ws_set (i := 4) (by assumption) rfl (loc2 rfl) (by decide) ?_
  | refine ws_set (i := 5) (by assumption) rfl (loc2 rfl) (by decide) ?_
  | refine ws_set (i := 6) (by assumption) rfl (loc2 rfl) (by decide) ?_
  | refine ws_set (i := 7) (by assumption) rfl (loc2 rfl) (by decide) ?_
  | refine ws_set (i := 8) (by assumption) rfl (loc2 rfl) (by decide) ?_
  | refine ws_set (i := 9) (by assumption) rfl (loc2 rfl) (by decide) ?_
  | refine ws_set (i := 10) (by assumption) rfl (loc2 rfl) (by decide) ?_
  | refine ws_set (i := 11) (by assumption) rfl (loc2 rfl) (by decide) ?_
  | refine ws_set (i := 12) (by assumption) rfl (loc2 rfl) (by decide) ?_
  | refine ws_set (i := 13) (by assumption) rfl (loc2 rfl) (by decide) ?_
  | refine ws_set (i := 14) (by assumption) rfl (loc2 rfl) (by decide) ?_
  | refine ws_set (i := 15) (by assumption) rfl (loc2 rfl) (by decide) ?_
  | refine ws_set (i := 16) (by assumption) rfl (loc2 rfl) (by decide) ?_
  | refine ws_set (i := 17) (by assumption) rfl (loc2 rfl) (by decide) ?_
  | refine ws_set (i := 18) (by assumption) rfl (loc2 rfl) (by decide) ?_
  | refine ws_set (i := 19) (by assumption) rfl (loc2 rfl) (by decide) ?_
  | refine ws_set (i := 20) (by assumption) rfl (loc2 rfl) (by decide) ?_)
local macro_rules | `(tactic| walk_at "gi") => `(tactic| first
  | refine wg_name (i := 0) (by assumption) rfl (loc2 rfl) (by decide) ?_
  | refine wg_name (i := 1) (by assumption) rfl (loc2 rfl) (by decide) ?_
  | refine wg_name (i := 2) (by assumption) rfl (loc2 rfl) (by decide) ?_
  | refine wg_name (i := 3) (by assumption) rfl (loc2 rfl) (by decide) ?_
  | refine wg_name (i := 4) (by assumption) rfl (loc2 rfl) (by decide) ?_
  | refine wg_name (i := 5) (by assumption) rfl (loc2 rfl) (by decide) ?_
  | refine wg_name (i := 6) (by assumption) rfl (loc2 rfl) (by decide) ?_
  | refine wg_name (i := 7) (by assumption) rfl (loc2 rfl) (by decide) ?_
  | refine wg_name (i := 8) (by assumption) rfl (loc2 rfl) (by decide) ?_
  | refine wg_name (i := 9) (by assumption) rfl (loc2 rfl) (by decide) ?_
  | refine wg_name (i := 10) (by assumption) rfl (loc2 rfl) (by decide) ?_
  | refine wg_name (i := 11) (by assumption) rfl (loc2 rfl) (by decide) ?_
  | refine wg_name (i := 12) (by assumption) rfl (loc2 rfl) (by decide) ?_
  | refine wg_name (i := 13) (by assumption) rfl (loc2 rfl) (by decide) ?_
  | refine wg_name (i := 14) (by assumption) rfl (loc2 rfl) (by decide) ?_
  | refine wg_name (i := 15) (by assumption) rfl (loc2 rfl) (by decide) ?_
  | refine wg_name (i := 16) (by assumption) rfl (loc2 rfl) (by decide) ?_
  | refine wg_name (i := 17) (by assumption) rfl (loc2 rfl) (by decide) ?_
  | refine wg_name (i := 18) (by assumption) rfl (loc2 rfl) (by decide) ?_
  | refine wg_name (i := 19) (by assumption) rfl (loc2 rfl) (by decide) ?_
  | refine wg_name (i := 20) (by assumption) rfl (loc2 rfl) (by decide) ?_)
local macro_rules | `(tactic| walk_at "side") => `(tactic| first | exact rfl | exact Nat.le_trans (m := 1000) (Nat.le_of_ble_eq_true rfl) sz1000 | omega | decide | assumption)
local macro_rules | `(tactic| walk_at "we") => `(tactic| first
  | (refine isName ?_; walk_at "v")
  | refine we_int ?_ | refine we_bl ?_ | refine we_non ?_ | refine we_str ?_
  | refine we_ix ?_
  | refine we_addG ?_ | refine we_sub ?_ | refine we_mulG ?_ | refine we_div ?_ | refine we_mod ?_ | refine we_pow ?_ | refine we_neg ?_
  | refine we_gt ?_ | refine we_lt ?_ | refine we_ge ?_ | refine we_le ?_
  | refine we_tup ?_ | refine we_lst ?_ | refine we_dict0 ?_
  | refine we_len (by assumption) rfl ?_ | refine we_slG ?_ | refine we_eqG (by assumption) ?_ | refine we_neG (by assumption) ?_ | refine we_not ?_ | refine we_one ?_ | refine we_and ?_ | refine we_or ?_
  | refine we_call2 (by assumption) (by assumption) (by assumption) (by decide) rfl ?_)
local macro_rules | `(tactic| walk_at "wt") => `(tactic| first
  | refine wt_gt ?_ | refine wt_lt ?_ | refine wt_ge ?_ | refine wt_le ?_ | refine wt_not ?_
  | refine wt_eqG (by assumption) ?_ | refine wt_neG (by assumption) ?_ | refine wt_bool ?_ | refine wt_val ?_)
local macro_rules | `(tactic| walk_at "ws") => `(tactic| first
  | refine ws_ret ?_ | (refine isSet ?_; walk_at "si") | refine ws_if ?_
  | refine ws_append (pe_bm PySem.F.plainAttrs_list PySem.F.slot_list_append PySem.F.type_list_append mt_append pe_m (pa_cons pe_m pa_nil)) ?_
  | refine ws_continue ?_ | refine ws_break ?_ | refine ws_pass ?_)
local macro_rules | `(tactic| walk_at "l") => `(tactic| first
  | refine And.intro (Exists.intro _ rfl) ?_
  | refine And.intro trivial ?_
  | refine Exists.intro _ (And.intro rfl ?_)
  | refine Exists.intro _ (Exists.intro _ (And.intro rfl (And.intro rfl ?_)))
  | refine And.intro (And.intro (by walk_at "side") (by walk_at "side") : CDiv _ _) ?_
  | refine And.intro (.inl (And.intro (by walk_at "side") (by walk_at "side")) : CMul _ _) ?_
  | refine And.intro (.inr (And.intro (by walk_at "side") (by walk_at "side")) : CMul _ _) ?_
  | refine And.intro (And.intro (List.cons_ne_nil _ _) (And.intro (by walk_at "side") (And.intro (by walk_at "side") (by walk_at "side")))) ?_
  | refine And.intro (by walk_at "side") ?_)
local macro_rules | `(tactic| walk_at "step") => `(tactic| first
  | (refine isWE ?_; walk_at "we")
  | (refine isWT ?_; walk_at "wt")
  | (refine isWSs ?_; first | refine wss_nil ?_ | refine wss_one ?_ | refine wss_cons ?_)
  | (refine isWS ?_; walk_at "ws")
  | (refine isWDs ?_; first | refine wds_nil ?_ | refine wds_cons ?_)
  | (refine isWW ?_; first | refine ww_and1 ?_ | refine ww_or1 ?_ | refine ww_and ?_ | refine ww_or ?_)
  | refine allB_i fun _ _ _ _ _ => ?_
  | refine asI_i (allB_i fun _ _ _ _ _ => ?_)
  | (refine isWG ?_; first | walk_at "gi" | refine wg_tup rfl ?_ rfl)
  | (refine isWGs ?_; first | refine wgs_nil ?_ | refine wgs_consN ?_)
  | (refine isWO ?_; first | refine wo_none ?_ | refine wo_some ?_)
  | (refine isWA ?_; first | refine wa_nil ?_ | refine wa_cons ?_)
  | walk_at "l")
local macro_rules | `(tactic| walk_at "go") => `(tactic| repeat (walk_at "step"))
section
local macro_rules | `(tactic| walk_at "we") => `(tactic| first
  | refine we_glob (by assumption) rfl (by assumption) ?_
  | refine we_lenS (by assumption) rfl ?_
  | refine we_isi (by assumption) rfl (by assumption) rfl rfl ?_)
variable {Pg : Program} {w : World} {K : PySem.W.Frag} {mg : Str → Option Value} {base : Heap} {u : Value}
theorem asS_s {x : Str} {k : Str → Prop} (h : k x) : asS (.d (.str x)) k := h
theorem all_id {α : Type} (xs : List α) (f : α → Bool) : (xs.map f).all id = xs.all f := by
  rw [List.all_map]
  rfl
theorem bmap {α : Type} (xs : List α) (f : α → Bool) : (xs.map fun c => PyData.bool (f c)) = (xs.map f).map PyData.bool := by
  rw [List.map_map]
  rfl
theorem sz_sgn {x : Str} (h : x.length ≤ 1000) : (sgn x).length ≤ sizeLine := by
  unfold sgn
  rw [List.length_map]
  exact Nat.le_trans (show x.cps.toList.length ≤ 1000 from h) sz1000
theorem ok_text {f : Addr} {fd : FuncData} (F : Fun K "is_text" "is_text" (topS 17) f fd) (hm : mg "is_text" = some (.ref f)) (hb : Binds K fd ["thing"] []) (mi : mg "isinstance" = none) (ms : mg "str" = none) (ml : mg "len" = none) (ma : mg "all" = none) (m9 : mg "LONGEST_TEXT" = some u) (r9 : L2.RelV (.int 40) u) : Can Pg w K mg base 1 "is_text" (look1 isText) := by
  refine can_def F scTx hm hb (fun A Z Z' k ⟨a, h1, h2, h3⟩ => ⟨a, h1, h2, k _ _ h3⟩) (by decide) (fun R Q h => ?_) (fun cdv A outer s H E hgd hr R Q h => ?_)
  · obtain ⟨a, rfl, _⟩ := h
    rfl
  · obtain ⟨d, rfl, hf, q⟩ := h
    show WSs _ [] _ [.d d, .no] _
    have nd : NTx.Nodup := scTx.nd
    walk_at "go"
    refine ⟨d, isStr d, rfl, kit_str d, ?_⟩
    refine asB_b ⟨fun e => ?_, fun e => ?_⟩
    · cases e0 : isStr d with
      | false =>
        have e1 : isText d = false := by cases d <;> first | rfl | cases e0
        rw [e1] at q
        rw [e0] at e
        cases e
      | true =>
        obtain ⟨x, rfl⟩ := str_of e0
        have hx : x.length ≤ 1000 := of_decide_eq_true hf
        walk_at "go"
        refine asS_s ⟨Nat.le_trans hx sz1000, ?_⟩
        walk_at "go"
        have e1 : isText (.str x) = (decide (x.length ≤ 40) && (sgn x).all fun c => leS " " c && leS c "~") := rfl
        rw [e1] at q
        refine ⟨fun z => ?_, fun z => ?_⟩
        · have z' := of_decide_eq_true z
          rw [decide_eq_false (by omega), Bool.false_and] at q
          walk_at "go"
          exact q
        · have z' := of_decide_eq_false z
          rw [decide_eq_true (by omega), Bool.true_and] at q
          walk_at "go"
          refine we_all rfl ma rfl ?_
          refine we_lcS0 [("sign", 1)] [1] rfl nd (blkOk_by (N := NTx) (sc := defScope (topS 17)) (by decide +kernel)) (by decide) (by decide) ?_
          walk_at "go"
          refine asS_s ?_
          refine lc_pure0 (as := sgn x) (enc := .str) (g := fun c => .bool (leS " " c && leS c "~")) [.d (.str x), .no] rfl (sz_sgn hx) (fun c hc => ?_) ?_
          · intro s H C cl fp
            walk_at "gi"
            intro s H C cl fp
            refine we_chainS ?_
            walk_at "go"
            refine ⟨fun z => ?_, fun z => ?_⟩
            · walk_at "go"
              exact ⟨by rw [z, Bool.true_and], rfl⟩
            · exact ⟨by rw [z, Bool.false_and], rfl⟩
          · rw [← all_id] at q
            exact ⟨_, by rw [← bmap]; rfl, q⟩
    · have e0 : isStr d = false := by simpa using e
      have e1 : isText d = false := by cases d <;> first | rfl | cases e0
      rw [e1] at q
      exact ⟨fun _ => (by
        walk_at "go"
        exact q), fun z => Bool.noConfusion z⟩
theorem ok_name {f : Addr} {fd : FuncData} (F : Fun K "is_name" "is_name" (topS 18) f fd) (hm : mg "is_name" = some (.ref f)) (hb : Binds K fd ["thing"] []) (mi : mg "isinstance" = none) (ms : mg "str" = none) (ml : mg "len" = none) (ma : mg "all" = none) (m8 : mg "LONGEST_NAME" = some u) (r8 : L2.RelV (.int 8) u) : Can Pg w K mg base 1 "is_name" (look1 isNam) := by
  refine can_def F scNm hm hb (fun A Z Z' k ⟨a, h1, h2, h3⟩ => ⟨a, h1, h2, k _ _ h3⟩) (by decide) (fun R Q h => ?_) (fun cdv A outer s H E hgd hr R Q h => ?_)
  · obtain ⟨a, rfl, _⟩ := h
    rfl
  · obtain ⟨d, rfl, hf, q⟩ := h
    show WSs _ [] _ [.d d, .no] _
    have nd : NTx.Nodup := scNm.nd
    walk_at "go"
    refine ⟨d, isStr d, rfl, kit_str d, ?_⟩
    refine asB_b ⟨fun e => ?_, fun e => ?_⟩
    · cases e0 : isStr d with
      | false =>
        rw [e0] at e
        cases e
      | true =>
        obtain ⟨x, rfl⟩ := str_of e0
        have hx : x.length ≤ 1000 := of_decide_eq_true hf
        walk_at "go"
        refine wt_chain ?_
        walk_at "go"
        refine asS_s ⟨Nat.le_trans hx sz1000, ?_⟩
        walk_at "go"
        have e1 : isNam (.str x) = ((decide (1 ≤ x.length) && decide (x.length ≤ 8)) && (sgn x).all fun c => leS "a" c && leS c "z") := rfl
        rw [e1] at q
        have bad : (decide (1 ≤ x.length) && decide (x.length ≤ 8)) = false → Q (.d (.bool false)) [.d (.str x)] := fun z => by
          rw [z, Bool.false_and] at q
          exact q
        refine ⟨fun z => ?_, fun z => ?_⟩
        · walk_at "go"
          refine ⟨fun y => ?_, fun y => ?_⟩
          · have y' : ¬ ((x.length : Int) ≤ 8) := by simpa using y
            walk_at "go"
            exact bad (by rw [decide_eq_false (show ¬ x.length ≤ 8 by omega), Bool.and_false])
          · have y' : (x.length : Int) ≤ 8 := by simpa using y
            rw [decide_eq_true (show 1 ≤ x.length by omega), decide_eq_true (show x.length ≤ 8 by omega), Bool.true_and, Bool.true_and] at q
            walk_at "go"
            refine we_all rfl ma rfl ?_
            refine we_lcS0 [("sign", 1)] [1] rfl nd (blkOk_by (N := NTx) (sc := defScope (topS 18)) (by decide +kernel)) (by decide) (by decide) ?_
            walk_at "go"
            refine asS_s ?_
            refine lc_pure0 (as := sgn x) (enc := .str) (g := fun c => .bool (leS "a" c && leS c "z")) [.d (.str x), .no] rfl (sz_sgn hx) (fun c hc => ?_) ?_
            · intro s H C cl fp
              walk_at "gi"
              intro s H C cl fp
              refine we_chainS ?_
              walk_at "go"
              refine ⟨fun z => ?_, fun z => ?_⟩
              · walk_at "go"
                exact ⟨by rw [z, Bool.true_and], rfl⟩
              · exact ⟨by rw [z, Bool.false_and], rfl⟩
            · rw [← all_id] at q
              exact ⟨_, by rw [← bmap]; rfl, q⟩
        · refine ⟨fun _ => ?_, fun z => Bool.noConfusion z⟩
          walk_at "go"
          exact bad (by rw [decide_eq_false (show ¬ 1 ≤ x.length by omega), Bool.false_and])
    · have e0 : isStr d = false := by simpa using e
      have e1 : isNam d = false := by cases d <;> first | rfl | cases e0
      rw [e1] at q
      exact ⟨fun _ => (by
        walk_at "go"
        exact q), fun z => Bool.noConfusion z⟩
theorem ok_kind {f : Addr} {fd : FuncData} (F : Fun K "_is_kind" "_is_kind" (topS 23) f fd) (hm : mg "_is_kind" = some (.ref f)) (hb : Binds K fd ["thing"] []) (mi : mg "isinstance" = none) (ms : mg "str" = none) : Can Pg w K mg base 1 "_is_kind" (look1 isKind) := by
  refine can_def F scKd hm hb (fun A Z Z' k ⟨a, h1, h2, h3⟩ => ⟨a, h1, h2, k _ _ h3⟩) (by decide) (fun R Q h => ?_) (fun cdv A outer s H E hgd hr R Q h => ?_)
  · obtain ⟨a, rfl, _⟩ := h
    rfl
  · obtain ⟨d, rfl, hf, q⟩ := h
    show WSs _ [] _ [.d d] _
    have nd : NW.Nodup := scKd.nd
    walk_at "go"
    refine ⟨d, isStr d, rfl, kit_str d, ?_⟩
    refine asB_b ⟨fun e => ?_, fun e => ?_⟩
    · obtain ⟨x, rfl⟩ := str_of e
      walk_at "go"
      refine we_inS rfl ?_
      walk_at "go"
      exact ⟨x, ["file", "folder"], rfl, rfl, q⟩
    · have e1 : isKind d = false := by cases d <;> first | rfl | cases e
      rw [e1] at q
      exact q
end
end K02
namespace K02
open PySem PySem.Spec PyProof.Rows L2 Dl
local macro_rules | `(tactic| walk_at "v") => `(tactic| first
  | refine we_d (i := 0) rfl (vis3 rfl) rfl ?_ | refine we_o (i := 0) rfl (vis3 rfl) rfl ?_
  | refine we_d (i := 1) rfl (vis3 rfl) rfl ?_ | refine we_o (i := 1) rfl (vis3 rfl) rfl ?_
  | refine we_d (i := 2) rfl (vis3 rfl) rfl ?_ | refine we_o (i := 2) rfl (vis3 rfl) rfl ?_
  | refine we_d (i := 3) rfl (vis3 rfl) rfl ?_ | refine we_o (i := 3) rfl (vis3 rfl) rfl ?_
  | refine we_d (i := 4) rfl (vis3 rfl) rfl ?_ | refine we_o (i := 4) rfl (vis3 rfl) rfl ?_
  | refine we_d (i := 5) rfl (vis3 rfl) rfl ?_ | refine we_o (i := 5) rfl (vis3 rfl) rfl ?_
  | refine we_d (i := 6) rfl (vis3 rfl) rfl ?_ | refine we_o (i := 6) rfl (vis3 rfl) rfl ?_
  | refine we_d (i := 7) rfl (vis3 rfl) rfl ?_ | refine we_o (i := 7) rfl (vis3 rfl) rfl ?_
  | refine we_d (i := 8) rfl (vis3 rfl) rfl ?_ | refine we_o (i := 8) rfl (vis3 rfl) rfl ?_
  | refine we_d (i := 9) rfl (vis3 rfl) rfl ?_ | refine we_o (i := 9) rfl (vis3 rfl) rfl ?_
  | refine we_d (i := 10) rfl (vis3 rfl) rfl ?_ | refine we_o (i := 10) rfl (vis3 rfl) rfl ?_
  | refine we_d (i := 11) rfl (vis3 rfl) rfl ?_ | refine we_o (i := 11) rfl (vis3 rfl) rfl ?_
  | refine we_d (i := 12) rfl (vis3 rfl) rfl ?_ | refine we_o (i := 12) rfl (vis3 rfl) rfl ?_
  | refine we_d (i := 13) rfl (vis3 rfl) rfl ?_ | refine we_o (i := 13) rfl (vis3 rfl) rfl ?_
  | refine we_d (i := 14) rfl (vis3 rfl) rfl ?_ | refine we_o (i := 14) rfl (vis3 rfl) rfl ?_
  | refine we_d (i := 15) rfl (vis3 rfl) rfl ?_ | refine we_o (i := 15) rfl (vis3 rfl) rfl ?_
  | refine we_d (i := 16) rfl (vis3 rfl) rfl ?_ | refine we_o (i := 16) rfl (vis3 rfl) rfl ?_
  | refine we_d (i := 17) rfl (vis3 rfl) rfl ?_ | refine we_o (i := 17) rfl (vis3 rfl) rfl ?_
  | refine we_d (i := 18) rfl (vis3 rfl) rfl ?_ | refine we_o (i := 18) rfl (vis3 rfl) rfl ?_
  | refine we_d (i := 19) rfl (vis3 rfl) rfl ?_ | refine we_o (i := 19) rfl (vis3 rfl) rfl ?_
  | refine we_d (i := 20) rfl (vis3 rfl) rfl ?_ | refine we_o (i := 20) rfl (vis3 rfl) rfl ?_)
local macro_rules | `(tactic| walk_at "si") => `(tactic| first
  | refine ws_set (i := 0) (by assumption) rfl (loc2 rfl) (by decide) ?_
  | refine ws_set (i := 1) (by assumption) rfl (loc2 rfl) (by decide) ?_
  | refine ws_set (i := 2) (by assumption) rfl (loc2 rfl) (by decide) ?_
  | refine ws_set (i := 3) (by assumption) rfl (loc2 rfl) (by decide) ?_
  | refine ws_set (i := 4) (by assumption) rfl (loc2 rfl) (by decide) ?_
  | refine ws_set (i := 5) (by assumption) rfl (loc2 rfl) (by decide) ?_
  | refine ws_set (i := 6) (by assumption) rfl (loc2 rfl) (by decide) ?_
  | refine ws_set (i := 7) (by assumption) rfl (loc2 rfl) (by decide) ?_
  | refine ws_set (i := 8) (by assumption) rfl (loc2 rfl) (by decide) ?_
  | refine ws_set (i := 9) (by assumption) rfl (loc2 rfl) (by decide) ?_
  | refine ws_set (i := 10) (by assumption) rfl (loc2 rfl) (by decide) ?_
  | refine ws_set (i := 11) (by assumption) rfl (loc2 rfl) (by decide) ?_
  | refine ws_set (i := 12) (by assumption) rfl (loc2 rfl) (by decide) ?_
  | refine ws_set (i := 13) (by assumption) rfl (loc2 rfl) (by decide) ?_
  | refine ws_set (i := 14) (by assumption) rfl (loc2 rfl) (by decide) ?_
  | refine ws_set (i := 15) (by assumption) rfl (loc2 rfl) (by decide) ?_
  | refine ws_set (i := 16) (by assumption) rfl (loc2 rfl) (by decide) ?_
  | refine ws_set (i := 17) (by assumption) rfl (loc2 rfl) (by decide) ?_
  | refine ws_set (i := 18) (by assumption) rfl (loc2 rfl) (by decide) ?_
  | refine ws_set (i := 19) (by assumption) rfl (loc2 rfl) (by decide) ?_
  | refine ws_set (i := 20) (by assumption) rfl (loc2 rfl) (by decide) ?_)
local macro_rules | `(tactic| walk_at "gi") => `(tactic| first
  | refine wg_name (i := 0) (by assumption) rfl (loc2 rfl) (by decide) ?_
  | refine wg_name (i := 1) (by assumption) rfl (loc2 rfl) (by decide) ?_
  | refine wg_name (i := 2) (by assumption) rfl (loc2 rfl) (by decide) ?_
  | refine wg_name (i := 3) (by assumption) rfl (loc2 rfl) (by decide) ?_
  | refine wg_name (i := 4) (by assumption) rfl (loc2 rfl) (by decide) ?_
  | refine wg_name (i := 5) (by assumption) rfl (loc2 rfl) (by decide) ?_
  | refine wg_name (i := 6) (by assumption) rfl (loc2 rfl) (by decide) ?_
  | refine wg_name (i := 7) (by assumption) rfl (loc2 rfl) (by decide) ?_
  | refine wg_name (i := 8) (by assumption) rfl (loc2 rfl) (by decide) ?_
  | refine wg_name (i := 9) (by assumption) rfl (loc2 rfl) (by decide) ?_
  | refine wg_name (i := 10) (by assumption) rfl (loc2 rfl) (by decide) ?_
  | refine wg_name (i := 11) (by assumption) rfl (loc2 rfl) (by decide) ?_
  | refine wg_name (i := 12) (by assumption) rfl (loc2 rfl) (by decide) ?_
  | refine wg_name (i := 13) (by assumption) rfl (loc2 rfl) (by decide) ?_
  | refine wg_name (i := 14) (by assumption) rfl (loc2 rfl) (by decide) ?_
  | refine wg_name (i := 15) (by assumption) rfl (loc2 rfl) (by decide) ?_
  | refine wg_name (i := 16) (by assumption) rfl (loc2 rfl) (by decide) ?_
  | refine wg_name (i := 17) (by assumption) rfl (loc2 rfl) (by decide) ?_
  | refine wg_name (i := 18) (by assumption) rfl (loc2 rfl) (by decide) ?_
  | refine wg_name (i := 19) (by assumption) rfl (loc2 rfl) (by decide) ?_
  | refine wg_name (i := 20) (by assumption) rfl (loc2 rfl) (by decide) ?_)
local macro_rules | `(tactic| walk_at "side") => `(tactic| first | exact rfl | exact Nat.le_trans (m := 1000) (Nat.le_of_ble_eq_true rfl) sz1000 | omega | decide | assumption)
local macro_rules | `(tactic| walk_at "we") => `(tactic| first
  | (refine isName ?_; walk_at "v")
  | refine we_int ?_ | refine we_bl ?_ | refine we_non ?_ | refine we_str ?_
  | refine we_ix ?_
  | refine we_addG ?_ | refine we_sub ?_ | refine we_mulG ?_ | refine we_div ?_ | refine we_mod ?_ | refine we_pow ?_ | refine we_neg ?_
  | refine we_gt ?_ | refine we_lt ?_ | refine we_ge ?_ | refine we_le ?_
  | refine we_tup ?_ | refine we_lst ?_ | refine we_dict0 ?_
  | refine we_len (by assumption) rfl ?_ | refine we_slG ?_ | refine we_eqG (by assumption) ?_ | refine we_neG (by assumption) ?_ | refine we_not ?_ | refine we_one ?_ | refine we_and ?_ | refine we_or ?_
  | refine we_call2 (by assumption) (by assumption) (by assumption) (by decide) rfl ?_)
local macro_rules | `(tactic| walk_at "wt") => `(tactic| first
  | refine wt_gt ?_ | refine wt_lt ?_ | refine wt_ge ?_ | refine wt_le ?_ | refine wt_not ?_
  | refine wt_eqG (by assumption) ?_ | refine wt_neG (by assumption) ?_ | refine wt_bool ?_ | refine wt_val ?_)
local macro_rules | `(tactic| walk_at "ws") => `(tactic| first
  | refine ws_ret ?_ | (refine isSet ?_; walk_at "si") | refine ws_if ?_
  | refine ws_append (pe_bm PySem.F.plainAttrs_list PySem.F.slot_list_append PySem.F.type_list_append mt_append pe_m (pa_cons pe_m pa_nil)) ?_
  | refine ws_continue ?_ | refine ws_break ?_ | refine ws_pass ?_)
local macro_rules | `(tactic| walk_at "l") => `(tactic| first
  | refine And.intro (Exists.intro _ rfl) ?_
  | refine And.intro trivial ?_
  | refine Exists.intro _ (And.intro rfl ?_)
  | refine Exists.intro _ (Exists.intro _ (And.intro rfl (And.intro rfl ?_)))
  | refine And.intro (And.intro (by walk_at "side") (by walk_at "side") : CDiv _ _) ?_
  | refine And.intro (.inl (And.intro (by walk_at "side") (by walk_at "side")) : CMul _ _) ?_
  | refine And.intro (.inr (And.intro (by walk_at "side") (by walk_at "side")) : CMul _ _) ?_
  | refine And.intro (And.intro (List.cons_ne_nil _ _) (And.intro (by walk_at "side") (And.intro (by walk_at "side") (by walk_at "side")))) ?_
  | refine And.intro (by walk_at "side") ?_)
local macro_rules | `(tactic| walk_at "step") => `(tactic| first
  | (refine isWE ?_; walk_at "we")
  | (refine isWT ?_; walk_at "wt")
  | (refine isWSs ?_; first | refine wss_nil ?_ | refine wss_one ?_ | refine wss_cons ?_)
  | (refine isWS ?_; walk_at "ws")
  | (refine isWDs ?_; first | refine wds_nil ?_ | refine wds_cons ?_)
  | (refine isWW ?_; first | refine ww_and1 ?_ | refine ww_or1 ?_ | refine ww_and ?_ | refine ww_or ?_)
  | refine allB_i fun _ _ _ _ _ => ?_
  | refine asI_i (allB_i fun _ _ _ _ _ => ?_)
  | (refine isWG ?_; first | walk_at "gi" | refine wg_tup rfl ?_ rfl)
  | (refine isWGs ?_; first | refine wgs_nil ?_ | refine wgs_consN ?_)
  | (refine isWO ?_; first | refine wo_none ?_ | refine wo_some ?_)
  | (refine isWA ?_; first | refine wa_nil ?_ | refine wa_cons ?_)
  | walk_at "l")
local macro_rules | `(tactic| walk_at "go") => `(tactic| repeat (walk_at "step"))
def isEntry (n : Int) : D → Bool
  | .none => true
  | .tuple [a, b] => isNam a && inR 0 (n - 1) b
  | _ => false
def isOwn (p : Int) : D → Bool
  | .tuple xs => decide (xs.length ≤ 3) && xs.all (inR 0 (p - 1))
  | _ => false
def isNode (p : Int) : D → Bool
  | .none => true
  | .tuple [k, l, o] => (isKind k && inR 0 99 l) && isOwn p o
  | _ => false
abbrev NAn : List Str := ["slots", "slot"]
theorem scAn : FnScope NAn ["slots"] (defScope (topS 26)) := ⟨rfl, rfl, rfl, by decide +kernel, rfl, by decide +kernel, by decide +kernel⟩
abbrev NEn : List Str := ["thing", "nodes"]
theorem scEn : FnScope NEn ["thing", "nodes"] (defScope (topS 25)) := ⟨rfl, rfl, rfl, by decide +kernel, rfl, by decide +kernel, by decide +kernel⟩
abbrev NNo : List Str := ["thing", "pages", "kind", "links", "own", "page"]
theorem scNo : FnScope NNo ["thing", "pages"] (defScope (topS 22)) := ⟨rfl, rfl, rfl, by decide +kernel, rfl, by decide +kernel, by decide +kernel⟩
theorem row_len {k : Int} {d : D} (h : isRow k k d = true) : ∃ xs, d = .tuple xs ∧ (xs.length : Int) = k := by
  cases d <;> first | cases h | skip
  rename_i xs
  have h' : (decide (k ≤ (xs.length : Int)) && decide ((xs.length : Int) ≤ k)) = true := h
  rw [Bool.and_eq_true, decide_eq_true_eq, decide_eq_true_eq] at h'
  exact ⟨xs, rfl, by omega⟩
theorem row_tup {l m : Int} {d : D} (h : isRow l m d = true) : ∃ xs, d = .tuple xs ∧ l ≤ (xs.length : Int) ∧ (xs.length : Int) ≤ m := by
  cases d <;> first | cases h | skip
  rename_i xs
  have h' : (decide (l ≤ (xs.length : Int)) && decide ((xs.length : Int) ≤ m)) = true := h
  rw [Bool.and_eq_true, decide_eq_true_eq, decide_eq_true_eq] at h'
  exact ⟨xs, rfl, h'.1, h'.2⟩
theorem len2 {xs : List D} (h : (xs.length : Int) = 2) : ∃ a b, xs = [a, b] := by
  match xs, h with
  | [a, b], _ => exact ⟨a, b, rfl⟩
  | [], h => simp at h
  | [_], h => simp at h
  | _ :: _ :: _ :: _, h => simp at h; omega
theorem len3 {xs : List D} (h : (xs.length : Int) = 3) : ∃ a b c, xs = [a, b, c] := by
  match xs, h with
  | [a, b, c], _ => exact ⟨a, b, c, rfl⟩
  | [], h => simp at h
  | [_], h => simp at h
  | [_, _], h => simp at h
  | _ :: _ :: _ :: _ :: _, h => simp at h; omega
theorem row_no {k : Int} {xs : List D} (h : isRow k k (.tuple xs) = false) : (xs.length : Int) ≠ k := fun e => by
  have h' : (decide (k ≤ (xs.length : Int)) && decide ((xs.length : Int) ≤ k)) = false := h
  rw [decide_eq_true (by omega), decide_eq_true (by omega)] at h'
  cases h'
theorem entry_no {n : Int} {d : D} (h1 : isN d = false) (h2 : isRow 2 2 d = false) : isEntry n d = false := by
  cases d <;> first | rfl | cases h1 | skip
  rename_i xs
  have := row_no h2
  match xs, this with
  | [], _ => rfl
  | [_], _ => rfl
  | [_, _], h => exact absurd rfl h
  | _ :: _ :: _ :: _, _ => rfl
theorem node_no {n : Int} {d : D} (h1 : isN d = false) (h2 : isRow 3 3 d = false) : isNode n d = false := by
  cases d <;> first | rfl | cases h1 | skip
  rename_i xs
  have := row_no h2
  match xs, this with
  | [], _ => rfl
  | [_], _ => rfl
  | [_, _], _ => rfl
  | [_, _, _], h => exact absurd rfl h
  | _ :: _ :: _ :: _ :: _, _ => rfl
theorem own_row {p : Int} {d : D} (h : isRow 0 3 d = false) : isOwn p d = false := by
  cases d <;> first | rfl | skip
  rename_i xs
  have h' : (decide ((0 : Int) ≤ (xs.length : Int)) && decide ((xs.length : Int) ≤ 3)) = false := h
  show (decide (xs.length ≤ 3) && xs.all (inR 0 (p - 1))) = false
  rw [decide_eq_true (by omega), Bool.true_and] at h'
  have := of_decide_eq_false h'
  rw [decide_eq_false (by omega), Bool.false_and]
section
local macro_rules | `(tactic| walk_at "we") => `(tactic| first
  | refine we_glob (by assumption) rfl (by assumption) ?_
  | refine we_isN ?_
  | refine we_isi (by assumption) rfl (by assumption) rfl rfl ?_)
local macro_rules | `(tactic| walk_at "wt") => `(tactic| first
  | refine wt_isN ?_)
variable {Pg : Program} {w : World} {K : PySem.W.Frag} {mg : Str → Option Value} {base : Heap} {u5 u6 : Value}
def sAre : SpD := fun R Q => ∃ xs, R = [.d (.tuple xs)] ∧ xs.length ≤ 1000 ∧ Q (.d (.bool (xs.all isN))) R
def look2 (f : Int → D → Bool) : SpD := fun R Q => ∃ d n, R = [.d d, .d (.int n)] ∧ fit d = true ∧ Q (.d (.bool (f n d))) R
theorem ok_are {f : Addr} {fd : FuncData} (F : Fun K "_are_none" "_are_none" (topS 26) f fd) (hm : mg "_are_none" = some (.ref f)) (hb : Binds K fd ["slots"] []) (ma : mg "all" = none) : Can Pg w K mg base 1 "_are_none" sAre := by
  refine can_def F scAn hm hb (fun A Z Z' k ⟨a, h1, h2, h3⟩ => ⟨a, h1, h2, k _ _ h3⟩) (by decide) (fun R Q h => ?_) (fun cdv A outer s H E hgd hr R Q h => ?_)
  · obtain ⟨a, rfl, _⟩ := h
    rfl
  · obtain ⟨xs, rfl, hl, q⟩ := h
    show WSs _ [] _ [.d (.tuple xs), .no] _
    have nd : NAn.Nodup := scAn.nd
    refine wss_one (ws_ret ?_)
    refine we_all rfl ma rfl ?_
    refine we_lc0 [("slot", 1)] [1] rfl nd (blkOk_by (N := NAn) (sc := defScope (topS 26)) (by decide +kernel)) (by decide) (by decide) (.tup ?_)
    walk_at "go"
    refine lc_ids (g := fun d => .bool (isN d)) [.d (.tuple xs), .no] rfl (szle hl) (fun c hc => ?_) ?_
    · intro s H C cl fp
      walk_at "gi"
      intro s H C cl fp
      walk_at "go"
      exact rfl
    · rw [← all_id] at q
      exact ⟨_, by rw [← bmap]; rfl, q⟩
theorem ok_entry {f : Addr} {fd : FuncData} (F : Fun K "_is_entry" "_is_entry" (topS 25) f fd) (hm : mg "_is_entry" = some (.ref f)) (hb : Binds K fd ["thing", "nodes"] []) (cRow : Can Pg w K mg base 1 "_is_row" (look3 isRow)) (cName : Can Pg w K mg base 1 "is_name" (look1 isNam)) (cWithin : Can Pg w K mg base 2 "is_within" (look3 inR)) : Can Pg w K mg base 3 "_is_entry" (look2 isEntry) := by
  refine can_def F scEn hm hb (fun A Z Z' k ⟨a, b, h1, h2, h3⟩ => ⟨a, b, h1, h2, k _ _ h3⟩) (by decide) (fun R Q h => ?_) (fun cdv A outer s H E hgd hr R Q h => ?_)
  · obtain ⟨a, b, rfl, _⟩ := h
    rfl
  · obtain ⟨d, n, rfl, hf, q⟩ := h
    show WSs _ [] _ [.d d, .d (.int n)] _
    have nd : NEn.Nodup := scEn.nd
    walk_at "go"
    refine ⟨fun e => ?_, fun e => ?_⟩
    · have e0 : isEntry n d = true := by cases d <;> first | rfl | cases e
      rw [e0] at q
      walk_at "go"
      exact q
    · walk_at "go"
      refine ⟨d, 2, 2, rfl, hf, ⟨rfl, ?_⟩⟩
      refine ⟨fun e2 => ?_, fun e2 => ?_⟩
      · obtain ⟨xs, rfl, hl⟩ := row_len e2
        obtain ⟨a, b, rfl⟩ := len2 hl
        have hfa : fit a = true := (fit_tup hf).2 a List.mem_cons_self
        have hfb : fit b = true := (fit_tup hf).2 b (List.mem_cons_of_mem _ List.mem_cons_self)
        have e0 : isEntry n (.tuple [a, b]) = (isNam a && inR 0 (n - 1) b) := rfl
        rw [e0] at q
        walk_at "go"
        refine ⟨fun e3 => ?_, fun e3 => ?_⟩
        · rw [e3, Bool.true_and] at q
          walk_at "go"
          refine ⟨b, 0, n - 1, rfl, hfb, ⟨rfl, ?_⟩⟩
          exact q
        · rw [e3, Bool.false_and] at q
          exact q
      · rw [entry_no e e2] at q
        exact q
theorem ok_node {f : Addr} {fd : FuncData} (F : Fun K "_is_node" "_is_node" (topS 22) f fd) (hm : mg "_is_node" = some (.ref f)) (hb : Binds K fd ["thing", "pages"] []) (ma : mg "all" = none) (m5 : mg "MOST_LINKS" = some u5) (r5 : L2.RelV (.int 99) u5) (m6 : mg "MOST_PAGES_OF_A_NODE" = some u6) (r6 : L2.RelV (.int 3) u6)
    (cRow : Can Pg w K mg base 1 "_is_row" (look3 isRow)) (cKind : Can Pg w K mg base 1 "_is_kind" (look1 isKind)) (cWithin : Can Pg w K mg base 2 "is_within" (look3 inR)) : Can Pg w K mg base 3 "_is_node" (look2 isNode) := by
  refine can_def F scNo hm hb (fun A Z Z' k ⟨a, b, h1, h2, h3⟩ => ⟨a, b, h1, h2, k _ _ h3⟩) (by decide) (fun R Q h => ?_) (fun cdv A outer s H E hgd hr R Q h => ?_)
  · obtain ⟨a, b, rfl, _⟩ := h
    rfl
  · obtain ⟨d, n, rfl, hf, q⟩ := h
    show WSs _ [] _ [.d d, .d (.int n), .no, .no, .no, .no] _
    have nd : NNo.Nodup := scNo.nd
    walk_at "go"
    refine ⟨fun e => ?_, fun e => ?_⟩
    · have e0 : isNode n d = true := by cases d <;> first | rfl | cases e
      rw [e0] at q
      walk_at "go"
      exact q
    · walk_at "go"
      refine ⟨d, 3, 3, rfl, hf, ⟨rfl, ?_⟩⟩
      walk_at "go"
      refine ⟨fun e2 => ?_, fun e2 => ?_⟩
      · have e2' : isRow 3 3 d = false := by simpa using e2
        rw [node_no e e2'] at q
        walk_at "go"
        exact q
      · have e2' : isRow 3 3 d = true := by simpa using e2
        obtain ⟨xs, rfl, hl⟩ := row_len e2'
        obtain ⟨a, b, c, rfl⟩ := len3 hl
        have hfa : fit a = true := (fit_tup hf).2 a List.mem_cons_self
        have hfb : fit b = true := (fit_tup hf).2 b (List.mem_cons_of_mem _ List.mem_cons_self)
        have hfc : fit c = true := (fit_tup hf).2 c (List.mem_cons_of_mem _ (List.mem_cons_of_mem _ List.mem_cons_self))
        have e0 : isNode n (.tuple [a, b, c]) = ((isKind a && inR 0 99 b) && isOwn n c) := rfl
        rw [e0] at q
        walk_at "go"
        refine ws_unp (js := [2, 3, 4]) ?_
        walk_at "go"
        refine asB_b ⟨fun e3 => ?_, fun e3 => ?_⟩
        · have e3' : isKind a = true := by simpa using e3
          walk_at "go"
          refine ⟨b, 0, 99, rfl, hfb, ⟨rfl, ?_⟩⟩
          walk_at "go"
          refine ⟨fun e4 => ?_, fun e4 => ?_⟩
          · have e4' : inR 0 99 b = false := by simpa using e4
            rw [e4', Bool.and_false, Bool.false_and] at q
            walk_at "go"
            exact q
          · have e4' : inR 0 99 b = true := by simpa using e4
            rw [e3', e4', Bool.true_and, Bool.true_and] at q
            walk_at "go"
            refine ⟨c, 0, 3, rfl, hfc, ⟨rfl, ?_⟩⟩
            walk_at "go"
            refine ⟨fun e5 => ?_, fun e5 => ?_⟩
            · obtain ⟨xs, rfl, h1, h2⟩ := row_tup e5
              have e6 : isOwn n (.tuple xs) = xs.all (inR 0 (n - 1)) := by
                show (decide (xs.length ≤ 3) && xs.all (inR 0 (n - 1))) = _
                rw [decide_eq_true (by omega), Bool.true_and]
              rw [e6] at q
              walk_at "go"
              refine we_all rfl ma rfl ?_
              refine we_lc0 [("page", 5)] [5] rfl nd (blkOk_by (N := NNo) (sc := defScope (topS 22)) (by decide +kernel)) (by decide) (by decide) (.tup ?_)
              walk_at "go"
              refine lc_ids (g := fun d => .bool (inR 0 (n - 1) d)) [.d (.tuple [a, b, .tuple xs]), .d (.int n), .d a, .d b, .d (.tuple xs), .no] rfl (szle (by omega)) (fun z hz => ?_) ?_
              · intro s H C cl fp
                walk_at "gi"
                intro s H C cl fp
                walk_at "go"
                refine ⟨z, 0, n - 1, rfl, (fit_tup hfc).2 z hz, ⟨rfl, ?_⟩⟩
                exact ⟨rfl, rfl⟩
              · rw [← all_id] at q
                exact ⟨_, by rw [← bmap]; rfl, q⟩
            · rw [own_row e5] at q
              exact q
        · have e3' : isKind a = false := by simpa using e3
          rw [e3', Bool.false_and, Bool.false_and] at q
          refine ⟨fun _ => ?_, fun z => Bool.noConfusion z⟩
          walk_at "go"
          exact q
end
end K02
namespace K02
open PySem PySem.Spec PyProof.Rows L2 Dl
local macro_rules | `(tactic| walk_at "v") => `(tactic| first
  | refine we_d (i := 0) rfl (vis3 rfl) rfl ?_ | refine we_o (i := 0) rfl (vis3 rfl) rfl ?_
  | refine we_d (i := 1) rfl (vis3 rfl) rfl ?_ | refine we_o (i := 1) rfl (vis3 rfl) rfl ?_
  | refine we_d (i := 2) rfl (vis3 rfl) rfl ?_ | refine we_o (i := 2) rfl (vis3 rfl) rfl ?_
  | refine we_d (i := 3) rfl (vis3 rfl) rfl ?_ | refine we_o (i := 3) rfl (vis3 rfl) rfl ?_
  | refine we_d (i := 4) rfl (vis3 rfl) rfl ?_ | refine we_o (i := 4) rfl (vis3 rfl) rfl ?_
  | refine we_d (i := 5) rfl (vis3 rfl) rfl ?_ | refine we_o (i := 5) rfl (vis3 rfl) rfl ?_
  | refine we_d (i := 6) rfl (vis3 rfl) rfl ?_ | refine we_o (i := 6) rfl (vis3 rfl) rfl ?_
  | refine we_d (i := 7) rfl (vis3 rfl) rfl ?_ | refine we_o (i := 7) rfl (vis3 rfl) rfl ?_
  | refine we_d (i := 8) rfl (vis3 rfl) rfl ?_ | refine we_o (i := 8) rfl (vis3 rfl) rfl ?_
  | refine we_d (i := 9) rfl (vis3 rfl) rfl ?_ | refine we_o (i := 9) rfl (vis3 rfl) rfl ?_
  | refine we_d (i := 10) rfl (vis3 rfl) rfl ?_ | refine we_o (i := 10) rfl (vis3 rfl) rfl ?_
  | refine we_d (i := 11) rfl (vis3 rfl) rfl ?_ | refine we_o (i := 11) rfl (vis3 rfl) rfl ?_
  | refine we_d (i := 12) rfl (vis3 rfl) rfl ?_ | refine we_o (i := 12) rfl (vis3 rfl) rfl ?_
  | refine we_d (i := 13) rfl (vis3 rfl) rfl ?_ | refine we_o (i := 13) rfl (vis3 rfl) rfl ?_
  | refine we_d (i := 14) rfl (vis3 rfl) rfl ?_ | refine we_o (i := 14) rfl (vis3 rfl) rfl ?_
  | refine we_d (i := 15) rfl (vis3 rfl) rfl ?_ | refine we_o (i := 15) rfl (vis3 rfl) rfl ?_
  | refine we_d (i := 16) rfl (vis3 rfl) rfl ?_ | refine we_o (i := 16) rfl (vis3 rfl) rfl ?_
  | refine we_d (i := 17) rfl (vis3 rfl) rfl ?_ | refine we_o (i := 17) rfl (vis3 rfl) rfl ?_
  | refine we_d (i := 18) rfl (vis3 rfl) rfl ?_ | refine we_o (i := 18) rfl (vis3 rfl) rfl ?_
  | refine we_d (i := 19) rfl (vis3 rfl) rfl ?_ | refine we_o (i := 19) rfl (vis3 rfl) rfl ?_
  | refine we_d (i := 20) rfl (vis3 rfl) rfl ?_ | refine we_o (i := 20) rfl (vis3 rfl) rfl ?_)
local macro_rules | `(tactic| walk_at "si") => `(tactic| first
  | refine ws_set (i := 0) (by assumption) rfl (loc2 rfl) (by decide) ?_
  | refine ws_set (i := 1) (by assumption) rfl (loc2 rfl) (by decide) ?_
  | refine ws_set (i := 2) (by assumption) rfl (loc2 rfl) (by decide) ?_
  | refine ws_set (i := 3) (by assumption) rfl (loc2 rfl) (by decide) ?_
  | refine ws_set (i := 4) (by assumption) rfl (loc2 rfl) (by decide) ?_
  | refine ws_set (i := 5) (by assumption) rfl (loc2 rfl) (by decide) ?_
  | refine ws_set (i := 6) (by assumption) rfl (loc2 rfl) (by decide) ?_
  | refine ws_set (i := 7) (by assumption) rfl (loc2 rfl) (by decide) ?_
  | refine ws_set (i := 8) (by assumption) rfl (loc2 rfl) (by decide) ?_
  | refine ws_set (i := 9) (by assumption) rfl (loc2 rfl) (by decide) ?_
  | refine ws_set (i := 10) (by assumption) rfl (loc2 rfl) (by decide) ?_
  | refine ws_set (i := 11) (by assumption) rfl (loc2 rfl) (by decide) ?_
  | refine ws_set (i := 12) (by assumption) rfl (loc2 rfl) (by decide) ?_
  | refine ws_set (i := 13) (by assumption) rfl (loc2 rfl) (by decide) ?_
  | refine ws_set (i := 14) (by assumption) rfl (loc2 rfl) (by decide) ?_
  | refine ws_set (i := 15) (by assumption) rfl (loc2 rfl) (by decide) ?_
  | refine ws_set (i := 16) (by assumption) rfl (loc2 rfl) (by decide) ?_
  | refine ws_set (i := 17) (by assumption) rfl (loc2 rfl) (by decide) ?_
  | refine ws_set (i := 18) (by assumption) rfl (loc2 rfl) (by decide) ?_
  | refine ws_set (i := 19) (by assumption) rfl (loc2 rfl) (by decide) ?_
  | refine ws_set (i := 20) (by assumption) rfl (loc2 rfl) (by decide) ?_)
local macro_rules | `(tactic| walk_at "gi") => `(tactic| first
  | refine wg_name (i := 0) (by assumption) rfl (loc2 rfl) (by decide) ?_
  | refine wg_name (i := 1) (by assumption) rfl (loc2 rfl) (by decide) ?_
  | refine wg_name (i := 2) (by assumption) rfl (loc2 rfl) (by decide) ?_
  | refine wg_name (i := 3) (by assumption) rfl (loc2 rfl) (by decide) ?_
  | refine wg_name (i := 4) (by assumption) rfl (loc2 rfl) (by decide) ?_
  | refine wg_name (i := 5) (by assumption) rfl (loc2 rfl) (by decide) ?_
  | refine wg_name (i := 6) (by assumption) rfl (loc2 rfl) (by decide) ?_
  | refine wg_name (i := 7) (by assumption) rfl (loc2 rfl) (by decide) ?_
  | refine wg_name (i := 8) (by assumption) rfl (loc2 rfl) (by decide) ?_
  | refine wg_name (i := 9) (by assumption) rfl (loc2 rfl) (by decide) ?_
  | refine wg_name (i := 10) (by assumption) rfl (loc2 rfl) (by decide) ?_
  | refine wg_name (i := 11) (by assumption) rfl (loc2 rfl) (by decide) ?_
  | refine wg_name (i := 12) (by assumption) rfl (loc2 rfl) (by decide) ?_
  | refine wg_name (i := 13) (by assumption) rfl (loc2 rfl) (by decide) ?_
  | refine wg_name (i := 14) (by assumption) rfl (loc2 rfl) (by decide) ?_
  | refine wg_name (i := 15) (by assumption) rfl (loc2 rfl) (by decide) ?_
  | refine wg_name (i := 16) (by assumption) rfl (loc2 rfl) (by decide) ?_
  | refine wg_name (i := 17) (by assumption) rfl (loc2 rfl) (by decide) ?_
  | refine wg_name (i := 18) (by assumption) rfl (loc2 rfl) (by decide) ?_
  | refine wg_name (i := 19) (by assumption) rfl (loc2 rfl) (by decide) ?_
  | refine wg_name (i := 20) (by assumption) rfl (loc2 rfl) (by decide) ?_)
local macro_rules | `(tactic| walk_at "side") => `(tactic| first | exact rfl | exact Nat.le_trans (m := 1000) (Nat.le_of_ble_eq_true rfl) sz1000 | omega | decide | assumption)
local macro_rules | `(tactic| walk_at "we") => `(tactic| first
  | (refine isName ?_; walk_at "v")
  | refine we_int ?_ | refine we_bl ?_ | refine we_non ?_ | refine we_str ?_
  | refine we_ix ?_
  | refine we_addG ?_ | refine we_sub ?_ | refine we_mulG ?_ | refine we_div ?_ | refine we_mod ?_ | refine we_pow ?_ | refine we_neg ?_
  | refine we_gt ?_ | refine we_lt ?_ | refine we_ge ?_ | refine we_le ?_
  | refine we_tup ?_ | refine we_lst ?_ | refine we_dict0 ?_
  | refine we_len (by assumption) rfl ?_ | refine we_slG ?_ | refine we_eqG (by assumption) ?_ | refine we_neG (by assumption) ?_ | refine we_not ?_ | refine we_one ?_ | refine we_and ?_ | refine we_or ?_
  | refine we_call2 (by assumption) (by assumption) (by assumption) (by decide) rfl ?_)
local macro_rules | `(tactic| walk_at "wt") => `(tactic| first
  | refine wt_gt ?_ | refine wt_lt ?_ | refine wt_ge ?_ | refine wt_le ?_ | refine wt_not ?_
  | refine wt_eqG (by assumption) ?_ | refine wt_neG (by assumption) ?_ | refine wt_bool ?_ | refine wt_val ?_)
local macro_rules | `(tactic| walk_at "ws") => `(tactic| first
  | refine ws_ret ?_ | (refine isSet ?_; walk_at "si") | refine ws_if ?_
  | refine ws_append (pe_bm PySem.F.plainAttrs_list PySem.F.slot_list_append PySem.F.type_list_append mt_append pe_m (pa_cons pe_m pa_nil)) ?_
  | refine ws_continue ?_ | refine ws_break ?_ | refine ws_pass ?_)
local macro_rules | `(tactic| walk_at "l") => `(tactic| first
  | refine And.intro (Exists.intro _ rfl) ?_
  | refine And.intro trivial ?_
  | refine Exists.intro _ (And.intro rfl ?_)
  | refine Exists.intro _ (Exists.intro _ (And.intro rfl (And.intro rfl ?_)))
  | refine And.intro (And.intro (by walk_at "side") (by walk_at "side") : CDiv _ _) ?_
  | refine And.intro (.inl (And.intro (by walk_at "side") (by walk_at "side")) : CMul _ _) ?_
  | refine And.intro (.inr (And.intro (by walk_at "side") (by walk_at "side")) : CMul _ _) ?_
  | refine And.intro (And.intro (List.cons_ne_nil _ _) (And.intro (by walk_at "side") (And.intro (by walk_at "side") (by walk_at "side")))) ?_
  | refine And.intro (by walk_at "side") ?_)
local macro_rules | `(tactic| walk_at "step") => `(tactic| first
  | (refine isWE ?_; walk_at "we")
  | (refine isWT ?_; walk_at "wt")
  | (refine isWSs ?_; first | refine wss_nil ?_ | refine wss_one ?_ | refine wss_cons ?_)
  | (refine isWS ?_; walk_at "ws")
  | (refine isWDs ?_; first | refine wds_nil ?_ | refine wds_cons ?_)
  | (refine isWW ?_; first | refine ww_and1 ?_ | refine ww_or1 ?_ | refine ww_and ?_ | refine ww_or ?_)
  | refine allB_i fun _ _ _ _ _ => ?_
  | refine asI_i (allB_i fun _ _ _ _ _ => ?_)
  | (refine isWG ?_; first | walk_at "gi" | refine wg_tup rfl ?_ rfl)
  | (refine isWGs ?_; first | refine wgs_nil ?_ | refine wgs_consN ?_)
  | (refine isWO ?_; first | refine wo_none ?_ | refine wo_some ?_)
  | (refine isWA ?_; first | refine wa_nil ?_ | refine wa_cons ?_)
  | walk_at "l")
local macro_rules | `(tactic| walk_at "go") => `(tactic| repeat (walk_at "step"))
def isData (n : Int) : D → Bool
  | .tuple [k, a, b, c, e] => if isN k then [a, b, c, e].all isN else isKind k && (if strE k "file" then isText a && [b, c, e].all isN else [a, b, c, e].all (isEntry n))
  | _ => false
def isBit (d : D) : Bool := isBo d true || isBo d false
def itm : D → List D | .tuple xs => xs | _ => []
def isImage : D → Bool
  | .tuple [t, ns, dt] => ((isRow 1 16 t && isRow 2 16 ns) && isRow ((itm t).length : Int) ((itm t).length : Int) dt) && (((itm t).all isBit && (itm ns).all (isNode ((itm t).length : Int))) && (itm dt).all (isData ((itm ns).length : Int)))
  | _ => false
abbrev NDa : List Str := ["thing", "nodes", "kind", "slot"]
theorem scDa : FnScope NDa ["thing", "nodes"] (defScope (topS 24)) := ⟨rfl, rfl, rfl, by decide +kernel, rfl, by decide +kernel, by decide +kernel⟩
abbrev NIm : List Str := ["thing", "taken", "nodes", "data", "bit", "node", "slots"]
theorem scIm : FnScope NIm ["thing"] (defScope (topS 19)) := ⟨rfl, rfl, rfl, by decide +kernel, rfl, by decide +kernel, by decide +kernel⟩
theorem len5 {xs : List D} (h : (xs.length : Int) = 5) : ∃ k a b c e, xs = [k, a, b, c, e] := by
  match xs, h with
  | [k, a, b, c, e], _ => exact ⟨k, a, b, c, e, rfl⟩
  | [], h => simp at h
  | [_], h => simp at h
  | [_, _], h => simp at h
  | [_, _, _], h => simp at h
  | [_, _, _, _], h => simp at h
  | _ :: _ :: _ :: _ :: _ :: _ :: _, h => simp at h; omega
theorem data_no {n : Int} {d : D} (h2 : isRow 5 5 d = false) : isData n d = false := by
  cases d <;> first | rfl | skip
  rename_i xs
  have := row_no h2
  match xs, this with
  | [], _ => rfl
  | [_], _ => rfl
  | [_, _], _ => rfl
  | [_, _, _], _ => rfl
  | [_, _, _, _], _ => rfl
  | [_, _, _, _, _], h => exact absurd rfl h
  | _ :: _ :: _ :: _ :: _ :: _ :: _, _ => rfl
theorem image_no {d : D} (h2 : isRow 3 3 d = false) : isImage d = false := by
  cases d <;> first | rfl | skip
  rename_i xs
  have := row_no h2
  match xs, this with
  | [], _ => rfl
  | [_], _ => rfl
  | [_, _], _ => rfl
  | [_, _, _], h => exact absurd rfl h
  | _ :: _ :: _ :: _ :: _, _ => rfl
section
local macro_rules | `(tactic| walk_at "we") => `(tactic| first
  | refine we_glob (by assumption) rfl (by assumption) ?_
  | refine we_isi (by assumption) rfl (by assumption) rfl rfl ?_)
local macro_rules | `(tactic| walk_at "wt") => `(tactic| first
  | refine wt_isN ?_
  | refine wt_eqX (by assumption) ?_)
variable {Pg : Program} {w : World} {K : PySem.W.Frag} {mg : Str → Option Value} {base : Heap} {u1 u2 u3 u4 u7 : Value}
theorem ok_data {f : Addr} {fd : FuncData} (F : Fun K "_is_data" "_is_data" (topS 24) f fd) (hm : mg "_is_data" = some (.ref f)) (hb : Binds K fd ["thing", "nodes"] []) (ma : mg "all" = none) (m7 : mg "SLOTS_OF_DATA" = some u7) (r7 : L2.RelV (.int 5) u7)
    (cRow : Can Pg w K mg base 1 "_is_row" (look3 isRow)) (cKind : Can Pg w K mg base 1 "_is_kind" (look1 isKind)) (cAre : Can Pg w K mg base 1 "_are_none" sAre) (cText : Can Pg w K mg base 1 "is_text" (look1 isText)) (cEntry : Can Pg w K mg base 3 "_is_entry" (look2 isEntry)) : Can Pg w K mg base 4 "_is_data" (look2 isData) := by
  refine can_def F scDa hm hb (fun A Z Z' k ⟨a, b, h1, h2, h3⟩ => ⟨a, b, h1, h2, k _ _ h3⟩) (by decide) (fun R Q h => ?_) (fun cdv A outer s H E hgd hr R Q h => ?_)
  · obtain ⟨a, b, rfl, _⟩ := h
    rfl
  · obtain ⟨d, n, rfl, hf, q⟩ := h
    show WSs _ [] _ [.d d, .d (.int n), .no, .no] _
    have nd : NDa.Nodup := scDa.nd
    walk_at "go"
    refine ⟨d, 5, 5, rfl, hf, ⟨rfl, ?_⟩⟩
    walk_at "go"
    refine ⟨fun e2 => ?_, fun e2 => ?_⟩
    · have e2' : isRow 5 5 d = false := by simpa using e2
      rw [data_no e2'] at q
      walk_at "go"
      exact q
    · have e2' : isRow 5 5 d = true := by simpa using e2
      obtain ⟨xs, rfl, hl⟩ := row_len e2'
      obtain ⟨k, a, b, c, e, rfl⟩ := len5 hl
      have ff := (fit_tup hf).2
      have hfk : fit k = true := ff k List.mem_cons_self
      have hfa : fit a = true := ff a (List.mem_cons_of_mem _ List.mem_cons_self)
      have e0 : isData n (.tuple [k, a, b, c, e]) = if isN k then [a, b, c, e].all isN else isKind k && (if strE k "file" then isText a && [b, c, e].all isN else [a, b, c, e].all (isEntry n)) := rfl
      rw [e0] at q
      walk_at "go"
      refine ⟨fun e3 => ?_, fun e3 => ?_⟩
      · rw [if_pos e3] at q
        walk_at "go"
        exact ⟨Nat.le_of_ble_eq_true rfl, ⟨rfl, q⟩⟩
      · rw [if_neg (by rw [e3]; exact Bool.false_ne_true)] at q
        walk_at "go"
        refine asB_b ⟨fun e4 => ?_, fun e4 => ?_⟩
        · have e4' : isKind k = false := by simpa using e4
          rw [e4', Bool.false_and] at q
          walk_at "go"
          exact q
        · have e4' : isKind k = true := by simpa using e4
          rw [e4', Bool.true_and] at q
          walk_at "go"
          refine ⟨fun e5 => ?_, fun e5 => ?_⟩
          · rw [if_pos e5] at q
            walk_at "go"
            refine ⟨fun e6 => ?_, fun e6 => ?_⟩
            · rw [e6, Bool.true_and] at q
              walk_at "go"
              exact ⟨Nat.le_of_ble_eq_true rfl, ⟨rfl, q⟩⟩
            · rw [e6, Bool.false_and] at q
              exact q
          · rw [if_neg (by rw [e5]; exact Bool.false_ne_true)] at q
            walk_at "go"
            refine we_all rfl ma rfl ?_
            refine we_lc0 [("slot", 3)] [3] rfl nd (blkOk_by (N := NDa) (sc := defScope (topS 24)) (by decide +kernel)) (by decide) (by decide) (.tup ?_)
            walk_at "go"
            refine lc_ids (g := fun d => .bool (isEntry n d)) [.d (.tuple [k, a, b, c, e]), .d (.int n), .d k, .no] rfl (szle (Nat.le_of_ble_eq_true rfl)) (fun z hz => ?_) ?_
            · have hz' : z ∈ [k, a, b, c, e] := List.mem_cons_of_mem _ (show z ∈ [a, b, c, e] from hz)
              have hfz := ff z hz'
              intro s H C cl fp
              walk_at "gi"
              intro s H C cl fp
              walk_at "go"
              exact ⟨z, n, rfl, hfz, ⟨rfl, ⟨rfl, rfl⟩⟩⟩
            · rw [← all_id] at q
              exact ⟨_, by rw [← bmap]; rfl, q⟩
set_option maxHeartbeats 4000000 in
theorem ok_image {f : Addr} {fd : FuncData} (F : Fun K "is_image" "is_image" (topS 19) f fd) (hm : mg "is_image" = some (.ref f)) (hb : Binds K fd ["thing"] []) (ma : mg "all" = none) (ml : mg "len" = none) (m1 : mg "LEAST_NODES" = some u1) (r1 : L2.RelV (.int 2) u1) (m2 : mg "MOST_NODES" = some u2) (r2 : L2.RelV (.int 16) u2) (m3 : mg "LEAST_PAGES" = some u3) (r3 : L2.RelV (.int 1) u3) (m4 : mg "MOST_PAGES" = some u4) (r4 : L2.RelV (.int 16) u4)
    (cRow : Can Pg w K mg base 1 "_is_row" (look3 isRow)) (cNode : Can Pg w K mg base 3 "_is_node" (look2 isNode)) (cData : Can Pg w K mg base 4 "_is_data" (look2 isData)) : Can Pg w K mg base 5 "is_image" (look1 isImage) := by
  refine can_def F scIm hm hb (fun A Z Z' k ⟨a, h1, h2, h3⟩ => ⟨a, h1, h2, k _ _ h3⟩) (by decide) (fun R Q h => ?_) (fun cdv A outer s H E hgd hr R Q h => ?_)
  · obtain ⟨a, rfl, _⟩ := h
    rfl
  · obtain ⟨d, rfl, hf, q⟩ := h
    show WSs _ [] _ [.d d, .no, .no, .no, .no, .no, .no] _
    have nd : NIm.Nodup := scIm.nd
    walk_at "go"
    refine ⟨d, 3, 3, rfl, hf, ⟨rfl, ?_⟩⟩
    walk_at "go"
    refine ⟨fun e2 => ?_, fun e2 => ?_⟩
    · have e2' : isRow 3 3 d = false := by simpa using e2
      rw [image_no e2'] at q
      walk_at "go"
      exact q
    · have e2' : isRow 3 3 d = true := by simpa using e2
      obtain ⟨xs, rfl, hl⟩ := row_len e2'
      obtain ⟨t, ns, dt, rfl⟩ := len3 hl
      have ff := (fit_tup hf).2
      have hft : fit t = true := ff t List.mem_cons_self
      have hfn : fit ns = true := ff ns (List.mem_cons_of_mem _ List.mem_cons_self)
      have hfd : fit dt = true := ff dt (List.mem_cons_of_mem _ (List.mem_cons_of_mem _ List.mem_cons_self))
      have e0 : isImage (.tuple [t, ns, dt]) = (((isRow 1 16 t && isRow 2 16 ns) && isRow ((itm t).length : Int) ((itm t).length : Int) dt) && (((itm t).all isBit && (itm ns).all (isNode ((itm t).length : Int))) && (itm dt).all (isData ((itm ns).length : Int)))) := rfl
      rw [e0] at q
      walk_at "go"
      refine ws_unp (js := [1, 2, 3]) ?_
      walk_at "go"
      refine ⟨t, 1, 16, rfl, hft, ⟨rfl, ?_⟩⟩
      walk_at "go"
      refine ⟨fun e3 => ?_, fun e3 => ?_⟩
      · have e3' : isRow 1 16 t = true := by simpa using e3
        walk_at "go"
        refine ⟨ns, 2, 16, rfl, hfn, ⟨rfl, ?_⟩⟩
        walk_at "go"
        refine ⟨fun e4 => ?_, fun e4 => ?_⟩
        · have e4' : isRow 2 16 ns = false := by simpa using e4
          rw [e4', Bool.and_false, Bool.false_and, Bool.false_and] at q
          walk_at "go"
          exact q
        · have e4' : isRow 2 16 ns = true := by simpa using e4
          obtain ⟨ts, rfl, g1, g2⟩ := row_tup e3'
          obtain ⟨nss, rfl, g3, g4⟩ := row_tup e4'
          have i1 : itm (.tuple ts) = ts := rfl
          have i2 : itm (.tuple nss) = nss := rfl
          rw [e3', e4', Bool.true_and, i1, i2, Bool.true_and] at q
          walk_at "go"
          refine ⟨dt, (ts.length : Int), (ts.length : Int), rfl, hfd, ⟨rfl, ?_⟩⟩
          walk_at "go"
          refine ⟨fun e5 => ?_, fun e5 => ?_⟩
          · have e5' : isRow (ts.length : Int) (ts.length : Int) dt = false := by simpa using e5
            rw [e5', Bool.false_and] at q
            walk_at "go"
            exact q
          · have e5' : isRow (ts.length : Int) (ts.length : Int) dt = true := by simpa using e5
            obtain ⟨ds, rfl, g5⟩ := row_len e5'
            have i3 : itm (.tuple ds) = ds := rfl
            rw [e5', Bool.true_and, i3] at q
            walk_at "go"
            refine nrmE [.d (.tuple [.tuple ts, .tuple nss, .tuple ds]), .d (.tuple ts), .d (.tuple nss), .d (.tuple ds), .no, .no, .no] rfl ?_
            refine we_all rfl ma rfl ?_
            refine we_lc0 [("bit", 4)] [4] rfl nd (blkOk_by (N := NIm) (sc := defScope (topS 19)) (by decide +kernel)) (by decide) (by decide) (.tup ?_)
            walk_at "go"
            refine lc_ids (g := fun d => .bool (isBit d)) [.d (.tuple [.tuple ts, .tuple nss, .tuple ds]), .d (.tuple ts), .d (.tuple nss), .d (.tuple ds), .no, .no, .no] rfl (szle (by omega)) (fun z hz => ?_) ?_
            · intro s H C cl fp
              walk_at "gi"
              intro s H C cl fp
              walk_at "go"
              refine we_isX ?_
              walk_at "go"
              refine asB_b ⟨fun e6 => ?_, fun e6 => ?_⟩
              · walk_at "go"
                refine we_isX ?_
                walk_at "go"
                have e7 : isBo z false = isBit z := by
                  show _ = (isBo z true || isBo z false)
                  rw [e6, Bool.false_or]
                exact ⟨congrArg PyData.bool e7, rfl⟩
              · have e7 : true = isBit z := by
                  show _ = (isBo z true || isBo z false)
                  rw [e6, Bool.true_or]
                exact ⟨congrArg PyData.bool e7, rfl⟩
            · refine ⟨_, by rw [← bmap]; rfl, ?_⟩
              rw [all_id]
              refine asB_b ⟨fun e6 => ?_, fun e6 => ?_⟩
              · rw [e6, Bool.true_and] at q
                walk_at "go"
                refine we_all rfl ma rfl ?_
                refine we_lc0 [("node", 5)] [5] rfl nd (blkOk_by (N := NIm) (sc := defScope (topS 19)) (by decide +kernel)) (by decide) (by decide) (.tup ?_)
                walk_at "go"
                refine lc_ids (g := fun d => .bool (isNode (ts.length : Int) d)) [.d (.tuple [.tuple ts, .tuple nss, .tuple ds]), .d (.tuple ts), .d (.tuple nss), .d (.tuple ds), .no, .no, .no] rfl (szle (by omega)) (fun z hz => ?_) ?_
                · have hfz := (fit_tup hfn).2 z hz
                  intro s H C cl fp
                  walk_at "gi"
                  intro s H C cl fp
                  walk_at "go"
                  exact ⟨z, (ts.length : Int), rfl, hfz, ⟨rfl, ⟨rfl, rfl⟩⟩⟩
                · refine ⟨_, by rw [← bmap]; rfl, ?_⟩
                  rw [all_id]
                  refine asB_b ⟨fun e7 => ?_, fun e7 => ?_⟩
                  · rw [e7, Bool.true_and] at q
                    walk_at "go"
                    refine we_all rfl ma rfl ?_
                    refine we_lc0 [("slots", 6)] [6] rfl nd (blkOk_by (N := NIm) (sc := defScope (topS 19)) (by decide +kernel)) (by decide) (by decide) (.tup ?_)
                    walk_at "go"
                    refine lc_ids (g := fun d => .bool (isData (nss.length : Int) d)) [.d (.tuple [.tuple ts, .tuple nss, .tuple ds]), .d (.tuple ts), .d (.tuple nss), .d (.tuple ds), .no, .no, .no] rfl (szle (by omega)) (fun z hz => ?_) ?_
                    · have hfz := (fit_tup hfd).2 z hz
                      intro s H C cl fp
                      walk_at "gi"
                      intro s H C cl fp
                      walk_at "go"
                      exact ⟨z, (nss.length : Int), rfl, hfz, ⟨rfl, ⟨rfl, rfl⟩⟩⟩
                    · rw [← all_id] at q
                      exact ⟨_, by rw [← bmap]; rfl, q⟩
                  · rw [e7, Bool.false_and] at q
                    exact q
              · rw [e6, Bool.false_and, Bool.false_and] at q
                exact q
      · have e3' : isRow 1 16 t = false := by simpa using e3
        rw [e3', Bool.false_and, Bool.false_and, Bool.false_and] at q
        refine ⟨fun _ => ?_, fun z => Bool.noConfusion z⟩
        walk_at "go"
        exact q
end
end K02
namespace K02
open PySem PySem.Spec PyProof.Rows L2 Dl
local macro_rules | `(tactic| walk_at "v") => `(tactic| first
  | refine we_d (i := 0) rfl (vis3 rfl) rfl ?_ | refine we_o (i := 0) rfl (vis3 rfl) rfl ?_
  | refine we_d (i := 1) rfl (vis3 rfl) rfl ?_ | refine we_o (i := 1) rfl (vis3 rfl) rfl ?_
  | refine we_d (i := 2) rfl (vis3 rfl) rfl ?_ | refine we_o (i := 2) rfl (vis3 rfl) rfl ?_
  | refine we_d (i := 3) rfl (vis3 rfl) rfl ?_ | refine we_o (i := 3) rfl (vis3 rfl) rfl ?_
  | refine we_d (i := 4) rfl (vis3 rfl) rfl ?_ | refine we_o (i := 4) rfl (vis3 rfl) rfl ?_
  | refine we_d (i := 5) rfl (vis3 rfl) rfl ?_ | refine we_o (i := 5) rfl (vis3 rfl) rfl ?_
  | refine we_d (i := 6) rfl (vis3 rfl) rfl ?_ | refine we_o (i := 6) rfl (vis3 rfl) rfl ?_
  | refine we_d (i := 7) rfl (vis3 rfl) rfl ?_ | refine we_o (i := 7) rfl (vis3 rfl) rfl ?_
  | refine we_d (i := 8) rfl (vis3 rfl) rfl ?_ | refine we_o (i := 8) rfl (vis3 rfl) rfl ?_
  | refine we_d (i := 9) rfl (vis3 rfl) rfl ?_ | refine we_o (i := 9) rfl (vis3 rfl) rfl ?_
  | refine we_d (i := 10) rfl (vis3 rfl) rfl ?_ | refine we_o (i := 10) rfl (vis3 rfl) rfl ?_
  | refine we_d (i := 11) rfl (vis3 rfl) rfl ?_ | refine we_o (i := 11) rfl (vis3 rfl) rfl ?_
  | refine we_d (i := 12) rfl (vis3 rfl) rfl ?_ | refine we_o (i := 12) rfl (vis3 rfl) rfl ?_
  | refine we_d (i := 13) rfl (vis3 rfl) rfl ?_ | refine we_o (i := 13) rfl (vis3 rfl) rfl ?_
  | refine we_d (i := 14) rfl (vis3 rfl) rfl ?_ | refine we_o (i := 14) rfl (vis3 rfl) rfl ?_
  | refine we_d (i := 15) rfl (vis3 rfl) rfl ?_ | refine we_o (i := 15) rfl (vis3 rfl) rfl ?_
  | refine we_d (i := 16) rfl (vis3 rfl) rfl ?_ | refine we_o (i := 16) rfl (vis3 rfl) rfl ?_
  | refine we_d (i := 17) rfl (vis3 rfl) rfl ?_ | refine we_o (i := 17) rfl (vis3 rfl) rfl ?_
  | refine we_d (i := 18) rfl (vis3 rfl) rfl ?_ | refine we_o (i := 18) rfl (vis3 rfl) rfl ?_
  | refine we_d (i := 19) rfl (vis3 rfl) rfl ?_ | refine we_o (i := 19) rfl (vis3 rfl) rfl ?_
  | refine we_d (i := 20) rfl (vis3 rfl) rfl ?_ | refine we_o (i := 20) rfl (vis3 rfl) rfl ?_)
local macro_rules | `(tactic| walk_at "si") => `(tactic| first
  | refine ws_set (i := 0) (by assumption) rfl (loc2 rfl) (by decide) ?_
  | refine ws_set (i := 1) (by assumption) rfl (loc2 rfl) (by decide) ?_
  | refine ws_set (i := 2) (by assumption) rfl (loc2 rfl) (by decide) ?_
  | refine ws_set (i := 3) (by assumption) rfl (loc2 rfl) (by decide) ?_
  | refine ws_set (i := 4) (by assumption) rfl (loc2 rfl) (by decide) ?_
  | refine ws_set (i := 5) (by assumption) rfl (loc2 rfl) (by decide) ?_
  | refine ws_set (i := 6) (by assumption) rfl (loc2 rfl) (by decide) ?_
  | refine ws_set (i := 7) (by assumption) rfl (loc2 rfl) (by decide) ?_
  | refine ws_set (i := 8) (by assumption) rfl (loc2 rfl) (by decide) ?_
  | refine ws_set (i := 9) (by assumption) rfl (loc2 rfl) (by decide) ?_
  | refine ws_set (i := 10) (by assumption) rfl (loc2 rfl) (by decide) ?_
  | refine ws_set (i := 11) (by assumption) rfl (loc2 rfl) (by decide) ?_
  | refine ws_set (i := 12) (by assumption) rfl (loc2 rfl) (by decide) ?_
  | refine ws_set (i := 13) (by assumption) rfl (loc2 rfl) (by decide) ?_
  | refine ws_set (i := 14) (by assumption) rfl (loc2 rfl) (by decide) ?_
  | refine ws_set (i := 15) (by assumption) rfl (loc2 rfl) (by decide) ?_
  | refine ws_set (i := 16) (by assumption) rfl (loc2 rfl) (by decide) ?_
  | refine ws_set (i := 17) (by assumption) rfl (loc2 rfl) (by decide) ?_
  | refine ws_set (i := 18) (by assumption) rfl (loc2 rfl) (by decide) ?_
  | refine ws_set (i := 19) (by assumption) rfl (loc2 rfl) (by decide) ?_
  | refine ws_set (i := 20) (by assumption) rfl (loc2 rfl) (by decide) ?_)
local macro_rules | `(tactic| walk_at "gi") => `(tactic| first
  | refine wg_name (i := 0) (by assumption) rfl (loc2 rfl) (by decide) ?_
  | refine wg_name (i := 1) (by assumption) rfl (loc2 rfl) (by decide) ?_
  | refine wg_name (i := 2) (by assumption) rfl (loc2 rfl) (by decide) ?_
  | refine wg_name (i := 3) (by assumption) rfl (loc2 rfl) (by decide) ?_
  | refine wg_name (i := 4) (by assumption) rfl (loc2 rfl) (by decide) ?_
  | refine wg_name (i := 5) (by assumption) rfl (loc2 rfl) (by decide) ?_
  | refine wg_name (i := 6) (by assumption) rfl (loc2 rfl) (by decide) ?_
  | refine wg_name (i := 7) (by assumption) rfl (loc2 rfl) (by decide) ?_
  | refine wg_name (i := 8) (by assumption) rfl (loc2 rfl) (by decide) ?_
  | refine wg_name (i := 9) (by assumption) rfl (loc2 rfl) (by decide) ?_
  | refine wg_name (i := 10) (by assumption) rfl (loc2 rfl) (by decide) ?_
  | refine wg_name (i := 11) (by assumption) rfl (loc2 rfl) (by decide) ?_
  | refine wg_name (i := 12) (by assumption) rfl (loc2 rfl) (by decide) ?_
  | refine wg_name (i := 13) (by assumption) rfl (loc2 rfl) (by decide) ?_
  | refine wg_name (i := 14) (by assumption) rfl (loc2 rfl) (by decide) ?_
  | refine wg_name (i := 15) (by assumption) rfl (loc2 rfl) (by decide) ?_
  | refine wg_name (i := 16) (by assumption) rfl (loc2 rfl) (by decide) ?_
  | refine wg_name (i := 17) (by assumption) rfl (loc2 rfl) (by decide) ?_
  | refine wg_name (i := 18) (by assumption) rfl (loc2 rfl) (by decide) ?_
  | refine wg_name (i := 19) (by assumption) rfl (loc2 rfl) (by decide) ?_
  | refine wg_name (i := 20) (by assumption) rfl (loc2 rfl) (by decide) ?_)
local macro_rules | `(tactic| walk_at "side") => `(tactic| first | exact rfl | exact Nat.le_trans (m := 1000) (Nat.le_of_ble_eq_true rfl) sz1000 | omega | decide | assumption)
local macro_rules | `(tactic| walk_at "we") => `(tactic| first
  | (refine isName ?_; walk_at "v")
  | refine we_int ?_ | refine we_bl ?_ | refine we_non ?_ | refine we_str ?_
  | refine we_ix ?_
  | refine we_addG ?_ | refine we_sub ?_ | refine we_mulG ?_ | refine we_div ?_ | refine we_mod ?_ | refine we_pow ?_ | refine we_neg ?_
  | refine we_gt ?_ | refine we_lt ?_ | refine we_ge ?_ | refine we_le ?_
  | refine we_tup ?_ | refine we_lst ?_ | refine we_dict0 ?_
  | refine we_len (by assumption) rfl ?_ | refine we_slG ?_ | refine we_eqG (by assumption) ?_ | refine we_neG (by assumption) ?_ | refine we_not ?_ | refine we_one ?_ | refine we_and ?_ | refine we_or ?_
  | refine we_call2 (by assumption) (by assumption) (by assumption) (by decide) rfl ?_)
local macro_rules | `(tactic| walk_at "wt") => `(tactic| first
  | refine wt_gt ?_ | refine wt_lt ?_ | refine wt_ge ?_ | refine wt_le ?_ | refine wt_not ?_
  | refine wt_eqG (by assumption) ?_ | refine wt_neG (by assumption) ?_ | refine wt_bool ?_ | refine wt_val ?_)
local macro_rules | `(tactic| walk_at "ws") => `(tactic| first
  | refine ws_ret ?_ | (refine isSet ?_; walk_at "si") | refine ws_if ?_
  | refine ws_append (pe_bm PySem.F.plainAttrs_list PySem.F.slot_list_append PySem.F.type_list_append mt_append pe_m (pa_cons pe_m pa_nil)) ?_
  | refine ws_continue ?_ | refine ws_break ?_ | refine ws_pass ?_)
local macro_rules | `(tactic| walk_at "l") => `(tactic| first
  | refine And.intro (Exists.intro _ rfl) ?_
  | refine And.intro trivial ?_
  | refine Exists.intro _ (And.intro rfl ?_)
  | refine Exists.intro _ (Exists.intro _ (And.intro rfl (And.intro rfl ?_)))
  | refine And.intro (And.intro (by walk_at "side") (by walk_at "side") : CDiv _ _) ?_
  | refine And.intro (.inl (And.intro (by walk_at "side") (by walk_at "side")) : CMul _ _) ?_
  | refine And.intro (.inr (And.intro (by walk_at "side") (by walk_at "side")) : CMul _ _) ?_
  | refine And.intro (And.intro (List.cons_ne_nil _ _) (And.intro (by walk_at "side") (And.intro (by walk_at "side") (by walk_at "side")))) ?_
  | refine And.intro (by walk_at "side") ?_)
local macro_rules | `(tactic| walk_at "step") => `(tactic| first
  | (refine isWE ?_; walk_at "we")
  | (refine isWT ?_; walk_at "wt")
  | (refine isWSs ?_; first | refine wss_nil ?_ | refine wss_one ?_ | refine wss_cons ?_)
  | (refine isWS ?_; walk_at "ws")
  | (refine isWDs ?_; first | refine wds_nil ?_ | refine wds_cons ?_)
  | (refine isWW ?_; first | refine ww_and1 ?_ | refine ww_or1 ?_ | refine ww_and ?_ | refine ww_or ?_)
  | refine allB_i fun _ _ _ _ _ => ?_
  | refine asI_i (allB_i fun _ _ _ _ _ => ?_)
  | (refine isWG ?_; first | walk_at "gi" | refine wg_tup rfl ?_ rfl)
  | (refine isWGs ?_; first | refine wgs_nil ?_ | refine wgs_consN ?_)
  | (refine isWO ?_; first | refine wo_none ?_ | refine wo_some ?_)
  | (refine isWA ?_; first | refine wa_nil ?_ | refine wa_cons ?_)
  | walk_at "l")
local macro_rules | `(tactic| walk_at "go") => `(tactic| repeat (walk_at "step"))
/-! the law's own looks -/
abbrev NLf : List Str := ["_law_thing", "_law_least", "_law_most"]
theorem scLf : FnScope NLf ["_law_thing", "_law_least", "_law_most"] (defScope (topS 51)) := ⟨rfl, rfl, rfl, by decide +kernel, rfl, by decide +kernel, by decide +kernel⟩
section
local macro_rules | `(tactic| walk_at "we") => `(tactic| first
  | refine we_chain ?_
  | refine we_isi (by assumption) rfl (by assumption) rfl rfl ?_)
variable {Pg : Program} {w : World} {K : PySem.W.Frag} {mg : Str → Option Value} {base : Heap}
theorem ok_lfrom {f : Addr} {fd : FuncData} (F : Fun K "_law_from" "_law_from" (topS 51) f fd) (hm : mg "_law_from" = some (.ref f)) (hb : Binds K fd ["_law_thing", "_law_least", "_law_most"] []) (mi : mg "isinstance" = none) (mn : mg "int" = none) (mb : mg "bool" = none) : Can Pg w K mg base 1 "_law_from" (look3 inR) := by
  refine can_def F scLf hm hb (fun A Z Z' k ⟨a, b, c, h1, h2, h3⟩ => ⟨a, b, c, h1, h2, k _ _ h3⟩) (by decide) (fun R Q h => ?_) (fun cdv A outer s H E hgd hr R Q h => ?_)
  · obtain ⟨a, b, c, rfl, _⟩ := h
    rfl
  · obtain ⟨d, l, m, rfl, hf, q⟩ := h
    show WSs _ [] _ [.d d, .d (.int l), .d (.int m)] _
    have nd : NLf.Nodup := scLf.nd
    walk_at "go"
    refine ⟨d, isIntB d, rfl, kit_int d, ?_⟩
    refine asB_b ⟨fun e => ?_, fun e => ?_⟩
    · walk_at "go"
      refine ⟨d, isBool d, rfl, kit_bool d, ?_⟩
      refine asB_b ?_
      rw [isW_of d e]
      refine asB_b ⟨fun e2 => ?_, fun e2 => ?_⟩
      · obtain ⟨i, rfl⟩ : ∃ i, d = .int i := by cases d <;> first | exact ⟨_, rfl⟩ | cases e2
        walk_at "go"
        have e0 : inR l m (.int i) = (decide (l ≤ i) && decide (i ≤ m)) := rfl
        rw [e0] at q
        refine ⟨fun z => ?_, fun z => ?_⟩
        · rw [decide_eq_true z, Bool.true_and] at q
          walk_at "go"
          exact q
        · rw [decide_eq_false z] at q
          exact q
      · have e0 : inR l m d = false := by cases d <;> first | rfl | cases e2
        rw [e0] at q
        exact q
    · have e0 : inR l m d = false := by cases d <;> first | rfl | cases e
      rw [e0] at q
      exact q
end
end K02
namespace K02
open PySem PySem.Spec PyProof.Rows L2 Dl
local macro_rules | `(tactic| walk_at "v") => `(tactic| first
  | refine we_d (i := 0) rfl (vis3 rfl) rfl ?_ | refine we_o (i := 0) rfl (vis3 rfl) rfl ?_
  | refine we_d (i := 1) rfl (vis3 rfl) rfl ?_ | refine we_o (i := 1) rfl (vis3 rfl) rfl ?_
  | refine we_d (i := 2) rfl (vis3 rfl) rfl ?_ | refine we_o (i := 2) rfl (vis3 rfl) rfl ?_
  | refine we_d (i := 3) rfl (vis3 rfl) rfl ?_ | refine we_o (i := 3) rfl (vis3 rfl) rfl ?_
  | refine we_d (i := 4) rfl (vis3 rfl) rfl ?_ | refine we_o (i := 4) rfl (vis3 rfl) rfl ?_
  | refine we_d (i := 5) rfl (vis3 rfl) rfl ?_ | refine we_o (i := 5) rfl (vis3 rfl) rfl ?_
  | refine we_d (i := 6) rfl (vis3 rfl) rfl ?_ | refine we_o (i := 6) rfl (vis3 rfl) rfl ?_
  | refine we_d (i := 7) rfl (vis3 rfl) rfl ?_ | refine we_o (i := 7) rfl (vis3 rfl) rfl ?_
  | refine we_d (i := 8) rfl (vis3 rfl) rfl ?_ | refine we_o (i := 8) rfl (vis3 rfl) rfl ?_
  | refine we_d (i := 9) rfl (vis3 rfl) rfl ?_ | refine we_o (i := 9) rfl (vis3 rfl) rfl ?_
  | refine we_d (i := 10) rfl (vis3 rfl) rfl ?_ | refine we_o (i := 10) rfl (vis3 rfl) rfl ?_
  | refine we_d (i := 11) rfl (vis3 rfl) rfl ?_ | refine we_o (i := 11) rfl (vis3 rfl) rfl ?_
  | refine we_d (i := 12) rfl (vis3 rfl) rfl ?_ | refine we_o (i := 12) rfl (vis3 rfl) rfl ?_
  | refine we_d (i := 13) rfl (vis3 rfl) rfl ?_ | refine we_o (i := 13) rfl (vis3 rfl) rfl ?_
  | refine we_d (i := 14) rfl (vis3 rfl) rfl ?_ | refine we_o (i := 14) rfl (vis3 rfl) rfl ?_
  | refine we_d (i := 15) rfl (vis3 rfl) rfl ?_ | refine we_o (i := 15) rfl (vis3 rfl) rfl ?_
  | refine we_d (i := 16) rfl (vis3 rfl) rfl ?_ | refine we_o (i := 16) rfl (vis3 rfl) rfl ?_
  | refine we_d (i := 17) rfl (vis3 rfl) rfl ?_ | refine we_o (i := 17) rfl (vis3 rfl) rfl ?_
  | refine we_d (i := 18) rfl (vis3 rfl) rfl ?_ | refine we_o (i := 18) rfl (vis3 rfl) rfl ?_
  | refine we_d (i := 19) rfl (vis3 rfl) rfl ?_ | refine we_o (i := 19) rfl (vis3 rfl) rfl ?_
  | refine we_d (i := 20) rfl (vis3 rfl) rfl ?_ | refine we_o (i := 20) rfl (vis3 rfl) rfl ?_)
local macro_rules | `(tactic| walk_at "si") => `(tactic| first
  | refine ws_set (i := 0) (by assumption) rfl (loc2 rfl) (by decide) ?_
  | refine ws_set (i := 1) (by assumption) rfl (loc2 rfl) (by decide) ?_
  | refine ws_set (i := 2) (by assumption) rfl (loc2 rfl) (by decide) ?_
  | refine ws_set (i := 3) (by assumption) rfl (loc2 rfl) (by decide) ?_
  | refine ws_set (i := 4) (by assumption) rfl (loc2 rfl) (by decide) ?_
  | refine ws_set (i := 5) (by assumption) rfl (loc2 rfl) (by decide) ?_
  | refine ws_set (i := 6) (by assumption) rfl (loc2 rfl) (by decide) ?_
  | refine ws_set (i := 7) (by assumption) rfl (loc2 rfl) (by decide) ?_
  | refine ws_set (i := 8) (by assumption) rfl (loc2 rfl) (by decide) ?_
  | refine ws_set (i := 9) (by assumption) rfl (loc2 rfl) (by decide) ?_
  | refine ws_set (i := 10) (by assumption) rfl (loc2 rfl) (by decide) ?_
  | refine ws_set (i := 11) (by assumption) rfl (loc2 rfl) (by decide) ?_
  | refine ws_set (i := 12) (by assumption) rfl (loc2 rfl) (by decide) ?_
  | refine ws_set (i := 13) (by assumption) rfl (loc2 rfl) (by decide) ?_
  | refine ws_set (i := 14) (by assumption) rfl (loc2 rfl) (by decide) ?_
  | refine ws_set (i := 15) (by assumption) rfl (loc2 rfl) (by decide) ?_
  | refine ws_set (i := 16) (by assumption) rfl (loc2 rfl) (by decide) ?_
  | refine ws_set (i := 17) (by assumption) rfl (loc2 rfl) (by decide) ?_
  | refine ws_set (i := 18) (by assumption) rfl (loc2 rfl) (by decide) ?_
  | refine ws_set (i := 19) (by assumption) rfl (loc2 rfl) (by decide) ?_
  | refine ws_set (i := 20) (by assumption) rfl (loc2 rfl) (by decide) ?_)
local macro_rules | `(tactic| walk_at "gi") => `(tactic| first
  | refine wg_name (i := 0) (by assumption) rfl (loc2 rfl) (by decide) ?_
  | refine wg_name (i := 1) (by assumption) rfl (loc2 rfl) (by decide) ?_
  | refine wg_name (i := 2) (by assumption) rfl (loc2 rfl) (by decide) ?_
  | refine wg_name (i := 3) (by assumption) rfl (loc2 rfl) (by decide) ?_
  | refine wg_name (i := 4) (by assumption) rfl (loc2 rfl) (by decide) ?_
  | refine wg_name (i := 5) (by assumption) rfl (loc2 rfl) (by decide) ?_
  | refine wg_name (i := 6) (by assumption) rfl (loc2 rfl) (by decide) ?_
  | refine wg_name (i := 7) (by assumption) rfl (loc2 rfl) (by decide) ?_
  | refine wg_name (i := 8) (by assumption) rfl (loc2 rfl) (by decide) ?_
  | refine wg_name (i := 9) (by assumption) rfl (loc2 rfl) (by decide) ?_
  | refine wg_name (i := 10) (by assumption) rfl (loc2 rfl) (by decide) ?_
  | refine wg_name (i := 11) (by assumption) rfl (loc2 rfl) (by decide) ?_
  | refine wg_name (i := 12) (by assumption) rfl (loc2 rfl) (by decide) ?_
  | refine wg_name (i := 13) (by assumption) rfl (loc2 rfl) (by decide) ?_
  | refine wg_name (i := 14) (by assumption) rfl (loc2 rfl) (by decide) ?_
  | refine wg_name (i := 15) (by assumption) rfl (loc2 rfl) (by decide) ?_
  | refine wg_name (i := 16) (by assumption) rfl (loc2 rfl) (by decide) ?_
  | refine wg_name (i := 17) (by assumption) rfl (loc2 rfl) (by decide) ?_
  | refine wg_name (i := 18) (by assumption) rfl (loc2 rfl) (by decide) ?_
  | refine wg_name (i := 19) (by assumption) rfl (loc2 rfl) (by decide) ?_
  | refine wg_name (i := 20) (by assumption) rfl (loc2 rfl) (by decide) ?_)
local macro_rules | `(tactic| walk_at "side") => `(tactic| first | exact rfl | exact Nat.le_trans (m := 1000) (Nat.le_of_ble_eq_true rfl) sz1000 | omega | decide | assumption)
local macro_rules | `(tactic| walk_at "we") => `(tactic| first
  | (refine isName ?_; walk_at "v")
  | refine we_int ?_ | refine we_bl ?_ | refine we_non ?_ | refine we_str ?_
  | refine we_ix ?_
  | refine we_addG ?_ | refine we_sub ?_ | refine we_mulG ?_ | refine we_div ?_ | refine we_mod ?_ | refine we_pow ?_ | refine we_neg ?_
  | refine we_gt ?_ | refine we_lt ?_ | refine we_ge ?_ | refine we_le ?_
  | refine we_tup ?_ | refine we_lst ?_ | refine we_dict0 ?_
  | refine we_len (by assumption) rfl ?_ | refine we_slG ?_ | refine we_eqG (by assumption) ?_ | refine we_neG (by assumption) ?_ | refine we_not ?_ | refine we_one ?_ | refine we_and ?_ | refine we_or ?_
  | refine we_call2 (by assumption) (by assumption) (by assumption) (by decide) rfl ?_)
local macro_rules | `(tactic| walk_at "wt") => `(tactic| first
  | refine wt_gt ?_ | refine wt_lt ?_ | refine wt_ge ?_ | refine wt_le ?_ | refine wt_not ?_
  | refine wt_eqG (by assumption) ?_ | refine wt_neG (by assumption) ?_ | refine wt_bool ?_ | refine wt_val ?_)
local macro_rules | `(tactic| walk_at "ws") => `(tactic| first
  | refine ws_ret ?_ | (refine isSet ?_; walk_at "si") | refine ws_if ?_
  | refine ws_append (pe_bm PySem.F.plainAttrs_list PySem.F.slot_list_append PySem.F.type_list_append mt_append pe_m (pa_cons pe_m pa_nil)) ?_
  | refine ws_continue ?_ | refine ws_break ?_ | refine ws_pass ?_)
local macro_rules | `(tactic| walk_at "l") => `(tactic| first
  | refine And.intro (Exists.intro _ rfl) ?_
  | refine And.intro trivial ?_
  | refine Exists.intro _ (And.intro rfl ?_)
  | refine Exists.intro _ (Exists.intro _ (And.intro rfl (And.intro rfl ?_)))
  | refine And.intro (And.intro (by walk_at "side") (by walk_at "side") : CDiv _ _) ?_
  | refine And.intro (.inl (And.intro (by walk_at "side") (by walk_at "side")) : CMul _ _) ?_
  | refine And.intro (.inr (And.intro (by walk_at "side") (by walk_at "side")) : CMul _ _) ?_
  | refine And.intro (And.intro (List.cons_ne_nil _ _) (And.intro (by walk_at "side") (And.intro (by walk_at "side") (by walk_at "side")))) ?_
  | refine And.intro (by walk_at "side") ?_)
local macro_rules | `(tactic| walk_at "step") => `(tactic| first
  | (refine isWE ?_; walk_at "we")
  | (refine isWT ?_; walk_at "wt")
  | (refine isWSs ?_; first | refine wss_nil ?_ | refine wss_one ?_ | refine wss_cons ?_)
  | (refine isWS ?_; walk_at "ws")
  | (refine isWDs ?_; first | refine wds_nil ?_ | refine wds_cons ?_)
  | (refine isWW ?_; first | refine ww_and1 ?_ | refine ww_or1 ?_ | refine ww_and ?_ | refine ww_or ?_)
  | refine allB_i fun _ _ _ _ _ => ?_
  | refine asI_i (allB_i fun _ _ _ _ _ => ?_)
  | (refine isWG ?_; first | walk_at "gi" | refine wg_tup rfl ?_ rfl)
  | (refine isWGs ?_; first | refine wgs_nil ?_ | refine wgs_consN ?_)
  | (refine isWO ?_; first | refine wo_none ?_ | refine wo_some ?_)
  | (refine isWA ?_; first | refine wa_nil ?_ | refine wa_cons ?_)
  | walk_at "l")
local macro_rules | `(tactic| walk_at "go") => `(tactic| repeat (walk_at "step"))
/-! the looker's defs on a first image -/
def imgD (tk ns dt : List D) : D := .tuple [.tuple tk, .tuple ns, .tuple dt]
def nd0 : D := .tuple [.str "folder", .int 1, .tuple []]
def nodesI (n : Nat) : List D := nd0 :: List.replicate (n - 1) .none
def tkI (p : Nat) : List D := List.replicate p (.bool false)
def dtI (p : Nat) : List D := List.replicate p (.tuple (List.replicate 5 .none))
def fI (n p : Nat) : D := imgD (tkI p) (nodesI n) (dtI p)
def Sz (n p : Nat) : Prop := (2 ≤ n ∧ n ≤ 16) ∧ (1 ≤ p ∧ p ≤ 16)
theorem nodesI_len {n p : Nat} (h : Sz n p) : (nodesI n).length = n := by
  unfold nodesI
  rw [List.length_cons, List.length_replicate]
  have := h.1.1
  omega
theorem nodesI_at {n : Nat} {i : Nat} (hi : i < (nodesI n).length) : (nodesI n)[i]? = some (if i = 0 then nd0 else .none) := by
  unfold nodesI at *
  rw [List.length_cons, List.length_replicate] at hi
  cases i with
  | zero => rfl
  | succ i =>
    rw [List.getElem?_cons_succ, List.getElem?_replicate, if_pos (by omega), if_neg (Nat.succ_ne_zero i)]
abbrev NFo : List Str := ["image", "node"]
theorem scFo : FnScope NFo ["image", "node"] (defScope (topS 34)) := ⟨rfl, rfl, rfl, by decide +kernel, rfl, by decide +kernel, by decide +kernel⟩
abbrev NNa : List Str := ["image", "node", "pages", "page", "slots", "slot"]
theorem scNa : FnScope NNa ["image", "node"] (defScope (topS 33)) := ⟨rfl, rfl, rfl, by decide +kernel, rfl, by decide +kernel, by decide +kernel⟩
local macro_rules | `(tactic| walk_at "we") => `(tactic| first
  | refine we_notN ?_)
local macro_rules | `(tactic| walk_at "wt") => `(tactic| first
  | refine wt_isN ?_ | refine wt_notN ?_)
theorem lc_nil {Q : SV → DS → Prop} {Tn : (Nat → List D → DS → Prop) → Nat → List D → D → DS → Prop} {vs : List Nat} {R1 : DS} (q : Q (.own (.lst [])) (wipeR R1 vs)) : LcG Q Tn vs [] R1 :=
  ⟨Nat.zero_le _, fun i acc R => i = 0 ∧ acc = [] ∧ R = wipeR R1 vs, ⟨rfl, rfl, rfl⟩, fun i x acc R hx _ => by simp at hx, fun acc R h => by
    obtain ⟨_, rfl, rfl⟩ := h
    exact q⟩
theorem out_nil {X : Cx} {P : List Nat} {scope : Scope} {il : Bool} {tg tg1 it1 elt : Expr} {o o1 : Option Expr} {js js1 vs vs1 : List Nat} {Qa : List D → DS → Prop} {R1 : DS} (q : Qa [] R1) : ∃ I : Nat → List D → DS → Prop, I 0 [] R1 ∧ (∀ i x, ([] : List D)[i]? = some x → Out X P scope il tg o tg1 it1 o1 elt js js1 vs vs1 (I i) (I (i + 1)) x) ∧ ∀ acc R', I ([] : List D).length acc R' → Qa acc R' :=
  ⟨fun i acc R => acc = [] ∧ R = R1, ⟨rfl, rfl⟩, fun i x hx => by simp at hx, fun acc R h => by
    obtain ⟨rfl, rfl⟩ := h
    exact q⟩
section
variable {Pg : Program} {w : World} {K : PySem.W.Frag} {mg : Str → Option Value} {base : Heap}
def sFold : SpD := fun R Q => ∃ (n p i : Nat), R = [.d (fI n p), .d (.int i)] ∧ (Sz n p ∧ i < n) ∧ Q (.d (.bool (decide (i = 0)))) R
theorem ok_fold {f : Addr} {fd : FuncData} (F : Fun K "_is_folder" "_is_folder" (topS 34) f fd) (hm : mg "_is_folder" = some (.ref f)) (hb : Binds K fd ["image", "node"] []) : Can Pg w K mg base 1 "_is_folder" sFold := by
  refine can_def F scFo hm hb (fun A Z Z' k ⟨a, b, c, h1, h2, h3⟩ => ⟨a, b, c, h1, h2, k _ _ h3⟩) (by decide) (fun R Q h => ?_) (fun cdv A outer s H E hgd hr R Q h => ?_)
  · obtain ⟨a, b, c, rfl, _⟩ := h
    rfl
  · obtain ⟨n, p, i, rfl, ⟨hs, hi⟩, q⟩ := h
    show WSs _ [] _ [.d (fI n p), .d (.int i)] _
    have nd : NFo.Nodup := scFo.nd
    have hl := nodesI_len hs
    have ha := nodesI_at (n := n) (i := i) (by omega)
    walk_at "go"
    refine asI_i ⟨nodesI n, _, rfl, atI_of (by omega) ha, ?_⟩
    walk_at "go"
    by_cases h0 : i = 0
    · subst h0
      refine ⟨fun _ => ?_, fun z => Bool.noConfusion z⟩
      walk_at "go"
      refine asI_i ⟨nodesI n, nd0, rfl, atI_of (by omega) ha, ?_⟩
      walk_at "go"
      exact eqG_str _ q
    · rw [if_neg h0]
      rw [decide_eq_false h0] at q
      exact ⟨fun z => Bool.noConfusion z, fun _ => q⟩
def sNa : SpD := fun R Q => ∃ (n p i : Nat), R = [.d (fI n p), .d (.int i)] ∧ (Sz n p ∧ i < n) ∧ Q (.own (.lst [])) R
theorem ok_na {f : Addr} {fd : FuncData} (F : Fun K "names_of" "names_of" (topS 33) f fd) (hm : mg "names_of" = some (.ref f)) (hb : Binds K fd ["image", "node"] []) (cFo : Can Pg w K mg base 1 "_is_folder" sFold) : Can Pg w K mg base 2 "names_of" sNa := by
  refine can_def F scNa hm hb (fun A Z Z' k ⟨a, b, c, h1, h2, h3⟩ => ⟨a, b, c, h1, h2, k _ _ h3⟩) (by decide) (fun R Q h => ?_) (fun cdv A outer s H E hgd hr R Q h => ?_)
  · obtain ⟨a, b, c, rfl, _⟩ := h
    rfl
  · obtain ⟨n, p, i, rfl, ⟨hs, hi⟩, q⟩ := h
    show WSs _ [] _ [.d (fI n p), .d (.int i), .no, .no, .no, .no] _
    have nd : NNa.Nodup := scNa.nd
    have hl := nodesI_len hs
    have ha := nodesI_at (n := n) (i := i) (by omega)
    walk_at "go"
    refine ⟨n, p, i, rfl, ⟨hs, hi⟩, ⟨rfl, ?_⟩⟩
    walk_at "go"
    refine ⟨fun _ => ?_, fun h0 => ?_⟩
    · walk_at "go"
      exact q
    have h0 : i = 0 := by simpa using h0
    subst h0
    refine wss_nil ?_
    refine wss_cons ?_
    refine ws_setLc0 (i := 2) [("page", 3)] [3] rfl nd rfl rfl (sw_true rfl rfl rfl (by decide +kernel)) (blkOk_by (N := NNa) (sc := defScope (topS 33)) (by decide +kernel)) (by decide) (by decide) (by decide) (.tup ?_)
    walk_at "go"
    refine asI_i ⟨nodesI n, nd0, rfl, atI_of (by omega) ha, ?_⟩
    walk_at "go"
    refine lc_nil ?_
    refine nrmB (Z := fun R => put 2 R _ _) [.d (fI n p), .d (.int (0 : Nat)), .no, .no, .no, .no] rfl ?_
    refine isWSs ?_
    refine nrmS [.d (fI n p), .d (.int (0 : Nat)), .own (.lst []), .no, .no, .no] rfl ?_
    refine wss_fz 2 rfl (by decide) ?_
    refine nrmS [.d (fI n p), .d (.int (0 : Nat)), .d (.list []), .no, .no, .no] rfl ?_
    refine wss_one (ws_ret ?_)
    refine we_lc2 false (some _) (some _) [("slots", 4), ("slot", 5)] [4] [5] [5] rfl nd (blkOk_by (N := NNa) (sc := defScope (topS 33)) (by decide +kernel)) (by decide) (by decide) (by decide) (by decide) ?_
    walk_at "go"
    refine out_nil ?_
    exact q
end
end K02
namespace K02
open PySem PySem.Spec PyProof.Rows L2 Dl
local macro_rules | `(tactic| walk_at "v") => `(tactic| first
  | refine we_d (i := 0) rfl (vis3 rfl) rfl ?_ | refine we_o (i := 0) rfl (vis3 rfl) rfl ?_
  | refine we_d (i := 1) rfl (vis3 rfl) rfl ?_ | refine we_o (i := 1) rfl (vis3 rfl) rfl ?_
  | refine we_d (i := 2) rfl (vis3 rfl) rfl ?_ | refine we_o (i := 2) rfl (vis3 rfl) rfl ?_
  | refine we_d (i := 3) rfl (vis3 rfl) rfl ?_ | refine we_o (i := 3) rfl (vis3 rfl) rfl ?_
  | refine we_d (i := 4) rfl (vis3 rfl) rfl ?_ | refine we_o (i := 4) rfl (vis3 rfl) rfl ?_
  | refine we_d (i := 5) rfl (vis3 rfl) rfl ?_ | refine we_o (i := 5) rfl (vis3 rfl) rfl ?_
  | refine we_d (i := 6) rfl (vis3 rfl) rfl ?_ | refine we_o (i := 6) rfl (vis3 rfl) rfl ?_
  | refine we_d (i := 7) rfl (vis3 rfl) rfl ?_ | refine we_o (i := 7) rfl (vis3 rfl) rfl ?_
  | refine we_d (i := 8) rfl (vis3 rfl) rfl ?_ | refine we_o (i := 8) rfl (vis3 rfl) rfl ?_
  | refine we_d (i := 9) rfl (vis3 rfl) rfl ?_ | refine we_o (i := 9) rfl (vis3 rfl) rfl ?_
  | refine we_d (i := 10) rfl (vis3 rfl) rfl ?_ | refine we_o (i := 10) rfl (vis3 rfl) rfl ?_
  | refine we_d (i := 11) rfl (vis3 rfl) rfl ?_ | refine we_o (i := 11) rfl (vis3 rfl) rfl ?_
  | refine we_d (i := 12) rfl (vis3 rfl) rfl ?_ | refine we_o (i := 12) rfl (vis3 rfl) rfl ?_
  | refine we_d (i := 13) rfl (vis3 rfl) rfl ?_ | refine we_o (i := 13) rfl (vis3 rfl) rfl ?_
  | refine we_d (i := 14) rfl (vis3 rfl) rfl ?_ | refine we_o (i := 14) rfl (vis3 rfl) rfl ?_
  | refine we_d (i := 15) rfl (vis3 rfl) rfl ?_ | refine we_o (i := 15) rfl (vis3 rfl) rfl ?_
  | refine we_d (i := 16) rfl (vis3 rfl) rfl ?_ | refine we_o (i := 16) rfl (vis3 rfl) rfl ?_
  | refine we_d (i := 17) rfl (vis3 rfl) rfl ?_ | refine we_o (i := 17) rfl (vis3 rfl) rfl ?_
  | refine we_d (i := 18) rfl (vis3 rfl) rfl ?_ | refine we_o (i := 18) rfl (vis3 rfl) rfl ?_
  | refine we_d (i := 19) rfl (vis3 rfl) rfl ?_ | refine we_o (i := 19) rfl (vis3 rfl) rfl ?_
  | refine we_d (i := 20) rfl (vis3 rfl) rfl ?_ | refine we_o (i := 20) rfl (vis3 rfl) rfl ?_)
local macro_rules | `(tactic| walk_at "si") => `(tactic| first
  | refine ws_set (i := 0) (by assumption) rfl (loc2 rfl) (by decide) ?_
  | refine ws_set (i := 1) (by assumption) rfl (loc2 rfl) (by decide) ?_
  | refine ws_set (i := 2) (by assumption) rfl (loc2 rfl) (by decide) ?_
  | refine ws_set (i := 3) (by assumption) rfl (loc2 rfl) (by decide) ?_
  | refine ws_set (i := 4) (by assumption) rfl (loc2 rfl) (by decide) ?_
  | refine ws_set (i := 5) (by assumption) rfl (loc2 rfl) (by decide) ?_
  | refine ws_set (i := 6) (by assumption) rfl (loc2 rfl) (by decide) ?_
  | refine ws_set (i := 7) (by assumption) rfl (loc2 rfl) (by decide) ?_
  | refine ws_set (i := 8) (by assumption) rfl (loc2 rfl) (by decide) ?_
  | refine ws_set (i := 9) (by assumption) rfl (loc2 rfl) (by decide) ?_
  | refine ws_set (i := 10) (by assumption) rfl (loc2 rfl) (by decide) ?_
  | refine ws_set (i := 11) (by assumption) rfl (loc2 rfl) (by decide) ?_
  | refine ws_set (i := 12) (by assumption) rfl (loc2 rfl) (by decide) ?_
  | refine ws_set (i := 13) (by assumption) rfl (loc2 rfl) (by decide) ?_
  | refine ws_set (i := 14) (by assumption) rfl (loc2 rfl) (by decide) ?_
  | refine ws_set (i := 15) (by assumption) rfl (loc2 rfl) (by decide) ?_
  | refine ws_set (i := 16) (by assumption) rfl (loc2 rfl) (by decide) ?_
  | refine ws_set (i := 17) (by assumption) rfl (loc2 rfl) (by decide) ?_
  | refine ws_set (i := 18) (by assumption) rfl (loc2 rfl) (by decide) ?_
  | refine ws_set (i := 19) (by assumption) rfl (loc2 rfl) (by decide) ?_
  | refine ws_set (i := 20) (by assumption) rfl (loc2 rfl) (by decide) ?_)
local macro_rules | `(tactic| walk_at "gi") => `(tactic| first
  | refine wg_name (i := 0) (by assumption) rfl (loc2 rfl) (by decide) ?_
  | refine wg_name (i := 1) (by assumption) rfl (loc2 rfl) (by decide) ?_
  | refine wg_name (i := 2) (by assumption) rfl (loc2 rfl) (by decide) ?_
  | refine wg_name (i := 3) (by assumption) rfl (loc2 rfl) (by decide) ?_
  | refine wg_name (i := 4) (by assumption) rfl (loc2 rfl) (by decide) ?_
  | refine wg_name (i := 5) (by assumption) rfl (loc2 rfl) (by decide) ?_
  | refine wg_name (i := 6) (by assumption) rfl (loc2 rfl) (by decide) ?_
  | refine wg_name (i := 7) (by assumption) rfl (loc2 rfl) (by decide) ?_
  | refine wg_name (i := 8) (by assumption) rfl (loc2 rfl) (by decide) ?_
  | refine wg_name (i := 9) (by assumption) rfl (loc2 rfl) (by decide) ?_
  | refine wg_name (i := 10) (by assumption) rfl (loc2 rfl) (by decide) ?_
  | refine wg_name (i := 11) (by assumption) rfl (loc2 rfl) (by decide) ?_
  | refine wg_name (i := 12) (by assumption) rfl (loc2 rfl) (by decide) ?_
  | refine wg_name (i := 13) (by assumption) rfl (loc2 rfl) (by decide) ?_
  | refine wg_name (i := 14) (by assumption) rfl (loc2 rfl) (by decide) ?_
  | refine wg_name (i := 15) (by assumption) rfl (loc2 rfl) (by decide) ?_
  | refine wg_name (i := 16) (by assumption) rfl (loc2 rfl) (by decide) ?_
  | refine wg_name (i := 17) (by assumption) rfl (loc2 rfl) (by decide) ?_
  | refine wg_name (i := 18) (by assumption) rfl (loc2 rfl) (by decide) ?_
  | refine wg_name (i := 19) (by assumption) rfl (loc2 rfl) (by decide) ?_
  | refine wg_name (i := 20) (by assumption) rfl (loc2 rfl) (by decide) ?_)
local macro_rules | `(tactic| walk_at "side") => `(tactic| first | exact rfl | exact Nat.le_trans (m := 1000) (Nat.le_of_ble_eq_true rfl) sz1000 | omega | decide | assumption)
local macro_rules | `(tactic| walk_at "we") => `(tactic| first
  | (refine isName ?_; walk_at "v")
  | refine we_int ?_ | refine we_bl ?_ | refine we_non ?_ | refine we_str ?_
  | refine we_ix ?_
  | refine we_addG ?_ | refine we_sub ?_ | refine we_mulG ?_ | refine we_div ?_ | refine we_mod ?_ | refine we_pow ?_ | refine we_neg ?_
  | refine we_gt ?_ | refine we_lt ?_ | refine we_ge ?_ | refine we_le ?_
  | refine we_tup ?_ | refine we_lst ?_ | refine we_dict0 ?_
  | refine we_len (by assumption) rfl ?_ | refine we_slG ?_ | refine we_eqG (by assumption) ?_ | refine we_neG (by assumption) ?_ | refine we_not ?_ | refine we_one ?_ | refine we_and ?_ | refine we_or ?_
  | refine we_call2 (by assumption) (by assumption) (by assumption) (by decide) rfl ?_)
local macro_rules | `(tactic| walk_at "wt") => `(tactic| first
  | refine wt_gt ?_ | refine wt_lt ?_ | refine wt_ge ?_ | refine wt_le ?_ | refine wt_not ?_
  | refine wt_eqG (by assumption) ?_ | refine wt_neG (by assumption) ?_ | refine wt_bool ?_ | refine wt_val ?_)
local macro_rules | `(tactic| walk_at "ws") => `(tactic| first
  | refine ws_ret ?_ | (refine isSet ?_; walk_at "si") | refine ws_if ?_
  | refine ws_append (pe_bm PySem.F.plainAttrs_list PySem.F.slot_list_append PySem.F.type_list_append mt_append pe_m (pa_cons pe_m pa_nil)) ?_
  | refine ws_continue ?_ | refine ws_break ?_ | refine ws_pass ?_)
local macro_rules | `(tactic| walk_at "l") => `(tactic| first
  | refine And.intro (Exists.intro _ rfl) ?_
  | refine And.intro trivial ?_
  | refine Exists.intro _ (And.intro rfl ?_)
  | refine Exists.intro _ (Exists.intro _ (And.intro rfl (And.intro rfl ?_)))
  | refine And.intro (And.intro (by walk_at "side") (by walk_at "side") : CDiv _ _) ?_
  | refine And.intro (.inl (And.intro (by walk_at "side") (by walk_at "side")) : CMul _ _) ?_
  | refine And.intro (.inr (And.intro (by walk_at "side") (by walk_at "side")) : CMul _ _) ?_
  | refine And.intro (And.intro (List.cons_ne_nil _ _) (And.intro (by walk_at "side") (And.intro (by walk_at "side") (by walk_at "side")))) ?_
  | refine And.intro (by walk_at "side") ?_)
local macro_rules | `(tactic| walk_at "step") => `(tactic| first
  | (refine isWE ?_; walk_at "we")
  | (refine isWT ?_; walk_at "wt")
  | (refine isWSs ?_; first | refine wss_nil ?_ | refine wss_one ?_ | refine wss_cons ?_)
  | (refine isWS ?_; walk_at "ws")
  | (refine isWDs ?_; first | refine wds_nil ?_ | refine wds_cons ?_)
  | (refine isWW ?_; first | refine ww_and1 ?_ | refine ww_or1 ?_ | refine ww_and ?_ | refine ww_or ?_)
  | refine allB_i fun _ _ _ _ _ => ?_
  | refine asI_i (allB_i fun _ _ _ _ _ => ?_)
  | (refine isWG ?_; first | walk_at "gi" | refine wg_tup rfl ?_ rfl)
  | (refine isWGs ?_; first | refine wgs_nil ?_ | refine wgs_consN ?_)
  | (refine isWO ?_; first | refine wo_none ?_ | refine wo_some ?_)
  | (refine isWA ?_; first | refine wa_nil ?_ | refine wa_cons ?_)
  | walk_at "l")
local macro_rules | `(tactic| walk_at "go") => `(tactic| repeat (walk_at "step"))
def kids0 (n : Nat) : List (Key × D) := (List.range n).map fun i : Nat => ((Sum.inl (i : Int) : Key), PyData.list [])
theorem kids_put (i : Nat) : putD (kids0 i) (Sum.inl (i : Int)) (.list []) = kids0 (i + 1) := by
  unfold putD
  rw [if_neg]
  · unfold kids0
    rw [List.range_succ, List.map_append]
    rfl
  · intro h
    rw [List.any_eq_true] at h
    obtain ⟨x, hx, e⟩ := h
    obtain ⟨j, hj, rfl⟩ := List.mem_map.mp hx
    have e1 : (Sum.inl (j : Int) : Key) = Sum.inl (i : Int) := of_decide_eq_true e
    injection e1 with e1
    have := List.mem_range.mp hj
    omega
theorem kids_at {n i : Nat} (h : i < n) : lkI (kids0 n) (Sum.inl (i : Int) : Key) = some (.list []) := by
  unfold lkI
  cases q : (kids0 n).find? fun kv => decide (kv.1 = (Sum.inl (i : Int) : Key)) with
  | none =>
    rw [List.find?_eq_none] at q
    have := q ((Sum.inl (i : Int) : Key), .list []) (List.mem_map.mpr ⟨i, List.mem_range.mpr h, rfl⟩)
    simp at this
  | some kv =>
    have hm := List.mem_of_find?_eq_some q
    obtain ⟨j, hj, rfl⟩ := List.mem_map.mp hm
    rfl
theorem kids_get (n : Nat) (i : Int) : (lkI (kids0 n) (Sum.inl i : Key)).getD (.tuple []) = .list [] ∨ lkI (kids0 n) (Sum.inl i : Key) = none := by
  unfold lkI
  cases q : (kids0 n).find? fun kv => decide (kv.1 = (Sum.inl i : Key)) with
  | none => exact .inr rfl
  | some kv =>
    have hm := List.mem_of_find?_eq_some q
    obtain ⟨j, hj, rfl⟩ := List.mem_map.mp hm
    exact .inl rfl
theorem blk_any {N : List Str} {sc0 sc scope : Scope} {own : List (Str × Nat)} (h : blkC N sc0 scope own = true) (hf : (scope.names.all fun y => y.2 != .free) = true) : BlkOk N sc scope own := by
  obtain ⟨a, b, c, d, e⟩ := blkOk_by h
  refine ⟨a, b, c, fun y hy q => ?_, e⟩
  have := List.all_eq_true.mp hf y hy
  rw [q] at this
  cases this
abbrev NKi : List Str := ["image", "node", "_", "kid"]
theorem scKi : FnScope NKi ["image"] (defScope (topS 35)) := ⟨rfl, rfl, rfl, by decide +kernel, rfl, by decide +kernel, by decide +kernel⟩
abbrev NRe : List Str := ["kids", "starts", "seen", "ahead", "node", "kid", "start"]
theorem scRe : FnScope NRe ["kids", "starts"] (defScope (topS 28)) := ⟨rfl, rfl, rfl, by decide +kernel, rfl, by decide +kernel, by decide +kernel⟩
abbrev NCo : List Str := ["image"]
theorem scCo : FnScope NCo ["image"] (defScope (topS 30)) := ⟨rfl, rfl, rfl, by decide +kernel, rfl, by decide +kernel, by decide +kernel⟩
section
variable {Pg : Program} {w : World} {K : PySem.W.Frag} {mg : Str → Option Value} {base : Heap}
def sKi : SpD := fun R Q => ∃ (n p : Nat), R = [.d (fI n p)] ∧ Sz n p ∧ Q (.own (.dK (kids0 n))) R
theorem ok_ki {f : Addr} {fd : FuncData} (F : Fun K "_all_kids" "_all_kids" (topS 35) f fd) (hm : mg "_all_kids" = some (.ref f)) (hb : Binds K fd ["image"] []) (mr : mg "range" = none) (ml : mg "len" = none) (cNa : Can Pg w K mg base 2 "names_of" sNa) : Can Pg w K mg base 3 "_all_kids" sKi := by
  refine can_def F scKi hm hb (fun A Z Z' k ⟨a, b, h1, h2, h3⟩ => ⟨a, b, h1, h2, k _ _ h3⟩) (by decide) (fun R Q h => ?_) (fun cdv A outer s H E hgd hr R Q h => ?_)
  · obtain ⟨a, b, rfl, _⟩ := h
    rfl
  · obtain ⟨n, p, rfl, hs, q⟩ := h
    show WSs _ [] _ [.d (fI n p), .no, .no, .no] _
    have nd : NKi.Nodup := scKi.nd
    have hl := nodesI_len hs
    refine wss_one (ws_ret ?_)
    refine we_dcR [("node", 1)] [1] rfl nd mr rfl (blkOk_by (N := NKi) (sc := defScope (topS 35)) (by decide +kernel)) (by decide) (by decide) ?_
    walk_at "go"
    rw [hl]
    refine asI_i ⟨⟨by omega, by have := hs.1.2; omega⟩, Nat.le_trans (show (n : Int).toNat ≤ 1000 by have := hs.1.2; omega) sz1000, fun i kvs R' => R' = [.d (fI n p), .no, .no, .no] ∧ kvs = kids0 i, ⟨rfl, rfl⟩, fun i kvs R' hi h => ?_, fun kvs R' h => ?_⟩
    · obtain ⟨rfl, rfl⟩ := h
      intro s H C cl fp
      walk_at "gi"
      walk_at "go"
      refine we_lc0 [("_", 2), ("kid", 3)] [2, 3] rfl nd (blk_any (N := NKi) (sc0 := defScope (topS 35)) (by decide +kernel) (by decide +kernel)) (by decide) (by decide) (.list ?_)
      walk_at "go"
      refine ⟨n, p, i, rfl, ⟨hs, by omega⟩, ⟨rfl, asD_o ⟨[], rfl, lc_nil ?_⟩⟩⟩
      exact asD_o ⟨rfl, kids_put i⟩
    · obtain ⟨rfl, rfl⟩ := h
      rw [show (n : Int).toNat = n by omega]
      exact q
def seenOf (ns : List Int) : List (Key × D) := ns.map fun i => ((Sum.inl i : Key), PyData.bool true)
def NsOk (ns : List Int) : Prop := ns = [] ∨ ns = [0]
def sRe : SpD := fun R Q => ∃ (n : Nat) (ns : List Int), R = [.own (.dK (kids0 n)), .d (.list (ns.map .int))] ∧ (1 ≤ n ∧ NsOk ns) ∧ Q (.own (.lst (ns.map .int))) R
set_option maxHeartbeats 1000000 in
theorem ok_re {f : Addr} {fd : FuncData} (F : Fun K "reached" "reached" (topS 28) f fd) (hm : mg "reached" = some (.ref f)) (hb : Binds K fd ["kids", "starts"] []) (ml : mg "list" = none) (mso : mg "sorted" = none) : Can Pg w K mg base 1 "reached" sRe := by
  refine can_def F scRe hm hb (fun A Z Z' k ⟨a, b, h1, h2, h3⟩ => ⟨a, b, h1, h2, k _ _ h3⟩) (by decide) (fun R Q h => ?_) (fun cdv A outer s H E hgd hr R Q h => ?_)
  · obtain ⟨a, b, rfl, _⟩ := h
    rfl
  · obtain ⟨n, ns, rfl, ⟨hn, hns⟩, q⟩ := h
    show WSs _ [0] _ [.own (.dK (kids0 n)), .d (.list (ns.map .int)), .no, .no, .no, .no, .no] _
    have nd : NRe.Nodup := scRe.nd
    have hu : (A.deeper (envOfC "reached" (defScope (topS 28)) s.heap.objs.size f cdv)).units + 1 < cLine := hu_of hr
    have hlen : ns.length ≤ 1 := by rcases hns with rfl | rfl <;> simp
    refine wss_cons ?_
    refine ws_setDc0 (i := 2) [("start", 6)] [6] rfl nd rfl rfl (sw_dict rfl rfl rfl (by decide +kernel)) (blkOk_by (N := NRe) (sc := defScope (topS 28)) (by decide +kernel)) (by decide) (by decide) (by decide) ?_
    walk_at "go"
    refine asD_d ⟨ns.map .int, fun i kvs R' => R' = [.own (.dK (kids0 n)), .d (.list (ns.map .int)), .no, .no, .no, .no, .no] ∧ kvs = seenOf (ns.take i), rfl, Nat.le_trans (by rw [List.length_map]; omega) sz1000, ⟨rfl, rfl⟩, fun i x kvs R' hx h => ?_, fun kvs R' h => ?_⟩
    · obtain ⟨rfl, rfl⟩ := h
      rcases hns with rfl | rfl
      · simp at hx
      · have hi : i = 0 := by
          have := (List.getElem?_eq_some_iff.mp hx).1
          simp at this
          exact this
        subst hi
        have ex : x = .int 0 := (Option.some.inj hx).symm
        subst ex
        intro s H C cl fp
        walk_at "gi"
        walk_at "go"
        exact rfl
    · obtain ⟨rfl, rfl⟩ := h
      rw [List.length_map, List.take_length]
      refine nrmB (Z := fun R => put 2 R _ _) [.own (.dK (kids0 n)), .d (.list (ns.map .int)), .no, .no, .no, .no, .no] rfl ?_
      refine isWSs ?_
      refine nrmS [.own (.dK (kids0 n)), .d (.list (ns.map .int)), .own (.dK (seenOf ns)), .no, .no, .no, .no] rfl ?_
      refine wss_cons ?_
      walk_at "si"
      refine we_listD rfl ml rfl ?_
      walk_at "go"
      refine ⟨2, seenOf ns, ns, rfl, rfl, by unfold seenOf; rw [List.map_map]; rfl, ?_⟩
      refine nrmB (Z := fun R => put 3 R _ _) [.own (.dK (kids0 n)), .d (.list (ns.map .int)), .own (.dK (seenOf ns)), .no, .no, .no, .no] rfl ?_
      refine isWSs ?_
      refine nrmS [.own (.dK (kids0 n)), .d (.list (ns.map .int)), .own (.dK (seenOf ns)), .own (.lst (ns.map .int)), .no, .no, .no] rfl ?_
      refine wss_cons ?_
      refine ws_while PassesOwn.never (fun m R' => ∃ s4 s5 ms, R' = [.own (.dK (kids0 n)), .d (.list (ns.map .int)), .own (.dK (seenOf ns)), .own (.lst (ms.map .int)), s4, s5, .no] ∧ ms.length = m ∧ NsOk ms) ns.length ⟨_, _, ns, rfl, rfl, hns⟩ fun m R' h => ?_
      obtain ⟨s4, s5, ms, rfl, hm, hms⟩ := h
      refine wt_lst ?_
      walk_at "go"
      rw [List.isEmpty_map] at *
      refine ⟨fun h1 => ?_, fun _ => ?_⟩
      · rcases hms with rfl | rfl
        · cases h1
        refine wss_cons ?_
        walk_at "si"
        refine we_pop ?_
        walk_at "go"
        refine ⟨3, [], .int 0, rfl, rfl, ?_⟩
        refine nrmB (Z := fun R => put 4 R _ _) [.own (.dK (kids0 n)), .d (.list (ns.map .int)), .own (.dK (seenOf ns)), .own (.lst []), s4, s5, .no] rfl ?_
        refine isWSs ?_
        refine nrmS [.own (.dK (kids0 n)), .d (.list (ns.map .int)), .own (.dK (seenOf ns)), .own (.lst []), .d (.int 0), s5, .no] rfl ?_
        refine wss_one ?_
        refine ws_forL (js := [5]) PassesOwn.never rfl ?_
        refine we_getD hu ⟨rfl, rfl, rfl, rfl⟩ ?_
        walk_at "go"
        rw [show lkI (kids0 n) (Sum.inl 0 : Key) = some (.list []) from kids_at (i := 0) (by omega)]
        refine asD_d ⟨[], fun _ R' => R' = [.own (.dK (kids0 n)), .d (.list (ns.map .int)), .own (.dK (seenOf ns)), .own (.lst []), .d (.int 0), s5, .no], rfl, rfl, fun i x R' hx => by simp at hx, fun R' h => ?_⟩
        subst h
        exact ⟨0, by rw [← hm]; exact Nat.zero_lt_one, _, _, [], rfl, rfl, .inl rfl⟩
      · refine wss_one (ws_ret ?_)
        refine we_sortedD rfl mso rfl ?_
        walk_at "go"
        refine ⟨2, seenOf ns, ns, rfl, rfl, by unfold seenOf; rw [List.map_map]; rfl, by omega, fun ns' hp _ => ?_⟩
        have e : ns' = ns := by
          rcases hns with rfl | rfl
          · exact List.perm_nil.mp hp
          · exact List.perm_singleton.mp hp
        subst e
        exact q
end
end K02
namespace K02
open PySem PySem.Spec PyProof.Rows L2 Dl
local macro_rules | `(tactic| walk_at "v") => `(tactic| first
  | refine we_d (i := 0) rfl (vis3 rfl) rfl ?_ | refine we_o (i := 0) rfl (vis3 rfl) rfl ?_
  | refine we_d (i := 1) rfl (vis3 rfl) rfl ?_ | refine we_o (i := 1) rfl (vis3 rfl) rfl ?_
  | refine we_d (i := 2) rfl (vis3 rfl) rfl ?_ | refine we_o (i := 2) rfl (vis3 rfl) rfl ?_
  | refine we_d (i := 3) rfl (vis3 rfl) rfl ?_ | refine we_o (i := 3) rfl (vis3 rfl) rfl ?_
  | refine we_d (i := 4) rfl (vis3 rfl) rfl ?_ | refine we_o (i := 4) rfl (vis3 rfl) rfl ?_
  | refine we_d (i := 5) rfl (vis3 rfl) rfl ?_ | refine we_o (i := 5) rfl (vis3 rfl) rfl ?_
  | refine we_d (i := 6) rfl (vis3 rfl) rfl ?_ | refine we_o (i := 6) rfl (vis3 rfl) rfl ?_
  | refine we_d (i := 7) rfl (vis3 rfl) rfl ?_ | refine we_o (i := 7) rfl (vis3 rfl) rfl ?_
  | refine we_d (i := 8) rfl (vis3 rfl) rfl ?_ | refine we_o (i := 8) rfl (vis3 rfl) rfl ?_
  | refine we_d (i := 9) rfl (vis3 rfl) rfl ?_ | refine we_o (i := 9) rfl (vis3 rfl) rfl ?_
  | refine we_d (i := 10) rfl (vis3 rfl) rfl ?_ | refine we_o (i := 10) rfl (vis3 rfl) rfl ?_
  | refine we_d (i := 11) rfl (vis3 rfl) rfl ?_ | refine we_o (i := 11) rfl (vis3 rfl) rfl ?_
  | refine we_d (i := 12) rfl (vis3 rfl) rfl ?_ | refine we_o (i := 12) rfl (vis3 rfl) rfl ?_
  | refine we_d (i := 13) rfl (vis3 rfl) rfl ?_ | refine we_o (i := 13) rfl (vis3 rfl) rfl ?_
  | refine we_d (i := 14) rfl (vis3 rfl) rfl ?_ | refine we_o (i := 14) rfl (vis3 rfl) rfl ?_
  | refine we_d (i := 15) rfl (vis3 rfl) rfl ?_ | refine we_o (i := 15) rfl (vis3 rfl) rfl ?_
  | refine we_d (i := 16) rfl (vis3 rfl) rfl ?_ | refine we_o (i := 16) rfl (vis3 rfl) rfl ?_
  | refine we_d (i := 17) rfl (vis3 rfl) rfl ?_ | refine we_o (i := 17) rfl (vis3 rfl) rfl ?_
  | refine we_d (i := 18) rfl (vis3 rfl) rfl ?_ | refine we_o (i := 18) rfl (vis3 rfl) rfl ?_
  | refine we_d (i := 19) rfl (vis3 rfl) rfl ?_ | refine we_o (i := 19) rfl (vis3 rfl) rfl ?_
  | refine we_d (i := 20) rfl (vis3 rfl) rfl ?_ | refine we_o (i := 20) rfl (vis3 rfl) rfl ?_)
local macro_rules | `(tactic| walk_at "si") => `(tactic| first
  | refine ws_set (i := 0) (by assumption) rfl (loc2 rfl) (by decide) ?_
  | refine ws_set (i := 1) (by assumption) rfl (loc2 rfl) (by decide) ?_
  | refine ws_set (i := 2) (by assumption) rfl (loc2 rfl) (by decide) ?_
  | refine ws_set (i := 3) (by assumption) rfl (loc2 rfl) (by decide) ?_
  | refine ws_set (i := 4) (by assumption) rfl (loc2 rfl) (by decide) ?_
  | refine ws_set (i := 5) (by assumption) rfl (loc2 rfl) (by decide) ?_
  | refine ws_set (i := 6) (by assumption) rfl (loc2 rfl) (by decide) ?_
  | refine ws_set (i := 7) (by assumption) rfl (loc2 rfl) (by decide) ?_
  | refine ws_set (i := 8) (by assumption) rfl (loc2 rfl) (by decide) ?_
  | refine ws_set (i := 9) (by assumption) rfl (loc2 rfl) (by decide) ?_
  | refine ws_set (i := 10) (by assumption) rfl (loc2 rfl) (by decide) ?_
  | refine ws_set (i := 11) (by assumption) rfl (loc2 rfl) (by decide) ?_
  | refine ws_set (i := 12) (by assumption) rfl (loc2 rfl) (by decide) ?_
  | refine ws_set (i := 13) (by assumption) rfl (loc2 rfl) (by decide) ?_
  | refine ws_set (i := 14) (by assumption) rfl (loc2 rfl) (by decide) ?_
  | refine ws_set (i := 15) (by assumption) rfl (loc2 rfl) (by decide) ?_
  | refine ws_set (i := 16) (by assumption) rfl (loc2 rfl) (by decide) ?_
  | refine ws_set (i := 17) (by assumption) rfl (loc2 rfl) (by decide) ?_
  | refine ws_set (i := 18) (by assumption) rfl (loc2 rfl) (by decide) ?_
  | refine ws_set (i := 19) (by assumption) rfl (loc2 rfl) (by decide) ?_
  | refine ws_set (i := 20) (by assumption) rfl (loc2 rfl) (by decide) ?_)
local macro_rules | `(tactic| walk_at "gi") => `(tactic| first
  | refine wg_name (i := 0) (by assumption) rfl (loc2 rfl) (by decide) ?_
  | refine wg_name (i := 1) (by assumption) rfl (loc2 rfl) (by decide) ?_
  | refine wg_name (i := 2) (by assumption) rfl (loc2 rfl) (by decide) ?_
  | refine wg_name (i := 3) (by assumption) rfl (loc2 rfl) (by decide) ?_
  | refine wg_name (i := 4) (by assumption) rfl (loc2 rfl) (by decide) ?_
  | refine wg_name (i := 5) (by assumption) rfl (loc2 rfl) (by decide) ?_
  | refine wg_name (i := 6) (by assumption) rfl (loc2 rfl) (by decide) ?_
  | refine wg_name (i := 7) (by assumption) rfl (loc2 rfl) (by decide) ?_
  | refine wg_name (i := 8) (by assumption) rfl (loc2 rfl) (by decide) ?_
  | refine wg_name (i := 9) (by assumption) rfl (loc2 rfl) (by decide) ?_
  | refine wg_name (i := 10) (by assumption) rfl (loc2 rfl) (by decide) ?_
  | refine wg_name (i := 11) (by assumption) rfl (loc2 rfl) (by decide) ?_
  | refine wg_name (i := 12) (by assumption) rfl (loc2 rfl) (by decide) ?_
  | refine wg_name (i := 13) (by assumption) rfl (loc2 rfl) (by decide) ?_
  | refine wg_name (i := 14) (by assumption) rfl (loc2 rfl) (by decide) ?_
  | refine wg_name (i := 15) (by assumption) rfl (loc2 rfl) (by decide) ?_
  | refine wg_name (i := 16) (by assumption) rfl (loc2 rfl) (by decide) ?_
  | refine wg_name (i := 17) (by assumption) rfl (loc2 rfl) (by decide) ?_
  | refine wg_name (i := 18) (by assumption) rfl (loc2 rfl) (by decide) ?_
  | refine wg_name (i := 19) (by assumption) rfl (loc2 rfl) (by decide) ?_
  | refine wg_name (i := 20) (by assumption) rfl (loc2 rfl) (by decide) ?_)
local macro_rules | `(tactic| walk_at "side") => `(tactic| first | exact rfl | exact Nat.le_trans (m := 1000) (Nat.le_of_ble_eq_true rfl) sz1000 | omega | decide | assumption)
local macro_rules | `(tactic| walk_at "we") => `(tactic| first
  | (refine isName ?_; walk_at "v")
  | refine we_int ?_ | refine we_bl ?_ | refine we_non ?_ | refine we_str ?_
  | refine we_ix ?_
  | refine we_addG ?_ | refine we_sub ?_ | refine we_mulG ?_ | refine we_div ?_ | refine we_mod ?_ | refine we_pow ?_ | refine we_neg ?_
  | refine we_gt ?_ | refine we_lt ?_ | refine we_ge ?_ | refine we_le ?_
  | refine we_tup ?_ | refine we_lst ?_ | refine we_dict0 ?_
  | refine we_len (by assumption) rfl ?_ | refine we_slG ?_ | refine we_eqG (by assumption) ?_ | refine we_neG (by assumption) ?_ | refine we_not ?_ | refine we_one ?_ | refine we_and ?_ | refine we_or ?_
  | refine we_call2 (by assumption) (by assumption) (by assumption) (by decide) rfl ?_)
local macro_rules | `(tactic| walk_at "wt") => `(tactic| first
  | refine wt_gt ?_ | refine wt_lt ?_ | refine wt_ge ?_ | refine wt_le ?_ | refine wt_not ?_
  | refine wt_eqG (by assumption) ?_ | refine wt_neG (by assumption) ?_ | refine wt_bool ?_ | refine wt_val ?_)
local macro_rules | `(tactic| walk_at "ws") => `(tactic| first
  | refine ws_ret ?_ | (refine isSet ?_; walk_at "si") | refine ws_if ?_
  | refine ws_append (pe_bm PySem.F.plainAttrs_list PySem.F.slot_list_append PySem.F.type_list_append mt_append pe_m (pa_cons pe_m pa_nil)) ?_
  | refine ws_continue ?_ | refine ws_break ?_ | refine ws_pass ?_)
local macro_rules | `(tactic| walk_at "l") => `(tactic| first
  | refine And.intro (Exists.intro _ rfl) ?_
  | refine And.intro trivial ?_
  | refine Exists.intro _ (And.intro rfl ?_)
  | refine Exists.intro _ (Exists.intro _ (And.intro rfl (And.intro rfl ?_)))
  | refine And.intro (And.intro (by walk_at "side") (by walk_at "side") : CDiv _ _) ?_
  | refine And.intro (.inl (And.intro (by walk_at "side") (by walk_at "side")) : CMul _ _) ?_
  | refine And.intro (.inr (And.intro (by walk_at "side") (by walk_at "side")) : CMul _ _) ?_
  | refine And.intro (And.intro (List.cons_ne_nil _ _) (And.intro (by walk_at "side") (And.intro (by walk_at "side") (by walk_at "side")))) ?_
  | refine And.intro (by walk_at "side") ?_)
local macro_rules | `(tactic| walk_at "step") => `(tactic| first
  | (refine isWE ?_; walk_at "we")
  | (refine isWT ?_; walk_at "wt")
  | (refine isWSs ?_; first | refine wss_nil ?_ | refine wss_one ?_ | refine wss_cons ?_)
  | (refine isWS ?_; walk_at "ws")
  | (refine isWDs ?_; first | refine wds_nil ?_ | refine wds_cons ?_)
  | (refine isWW ?_; first | refine ww_and1 ?_ | refine ww_or1 ?_ | refine ww_and ?_ | refine ww_or ?_)
  | refine allB_i fun _ _ _ _ _ => ?_
  | refine asI_i (allB_i fun _ _ _ _ _ => ?_)
  | (refine isWG ?_; first | walk_at "gi" | refine wg_tup rfl ?_ rfl)
  | (refine isWGs ?_; first | refine wgs_nil ?_ | refine wgs_consN ?_)
  | (refine isWO ?_; first | refine wo_none ?_ | refine wo_some ?_)
  | (refine isWA ?_; first | refine wa_nil ?_ | refine wa_cons ?_)
  | walk_at "l")
local macro_rules | `(tactic| walk_at "go") => `(tactic| repeat (walk_at "step"))
abbrev NPt : List Str := ["image", "nodes", "node", "page"]
theorem scPt : FnScope NPt ["image", "nodes"] (defScope (topS 36)) := ⟨rfl, rfl, rfl, by decide +kernel, rfl, by decide +kernel, by decide +kernel⟩
abbrev NNn : List Str := ["image", "nodes", "found", "node"]
theorem scNn : FnScope NNn ["image", "nodes"] (defScope (topS 37)) := ⟨rfl, rfl, rfl, by decide +kernel, rfl, by decide +kernel, by decide +kernel⟩
abbrev NPn : List Str := ["image", "nodes", "taken", "all_nodes", "data", "pointed", "never_taken", "node", "page"]
theorem scPn : FnScope NPn ["image", "nodes"] (defScope (topS 38)) := ⟨rfl, rfl, rfl, by decide +kernel, rfl, by decide +kernel, by decide +kernel⟩
abbrev NTw : List Str := ["image", "nodes", "pages", "_", "page"]
theorem scTw : FnScope NTw ["image", "nodes"] (defScope (topS 39)) := ⟨rfl, rfl, rfl, by decide +kernel, rfl, by decide +kernel, by decide +kernel⟩
local macro_rules | `(tactic| walk_at "we") => `(tactic| first
  | refine we_notN ?_)
local macro_rules | `(tactic| walk_at "wt") => `(tactic| first
  | refine wt_isN ?_ | refine wt_notN ?_)
section
variable {Pg : Program} {w : World} {K : PySem.W.Frag} {mg : Str → Option Value} {base : Heap}
def sCo : SpD := fun R Q => ∃ (n p : Nat), R = [.d (fI n p)] ∧ Sz n p ∧ Q (.own (.lst [.int 0])) R
theorem ok_co {f : Addr} {fd : FuncData} (F : Fun K "come_to" "come_to" (topS 30) f fd) (hm : mg "come_to" = some (.ref f)) (hb : Binds K fd ["image"] []) (cKi : Can Pg w K mg base 3 "_all_kids" sKi) (cRe : Can Pg w K mg base 1 "reached" sRe) : Can Pg w K mg base 4 "come_to" sCo := by
  refine can_def F scCo hm hb (fun A Z Z' k ⟨a, b, h1, h2, h3⟩ => ⟨a, b, h1, h2, k _ _ h3⟩) (by decide) (fun R Q h => ?_) (fun cdv A outer s H E hgd hr R Q h => ?_)
  · obtain ⟨a, b, rfl, _⟩ := h
    rfl
  · obtain ⟨n, p, rfl, hs, q⟩ := h
    show WSs _ [] _ [.d (fI n p)] _
    have nd : NCo.Nodup := scCo.nd
    refine wss_one (ws_ret ?_)
    refine we_callT (by assumption) (by assumption) cRe (by decide) rfl ?_
    walk_at "go"
    refine ⟨n, p, rfl, hs, ⟨rfl, ?_⟩⟩
    walk_at "go"
    exact ⟨fun s hs => ⟨_, List.mem_singleton.mp hs⟩, n, [0], rfl, ⟨by have := hs.1.1; omega, .inr rfl⟩, rfl, q⟩
theorem node_at {n i : Nat} (h : i < (nodesI n).length) : atI (nodesI n) (i : Int) = some (if i = 0 then nd0 else .none) := atI_of (by omega) (nodesI_at h)
theorem node0 {n p : Nat} (h : Sz n p) : atI (nodesI n) 0 = some nd0 := node_at (i := 0) (by rw [nodesI_len h]; have := h.1.1; omega)
theorem one_at {x0 x : D} {i : Nat} (h : [x0][i]? = some x) : i = 0 ∧ x = x0 := by
  have hi := (List.getElem?_eq_some_iff.mp h).1
  simp at hi
  subst hi
  exact ⟨rfl, (Option.some.inj h).symm⟩
/-- a look at the image and the nodes that are come to, that finds nothing -/
def sE : SpD := fun R Q => ∃ (n p : Nat), R = [.d (fI n p), .d (.list [.int 0])] ∧ Sz n p ∧ Q (.own (.lst [])) R
theorem ok_pt {f : Addr} {fd : FuncData} (F : Fun K "_pointed_to" "_pointed_to" (topS 36) f fd) (hm : mg "_pointed_to" = some (.ref f)) (hb : Binds K fd ["image", "nodes"] []) : Can Pg w K mg base 1 "_pointed_to" sE := by
  refine can_def F scPt hm hb (fun A Z Z' k ⟨a, b, h1, h2, h3⟩ => ⟨a, b, h1, h2, k _ _ h3⟩) (by decide) (fun R Q h => ?_) (fun cdv A outer s H E hgd hr R Q h => ?_)
  · obtain ⟨a, b, rfl, _⟩ := h
    rfl
  · obtain ⟨n, p, rfl, hs, q⟩ := h
    show WSs _ [] _ [.d (fI n p), .d (.list [.int 0]), .no, .no] _
    have nd : NPt.Nodup := scPt.nd
    have hl := nodesI_len hs
    refine wss_one (ws_ret ?_)
    refine we_lc2 false (some _) none [("node", 2), ("page", 3)] [2] [3] [3] rfl nd (blkOk_by (N := NPt) (sc := defScope (topS 36)) (by decide +kernel)) (by decide) (by decide) (by decide) (by decide) ?_
    walk_at "go"
    refine ⟨fun i acc R => acc = [] ∧ R = [.d (fI n p), .d (.list [.int 0]), .no, .no], ⟨rfl, rfl⟩, fun i x hx acc R' h => ?_, fun acc R' h => ?_⟩
    · obtain ⟨rfl, rfl⟩ := h
      obtain ⟨rfl, rfl⟩ := one_at hx
      intro s H C cl fp
      walk_at "gi"
      intro s H C cl fp
      walk_at "go"
      refine asI_i ⟨nodesI n, nd0, rfl, node0 hs, ?_⟩
      walk_at "go"
      refine ⟨fun z => Bool.noConfusion z, fun _ => ?_⟩
      walk_at "go"
      refine asI_i ⟨nodesI n, nd0, rfl, node0 hs, ?_⟩
      walk_at "go"
      refine ⟨fun _ acc R => acc = [] ∧ R = [.d (fI n p), .d (.list [.int 0]), .d (.int 0), .no], ⟨rfl, rfl⟩, fun j y hy => by simp at hy, fun acc R' h => ?_⟩
      obtain ⟨rfl, rfl⟩ := h
      exact ⟨rfl, rfl⟩
    · obtain ⟨rfl, rfl⟩ := h
      exact q
end
end K02
namespace K02
open PySem PySem.Spec PyProof.Rows L2 Dl
local macro_rules | `(tactic| walk_at "v") => `(tactic| first
  | refine we_d (i := 0) rfl (vis3 rfl) rfl ?_ | refine we_o (i := 0) rfl (vis3 rfl) rfl ?_
  | refine we_d (i := 1) rfl (vis3 rfl) rfl ?_ | refine we_o (i := 1) rfl (vis3 rfl) rfl ?_
  | refine we_d (i := 2) rfl (vis3 rfl) rfl ?_ | refine we_o (i := 2) rfl (vis3 rfl) rfl ?_
  | refine we_d (i := 3) rfl (vis3 rfl) rfl ?_ | refine we_o (i := 3) rfl (vis3 rfl) rfl ?_
  | refine we_d (i := 4) rfl (vis3 rfl) rfl ?_ | refine we_o (i := 4) rfl (vis3 rfl) rfl ?_
  | refine we_d (i := 5) rfl (vis3 rfl) rfl ?_ | refine we_o (i := 5) rfl (vis3 rfl) rfl ?_
  | refine we_d (i := 6) rfl (vis3 rfl) rfl ?_ | refine we_o (i := 6) rfl (vis3 rfl) rfl ?_
  | refine we_d (i := 7) rfl (vis3 rfl) rfl ?_ | refine we_o (i := 7) rfl (vis3 rfl) rfl ?_
  | refine we_d (i := 8) rfl (vis3 rfl) rfl ?_ | refine we_o (i := 8) rfl (vis3 rfl) rfl ?_
  | refine we_d (i := 9) rfl (vis3 rfl) rfl ?_ | refine we_o (i := 9) rfl (vis3 rfl) rfl ?_
  | refine we_d (i := 10) rfl (vis3 rfl) rfl ?_ | refine we_o (i := 10) rfl (vis3 rfl) rfl ?_
  | refine we_d (i := 11) rfl (vis3 rfl) rfl ?_ | refine we_o (i := 11) rfl (vis3 rfl) rfl ?_
  | refine we_d (i := 12) rfl (vis3 rfl) rfl ?_ | refine we_o (i := 12) rfl (vis3 rfl) rfl ?_
  | refine we_d (i := 13) rfl (vis3 rfl) rfl ?_ | refine we_o (i := 13) rfl (vis3 rfl) rfl ?_
  | refine we_d (i := 14) rfl (vis3 rfl) rfl ?_ | refine we_o (i := 14) rfl (vis3 rfl) rfl ?_
  | refine we_d (i := 15) rfl (vis3 rfl) rfl ?_ | refine we_o (i := 15) rfl (vis3 rfl) rfl ?_
  | refine we_d (i := 16) rfl (vis3 rfl) rfl ?_ | refine we_o (i := 16) rfl (vis3 rfl) rfl ?_
  | refine we_d (i := 17) rfl (vis3 rfl) rfl ?_ | refine we_o (i := 17) rfl (vis3 rfl) rfl ?_
  | refine we_d (i := 18) rfl (vis3 rfl) rfl ?_ | refine we_o (i := 18) rfl (vis3 rfl) rfl ?_
  | refine we_d (i := 19) rfl (vis3 rfl) rfl ?_ | refine we_o (i := 19) rfl (vis3 rfl) rfl ?_
  | refine we_d (i := 20) rfl (vis3 rfl) rfl ?_ | refine we_o (i := 20) rfl (vis3 rfl) rfl ?_)
local macro_rules | `(tactic| walk_at "si") => `(tactic| first
  | refine ws_set (i := 0) (by assumption) rfl (loc2 rfl) (by decide) ?_
  | refine ws_set (i := 1) (by assumption) rfl (loc2 rfl) (by decide) ?_
  | refine ws_set (i := 2) (by assumption) rfl (loc2 rfl) (by decide) ?_
  | refine ws_set (i := 3) (by assumption) rfl (loc2 rfl) (by decide) ?_
  | refine ws_set (i := 4) (by assumption) rfl (loc2 rfl) (by decide) ?_
  | refine ws_set (i := 5) (by assumption) rfl (loc2 rfl) (by decide) ?_
  | refine ws_set (i := 6) (by assumption) rfl (loc2 rfl) (by decide) ?_
  | refine ws_set (i := 7) (by assumption) rfl (loc2 rfl) (by decide) ?_
  | refine ws_set (i := 8) (by assumption) rfl (loc2 rfl) (by decide) ?_
  | refine ws_set (i := 9) (by assumption) rfl (loc2 rfl) (by decide) ?_
  | refine ws_set (i := 10) (by assumption) rfl (loc2 rfl) (by decide) ?_
  | refine ws_set (i := 11) (by assumption) rfl (loc2 rfl) (by decide) ?_
  | refine ws_set (i := 12) (by assumption) rfl (loc2 rfl) (by decide) ?_
  | refine ws_set (i := 13) (by assumption) rfl (loc2 rfl) (by decide) ?_
  | refine ws_set (i := 14) (by assumption) rfl (loc2 rfl) (by decide) ?_
  | refine ws_set (i := 15) (by assumption) rfl (loc2 rfl) (by decide) ?_
  | refine ws_set (i := 16) (by assumption) rfl (loc2 rfl) (by decide) ?_
  | refine ws_set (i := 17) (by assumption) rfl (loc2 rfl) (by decide) ?_
  | refine ws_set (i := 18) (by assumption) rfl (loc2 rfl) (by decide) ?_
  | refine ws_set (i := 19) (by assumption) rfl (loc2 rfl) (by decide) ?_
  | refine ws_set (i := 20) (by assumption) rfl (loc2 rfl) (by decide) ?_)
local macro_rules | `(tactic| walk_at "gi") => `(tactic| first
  | refine wg_name (i := 0) (by assumption) rfl (loc2 rfl) (by decide) ?_
  | refine wg_name (i := 1) (by assumption) rfl (loc2 rfl) (by decide) ?_
  | refine wg_name (i := 2) (by assumption) rfl (loc2 rfl) (by decide) ?_
  | refine wg_name (i := 3) (by assumption) rfl (loc2 rfl) (by decide) ?_
  | refine wg_name (i := 4) (by assumption) rfl (loc2 rfl) (by decide) ?_
  | refine wg_name (i := 5) (by assumption) rfl (loc2 rfl) (by decide) ?_
  | refine wg_name (i := 6) (by assumption) rfl (loc2 rfl) (by decide) ?_
  | refine wg_name (i := 7) (by assumption) rfl (loc2 rfl) (by decide) ?_
  | refine wg_name (i := 8) (by assumption) rfl (loc2 rfl) (by decide) ?_
  | refine wg_name (i := 9) (by assumption) rfl (loc2 rfl) (by decide) ?_
  | refine wg_name (i := 10) (by assumption) rfl (loc2 rfl) (by decide) ?_
  | refine wg_name (i := 11) (by assumption) rfl (loc2 rfl) (by decide) ?_
  | refine wg_name (i := 12) (by assumption) rfl (loc2 rfl) (by decide) ?_
  | refine wg_name (i := 13) (by assumption) rfl (loc2 rfl) (by decide) ?_
  | refine wg_name (i := 14) (by assumption) rfl (loc2 rfl) (by decide) ?_
  | refine wg_name (i := 15) (by assumption) rfl (loc2 rfl) (by decide) ?_
  | refine wg_name (i := 16) (by assumption) rfl (loc2 rfl) (by decide) ?_
  | refine wg_name (i := 17) (by assumption) rfl (loc2 rfl) (by decide) ?_
  | refine wg_name (i := 18) (by assumption) rfl (loc2 rfl) (by decide) ?_
  | refine wg_name (i := 19) (by assumption) rfl (loc2 rfl) (by decide) ?_
  | refine wg_name (i := 20) (by assumption) rfl (loc2 rfl) (by decide) ?_)
local macro_rules | `(tactic| walk_at "side") => `(tactic| first | exact rfl | exact Nat.le_trans (m := 1000) (Nat.le_of_ble_eq_true rfl) sz1000 | omega | decide | assumption)
local macro_rules | `(tactic| walk_at "we") => `(tactic| first
  | (refine isName ?_; walk_at "v")
  | refine we_int ?_ | refine we_bl ?_ | refine we_non ?_ | refine we_str ?_
  | refine we_ix ?_
  | refine we_addG ?_ | refine we_sub ?_ | refine we_mulG ?_ | refine we_div ?_ | refine we_mod ?_ | refine we_pow ?_ | refine we_neg ?_
  | refine we_gt ?_ | refine we_lt ?_ | refine we_ge ?_ | refine we_le ?_
  | refine we_tup ?_ | refine we_lst ?_ | refine we_dict0 ?_
  | refine we_len (by assumption) rfl ?_ | refine we_slG ?_ | refine we_eqG (by assumption) ?_ | refine we_neG (by assumption) ?_ | refine we_not ?_ | refine we_one ?_ | refine we_and ?_ | refine we_or ?_
  | refine we_call2 (by assumption) (by assumption) (by assumption) (by decide) rfl ?_)
local macro_rules | `(tactic| walk_at "wt") => `(tactic| first
  | refine wt_gt ?_ | refine wt_lt ?_ | refine wt_ge ?_ | refine wt_le ?_ | refine wt_not ?_
  | refine wt_eqG (by assumption) ?_ | refine wt_neG (by assumption) ?_ | refine wt_bool ?_ | refine wt_val ?_)
local macro_rules | `(tactic| walk_at "ws") => `(tactic| first
  | refine ws_ret ?_ | (refine isSet ?_; walk_at "si") | refine ws_if ?_
  | refine ws_append (pe_bm PySem.F.plainAttrs_list PySem.F.slot_list_append PySem.F.type_list_append mt_append pe_m (pa_cons pe_m pa_nil)) ?_
  | refine ws_continue ?_ | refine ws_break ?_ | refine ws_pass ?_)
local macro_rules | `(tactic| walk_at "l") => `(tactic| first
  | refine And.intro (Exists.intro _ rfl) ?_
  | refine And.intro trivial ?_
  | refine Exists.intro _ (And.intro rfl ?_)
  | refine Exists.intro _ (Exists.intro _ (And.intro rfl (And.intro rfl ?_)))
  | refine And.intro (And.intro (by walk_at "side") (by walk_at "side") : CDiv _ _) ?_
  | refine And.intro (.inl (And.intro (by walk_at "side") (by walk_at "side")) : CMul _ _) ?_
  | refine And.intro (.inr (And.intro (by walk_at "side") (by walk_at "side")) : CMul _ _) ?_
  | refine And.intro (And.intro (List.cons_ne_nil _ _) (And.intro (by walk_at "side") (And.intro (by walk_at "side") (by walk_at "side")))) ?_
  | refine And.intro (by walk_at "side") ?_)
local macro_rules | `(tactic| walk_at "step") => `(tactic| first
  | (refine isWE ?_; walk_at "we")
  | (refine isWT ?_; walk_at "wt")
  | (refine isWSs ?_; first | refine wss_nil ?_ | refine wss_one ?_ | refine wss_cons ?_)
  | (refine isWS ?_; walk_at "ws")
  | (refine isWDs ?_; first | refine wds_nil ?_ | refine wds_cons ?_)
  | (refine isWW ?_; first | refine ww_and1 ?_ | refine ww_or1 ?_ | refine ww_and ?_ | refine ww_or ?_)
  | refine allB_i fun _ _ _ _ _ => ?_
  | refine asI_i (allB_i fun _ _ _ _ _ => ?_)
  | (refine isWG ?_; first | walk_at "gi" | refine wg_tup rfl ?_ rfl)
  | (refine isWGs ?_; first | refine wgs_nil ?_ | refine wgs_consN ?_)
  | (refine isWO ?_; first | refine wo_none ?_ | refine wo_some ?_)
  | (refine isWA ?_; first | refine wa_nil ?_ | refine wa_cons ?_)
  | walk_at "l")
local macro_rules | `(tactic| walk_at "go") => `(tactic| repeat (walk_at "step"))
abbrev NBy : List Str := ["image", "nodes", "led_to", "node", "_", "kid"]
theorem scBy : FnScope NBy ["image", "nodes"] (defScope (topS 40)) := ⟨rfl, rfl, rfl, by decide +kernel, rfl, by decide +kernel, by decide +kernel⟩
abbrev NFw : List Str := ["image", "nodes", "node", "beyond"]
theorem scFw : FnScope NFw ["image", "nodes"] (defScope (topS 41)) := ⟨rfl, rfl, rfl, by decide +kernel, rfl, by decide +kernel, by decide +kernel⟩
theorem scMy : FnScope NFw ["image", "nodes"] (defScope (topS 46)) := ⟨rfl, rfl, rfl, by decide +kernel, rfl, by decide +kernel, by decide +kernel⟩
/-- over one thing, none of it kept -/
theorem lc_one0 {Q : SV → DS → Prop} {Tn : (Nat → List D → DS → Prop) → Nat → List D → D → DS → Prop} {vs : List Nat} {R1 : DS} {x0 : D} (R0 : DS) (hR : wipeR R1 vs = R0) (turn : Tn (fun _ acc R => acc = [] ∧ R = R0) 0 [] x0 R0) (fin : Q (.own (.lst [])) R0) : LcG Q Tn vs [x0] R1 :=
  ⟨Nat.le_trans (by decide : 1 ≤ 1000) sz1000, fun _ acc R => acc = [] ∧ R = R0, ⟨rfl, hR⟩, fun i x acc R hx h => by
    obtain ⟨rfl, rfl⟩ := h
    obtain ⟨rfl, rfl⟩ := one_at hx
    exact turn, fun acc R h => by
    obtain ⟨rfl, rfl⟩ := h
    exact fin⟩
/-- over one thing, that gives one -/
theorem lc_one1 {Q : SV → DS → Prop} {Tn : (Nat → List D → DS → Prop) → Nat → List D → D → DS → Prop} {vs : List Nat} {R1 : DS} {x0 : D} (z : D) (R0 : DS) (hR : wipeR R1 vs = R0) (turn : Tn (fun i acc R => acc = [z].take i ∧ R = R0) 0 [] x0 R0) (fin : Q (.own (.lst [z])) R0) : LcG Q Tn vs [x0] R1 :=
  ⟨Nat.le_trans (by decide : 1 ≤ 1000) sz1000, fun i acc R => acc = [z].take i ∧ R = R0, ⟨rfl, hR⟩, fun i x acc R hx h => by
    obtain ⟨rfl, rfl⟩ := one_at hx
    obtain ⟨rfl, rfl⟩ := h
    exact turn, fun acc R h => by
    obtain ⟨rfl, rfl⟩ := h
    exact fin⟩
local macro_rules | `(tactic| walk_at "we") => `(tactic| first
  | refine we_notN ?_)
local macro_rules | `(tactic| walk_at "wt") => `(tactic| first
  | refine wt_isN ?_ | refine wt_notN ?_)
section
variable {Pg : Program} {w : World} {K : PySem.W.Frag} {mg : Str → Option Value} {base : Heap}
theorem ok_nn {f : Addr} {fd : FuncData} (F : Fun K "_nodes_that_are_none" "_nodes_that_are_none" (topS 37) f fd) (hm : mg "_nodes_that_are_none" = some (.ref f)) (hb : Binds K fd ["image", "nodes"] []) (cFo : Can Pg w K mg base 1 "_is_folder" sFold) : Can Pg w K mg base 2 "_nodes_that_are_none" sE := by
  refine can_def F scNn hm hb (fun A Z Z' k ⟨a, b, h1, h2, h3⟩ => ⟨a, b, h1, h2, k _ _ h3⟩) (by decide) (fun R Q h => ?_) (fun cdv A outer s H E hgd hr R Q h => ?_)
  · obtain ⟨a, b, rfl, _⟩ := h
    rfl
  · obtain ⟨n, p, rfl, hs, q⟩ := h
    show WSs _ [] _ [.d (fI n p), .d (.list [.int 0]), .no, .no] _
    have nd : NNn.Nodup := scNn.nd
    refine wss_cons ?_
    refine ws_setLc1 (i := 2) [("node", 3)] [3] rfl nd rfl rfl (sw_true rfl rfl rfl (by decide +kernel)) (blkOk_by (N := NNn) (sc := defScope (topS 37)) (by decide +kernel)) (by decide) (by decide) (by decide) (.list ?_)
    walk_at "go"
    refine lc_one0 [.d (fI n p), .d (.list [.int 0]), .no, .no] rfl ?_ ?_
    · intro s H C cl fp
      walk_at "gi"
      intro s H C cl fp
      walk_at "go"
      exact ⟨fun z => absurd z (by decide), fun _ => ⟨fun z => Bool.noConfusion z, fun _ => ⟨rfl, rfl⟩⟩⟩
    · refine nrmB (Z := fun R => put 2 R _ _) [.d (fI n p), .d (.list [.int 0]), .no, .no] rfl ?_
      walk_at "go"
      refine ⟨n, p, 0, rfl, ⟨hs, by have := hs.1.1; omega⟩, ⟨rfl, ?_⟩⟩
      walk_at "go"
      refine ⟨fun z => absurd z (by decide), fun _ => ?_⟩
      walk_at "go"
      exact q
theorem ok_pn {f : Addr} {fd : FuncData} (F : Fun K "_pages_that_are_none" "_pages_that_are_none" (topS 38) f fd) (hm : mg "_pages_that_are_none" = some (.ref f)) (hb : Binds K fd ["image", "nodes"] []) (cPt : Can Pg w K mg base 1 "_pointed_to" sE) : Can Pg w K mg base 2 "_pages_that_are_none" sE := by
  refine can_def F scPn hm hb (fun A Z Z' k ⟨a, b, h1, h2, h3⟩ => ⟨a, b, h1, h2, k _ _ h3⟩) (by decide) (fun R Q h => ?_) (fun cdv A outer s H E hgd hr R Q h => ?_)
  · obtain ⟨a, b, rfl, _⟩ := h
    rfl
  · obtain ⟨n, p, rfl, hs, q⟩ := h
    show WSs _ [] _ [.d (fI n p), .d (.list [.int 0]), .no, .no, .no, .no, .no, .no, .no] _
    have nd : NPn.Nodup := scPn.nd
    refine wss_cons (ws_unp (js := [2, 3, 4]) ?_)
    walk_at "go"
    refine ⟨n, p, rfl, hs, ⟨rfl, ?_⟩⟩
    refine nrmB (Z := fun R => put 5 R _ _) [.d (fI n p), .d (.list [.int 0]), .d (.tuple (tkI p)), .d (.tuple (nodesI n)), .d (.tuple (dtI p)), .no, .no, .no, .no] rfl ?_
    refine isWSs ?_
    refine nrmS [.d (fI n p), .d (.list [.int 0]), .d (.tuple (tkI p)), .d (.tuple (nodesI n)), .d (.tuple (dtI p)), .own (.lst []), .no, .no, .no] rfl ?_
    refine wss_fz 5 rfl (by decide) ?_
    refine nrmS [.d (fI n p), .d (.list [.int 0]), .d (.tuple (tkI p)), .d (.tuple (nodesI n)), .d (.tuple (dtI p)), .d (.list []), .no, .no, .no] rfl ?_
    refine wss_cons ?_
    refine ws_setLc1 (i := 6) [("node", 7), ("page", 8)] [7, 8] rfl nd rfl rfl (sw_true rfl rfl rfl (by decide +kernel)) (blkOk_by (N := NPn) (sc := defScope (topS 38)) (by decide +kernel)) (by decide) (by decide) (by decide) (.list ?_)
    walk_at "go"
    refine lc_nil ?_
    refine nrmB (Z := fun R => put 6 R _ _) [.d (fI n p), .d (.list [.int 0]), .d (.tuple (tkI p)), .d (.tuple (nodesI n)), .d (.tuple (dtI p)), .d (.list []), .no, .no, .no] rfl ?_
    refine isWSs ?_
    refine nrmS [.d (fI n p), .d (.list [.int 0]), .d (.tuple (tkI p)), .d (.tuple (nodesI n)), .d (.tuple (dtI p)), .d (.list []), .own (.lst []), .no, .no] rfl ?_
    refine wss_one (ws_ret ?_)
    refine we_catS ?_
    walk_at "go"
    refine we_lc1 [("node", 7), ("page", 8)] [7, 8] rfl nd (blkOk_by (N := NPn) (sc := defScope (topS 38)) (by decide +kernel)) (by decide) (by decide) (.list ?_)
    walk_at "go"
    refine lc_nil ?_
    exact ⟨⟨_, rfl⟩, [], [], rfl, rfl, Nat.zero_le _, q⟩
theorem ok_tw {f : Addr} {fd : FuncData} (F : Fun K "_pages_of_two" "_pages_of_two" (topS 39) f fd) (hm : mg "_pages_of_two" = some (.ref f)) (hb : Binds K fd ["image", "nodes"] []) (cPt : Can Pg w K mg base 1 "_pointed_to" sE) : Can Pg w K mg base 2 "_pages_of_two" sE := by
  refine can_def F scTw hm hb (fun A Z Z' k ⟨a, b, h1, h2, h3⟩ => ⟨a, b, h1, h2, k _ _ h3⟩) (by decide) (fun R Q h => ?_) (fun cdv A outer s H E hgd hr R Q h => ?_)
  · obtain ⟨a, b, rfl, _⟩ := h
    rfl
  · obtain ⟨n, p, rfl, hs, q⟩ := h
    show WSs _ [] _ [.d (fI n p), .d (.list [.int 0]), .no, .no, .no] _
    have nd : NTw.Nodup := scTw.nd
    refine wss_cons ?_
    walk_at "si"
    refine we_lc0 [("_", 3), ("page", 4)] [3, 4] rfl nd (blkOk_by (N := NTw) (sc := defScope (topS 39)) (by decide +kernel)) (by decide) (by decide) (.list ?_)
    walk_at "go"
    refine ⟨n, p, rfl, hs, ⟨rfl, asD_o ⟨[], rfl, lc_nil ?_⟩⟩⟩
    refine nrmB (Z := fun R => put 2 R _ _) [.d (fI n p), .d (.list [.int 0]), .no, .no, .no] rfl ?_
    refine isWSs ?_
    refine nrmS [.d (fI n p), .d (.list [.int 0]), .own (.lst []), .no, .no] rfl ?_
    refine wss_fz 2 rfl (by decide) ?_
    refine nrmS [.d (fI n p), .d (.list [.int 0]), .d (.list []), .no, .no] rfl ?_
    refine wss_one (ws_ret ?_)
    refine we_lc1 [("page", 4)] [4] rfl nd (blkOk_by (N := NTw) (sc := defScope (topS 39)) (by decide +kernel)) (by decide) (by decide) (.list ?_)
    walk_at "go"
    exact lc_nil q
def sBy : SpD := fun R Q => ∃ (n p : Nat), R = [.d (fI n p), .d (.list [.int 0])] ∧ Sz n p ∧ Q (.own (.lst [.tuple [.int 0, .int 0]])) R
theorem ok_by {f : Addr} {fd : FuncData} (F : Fun K "_links_beyond" "_links_beyond" (topS 40) f fd) (hm : mg "_links_beyond" = some (.ref f)) (hb : Binds K fd ["image", "nodes"] []) (cNa : Can Pg w K mg base 2 "names_of" sNa) : Can Pg w K mg base 3 "_links_beyond" sBy := by
  refine can_def F scBy hm hb (fun A Z Z' k ⟨a, b, h1, h2, h3⟩ => ⟨a, b, h1, h2, k _ _ h3⟩) (by decide) (fun R Q h => ?_) (fun cdv A outer s H E hgd hr R Q h => ?_)
  · obtain ⟨a, b, rfl, _⟩ := h
    rfl
  · obtain ⟨n, p, rfl, hs, q⟩ := h
    show WSs _ [] _ [.d (fI n p), .d (.list [.int 0]), .no, .no, .no, .no] _
    have nd : NBy.Nodup := scBy.nd
    have h2 := hs.1.1
    refine wss_cons ?_
    refine isWS ?_
    refine isSet ?_
    walk_at "si"
    refine we_catS ?_
    walk_at "go"
    refine we_lc2 true none none [("node", 3), ("_", 4), ("kid", 5)] [3] [4, 5] [4, 5] rfl nd (blkOk_by (N := NBy) (sc := defScope (topS 40)) (by decide +kernel)) (by decide) (by decide) (by decide) (by decide) ?_
    walk_at "go"
    refine ⟨fun _ acc R => acc = [] ∧ R = [.d (fI n p), .d (.list [.int 0]), .no, .no, .no, .no], ⟨rfl, rfl⟩, fun i x hx acc R' h => ?_, fun acc R' h => ?_⟩
    · obtain ⟨rfl, rfl⟩ := h
      obtain ⟨rfl, rfl⟩ := one_at hx
      intro s H C cl fp
      walk_at "gi"
      refine ⟨fun z => Bool.noConfusion z, fun _ => ?_⟩
      intro s H C cl fp
      walk_at "go"
      refine ⟨n, p, 0, rfl, ⟨hs, by omega⟩, ⟨rfl, ?_⟩⟩
      refine asD_o ⟨[], rfl, fun _ acc R => acc = [] ∧ R = [.d (fI n p), .d (.list [.int 0]), .no, .d (.int 0), .no, .no], ⟨rfl, rfl⟩, fun j y hy => by simp at hy, fun acc R' h => ?_⟩
      obtain ⟨rfl, rfl⟩ := h
      exact ⟨rfl, rfl⟩
    · obtain ⟨rfl, rfl⟩ := h
      refine ⟨⟨_, rfl⟩, [.int 0], [], rfl, rfl, szle (by decide), ?_⟩
      refine nrmB (Z := fun R => put 2 R _ _) [.d (fI n p), .d (.list [.int 0]), .no, .no, .no, .no] rfl ?_
      refine isWSs ?_
      refine nrmS [.d (fI n p), .d (.list [.int 0]), .own (.lst [.int 0]), .no, .no, .no] rfl ?_
      refine wss_fz 2 rfl (by decide) ?_
      refine nrmS [.d (fI n p), .d (.list [.int 0]), .d (.list [.int 0]), .no, .no, .no] rfl ?_
      refine wss_one (ws_ret ?_)
      refine we_lc1 [("node", 3)] [3] rfl nd (blkOk_by (N := NBy) (sc := defScope (topS 40)) (by decide +kernel)) (by decide) (by decide) (.list ?_)
      walk_at "go"
      refine lc_one1 (.tuple [.int 0, .int 0]) [.d (fI n p), .d (.list [.int 0]), .d (.list [.int 0]), .no, .no, .no] rfl ?_ q
      intro s H C cl fp
      walk_at "gi"
      intro s H C cl fp
      walk_at "go"
      refine asI_i ⟨nodesI n, nd0, rfl, node0 hs, ?_⟩
      walk_at "go"
      refine ⟨fun _ => ?_, fun z => Bool.noConfusion z⟩
      walk_at "go"
      refine asI_i ⟨nodesI n, nd0, rfl, node0 hs, ?_⟩
      walk_at "go"
      refine we_count ?_
      walk_at "go"
      refine ⟨[0], rfl, ?_⟩
      walk_at "go"
      exact rfl
theorem ok_fw {f : Addr} {fd : FuncData} (F : Fun K "_links_too_few" "_links_too_few" (topS 41) f fd) (hm : mg "_links_too_few" = some (.ref f)) (hb : Binds K fd ["image", "nodes"] []) (cBy : Can Pg w K mg base 3 "_links_beyond" sBy) : Can Pg w K mg base 4 "_links_too_few" sE := by
  refine can_def F scFw hm hb (fun A Z Z' k ⟨a, b, h1, h2, h3⟩ => ⟨a, b, h1, h2, k _ _ h3⟩) (by decide) (fun R Q h => ?_) (fun cdv A outer s H E hgd hr R Q h => ?_)
  · obtain ⟨a, b, rfl, _⟩ := h
    rfl
  · obtain ⟨n, p, rfl, hs, q⟩ := h
    show WSs _ [] _ [.d (fI n p), .d (.list [.int 0]), .no, .no] _
    have nd : NFw.Nodup := scFw.nd
    refine wss_one (ws_ret ?_)
    refine we_lc1 [("node", 2), ("beyond", 3)] [2, 3] rfl nd (blkOk_by (N := NFw) (sc := defScope (topS 41)) (by decide +kernel)) (by decide) (by decide) (.list ?_)
    walk_at "go"
    refine ⟨n, p, rfl, hs, ⟨rfl, asD_o ⟨[.tuple [.int 0, .int 0]], rfl, ?_⟩⟩⟩
    refine lc_one0 [.d (fI n p), .d (.list [.int 0]), .no, .no] rfl ?_ q
    intro s H C cl fp
    walk_at "go"
    exact ⟨fun z => absurd z (by decide), fun _ => ⟨rfl, rfl⟩⟩
theorem ok_my {f : Addr} {fd : FuncData} (F : Fun K "_links_too_many" "_links_too_many" (topS 46) f fd) (hm : mg "_links_too_many" = some (.ref f)) (hb : Binds K fd ["image", "nodes"] []) (cBy : Can Pg w K mg base 3 "_links_beyond" sBy) : Can Pg w K mg base 4 "_links_too_many" sE := by
  refine can_def F scMy hm hb (fun A Z Z' k ⟨a, b, h1, h2, h3⟩ => ⟨a, b, h1, h2, k _ _ h3⟩) (by decide) (fun R Q h => ?_) (fun cdv A outer s H E hgd hr R Q h => ?_)
  · obtain ⟨a, b, rfl, _⟩ := h
    rfl
  · obtain ⟨n, p, rfl, hs, q⟩ := h
    show WSs _ [] _ [.d (fI n p), .d (.list [.int 0]), .no, .no] _
    have nd : NFw.Nodup := scMy.nd
    refine wss_one (ws_ret ?_)
    refine we_lc1 [("node", 2), ("beyond", 3)] [2, 3] rfl nd (blkOk_by (N := NFw) (sc := defScope (topS 46)) (by decide +kernel)) (by decide) (by decide) (.list ?_)
    walk_at "go"
    refine ⟨n, p, rfl, hs, ⟨rfl, asD_o ⟨[.tuple [.int 0, .int 0]], rfl, ?_⟩⟩⟩
    refine lc_one0 [.d (fI n p), .d (.list [.int 0]), .no, .no] rfl ?_ q
    intro s H C cl fp
    walk_at "go"
    exact ⟨fun z => absurd z (by decide), fun _ => ⟨rfl, rfl⟩⟩
end
end K02
namespace K02
open PySem PySem.Spec PyProof.Rows L2 Dl
local macro_rules | `(tactic| walk_at "v") => `(tactic| first
  | refine we_d (i := 0) rfl (vis3 rfl) rfl ?_ | refine we_o (i := 0) rfl (vis3 rfl) rfl ?_
  | refine we_d (i := 1) rfl (vis3 rfl) rfl ?_ | refine we_o (i := 1) rfl (vis3 rfl) rfl ?_
  | refine we_d (i := 2) rfl (vis3 rfl) rfl ?_ | refine we_o (i := 2) rfl (vis3 rfl) rfl ?_
  | refine we_d (i := 3) rfl (vis3 rfl) rfl ?_ | refine we_o (i := 3) rfl (vis3 rfl) rfl ?_
  | refine we_d (i := 4) rfl (vis3 rfl) rfl ?_ | refine we_o (i := 4) rfl (vis3 rfl) rfl ?_
  | refine we_d (i := 5) rfl (vis3 rfl) rfl ?_ | refine we_o (i := 5) rfl (vis3 rfl) rfl ?_
  | refine we_d (i := 6) rfl (vis3 rfl) rfl ?_ | refine we_o (i := 6) rfl (vis3 rfl) rfl ?_
  | refine we_d (i := 7) rfl (vis3 rfl) rfl ?_ | refine we_o (i := 7) rfl (vis3 rfl) rfl ?_
  | refine we_d (i := 8) rfl (vis3 rfl) rfl ?_ | refine we_o (i := 8) rfl (vis3 rfl) rfl ?_
  | refine we_d (i := 9) rfl (vis3 rfl) rfl ?_ | refine we_o (i := 9) rfl (vis3 rfl) rfl ?_
  | refine we_d (i := 10) rfl (vis3 rfl) rfl ?_ | refine we_o (i := 10) rfl (vis3 rfl) rfl ?_
  | refine we_d (i := 11) rfl (vis3 rfl) rfl ?_ | refine we_o (i := 11) rfl (vis3 rfl) rfl ?_
  | refine we_d (i := 12) rfl (vis3 rfl) rfl ?_ | refine we_o (i := 12) rfl (vis3 rfl) rfl ?_
  | refine we_d (i := 13) rfl (vis3 rfl) rfl ?_ | refine we_o (i := 13) rfl (vis3 rfl) rfl ?_
  | refine we_d (i := 14) rfl (vis3 rfl) rfl ?_ | refine we_o (i := 14) rfl (vis3 rfl) rfl ?_
  | refine we_d (i := 15) rfl (vis3 rfl) rfl ?_ | refine we_o (i := 15) rfl (vis3 rfl) rfl ?_
  | refine we_d (i := 16) rfl (vis3 rfl) rfl ?_ | refine we_o (i := 16) rfl (vis3 rfl) rfl ?_
  | refine we_d (i := 17) rfl (vis3 rfl) rfl ?_ | refine we_o (i := 17) rfl (vis3 rfl) rfl ?_
  | refine we_d (i := 18) rfl (vis3 rfl) rfl ?_ | refine we_o (i := 18) rfl (vis3 rfl) rfl ?_
  | refine we_d (i := 19) rfl (vis3 rfl) rfl ?_ | refine we_o (i := 19) rfl (vis3 rfl) rfl ?_
  | refine we_d (i := 20) rfl (vis3 rfl) rfl ?_ | refine we_o (i := 20) rfl (vis3 rfl) rfl ?_)
local macro_rules | `(tactic| walk_at "si") => `(tactic| first
  | refine ws_set (i := 0) (by assumption) rfl (loc2 rfl) (by decide) ?_
  | refine ws_set (i := 1) (by assumption) rfl (loc2 rfl) (by decide) ?_
  | refine ws_set (i := 2) (by assumption) rfl (loc2 rfl) (by decide) ?_
  | refine ws_set (i := 3) (by assumption) rfl (loc2 rfl) (by decide) ?_
  | refine ws_set (i := 4) (by assumption) rfl (loc2 rfl) (by decide) ?_
  | refine ws_set (i := 5) (by assumption) rfl (loc2 rfl) (by decide) ?_
  | refine ws_set (i := 6) (by assumption) rfl (loc2 rfl) (by decide) ?_
  | refine ws_set (i := 7) (by assumption) rfl (loc2 rfl) (by decide) ?_
  | refine ws_set (i := 8) (by assumption) rfl (loc2 rfl) (by decide) ?_
  | refine ws_set (i := 9) (by assumption) rfl (loc2 rfl) (by decide) ?_
  | refine ws_set (i := 10) (by assumption) rfl (loc2 rfl) (by decide) ?_
  | refine ws_set (i := 11) (by assumption) rfl (loc2 rfl) (by decide) ?_
  | refine ws_set (i := 12) (by assumption) rfl (loc2 rfl) (by decide) ?_
  | refine ws_set (i := 13) (by assumption) rfl (loc2 rfl) (by decide) ?_
  | refine ws_set (i := 14) (by assumption) rfl (loc2 rfl) (by decide) ?_
  | refine ws_set (i := 15) (by assumption) rfl (loc2 rfl) (by decide) ?_
  | refine ws_set (i := 16) (by assumption) rfl (loc2 rfl) (by decide) ?_
  | refine ws_set (i := 17) (by assumption) rfl (loc2 rfl) (by decide) ?_
  | refine ws_set (i := 18) (by assumption) rfl (loc2 rfl) (by decide) ?_
  | refine ws_set (i := 19) (by assumption) rfl (loc2 rfl) (by decide) ?_
  | refine ws_set (i := 20) (by assumption) rfl (loc2 rfl) (by decide) ?_)
local macro_rules | `(tactic| walk_at "gi") => `(tactic| first
  | refine wg_name (i := 0) (by assumption) rfl (loc2 rfl) (by decide) ?_
  | refine wg_name (i := 1) (by assumption) rfl (loc2 rfl) (by decide) ?_
  | refine wg_name (i := 2) (by assumption) rfl (loc2 rfl) (by decide) ?_
  | refine wg_name (i := 3) (by assumption) rfl (loc2 rfl) (by decide) ?_
  | refine wg_name (i := 4) (by assumption) rfl (loc2 rfl) (by decide) ?_
  | refine wg_name (i := 5) (by assumption) rfl (loc2 rfl) (by decide) ?_
  | refine wg_name (i := 6) (by assumption) rfl (loc2 rfl) (by decide) ?_
  | refine wg_name (i := 7) (by assumption) rfl (loc2 rfl) (by decide) ?_
  | refine wg_name (i := 8) (by assumption) rfl (loc2 rfl) (by decide) ?_
  | refine wg_name (i := 9) (by assumption) rfl (loc2 rfl) (by decide) ?_
  | refine wg_name (i := 10) (by assumption) rfl (loc2 rfl) (by decide) ?_
  | refine wg_name (i := 11) (by assumption) rfl (loc2 rfl) (by decide) ?_
  | refine wg_name (i := 12) (by assumption) rfl (loc2 rfl) (by decide) ?_
  | refine wg_name (i := 13) (by assumption) rfl (loc2 rfl) (by decide) ?_
  | refine wg_name (i := 14) (by assumption) rfl (loc2 rfl) (by decide) ?_
  | refine wg_name (i := 15) (by assumption) rfl (loc2 rfl) (by decide) ?_
  | refine wg_name (i := 16) (by assumption) rfl (loc2 rfl) (by decide) ?_
  | refine wg_name (i := 17) (by assumption) rfl (loc2 rfl) (by decide) ?_
  | refine wg_name (i := 18) (by assumption) rfl (loc2 rfl) (by decide) ?_
  | refine wg_name (i := 19) (by assumption) rfl (loc2 rfl) (by decide) ?_
  | refine wg_name (i := 20) (by assumption) rfl (loc2 rfl) (by decide) ?_)
local macro_rules | `(tactic| walk_at "side") => `(tactic| first | exact rfl | exact Nat.le_trans (m := 1000) (Nat.le_of_ble_eq_true rfl) sz1000 | omega | decide | assumption)
local macro_rules | `(tactic| walk_at "we") => `(tactic| first
  | (refine isName ?_; walk_at "v")
  | refine we_int ?_ | refine we_bl ?_ | refine we_non ?_ | refine we_str ?_
  | refine we_ix ?_
  | refine we_addG ?_ | refine we_sub ?_ | refine we_mulG ?_ | refine we_div ?_ | refine we_mod ?_ | refine we_pow ?_ | refine we_neg ?_
  | refine we_gt ?_ | refine we_lt ?_ | refine we_ge ?_ | refine we_le ?_
  | refine we_tup ?_ | refine we_lst ?_ | refine we_dict0 ?_
  | refine we_len (by assumption) rfl ?_ | refine we_slG ?_ | refine we_eqG (by assumption) ?_ | refine we_neG (by assumption) ?_ | refine we_not ?_ | refine we_one ?_ | refine we_and ?_ | refine we_or ?_
  | refine we_call2 (by assumption) (by assumption) (by assumption) (by decide) rfl ?_)
local macro_rules | `(tactic| walk_at "wt") => `(tactic| first
  | refine wt_gt ?_ | refine wt_lt ?_ | refine wt_ge ?_ | refine wt_le ?_ | refine wt_not ?_
  | refine wt_eqG (by assumption) ?_ | refine wt_neG (by assumption) ?_ | refine wt_bool ?_ | refine wt_val ?_)
local macro_rules | `(tactic| walk_at "ws") => `(tactic| first
  | refine ws_ret ?_ | (refine isSet ?_; walk_at "si") | refine ws_if ?_
  | refine ws_append (pe_bm PySem.F.plainAttrs_list PySem.F.slot_list_append PySem.F.type_list_append mt_append pe_m (pa_cons pe_m pa_nil)) ?_
  | refine ws_continue ?_ | refine ws_break ?_ | refine ws_pass ?_)
local macro_rules | `(tactic| walk_at "l") => `(tactic| first
  | refine And.intro (Exists.intro _ rfl) ?_
  | refine And.intro trivial ?_
  | refine Exists.intro _ (And.intro rfl ?_)
  | refine Exists.intro _ (Exists.intro _ (And.intro rfl (And.intro rfl ?_)))
  | refine And.intro (And.intro (by walk_at "side") (by walk_at "side") : CDiv _ _) ?_
  | refine And.intro (.inl (And.intro (by walk_at "side") (by walk_at "side")) : CMul _ _) ?_
  | refine And.intro (.inr (And.intro (by walk_at "side") (by walk_at "side")) : CMul _ _) ?_
  | refine And.intro (And.intro (List.cons_ne_nil _ _) (And.intro (by walk_at "side") (And.intro (by walk_at "side") (by walk_at "side")))) ?_
  | refine And.intro (by walk_at "side") ?_)
local macro_rules | `(tactic| walk_at "step") => `(tactic| first
  | (refine isWE ?_; walk_at "we")
  | (refine isWT ?_; walk_at "wt")
  | (refine isWSs ?_; first | refine wss_nil ?_ | refine wss_one ?_ | refine wss_cons ?_)
  | (refine isWS ?_; walk_at "ws")
  | (refine isWDs ?_; first | refine wds_nil ?_ | refine wds_cons ?_)
  | (refine isWW ?_; first | refine ww_and1 ?_ | refine ww_or1 ?_ | refine ww_and ?_ | refine ww_or ?_)
  | refine allB_i fun _ _ _ _ _ => ?_
  | refine asI_i (allB_i fun _ _ _ _ _ => ?_)
  | (refine isWG ?_; first | walk_at "gi" | refine wg_tup rfl ?_ rfl)
  | (refine isWGs ?_; first | refine wgs_nil ?_ | refine wgs_consN ?_)
  | (refine isWO ?_; first | refine wo_none ?_ | refine wo_some ?_)
  | (refine isWA ?_; first | refine wa_nil ?_ | refine wa_cons ?_)
  | walk_at "l")
local macro_rules | `(tactic| walk_at "go") => `(tactic| repeat (walk_at "step"))
abbrev NSt : List Str := ["image", "nodes", "found", "node", "names", "name", "_"]
theorem scSt : FnScope NSt ["image", "nodes"] (defScope (topS 42)) := ⟨rfl, rfl, rfl, by decide +kernel, rfl, by decide +kernel, by decide +kernel⟩
abbrev NRi : List Str := ["image", "nodes", "kids", "node"]
theorem scRi : FnScope NRi ["image", "nodes"] (defScope (topS 43)) := ⟨rfl, rfl, rfl, by decide +kernel, rfl, by decide +kernel, by decide +kernel⟩
abbrev NBi : List Str := ["image", "nodes", "pages", "_", "page", "bit"]
theorem scBi : FnScope NBi ["image", "nodes"] (defScope (topS 44)) := ⟨rfl, rfl, rfl, by decide +kernel, rfl, by decide +kernel, by decide +kernel⟩
abbrev NNo2 : List Str := ["image", "nodes", "node", "worth"]
theorem scNo2 : FnScope NNo2 ["image", "nodes"] (defScope (topS 45)) := ⟨rfl, rfl, rfl, by decide +kernel, rfl, by decide +kernel, by decide +kernel⟩
abbrev NBr : List Str := ["image", "nodes", "found"]
theorem scBr : FnScope NBr ["image"] (defScope (topS 31)) := ⟨rfl, rfl, rfl, by decide +kernel, rfl, by decide +kernel, by decide +kernel⟩
abbrev NLe : List Str := ["image", "nodes"]
theorem scLe : FnScope NLe ["image"] (defScope (topS 32)) := ⟨rfl, rfl, rfl, by decide +kernel, rfl, by decide +kernel, by decide +kernel⟩
local macro_rules | `(tactic| walk_at "we") => `(tactic| first
  | refine we_notN ?_ | refine we_lenSet0 rfl (by assumption) rfl (by assumption) rfl ?_)
local macro_rules | `(tactic| walk_at "wt") => `(tactic| first
  | refine wt_isN ?_ | refine wt_notN ?_)
section
variable {Pg : Program} {w : World} {K : PySem.W.Frag} {mg : Str → Option Value} {base : Heap}
theorem ok_st {f : Addr} {fd : FuncData} (F : Fun K "_names_that_stand_twice" "_names_that_stand_twice" (topS 42) f fd) (hm : mg "_names_that_stand_twice" = some (.ref f)) (hb : Binds K fd ["image", "nodes"] []) (ml : mg "len" = none) (ms : mg "set" = none) (cNa : Can Pg w K mg base 2 "names_of" sNa) : Can Pg w K mg base 3 "_names_that_stand_twice" sE := by
  refine can_def F scSt hm hb (fun A Z Z' k ⟨a, b, h1, h2, h3⟩ => ⟨a, b, h1, h2, k _ _ h3⟩) (by decide) (fun R Q h => ?_) (fun cdv A outer s H E hgd hr R Q h => ?_)
  · obtain ⟨a, b, rfl, _⟩ := h
    rfl
  · obtain ⟨n, p, rfl, hs, q⟩ := h
    show WSs _ [] _ [.d (fI n p), .d (.list [.int 0]), .no, .no, .no, .no, .no] _
    have nd : NSt.Nodup := scSt.nd
    have h2 := hs.1.1
    walk_at "go"
    refine ws_forL (js := [3]) PassesOwn.never rfl ?_
    walk_at "go"
    refine asD_d ⟨[.int 0], fun _ R' => ∃ s3 s4, R' = [.d (fI n p), .d (.list [.int 0]), .own (.lst []), s3, s4, .no, .no], rfl, ⟨_, _, rfl⟩, fun i x R' hx h => ?_, fun R' h => ?_⟩
    · obtain ⟨s3, s4, rfl⟩ := h
      obtain ⟨rfl, rfl⟩ := one_at hx
      walk_at "gi"
      refine nrmS [.d (fI n p), .d (.list [.int 0]), .own (.lst []), .d (.int 0), s4, .no, .no] rfl ?_
      refine wss_cons ?_
      refine ws_setLc0 (i := 4) [("name", 5), ("_", 6)] [5, 6] rfl nd rfl rfl (sw_true rfl rfl rfl (by decide +kernel)) (blkOk_by (N := NSt) (sc := defScope (topS 42)) (by decide +kernel)) (by decide) (by decide) (by decide) (.list ?_)
      walk_at "go"
      refine ⟨n, p, 0, rfl, ⟨hs, by omega⟩, ⟨rfl, asD_o ⟨[], rfl, lc_nil ?_⟩⟩⟩
      refine nrmB (Z := fun R => put 4 R _ _) [.d (fI n p), .d (.list [.int 0]), .own (.lst []), .d (.int 0), s4, .no, .no] rfl ?_
      refine isWSs ?_
      refine nrmS [.d (fI n p), .d (.list [.int 0]), .own (.lst []), .d (.int 0), .own (.lst []), .no, .no] rfl ?_
      walk_at "go"
      exact ⟨fun z => absurd z (by decide), fun _ => wss_nil ⟨_, _, rfl⟩⟩
    · obtain ⟨s3, s4, rfl⟩ := h
      walk_at "go"
      exact q
end
section
variable {Pg : Program} {w : World} {K : PySem.W.Frag} {mg : Str → Option Value} {base : Heap}
local macro_rules | `(tactic| walk_at "we") => `(tactic| first
  | refine we_dgetI (by assumption) ?_)
theorem ok_ri {f : Addr} {fd : FuncData} (F : Fun K "_folders_within_themselves" "_folders_within_themselves" (topS 43) f fd) (hm : mg "_folders_within_themselves" = some (.ref f)) (hb : Binds K fd ["image", "nodes"] []) (cKi : Can Pg w K mg base 3 "_all_kids" sKi) (cRe : Can Pg w K mg base 1 "reached" sRe) : Can Pg w K mg base 4 "_folders_within_themselves" sE := by
  refine can_def F scRi hm hb (fun A Z Z' k ⟨a, b, h1, h2, h3⟩ => ⟨a, b, h1, h2, k _ _ h3⟩) (by decide) (fun R Q h => ?_) (fun cdv A outer s H E hgd hr R Q h => ?_)
  · obtain ⟨a, b, rfl, _⟩ := h
    rfl
  · obtain ⟨n, p, rfl, hs, q⟩ := h
    show WSs _ [] _ [.d (fI n p), .d (.list [.int 0]), .no, .no] _
    have nd : NRi.Nodup := scRi.nd
    have h2 := hs.1.1
    have hu : (A.deeper (envOfC "_folders_within_themselves" (defScope (topS 43)) s.heap.objs.size f cdv)).units + 1 < cLine := hu_of hr
    walk_at "go"
    refine ⟨n, p, rfl, hs, ⟨rfl, ?_⟩⟩
    refine nrmB (Z := fun R => put 2 R _ _) [.d (fI n p), .d (.list [.int 0]), .no, .no] rfl ?_
    refine isWSs ?_
    refine nrmS [.d (fI n p), .d (.list [.int 0]), .own (.dK (kids0 n)), .no] rfl ?_
    refine wss_one (ws_ret ?_)
    refine we_lc1 [("node", 3)] [3] rfl nd (blkOk_by (N := NRi) (sc := defScope (topS 43)) (by decide +kernel)) (by decide) (by decide) (.list ?_)
    walk_at "go"
    refine lc_one0 [.d (fI n p), .d (.list [.int 0]), .own (.dK (kids0 n)), .no] rfl ?_ q
    intro s H C cl fp
    walk_at "gi"
    intro s H C cl fp
    refine wt_in rfl ?_
    walk_at "go"
    refine asI_i ⟨kids0 n, .list [], rfl, kids_at (i := 0) (by omega), ?_⟩
    walk_at "go"
    refine ⟨n, [], rfl, ⟨by omega, .inl rfl⟩, rfl, ⟨_, rfl⟩, gIn_l 0 [] rfl rfl ?_⟩
    exact ⟨fun z => absurd z (by decide), fun _ => ⟨rfl, rfl⟩⟩
end
section
variable {Pg : Program} {w : World} {K : PySem.W.Frag} {mg : Str → Option Value} {base : Heap}
theorem ok_bi {f : Addr} {fd : FuncData} (F : Fun K "_bits_of_none" "_bits_of_none" (topS 44) f fd) (hm : mg "_bits_of_none" = some (.ref f)) (hb : Binds K fd ["image", "nodes"] []) (me : mg "enumerate" = none) (cPt : Can Pg w K mg base 1 "_pointed_to" sE) : Can Pg w K mg base 2 "_bits_of_none" sE := by
  refine can_def F scBi hm hb (fun A Z Z' k ⟨a, b, h1, h2, h3⟩ => ⟨a, b, h1, h2, k _ _ h3⟩) (by decide) (fun R Q h => ?_) (fun cdv A outer s H E hgd hr R Q h => ?_)
  · obtain ⟨a, b, rfl, _⟩ := h
    rfl
  · obtain ⟨n, p, rfl, hs, q⟩ := h
    show WSs _ [] _ [.d (fI n p), .d (.list [.int 0]), .no, .no, .no, .no] _
    have nd : NBi.Nodup := scBi.nd
    refine wss_cons ?_
    walk_at "si"
    refine we_lc0 [("_", 3), ("page", 4)] [3, 4] rfl nd (blkOk_by (N := NBi) (sc := defScope (topS 44)) (by decide +kernel)) (by decide) (by decide) (.list ?_)
    walk_at "go"
    refine ⟨n, p, rfl, hs, ⟨rfl, asD_o ⟨[], rfl, lc_nil ?_⟩⟩⟩
    refine nrmB (Z := fun R => put 2 R _ _) [.d (fI n p), .d (.list [.int 0]), .no, .no, .no, .no] rfl ?_
    refine isWSs ?_
    refine nrmS [.d (fI n p), .d (.list [.int 0]), .own (.lst []), .no, .no, .no] rfl ?_
    refine wss_fz 2 rfl (by decide) ?_
    refine nrmS [.d (fI n p), .d (.list [.int 0]), .d (.list []), .no, .no, .no] rfl ?_
    refine wss_one (ws_ret ?_)
    refine we_lcE (some _) [("page", 4), ("bit", 5)] [4, 5] rfl nd me rfl (blkOk_by (N := NBi) (sc := defScope (topS 44)) (by decide +kernel)) (by decide) (by decide) ?_
    walk_at "go"
    refine ⟨fun _ acc R => acc = [] ∧ R = [.d (fI n p), .d (.list [.int 0]), .d (.list []), .no, .no, .no], ⟨rfl, rfl⟩, fun i x hx acc R' h => ?_, fun acc R' h => ?_⟩
    · obtain ⟨rfl, rfl⟩ := h
      have ex : x = .bool false := by
        have := List.mem_of_getElem? hx
        exact (List.mem_replicate.mp this).2
      subst ex
      intro s H C cl fp
      walk_at "go"
      intro s H C cl fp
      walk_at "go"
      refine asB_b ⟨fun z => Bool.noConfusion z, fun _ => ?_⟩
      exact ⟨fun z => Bool.noConfusion z, fun _ => ⟨rfl, rfl⟩⟩
    · obtain ⟨rfl, rfl⟩ := h
      exact q
theorem ok_no2 {f : Addr} {fd : FuncData} (F : Fun K "_nodes_of_none" "_nodes_of_none" (topS 45) f fd) (hm : mg "_nodes_of_none" = some (.ref f)) (hb : Binds K fd ["image", "nodes"] []) (me : mg "enumerate" = none) : Can Pg w K mg base 1 "_nodes_of_none" sE := by
  refine can_def F scNo2 hm hb (fun A Z Z' k ⟨a, b, h1, h2, h3⟩ => ⟨a, b, h1, h2, k _ _ h3⟩) (by decide) (fun R Q h => ?_) (fun cdv A outer s H E hgd hr R Q h => ?_)
  · obtain ⟨a, b, rfl, _⟩ := h
    rfl
  · obtain ⟨n, p, rfl, hs, q⟩ := h
    show WSs _ [] _ [.d (fI n p), .d (.list [.int 0]), .no, .no] _
    have nd : NNo2.Nodup := scNo2.nd
    have hl := nodesI_len hs
    refine wss_one (ws_ret ?_)
    refine we_lcE (some _) [("node", 2), ("worth", 3)] [2, 3] rfl nd me rfl (blkOk_by (N := NNo2) (sc := defScope (topS 45)) (by decide +kernel)) (by decide) (by decide) ?_
    walk_at "go"
    refine ⟨fun _ acc R => acc = [] ∧ R = [.d (fI n p), .d (.list [.int 0]), .no, .no], ⟨rfl, rfl⟩, fun i x hx acc R' h => ?_, fun acc R' h => ?_⟩
    · obtain ⟨rfl, rfl⟩ := h
      have hi := (List.getElem?_eq_some_iff.mp hx).1
      rw [nodesI_at hi] at hx
      have ex := Option.some.inj hx
      subst ex
      intro s H C cl fp
      walk_at "go"
      intro s H C cl fp
      walk_at "go"
      refine ⟨fun z => ?_, fun _ => ⟨fun z => Bool.noConfusion z, fun _ => ⟨rfl, rfl⟩⟩⟩
      have h0 : i = 0 := by
        by_cases h0 : i = 0
        · exact h0
        · rw [if_neg h0] at z
          cases z
      subst h0
      refine isWW ?_
      refine ww_and1 ?_
      refine wt_notIn rfl ?_
      walk_at "go"
      refine gIn_l 0 [0] rfl rfl ?_
      exact ⟨fun z => absurd z (by decide), fun _ => ⟨rfl, rfl⟩⟩
    · obtain ⟨rfl, rfl⟩ := h
      exact q
theorem isStb {ds : List D} {k : SV → Prop} (h : k (.d (.list ds))) : stb (.own (.lst ds)) k := h
def sLk : SpD := fun R Q => ∃ (n p : Nat), R = [.d (fI n p)] ∧ Sz n p ∧ Q (.own (.lst [])) R
theorem ok_br {f : Addr} {fd : FuncData} (F : Fun K "breaks" "breaks" (topS 31) f fd) (hm : mg "breaks" = some (.ref f)) (hb : Binds K fd ["image"] []) (mst : mg "set" = none) (mso : mg "sorted" = none) (cCo : Can Pg w K mg base 4 "come_to" sCo) (cNn : Can Pg w K mg base 2 "_nodes_that_are_none" sE) (cPn : Can Pg w K mg base 2 "_pages_that_are_none" sE) (cTw : Can Pg w K mg base 2 "_pages_of_two" sE) (cFw : Can Pg w K mg base 4 "_links_too_few" sE) (cSt : Can Pg w K mg base 3 "_names_that_stand_twice" sE) (cRi : Can Pg w K mg base 4 "_folders_within_themselves" sE) : Can Pg w K mg base 5 "breaks" sLk := by
  refine can_def F scBr hm hb (fun A Z Z' k ⟨a, b, h1, h2, h3⟩ => ⟨a, b, h1, h2, k _ _ h3⟩) (by decide) (fun R Q h => ?_) (fun cdv A outer s H E hgd hr R Q h => ?_)
  · obtain ⟨a, b, rfl, _⟩ := h
    rfl
  · obtain ⟨n, p, rfl, hs, q⟩ := h
    show WSs _ [] _ [.d (fI n p), .no, .no] _
    have nd : NBr.Nodup := scBr.nd
    walk_at "go"
    refine ⟨n, p, rfl, hs, ⟨rfl, ?_⟩⟩
    refine nrmB (Z := fun R => put 1 R _ _) [.d (fI n p), .no, .no] rfl ?_
    refine isWSs ?_
    refine nrmS [.d (fI n p), .own (.lst [.int 0]), .no] rfl ?_
    refine wss_fz 1 rfl (by decide) ?_
    refine nrmS [.d (fI n p), .d (.list [.int 0]), .no] rfl ?_
    refine wss_cons ?_
    walk_at "si"
    refine we_catS ?_
    refine we_catS ?_
    refine we_catS ?_
    refine we_catS ?_
    refine we_catS ?_
    walk_at "go"
    refine ⟨n, p, rfl, hs, ⟨rfl, ?_⟩⟩
    refine isStb ?_
    refine nrmE [.d (fI n p), .d (.list [.int 0]), .no] rfl ?_
    walk_at "go"
    refine ⟨n, p, rfl, hs, ⟨rfl, ⟨_, rfl⟩, [], [], rfl, rfl, Nat.zero_le _, ?_⟩⟩
    refine isStb ?_
    refine nrmE [.d (fI n p), .d (.list [.int 0]), .no] rfl ?_
    walk_at "go"
    refine ⟨n, p, rfl, hs, ⟨rfl, ⟨_, rfl⟩, [], [], rfl, rfl, Nat.zero_le _, ?_⟩⟩
    refine isStb ?_
    refine nrmE [.d (fI n p), .d (.list [.int 0]), .no] rfl ?_
    walk_at "go"
    refine ⟨n, p, rfl, hs, ⟨rfl, ⟨_, rfl⟩, [], [], rfl, rfl, Nat.zero_le _, ?_⟩⟩
    refine isStb ?_
    refine nrmE [.d (fI n p), .d (.list [.int 0]), .no] rfl ?_
    walk_at "go"
    refine ⟨n, p, rfl, hs, ⟨rfl, ⟨_, rfl⟩, [], [], rfl, rfl, Nat.zero_le _, ?_⟩⟩
    refine isStb ?_
    refine nrmE [.d (fI n p), .d (.list [.int 0]), .no] rfl ?_
    walk_at "go"
    refine ⟨n, p, rfl, hs, ⟨rfl, ⟨_, rfl⟩, [], [], rfl, rfl, Nat.zero_le _, ?_⟩⟩
    refine nrmB (Z := fun R => put 2 R _ _) [.d (fI n p), .d (.list [.int 0]), .no] rfl ?_
    refine isWSs ?_
    refine nrmS [.d (fI n p), .d (.list [.int 0]), .own (.lst [])] rfl ?_
    refine wss_one (ws_ret ?_)
    refine we_sortedSetI rfl mso rfl mst rfl ?_
    walk_at "go"
    refine ⟨[], rfl, by decide, fun out _ ho => ?_⟩
    have e : out = [] := List.eq_nil_iff_forall_not_mem.mpr fun k hk => by cases (ho k).mp hk
    subst e
    exact q
theorem ok_le {f : Addr} {fd : FuncData} (F : Fun K "leaks" "leaks" (topS 32) f fd) (hm : mg "leaks" = some (.ref f)) (hb : Binds K fd ["image"] []) (mso : mg "sorted" = none) (cBr : Can Pg w K mg base 5 "breaks" sLk) (cCo : Can Pg w K mg base 4 "come_to" sCo) (cBi : Can Pg w K mg base 2 "_bits_of_none" sE) (cNo : Can Pg w K mg base 1 "_nodes_of_none" sE) (cMy : Can Pg w K mg base 4 "_links_too_many" sE) : Can Pg w K mg base 6 "leaks" sLk := by
  refine can_def F scLe hm hb (fun A Z Z' k ⟨a, b, h1, h2, h3⟩ => ⟨a, b, h1, h2, k _ _ h3⟩) (by decide) (fun R Q h => ?_) (fun cdv A outer s H E hgd hr R Q h => ?_)
  · obtain ⟨a, b, rfl, _⟩ := h
    rfl
  · obtain ⟨n, p, rfl, hs, q⟩ := h
    show WSs _ [] _ [.d (fI n p), .no] _
    have nd : NLe.Nodup := scLe.nd
    refine wss_cons (ws_if ?_)
    refine wt_lst ?_
    walk_at "go"
    refine ⟨n, p, rfl, hs, ⟨rfl, [], rfl, ⟨fun z => Bool.noConfusion z, fun _ => ?_⟩⟩⟩
    refine wss_nil ?_
    refine nrmS [.d (fI n p), .no] rfl ?_
    walk_at "go"
    refine ⟨n, p, rfl, hs, ⟨rfl, ?_⟩⟩
    refine nrmB (Z := fun R => put 1 R _ _) [.d (fI n p), .no] rfl ?_
    refine isWSs ?_
    refine nrmS [.d (fI n p), .own (.lst [.int 0])] rfl ?_
    refine wss_fz 1 rfl (by decide) ?_
    refine nrmS [.d (fI n p), .d (.list [.int 0])] rfl ?_
    refine wss_one (ws_ret ?_)
    refine we_sortedI mso rfl ?_
    refine we_catS ?_
    refine we_catS ?_
    walk_at "go"
    refine ⟨n, p, rfl, hs, ⟨rfl, ?_⟩⟩
    refine isStb ?_
    refine nrmE [.d (fI n p), .d (.list [.int 0])] rfl ?_
    walk_at "go"
    refine ⟨n, p, rfl, hs, ⟨rfl, ⟨_, rfl⟩, [], [], rfl, rfl, Nat.zero_le _, ?_⟩⟩
    refine isStb ?_
    refine nrmE [.d (fI n p), .d (.list [.int 0])] rfl ?_
    walk_at "go"
    refine ⟨n, p, rfl, hs, ⟨rfl, ⟨_, rfl⟩, [], [], rfl, rfl, Nat.zero_le _, ?_⟩⟩
    refine ⟨[], rfl, fun ns' hp _ => ?_⟩
    have e := List.perm_nil.mp hp
    subst e
    exact q
end
end K02
namespace K02
open PySem PySem.Spec PyProof.Rows L2 Dl
local macro_rules | `(tactic| walk_at "v") => `(tactic| first
  | refine we_d (i := 0) rfl (vis3 rfl) rfl ?_ | refine we_o (i := 0) rfl (vis3 rfl) rfl ?_
  | refine we_d (i := 1) rfl (vis3 rfl) rfl ?_ | refine we_o (i := 1) rfl (vis3 rfl) rfl ?_
  | refine we_d (i := 2) rfl (vis3 rfl) rfl ?_ | refine we_o (i := 2) rfl (vis3 rfl) rfl ?_
  | refine we_d (i := 3) rfl (vis3 rfl) rfl ?_ | refine we_o (i := 3) rfl (vis3 rfl) rfl ?_
  | refine we_d (i := 4) rfl (vis3 rfl) rfl ?_ | refine we_o (i := 4) rfl (vis3 rfl) rfl ?_
  | refine we_d (i := 5) rfl (vis3 rfl) rfl ?_ | refine we_o (i := 5) rfl (vis3 rfl) rfl ?_
  | refine we_d (i := 6) rfl (vis3 rfl) rfl ?_ | refine we_o (i := 6) rfl (vis3 rfl) rfl ?_
  | refine we_d (i := 7) rfl (vis3 rfl) rfl ?_ | refine we_o (i := 7) rfl (vis3 rfl) rfl ?_
  | refine we_d (i := 8) rfl (vis3 rfl) rfl ?_ | refine we_o (i := 8) rfl (vis3 rfl) rfl ?_
  | refine we_d (i := 9) rfl (vis3 rfl) rfl ?_ | refine we_o (i := 9) rfl (vis3 rfl) rfl ?_
  | refine we_d (i := 10) rfl (vis3 rfl) rfl ?_ | refine we_o (i := 10) rfl (vis3 rfl) rfl ?_
  | refine we_d (i := 11) rfl (vis3 rfl) rfl ?_ | refine we_o (i := 11) rfl (vis3 rfl) rfl ?_
  | refine we_d (i := 12) rfl (vis3 rfl) rfl ?_ | refine we_o (i := 12) rfl (vis3 rfl) rfl ?_
  | refine we_d (i := 13) rfl (vis3 rfl) rfl ?_ | refine we_o (i := 13) rfl (vis3 rfl) rfl ?_
  | refine we_d (i := 14) rfl (vis3 rfl) rfl ?_ | refine we_o (i := 14) rfl (vis3 rfl) rfl ?_
  | refine we_d (i := 15) rfl (vis3 rfl) rfl ?_ | refine we_o (i := 15) rfl (vis3 rfl) rfl ?_
  | refine we_d (i := 16) rfl (vis3 rfl) rfl ?_ | refine we_o (i := 16) rfl (vis3 rfl) rfl ?_
  | refine we_d (i := 17) rfl (vis3 rfl) rfl ?_ | refine we_o (i := 17) rfl (vis3 rfl) rfl ?_
  | refine we_d (i := 18) rfl (vis3 rfl) rfl ?_ | refine we_o (i := 18) rfl (vis3 rfl) rfl ?_
  | refine we_d (i := 19) rfl (vis3 rfl) rfl ?_ | refine we_o (i := 19) rfl (vis3 rfl) rfl ?_
  | refine we_d (i := 20) rfl (vis3 rfl) rfl ?_ | refine we_o (i := 20) rfl (vis3 rfl) rfl ?_)
local macro_rules | `(tactic| walk_at "si") => `(tactic| first
  | refine ws_set (i := 0) (by assumption) rfl (loc2 rfl) (by decide) ?_
  | refine ws_set (i := 1) (by assumption) rfl (loc2 rfl) (by decide) ?_
  | refine ws_set (i := 2) (by assumption) rfl (loc2 rfl) (by decide) ?_
  | refine ws_set (i := 3) (by assumption) rfl (loc2 rfl) (by decide) ?_
  | refine ws_set (i := 4) (by assumption) rfl (loc2 rfl) (by decide) ?_
  | refine ws_set (i := 5) (by assumption) rfl (loc2 rfl) (by decide) ?_
  | refine ws_set (i := 6) (by assumption) rfl (loc2 rfl) (by decide) ?_
  | refine ws_set (i := 7) (by assumption) rfl (loc2 rfl) (by decide) ?_
  | refine ws_set (i := 8) (by assumption) rfl (loc2 rfl) (by decide) ?_
  | refine ws_set (i := 9) (by assumption) rfl (loc2 rfl) (by decide) ?_
  | refine ws_set (i := 10) (by assumption) rfl (loc2 rfl) (by decide) ?_
  | refine ws_set (i := 11) (by assumption) rfl (loc2 rfl) (by decide) ?_
  | refine ws_set (i := 12) (by assumption) rfl (loc2 rfl) (by decide) ?_
  | refine ws_set (i := 13) (by assumption) rfl (loc2 rfl) (by decide) ?_
  | refine ws_set (i := 14) (by assumption) rfl (loc2 rfl) (by decide) ?_
  | refine ws_set (i := 15) (by assumption) rfl (loc2 rfl) (by decide) ?_
  | refine ws_set (i := 16) (by assumption) rfl (loc2 rfl) (by decide) ?_
  | refine ws_set (i := 17) (by assumption) rfl (loc2 rfl) (by decide) ?_
  | refine ws_set (i := 18) (by assumption) rfl (loc2 rfl) (by decide) ?_
  | refine ws_set (i := 19) (by assumption) rfl (loc2 rfl) (by decide) ?_
  | refine ws_set (i := 20) (by assumption) rfl (loc2 rfl) (by decide) ?_)
local macro_rules | `(tactic| walk_at "gi") => `(tactic| first
  | refine wg_name (i := 0) (by assumption) rfl (loc2 rfl) (by decide) ?_
  | refine wg_name (i := 1) (by assumption) rfl (loc2 rfl) (by decide) ?_
  | refine wg_name (i := 2) (by assumption) rfl (loc2 rfl) (by decide) ?_
  | refine wg_name (i := 3) (by assumption) rfl (loc2 rfl) (by decide) ?_
  | refine wg_name (i := 4) (by assumption) rfl (loc2 rfl) (by decide) ?_
  | refine wg_name (i := 5) (by assumption) rfl (loc2 rfl) (by decide) ?_
  | refine wg_name (i := 6) (by assumption) rfl (loc2 rfl) (by decide) ?_
  | refine wg_name (i := 7) (by assumption) rfl (loc2 rfl) (by decide) ?_
  | refine wg_name (i := 8) (by assumption) rfl (loc2 rfl) (by decide) ?_
  | refine wg_name (i := 9) (by assumption) rfl (loc2 rfl) (by decide) ?_
  | refine wg_name (i := 10) (by assumption) rfl (loc2 rfl) (by decide) ?_
  | refine wg_name (i := 11) (by assumption) rfl (loc2 rfl) (by decide) ?_
  | refine wg_name (i := 12) (by assumption) rfl (loc2 rfl) (by decide) ?_
  | refine wg_name (i := 13) (by assumption) rfl (loc2 rfl) (by decide) ?_
  | refine wg_name (i := 14) (by assumption) rfl (loc2 rfl) (by decide) ?_
  | refine wg_name (i := 15) (by assumption) rfl (loc2 rfl) (by decide) ?_
  | refine wg_name (i := 16) (by assumption) rfl (loc2 rfl) (by decide) ?_
  | refine wg_name (i := 17) (by assumption) rfl (loc2 rfl) (by decide) ?_
  | refine wg_name (i := 18) (by assumption) rfl (loc2 rfl) (by decide) ?_
  | refine wg_name (i := 19) (by assumption) rfl (loc2 rfl) (by decide) ?_
  | refine wg_name (i := 20) (by assumption) rfl (loc2 rfl) (by decide) ?_)
local macro_rules | `(tactic| walk_at "side") => `(tactic| first | exact rfl | exact Nat.le_trans (m := 1000) (Nat.le_of_ble_eq_true rfl) sz1000 | omega | decide | assumption)
local macro_rules | `(tactic| walk_at "we") => `(tactic| first
  | (refine isName ?_; walk_at "v")
  | refine we_int ?_ | refine we_bl ?_ | refine we_non ?_ | refine we_str ?_
  | refine we_ix ?_
  | refine we_addG ?_ | refine we_sub ?_ | refine we_mulG ?_ | refine we_div ?_ | refine we_mod ?_ | refine we_pow ?_ | refine we_neg ?_
  | refine we_gt ?_ | refine we_lt ?_ | refine we_ge ?_ | refine we_le ?_
  | refine we_tup ?_ | refine we_lst ?_ | refine we_dict0 ?_
  | refine we_len (by assumption) rfl ?_ | refine we_slG ?_ | refine we_eqG (by assumption) ?_ | refine we_neG (by assumption) ?_ | refine we_not ?_ | refine we_one ?_ | refine we_and ?_ | refine we_or ?_
  | refine we_call2 (by assumption) (by assumption) (by assumption) (by decide) rfl ?_)
local macro_rules | `(tactic| walk_at "wt") => `(tactic| first
  | refine wt_gt ?_ | refine wt_lt ?_ | refine wt_ge ?_ | refine wt_le ?_ | refine wt_not ?_
  | refine wt_eqG (by assumption) ?_ | refine wt_neG (by assumption) ?_ | refine wt_bool ?_ | refine wt_val ?_)
local macro_rules | `(tactic| walk_at "ws") => `(tactic| first
  | refine ws_ret ?_ | (refine isSet ?_; walk_at "si") | refine ws_if ?_
  | refine ws_append (pe_bm PySem.F.plainAttrs_list PySem.F.slot_list_append PySem.F.type_list_append mt_append pe_m (pa_cons pe_m pa_nil)) ?_
  | refine ws_continue ?_ | refine ws_break ?_ | refine ws_pass ?_)
local macro_rules | `(tactic| walk_at "l") => `(tactic| first
  | refine And.intro (Exists.intro _ rfl) ?_
  | refine And.intro trivial ?_
  | refine Exists.intro _ (And.intro rfl ?_)
  | refine Exists.intro _ (Exists.intro _ (And.intro rfl (And.intro rfl ?_)))
  | refine And.intro (And.intro (by walk_at "side") (by walk_at "side") : CDiv _ _) ?_
  | refine And.intro (.inl (And.intro (by walk_at "side") (by walk_at "side")) : CMul _ _) ?_
  | refine And.intro (.inr (And.intro (by walk_at "side") (by walk_at "side")) : CMul _ _) ?_
  | refine And.intro (And.intro (List.cons_ne_nil _ _) (And.intro (by walk_at "side") (And.intro (by walk_at "side") (by walk_at "side")))) ?_
  | refine And.intro (by walk_at "side") ?_)
local macro_rules | `(tactic| walk_at "step") => `(tactic| first
  | (refine isWE ?_; walk_at "we")
  | (refine isWT ?_; walk_at "wt")
  | (refine isWSs ?_; first | refine wss_nil ?_ | refine wss_one ?_ | refine wss_cons ?_)
  | (refine isWS ?_; walk_at "ws")
  | (refine isWDs ?_; first | refine wds_nil ?_ | refine wds_cons ?_)
  | (refine isWW ?_; first | refine ww_and1 ?_ | refine ww_or1 ?_ | refine ww_and ?_ | refine ww_or ?_)
  | refine allB_i fun _ _ _ _ _ => ?_
  | refine asI_i (allB_i fun _ _ _ _ _ => ?_)
  | (refine isWG ?_; first | walk_at "gi" | refine wg_tup rfl ?_ rfl)
  | (refine isWGs ?_; first | refine wgs_nil ?_ | refine wgs_consN ?_)
  | (refine isWO ?_; first | refine wo_none ?_ | refine wo_some ?_)
  | (refine isWA ?_; first | refine wa_nil ?_ | refine wa_cons ?_)
  | walk_at "l")
local macro_rules | `(tactic| walk_at "go") => `(tactic| repeat (walk_at "step"))
def inner (i : Nat) : Stmt := match topS i with
  | .ClassDef _ _ _ b _ _ _ _ _ _ _ => b.getD 0 (.Pass ⟨0, 0, 0, 0⟩)
  | s => s
theorem iniSize : IniTxt "number" (inner 1) where
  body := ⟨_, _, _, _, rfl⟩
  kind := rfl
  co := rfl
  gen := rfl
  binds := fun _ _ _ _ _ _ _ _ _ => .of_eq rfl
  names := by decide +kernel
  kS := fun _ _ _ _ => rfl
  kF := fun _ _ _ _ => rfl
  nS := fun _ _ _ _ _ _ => rfl
  nF := fun _ _ _ _ _ _ => rfl
  nd := by decide
abbrev NFi : List Str := ["nodes", "pages", "never_filled", "all_nodes"]
theorem scFi : FnScope NFi ["nodes", "pages"] (defScope (topS 20)) := ⟨rfl, rfl, rfl, by decide +kernel, rfl, by decide +kernel, by decide +kernel⟩
theorem inR_of {l m : Int} {d : D} (h : inR l m d = true) : ∃ i : Int, d = .int i ∧ l ≤ i ∧ i ≤ m := by
  cases d <;> first | (cases h; done) | skip
  rename_i i
  have h' : (decide (l ≤ i) && decide (i ≤ m)) = true := h
  rw [Bool.and_eq_true, decide_eq_true_eq, decide_eq_true_eq] at h'
  exact ⟨i, rfl, h'.1, h'.2⟩
theorem asT_t {es : List D} {k : List D → Prop} (h : k es) : asT (.d (.tuple es)) k := h
theorem rep1 {k : Nat} {x : D} : (List.replicate k [x]).flatten = List.replicate k x := by
  induction k with
  | zero => rfl
  | succ k ih =>
    rw [List.replicate_succ, List.replicate_succ, List.flatten_cons, ih]
    rfl
local macro_rules | `(tactic| walk_at "we") => `(tactic| first
  | refine we_glob (by assumption) rfl (by assumption) ?_)
section
variable {Pg : Program} {w : World} {K : PySem.W.Frag} {mg : Str → Option Value} {base : Heap} {C : Addr} {u1 u2 u3 u4 u5 : Value}
def sFi (C : Addr) : SpX := fun R Q q => ∃ a b, R = [.d a, .d b] ∧ (fit a = true ∧ fit b = true) ∧ (∀ n p : Nat, a = .int n → b = .int p → Sz n p → Q (.d (fI n p)) R) ∧ (inR 2 16 a = false → q C [("number", a)] R) ∧ (inR 2 16 a = true → inR 1 16 b = false → q C [("number", b)] R)
theorem ok_fi {f : Addr} {fd : FuncData} (F : Fun K "first_image" "first_image" (topS 20) f fd) (hm : mg "first_image" = some (.ref f)) (hb : Binds K fd ["nodes", "pages"] []) (T : ErrO K mg "NoSize" "number" (inner 1) C) (m1 : mg "LEAST_NODES" = some u1) (r1 : L2.RelV (.int 2) u1) (m2 : mg "MOST_NODES" = some u2) (r2 : L2.RelV (.int 16) u2) (m3 : mg "LEAST_PAGES" = some u3) (r3 : L2.RelV (.int 1) u3) (m4 : mg "MOST_PAGES" = some u4) (r4 : L2.RelV (.int 16) u4) (m5 : mg "SLOTS_OF_DATA" = some u5) (r5 : L2.RelV (.int 5) u5)
    (cWithin : Can Pg w K mg base 2 "is_within" (look3 inR)) : CanX Pg w K mg base 3 "first_image" (sFi C) := by
  refine can_defX F scFi hm hb (fun A Z Z' Y Y' k l ⟨a, b, h1, h2, h3, h4, h5⟩ => ⟨a, b, h1, h2, fun n p e1 e2 s => k _ _ (h3 n p e1 e2 s), fun e => l _ _ _ (h4 e), fun e e' => l _ _ _ (h5 e e')⟩) (by decide) (fun R Q q h => ?_) (fun cdv A outer s H E hgd hr R Q q h => ?_)
  · obtain ⟨a, b, rfl, _⟩ := h
    rfl
  · obtain ⟨a, b, rfl, ⟨fa, fb⟩, h1, h2, h3⟩ := h
    show WSsx _ [] _ [.d a, .d b, .no, .no] _ _
    have nd : NFi.Nodup := scFi.nd
    refine wxs_cons (wx_if ?_)
    walk_at "go"
    refine ⟨a, _, _, rfl, fa, ⟨rfl, ?_⟩⟩
    walk_at "go"
    refine ⟨fun e => ?_, fun e => ?_⟩
    · have e' : inR 2 16 a = false := by simpa using e
      refine wxs_one (wx_raiseO T iniSize rfl hr (by decide) rfl ?_)
      walk_at "go"
      exact h2 e'
    have ea : inR 2 16 a = true := by simpa using e
    refine wxs_nil ?_
    refine wxs_cons (wx_if ?_)
    walk_at "go"
    refine ⟨b, _, _, rfl, fb, ⟨rfl, ?_⟩⟩
    walk_at "go"
    refine ⟨fun e => ?_, fun e => ?_⟩
    · have e' : inR 1 16 b = false := by simpa using e
      refine wxs_one (wx_raiseO T iniSize rfl hr (by decide) rfl ?_)
      walk_at "go"
      exact h3 ea e'
    have eb : inR 1 16 b = true := by simpa using e
    refine wxs_nil ?_
    obtain ⟨n', rfl, n1, n2⟩ := inR_of ea
    obtain ⟨p', rfl, p1, p2⟩ := inR_of eb
    obtain ⟨n, rfl⟩ : ∃ n : Nat, n' = n := ⟨n'.toNat, by omega⟩
    obtain ⟨p, rfl⟩ : ∃ p : Nat, p' = p := ⟨p'.toNat, by omega⟩
    have q1 := h1 n p rfl rfl ⟨⟨by omega, by omega⟩, ⟨by omega, by omega⟩⟩
    clear h1 h2 h3
    refine wxs_of ?_
    refine nrmS [.d (.int n), .d (.int p), .no, .no] rfl ?_
    walk_at "go"
    rw [rep1, rep1, show ((n : Int) - 1).toNat = n - 1 by omega]
    refine asT_t (es := List.replicate (n - 1) .none) ⟨szle (by rw [List.length_replicate]; show 1 + (n - 1) ≤ 1000; omega), ?_⟩
    refine nrmB (Z := fun R => put 3 R _ _) [.d (.int n), .d (.int p), .d (.tuple (List.replicate 5 .none)), .no] rfl ?_
    refine isWSs ?_
    refine nrmS [.d (.int n), .d (.int p), .d (.tuple (List.replicate 5 .none)), .d (.tuple (nodesI n))] rfl ?_
    walk_at "go"
    rw [rep1, rep1, show ((p : Int)).toNat = p by omega]
    exact q1
end
end K02
namespace K02
open PySem PySem.Spec PyProof.Rows L2 Dl
local macro_rules | `(tactic| walk_at "v") => `(tactic| first
  | refine we_d (i := 0) rfl (vis3 rfl) rfl ?_ | refine we_o (i := 0) rfl (vis3 rfl) rfl ?_
  | refine we_d (i := 1) rfl (vis3 rfl) rfl ?_ | refine we_o (i := 1) rfl (vis3 rfl) rfl ?_
  | refine we_d (i := 2) rfl (vis3 rfl) rfl ?_ | refine we_o (i := 2) rfl (vis3 rfl) rfl ?_
  | refine we_d (i := 3) rfl (vis3 rfl) rfl ?_ | refine we_o (i := 3) rfl (vis3 rfl) rfl ?_
  | refine we_d (i := 4) rfl (vis3 rfl) rfl ?_ | refine we_o (i := 4) rfl (vis3 rfl) rfl ?_
  | refine we_d (i := 5) rfl (vis3 rfl) rfl ?_ | refine we_o (i := 5) rfl (vis3 rfl) rfl ?_
  | refine we_d (i := 6) rfl (vis3 rfl) rfl ?_ | refine we_o (i := 6) rfl (vis3 rfl) rfl ?_
  | refine we_d (i := 7) rfl (vis3 rfl) rfl ?_ | refine we_o (i := 7) rfl (vis3 rfl) rfl ?_
  | refine we_d (i := 8) rfl (vis3 rfl) rfl ?_ | refine we_o (i := 8) rfl (vis3 rfl) rfl ?_
  | refine we_d (i := 9) rfl (vis3 rfl) rfl ?_ | refine we_o (i := 9) rfl (vis3 rfl) rfl ?_
  | refine we_d (i := 10) rfl (vis3 rfl) rfl ?_ | refine we_o (i := 10) rfl (vis3 rfl) rfl ?_
  | refine we_d (i := 11) rfl (vis3 rfl) rfl ?_ | refine we_o (i := 11) rfl (vis3 rfl) rfl ?_
  | refine we_d (i := 12) rfl (vis3 rfl) rfl ?_ | refine we_o (i := 12) rfl (vis3 rfl) rfl ?_
  | refine we_d (i := 13) rfl (vis3 rfl) rfl ?_ | refine we_o (i := 13) rfl (vis3 rfl) rfl ?_
  | refine we_d (i := 14) rfl (vis3 rfl) rfl ?_ | refine we_o (i := 14) rfl (vis3 rfl) rfl ?_
  | refine we_d (i := 15) rfl (vis3 rfl) rfl ?_ | refine we_o (i := 15) rfl (vis3 rfl) rfl ?_
  | refine we_d (i := 16) rfl (vis3 rfl) rfl ?_ | refine we_o (i := 16) rfl (vis3 rfl) rfl ?_
  | refine we_d (i := 17) rfl (vis3 rfl) rfl ?_ | refine we_o (i := 17) rfl (vis3 rfl) rfl ?_
  | refine we_d (i := 18) rfl (vis3 rfl) rfl ?_ | refine we_o (i := 18) rfl (vis3 rfl) rfl ?_
  | refine we_d (i := 19) rfl (vis3 rfl) rfl ?_ | refine we_o (i := 19) rfl (vis3 rfl) rfl ?_
  | refine we_d (i := 20) rfl (vis3 rfl) rfl ?_ | refine we_o (i := 20) rfl (vis3 rfl) rfl ?_)
local macro_rules | `(tactic| walk_at "si") => `(tactic| first
  | refine ws_set (i := 0) (by assumption) rfl (loc2 rfl) (by decide) ?_
  | refine ws_set (i := 1) (by assumption) rfl (loc2 rfl) (by decide) ?_
  | refine ws_set (i := 2) (by assumption) rfl (loc2 rfl) (by decide) ?_
  | refine ws_set (i := 3) (by assumption) rfl (loc2 rfl) (by decide) ?_
  | refine ws_set (i := 4) (by assumption) rfl (loc2 rfl) (by decide) ?_
  | refine ws_set (i := 5) (by assumption) rfl (loc2 rfl) (by decide) ?_
  | refine ws_set (i := 6) (by assumption) rfl (loc2 rfl) (by decide) ?_
  | refine ws_set (i := 7) (by assumption) rfl (loc2 rfl) (by decide) ?_
  | refine ws_set (i := 8) (by assumption) rfl (loc2 rfl) (by decide) ?_
  | refine ws_set (i := 9) (by assumption) rfl (loc2 rfl) (by decide) ?_
  | refine ws_set (i := 10) (by assumption) rfl (loc2 rfl) (by decide) ?_
  | refine ws_set (i := 11) (by assumption) rfl (loc2 rfl) (by decide) ?_
  | refine ws_set (i := 12) (by assumption) rfl (loc2 rfl) (by decide) ?_
  | refine ws_set (i := 13) (by assumption) rfl (loc2 rfl) (by decide) ?_
  | refine ws_set (i := 14) (by assumption) rfl (loc2 rfl) (by decide) ?_
  | refine ws_set (i := 15) (by assumption) rfl (loc2 rfl) (by decide) ?_
  | refine ws_set (i := 16) (by assumption) rfl (loc2 rfl) (by decide) ?_
  | refine ws_set (i := 17) (by assumption) rfl (loc2 rfl) (by decide) ?_
  | refine ws_set (i := 18) (by assumption) rfl (loc2 rfl) (by decide) ?_
  | refine ws_set (i := 19) (by assumption) rfl (loc2 rfl) (by decide) ?_
  | refine ws_set (i := 20) (by assumption) rfl (loc2 rfl) (by decide) ?_)
local macro_rules | `(tactic| walk_at "gi") => `(tactic| first
  | refine wg_name (i := 0) (by assumption) rfl (loc2 rfl) (by decide) ?_
  | refine wg_name (i := 1) (by assumption) rfl (loc2 rfl) (by decide) ?_
  | refine wg_name (i := 2) (by assumption) rfl (loc2 rfl) (by decide) ?_
  | refine wg_name (i := 3) (by assumption) rfl (loc2 rfl) (by decide) ?_
  | refine wg_name (i := 4) (by assumption) rfl (loc2 rfl) (by decide) ?_
  | refine wg_name (i := 5) (by assumption) rfl (loc2 rfl) (by decide) ?_
  | refine wg_name (i := 6) (by assumption) rfl (loc2 rfl) (by decide) ?_
  | refine wg_name (i := 7) (by assumption) rfl (loc2 rfl) (by decide) ?_
  | refine wg_name (i := 8) (by assumption) rfl (loc2 rfl) (by decide) ?_
  | refine wg_name (i := 9) (by assumption) rfl (loc2 rfl) (by decide) ?_
  | refine wg_name (i := 10) (by assumption) rfl (loc2 rfl) (by decide) ?_
  | refine wg_name (i := 11) (by assumption) rfl (loc2 rfl) (by decide) ?_
  | refine wg_name (i := 12) (by assumption) rfl (loc2 rfl) (by decide) ?_
  | refine wg_name (i := 13) (by assumption) rfl (loc2 rfl) (by decide) ?_
  | refine wg_name (i := 14) (by assumption) rfl (loc2 rfl) (by decide) ?_
  | refine wg_name (i := 15) (by assumption) rfl (loc2 rfl) (by decide) ?_
  | refine wg_name (i := 16) (by assumption) rfl (loc2 rfl) (by decide) ?_
  | refine wg_name (i := 17) (by assumption) rfl (loc2 rfl) (by decide) ?_
  | refine wg_name (i := 18) (by assumption) rfl (loc2 rfl) (by decide) ?_
  | refine wg_name (i := 19) (by assumption) rfl (loc2 rfl) (by decide) ?_
  | refine wg_name (i := 20) (by assumption) rfl (loc2 rfl) (by decide) ?_)
local macro_rules | `(tactic| walk_at "side") => `(tactic| first | exact rfl | exact Nat.le_trans (m := 1000) (Nat.le_of_ble_eq_true rfl) sz1000 | omega | decide | assumption)
local macro_rules | `(tactic| walk_at "we") => `(tactic| first
  | (refine isName ?_; walk_at "v")
  | refine we_int ?_ | refine we_bl ?_ | refine we_non ?_ | refine we_str ?_
  | refine we_ix ?_
  | refine we_addG ?_ | refine we_sub ?_ | refine we_mulG ?_ | refine we_div ?_ | refine we_mod ?_ | refine we_pow ?_ | refine we_neg ?_
  | refine we_gt ?_ | refine we_lt ?_ | refine we_ge ?_ | refine we_le ?_
  | refine we_tup ?_ | refine we_lst ?_ | refine we_dict0 ?_
  | refine we_len (by assumption) rfl ?_ | refine we_slG ?_ | refine we_eqG (by assumption) ?_ | refine we_neG (by assumption) ?_ | refine we_not ?_ | refine we_one ?_ | refine we_and ?_ | refine we_or ?_
  | refine we_call2 (by assumption) (by assumption) (by assumption) (by decide) rfl ?_)
local macro_rules | `(tactic| walk_at "wt") => `(tactic| first
  | refine wt_gt ?_ | refine wt_lt ?_ | refine wt_ge ?_ | refine wt_le ?_ | refine wt_not ?_
  | refine wt_eqG (by assumption) ?_ | refine wt_neG (by assumption) ?_ | refine wt_bool ?_ | refine wt_val ?_)
local macro_rules | `(tactic| walk_at "ws") => `(tactic| first
  | refine ws_ret ?_ | (refine isSet ?_; walk_at "si") | refine ws_if ?_
  | refine ws_append (pe_bm PySem.F.plainAttrs_list PySem.F.slot_list_append PySem.F.type_list_append mt_append pe_m (pa_cons pe_m pa_nil)) ?_
  | refine ws_continue ?_ | refine ws_break ?_ | refine ws_pass ?_)
local macro_rules | `(tactic| walk_at "l") => `(tactic| first
  | refine And.intro (Exists.intro _ rfl) ?_
  | refine And.intro trivial ?_
  | refine Exists.intro _ (And.intro rfl ?_)
  | refine Exists.intro _ (Exists.intro _ (And.intro rfl (And.intro rfl ?_)))
  | refine And.intro (And.intro (by walk_at "side") (by walk_at "side") : CDiv _ _) ?_
  | refine And.intro (.inl (And.intro (by walk_at "side") (by walk_at "side")) : CMul _ _) ?_
  | refine And.intro (.inr (And.intro (by walk_at "side") (by walk_at "side")) : CMul _ _) ?_
  | refine And.intro (And.intro (List.cons_ne_nil _ _) (And.intro (by walk_at "side") (And.intro (by walk_at "side") (by walk_at "side")))) ?_
  | refine And.intro (by walk_at "side") ?_)
local macro_rules | `(tactic| walk_at "step") => `(tactic| first
  | (refine isWE ?_; walk_at "we")
  | (refine isWT ?_; walk_at "wt")
  | (refine isWSs ?_; first | refine wss_nil ?_ | refine wss_one ?_ | refine wss_cons ?_)
  | (refine isWS ?_; walk_at "ws")
  | (refine isWDs ?_; first | refine wds_nil ?_ | refine wds_cons ?_)
  | (refine isWW ?_; first | refine ww_and1 ?_ | refine ww_or1 ?_ | refine ww_and ?_ | refine ww_or ?_)
  | refine allB_i fun _ _ _ _ _ => ?_
  | refine asI_i (allB_i fun _ _ _ _ _ => ?_)
  | (refine isWG ?_; first | walk_at "gi" | refine wg_tup rfl ?_ rfl)
  | (refine isWGs ?_; first | refine wgs_nil ?_ | refine wgs_consN ?_)
  | (refine isWO ?_; first | refine wo_none ?_ | refine wo_some ?_)
  | (refine isWA ?_; first | refine wa_nil ?_ | refine wa_cons ?_)
  | walk_at "l")
local macro_rules | `(tactic| walk_at "go") => `(tactic| repeat (walk_at "step"))
/-! sizes: lengths, depth, the text's length -/
mutual
def fitN (n : Nat) : D → Bool
  | .str x => decide (x.length ≤ n)
  | .tuple xs => decide (xs.length ≤ n) && fitNA n xs
  | .list xs => decide (xs.length ≤ n) && fitNA n xs
  | _ => true
def fitNA (n : Nat) : List D → Bool
  | [] => true
  | x :: r => fitN n x && fitNA n r
end
mutual
def wt : D → Nat
  | .int _ => 1921
  | .tuple xs => wtA xs + 4
  | .list xs => wtA xs + 4
  | d => d.shown.length
def wtA : List D → Nat
  | [] => 0
  | x :: r => wt x + 2 + wtA r
end
theorem wtA_app : ∀ (xs ys : List D), wtA (xs ++ ys) = wtA xs + wtA ys
  | [], ys => (Nat.zero_add _).symm
  | x :: r, ys => by
    show wt x + 2 + wtA (r ++ ys) = wt x + 2 + wtA r + wtA ys
    rw [wtA_app r ys]
    omega
theorem wtA_one (x : D) : wtA [x] = wt x + 2 := rfl
theorem listText_le (ts : List Str) : (listText ts).length ≤ piled ts + 2 := by
  cases ts with
  | nil => exact Nat.le_refl _
  | cons t r =>
    have h := textFrom_length_pos r 1 (("[" : Str) ++ (if (0 : Nat) > 0 then ", " else "" : String) ++ t) (Nat.succ_pos 0)
    have e : ((("[" : Str) ++ (if (0 : Nat) > 0 then ", " else "" : String) ++ t)).length = 1 + t.length := by
      rw [strLen_append, strLen_append]
      rfl
    have hX : (listText (t :: r)).length = (textFrom 1 (("[" : Str) ++ (if (0 : Nat) > 0 then ", " else "" : String) ++ t) r).length + 1 := by
      show (textFrom 1 (("[" : Str) ++ (if (0 : Nat) > 0 then ", " else "" : String) ++ t) r ++ ("]" : Str)).length = _
      rw [strLen_append]
      rfl
    rw [hX, h, e, piled_cons]
    omega
theorem tupleText_le (ts : List Str) : (tupleText ts).length ≤ piled ts + 3 := by
  have h1 : (Str.join ", " ts).length ≤ piled ts := by
    cases ts with
    | nil => exact Nat.zero_le _
    | cons t r =>
      have := join_length_add (t :: r) (List.cons_ne_nil _ _)
      omega
  have h2 : (((if ts.length == 1 then ",)" else ")" : String) : Str)).length ≤ 2 := by split <;> decide
  have h3 : ((("(" : String) : Str)).length = 1 := rfl
  unfold tupleText
  rw [strLen_append, strLen_append]
  omega
mutual
theorem fitN_up {n m : Nat} (h : n ≤ m) : ∀ d : D, fitN n d = true → fitN m d = true
  | .str x, e => decide_eq_true (Nat.le_trans (of_decide_eq_true e) h)
  | .tuple xs, e => by
    have e' : (decide (xs.length ≤ n) && fitNA n xs) = true := e
    rw [Bool.and_eq_true, decide_eq_true_eq] at e'
    show (decide (xs.length ≤ m) && fitNA m xs) = true
    rw [decide_eq_true (Nat.le_trans e'.1 h), fitNA_up h xs e'.2]
    rfl
  | .list xs, e => by
    have e' : (decide (xs.length ≤ n) && fitNA n xs) = true := e
    rw [Bool.and_eq_true, decide_eq_true_eq] at e'
    show (decide (xs.length ≤ m) && fitNA m xs) = true
    rw [decide_eq_true (Nat.le_trans e'.1 h), fitNA_up h xs e'.2]
    rfl
  | .none, _ => rfl
  | .bool _, _ => rfl
  | .int _, _ => rfl
  | .dict _, _ => rfl
theorem fitNA_up {n m : Nat} (h : n ≤ m) : ∀ ds : List D, fitNA n ds = true → fitNA m ds = true
  | [], _ => rfl
  | d :: r, e => by
    have e' : (fitN n d && fitNA n r) = true := e
    rw [Bool.and_eq_true] at e'
    show (fitN m d && fitNA m r) = true
    rw [fitN_up h d e'.1, fitNA_up h r e'.2]
    rfl
end
mutual
theorem fit_of {n : Nat} (h : n ≤ 1000) : ∀ d : D, fitN n d = true → fit d = true
  | .str x, e => decide_eq_true (Nat.le_trans (of_decide_eq_true e) h)
  | .tuple xs, e => by
    have e' : (decide (xs.length ≤ n) && fitNA n xs) = true := e
    rw [Bool.and_eq_true, decide_eq_true_eq] at e'
    show (decide (xs.length ≤ 1000) && fitA xs) = true
    rw [decide_eq_true (Nat.le_trans e'.1 h), fitA_of h xs e'.2]
    rfl
  | .list xs, e => by
    have e' : (decide (xs.length ≤ n) && fitNA n xs) = true := e
    rw [Bool.and_eq_true, decide_eq_true_eq] at e'
    show (decide (xs.length ≤ 1000) && fitA xs) = true
    rw [decide_eq_true (Nat.le_trans e'.1 h), fitA_of h xs e'.2]
    rfl
  | .none, _ => rfl
  | .bool _, _ => rfl
  | .int _, _ => rfl
  | .dict _, _ => rfl
theorem fitA_of {n : Nat} (h : n ≤ 1000) : ∀ ds : List D, fitNA n ds = true → fitA ds = true
  | [], _ => rfl
  | d :: r, e => by
    have e' : (fitN n d && fitNA n r) = true := e
    rw [Bool.and_eq_true] at e'
    show (fit d && fitA r) = true
    rw [fit_of h d e'.1, fitA_of h r e'.2]
    rfl
end
mutual
theorem shown_le : ∀ d : D, d.showable = true → d.shown.length ≤ wt d
  | .none, _ => Nat.le_refl _
  | .bool _, _ => Nat.le_refl _
  | .int i, h => int_text_len_1921 (of_decide_eq_true h)
  | .str _, _ => Nat.le_refl _
  | .dict _, _ => Nat.le_refl _
  | .tuple xs, h => by
    have h1 := piled_le xs h
    have h2 := tupleText_le (PyData.shownAll xs)
    show (tupleText (PyData.shownAll xs)).length ≤ wtA xs + 4
    omega
  | .list xs, h => by
    have h1 := piled_le xs h
    have h2 := listText_le (PyData.shownAll xs)
    show (listText (PyData.shownAll xs)).length ≤ wtA xs + 4
    omega
theorem piled_le : ∀ ds : List D, PyData.showableAll ds = true → piled (PyData.shownAll ds) ≤ wtA ds
  | [], _ => Nat.zero_le _
  | d :: r, h => by
    have h' : (d.showable && PyData.showableAll r) = true := h
    rw [Bool.and_eq_true] at h'
    have h1 := shown_le d h'.1
    have h2 := piled_le r h'.2
    show piled (d.shown :: PyData.shownAll r) ≤ wt d + 2 + wtA r
    rw [piled_cons]
    omega
end
/-- small data: texts and rows no longer than n, no deeper than k -/
structure Ok (n k : Nat) (d : D) : Prop where
  f : fitN n d = true
  s : d.showable = true
  p : d.depth ≤ k
theorem Ok.up {n k m l : Nat} {d : D} (h : Ok n k d) (h1 : n ≤ m) (h2 : k ≤ l) : Ok m l d := ⟨fitN_up h1 _ h.f, h.s, Nat.le_trans h.p h2⟩
theorem okAll {n k : Nat} : ∀ {xs : List D}, (∀ x ∈ xs, Ok n k x) → fitNA n xs = true ∧ PyData.showableAll xs = true ∧ PyData.depthAll xs ≤ k
  | [], _ => ⟨rfl, rfl, Nat.zero_le _⟩
  | x :: r, h => by
    obtain ⟨h1, h2, h3⟩ := okAll (xs := r) fun y hy => h y (List.mem_cons_of_mem _ hy)
    have hx := h x List.mem_cons_self
    refine ⟨?_, ?_, ?_⟩
    · show (fitN n x && fitNA n r) = true
      rw [hx.f, h1]
      rfl
    · show (x.showable && PyData.showableAll r) = true
      rw [hx.s, h2]
      rfl
    · show max x.depth (PyData.depthAll r) ≤ k
      exact Nat.max_le.mpr ⟨hx.p, h3⟩
theorem allOk {n k : Nat} : ∀ {xs : List D}, fitNA n xs = true → PyData.showableAll xs = true → PyData.depthAll xs ≤ k → ∀ x ∈ xs, Ok n k x
  | [], _, _, _, x, hx => by cases hx
  | y :: r, h1, h2, h3, x, hx => by
    have h1' : (fitN n y && fitNA n r) = true := h1
    have h2' : (y.showable && PyData.showableAll r) = true := h2
    have h3' : max y.depth (PyData.depthAll r) ≤ k := h3
    rw [Bool.and_eq_true] at h1' h2'
    rw [Nat.max_le] at h3'
    rcases List.mem_cons.mp hx with e | hx
    · rw [e]
      exact ⟨h1'.1, h2'.1, h3'.1⟩
    · exact allOk h1'.2 h2'.2 h3'.2 x hx
theorem okT {n k : Nat} {xs : List D} (h1 : xs.length ≤ n) (h : ∀ x ∈ xs, Ok n k x) : Ok n (k + 1) (.tuple xs) := by
  obtain ⟨a, b, c⟩ := okAll h
  refine ⟨?_, b, Nat.succ_le_succ c⟩
  show (decide (xs.length ≤ n) && fitNA n xs) = true
  rw [decide_eq_true h1, a]
  rfl
theorem okL {n k : Nat} {xs : List D} (h1 : xs.length ≤ n) (h : ∀ x ∈ xs, Ok n k x) : Ok n (k + 1) (.list xs) := by
  obtain ⟨a, b, c⟩ := okAll h
  refine ⟨?_, b, Nat.succ_le_succ c⟩
  show (decide (xs.length ≤ n) && fitNA n xs) = true
  rw [decide_eq_true h1, a]
  rfl
theorem okT_of {n k : Nat} {xs : List D} (h : Ok n k (.tuple xs)) : ∃ j, k = j + 1 ∧ xs.length ≤ n ∧ ∀ x ∈ xs, Ok n j x := by
  have h1 : (decide (xs.length ≤ n) && fitNA n xs) = true := h.f
  have h2 : PyData.depthAll xs + 1 ≤ k := h.p
  rw [Bool.and_eq_true, decide_eq_true_eq] at h1
  refine ⟨k - 1, by omega, h1.1, allOk h1.2 h.s (by omega)⟩
theorem wtT (xs : List D) : wt (.tuple xs) = wtA xs + 4 := rfl
theorem wtL (xs : List D) : wt (.list xs) = wtA xs + 4 := rfl
theorem wtA_le {B : Nat} : ∀ {xs : List D}, (∀ x ∈ xs, wt x ≤ B) → wtA xs ≤ xs.length * (B + 2)
  | [], _ => Nat.zero_le _
  | x :: r, h => by
    have h1 := h x List.mem_cons_self
    have h2 := wtA_le (xs := r) fun y hy => h y (List.mem_cons_of_mem _ hy)
    show wt x + 2 + wtA r ≤ (r.length + 1) * (B + 2)
    rw [Nat.succ_mul]
    omega
section
variable {X : Cx} {P : List Nat} {R1 : DS} {elt tg : Expr} {scope : Scope} {js vs : List Nat} {Q : SV → DS → Prop}
/-- a comprehension over a range whose items are drawn -/
theorem lc_draw {n : Nat} {a b : Int} (R0 : Int → Int → DS) (Pr : D → Prop) (hR : wipeR R1 vs = R0 a b) (hp : PoolOk b) (hn : n ≤ 1000)
    (turn : ∀ (i : Nat) (a b : Int), i < n → PoolOk b → AllB X scope fun Y => WG Y P tg js (R0 a b) (.int (i : Int)) fun R2 => AllB X scope fun Y => WE Y P elt R2 fun y R4 => asD y fun z => Pr z ∧ ∃ a' b', PoolOk b' ∧ wipeR R4 vs = R0 a' b')
    (fin : ∀ (ds : List D) (a b : Int), ds.length = n → (∀ x ∈ ds, Pr x) → PoolOk b → Q (.own (.lst ds)) (R0 a b)) :
    LcG Q (Tn0 X P scope tg elt js vs) vs ((List.range n).map fun i : Nat => .int (i : Int)) R1 := by
  refine ⟨by rw [List.length_map, List.length_range]; exact szle hn, fun i acc R => (∃ a b, R = R0 a b ∧ PoolOk b) ∧ acc.length = i ∧ ∀ x ∈ acc, Pr x, ⟨⟨a, b, hR, hp⟩, rfl, fun x hx => by cases hx⟩, fun i x acc R hx h => ?_, fun acc R h => ?_⟩
  · obtain ⟨⟨a, b, rfl, hp⟩, hl, ha⟩ := h
    rw [List.getElem?_map] at hx
    cases q : (List.range n)[i]? with
    | none => rw [q] at hx; cases hx
    | some j =>
      rw [q] at hx
      cases hx
      have hj := List.getElem?_eq_some_iff.mp q
      have ej : j = i := by
        have := hj.2
        rw [List.getElem_range] at this
        exact this.symm
      subst ej
      have hlt : j < n := by have := hj.1; rwa [List.length_range] at this
      intro s H C cl fp
      have t := turn j a b hlt hp s H C cl fp
      refine ⟨fun F σ Hd H1 v w r => (t.run F σ Hd H1 v w r).mono fun σ2 H2 ⟨Hd2, R2, e2, w2, wp, q2⟩ => ⟨Hd2, R2, e2, w2, wp, fun s H C cl fp => (q2 s H C cl fp).mono fun y R4 h4 => ?_⟩⟩
      have fin2 : ∀ z : D, (Pr z ∧ ∃ a' b', PoolOk b' ∧ wipeR R4 vs = R0 a' b') → (∃ a b, wipeR R4 vs = R0 a b ∧ PoolOk b) ∧ (acc ++ [z]).length = j + 1 ∧ ∀ x ∈ acc ++ [z], Pr x := fun z ⟨g1, a', b', g2, g3⟩ => by
        refine ⟨⟨a', b', g3, g2⟩, by rw [List.length_append, hl]; rfl, fun x hx => ?_⟩
        rcases List.mem_append.mp hx with hx | hx
        · exact ha x hx
        · rw [List.mem_singleton.mp hx]
          exact g1
      unfold asD at h4 ⊢
      split at h4
      · exact fin2 _ h4
      · exact fin2 _ h4
      · exact h4
  · obtain ⟨⟨a, b, rfl, hp⟩, hl, ha⟩ := h
    rw [List.length_map, List.length_range] at hl
    exact fin acc a b hl ha hp
end
/-- small and light -/
structure Lit (n k W : Nat) (d : D) : Prop where
  o : Ok n k d
  w : wt d ≤ W
def LitB (n k W : Nat) (d : D) : Bool := fitN n d && d.showable && decide (d.depth ≤ k) && decide (wt d ≤ W)
theorem lit_of {n k W : Nat} {d : D} (h : LitB n k W d = true) : Lit n k W d := by
  unfold LitB at h
  rw [Bool.and_eq_true, Bool.and_eq_true, Bool.and_eq_true, decide_eq_true_eq, decide_eq_true_eq] at h
  exact ⟨⟨h.1.1.1, h.1.1.2, h.1.2⟩, h.2⟩
theorem ok_int {i : Int} (h : 0 ≤ i ∧ i < 2000) (n k W : Nat) (hW : 1921 ≤ W) : Lit n k W (.int i) := by
  refine ⟨⟨rfl, decide_eq_true ?_, Nat.zero_le _⟩, hW⟩
  have h2 : i.natAbs < 2 ^ 11 := by omega
  have : i.natAbs.log2 < 11 := by
    by_cases z : i.natAbs = 0
    · rw [z]
      decide
    · exact (Nat.log2_lt z).mpr h2
  omega
end K02
namespace K02
open PySem PySem.Spec PyProof.Rows L2 Dl
local macro_rules | `(tactic| walk_at "v") => `(tactic| first
  | refine we_d (i := 0) rfl (vis3 rfl) rfl ?_ | refine we_o (i := 0) rfl (vis3 rfl) rfl ?_
  | refine we_d (i := 1) rfl (vis3 rfl) rfl ?_ | refine we_o (i := 1) rfl (vis3 rfl) rfl ?_
  | refine we_d (i := 2) rfl (vis3 rfl) rfl ?_ | refine we_o (i := 2) rfl (vis3 rfl) rfl ?_
  | refine we_d (i := 3) rfl (vis3 rfl) rfl ?_ | refine we_o (i := 3) rfl (vis3 rfl) rfl ?_
  | refine we_d (i := 4) rfl (vis3 rfl) rfl ?_ | refine we_o (i := 4) rfl (vis3 rfl) rfl ?_
  | refine we_d (i := 5) rfl (vis3 rfl) rfl ?_ | refine we_o (i := 5) rfl (vis3 rfl) rfl ?_
  | refine we_d (i := 6) rfl (vis3 rfl) rfl ?_ | refine we_o (i := 6) rfl (vis3 rfl) rfl ?_
  | refine we_d (i := 7) rfl (vis3 rfl) rfl ?_ | refine we_o (i := 7) rfl (vis3 rfl) rfl ?_
  | refine we_d (i := 8) rfl (vis3 rfl) rfl ?_ | refine we_o (i := 8) rfl (vis3 rfl) rfl ?_
  | refine we_d (i := 9) rfl (vis3 rfl) rfl ?_ | refine we_o (i := 9) rfl (vis3 rfl) rfl ?_
  | refine we_d (i := 10) rfl (vis3 rfl) rfl ?_ | refine we_o (i := 10) rfl (vis3 rfl) rfl ?_
  | refine we_d (i := 11) rfl (vis3 rfl) rfl ?_ | refine we_o (i := 11) rfl (vis3 rfl) rfl ?_
  | refine we_d (i := 12) rfl (vis3 rfl) rfl ?_ | refine we_o (i := 12) rfl (vis3 rfl) rfl ?_
  | refine we_d (i := 13) rfl (vis3 rfl) rfl ?_ | refine we_o (i := 13) rfl (vis3 rfl) rfl ?_
  | refine we_d (i := 14) rfl (vis3 rfl) rfl ?_ | refine we_o (i := 14) rfl (vis3 rfl) rfl ?_
  | refine we_d (i := 15) rfl (vis3 rfl) rfl ?_ | refine we_o (i := 15) rfl (vis3 rfl) rfl ?_
  | refine we_d (i := 16) rfl (vis3 rfl) rfl ?_ | refine we_o (i := 16) rfl (vis3 rfl) rfl ?_
  | refine we_d (i := 17) rfl (vis3 rfl) rfl ?_ | refine we_o (i := 17) rfl (vis3 rfl) rfl ?_
  | refine we_d (i := 18) rfl (vis3 rfl) rfl ?_ | refine we_o (i := 18) rfl (vis3 rfl) rfl ?_
  | refine we_d (i := 19) rfl (vis3 rfl) rfl ?_ | refine we_o (i := 19) rfl (vis3 rfl) rfl ?_
  | refine we_d (i := 20) rfl (vis3 rfl) rfl ?_ | refine we_o (i := 20) rfl (vis3 rfl) rfl ?_)
local macro_rules | `(tactic| walk_at "si") => `(tactic| first
  | refine ws_set (i := 0) (by assumption) rfl (loc2 rfl) (by decide) ?_
  | refine ws_set (i := 1) (by assumption) rfl (loc2 rfl) (by decide) ?_
  | refine ws_set (i := 2) (by assumption) rfl (loc2 rfl) (by decide) ?_
  | refine ws_set (i := 3) (by assumption) rfl (loc2 rfl) (by decide) ?_
  | refine ws_set (i := 4) (by assumption) rfl (loc2 rfl) (by decide) ?_
  | refine ws_set (i := 5) (by assumption) rfl (loc2 rfl) (by decide) ?_
  | refine ws_set (i := 6) (by assumption) rfl (loc2 rfl) (by decide) ?_
  | refine ws_set (i := 7) (by assumption) rfl (loc2 rfl) (by decide) ?_
  | refine ws_set (i := 8) (by assumption) rfl (loc2 rfl) (by decide) ?_
  | refine ws_set (i := 9) (by assumption) rfl (loc2 rfl) (by decide) ?_
  | refine ws_set (i := 10) (by assumption) rfl (loc2 rfl) (by decide) ?_
  | refine ws_set (i := 11) (by assumption) rfl (loc2 rfl) (by decide) ?_
  | refine ws_set (i := 12) (by assumption) rfl (loc2 rfl) (by decide) ?_
  | refine ws_set (i := 13) (by assumption) rfl (loc2 rfl) (by decide) ?_
  | refine ws_set (i := 14) (by assumption) rfl (loc2 rfl) (by decide) ?_
  | refine ws_set (i := 15) (by assumption) rfl (loc2 rfl) (by decide) ?_
  | refine ws_set (i := 16) (by assumption) rfl (loc2 rfl) (by decide) ?_
  | refine ws_set (i := 17) (by assumption) rfl (loc2 rfl) (by decide) ?_
  | refine ws_set (i := 18) (by assumption) rfl (loc2 rfl) (by decide) ?_
  | refine ws_set (i := 19) (by assumption) rfl (loc2 rfl) (by decide) ?_
  | refine ws_set (i := 20) (by assumption) rfl (loc2 rfl) (by decide) ?_)
local macro_rules | `(tactic| walk_at "gi") => `(tactic| first
  | refine wg_name (i := 0) (by assumption) rfl (loc2 rfl) (by decide) ?_
  | refine wg_name (i := 1) (by assumption) rfl (loc2 rfl) (by decide) ?_
  | refine wg_name (i := 2) (by assumption) rfl (loc2 rfl) (by decide) ?_
  | refine wg_name (i := 3) (by assumption) rfl (loc2 rfl) (by decide) ?_
  | refine wg_name (i := 4) (by assumption) rfl (loc2 rfl) (by decide) ?_
  | refine wg_name (i := 5) (by assumption) rfl (loc2 rfl) (by decide) ?_
  | refine wg_name (i := 6) (by assumption) rfl (loc2 rfl) (by decide) ?_
  | refine wg_name (i := 7) (by assumption) rfl (loc2 rfl) (by decide) ?_
  | refine wg_name (i := 8) (by assumption) rfl (loc2 rfl) (by decide) ?_
  | refine wg_name (i := 9) (by assumption) rfl (loc2 rfl) (by decide) ?_
  | refine wg_name (i := 10) (by assumption) rfl (loc2 rfl) (by decide) ?_
  | refine wg_name (i := 11) (by assumption) rfl (loc2 rfl) (by decide) ?_
  | refine wg_name (i := 12) (by assumption) rfl (loc2 rfl) (by decide) ?_
  | refine wg_name (i := 13) (by assumption) rfl (loc2 rfl) (by decide) ?_
  | refine wg_name (i := 14) (by assumption) rfl (loc2 rfl) (by decide) ?_
  | refine wg_name (i := 15) (by assumption) rfl (loc2 rfl) (by decide) ?_
  | refine wg_name (i := 16) (by assumption) rfl (loc2 rfl) (by decide) ?_
  | refine wg_name (i := 17) (by assumption) rfl (loc2 rfl) (by decide) ?_
  | refine wg_name (i := 18) (by assumption) rfl (loc2 rfl) (by decide) ?_
  | refine wg_name (i := 19) (by assumption) rfl (loc2 rfl) (by decide) ?_
  | refine wg_name (i := 20) (by assumption) rfl (loc2 rfl) (by decide) ?_)
local macro_rules | `(tactic| walk_at "side") => `(tactic| first | exact rfl | exact Nat.le_trans (m := 1000) (Nat.le_of_ble_eq_true rfl) sz1000 | omega | decide | assumption)
local macro_rules | `(tactic| walk_at "we") => `(tactic| first
  | (refine isName ?_; walk_at "v")
  | refine we_int ?_ | refine we_bl ?_ | refine we_non ?_ | refine we_str ?_
  | refine we_ix ?_
  | refine we_addG ?_ | refine we_sub ?_ | refine we_mulG ?_ | refine we_div ?_ | refine we_mod ?_ | refine we_pow ?_ | refine we_neg ?_
  | refine we_gt ?_ | refine we_lt ?_ | refine we_ge ?_ | refine we_le ?_
  | refine we_tup ?_ | refine we_lst ?_ | refine we_dict0 ?_
  | refine we_len (by assumption) rfl ?_ | refine we_slG ?_ | refine we_eqG (by assumption) ?_ | refine we_neG (by assumption) ?_ | refine we_not ?_ | refine we_one ?_ | refine we_and ?_ | refine we_or ?_
  | refine we_call2 (by assumption) (by assumption) (by assumption) (by decide) rfl ?_)
local macro_rules | `(tactic| walk_at "wt") => `(tactic| first
  | refine wt_gt ?_ | refine wt_lt ?_ | refine wt_ge ?_ | refine wt_le ?_ | refine wt_not ?_
  | refine wt_eqG (by assumption) ?_ | refine wt_neG (by assumption) ?_ | refine wt_bool ?_ | refine wt_val ?_)
local macro_rules | `(tactic| walk_at "ws") => `(tactic| first
  | refine ws_ret ?_ | (refine isSet ?_; walk_at "si") | refine ws_if ?_
  | refine ws_append (pe_bm PySem.F.plainAttrs_list PySem.F.slot_list_append PySem.F.type_list_append mt_append pe_m (pa_cons pe_m pa_nil)) ?_
  | refine ws_continue ?_ | refine ws_break ?_ | refine ws_pass ?_)
local macro_rules | `(tactic| walk_at "l") => `(tactic| first
  | refine And.intro (Exists.intro _ rfl) ?_
  | refine And.intro trivial ?_
  | refine Exists.intro _ (And.intro rfl ?_)
  | refine Exists.intro _ (Exists.intro _ (And.intro rfl (And.intro rfl ?_)))
  | refine And.intro (And.intro (by walk_at "side") (by walk_at "side") : CDiv _ _) ?_
  | refine And.intro (.inl (And.intro (by walk_at "side") (by walk_at "side")) : CMul _ _) ?_
  | refine And.intro (.inr (And.intro (by walk_at "side") (by walk_at "side")) : CMul _ _) ?_
  | refine And.intro (And.intro (List.cons_ne_nil _ _) (And.intro (by walk_at "side") (And.intro (by walk_at "side") (by walk_at "side")))) ?_
  | refine And.intro (by walk_at "side") ?_)
local macro_rules | `(tactic| walk_at "step") => `(tactic| first
  | (refine isWE ?_; walk_at "we")
  | (refine isWT ?_; walk_at "wt")
  | (refine isWSs ?_; first | refine wss_nil ?_ | refine wss_one ?_ | refine wss_cons ?_)
  | (refine isWS ?_; walk_at "ws")
  | (refine isWDs ?_; first | refine wds_nil ?_ | refine wds_cons ?_)
  | (refine isWW ?_; first | refine ww_and1 ?_ | refine ww_or1 ?_ | refine ww_and ?_ | refine ww_or ?_)
  | refine allB_i fun _ _ _ _ _ => ?_
  | refine asI_i (allB_i fun _ _ _ _ _ => ?_)
  | (refine isWG ?_; first | walk_at "gi" | refine wg_tup rfl ?_ rfl)
  | (refine isWGs ?_; first | refine wgs_nil ?_ | refine wgs_consN ?_)
  | (refine isWO ?_; first | refine wo_none ?_ | refine wo_some ?_)
  | (refine isWA ?_; first | refine wa_nil ?_ | refine wa_cons ?_)
  | walk_at "l")
local macro_rules | `(tactic| walk_at "go") => `(tactic| repeat (walk_at "step"))
theorem fi_all : ∀ n : Fin 17, ∀ p : Fin 17, 2 ≤ n.val → 1 ≤ p.val → (isImage (fI n.val p.val) && LitB 16 4 8000 (fI n.val p.val) && SeqAt.shaped (fI n.val p.val)) = true := by decide +kernel
theorem fi_ok {n p : Nat} (h : Sz n p) : isImage (fI n p) = true ∧ Lit 16 4 8000 (fI n p) ∧ SeqAt.shaped (fI n p) = true := by
  have := fi_all ⟨n, by have := h.1.2; omega⟩ ⟨p, by have := h.2.2; omega⟩ h.1.1 h.2.1
  rw [Bool.and_eq_true, Bool.and_eq_true] at this
  exact ⟨this.1.1, lit_of this.1.2, this.2⟩
def someD : List D := [.int 2, .int 16, .int 1, .int 0, .int 17, .int (-1), .bool true, .none, .str "2", .int (10 ^ 20), .tuple [.int 2]]
theorem some_all : (someD.all fun d => LitB 10 3 4000 d && d.canLay0) = true := by decide +kernel
def NumOk (d : D) : Prop := Lit 10 3 4000 d ∧ d.canLay0 = true
theorem some_ok {d : D} (h : d ∈ someD) : NumOk d := by
  have := List.all_eq_true.mp some_all d h
  rw [Bool.and_eq_true] at this
  exact ⟨lit_of this.1, this.2⟩
abbrev NNu : List Str := ["_law_pool_here", "_law_some"]
theorem scNu : FnScope NNu ["_law_pool_here"] (defScope (topS 50)) := ⟨rfl, rfl, rfl, by decide +kernel, rfl, by decide +kernel, by decide +kernel⟩
section
variable {Pg : Program} {w : World} {K : PySem.W.Frag} {mg : Str → Option Value} {base : Heap}
def sNu : SpD := fun R Q => ∃ a b : Int, R = [pool a b] ∧ PoolOk b ∧ ∀ (a' b' : Int) (d : D), PoolOk b' → NumOk d → Q (.d d) [pool a' b']
theorem ok_nu {f : Addr} {fd : FuncData} (F : Fun K "_law_number" "_law_number" (topS 50) f fd) (hm : mg "_law_number" = some (.ref f)) (hb : Binds K fd ["_law_pool_here"] []) (ml : mg "len" = none) (cDraw : Can Pg w K mg base 1 "_law_draw" sDraw) : Can Pg w K mg base 2 "_law_number" sNu := by
  refine can_def F scNu hm hb (fun A Z Z' k ⟨a, b, h1, h2, h3⟩ => ⟨a, b, h1, h2, fun x y d g1 g2 => k _ _ (h3 x y d g1 g2)⟩) (by decide) (fun R Q h => ?_) (fun cdv A outer s H E hgd hr R Q h => ?_)
  · obtain ⟨a, b, rfl, _⟩ := h
    rfl
  · obtain ⟨a, b, rfl, hp, q⟩ := h
    show WSs _ [0] _ [pool a b, .no] _
    have nd : NNu.Nodup := scNu.nd
    walk_at "go"
    refine asI_i ⟨⟨by decide, by decide⟩, asD_d ?_⟩
    walk_at "go"
    refine ⟨_, _, _, rfl, ⟨by decide, by decide⟩, hp, fun r a1 b1 hr1 hp1 => ⟨rfl, ?_⟩⟩
    walk_at "go"
    refine ⟨fun _ => ?_, fun _ => ?_⟩
    · walk_at "go"
      refine ⟨_, _, _, rfl, ⟨by decide, by decide⟩, hp1, fun r2 a2 b2 hr2 hp2 => ⟨rfl, ?_⟩⟩
      walk_at "go"
      exact q a2 b2 _ hp2 ⟨ok_int (by omega) _ _ _ (by decide), rfl⟩
    · refine wss_nil ?_
      refine nrmS [pool a1 b1, .own (.lst someD)] rfl ?_
      refine wss_fz 1 rfl (by decide) ?_
      refine nrmS [pool a1 b1, .d (.list someD)] rfl ?_
      walk_at "go"
      refine ⟨_, _, _, rfl, ⟨by decide, by decide⟩, hp1, fun r2 a2 b2 hr2 hp2 => ⟨rfl, ?_⟩⟩
      walk_at "go"
      have hl : r2.toNat < someD.length := by omega
      exact asI_i ⟨someD, someD[r2.toNat], rfl, atI_of hr2.1 (List.getElem?_eq_getElem hl), q a2 b2 _ hp2 (some_ok (List.getElem_mem hl))⟩
end
end K02
namespace K02
open PySem PySem.Spec PyProof.Rows L2 Dl
local macro_rules | `(tactic| walk_at "v") => `(tactic| first
  | refine we_d (i := 0) rfl (vis3 rfl) rfl ?_ | refine we_o (i := 0) rfl (vis3 rfl) rfl ?_
  | refine we_d (i := 1) rfl (vis3 rfl) rfl ?_ | refine we_o (i := 1) rfl (vis3 rfl) rfl ?_
  | refine we_d (i := 2) rfl (vis3 rfl) rfl ?_ | refine we_o (i := 2) rfl (vis3 rfl) rfl ?_
  | refine we_d (i := 3) rfl (vis3 rfl) rfl ?_ | refine we_o (i := 3) rfl (vis3 rfl) rfl ?_
  | refine we_d (i := 4) rfl (vis3 rfl) rfl ?_ | refine we_o (i := 4) rfl (vis3 rfl) rfl ?_
  | refine we_d (i := 5) rfl (vis3 rfl) rfl ?_ | refine we_o (i := 5) rfl (vis3 rfl) rfl ?_
  | refine we_d (i := 6) rfl (vis3 rfl) rfl ?_ | refine we_o (i := 6) rfl (vis3 rfl) rfl ?_
  | refine we_d (i := 7) rfl (vis3 rfl) rfl ?_ | refine we_o (i := 7) rfl (vis3 rfl) rfl ?_
  | refine we_d (i := 8) rfl (vis3 rfl) rfl ?_ | refine we_o (i := 8) rfl (vis3 rfl) rfl ?_
  | refine we_d (i := 9) rfl (vis3 rfl) rfl ?_ | refine we_o (i := 9) rfl (vis3 rfl) rfl ?_
  | refine we_d (i := 10) rfl (vis3 rfl) rfl ?_ | refine we_o (i := 10) rfl (vis3 rfl) rfl ?_
  | refine we_d (i := 11) rfl (vis3 rfl) rfl ?_ | refine we_o (i := 11) rfl (vis3 rfl) rfl ?_
  | refine we_d (i := 12) rfl (vis3 rfl) rfl ?_ | refine we_o (i := 12) rfl (vis3 rfl) rfl ?_
  | refine we_d (i := 13) rfl (vis3 rfl) rfl ?_ | refine we_o (i := 13) rfl (vis3 rfl) rfl ?_
  | refine we_d (i := 14) rfl (vis3 rfl) rfl ?_ | refine we_o (i := 14) rfl (vis3 rfl) rfl ?_
  | refine we_d (i := 15) rfl (vis3 rfl) rfl ?_ | refine we_o (i := 15) rfl (vis3 rfl) rfl ?_
  | refine we_d (i := 16) rfl (vis3 rfl) rfl ?_ | refine we_o (i := 16) rfl (vis3 rfl) rfl ?_
  | refine we_d (i := 17) rfl (vis3 rfl) rfl ?_ | refine we_o (i := 17) rfl (vis3 rfl) rfl ?_
  | refine we_d (i := 18) rfl (vis3 rfl) rfl ?_ | refine we_o (i := 18) rfl (vis3 rfl) rfl ?_
  | refine we_d (i := 19) rfl (vis3 rfl) rfl ?_ | refine we_o (i := 19) rfl (vis3 rfl) rfl ?_
  | refine we_d (i := 20) rfl (vis3 rfl) rfl ?_ | refine we_o (i := 20) rfl (vis3 rfl) rfl ?_)
local macro_rules | `(tactic| walk_at "si") => `(tactic| first
  | refine ws_set (i := 0) (by assumption) rfl (loc2 rfl) (by decide) ?_
  | refine ws_set (i := 1) (by assumption) rfl (loc2 rfl) (by decide) ?_
  | refine ws_set (i := 2) (by assumption) rfl (loc2 rfl) (by decide) ?_
  | refine ws_set (i := 3) (by assumption) rfl (loc2 rfl) (by decide) ?_
  | refine ws_set (i := 4) (by assumption) rfl (loc2 rfl) (by decide) ?_
  | refine ws_set (i := 5) (by assumption) rfl (loc2 rfl) (by decide) ?_
  | refine ws_set (i := 6) (by assumption) rfl (loc2 rfl) (by decide) ?_
  | refine ws_set (i := 7) (by assumption) rfl (loc2 rfl) (by decide) ?_
  | refine ws_set (i := 8) (by assumption) rfl (loc2 rfl) (by decide) ?_
  | refine ws_set (i := 9) (by assumption) rfl (loc2 rfl) (by decide) ?_
  | refine ws_set (i := 10) (by assumption) rfl (loc2 rfl) (by decide) ?_
  | refine ws_set (i := 11) (by assumption) rfl (loc2 rfl) (by decide) ?_
  | refine ws_set (i := 12) (by assumption) rfl (loc2 rfl) (by decide) ?_
  | refine ws_set (i := 13) (by assumption) rfl (loc2 rfl) (by decide) ?_
  | refine ws_set (i := 14) (by assumption) rfl (loc2 rfl) (by decide) ?_
  | refine ws_set (i := 15) (by assumption) rfl (loc2 rfl) (by decide) ?_
  | refine ws_set (i := 16) (by assumption) rfl (loc2 rfl) (by decide) ?_
  | refine ws_set (i := 17) (by assumption) rfl (loc2 rfl) (by decide) ?_
  | refine ws_set (i := 18) (by assumption) rfl (loc2 rfl) (by decide) ?_
  | refine ws_set (i := 19) (by assumption) rfl (loc2 rfl) (by decide) ?_
  | refine ws_set (i := 20) (by assumption) rfl (loc2 rfl) (by decide) ?_)
local macro_rules | `(tactic| walk_at "gi") => `(tactic| first
  | refine wg_name (i := 0) (by assumption) rfl (loc2 rfl) (by decide) ?_
  | refine wg_name (i := 1) (by assumption) rfl (loc2 rfl) (by decide) ?_
  | refine wg_name (i := 2) (by assumption) rfl (loc2 rfl) (by decide) ?_
  | refine wg_name (i := 3) (by assumption) rfl (loc2 rfl) (by decide) ?_
  | refine wg_name (i := 4) (by assumption) rfl (loc2 rfl) (by decide) ?_
  | refine wg_name (i := 5) (by assumption) rfl (loc2 rfl) (by decide) ?_
  | refine wg_name (i := 6) (by assumption) rfl (loc2 rfl) (by decide) ?_
  | refine wg_name (i := 7) (by assumption) rfl (loc2 rfl) (by decide) ?_
  | refine wg_name (i := 8) (by assumption) rfl (loc2 rfl) (by decide) ?_
  | refine wg_name (i := 9) (by assumption) rfl (loc2 rfl) (by decide) ?_
  | refine wg_name (i := 10) (by assumption) rfl (loc2 rfl) (by decide) ?_
  | refine wg_name (i := 11) (by assumption) rfl (loc2 rfl) (by decide) ?_
  | refine wg_name (i := 12) (by assumption) rfl (loc2 rfl) (by decide) ?_
  | refine wg_name (i := 13) (by assumption) rfl (loc2 rfl) (by decide) ?_
  | refine wg_name (i := 14) (by assumption) rfl (loc2 rfl) (by decide) ?_
  | refine wg_name (i := 15) (by assumption) rfl (loc2 rfl) (by decide) ?_
  | refine wg_name (i := 16) (by assumption) rfl (loc2 rfl) (by decide) ?_
  | refine wg_name (i := 17) (by assumption) rfl (loc2 rfl) (by decide) ?_
  | refine wg_name (i := 18) (by assumption) rfl (loc2 rfl) (by decide) ?_
  | refine wg_name (i := 19) (by assumption) rfl (loc2 rfl) (by decide) ?_
  | refine wg_name (i := 20) (by assumption) rfl (loc2 rfl) (by decide) ?_)
local macro_rules | `(tactic| walk_at "side") => `(tactic| first | exact rfl | exact Nat.le_trans (m := 1000) (Nat.le_of_ble_eq_true rfl) sz1000 | omega | decide | assumption)
local macro_rules | `(tactic| walk_at "we") => `(tactic| first
  | (refine isName ?_; walk_at "v")
  | refine we_int ?_ | refine we_bl ?_ | refine we_non ?_ | refine we_str ?_
  | refine we_ix ?_
  | refine we_addG ?_ | refine we_sub ?_ | refine we_mulG ?_ | refine we_div ?_ | refine we_mod ?_ | refine we_pow ?_ | refine we_neg ?_
  | refine we_gt ?_ | refine we_lt ?_ | refine we_ge ?_ | refine we_le ?_
  | refine we_tup ?_ | refine we_lst ?_ | refine we_dict0 ?_
  | refine we_len (by assumption) rfl ?_ | refine we_slG ?_ | refine we_eqG (by assumption) ?_ | refine we_neG (by assumption) ?_ | refine we_not ?_ | refine we_one ?_ | refine we_and ?_ | refine we_or ?_
  | refine we_call2 (by assumption) (by assumption) (by assumption) (by decide) rfl ?_)
local macro_rules | `(tactic| walk_at "wt") => `(tactic| first
  | refine wt_gt ?_ | refine wt_lt ?_ | refine wt_ge ?_ | refine wt_le ?_ | refine wt_not ?_
  | refine wt_eqG (by assumption) ?_ | refine wt_neG (by assumption) ?_ | refine wt_bool ?_ | refine wt_val ?_)
local macro_rules | `(tactic| walk_at "ws") => `(tactic| first
  | refine ws_ret ?_ | (refine isSet ?_; walk_at "si") | refine ws_if ?_
  | refine ws_append (pe_bm PySem.F.plainAttrs_list PySem.F.slot_list_append PySem.F.type_list_append mt_append pe_m (pa_cons pe_m pa_nil)) ?_
  | refine ws_continue ?_ | refine ws_break ?_ | refine ws_pass ?_)
local macro_rules | `(tactic| walk_at "l") => `(tactic| first
  | refine And.intro (Exists.intro _ rfl) ?_
  | refine And.intro trivial ?_
  | refine Exists.intro _ (And.intro rfl ?_)
  | refine Exists.intro _ (Exists.intro _ (And.intro rfl (And.intro rfl ?_)))
  | refine And.intro (And.intro (by walk_at "side") (by walk_at "side") : CDiv _ _) ?_
  | refine And.intro (.inl (And.intro (by walk_at "side") (by walk_at "side")) : CMul _ _) ?_
  | refine And.intro (.inr (And.intro (by walk_at "side") (by walk_at "side")) : CMul _ _) ?_
  | refine And.intro (And.intro (List.cons_ne_nil _ _) (And.intro (by walk_at "side") (And.intro (by walk_at "side") (by walk_at "side")))) ?_
  | refine And.intro (by walk_at "side") ?_)
local macro_rules | `(tactic| walk_at "step") => `(tactic| first
  | (refine isWE ?_; walk_at "we")
  | (refine isWT ?_; walk_at "wt")
  | (refine isWSs ?_; first | refine wss_nil ?_ | refine wss_one ?_ | refine wss_cons ?_)
  | (refine isWS ?_; walk_at "ws")
  | (refine isWDs ?_; first | refine wds_nil ?_ | refine wds_cons ?_)
  | (refine isWW ?_; first | refine ww_and1 ?_ | refine ww_or1 ?_ | refine ww_and ?_ | refine ww_or ?_)
  | refine allB_i fun _ _ _ _ _ => ?_
  | refine asI_i (allB_i fun _ _ _ _ _ => ?_)
  | (refine isWG ?_; first | walk_at "gi" | refine wg_tup rfl ?_ rfl)
  | (refine isWGs ?_; first | refine wgs_nil ?_ | refine wgs_consN ?_)
  | (refine isWO ?_; first | refine wo_none ?_ | refine wo_some ?_)
  | (refine isWA ?_; first | refine wa_nil ?_ | refine wa_cons ?_)
  | walk_at "l")
local macro_rules | `(tactic| walk_at "go") => `(tactic| repeat (walk_at "step"))
abbrev NLaw : List Str := ["_law_script", "_law_k", "_law_pool_here", "_law_one", "_law_other", "_law_bad", "_law_found", "_law_kept", "e", "_law_due", "_law_thing", "_law_least"]
theorem scLaw : FnScope NLaw ["_law_script"] (defScope (topS 52)) := ⟨rfl, rfl, rfl, by decide +kernel, rfl, by decide +kernel, by decide +kernel⟩
def sLaw : SpD := fun R Q => ∃ ns : List Int, R = [.d (.list (ns.map .int))] ∧ ns.length ≤ 63 ∧ ∀ R', Q (.d (.bool true)) R'
theorem eqG_ss {R2 : DS} {i j : Str} {k : Bool → Prop} (h : k (decide (i = j))) : eqG R2 (.d (.str i)) (.d (.str j)) k := h
/-- what the top has of NoSize and the other three -/
structure NoS (K : PySem.W.Frag) (mg : Str → Option Value) (C C2 C3 C4 : Addr) : Prop where
  T : ErrO K mg "NoSize" "number" (inner 1) C
  xf : XfC K C
  noF : PySem.W.findIn K (.ref C) "number" = some none
  ex : ExcC K C
  te : PySem.W.exmOne K (.ref C) (.ref C) = some true
  kL : PySem.W.kitOne K (.ref C) (.type "ValueError") = some true
  g2 : mg "Broken" = some (.ref C2)
  g3 : mg "NoDeed" = some (.ref C3)
  g4 : mg "NoText" = some (.ref C4)
  kN : PySem.W.kitAny K (.ref C) [.ref C2, .ref C3, .ref C4] = some false
/-- the numbers that are none -/
def badL (x y : D) : List D := ((([(x, 2), (y, 1)] : List (D × Int)).filter fun p => !inR p.2 16 p.1).map fun p => p.1)
theorem cAll : ∀ xs : List D, (∀ x ∈ xs, x.canLay0 = true) → PyData.canLayAll0 xs = true
  | [], _ => rfl
  | x :: r, h => by
    show (x.canLay0 && PyData.canLayAll0 r) = true
    rw [h x List.mem_cons_self, cAll r fun y hy => h y (List.mem_cons_of_mem _ hy)]
    rfl
theorem dAll {k : Nat} : ∀ xs : List D, (∀ x ∈ xs, x.depth ≤ k) → PyData.depthAll xs ≤ k
  | [], _ => Nat.zero_le _
  | x :: r, h => Nat.max_le.mpr ⟨h x List.mem_cons_self, dAll r fun y hy => h y (List.mem_cons_of_mem _ hy)⟩
theorem shL {xs : List D} (h : ∀ z ∈ xs, NumOk z) : SeqAt.shaped (.list xs) = true := by
  have h1 : (PyData.list xs).canLay0 = true := cAll xs fun z hz => (h z hz).2
  have h2 : (PyData.list xs).depth ≤ 3 + 1 := Nat.succ_le_succ (dAll xs fun z hz => (h z hz).1.o.p)
  show ((PyData.list xs).canLay0 && decide ((PyData.list xs).depth ≤ 64)) = true
  rw [h1, decide_eq_true (Nat.le_trans h2 (by decide))]
  rfl
theorem gEq_cons0 {R2 : DS} {b : D} {bs : List D} {k : Bool → Prop} (hs : SeqAt.shaped (.list (b :: bs)) = true) (q : k false) : eqG R2 (.d (.list (b :: bs))) (.own (.lst [])) k := by
  show gEq R2 _ _ k
  exact ⟨_, _, rfl, rfl, hs, by decide, by
    have e : PyData.eqv (.list (b :: bs)) (.list []) = false := by cases b <;> rfl
    rw [e]
    exact q⟩
theorem gEq_00 {R2 : DS} {x y : SV} {k : Bool → Prop} (hx : vD R2 x = some (.list [])) (hy : vD R2 y = some (.list [])) (q : k true) : gEq R2 x y k := ⟨_, _, hx, hy, by decide, by decide, q⟩
theorem isStbD {d : D} {k : SV → Prop} (h : k (.d d)) : stb (.d d) k := h
theorem num_pair {x : D} (h : NumOk x) : Lit 10 4 4100 (.list [x, .bool true]) := by
  refine ⟨okL (by show 2 ≤ 10; decide) fun z hz => ?_, ?_⟩
  · rcases List.mem_cons.mp hz with rfl | hz
    · exact h.1.o
    · rw [List.mem_singleton.mp hz]
      exact ⟨rfl, rfl, Nat.zero_le _⟩
  · have w := h.1.w
    rw [wtL]
    show wtA (([x] : List D) ++ [.bool true]) + 4 ≤ 4100
    have wb : wt (.bool true) ≤ 10 := by decide
    rw [wtA_app, wtA_one, wtA_one]
    omega
section
local macro_rules | `(tactic| walk_at "we") => `(tactic| first
  | refine we_min2 rfl (by assumption) rfl ?_ | refine we_max2 rfl (by assumption) rfl ?_)
variable {Pg : Program} {w : World} {K : PySem.W.Frag} {mg : Str → Option Value} {base : Heap} {C C2 C3 C4 : Addr}
set_option maxHeartbeats 8000000 in
theorem ok_law {f : Addr} {fd : FuncData} (F : Fun K "law" "law" (topS 52) f fd) (L : NoS K mg C C2 C3 C4) (ml : mg "len" = none) (mr : mg "range" = none) (mx : mg "max" = none) (mn : mg "min" = none) (mp : mg "repr" = none) (mi : mg "isinstance" = none) (mV : mg "ValueError" = none)
    (cPool : Can Pg w K mg base 1 "_law_pool" sPool) (cNu : Can Pg w K mg base 2 "_law_number" sNu) (cFr : Can Pg w K mg base 1 "_law_from" (look3 inR)) (cFi : CanX Pg w K mg base 3 "first_image" (sFi C)) (cImg : Can Pg w K mg base 5 "is_image" (look1 isImage)) (cBr : Can Pg w K mg base 5 "breaks" sLk) (cLe : Can Pg w K mg base 6 "leaks" sLk) : FnG Pg w K mg base CX0 7 f fd ["_law_script"] (liftS K sLaw) := by
  refine fn_def F scLaw (by decide) (fun R Q h => ?_) (fun cdv A outer s H E hgd hr R Q h => ?_)
  · obtain ⟨a, rfl, _⟩ := h
    rfl
  · obtain ⟨ns, rfl, hn, q⟩ := h
    show WSs _ [] _ [.d (.list (ns.map .int)), .no, .no, .no, .no, .no, .no, .no, .no, .no, .no, .no] _
    have nd : NLaw.Nodup := scLaw.nd
    have hu100 : (A.deeper (envOfC "law" (defScope (topS 52)) s.heap.objs.size f cdv)).units + 100 < cLine := by have := hr.un; omega
    walk_at "go"
    refine ws_forR (js := [1]) PassesOwn.never rfl mr rfl ?_
    walk_at "go"
    rw [List.length_map]
    generalize hT : (if (if (ns.length : Int) < 40 then (ns.length : Int) else 40) > 1 then (if (ns.length : Int) < 40 then (ns.length : Int) else 40) else 1) = T
    have hT1 : 0 ≤ T ∧ T ≤ 40 := by
      subst hT
      split <;> split <;> omega
    refine ⟨fun i R' => ∃ s1 s2 s3 s4 s5 s6 s7 s9, R' = [.d (.list (ns.map .int)), s1, s2, s3, s4, s5, s6, s7, .no, s9, .no, .no], ⟨_, _, _, _, _, _, _, _, rfl⟩, fun i R' hlt h => ?_, fun R' h => ?_⟩
    · obtain ⟨s1, s2, s3, s4, s5, s6, s7, s9, rfl⟩ := h
      walk_at "gi"
      walk_at "go"
      refine ⟨ns, _, rfl, ⟨by omega, by omega⟩, fun a1 b1 hp1 => ⟨rfl, ?_⟩⟩
      refine nrmB (Z := fun R => put 2 R _ _) [.d (.list (ns.map .int)), .d (.int i), s2, s3, s4, s5, s6, s7, .no, s9, .no, .no] rfl ?_
      refine isWSs ?_
      refine nrmS [.d (.list (ns.map .int)), .d (.int i), pool a1 b1, s3, s4, s5, s6, s7, .no, s9, .no, .no] rfl ?_
      refine wss_cons ?_
      refine ws_par (i := 3) (j := 4) rfl nd rfl rfl (by decide) rfl rfl (by decide) (by decide) ?_
      walk_at "go"
      refine ⟨_, _, rfl, hp1, fun a2 b2 x hp2 gx => ⟨rfl, asD_d ?_⟩⟩
      refine nrmE [.d (.list (ns.map .int)), .d (.int i), pool a2 b2, s3, s4, s5, s6, s7, .no, s9, .no, .no] rfl ?_
      walk_at "go"
      refine ⟨_, _, rfl, hp2, fun a3 b3 y hp3 gy => ⟨rfl, asD_d ?_⟩⟩
      refine nrmS [.d (.list (ns.map .int)), .d (.int i), pool a3 b3, .d x, .d y, s5, s6, s7, .no, s9, .no, .no] rfl ?_
      refine wss_cons ?_
      refine ws_setLc1 (i := 5) [("_law_thing", 10), ("_law_least", 11)] [10, 11] rfl nd rfl rfl (sw_true rfl rfl rfl (by decide +kernel)) (blkOk_by (N := NLaw) (sc := defScope (topS 52)) (by decide +kernel)) (by decide) (by decide) (by decide) (.list ?_)
      walk_at "go"
      have fx : fit x = true := fit_of (n := 10) (by decide) _ gx.1.o.f
      have fy : fit y = true := fit_of (n := 10) (by decide) _ gy.1.o.f
      show LcG _ _ _ (([(x, (2 : Int)), (y, 1)] : List (D × Int)).map fun p => .tuple [p.1, .int p.2]) _
      refine lc_pure1 (g := fun p => p.1) (fun p => !inR p.2 16 p.1) [.d (.list (ns.map .int)), .d (.int i), pool a3 b3, .d x, .d y, s5, s6, s7, .no, s9, .no, .no] rfl (szle (show 2 ≤ 1000 by decide)) (fun p hp => ?_) ?_
      · have hfp : fit p.1 = true := by
          rcases List.mem_cons.mp hp with rfl | hp
          · exact fx
          · rw [List.mem_singleton.mp hp]; exact fy
        intro s H C cl fp
        walk_at "go"
        refine ⟨p.1, p.2, 16, rfl, hfp, ⟨rfl, asB_b ⟨rfl, fun _ => ?_, fun _ => rfl⟩⟩⟩
        walk_at "go"
        exact rfl
      refine nrmB (Z := fun R => put 5 R _ _) [.d (.list (ns.map .int)), .d (.int i), pool a3 b3, .d x, .d y, s5, s6, s7, .no, s9, .no, .no] rfl ?_
      refine isWSs ?_
      refine nrmS [.d (.list (ns.map .int)), .d (.int i), pool a3 b3, .d x, .d y, .own (.lst (badL x y)), s6, s7, .no, s9, .no, .no] rfl ?_
      refine wss_fz 5 rfl (by decide) ?_
      refine nrmS [.d (.list (ns.map .int)), .d (.int i), pool a3 b3, .d x, .d y, .d (.list (badL x y)), s6, s7, .no, s9, .no, .no] rfl ?_
      walk_at "go"
      refine nrmB (Z := fun R => WS _ _ _ R _) [.d (.list (ns.map .int)), .d (.int i), pool a3 b3, .d x, .d y, .d (.list (badL x y)), .d .none, .d .none, .no, s9, .no, .no] rfl ?_
      refine ws_try_as (i := 8) rfl rfl nd rfl rfl ⟨rfl, by decide, .inl L.T.gC⟩ (by decide) fun pn xe po => ?_
      refine wxs_one (wx_set (i := 6) nd rfl (loc2 rfl) (by decide) (wex_call (by assumption) (by assumption) cFi (by decide) rfl ?_))
      walk_at "go"
      refine ⟨x, y, rfl, ⟨fx, fy⟩, fun n p ex ey hs => ⟨rfl, ?_⟩, fun e => ⟨rfl, L.te, fun a d' oe pn hz hfo => ?_⟩, fun e e' => ⟨rfl, L.te, fun a d' oe pn hz hfo => ?_⟩⟩
      · subst ex
        subst ey
        have n1 : (2 : Int) ≤ (n : Int) := by have := hs.1.1; omega
        have n2 : (n : Int) ≤ 16 := by have := hs.1.2; omega
        have p1 : (1 : Int) ≤ (p : Int) := by have := hs.2.1; omega
        have p2 : (p : Int) ≤ 16 := by have := hs.2.2; omega
        have eb : badL (.int n) (.int p) = [] := by
          have e1 : inR 2 16 (.int (n : Int)) = true := by
            show (decide ((2 : Int) ≤ n) && decide ((n : Int) ≤ 16)) = true
            rw [decide_eq_true n1, decide_eq_true n2]
            rfl
          have e2 : inR 1 16 (.int (p : Int)) = true := by
            show (decide ((1 : Int) ≤ p) && decide ((p : Int) ≤ 16)) = true
            rw [decide_eq_true p1, decide_eq_true p2]
            rfl
          unfold badL
          rw [List.filter_cons, if_neg (by show ¬ (!inR 2 16 (.int (n : Int))) = true; rw [e1]; decide), List.filter_cons, if_neg (by show ¬ (!inR 1 16 (.int (p : Int))) = true; rw [e2]; decide)]
          rfl
        rw [eb]
        refine nrmB (Z := fun R => put 6 R _ _) [.d (.list (ns.map .int)), .d (.int i), pool a3 b3, .d (.int n), .d (.int p), .d (.list []), .d .none, .d .none, .no, s9, .no, .no] rfl ?_
        refine isWSs ?_
        refine nrmS [.d (.list (ns.map .int)), .d (.int i), pool a3 b3, .d (.int n), .d (.int p), .d (.list []), .d (fI n p), .d .none, .no, s9, .no, .no] rfl ?_
        refine wss_one (ws_if ?_)
        refine wt_neG (by assumption) ?_
        walk_at "go"
        refine gEq_00 rfl rfl ⟨fun z => Bool.noConfusion z, fun _ => ?_⟩
        walk_at "go"
        rw [rep1, rep1, show ((n : Int) - 1).toNat = n - 1 by omega, show ((p : Int)).toNat = p by omega]
        refine asT_t (es := List.replicate (n - 1) .none) ⟨szle (by rw [List.length_replicate]; show 1 + (n - 1) ≤ 1000; omega), asD_d ?_⟩
        walk_at "go"
        rw [rep1, rep1, show ((p : Int)).toNat = p by omega]
        refine nrmE [.d (.list (ns.map .int)), .d (.int i), pool a3 b3, .d (.int n), .d (.int p), .d (.list []), .d (fI n p), .d .none, .no, .d (fI n p), .no, .no] rfl ?_
        obtain ⟨gi, gl, gs⟩ := fi_ok hs
        have sz := Nat.le_trans (shown_le _ gl.o.s) (Nat.le_trans gl.w (show 8000 ≤ sizeLine by rw [sizeLine_eq]; decide))
        have ffi : fit (fI n p) = true := fit_of (n := 16) (by decide) _ gl.o.f
        refine we_reprX hgd hu100 mp rfl ?_
        walk_at "go"
        refine ⟨gl.o.s, Nat.le_trans gl.o.p (by decide), sz, ?_⟩
        refine isStbD ?_
        refine we_reprX hgd hu100 mp rfl ?_
        walk_at "go"
        refine ⟨gl.o.s, Nat.le_trans gl.o.p (by decide), sz, ⟨_, rfl⟩, ?_⟩
        refine eqG_ss ?_
        rw [decide_eq_true rfl]
        refine ⟨fun _ => ?_, fun z => Bool.noConfusion z⟩
        refine ww_or ?_
        refine wt_isNotB ?_
        walk_at "go"
        rw [gi]
        refine ⟨fun _ => ?_, fun z => Bool.noConfusion z⟩
        refine nrmB (Z := fun R => WW _ _ _ R _) [.d (.list (ns.map .int)), .d (.int i), pool a3 b3, .d (.int n), .d (.int p), .d (.list []), .d (fI n p), .d .none, .no, .d (fI n p), .no, .no] rfl ?_
        refine ww_or ?_
        refine wt_neG (by assumption) ?_
        walk_at "go"
        refine ⟨n, p, rfl, hs, ⟨rfl, isStb ?_⟩⟩
        walk_at "go"
        refine gEq_00 rfl rfl ⟨fun _ => ?_, fun z => Bool.noConfusion z⟩
        refine ww_or1 ?_
        refine wt_neG (by assumption) ?_
        walk_at "go"
        refine ⟨n, p, rfl, hs, ⟨rfl, isStb ?_⟩⟩
        walk_at "go"
        refine gEq_00 rfl rfl ⟨fun z => Bool.noConfusion z, fun _ => ?_⟩
        exact wss_nil ⟨_, _, _, _, _, _, _, _, rfl⟩
      · have eb : ∃ bs, badL x y = x :: bs ∧ ∀ z ∈ bs, NumOk z := by
          refine ⟨((([(y, 1)] : List (D × Int)).filter fun p => !inR p.2 16 p.1).map fun p => p.1), ?_, fun z hz => ?_⟩
          · unfold badL
            rw [List.filter_cons, if_pos (by show (!inR 2 16 x) = true; rw [e]; rfl)]
            rfl
          · obtain ⟨p, hp, rfl⟩ := List.mem_map.mp hz
            rw [List.mem_singleton.mp (List.mem_filter.mp hp).1]
            exact gy
        obtain ⟨bs, eb, hbs⟩ := eb
        show WSs _ [] _ [.d (.list (ns.map .int)), .d (.int i), pool a3 b3, .d x, .d y, .d (.list (badL x y)), .d .none, .d .none, .ex a d' [("number", x)], s9, .no, .no] _
        refine wss_one (ws_set (i := 7) nd rfl (loc2 rfl) (by decide) ?_)
        refine we_lst ?_
        refine wds_cons (we_exf L.xf L.noF hz hfo (i := 8) (x := x) (by exact rfl) (by exact vis3 rfl) (by exact rfl) (by exact rfl) ?_)
        refine asD_d (wds_cons ?_)
        refine we_and (we_is1 L.ex hz hfo mi (by exact rfl) mV (by exact rfl) (by exact rfl) (i := 8) (by exact rfl) (by exact (vis3 rfl)) (by exact rfl) L.kL ?_)
        refine asB_b ⟨fun _ => ?_, fun z => Bool.noConfusion z⟩
        refine we_one (we_not (we_isAny (t := tCons (tC (.ref C2)) (tCons (tC (.ref C3)) (tCons (tC (.ref C4)) tNil))) (cs := [.ref C2, .ref C3, .ref C4]) (us := [.ref C2, .ref C3, .ref C4]) L.ex hz hfo mi (by exact rfl) (by exact (pa_cons (pe_glob rfl L.g2 rfl) (pa_cons (pe_glob rfl L.g3 rfl) (pa_cons (pe_glob rfl L.g4 rfl) pa_nil)))) (fun _ _ _ q => q) (by show 3 ≤ sizeLine; rw [sizeLine_eq]; decide) (.cons (.own _) (.cons (.own _) (.cons (.own _) .nil))) (i := 8) (by exact rfl) (by exact (vis3 rfl)) (by exact rfl) L.kN ?_))
        refine asB_b (asD_d (wds_nil ?_))
        refine ⟨szle (show 2 ≤ 1000 by decide), ?_⟩
        rw [eb]
        show WSs _ [] _ [.d (.list (ns.map .int)), .d (.int i), pool a3 b3, .d x, .d y, .d (.list (x :: bs)), .d .none, .own (.lst [x, .bool true]), .no, s9, .no, .no] _
        refine wss_fz 7 rfl (by decide) ?_
        refine nrmS [.d (.list (ns.map .int)), .d (.int i), pool a3 b3, .d x, .d y, .d (.list (x :: bs)), .d .none, .d (.list [x, .bool true]), .no, s9, .no, .no] rfl ?_
        refine wss_one (ws_if ?_)
        refine wt_neG (by assumption) ?_
        walk_at "go"
        refine gEq_cons0 (shL fun z hz => by
          rcases List.mem_cons.mp hz with rfl | hz
          · exact gx
          · exact hbs z hz) ⟨fun _ => ?_, fun z => Bool.noConfusion z⟩
        refine wss_one (ws_if ?_)
        refine wt_bool ?_
        refine ww_or ?_
        refine wt_isN ?_
        walk_at "go"
        refine ⟨fun _ => ?_, fun z => Bool.noConfusion z⟩
        refine ww_or1 ?_
        have lp := num_pair gx
        have sp := Nat.le_trans (shown_le _ lp.o.s) (Nat.le_trans lp.w (show 4100 ≤ sizeLine by rw [sizeLine_eq]; decide))
        refine wt_neG (by assumption) ?_
        refine we_reprX hgd hu100 mp rfl ?_
        walk_at "go"
        refine ⟨lp.o.s, Nat.le_trans lp.o.p (by decide), sp, ?_⟩
        refine isStbD ?_
        refine we_reprX hgd hu100 mp rfl ?_
        walk_at "go"
        refine asI_i ⟨x :: bs, x, rfl, atI_of (by decide) rfl, asD_d ?_⟩
        walk_at "go"
        refine ⟨lp.o.s, Nat.le_trans lp.o.p (by decide), sp, ⟨_, rfl⟩, ?_⟩
        refine eqG_ss ?_
        rw [decide_eq_true rfl]
        refine ⟨fun z => Bool.noConfusion z, fun _ => ?_⟩
        exact wss_nil ⟨_, _, _, _, _, _, _, _, rfl⟩
      · have eb : ∃ bs, badL x y = y :: bs ∧ ∀ z ∈ bs, NumOk z := by
          refine ⟨[], ?_, fun z hz => by cases hz⟩
          unfold badL
          rw [List.filter_cons, if_neg (by show ¬ (!inR 2 16 x) = true; rw [e]; decide), List.filter_cons, if_pos (by show (!inR 1 16 y) = true; rw [e']; rfl)]
          rfl
        obtain ⟨bs, eb, hbs⟩ := eb
        show WSs _ [] _ [.d (.list (ns.map .int)), .d (.int i), pool a3 b3, .d x, .d y, .d (.list (badL x y)), .d .none, .d .none, .ex a d' [("number", y)], s9, .no, .no] _
        refine wss_one (ws_set (i := 7) nd rfl (loc2 rfl) (by decide) ?_)
        refine we_lst ?_
        refine wds_cons (we_exf L.xf L.noF hz hfo (i := 8) (x := y) (by exact rfl) (by exact vis3 rfl) (by exact rfl) (by exact rfl) ?_)
        refine asD_d (wds_cons ?_)
        refine we_and (we_is1 L.ex hz hfo mi (by exact rfl) mV (by exact rfl) (by exact rfl) (i := 8) (by exact rfl) (by exact (vis3 rfl)) (by exact rfl) L.kL ?_)
        refine asB_b ⟨fun _ => ?_, fun z => Bool.noConfusion z⟩
        refine we_one (we_not (we_isAny (t := tCons (tC (.ref C2)) (tCons (tC (.ref C3)) (tCons (tC (.ref C4)) tNil))) (cs := [.ref C2, .ref C3, .ref C4]) (us := [.ref C2, .ref C3, .ref C4]) L.ex hz hfo mi (by exact rfl) (by exact (pa_cons (pe_glob rfl L.g2 rfl) (pa_cons (pe_glob rfl L.g3 rfl) (pa_cons (pe_glob rfl L.g4 rfl) pa_nil)))) (fun _ _ _ q => q) (by show 3 ≤ sizeLine; rw [sizeLine_eq]; decide) (.cons (.own _) (.cons (.own _) (.cons (.own _) .nil))) (i := 8) (by exact rfl) (by exact (vis3 rfl)) (by exact rfl) L.kN ?_))
        refine asB_b (asD_d (wds_nil ?_))
        refine ⟨szle (show 2 ≤ 1000 by decide), ?_⟩
        rw [eb]
        show WSs _ [] _ [.d (.list (ns.map .int)), .d (.int i), pool a3 b3, .d x, .d y, .d (.list (y :: bs)), .d .none, .own (.lst [y, .bool true]), .no, s9, .no, .no] _
        refine wss_fz 7 rfl (by decide) ?_
        refine nrmS [.d (.list (ns.map .int)), .d (.int i), pool a3 b3, .d x, .d y, .d (.list (y :: bs)), .d .none, .d (.list [y, .bool true]), .no, s9, .no, .no] rfl ?_
        refine wss_one (ws_if ?_)
        refine wt_neG (by assumption) ?_
        walk_at "go"
        refine gEq_cons0 (shL fun z hz => by
          rcases List.mem_cons.mp hz with rfl | hz
          · exact gy
          · exact hbs z hz) ⟨fun _ => ?_, fun z => Bool.noConfusion z⟩
        refine wss_one (ws_if ?_)
        refine wt_bool ?_
        refine ww_or ?_
        refine wt_isN ?_
        walk_at "go"
        refine ⟨fun _ => ?_, fun z => Bool.noConfusion z⟩
        refine ww_or1 ?_
        have lp := num_pair gy
        have sp := Nat.le_trans (shown_le _ lp.o.s) (Nat.le_trans lp.w (show 4100 ≤ sizeLine by rw [sizeLine_eq]; decide))
        refine wt_neG (by assumption) ?_
        refine we_reprX hgd hu100 mp rfl ?_
        walk_at "go"
        refine ⟨lp.o.s, Nat.le_trans lp.o.p (by decide), sp, ?_⟩
        refine isStbD ?_
        refine we_reprX hgd hu100 mp rfl ?_
        walk_at "go"
        refine asI_i ⟨y :: bs, y, rfl, atI_of (by decide) rfl, asD_d ?_⟩
        walk_at "go"
        refine ⟨lp.o.s, Nat.le_trans lp.o.p (by decide), sp, ⟨_, rfl⟩, ?_⟩
        refine eqG_ss ?_
        rw [decide_eq_true rfl]
        refine ⟨fun z => Bool.noConfusion z, fun _ => ?_⟩
        exact wss_nil ⟨_, _, _, _, _, _, _, _, rfl⟩
    · obtain ⟨s1, s2, s3, s4, s5, s6, s7, s9, rfl⟩ := h
      walk_at "go"
      exact q _
end
end K02
namespace K02
open PySem PySem.Spec PyProof.Rows L2 Dl
local macro_rules | `(tactic| walk_at "v") => `(tactic| first
  | refine we_d (i := 0) rfl (vis3 rfl) rfl ?_ | refine we_o (i := 0) rfl (vis3 rfl) rfl ?_
  | refine we_d (i := 1) rfl (vis3 rfl) rfl ?_ | refine we_o (i := 1) rfl (vis3 rfl) rfl ?_
  | refine we_d (i := 2) rfl (vis3 rfl) rfl ?_ | refine we_o (i := 2) rfl (vis3 rfl) rfl ?_
  | refine we_d (i := 3) rfl (vis3 rfl) rfl ?_ | refine we_o (i := 3) rfl (vis3 rfl) rfl ?_
  | refine we_d (i := 4) rfl (vis3 rfl) rfl ?_ | refine we_o (i := 4) rfl (vis3 rfl) rfl ?_
  | refine we_d (i := 5) rfl (vis3 rfl) rfl ?_ | refine we_o (i := 5) rfl (vis3 rfl) rfl ?_
  | refine we_d (i := 6) rfl (vis3 rfl) rfl ?_ | refine we_o (i := 6) rfl (vis3 rfl) rfl ?_
  | refine we_d (i := 7) rfl (vis3 rfl) rfl ?_ | refine we_o (i := 7) rfl (vis3 rfl) rfl ?_
  | refine we_d (i := 8) rfl (vis3 rfl) rfl ?_ | refine we_o (i := 8) rfl (vis3 rfl) rfl ?_
  | refine we_d (i := 9) rfl (vis3 rfl) rfl ?_ | refine we_o (i := 9) rfl (vis3 rfl) rfl ?_
  | refine we_d (i := 10) rfl (vis3 rfl) rfl ?_ | refine we_o (i := 10) rfl (vis3 rfl) rfl ?_
  | refine we_d (i := 11) rfl (vis3 rfl) rfl ?_ | refine we_o (i := 11) rfl (vis3 rfl) rfl ?_
  | refine we_d (i := 12) rfl (vis3 rfl) rfl ?_ | refine we_o (i := 12) rfl (vis3 rfl) rfl ?_
  | refine we_d (i := 13) rfl (vis3 rfl) rfl ?_ | refine we_o (i := 13) rfl (vis3 rfl) rfl ?_
  | refine we_d (i := 14) rfl (vis3 rfl) rfl ?_ | refine we_o (i := 14) rfl (vis3 rfl) rfl ?_
  | refine we_d (i := 15) rfl (vis3 rfl) rfl ?_ | refine we_o (i := 15) rfl (vis3 rfl) rfl ?_
  | refine we_d (i := 16) rfl (vis3 rfl) rfl ?_ | refine we_o (i := 16) rfl (vis3 rfl) rfl ?_
  | refine we_d (i := 17) rfl (vis3 rfl) rfl ?_ | refine we_o (i := 17) rfl (vis3 rfl) rfl ?_
  | refine we_d (i := 18) rfl (vis3 rfl) rfl ?_ | refine we_o (i := 18) rfl (vis3 rfl) rfl ?_
  | refine we_d (i := 19) rfl (vis3 rfl) rfl ?_ | refine we_o (i := 19) rfl (vis3 rfl) rfl ?_
  | refine we_d (i := 20) rfl (vis3 rfl) rfl ?_ | refine we_o (i := 20) rfl (vis3 rfl) rfl ?_)
local macro_rules | `(tactic| walk_at "si") => `(tactic| first
  | refine ws_set (i := 0) (by assumption) rfl (loc2 rfl) (by decide) ?_
  | refine ws_set (i := 1) (by assumption) rfl (loc2 rfl) (by decide) ?_
  | refine ws_set (i := 2) (by assumption) rfl (loc2 rfl) (by decide) ?_
  | refine ws_set (i := 3) (by assumption) rfl (loc2 rfl) (by decide) ?_
  | refine ws_set (i := 4) (by assumption) rfl (loc2 rfl) (by decide) ?_
  | refine ws_set (i := 5) (by assumption) rfl (loc2 rfl) (by decide) ?_
  | refine ws_set (i := 6) (by assumption) rfl (loc2 rfl) (by decide) ?_
  | refine ws_set (i := 7) (by assumption) rfl (loc2 rfl) (by decide) ?_
  | refine ws_set (i := 8) (by assumption) rfl (loc2 rfl) (by decide) ?_
  | refine ws_set (i := 9) (by assumption) rfl (loc2 rfl) (by decide) ?_
  | refine ws_set (i := 10) (by assumption) rfl (loc2 rfl) (by decide) ?_
  | refine ws_set (i := 11) (by assumption) rfl (loc2 rfl) (by decide) ?_
  | refine ws_set (i := 12) (by assumption) rfl (loc2 rfl) (by decide) ?_
  | refine ws_set (i := 13) (by assumption) rfl (loc2 rfl) (by decide) ?_
  | refine ws_set (i := 14) (by assumption) rfl (loc2 rfl) (by decide) ?_
  | refine ws_set (i := 15) (by assumption) rfl (loc2 rfl) (by decide) ?_
  | refine ws_set (i := 16) (by assumption) rfl (loc2 rfl) (by decide) ?_
  | refine ws_set (i := 17) (by assumption) rfl (loc2 rfl) (by decide) ?_
  | refine ws_set (i := 18) (by assumption) rfl (loc2 rfl) (by decide) ?_
  | refine ws_set (i := 19) (by assumption) rfl (loc2 rfl) (by decide) ?_
  | refine ws_set (i := 20) (by assumption) rfl (loc2 rfl) (by decide) ?_)
local macro_rules | `(tactic| walk_at "gi") => `(tactic| first
  | refine wg_name (i := 0) (by assumption) rfl (loc2 rfl) (by decide) ?_
  | refine wg_name (i := 1) (by assumption) rfl (loc2 rfl) (by decide) ?_
  | refine wg_name (i := 2) (by assumption) rfl (loc2 rfl) (by decide) ?_
  | refine wg_name (i := 3) (by assumption) rfl (loc2 rfl) (by decide) ?_
  | refine wg_name (i := 4) (by assumption) rfl (loc2 rfl) (by decide) ?_
  | refine wg_name (i := 5) (by assumption) rfl (loc2 rfl) (by decide) ?_
  | refine wg_name (i := 6) (by assumption) rfl (loc2 rfl) (by decide) ?_
  | refine wg_name (i := 7) (by assumption) rfl (loc2 rfl) (by decide) ?_
  | refine wg_name (i := 8) (by assumption) rfl (loc2 rfl) (by decide) ?_
  | refine wg_name (i := 9) (by assumption) rfl (loc2 rfl) (by decide) ?_
  | refine wg_name (i := 10) (by assumption) rfl (loc2 rfl) (by decide) ?_
  | refine wg_name (i := 11) (by assumption) rfl (loc2 rfl) (by decide) ?_
  | refine wg_name (i := 12) (by assumption) rfl (loc2 rfl) (by decide) ?_
  | refine wg_name (i := 13) (by assumption) rfl (loc2 rfl) (by decide) ?_
  | refine wg_name (i := 14) (by assumption) rfl (loc2 rfl) (by decide) ?_
  | refine wg_name (i := 15) (by assumption) rfl (loc2 rfl) (by decide) ?_
  | refine wg_name (i := 16) (by assumption) rfl (loc2 rfl) (by decide) ?_
  | refine wg_name (i := 17) (by assumption) rfl (loc2 rfl) (by decide) ?_
  | refine wg_name (i := 18) (by assumption) rfl (loc2 rfl) (by decide) ?_
  | refine wg_name (i := 19) (by assumption) rfl (loc2 rfl) (by decide) ?_
  | refine wg_name (i := 20) (by assumption) rfl (loc2 rfl) (by decide) ?_)
local macro_rules | `(tactic| walk_at "side") => `(tactic| first | exact rfl | exact Nat.le_trans (m := 1000) (Nat.le_of_ble_eq_true rfl) sz1000 | omega | decide | assumption)
local macro_rules | `(tactic| walk_at "we") => `(tactic| first
  | (refine isName ?_; walk_at "v")
  | refine we_int ?_ | refine we_bl ?_ | refine we_non ?_ | refine we_str ?_
  | refine we_ix ?_
  | refine we_addG ?_ | refine we_sub ?_ | refine we_mulG ?_ | refine we_div ?_ | refine we_mod ?_ | refine we_pow ?_ | refine we_neg ?_
  | refine we_gt ?_ | refine we_lt ?_ | refine we_ge ?_ | refine we_le ?_
  | refine we_tup ?_ | refine we_lst ?_ | refine we_dict0 ?_
  | refine we_len (by assumption) rfl ?_ | refine we_slG ?_ | refine we_eqG (by assumption) ?_ | refine we_neG (by assumption) ?_ | refine we_not ?_ | refine we_one ?_ | refine we_and ?_ | refine we_or ?_
  | refine we_call2 (by assumption) (by assumption) (by assumption) (by decide) rfl ?_)
local macro_rules | `(tactic| walk_at "wt") => `(tactic| first
  | refine wt_gt ?_ | refine wt_lt ?_ | refine wt_ge ?_ | refine wt_le ?_ | refine wt_not ?_
  | refine wt_eqG (by assumption) ?_ | refine wt_neG (by assumption) ?_ | refine wt_bool ?_ | refine wt_val ?_)
local macro_rules | `(tactic| walk_at "ws") => `(tactic| first
  | refine ws_ret ?_ | (refine isSet ?_; walk_at "si") | refine ws_if ?_
  | refine ws_append (pe_bm PySem.F.plainAttrs_list PySem.F.slot_list_append PySem.F.type_list_append mt_append pe_m (pa_cons pe_m pa_nil)) ?_
  | refine ws_continue ?_ | refine ws_break ?_ | refine ws_pass ?_)
local macro_rules | `(tactic| walk_at "l") => `(tactic| first
  | refine And.intro (Exists.intro _ rfl) ?_
  | refine And.intro trivial ?_
  | refine Exists.intro _ (And.intro rfl ?_)
  | refine Exists.intro _ (Exists.intro _ (And.intro rfl (And.intro rfl ?_)))
  | refine And.intro (And.intro (by walk_at "side") (by walk_at "side") : CDiv _ _) ?_
  | refine And.intro (.inl (And.intro (by walk_at "side") (by walk_at "side")) : CMul _ _) ?_
  | refine And.intro (.inr (And.intro (by walk_at "side") (by walk_at "side")) : CMul _ _) ?_
  | refine And.intro (And.intro (List.cons_ne_nil _ _) (And.intro (by walk_at "side") (And.intro (by walk_at "side") (by walk_at "side")))) ?_
  | refine And.intro (by walk_at "side") ?_)
local macro_rules | `(tactic| walk_at "step") => `(tactic| first
  | (refine isWE ?_; walk_at "we")
  | (refine isWT ?_; walk_at "wt")
  | (refine isWSs ?_; first | refine wss_nil ?_ | refine wss_one ?_ | refine wss_cons ?_)
  | (refine isWS ?_; walk_at "ws")
  | (refine isWDs ?_; first | refine wds_nil ?_ | refine wds_cons ?_)
  | (refine isWW ?_; first | refine ww_and1 ?_ | refine ww_or1 ?_ | refine ww_and ?_ | refine ww_or ?_)
  | refine allB_i fun _ _ _ _ _ => ?_
  | refine asI_i (allB_i fun _ _ _ _ _ => ?_)
  | (refine isWG ?_; first | walk_at "gi" | refine wg_tup rfl ?_ rfl)
  | (refine isWGs ?_; first | refine wgs_nil ?_ | refine wgs_consN ?_)
  | (refine isWO ?_; first | refine wo_none ?_ | refine wo_some ?_)
  | (refine isWA ?_; first | refine wa_nil ?_ | refine wa_cons ?_)
  | walk_at "l")
local macro_rules | `(tactic| walk_at "go") => `(tactic| repeat (walk_at "step"))
theorem tabs_none {K : PySem.W.Frag} {h : Heap} (z : PySem.W.nsIn K mainGlobals "closed_of" = some none) : TabsIn K h := by
  have e : PySem.W.tabIn K "closed_of" = none := by
    unfold PySem.W.tabIn
    rw [z]
  have none : ∀ b, b ∉ tabAt K := fun b hb => by
    obtain ⟨x, hx, c, e2⟩ := tabAt_of hb
    rw [List.mem_singleton.mp hx, e] at e2
    cases e2
  refine ⟨fun b hb => (none b hb).elim, fun b hb => (none b hb).elim, fun x hx c P e2 => ?_⟩
  rw [List.mem_singleton.mp hx, e] at e2
  cases e2
set_option maxHeartbeats 8000000 in
theorem all_mk {w : World} {K : PySem.W.Frag} {h : Heap} {mg : Str → Option Value} {fa : Addr} (X : K.In h) (G : h.Ns mainGlobals mg) (hfa : mg "law" = some (.ref fa))
    {f15 f16 f17 f18 f19 f20 f21 f22 f23 f24 f25 f26 f28 f30 f31 f32 f33 f34 f35 f36 f37 f38 f39 f40 f41 f42 f43 f44 f45 f46 f48 f49 f50 f51 f52 : Addr} {od15 an15 od16 an16 od17 an17 od18 an18 od19 an19 od20 an20 od21 an21 od22 an22 od23 an23 od24 an24 od25 an25 od26 an26 od28 an28 od30 an30 od31 an31 od32 an32 od33 an33 od34 an34 od35 an35 od36 an36 od37 an37 od38 an38 od39 an39 od40 an40 od41 an41 od42 an42 od43 an43 od44 an44 od45 an45 od46 an46 od48 an48 od49 an49 od50 an50 od51 an51 od52 an52 : Option Addr} {sl15 sl16 sl17 sl18 sl19 sl20 sl21 sl22 sl23 sl24 sl25 sl26 sl28 sl30 sl31 sl32 sl33 sl34 sl35 sl36 sl37 sl38 sl39 sl40 sl41 sl42 sl43 sl44 sl45 sl46 sl48 sl49 sl50 sl51 sl52 : Array (Option Value)} {oc15 kV15 dc15 pm15 cd15 ct15 oc16 kV16 dc16 pm16 cd16 ct16 oc17 kV17 dc17 pm17 cd17 ct17 oc18 kV18 dc18 pm18 cd18 ct18 oc19 kV19 dc19 pm19 cd19 ct19 oc20 kV20 dc20 pm20 cd20 ct20 oc21 kV21 dc21 pm21 cd21 ct21 oc22 kV22 dc22 pm22 cd22 ct22 oc23 kV23 dc23 pm23 cd23 ct23 oc24 kV24 dc24 pm24 cd24 ct24 oc25 kV25 dc25 pm25 cd25 ct25 oc26 kV26 dc26 pm26 cd26 ct26 oc28 kV28 dc28 pm28 cd28 ct28 oc30 kV30 dc30 pm30 cd30 ct30 oc31 kV31 dc31 pm31 cd31 ct31 oc32 kV32 dc32 pm32 cd32 ct32 oc33 kV33 dc33 pm33 cd33 ct33 oc34 kV34 dc34 pm34 cd34 ct34 oc35 kV35 dc35 pm35 cd35 ct35 oc36 kV36 dc36 pm36 cd36 ct36 oc37 kV37 dc37 pm37 cd37 ct37 oc38 kV38 dc38 pm38 cd38 ct38 oc39 kV39 dc39 pm39 cd39 ct39 oc40 kV40 dc40 pm40 cd40 ct40 oc41 kV41 dc41 pm41 cd41 ct41 oc42 kV42 dc42 pm42 cd42 ct42 oc43 kV43 dc43 pm43 cd43 ct43 oc44 kV44 dc44 pm44 cd44 ct44 oc45 kV45 dc45 pm45 cd45 ct45 oc46 kV46 dc46 pm46 cd46 ct46 oc48 kV48 dc48 pm48 cd48 ct48 oc49 kV49 dc49 pm49 cd49 ct49 oc50 kV50 dc50 pm50 cd50 ct50 oc51 kV51 dc51 pm51 cd51 ct51 oc52 kV52 dc52 pm52 cd52 ct52 : Value} {u_LEAST_NODES u_MOST_NODES u_LEAST_PAGES u_MOST_PAGES u_MOST_LINKS u_MOST_PAGES_OF_A_NODE u_SLOTS_OF_DATA u_LONGEST_NAME u_LONGEST_TEXT : Value}
    (a15 : PySem.W.nsIn K mainGlobals "is_whole" = some (some (.ref f15))) (l15 : K.lookup f15 = some ⟨oc15, od15, .func (PySem.W.fnOf "is_whole" "is_whole" (defArgs (topS 15)) (defBody (topS 15)) (defScope (topS 15)) .none kV15 dc15 pm15 an15 cd15 ct15), sl15⟩) (c15 : PySem.W.codeIn K cd15 "is_whole" = true) (k15 : PySem.W.keepIn K (.ref f15) = true)
    (a16 : PySem.W.nsIn K mainGlobals "is_within" = some (some (.ref f16))) (l16 : K.lookup f16 = some ⟨oc16, od16, .func (PySem.W.fnOf "is_within" "is_within" (defArgs (topS 16)) (defBody (topS 16)) (defScope (topS 16)) .none kV16 dc16 pm16 an16 cd16 ct16), sl16⟩) (c16 : PySem.W.codeIn K cd16 "is_within" = true) (k16 : PySem.W.keepIn K (.ref f16) = true)
    (a17 : PySem.W.nsIn K mainGlobals "is_text" = some (some (.ref f17))) (l17 : K.lookup f17 = some ⟨oc17, od17, .func (PySem.W.fnOf "is_text" "is_text" (defArgs (topS 17)) (defBody (topS 17)) (defScope (topS 17)) .none kV17 dc17 pm17 an17 cd17 ct17), sl17⟩) (c17 : PySem.W.codeIn K cd17 "is_text" = true) (k17 : PySem.W.keepIn K (.ref f17) = true)
    (a18 : PySem.W.nsIn K mainGlobals "is_name" = some (some (.ref f18))) (l18 : K.lookup f18 = some ⟨oc18, od18, .func (PySem.W.fnOf "is_name" "is_name" (defArgs (topS 18)) (defBody (topS 18)) (defScope (topS 18)) .none kV18 dc18 pm18 an18 cd18 ct18), sl18⟩) (c18 : PySem.W.codeIn K cd18 "is_name" = true) (k18 : PySem.W.keepIn K (.ref f18) = true)
    (a19 : PySem.W.nsIn K mainGlobals "is_image" = some (some (.ref f19))) (l19 : K.lookup f19 = some ⟨oc19, od19, .func (PySem.W.fnOf "is_image" "is_image" (defArgs (topS 19)) (defBody (topS 19)) (defScope (topS 19)) .none kV19 dc19 pm19 an19 cd19 ct19), sl19⟩) (c19 : PySem.W.codeIn K cd19 "is_image" = true) (k19 : PySem.W.keepIn K (.ref f19) = true)
    (a20 : PySem.W.nsIn K mainGlobals "first_image" = some (some (.ref f20))) (l20 : K.lookup f20 = some ⟨oc20, od20, .func (PySem.W.fnOf "first_image" "first_image" (defArgs (topS 20)) (defBody (topS 20)) (defScope (topS 20)) .none kV20 dc20 pm20 an20 cd20 ct20), sl20⟩) (c20 : PySem.W.codeIn K cd20 "first_image" = true) (k20 : PySem.W.keepIn K (.ref f20) = true)
    (a21 : PySem.W.nsIn K mainGlobals "_is_row" = some (some (.ref f21))) (l21 : K.lookup f21 = some ⟨oc21, od21, .func (PySem.W.fnOf "_is_row" "_is_row" (defArgs (topS 21)) (defBody (topS 21)) (defScope (topS 21)) .none kV21 dc21 pm21 an21 cd21 ct21), sl21⟩) (c21 : PySem.W.codeIn K cd21 "_is_row" = true) (k21 : PySem.W.keepIn K (.ref f21) = true)
    (a22 : PySem.W.nsIn K mainGlobals "_is_node" = some (some (.ref f22))) (l22 : K.lookup f22 = some ⟨oc22, od22, .func (PySem.W.fnOf "_is_node" "_is_node" (defArgs (topS 22)) (defBody (topS 22)) (defScope (topS 22)) .none kV22 dc22 pm22 an22 cd22 ct22), sl22⟩) (c22 : PySem.W.codeIn K cd22 "_is_node" = true) (k22 : PySem.W.keepIn K (.ref f22) = true)
    (a23 : PySem.W.nsIn K mainGlobals "_is_kind" = some (some (.ref f23))) (l23 : K.lookup f23 = some ⟨oc23, od23, .func (PySem.W.fnOf "_is_kind" "_is_kind" (defArgs (topS 23)) (defBody (topS 23)) (defScope (topS 23)) .none kV23 dc23 pm23 an23 cd23 ct23), sl23⟩) (c23 : PySem.W.codeIn K cd23 "_is_kind" = true) (k23 : PySem.W.keepIn K (.ref f23) = true)
    (a24 : PySem.W.nsIn K mainGlobals "_is_data" = some (some (.ref f24))) (l24 : K.lookup f24 = some ⟨oc24, od24, .func (PySem.W.fnOf "_is_data" "_is_data" (defArgs (topS 24)) (defBody (topS 24)) (defScope (topS 24)) .none kV24 dc24 pm24 an24 cd24 ct24), sl24⟩) (c24 : PySem.W.codeIn K cd24 "_is_data" = true) (k24 : PySem.W.keepIn K (.ref f24) = true)
    (a25 : PySem.W.nsIn K mainGlobals "_is_entry" = some (some (.ref f25))) (l25 : K.lookup f25 = some ⟨oc25, od25, .func (PySem.W.fnOf "_is_entry" "_is_entry" (defArgs (topS 25)) (defBody (topS 25)) (defScope (topS 25)) .none kV25 dc25 pm25 an25 cd25 ct25), sl25⟩) (c25 : PySem.W.codeIn K cd25 "_is_entry" = true) (k25 : PySem.W.keepIn K (.ref f25) = true)
    (a26 : PySem.W.nsIn K mainGlobals "_are_none" = some (some (.ref f26))) (l26 : K.lookup f26 = some ⟨oc26, od26, .func (PySem.W.fnOf "_are_none" "_are_none" (defArgs (topS 26)) (defBody (topS 26)) (defScope (topS 26)) .none kV26 dc26 pm26 an26 cd26 ct26), sl26⟩) (c26 : PySem.W.codeIn K cd26 "_are_none" = true) (k26 : PySem.W.keepIn K (.ref f26) = true)
    (a28 : PySem.W.nsIn K mainGlobals "reached" = some (some (.ref f28))) (l28 : K.lookup f28 = some ⟨oc28, od28, .func (PySem.W.fnOf "reached" "reached" (defArgs (topS 28)) (defBody (topS 28)) (defScope (topS 28)) .none kV28 dc28 pm28 an28 cd28 ct28), sl28⟩) (c28 : PySem.W.codeIn K cd28 "reached" = true) (k28 : PySem.W.keepIn K (.ref f28) = true)
    (a30 : PySem.W.nsIn K mainGlobals "come_to" = some (some (.ref f30))) (l30 : K.lookup f30 = some ⟨oc30, od30, .func (PySem.W.fnOf "come_to" "come_to" (defArgs (topS 30)) (defBody (topS 30)) (defScope (topS 30)) .none kV30 dc30 pm30 an30 cd30 ct30), sl30⟩) (c30 : PySem.W.codeIn K cd30 "come_to" = true) (k30 : PySem.W.keepIn K (.ref f30) = true)
    (a31 : PySem.W.nsIn K mainGlobals "breaks" = some (some (.ref f31))) (l31 : K.lookup f31 = some ⟨oc31, od31, .func (PySem.W.fnOf "breaks" "breaks" (defArgs (topS 31)) (defBody (topS 31)) (defScope (topS 31)) .none kV31 dc31 pm31 an31 cd31 ct31), sl31⟩) (c31 : PySem.W.codeIn K cd31 "breaks" = true) (k31 : PySem.W.keepIn K (.ref f31) = true)
    (a32 : PySem.W.nsIn K mainGlobals "leaks" = some (some (.ref f32))) (l32 : K.lookup f32 = some ⟨oc32, od32, .func (PySem.W.fnOf "leaks" "leaks" (defArgs (topS 32)) (defBody (topS 32)) (defScope (topS 32)) .none kV32 dc32 pm32 an32 cd32 ct32), sl32⟩) (c32 : PySem.W.codeIn K cd32 "leaks" = true) (k32 : PySem.W.keepIn K (.ref f32) = true)
    (a33 : PySem.W.nsIn K mainGlobals "names_of" = some (some (.ref f33))) (l33 : K.lookup f33 = some ⟨oc33, od33, .func (PySem.W.fnOf "names_of" "names_of" (defArgs (topS 33)) (defBody (topS 33)) (defScope (topS 33)) .none kV33 dc33 pm33 an33 cd33 ct33), sl33⟩) (c33 : PySem.W.codeIn K cd33 "names_of" = true) (k33 : PySem.W.keepIn K (.ref f33) = true)
    (a34 : PySem.W.nsIn K mainGlobals "_is_folder" = some (some (.ref f34))) (l34 : K.lookup f34 = some ⟨oc34, od34, .func (PySem.W.fnOf "_is_folder" "_is_folder" (defArgs (topS 34)) (defBody (topS 34)) (defScope (topS 34)) .none kV34 dc34 pm34 an34 cd34 ct34), sl34⟩) (c34 : PySem.W.codeIn K cd34 "_is_folder" = true) (k34 : PySem.W.keepIn K (.ref f34) = true)
    (a35 : PySem.W.nsIn K mainGlobals "_all_kids" = some (some (.ref f35))) (l35 : K.lookup f35 = some ⟨oc35, od35, .func (PySem.W.fnOf "_all_kids" "_all_kids" (defArgs (topS 35)) (defBody (topS 35)) (defScope (topS 35)) .none kV35 dc35 pm35 an35 cd35 ct35), sl35⟩) (c35 : PySem.W.codeIn K cd35 "_all_kids" = true) (k35 : PySem.W.keepIn K (.ref f35) = true)
    (a36 : PySem.W.nsIn K mainGlobals "_pointed_to" = some (some (.ref f36))) (l36 : K.lookup f36 = some ⟨oc36, od36, .func (PySem.W.fnOf "_pointed_to" "_pointed_to" (defArgs (topS 36)) (defBody (topS 36)) (defScope (topS 36)) .none kV36 dc36 pm36 an36 cd36 ct36), sl36⟩) (c36 : PySem.W.codeIn K cd36 "_pointed_to" = true) (k36 : PySem.W.keepIn K (.ref f36) = true)
    (a37 : PySem.W.nsIn K mainGlobals "_nodes_that_are_none" = some (some (.ref f37))) (l37 : K.lookup f37 = some ⟨oc37, od37, .func (PySem.W.fnOf "_nodes_that_are_none" "_nodes_that_are_none" (defArgs (topS 37)) (defBody (topS 37)) (defScope (topS 37)) .none kV37 dc37 pm37 an37 cd37 ct37), sl37⟩) (c37 : PySem.W.codeIn K cd37 "_nodes_that_are_none" = true) (k37 : PySem.W.keepIn K (.ref f37) = true)
    (a38 : PySem.W.nsIn K mainGlobals "_pages_that_are_none" = some (some (.ref f38))) (l38 : K.lookup f38 = some ⟨oc38, od38, .func (PySem.W.fnOf "_pages_that_are_none" "_pages_that_are_none" (defArgs (topS 38)) (defBody (topS 38)) (defScope (topS 38)) .none kV38 dc38 pm38 an38 cd38 ct38), sl38⟩) (c38 : PySem.W.codeIn K cd38 "_pages_that_are_none" = true) (k38 : PySem.W.keepIn K (.ref f38) = true)
    (a39 : PySem.W.nsIn K mainGlobals "_pages_of_two" = some (some (.ref f39))) (l39 : K.lookup f39 = some ⟨oc39, od39, .func (PySem.W.fnOf "_pages_of_two" "_pages_of_two" (defArgs (topS 39)) (defBody (topS 39)) (defScope (topS 39)) .none kV39 dc39 pm39 an39 cd39 ct39), sl39⟩) (c39 : PySem.W.codeIn K cd39 "_pages_of_two" = true) (k39 : PySem.W.keepIn K (.ref f39) = true)
    (a40 : PySem.W.nsIn K mainGlobals "_links_beyond" = some (some (.ref f40))) (l40 : K.lookup f40 = some ⟨oc40, od40, .func (PySem.W.fnOf "_links_beyond" "_links_beyond" (defArgs (topS 40)) (defBody (topS 40)) (defScope (topS 40)) .none kV40 dc40 pm40 an40 cd40 ct40), sl40⟩) (c40 : PySem.W.codeIn K cd40 "_links_beyond" = true) (k40 : PySem.W.keepIn K (.ref f40) = true)
    (a41 : PySem.W.nsIn K mainGlobals "_links_too_few" = some (some (.ref f41))) (l41 : K.lookup f41 = some ⟨oc41, od41, .func (PySem.W.fnOf "_links_too_few" "_links_too_few" (defArgs (topS 41)) (defBody (topS 41)) (defScope (topS 41)) .none kV41 dc41 pm41 an41 cd41 ct41), sl41⟩) (c41 : PySem.W.codeIn K cd41 "_links_too_few" = true) (k41 : PySem.W.keepIn K (.ref f41) = true)
    (a42 : PySem.W.nsIn K mainGlobals "_names_that_stand_twice" = some (some (.ref f42))) (l42 : K.lookup f42 = some ⟨oc42, od42, .func (PySem.W.fnOf "_names_that_stand_twice" "_names_that_stand_twice" (defArgs (topS 42)) (defBody (topS 42)) (defScope (topS 42)) .none kV42 dc42 pm42 an42 cd42 ct42), sl42⟩) (c42 : PySem.W.codeIn K cd42 "_names_that_stand_twice" = true) (k42 : PySem.W.keepIn K (.ref f42) = true)
    (a43 : PySem.W.nsIn K mainGlobals "_folders_within_themselves" = some (some (.ref f43))) (l43 : K.lookup f43 = some ⟨oc43, od43, .func (PySem.W.fnOf "_folders_within_themselves" "_folders_within_themselves" (defArgs (topS 43)) (defBody (topS 43)) (defScope (topS 43)) .none kV43 dc43 pm43 an43 cd43 ct43), sl43⟩) (c43 : PySem.W.codeIn K cd43 "_folders_within_themselves" = true) (k43 : PySem.W.keepIn K (.ref f43) = true)
    (a44 : PySem.W.nsIn K mainGlobals "_bits_of_none" = some (some (.ref f44))) (l44 : K.lookup f44 = some ⟨oc44, od44, .func (PySem.W.fnOf "_bits_of_none" "_bits_of_none" (defArgs (topS 44)) (defBody (topS 44)) (defScope (topS 44)) .none kV44 dc44 pm44 an44 cd44 ct44), sl44⟩) (c44 : PySem.W.codeIn K cd44 "_bits_of_none" = true) (k44 : PySem.W.keepIn K (.ref f44) = true)
    (a45 : PySem.W.nsIn K mainGlobals "_nodes_of_none" = some (some (.ref f45))) (l45 : K.lookup f45 = some ⟨oc45, od45, .func (PySem.W.fnOf "_nodes_of_none" "_nodes_of_none" (defArgs (topS 45)) (defBody (topS 45)) (defScope (topS 45)) .none kV45 dc45 pm45 an45 cd45 ct45), sl45⟩) (c45 : PySem.W.codeIn K cd45 "_nodes_of_none" = true) (k45 : PySem.W.keepIn K (.ref f45) = true)
    (a46 : PySem.W.nsIn K mainGlobals "_links_too_many" = some (some (.ref f46))) (l46 : K.lookup f46 = some ⟨oc46, od46, .func (PySem.W.fnOf "_links_too_many" "_links_too_many" (defArgs (topS 46)) (defBody (topS 46)) (defScope (topS 46)) .none kV46 dc46 pm46 an46 cd46 ct46), sl46⟩) (c46 : PySem.W.codeIn K cd46 "_links_too_many" = true) (k46 : PySem.W.keepIn K (.ref f46) = true)
    (a48 : PySem.W.nsIn K mainGlobals "_law_pool" = some (some (.ref f48))) (l48 : K.lookup f48 = some ⟨oc48, od48, .func (PySem.W.fnOf "_law_pool" "_law_pool" (defArgs (topS 48)) (defBody (topS 48)) (defScope (topS 48)) .none kV48 dc48 pm48 an48 cd48 ct48), sl48⟩) (c48 : PySem.W.codeIn K cd48 "_law_pool" = true) (k48 : PySem.W.keepIn K (.ref f48) = true)
    (a49 : PySem.W.nsIn K mainGlobals "_law_draw" = some (some (.ref f49))) (l49 : K.lookup f49 = some ⟨oc49, od49, .func (PySem.W.fnOf "_law_draw" "_law_draw" (defArgs (topS 49)) (defBody (topS 49)) (defScope (topS 49)) .none kV49 dc49 pm49 an49 cd49 ct49), sl49⟩) (c49 : PySem.W.codeIn K cd49 "_law_draw" = true) (k49 : PySem.W.keepIn K (.ref f49) = true)
    (a50 : PySem.W.nsIn K mainGlobals "_law_number" = some (some (.ref f50))) (l50 : K.lookup f50 = some ⟨oc50, od50, .func (PySem.W.fnOf "_law_number" "_law_number" (defArgs (topS 50)) (defBody (topS 50)) (defScope (topS 50)) .none kV50 dc50 pm50 an50 cd50 ct50), sl50⟩) (c50 : PySem.W.codeIn K cd50 "_law_number" = true) (k50 : PySem.W.keepIn K (.ref f50) = true)
    (a51 : PySem.W.nsIn K mainGlobals "_law_from" = some (some (.ref f51))) (l51 : K.lookup f51 = some ⟨oc51, od51, .func (PySem.W.fnOf "_law_from" "_law_from" (defArgs (topS 51)) (defBody (topS 51)) (defScope (topS 51)) .none kV51 dc51 pm51 an51 cd51 ct51), sl51⟩) (c51 : PySem.W.codeIn K cd51 "_law_from" = true) (k51 : PySem.W.keepIn K (.ref f51) = true)
    (a52 : PySem.W.nsIn K mainGlobals "law" = some (some (.ref f52))) (l52 : K.lookup f52 = some ⟨oc52, od52, .func (PySem.W.fnOf "law" "law" (defArgs (topS 52)) (defBody (topS 52)) (defScope (topS 52)) .none kV52 dc52 pm52 an52 cd52 ct52), sl52⟩) (c52 : PySem.W.codeIn K cd52 "law" = true) (k52 : PySem.W.keepIn K (.ref f52) = true)
    (g_LEAST_NODES : PySem.W.nsIn K mainGlobals "LEAST_NODES" = some (some u_LEAST_NODES)) (r_LEAST_NODES : L2.RelV (.int 2) u_LEAST_NODES)
    (g_MOST_NODES : PySem.W.nsIn K mainGlobals "MOST_NODES" = some (some u_MOST_NODES)) (r_MOST_NODES : L2.RelV (.int 16) u_MOST_NODES)
    (g_LEAST_PAGES : PySem.W.nsIn K mainGlobals "LEAST_PAGES" = some (some u_LEAST_PAGES)) (r_LEAST_PAGES : L2.RelV (.int 1) u_LEAST_PAGES)
    (g_MOST_PAGES : PySem.W.nsIn K mainGlobals "MOST_PAGES" = some (some u_MOST_PAGES)) (r_MOST_PAGES : L2.RelV (.int 16) u_MOST_PAGES)
    (g_MOST_LINKS : PySem.W.nsIn K mainGlobals "MOST_LINKS" = some (some u_MOST_LINKS)) (r_MOST_LINKS : L2.RelV (.int 99) u_MOST_LINKS)
    (g_MOST_PAGES_OF_A_NODE : PySem.W.nsIn K mainGlobals "MOST_PAGES_OF_A_NODE" = some (some u_MOST_PAGES_OF_A_NODE)) (r_MOST_PAGES_OF_A_NODE : L2.RelV (.int 3) u_MOST_PAGES_OF_A_NODE)
    (g_SLOTS_OF_DATA : PySem.W.nsIn K mainGlobals "SLOTS_OF_DATA" = some (some u_SLOTS_OF_DATA)) (r_SLOTS_OF_DATA : L2.RelV (.int 5) u_SLOTS_OF_DATA)
    (g_LONGEST_NAME : PySem.W.nsIn K mainGlobals "LONGEST_NAME" = some (some u_LONGEST_NAME)) (r_LONGEST_NAME : L2.RelV (.int 8) u_LONGEST_NAME)
    (g_LONGEST_TEXT : PySem.W.nsIn K mainGlobals "LONGEST_TEXT" = some (some u_LONGEST_TEXT)) (r_LONGEST_TEXT : L2.RelV (.int 40) u_LONGEST_TEXT)
    {C C2 C3 C4 fI xN : Addr} {xnm xq iq : Str} {xbs xsub : List Value} {xsn : List Str} {xab : Bool} {xcol : Option Bool} {xdd iod ian : Option Addr} {xk0 xk1 xk2 xk3 xk5 : Option Value} {ioc idoc ipm icdv ict : Value} {iosl : Array (Option Value)}
    (gC : PySem.W.nsIn K mainGlobals "NoSize" = some (some (.ref C)))
    (gC2 : PySem.W.nsIn K mainGlobals "Broken" = some (some (.ref C2)))
    (gC3 : PySem.W.nsIn K mainGlobals "NoDeed" = some (some (.ref C3)))
    (gC4 : PySem.W.nsIn K mainGlobals "NoText" = some (some (.ref C4)))
    (xsa : PySem.W.findIn K (.ref C) "__setattr__" = some (some (.builtin "object.__setattr__")))
    (xtk : PySem.W.takerIn K C "number" = some none)
    (xhd : PySem.W.hasDictIn K C = true)
    (xkC : PySem.W.keepIn K (.ref C) = true)
    (xex : PySem.W.subIn K (.ref C) (.type "BaseException") = some true)
    (xty : PySem.W.typeIn K (.ref C) = some (.type "type"))
    (xov : PySem.W.excOver K C [.type "ValueError", .type "Exception", .type "BaseException", .type "object"] = true)
    (xcl : K.lookup C = some (excClassObj xnm xq C xN xbs [.type "ValueError", .type "Exception", .type "BaseException", .type "object"] true xsn xsub xab xcol xdd xk0 xk1 xk2 xk3 xk5 "ValueError.__new__"))
    (xfI : PySem.W.findIn K (.ref C) "__init__" = some (some (.ref fI)))
    (xtI : PySem.W.typeIn K (.ref fI) = some (.type "function"))
    (xlI : K.lookup fI = some ⟨ioc, iod, .func (PySem.W.fnOf "__init__" iq (defArgs (inner 1)) (defBody (inner 1)) (defScope (inner 1)) .none .none idoc ipm ian icdv ict), iosl⟩)
    (xcI : PySem.W.codeIn K icdv iq = true)
    (yga : PySem.W.findIn K (.ref C) "__getattribute__" = some (some (.builtin "BaseException.__getattribute__")))
    (ygg : PySem.W.findIn K (.ref C) "__getattr__" = some none)
    (ynF : PySem.W.findIn K (.ref C) "number" = some none)
    (yha : PySem.W.findIn K (.ref C) "__class__" = some (some (.builtin "object.__class__")))
    (yhn : PySem.W.specialIn K (.builtin "object.__class__") "__get__" = some (some (.builtin "getset_descriptor.__get__")))
    (yht : PySem.W.takesIn K (.builtin "object.__class__") = some true)
    (yhm : PySem.W.mroIn K C (.type "object") = some true)
    (yte : PySem.W.exmOne K (.ref C) (.ref C) = some true)
    (ykL : PySem.W.kitOne K (.ref C) (.type "ValueError") = some true)
    (ykN : PySem.W.kitAny K (.ref C) [.ref C2, .ref C3, .ref C4] = some false)
    (z_all : PySem.W.nsIn K mainGlobals "all" = some none) (z_len : PySem.W.nsIn K mainGlobals "len" = some none) (z_max : PySem.W.nsIn K mainGlobals "max" = some none) (z_min : PySem.W.nsIn K mainGlobals "min" = some none) (z_int : PySem.W.nsIn K mainGlobals "int" = some none) (z_bool : PySem.W.nsIn K mainGlobals "bool" = some none) (z_str : PySem.W.nsIn K mainGlobals "str" = some none) (z_range : PySem.W.nsIn K mainGlobals "range" = some none) (z_tuple : PySem.W.nsIn K mainGlobals "tuple" = some none) (z_list : PySem.W.nsIn K mainGlobals "list" = some none) (z_repr : PySem.W.nsIn K mainGlobals "repr" = some none) (z_isinstance : PySem.W.nsIn K mainGlobals "isinstance" = some none) (z_sorted : PySem.W.nsIn K mainGlobals "sorted" = some none) (z_set : PySem.W.nsIn K mainGlobals "set" = some none) (z_enumerate : PySem.W.nsIn K mainGlobals "enumerate" = some none) (z_ValueError : PySem.W.nsIn K mainGlobals "ValueError" = some none) :
    ∃ fd : FuncData, (∀ (s : Shared) (v : Value), BindsTo s fd ⟨[v], []⟩ [("_law_script", v)]) ∧ ∀ base : Heap, K.In base → base.Ns mainGlobals mg → TabBs K mg base → FnG PySem.Challenge.rw_writeorders_k02_first_images.prog w K mg base CX0 7 fa fd ["_law_script"] (liftS K sLaw) := by
  have e := hfa.symm.trans (PySem.W.mg_of X G a52)
  cases e
  have F15 := fun_mk (st := topS 15) l15 c15 k15
  have b15 := F15.binds (ps := ["thing"]) fun _ _ _ _ _ _ us hl => match us, hl with | [_], _ => rfl
  have m15 := PySem.W.mg_of X G a15
  have F16 := fun_mk (st := topS 16) l16 c16 k16
  have b16 := F16.binds (ps := ["thing", "least", "most"]) fun _ _ _ _ _ _ us hl => match us, hl with | [_, _, _], _ => rfl
  have m16 := PySem.W.mg_of X G a16
  have F17 := fun_mk (st := topS 17) l17 c17 k17
  have b17 := F17.binds (ps := ["thing"]) fun _ _ _ _ _ _ us hl => match us, hl with | [_], _ => rfl
  have m17 := PySem.W.mg_of X G a17
  have F18 := fun_mk (st := topS 18) l18 c18 k18
  have b18 := F18.binds (ps := ["thing"]) fun _ _ _ _ _ _ us hl => match us, hl with | [_], _ => rfl
  have m18 := PySem.W.mg_of X G a18
  have F19 := fun_mk (st := topS 19) l19 c19 k19
  have b19 := F19.binds (ps := ["thing"]) fun _ _ _ _ _ _ us hl => match us, hl with | [_], _ => rfl
  have m19 := PySem.W.mg_of X G a19
  have F20 := fun_mk (st := topS 20) l20 c20 k20
  have b20 := F20.binds (ps := ["nodes", "pages"]) fun _ _ _ _ _ _ us hl => match us, hl with | [_, _], _ => rfl
  have m20 := PySem.W.mg_of X G a20
  have F21 := fun_mk (st := topS 21) l21 c21 k21
  have b21 := F21.binds (ps := ["thing", "least", "most"]) fun _ _ _ _ _ _ us hl => match us, hl with | [_, _, _], _ => rfl
  have m21 := PySem.W.mg_of X G a21
  have F22 := fun_mk (st := topS 22) l22 c22 k22
  have b22 := F22.binds (ps := ["thing", "pages"]) fun _ _ _ _ _ _ us hl => match us, hl with | [_, _], _ => rfl
  have m22 := PySem.W.mg_of X G a22
  have F23 := fun_mk (st := topS 23) l23 c23 k23
  have b23 := F23.binds (ps := ["thing"]) fun _ _ _ _ _ _ us hl => match us, hl with | [_], _ => rfl
  have m23 := PySem.W.mg_of X G a23
  have F24 := fun_mk (st := topS 24) l24 c24 k24
  have b24 := F24.binds (ps := ["thing", "nodes"]) fun _ _ _ _ _ _ us hl => match us, hl with | [_, _], _ => rfl
  have m24 := PySem.W.mg_of X G a24
  have F25 := fun_mk (st := topS 25) l25 c25 k25
  have b25 := F25.binds (ps := ["thing", "nodes"]) fun _ _ _ _ _ _ us hl => match us, hl with | [_, _], _ => rfl
  have m25 := PySem.W.mg_of X G a25
  have F26 := fun_mk (st := topS 26) l26 c26 k26
  have b26 := F26.binds (ps := ["slots"]) fun _ _ _ _ _ _ us hl => match us, hl with | [_], _ => rfl
  have m26 := PySem.W.mg_of X G a26
  have F28 := fun_mk (st := topS 28) l28 c28 k28
  have b28 := F28.binds (ps := ["kids", "starts"]) fun _ _ _ _ _ _ us hl => match us, hl with | [_, _], _ => rfl
  have m28 := PySem.W.mg_of X G a28
  have F30 := fun_mk (st := topS 30) l30 c30 k30
  have b30 := F30.binds (ps := ["image"]) fun _ _ _ _ _ _ us hl => match us, hl with | [_], _ => rfl
  have m30 := PySem.W.mg_of X G a30
  have F31 := fun_mk (st := topS 31) l31 c31 k31
  have b31 := F31.binds (ps := ["image"]) fun _ _ _ _ _ _ us hl => match us, hl with | [_], _ => rfl
  have m31 := PySem.W.mg_of X G a31
  have F32 := fun_mk (st := topS 32) l32 c32 k32
  have b32 := F32.binds (ps := ["image"]) fun _ _ _ _ _ _ us hl => match us, hl with | [_], _ => rfl
  have m32 := PySem.W.mg_of X G a32
  have F33 := fun_mk (st := topS 33) l33 c33 k33
  have b33 := F33.binds (ps := ["image", "node"]) fun _ _ _ _ _ _ us hl => match us, hl with | [_, _], _ => rfl
  have m33 := PySem.W.mg_of X G a33
  have F34 := fun_mk (st := topS 34) l34 c34 k34
  have b34 := F34.binds (ps := ["image", "node"]) fun _ _ _ _ _ _ us hl => match us, hl with | [_, _], _ => rfl
  have m34 := PySem.W.mg_of X G a34
  have F35 := fun_mk (st := topS 35) l35 c35 k35
  have b35 := F35.binds (ps := ["image"]) fun _ _ _ _ _ _ us hl => match us, hl with | [_], _ => rfl
  have m35 := PySem.W.mg_of X G a35
  have F36 := fun_mk (st := topS 36) l36 c36 k36
  have b36 := F36.binds (ps := ["image", "nodes"]) fun _ _ _ _ _ _ us hl => match us, hl with | [_, _], _ => rfl
  have m36 := PySem.W.mg_of X G a36
  have F37 := fun_mk (st := topS 37) l37 c37 k37
  have b37 := F37.binds (ps := ["image", "nodes"]) fun _ _ _ _ _ _ us hl => match us, hl with | [_, _], _ => rfl
  have m37 := PySem.W.mg_of X G a37
  have F38 := fun_mk (st := topS 38) l38 c38 k38
  have b38 := F38.binds (ps := ["image", "nodes"]) fun _ _ _ _ _ _ us hl => match us, hl with | [_, _], _ => rfl
  have m38 := PySem.W.mg_of X G a38
  have F39 := fun_mk (st := topS 39) l39 c39 k39
  have b39 := F39.binds (ps := ["image", "nodes"]) fun _ _ _ _ _ _ us hl => match us, hl with | [_, _], _ => rfl
  have m39 := PySem.W.mg_of X G a39
  have F40 := fun_mk (st := topS 40) l40 c40 k40
  have b40 := F40.binds (ps := ["image", "nodes"]) fun _ _ _ _ _ _ us hl => match us, hl with | [_, _], _ => rfl
  have m40 := PySem.W.mg_of X G a40
  have F41 := fun_mk (st := topS 41) l41 c41 k41
  have b41 := F41.binds (ps := ["image", "nodes"]) fun _ _ _ _ _ _ us hl => match us, hl with | [_, _], _ => rfl
  have m41 := PySem.W.mg_of X G a41
  have F42 := fun_mk (st := topS 42) l42 c42 k42
  have b42 := F42.binds (ps := ["image", "nodes"]) fun _ _ _ _ _ _ us hl => match us, hl with | [_, _], _ => rfl
  have m42 := PySem.W.mg_of X G a42
  have F43 := fun_mk (st := topS 43) l43 c43 k43
  have b43 := F43.binds (ps := ["image", "nodes"]) fun _ _ _ _ _ _ us hl => match us, hl with | [_, _], _ => rfl
  have m43 := PySem.W.mg_of X G a43
  have F44 := fun_mk (st := topS 44) l44 c44 k44
  have b44 := F44.binds (ps := ["image", "nodes"]) fun _ _ _ _ _ _ us hl => match us, hl with | [_, _], _ => rfl
  have m44 := PySem.W.mg_of X G a44
  have F45 := fun_mk (st := topS 45) l45 c45 k45
  have b45 := F45.binds (ps := ["image", "nodes"]) fun _ _ _ _ _ _ us hl => match us, hl with | [_, _], _ => rfl
  have m45 := PySem.W.mg_of X G a45
  have F46 := fun_mk (st := topS 46) l46 c46 k46
  have b46 := F46.binds (ps := ["image", "nodes"]) fun _ _ _ _ _ _ us hl => match us, hl with | [_, _], _ => rfl
  have m46 := PySem.W.mg_of X G a46
  have F48 := fun_mk (st := topS 48) l48 c48 k48
  have b48 := F48.binds (ps := ["_law_script", "_law_k"]) fun _ _ _ _ _ _ us hl => match us, hl with | [_, _], _ => rfl
  have m48 := PySem.W.mg_of X G a48
  have F49 := fun_mk (st := topS 49) l49 c49 k49
  have b49 := F49.binds (ps := ["_law_pool_here", "_law_many"]) fun _ _ _ _ _ _ us hl => match us, hl with | [_, _], _ => rfl
  have m49 := PySem.W.mg_of X G a49
  have F50 := fun_mk (st := topS 50) l50 c50 k50
  have b50 := F50.binds (ps := ["_law_pool_here"]) fun _ _ _ _ _ _ us hl => match us, hl with | [_], _ => rfl
  have m50 := PySem.W.mg_of X G a50
  have F51 := fun_mk (st := topS 51) l51 c51 k51
  have b51 := F51.binds (ps := ["_law_thing", "_law_least", "_law_most"]) fun _ _ _ _ _ _ us hl => match us, hl with | [_, _, _], _ => rfl
  have m51 := PySem.W.mg_of X G a51
  have F52 := fun_mk (st := topS 52) l52 c52 k52
  have m_LEAST_NODES := PySem.W.mg_of X G g_LEAST_NODES
  have m_MOST_NODES := PySem.W.mg_of X G g_MOST_NODES
  have m_LEAST_PAGES := PySem.W.mg_of X G g_LEAST_PAGES
  have m_MOST_PAGES := PySem.W.mg_of X G g_MOST_PAGES
  have m_MOST_LINKS := PySem.W.mg_of X G g_MOST_LINKS
  have m_MOST_PAGES_OF_A_NODE := PySem.W.mg_of X G g_MOST_PAGES_OF_A_NODE
  have m_SLOTS_OF_DATA := PySem.W.mg_of X G g_SLOTS_OF_DATA
  have m_LONGEST_NAME := PySem.W.mg_of X G g_LONGEST_NAME
  have m_LONGEST_TEXT := PySem.W.mg_of X G g_LONGEST_TEXT
  have n_all := PySem.W.mg_none_of X G z_all
  have n_len := PySem.W.mg_none_of X G z_len
  have n_max := PySem.W.mg_none_of X G z_max
  have n_min := PySem.W.mg_none_of X G z_min
  have n_int := PySem.W.mg_none_of X G z_int
  have n_bool := PySem.W.mg_none_of X G z_bool
  have n_str := PySem.W.mg_none_of X G z_str
  have n_range := PySem.W.mg_none_of X G z_range
  have n_tuple := PySem.W.mg_none_of X G z_tuple
  have n_list := PySem.W.mg_none_of X G z_list
  have n_repr := PySem.W.mg_none_of X G z_repr
  have n_isinstance := PySem.W.mg_none_of X G z_isinstance
  have n_sorted := PySem.W.mg_none_of X G z_sorted
  have n_set := PySem.W.mg_none_of X G z_set
  have n_enumerate := PySem.W.mg_none_of X G z_enumerate
  have n_ValueError := PySem.W.mg_none_of X G z_ValueError
  refine ⟨PySem.W.fnOf "law" "law" (defArgs (topS 52)) (defBody (topS 52)) (defScope (topS 52)) .none kV52 dc52 pm52 an52 cd52 ct52, fun s v => .of_eq rfl, fun base _ _ _ => ?_⟩
  have gC := PySem.W.mg_of X G gC
  have T : ErrO K mg "NoSize" "number" (inner 1) C := ⟨gC, ⟨"ValueError", "ValueError.__new__", "ValueError.__init__", _, xnm, xq, xN, xbs, xsn, xsub, xab, xcol, xdd, xk0, xk1, xk2, xk3, xk5, PySem.F.excBase_ValueError, PySem.F.store_ValueError, xov, xcl⟩, xsa, xtk, xhd, xkC, xex, xty, ⟨fI, iq, ioc, iod, idoc, ipm, ian, icdv, ict, iosl, xfI, xtI, xlI, xcI⟩⟩
  have N : NoS K mg C C2 C3 C4 := ⟨T, ⟨yga, ygg, xex, xhd⟩, ynF, ⟨yga, ygg, xex, xhd, yha, yhn, yht, yhm⟩, yte, ykL, PySem.W.mg_of X G gC2, PySem.W.mg_of X G gC3, PySem.W.mg_of X G gC4, ykN⟩
  have cDraw := ok_draw (Pg := PySem.Challenge.rw_writeorders_k02_first_images.prog) (w := w) (base := base) F49 m49 b49
  have cPool := ok_pool (Pg := PySem.Challenge.rw_writeorders_k02_first_images.prog) (w := w) (base := base) F48 m48 b48 n_len n_max n_int
  have cWhole := ok_whole (Pg := PySem.Challenge.rw_writeorders_k02_first_images.prog) (w := w) (base := base) F15 m15 b15 n_isinstance n_int n_bool
  have cWithin := ok_within F16 m16 b16 cWhole
  have cRow := ok_row (Pg := PySem.Challenge.rw_writeorders_k02_first_images.prog) (w := w) (base := base) F21 m21 b21 n_isinstance n_tuple n_len
  have cText := ok_text (Pg := PySem.Challenge.rw_writeorders_k02_first_images.prog) (w := w) (base := base) F17 m17 b17 n_isinstance n_str n_len n_all m_LONGEST_TEXT r_LONGEST_TEXT
  have cName := ok_name (Pg := PySem.Challenge.rw_writeorders_k02_first_images.prog) (w := w) (base := base) F18 m18 b18 n_isinstance n_str n_len n_all m_LONGEST_NAME r_LONGEST_NAME
  have cKind := ok_kind (Pg := PySem.Challenge.rw_writeorders_k02_first_images.prog) (w := w) (base := base) F23 m23 b23 n_isinstance n_str
  have cAre := ok_are (Pg := PySem.Challenge.rw_writeorders_k02_first_images.prog) (w := w) (base := base) F26 m26 b26 n_all
  have cEntry := ok_entry F25 m25 b25 cRow cName cWithin
  have cNode := ok_node F22 m22 b22 n_all m_MOST_LINKS r_MOST_LINKS m_MOST_PAGES_OF_A_NODE r_MOST_PAGES_OF_A_NODE cRow cKind cWithin
  have cData := ok_data F24 m24 b24 n_all m_SLOTS_OF_DATA r_SLOTS_OF_DATA cRow cKind cAre cText cEntry
  have cImg := ok_image F19 m19 b19 n_all n_len m_LEAST_NODES r_LEAST_NODES m_MOST_NODES r_MOST_NODES m_LEAST_PAGES r_LEAST_PAGES m_MOST_PAGES r_MOST_PAGES cRow cNode cData
  have cFi := ok_fi F20 m20 b20 T m_LEAST_NODES r_LEAST_NODES m_MOST_NODES r_MOST_NODES m_LEAST_PAGES r_LEAST_PAGES m_MOST_PAGES r_MOST_PAGES m_SLOTS_OF_DATA r_SLOTS_OF_DATA cWithin
  have cFrom := ok_lfrom (Pg := PySem.Challenge.rw_writeorders_k02_first_images.prog) (w := w) (base := base) F51 m51 b51 n_isinstance n_int n_bool
  have cNu := ok_nu F50 m50 b50 n_len cDraw
  have cFo := ok_fold (Pg := PySem.Challenge.rw_writeorders_k02_first_images.prog) (w := w) (base := base) F34 m34 b34
  have cNa := ok_na F33 m33 b33 cFo
  have cKi := ok_ki F35 m35 b35 n_range n_len cNa
  have cRe := ok_re (Pg := PySem.Challenge.rw_writeorders_k02_first_images.prog) (w := w) (base := base) F28 m28 b28 n_list n_sorted
  have cCo := ok_co F30 m30 b30 cKi cRe
  have cPt := ok_pt (Pg := PySem.Challenge.rw_writeorders_k02_first_images.prog) (w := w) (base := base) F36 m36 b36
  have cNn := ok_nn F37 m37 b37 cFo
  have cPn := ok_pn F38 m38 b38 cPt
  have cTw := ok_tw F39 m39 b39 cPt
  have cBy := ok_by F40 m40 b40 cNa
  have cFw := ok_fw F41 m41 b41 cBy
  have cSt := ok_st F42 m42 b42 n_len n_set cNa
  have cRi := ok_ri F43 m43 b43 cKi cRe
  have cBi := ok_bi F44 m44 b44 n_enumerate cPt
  have cNo := ok_no2 (Pg := PySem.Challenge.rw_writeorders_k02_first_images.prog) (w := w) (base := base) F45 m45 b45 n_enumerate
  have cMy := ok_my F46 m46 b46 cBy
  have cBr := ok_br F31 m31 b31 n_set n_sorted cCo cNn cPn cTw cFw cSt cRi
  have cLe := ok_le F32 m32 b32 n_sorted cBr cCo cBi cNo cMy
  exact ok_law F52 N n_len n_range n_max n_min n_repr n_isinstance n_ValueError cPool cNu cFrom cFi cImg cBr cLe
end K02
open PySem PySem.W PyProof.Rows
set_option maxHeartbeats 0 in
theorem PySem.Challenge.cw_writeorders_k02_first_images_holds : PySem.Challenge.rw_writeorders_k02_first_images.Holds := by
  w_on; o_law; k_head; (case hw => w_witness2)
  k_fill
  refine Dl.walk_GT (l := PySem.Challenge.rw_writeorders_k02_first_images) (n := 63) (k := 7) (x := "_law_script") (sp := fun K => Dl.liftS K K02.sLaw) rfl (by decide) rfl ⟨rfl, by decide, by decide⟩ (fun w h Y => PySem.W.kIn_of Y) ?T ?F (fun K H a ns hl hO hT hS => Dl.law_data hO hT hS ⟨ns, rfl, hl, fun _ => rfl⟩ fun A Z Z' k ⟨a, h1, h2, h3⟩ => ⟨a, h1, h2, fun R' => k _ _ (h3 R')⟩)
  case T =>
    intro w h lo mean mg mb T KX
    refine' K02.tabs_none ?zc
    (case zc => k_is)
  case F =>
    intro w mg fa h KX G hmg
    refine' K02.all_mk KX G hmg ?a15 ?l15 ?c15 ?k15 ?a16 ?l16 ?c16 ?k16 ?a17 ?l17 ?c17 ?k17 ?a18 ?l18 ?c18 ?k18 ?a19 ?l19 ?c19 ?k19 ?a20 ?l20 ?c20 ?k20 ?a21 ?l21 ?c21 ?k21 ?a22 ?l22 ?c22 ?k22 ?a23 ?l23 ?c23 ?k23 ?a24 ?l24 ?c24 ?k24 ?a25 ?l25 ?c25 ?k25 ?a26 ?l26 ?c26 ?k26 ?a28 ?l28 ?c28 ?k28 ?a30 ?l30 ?c30 ?k30 ?a31 ?l31 ?c31 ?k31 ?a32 ?l32 ?c32 ?k32 ?a33 ?l33 ?c33 ?k33 ?a34 ?l34 ?c34 ?k34 ?a35 ?l35 ?c35 ?k35 ?a36 ?l36 ?c36 ?k36 ?a37 ?l37 ?c37 ?k37 ?a38 ?l38 ?c38 ?k38 ?a39 ?l39 ?c39 ?k39 ?a40 ?l40 ?c40 ?k40 ?a41 ?l41 ?c41 ?k41 ?a42 ?l42 ?c42 ?k42 ?a43 ?l43 ?c43 ?k43 ?a44 ?l44 ?c44 ?k44 ?a45 ?l45 ?c45 ?k45 ?a46 ?l46 ?c46 ?k46 ?a48 ?l48 ?c48 ?k48 ?a49 ?l49 ?c49 ?k49 ?a50 ?l50 ?c50 ?k50 ?a51 ?l51 ?c51 ?k51 ?a52 ?l52 ?c52 ?k52 ?g_LEAST_NODES ?r_LEAST_NODES ?g_MOST_NODES ?r_MOST_NODES ?g_LEAST_PAGES ?r_LEAST_PAGES ?g_MOST_PAGES ?r_MOST_PAGES ?g_MOST_LINKS ?r_MOST_LINKS ?g_MOST_PAGES_OF_A_NODE ?r_MOST_PAGES_OF_A_NODE ?g_SLOTS_OF_DATA ?r_SLOTS_OF_DATA ?g_LONGEST_NAME ?r_LONGEST_NAME ?g_LONGEST_TEXT ?r_LONGEST_TEXT ?gC ?gC2 ?gC3 ?gC4 ?xsa ?xtk ?xhd ?xkC ?xex ?xty ?xov ?xcl ?xfI ?xtI ?xlI ?xcI ?yga ?ygg ?ynF ?yha ?yhn ?yht ?yhm ?yte ?ykL ?ykN ?z_all ?z_len ?z_max ?z_min ?z_int ?z_bool ?z_str ?z_range ?z_tuple ?z_list ?z_repr ?z_isinstance ?z_sorted ?z_set ?z_enumerate ?z_ValueError
    (case a15 => k_is); (case l15 => k_is); (case c15 => k_is); (case k15 => k_is)
    (case a16 => k_is); (case l16 => k_is); (case c16 => k_is); (case k16 => k_is)
    (case a17 => k_is); (case l17 => k_is); (case c17 => k_is); (case k17 => k_is)
    (case a18 => k_is); (case l18 => k_is); (case c18 => k_is); (case k18 => k_is)
    (case a19 => k_is); (case l19 => k_is); (case c19 => k_is); (case k19 => k_is)
    (case a20 => k_is); (case l20 => k_is); (case c20 => k_is); (case k20 => k_is)
    (case a21 => k_is); (case l21 => k_is); (case c21 => k_is); (case k21 => k_is)
    (case a22 => k_is); (case l22 => k_is); (case c22 => k_is); (case k22 => k_is)
    (case a23 => k_is); (case l23 => k_is); (case c23 => k_is); (case k23 => k_is)
    (case a24 => k_is); (case l24 => k_is); (case c24 => k_is); (case k24 => k_is)
    (case a25 => k_is); (case l25 => k_is); (case c25 => k_is); (case k25 => k_is)
    (case a26 => k_is); (case l26 => k_is); (case c26 => k_is); (case k26 => k_is)
    (case a28 => k_is); (case l28 => k_is); (case c28 => k_is); (case k28 => k_is)
    (case a30 => k_is); (case l30 => k_is); (case c30 => k_is); (case k30 => k_is)
    (case a31 => k_is); (case l31 => k_is); (case c31 => k_is); (case k31 => k_is)
    (case a32 => k_is); (case l32 => k_is); (case c32 => k_is); (case k32 => k_is)
    (case a33 => k_is); (case l33 => k_is); (case c33 => k_is); (case k33 => k_is)
    (case a34 => k_is); (case l34 => k_is); (case c34 => k_is); (case k34 => k_is)
    (case a35 => k_is); (case l35 => k_is); (case c35 => k_is); (case k35 => k_is)
    (case a36 => k_is); (case l36 => k_is); (case c36 => k_is); (case k36 => k_is)
    (case a37 => k_is); (case l37 => k_is); (case c37 => k_is); (case k37 => k_is)
    (case a38 => k_is); (case l38 => k_is); (case c38 => k_is); (case k38 => k_is)
    (case a39 => k_is); (case l39 => k_is); (case c39 => k_is); (case k39 => k_is)
    (case a40 => k_is); (case l40 => k_is); (case c40 => k_is); (case k40 => k_is)
    (case a41 => k_is); (case l41 => k_is); (case c41 => k_is); (case k41 => k_is)
    (case a42 => k_is); (case l42 => k_is); (case c42 => k_is); (case k42 => k_is)
    (case a43 => k_is); (case l43 => k_is); (case c43 => k_is); (case k43 => k_is)
    (case a44 => k_is); (case l44 => k_is); (case c44 => k_is); (case k44 => k_is)
    (case a45 => k_is); (case l45 => k_is); (case c45 => k_is); (case k45 => k_is)
    (case a46 => k_is); (case l46 => k_is); (case c46 => k_is); (case k46 => k_is)
    (case a48 => k_is); (case l48 => k_is); (case c48 => k_is); (case k48 => k_is)
    (case a49 => k_is); (case l49 => k_is); (case c49 => k_is); (case k49 => k_is)
    (case a50 => k_is); (case l50 => k_is); (case c50 => k_is); (case k50 => k_is)
    (case a51 => k_is); (case l51 => k_is); (case c51 => k_is); (case k51 => k_is)
    (case a52 => k_is); (case l52 => k_is); (case c52 => k_is); (case k52 => k_is)
    (case g_LEAST_NODES => k_is); (case r_LEAST_NODES => exact ⟨_, rfl⟩)
    (case g_MOST_NODES => k_is); (case r_MOST_NODES => exact ⟨_, rfl⟩)
    (case g_LEAST_PAGES => k_is); (case r_LEAST_PAGES => exact ⟨_, rfl⟩)
    (case g_MOST_PAGES => k_is); (case r_MOST_PAGES => exact ⟨_, rfl⟩)
    (case g_MOST_LINKS => k_is); (case r_MOST_LINKS => exact ⟨_, rfl⟩)
    (case g_MOST_PAGES_OF_A_NODE => k_is); (case r_MOST_PAGES_OF_A_NODE => exact ⟨_, rfl⟩)
    (case g_SLOTS_OF_DATA => k_is); (case r_SLOTS_OF_DATA => exact ⟨_, rfl⟩)
    (case g_LONGEST_NAME => k_is); (case r_LONGEST_NAME => exact ⟨_, rfl⟩)
    (case g_LONGEST_TEXT => k_is); (case r_LONGEST_TEXT => exact ⟨_, rfl⟩)
    (case gC => k_is)
    (case gC2 => k_is)
    (case gC3 => k_is)
    (case gC4 => k_is)
    (case xsa => k_is)
    (case xtk => k_is)
    (case xhd => k_is)
    (case xkC => k_is)
    (case xex => k_is)
    (case xty => k_is)
    (case xov => first | k_is | kx_is | kernel_rfl | exact rfl | decide +kernel)
    (case xcl => k_is)
    (case xfI => k_is)
    (case xtI => k_is)
    (case xlI => k_is)
    (case xcI => k_is)
    (case yga => k_is)
    (case ygg => k_is)
    (case ynF => k_is)
    (case yha => k_is)
    (case yhn => k_is)
    (case yht => k_is)
    (case yhm => k_is)
    (case yte => first | k_is | kx_is | kernel_rfl | exact rfl | decide +kernel)
    (case ykL => first | k_is | kx_is | kernel_rfl | exact rfl | decide +kernel)
    (case ykN => first | k_is | kx_is | kernel_rfl | exact rfl | decide +kernel)
    (case z_all => k_is); (case z_len => k_is); (case z_max => k_is); (case z_min => k_is); (case z_int => k_is); (case z_bool => k_is); (case z_str => k_is); (case z_range => k_is); (case z_tuple => k_is); (case z_list => k_is); (case z_repr => k_is); (case z_isinstance => k_is); (case z_sorted => k_is); (case z_set => k_is); (case z_enumerate => k_is); (case z_ValueError => k_is)
