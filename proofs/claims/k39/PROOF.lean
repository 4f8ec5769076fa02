import PyProof.Rows.All
import Wide.All
import OpenK.AllK
import Wide.FinOn
import HandS.ForMost
import HandS.Deep
import HandS.IsInst
import HandS.TupAny
import HandS.Flow
import PyProof.ReprRoads
import HandS.Exc
import HandS.ExcOwn
import HandS.TryOnly
import HandS.ExcIs
import HandS.CallSlots
import HandS.Wide
import HandS.TupMul
import HandS.Style
import KE.DataEq
import KE.DataCmp
import HandS.Conv
import HandS.RaiseMore
import HandS.More
import HandS.Codes
import PyProof.Rows.StrFirst
import PyProof.Rows.StrJoinRep
import KE.KRevSl
import HandS.FStr
import KE.IntTextLaws
import KE.KIntText
import HandS.Star
import HandS.Iter
import KE.GoesEnum
import HandS.WideBits
import HandS.Replace
import HandS.StrMore
import HandS.EndBits
import HandS.DictEq
import HandS.WordsExc
import PyProof.TwoTypesSub
import PySem.Challenge.RW_doorkinds_k39_bent_of_anything
set_option Elab.async false
set_option linter.all false
set_option maxRecDepth 100000
set_option maxHeartbeats 1000000
/-! DL: a layer of data over HandS. What stands in a slot is data (PyData), the script, or a plain value; F holds the data's objects (never changed), mu the objects that change, G what is kept apart. -/
namespace DL
open PySem PySem.Spec PyProof.Rows L2

mutual
inductive Rp (K : PySem.W.Frag) (F : Hp) : V → PyData → Prop
  | non : Rp K F .non .none
  | bl (b : Bool) : Rp K F (.bl b) (.bool b)
  | int (i : Int) : Rp K F (.int i) (.int i)
  | str (x : Str) : Rp K F (.str x) (.str x)
  | lst {a : Addr} {xs : List V} {ds : List PyData} : F a = some (.lst xs) → RpAll K F xs ds → Rp K F (.ref a) (.list ds)
  | tup {a : Addr} {xs : List V} {ds : List PyData} : SqT K F a xs → RpAll K F xs ds → Rp K F (.ref a) (.tuple ds)
  | dct {a : Addr} {kvs : List (Key × V)} {ds : List (PyData × PyData)} : F a = some (.dK kvs) → RpKv K F kvs ds → Rp K F (.ref a) (.dict ds)
inductive RpAll (K : PySem.W.Frag) (F : Hp) : List V → List PyData → Prop
  | nil : RpAll K F [] []
  | cons {v : V} {vs : List V} {d : PyData} {ds : List PyData} : Rp K F v d → RpAll K F vs ds → RpAll K F (v :: vs) (d :: ds)
inductive RpKv (K : PySem.W.Frag) (F : Hp) : List (Key × V) → List (PyData × PyData) → Prop
  | nil : RpKv K F [] []
  | cons {k : Key} {v : V} {vs : List (Key × V)} {e d : PyData} {ds : List (PyData × PyData)} : Rp K F (kV k) e → Rp K F v d → RpKv K F vs ds → RpKv K F ((k, v) :: vs) ((e, d) :: ds)
end

theorem SqT_mono {K : PySem.W.Frag} {F F' : Hp} {a : Addr} {xs : List V} (e : Same F F') (h : SqT K F a xs) : SqT K F' a xs := by
  rcases h with (h | ⟨o, h⟩) | h
  · exact .inl (.inl (e _ _ h))
  · exact .inl (.inr ⟨o, e _ _ h⟩)
  · exact .inr h

mutual
theorem Rp.mono {K : PySem.W.Frag} {F F' : Hp} (e : Same F F') : ∀ (d : PyData) {v : V}, Rp K F v d → Rp K F' v d
  | .none, _, h => by cases h; exact .non
  | .bool _, _, h => by cases h; exact .bl _
  | .int _, _, h => by cases h; exact .int _
  | .str _, _, h => by cases h; exact .str _
  | .list ds, _, h => by cases h with | lst h1 h2 => exact .lst (e _ _ h1) (RpAll.mono e ds h2)
  | .tuple ds, _, h => by cases h with | tup h1 h2 => exact .tup (SqT_mono e h1) (RpAll.mono e ds h2)
  | .dict ds, _, h => by cases h with | dct h1 h2 => exact .dct (e _ _ h1) (RpKv.mono e ds h2)
theorem RpAll.mono {K : PySem.W.Frag} {F F' : Hp} (e : Same F F') : ∀ (ds : List PyData) {vs : List V}, RpAll K F vs ds → RpAll K F' vs ds
  | [], _, h => by cases h; exact .nil
  | d :: ds, _, h => by cases h with | cons h1 h2 => exact .cons (Rp.mono e d h1) (RpAll.mono e ds h2)
theorem RpKv.mono {K : PySem.W.Frag} {F F' : Hp} (e : Same F F') : ∀ (ds : List (PyData × PyData)) {vs : List (Key × V)}, RpKv K F vs ds → RpKv K F' vs ds
  | [], _, h => by cases h; exact .nil
  | d :: ds, _, h => by cases h with | cons h1 h2 h3 => exact .cons (Rp.mono e _ h1) (Rp.mono e _ h2) (RpKv.mono e ds h3)
end

/-- a value in a slot: data, the script, a plain value -/
inductive W where
  | d (x : PyData)
  | s (ns : List Int)
  | v (x : V)

def Rw (K : PySem.W.Frag) (F : Hp) (v : V) : W → Prop
  | .d x => Rp K F v x
  | .s ns => ∃ a, v = .ref a ∧ SqL K F a (ns.map V.int)
  | .v x => v = x
theorem Rw.mono {K : PySem.W.Frag} {F F' : Hp} (e : Same F F') {v : V} : ∀ {w : W}, Rw K F v w → Rw K F' v w
  | .d _, h => Rp.mono e _ h
  | .s _, ⟨a, h1, h2⟩ => ⟨a, h1, e.seq h2⟩
  | .v _, h => h

abbrev RwAll (K : PySem.W.Frag) (F : Hp) : List V → List W → Prop := Paired (Rw K F)
theorem RwAll.mono {K : PySem.W.Frag} {F F' : Hp} (e : Same F F') : ∀ {vs : List V} {ws : List W}, RwAll K F vs ws → RwAll K F' vs ws
  | _, _, .nil => .nil
  | _, _, .cons r t => .cons (r.mono e) (RwAll.mono e t)
theorem RwAll.len {K : PySem.W.Frag} {F : Hp} {vs : List V} {ws : List W} (h : RwAll K F vs ws) : vs.length = ws.length := Paired.length h
theorem RwAll.app {K : PySem.W.Frag} {F : Hp} : ∀ {vs vs' : List V} {ws ws' : List W}, RwAll K F vs ws → RwAll K F vs' ws' → RwAll K F (vs ++ vs') (ws ++ ws')
  | _, _, _, _, .nil, s => s
  | _, _, _, _, .cons r t, s => .cons r (RwAll.app t s)

/-- an object that may change -/
inductive MO where
  | lst (xs : List W)
  | tup (xs : List W)
  | dct (kvs : List (Key × W))
  | ins (C dx : Addr) (fs : List (Str × W))
  /-- an exception of the program's class nm, caught; a its own address, d its dict -/
  | exc (nm : Str) (a : Addr) (d : Option Addr)
  | xd (fs : List (Str × W))

/-- an exception object of the class cls at a, with the dict d -/
def ExH (cls : Value) (d : Option Addr) (a : Addr) : HO := .ext fun h => ∃ (oe : Obj) (vs : Array Value), h.get? a = some oe ∧ Zc cls d oe ∧ oe.data = .fields vs
def RwKv {κ : Type} (K : PySem.W.Frag) (F : Hp) : List (κ × V) → List (κ × W) → Prop := Paired fun p q => p.1 = q.1 ∧ Rw K F p.2 q.2
theorem RwKv.mono {κ : Type} {K : PySem.W.Frag} {F F' : Hp} (e : Same F F') : ∀ {vs : List (κ × V)} {ws : List (κ × W)}, RwKv K F vs ws → RwKv K F' vs ws
  | _, _, .nil => .nil
  | _, _, .cons r t => .cons ⟨r.1, r.2.mono e⟩ (RwKv.mono e t)
def Rm (K : PySem.W.Frag) (F : Hp) (o : HO) : MO → Prop
  | .lst ws => ∃ vs, o = .lst vs ∧ RwAll K F vs ws
  | .tup ws => ∃ vs, o = .tup vs ∧ RwAll K F vs ws
  | .dct ws => ∃ vs, o = .dK vs ∧ RwKv K F vs ws
  | .ins C dx ws => ∃ vs, o = .ins C dx vs ∧ RwKv K F vs ws
  | .exc nm a d => ∃ C, PySem.W.nsIn K mainGlobals nm = some (some (.ref C)) ∧ o = ExH (.ref C) d a
  | .xd ws => ∃ vs, o = .xd vs ∧ RwKv K F vs ws
theorem Rm.mono {K : PySem.W.Frag} {F F' : Hp} (e : Same F F') {o : HO} : ∀ {m : MO}, Rm K F o m → Rm K F' o m
  | .lst _, ⟨vs, h1, h2⟩ => ⟨vs, h1, h2.mono e⟩
  | .tup _, ⟨vs, h1, h2⟩ => ⟨vs, h1, h2.mono e⟩
  | .dct _, ⟨vs, h1, h2⟩ => ⟨vs, h1, h2.mono e⟩
  | .ins _ _ _, ⟨vs, h1, h2⟩ => ⟨vs, h1, h2.mono e⟩
  | .exc _ _ _, h => h
  | .xd _, ⟨vs, h1, h2⟩ => ⟨vs, h1, h2.mono e⟩

abbrev M := Addr → Option MO
def mset (μ : M) (a : Addr) (m : MO) : M := fun b => if b = a then some m else μ b
def mdel (μ : M) (a : Addr) : M := fun b => if b = a then none else μ b
theorem mset_same {μ : M} {a : Addr} {m : MO} : mset μ a m a = some m := by unfold mset; rw [if_pos rfl]
theorem mset_ne {μ : M} {a b : Addr} {m : MO} (h : b ≠ a) : mset μ a m b = μ b := by unfold mset; rw [if_neg h]
theorem mset_mset {μ : M} {a : Addr} {m n : MO} : mset (mset μ a m) a n = mset μ a n := by funext b; unfold mset; split <;> rfl
theorem mdel_mset {μ : M} {a : Addr} {m : MO} (h : μ a = none) : mdel (mset μ a m) a = μ := by
  funext b; unfold mdel mset
  by_cases e : b = a
  · subst e; rw [if_pos rfl, h]
  · rw [if_neg e, if_neg e]

/-- the connection -/
structure Cn (K : PySem.W.Frag) (F H : Hp) (μ : M) (G : Hp) : Prop where
  sub : Same F H
  fr : Same G H
  mu : ∀ a m, μ a = some m → F a = none ∧ G a = none ∧ ∃ o, H a = some o ∧ Rm K F o m
  apart : ∀ a, F a ≠ none → G a = none

abbrev Sl := List (Option W)
structure Rs (K : PySem.W.Frag) (F : Hp) (σ : L2.St) (ρ : Sl) : Prop where
  len : ρ.length = σ.length
  get : ∀ (i : Nat) (w : W), ρ[i]? = some (some w) → ∃ v, σ[i]? = some (some v) ∧ Rw K F v w
theorem Rs.mono {K : PySem.W.Frag} {F F' : Hp} (e : Same F F') {σ : L2.St} {ρ : Sl} (h : Rs K F σ ρ) : Rs K F' σ ρ :=
  ⟨h.len, fun i w q => let ⟨v, a, b⟩ := h.get i w q; ⟨v, a, b.mono e⟩⟩
theorem Rs.set {K : PySem.W.Frag} {F : Hp} {σ : L2.St} {ρ : Sl} (h : Rs K F σ ρ) (i : Nat) {v : V} {w : W} (r : Rw K F v w) : Rs K F (σ.set i (some v)) (ρ.set i (some w)) := by
  refine ⟨by simp [h.len], fun j u q => ?_⟩
  rw [List.getElem?_set] at q ⊢
  by_cases e : i = j
  · subst e
    rw [if_pos rfl] at q ⊢
    rw [h.len] at q
    split at q
    · rename_i hl
      rw [if_pos hl]
      cases q
      exact ⟨v, rfl, r⟩
    · cases q
  · rw [if_neg e] at q ⊢
    exact h.get j u q

abbrev DQ := W → M → Prop
abbrev DTE := Sl → M → DQ → Prop
/-- what is wanted behind (R over data) gives what is wanted behind (Q over values) -/
def Fin (K : PySem.W.Frag) (F G : Hp) (R : DQ) (Q : VK) : Prop := ∀ (w : W) (μ : M) (F' H' : Hp) (v : V), R w μ → Same F F' → Cn K F' H' μ G → Rw K F' v w → Q v H'
theorem Fin.mono {K : PySem.W.Frag} {F F' G : Hp} {R : DQ} {Q : VK} (h : Fin K F G R Q) (e : Same F F') : Fin K F' G R Q := fun w μ F1 H1 v r s c q => h w μ F1 H1 v r (e.trans s) c q
def lE (K : PySem.W.Frag) (t : DTE) : TE := fun σ H Q => ∃ (F : Hp) (ρ : Sl) (μ : M) (G : Hp) (R : DQ), Cn K F H μ G ∧ Rs K F σ ρ ∧ t ρ μ R ∧ Fin K F G R Q
structure DE (X : Cx) (e : Expr) (t : DTE) : Prop where
  pe : PE X e (lE X.K t)
theorem PE_mono {X : Cx} {e : Expr} {t t' : TE} (h : PE X e t) (i : ∀ σ H Q, t' σ H Q → t σ H Q) : PE X e t' := ⟨fun pins s σ H Q I q => h.run pins s σ H Q I (i _ _ _ q)⟩
theorem PT_mono {X : Cx} {e : Expr} {t t' : TT} (h : PT X e t) (i : ∀ σ H Q, t' σ H Q → t σ H Q) : PT X e t' := ⟨fun pins s σ H Q I q => h.run pins s σ H Q I (i _ _ _ q)⟩
theorem PW_mono {X : Cx} {e : Expr} {t t' : TT} (h : PW X e t) (i : ∀ σ H Q, t' σ H Q → t σ H Q) : PW X e t' := ⟨fun wh pins s σ H Q I q => h.run wh pins s σ H Q I (i _ _ _ q)⟩
theorem PA_mono {X : Cx} {e : List Expr} {t t' : TA} (h : PA X e t) (i : ∀ σ H Q, t' σ H Q → t σ H Q) : PA X e t' := ⟨fun pos pins s σ H Q I q => h.run pos pins s σ H Q I (i _ _ _ q)⟩
theorem PS_mono {X : Cx} {e : Stmt} {t t' : TS} (h : PS X e t) (i : ∀ D σ H, t' D σ H → t D σ H) : PS X e t' := ⟨fun pins s σ H D I q => h.run pins s σ H D I (i _ _ _ q)⟩
theorem PSs_mono {X : Cx} {e : List Stmt} {t t' : TS} (h : PSs X e t) (i : ∀ D σ H, t' D σ H → t D σ H) : PSs X e t' := ⟨fun pins s σ H D I q => h.run pins s σ H D I (i _ _ _ q)⟩

/-- one run of t, with what is wanted behind -/
theorem lE_go {K : PySem.W.Frag} {t : DTE} {σ : L2.St} {H F G : Hp} {ρ : Sl} {μ : M} {R : DQ} {Q : VK} (c : Cn K F H μ G) (r : Rs K F σ ρ) (h : t ρ μ R) (f : Fin K F G R Q) : lE K t σ H Q := ⟨F, ρ, μ, G, R, c, r, h, f⟩

/-! ### tests -/
abbrev DTT := Sl → M → (Bool → M → Prop) → Prop
def FinB (K : PySem.W.Frag) (F G : Hp) (R : Bool → M → Prop) (Q : Bool → Hp → Prop) : Prop := ∀ (b : Bool) (μ : M) (F' H' : Hp), R b μ → Same F F' → Cn K F' H' μ G → Q b H'
theorem FinB.mono {K : PySem.W.Frag} {F F' G : Hp} {R : Bool → M → Prop} {Q : Bool → Hp → Prop} (h : FinB K F G R Q) (e : Same F F') : FinB K F' G R Q := fun b μ F1 H1 r s c => h b μ F1 H1 r (e.trans s) c
def lT (K : PySem.W.Frag) (t : DTT) : TT := fun σ H Q => ∃ (F : Hp) (ρ : Sl) (μ : M) (G : Hp) (R : Bool → M → Prop), Cn K F H μ G ∧ Rs K F σ ρ ∧ t ρ μ R ∧ FinB K F G R Q
structure DT (X : Cx) (e : Expr) (t : DTT) : Prop where
  pt : PT X e (lT X.K t)
structure DW (X : Cx) (e : Expr) (t : DTT) : Prop where
  pw : PW X e (lT X.K t)

/-! ### arguments -/
abbrev DTA := Sl → M → (List W → M → Prop) → Prop
def FinA (K : PySem.W.Frag) (F G : Hp) (R : List W → M → Prop) (Q : List V → Hp → Prop) : Prop := ∀ (ws : List W) (μ : M) (F' H' : Hp) (vs : List V), R ws μ → Same F F' → Cn K F' H' μ G → RwAll K F' vs ws → Q vs H'
def lA (K : PySem.W.Frag) (t : DTA) : TA := fun σ H Q => ∃ (F : Hp) (ρ : Sl) (μ : M) (G : Hp) (R : List W → M → Prop), Cn K F H μ G ∧ Rs K F σ ρ ∧ t ρ μ R ∧ FinA K F G R Q
structure DA (X : Cx) (es : List Expr) (t : DTA) : Prop where
  pa : PA X es (lA X.K t)

/-! ### statements -/
structure DEnds where
  nx : Sl → M → Prop
  rt : DQ
  bk : Sl → M → Prop := fun _ _ => False
  ct : Sl → M → Prop := fun _ _ => False
abbrev DTS := DEnds → Sl → M → Prop
def FinN (K : PySem.W.Frag) (F G : Hp) (R : Sl → M → Prop) (Q : L2.St → Hp → Prop) : Prop := ∀ (ρ : Sl) (μ : M) (F' H' : Hp) (σ : L2.St), R ρ μ → Same F F' → Cn K F' H' μ G → Rs K F' σ ρ → Q σ H'
theorem FinN.mono {K : PySem.W.Frag} {F F' G : Hp} {R : Sl → M → Prop} {Q : L2.St → Hp → Prop} (h : FinN K F G R Q) (e : Same F F') : FinN K F' G R Q := fun ρ μ F1 H1 σ r s c q => h ρ μ F1 H1 σ r (e.trans s) c q
structure FinS (K : PySem.W.Frag) (F G : Hp) (R : DEnds) (D : Ends) : Prop where
  nx : FinN K F G R.nx D.nx
  rt : Fin K F G R.rt D.rt
  bk : FinN K F G R.bk D.bk
  ct : FinN K F G R.ct D.ct
theorem FinS.mono {K : PySem.W.Frag} {F F' G : Hp} {R : DEnds} {D : Ends} (h : FinS K F G R D) (e : Same F F') : FinS K F' G R D := ⟨h.nx.mono e, h.rt.mono e, h.bk.mono e, h.ct.mono e⟩
def lS (K : PySem.W.Frag) (t : DTS) : TS := fun D σ H => ∃ (F : Hp) (ρ : Sl) (μ : M) (G : Hp) (R : DEnds), Cn K F H μ G ∧ Rs K F σ ρ ∧ t R ρ μ ∧ FinS K F G R D
structure DS (X : Cx) (st : Stmt) (t : DTS) : Prop where
  ps : PS X st (lS X.K t)
structure DSs (X : Cx) (sts : List Stmt) (t : DTS) : Prop where
  pss : PSs X sts (lS X.K t)

/-! ### laying and changing -/
section
variable {K : PySem.W.Frag} {F H G : Hp} {μ : M}
theorem Cn.noG (c : Cn K F H μ G) {p : Addr} (hp : H p = none) : G p = none := c.fr.free hp
theorem Cn.noF (c : Cn K F H μ G) {p : Addr} (hp : H p = none) : F p = none := c.sub.free hp
theorem Cn.noM (c : Cn K F H μ G) {p : Addr} (hp : H p = none) : μ p = none := by
  cases e : μ p with
  | none => rfl
  | some m => obtain ⟨_, _, o, h, _⟩ := c.mu p m e; rw [hp] at h; cases h
theorem same_upd {F : Hp} {p : Addr} {o : HO} (h : F p = none) : Same F (upd F p o) := fun b x e => by rw [upd_ne (ne_of_none e h)]; exact e
theorem upd_same_same {F H : Hp} {p : Addr} {o : HO} (h : Same F H) : Same (upd F p o) (upd H p o) := fun b x e => by
  by_cases q : b = p
  · subst q; rw [upd_same] at e ⊢; exact e
  · rw [upd_ne q] at e ⊢; exact h _ _ e
/-- a new object of data -/
theorem Cn.lay (c : Cn K F H μ G) {p : Addr} (hp : H p = none) (o : HO) : Same F (upd F p o) ∧ Cn K (upd F p o) (upd H p o) μ G := by
  have e := same_upd (o := o) (c.noF hp)
  refine ⟨e, upd_same_same c.sub, fun b x q => ?_, fun a m q => ?_, fun a q => ?_⟩
  · rw [upd_ne (ne_of_none q (c.noG hp))]; exact c.fr _ _ q
  · obtain ⟨h1, h2, o', h3, h4⟩ := c.mu a m q
    have n := ne_of_none h3 hp
    exact ⟨by rw [upd_ne n]; exact h1, h2, o', by rw [upd_ne n]; exact h3, h4.mono e⟩
  · by_cases z : a = p
    · subst z; exact c.noG hp
    · rw [upd_ne z] at q; exact c.apart a q
/-- a new object that may change -/
theorem Cn.born (c : Cn K F H μ G) {p : Addr} (hp : H p = none) {o : HO} {m : MO} (r : Rm K F o m) : Cn K F (upd H p o) (mset μ p m) G := by
  refine ⟨fun b x q => ?_, fun b x q => ?_, fun a n q => ?_, c.apart⟩
  · rw [upd_ne (ne_of_none q (c.noF hp))]; exact c.sub _ _ q
  · rw [upd_ne (ne_of_none q (c.noG hp))]; exact c.fr _ _ q
  · by_cases z : a = p
    · subst z
      rw [mset_same] at q
      cases q
      exact ⟨c.noF hp, c.noG hp, o, upd_same, r⟩
    · rw [mset_ne z] at q
      rw [upd_ne z]
      exact c.mu a n q
/-- an object is changed -/
theorem Cn.write (c : Cn K F H μ G) {a : Addr} {m0 : MO} (ha : μ a = some m0) {o : HO} {m : MO} (r : Rm K F o m) : Cn K F (upd H a o) (mset μ a m) G := by
  obtain ⟨h1, h2, _⟩ := c.mu a m0 ha
  refine ⟨fun b x q => ?_, fun b x q => ?_, fun b n q => ?_, c.apart⟩
  · rw [upd_ne (ne_of_none q h1)]; exact c.sub _ _ q
  · rw [upd_ne (ne_of_none q h2)]; exact c.fr _ _ q
  · by_cases z : b = a
    · subst z
      rw [mset_same] at q
      cases q
      exact ⟨h1, h2, o, upd_same, r⟩
    · rw [mset_ne z] at q
      rw [upd_ne z]
      exact c.mu b n q
/-- an object becomes data -/
theorem Cn.freeze (c : Cn K F H μ G) {a : Addr} {m : MO} (ha : μ a = some m) {o : HO} (ho : H a = some o) : Same F (upd F a o) ∧ Cn K (upd F a o) H (mdel μ a) G := by
  obtain ⟨h1, h2, _⟩ := c.mu a m ha
  have e := same_upd (o := o) h1
  refine ⟨e, fun b x q => ?_, c.fr, fun b n q => ?_, fun b q => ?_⟩
  · by_cases z : b = a
    · subst z; rw [upd_same] at q; rw [← q]; exact ho
    · rw [upd_ne z] at q; exact c.sub _ _ q
  · unfold mdel at q
    by_cases z : b = a
    · rw [if_pos z] at q; cases q
    · rw [if_neg z] at q
      obtain ⟨k1, k2, o', k3, k4⟩ := c.mu b n q
      exact ⟨by rw [upd_ne z]; exact k1, k2, o', k3, k4.mono e⟩
  · by_cases z : b = a
    · subst z; exact h2
    · rw [upd_ne z] at q; exact c.apart b q
end
end DL

set_option Elab.async false
set_option linter.all false
set_option maxRecDepth 100000
set_option maxHeartbeats 1000000
namespace DL
open PySem PySem.Spec PyProof.Rows L2

/-! ### data's lists -/
section
variable {K : PySem.W.Frag} {F : Hp}
theorem RpAll.len : ∀ {vs : List V} {ds : List PyData}, RpAll K F vs ds → vs.length = ds.length
  | _, _, .nil => rfl
  | _, _, .cons _ t => congrArg (· + 1) (RpAll.len t)
theorem RpAll.app : ∀ {vs ws : List V} {ds es : List PyData}, RpAll K F vs ds → RpAll K F ws es → RpAll K F (vs ++ ws) (ds ++ es)
  | _, _, _, _, .nil, s => s
  | _, _, _, _, .cons r t, s => .cons r (RpAll.app t s)
theorem RpAll.drop : ∀ {vs : List V} {ds : List PyData} (n : Nat), RpAll K F vs ds → RpAll K F (vs.drop n) (ds.drop n)
  | _, _, 0, r => r
  | _, _, _ + 1, .nil => .nil
  | _, _, n + 1, .cons _ t => RpAll.drop n t
theorem RpAll.take : ∀ {vs : List V} {ds : List PyData} (n : Nat), RpAll K F vs ds → RpAll K F (vs.take n) (ds.take n)
  | _, _, 0, _ => .nil
  | _, _, _ + 1, .nil => .nil
  | _, _, n + 1, .cons r t => .cons r (RpAll.take n t)
theorem RpAll.get : ∀ {vs : List V} {ds : List PyData} {i : Nat} {d : PyData}, RpAll K F vs ds → ds[i]? = some d → ∃ v, vs[i]? = some v ∧ Rp K F v d
  | _, _, _, _, .nil, e => by simp at e
  | _, _, 0, _, .cons r _, e => by simp at e; subst e; exact ⟨_, rfl, r⟩
  | _, _, i + 1, _, .cons _ t, e => by
    obtain ⟨v, h1, h2⟩ := RpAll.get (i := i) t (by simpa using e)
    exact ⟨v, by simpa using h1, h2⟩
theorem RpAll.get2 : ∀ {vs : List V} {ds : List PyData} {i : Nat} {v : V}, RpAll K F vs ds → vs[i]? = some v → ∃ d, ds[i]? = some d ∧ Rp K F v d
  | _, _, _, _, .nil, e => by simp at e
  | _, _, 0, _, .cons r _, e => by simp at e; subst e; exact ⟨_, rfl, r⟩
  | _, _, i + 1, _, .cons _ t, e => by
    obtain ⟨d, h1, h2⟩ := RpAll.get2 (i := i) t (by simpa using e)
    exact ⟨d, by simpa using h1, h2⟩
theorem RpAll.rep {vs : List V} {ds : List PyData} (h : RpAll K F vs ds) : ∀ n : Nat, RpAll K F (List.replicate n vs).flatten (List.replicate n ds).flatten
  | 0 => .nil
  | n + 1 => by
    rw [List.replicate_succ, List.replicate_succ, List.flatten_cons, List.flatten_cons]
    exact h.app (RpAll.rep h n)
/-- the values are data -/
def dats : List W → Option (List PyData)
  | [] => some []
  | .d x :: r => (dats r).map (x :: ·)
  | _ :: _ => none
theorem dats_ok : ∀ {vs : List V} {ws : List W} {ds : List PyData}, RwAll K F vs ws → dats ws = some ds → RpAll K F vs ds
  | _, _, _, .nil, e => by cases e; exact .nil
  | _, .d x :: r, ds, .cons h t, e => by
    unfold dats at e
    cases q : dats r with
    | none => rw [q] at e; cases e
    | some y => rw [q] at e; cases e; exact .cons h (dats_ok t q)
  | _, .s _ :: _, _, .cons _ _, e => by cases e
  | _, .v _ :: _, _, .cons _ _, e => by cases e
theorem dats_map : ∀ ds : List PyData, dats (ds.map .d) = some ds
  | [] => rfl
  | d :: ds => by
    show (dats (ds.map .d)).map (d :: ·) = _
    rw [dats_map ds]; rfl
theorem RpAll.w : ∀ {vs : List V} {ds : List PyData}, RpAll K F vs ds → RwAll K F vs (ds.map .d)
  | _, _, .nil => .nil
  | _, _, .cons r t => .cons r (RpAll.w t)
end

/-! ### names, constants -/
section
variable {X : Cx}
def tVarD (i : Nat) : DTE := fun ρ μ R => match ρ[i]? with
  | some (some w) => R w μ
  | _ => False
theorem de_var (i : Nat) {x : Str} {pos : Pos} (h : PE X (.Name x pos) (tVar i)) : DE X (.Name x pos) (tVarD i) := ⟨PE_mono h fun σ H Q ⟨F, ρ, μ, G, R, c, rs, h, fin⟩ => by
  unfold tVarD at h
  split at h
  · rename_i w e
    obtain ⟨v, e1, r⟩ := rs.get i w e
    exact ⟨v, e1, fin w μ F H v h (Same.refl _) c r⟩
  · exact h.elim⟩
/-- the object that the name holds becomes data -/
def tVarF (i : Nat) : DTE := fun ρ μ R => match ρ[i]? with
  | some (some (.v (.ref a))) => match μ a with
    | some (.lst ws) => match dats ws with
      | some ds => R (.d (.list ds)) (mdel μ a)
      | none => False
    | _ => False
  | _ => False
theorem de_varF (i : Nat) {x : Str} {pos : Pos} (h : PE X (.Name x pos) (tVar i)) : DE X (.Name x pos) (tVarF i) := ⟨PE_mono h fun σ H Q ⟨F, ρ, μ, G, R, c, rs, h, fin⟩ => by
  unfold tVarF at h
  split at h
  · rename_i a e
    split at h
    · rename_i ws ea
      split at h
      · rename_i ds ed
        obtain ⟨v, e1, r⟩ := rs.get i _ e
        obtain ⟨_, _, o, ho, vs, rfl, rv⟩ := c.mu a _ ea
        obtain ⟨s1, c1⟩ := c.freeze ea ho
        refine ⟨v, e1, fin _ _ _ H v h s1 c1 ?_⟩
        cases (show v = .ref a from r)
        exact .lst upd_same (dats_ok (rv.mono s1) ed)
      · exact h.elim
    · exact h.elim
  · exact h.elim⟩
def tK (w : W) : DTE := fun _ μ R => R w μ
theorem de_k {e : Expr} {v : V} {w : W} (h : PE X e (tC v)) (r : ∀ F, Rw X.K F v w) : DE X e (tK w) := ⟨PE_mono h fun σ H Q ⟨F, ρ, μ, G, R, c, rs, h, fin⟩ => fin w μ F H v h (Same.refl _) c (r F)⟩
theorem de_int {i : Int} {j : Nat} {pos : Pos} : DE X (.Constant (.int i) j pos) (tK (.d (.int i))) := de_k pe_int fun _ => .int i
theorem de_str {x : Str} {j : Nat} {pos : Pos} : DE X (.Constant (.str x) j pos) (tK (.d (.str x))) := de_k pe_str fun _ => .str x
theorem de_bl {b : Bool} {j : Nat} {pos : Pos} : DE X (.Constant (.bool b) j pos) (tK (.d (.bool b))) := de_k pe_bl fun _ => .bl b
theorem de_non {j : Nat} {pos : Pos} : DE X (.Constant .none j pos) (tK (.d .none)) := de_k pe_non fun _ => .non

/-! ### operators -/
abbrev D2 := W → W → M → DQ → Prop
def Lift2 (K : PySem.W.Frag) (r : R2) (rD : D2) : Prop := ∀ {F H G : Hp} {μ : M} {x y : V} {wx wy : W} {R : DQ} {Q : VK}, Cn K F H μ G → Rw K F x wx → Rw K F y wy → rD wx wy μ R → Fin K F G R Q → r x y H Q
def tOp2 (rD : D2) (ta tb : DTE) : DTE := fun ρ μ R => ta ρ μ fun x μ1 => tb ρ μ1 fun y μ2 => rD x y μ2 R
theorem de_op {a b : Expr} {op : Operator} {pos : Pos} {r : R2} {rD : D2} {ta tb : DTE} (ho : OpR X (binaryOp op) r) (l : Lift2 X.K r rD) (ha : DE X a ta) (hb : DE X b tb) : DE X (.BinOp a op b pos) (tOp2 rD ta tb) :=
  ⟨PE_mono (pe_op ho ha.pe hb.pe) fun σ H Q ⟨F, ρ, μ, G, R, c, rs, h, fin⟩ =>
    lE_go c rs h fun wx μ1 F1 H1 x r1 s1 c1 q1 => lE_go c1 (rs.mono s1) r1 fun wy μ2 F2 H2 y r2 s2 c2 q2 => l c2 (q1.mono s2) q2 r2 (fin.mono (s1.trans s2))⟩
theorem de_cmp {a b : Expr} {op : CmpOp} {pos : Pos} {r : R2} {rD : D2} {ta tb : DTE} (ho : OpR X (compareOp op) r) (l : Lift2 X.K r rD) (ha : DE X a ta) (hb : DE X b tb) (nm : behindInMarks op b = false) : DE X (.Compare a [op] [b] pos) (tOp2 rD ta tb) :=
  ⟨PE_mono (pe_cmpR ho ha.pe hb.pe nm) fun σ H Q ⟨F, ρ, μ, G, R, c, rs, h, fin⟩ =>
    lE_go c rs h fun wx μ1 F1 H1 x r1 s1 c1 q1 => lE_go c1 (rs.mono s1) r1 fun wy μ2 F2 H2 y r2 s2 c2 q2 => l c2 (q1.mono s2) q2 r2 (fin.mono (s1.trans s2))⟩
def tChainD (r r' : D2) (ta tb tc : DTE) : DTE := fun ρ μ R => ta ρ μ fun x μ1 => tb ρ μ1 fun y μ2 => r x y μ2 fun z μ3 => match z with
  | .d (.bool k) => if k = true then tc ρ μ3 fun u μ4 => r' y u μ4 R else R (.d (.bool false)) μ3
  | _ => False
theorem de_chain {a b e : Expr} {op op' : CmpOp} {pos : Pos} {r r' : R2} {rD rD' : D2} {ta tb tc : DTE} (ho : OpR X (compareOp op) r) (ho' : OpR X (compareOp op') r') (l : Lift2 X.K r rD) (l' : Lift2 X.K r' rD')
    (ha : DE X a ta) (hb : DE X b tb) (hc : DE X e tc) (nm : lastMarks [op, op'] [b, e] = false) : DE X (.Compare a [op, op'] [b, e] pos) (tChainD rD rD' ta tb tc) :=
  ⟨PE_mono (pe_chain ho ho' ha.pe hb.pe hc.pe nm) fun σ H Q ⟨F, ρ, μ, G, R, c, rs, h, fin⟩ =>
    lE_go c rs h fun wx μ1 F1 H1 x r1 s1 c1 q1 => lE_go c1 (rs.mono s1) r1 fun wy μ2 F2 H2 y r2 s2 c2 q2 => l c2 (q1.mono s2) q2 r2 fun wz μ3 F3 H3 z r3 s3 c3 q3 => by
      split at r3
      · rename_i k
        cases (show Rp X.K F3 z (.bool k) from q3)
        refine ⟨k, rfl, ?_⟩
        have s13 := (s1.trans s2).trans s3
        cases k with
        | true =>
          rw [if_pos rfl] at r3 ⊢
          exact lE_go c3 (rs.mono s13) r3 fun wu μ4 F4 H4 u r4 s4 c4 q4 => l' c4 (q2.mono (s3.trans s4)) q4 r4 (fin.mono (s13.trans s4))
        | false =>
          rw [if_neg Bool.false_ne_true] at r3 ⊢
          exact fin _ _ F3 H3 _ r3 s13 c3 (.bl false)
      · exact r3.elim⟩
def tUn1 (rD : W → M → DQ → Prop) (ta : DTE) : DTE := fun ρ μ R => ta ρ μ fun x μ1 => rD x μ1 R
def Lift1 (K : PySem.W.Frag) (r : V → Hp → VK → Prop) (rD : W → M → DQ → Prop) : Prop := ∀ {F H G : Hp} {μ : M} {x : V} {wx : W} {R : DQ} {Q : VK}, Cn K F H μ G → Rw K F x wx → rD wx μ R → Fin K F G R Q → r x H Q
theorem de_un {a : Expr} {op : UnaryOp} {pos : Pos} {r : V → Hp → VK → Prop} {rD : W → M → DQ → Prop} {ta : DTE} (ho : UnR X (unaryOp op) r) (l : Lift1 X.K r rD) (ha : DE X a ta) : DE X (.UnaryOp op a pos) (tUn1 rD ta) :=
  ⟨PE_mono (pe_un ho ha.pe) fun σ H Q ⟨F, ρ, μ, G, R, c, rs, h, fin⟩ => lE_go c rs h fun wx μ1 F1 H1 x r1 s1 c1 q1 => l c1 q1 r1 (fin.mono s1)⟩
theorem OpR.or {f : Value → Value → Sem Value} {r1 r2 : R2} (h1 : OpR X f r1) (h2 : OpR X f r2) : OpR X f fun x y H Q => r1 x y H Q ∨ r2 x y H Q := fun pins s σ H x y v u Q I rx ry h => by
  rcases h with h | h
  · exact h1 pins s σ H x y v u Q I rx ry h
  · exact h2 pins s σ H x y v u Q I rx ry h

/-- the answer is data that is no object -/
theorem Fin.flat {K : PySem.W.Frag} {F G H : Hp} {R : DQ} {Q : VK} {μ : M} {v : V} {d : PyData} (fin : Fin K F G R Q) (c : Cn K F H μ G) (h : R (.d d) μ) (r : Rp K F v d) : Q v H := fin _ _ _ _ _ h (Same.refl _) c r

/-! addition -/
def addD : D2 := fun x y μ R => match x, y with
  | .d (.int i), .d (.int j) => R (.d (.int (i + j))) μ
  | .d (.str a), .d (.str b) => a.length + b.length ≤ sizeLine ∧ R (.d (.str (a ++ b))) μ
  | .d (.list a), .d (.list b) => a.length + b.length ≤ sizeLine ∧ R (.d (.list (a ++ b))) μ
  | .d (.tuple a), .d (.tuple b) => a.length + b.length ≤ sizeLine ∧ R (.d (.tuple (a ++ b))) μ
  | _, _ => False
def rAddAll (K : PySem.W.Frag) : R2 := fun x y H Q => ((rI0 (fun i j => V.int (i + j)) x y H Q ∨ (∃ i j, x = V.str i ∧ y = V.str j ∧ i.length + j.length ≤ sizeLine ∧ Q (V.str (i ++ j)) H)) ∨ rCat x y H Q) ∨ rCatA K x y H Q
theorem op_addAll : OpR X (binaryOp .Add) (rAddAll X.K) := OpR.or (OpR.or (OpR.or op_add op_add_str) op_cat) op_catA
theorem l_add {K : PySem.W.Frag} : Lift2 K (rAddAll K) addD := by
  intro F H G μ x y wx wy R Q c rx ry h fin
  unfold addD at h
  split at h
  · rename_i i j
    cases rx; cases ry
    exact .inl (.inl (.inl ⟨i, j, rfl, rfl, fin.flat c h (.int _)⟩))
  · rename_i a b
    cases rx; cases ry
    exact .inl (.inl (.inr ⟨a, b, rfl, rfl, h.1, fin.flat c h.2 (.str _)⟩))
  · rename_i a b
    cases rx with
    | lst e1 k1 => cases ry with
      | lst e2 k2 =>
        refine .inl (.inr ⟨_, _, _, _, rfl, rfl, c.sub _ _ e1, c.sub _ _ e2, by rw [k1.len, k2.len]; exact h.1, fun p hp => ?_⟩)
        obtain ⟨s, c'⟩ := c.lay hp (.lst _)
        exact fin _ _ _ _ _ h.2 s c' (.lst upd_same ((k1.app k2).mono s))
  · rename_i a b
    cases rx with
    | tup e1 k1 => cases ry with
      | tup e2 k2 =>
        refine .inr ?_
        have t1 := SqT_mono c.sub e1
        have t2 := SqT_mono c.sub e2
        unfold rCatA
        refine ⟨_, _, _, _, rfl, rfl, t1, t2, by rw [k1.len, k2.len]; exact h.1, ?_⟩
        refine ⟨fun ez => ?_, fun ez ez2 => ?_, fun ez ez2 p hp => ?_⟩
        · subst ez
          cases k1
          exact fin.flat c h.2 (.tup e2 k2)
        · subst ez2
          cases k2
          rw [List.append_nil] at h
          exact fin.flat c h.2 (.tup e1 k1)
        · obtain ⟨s, c'⟩ := c.lay hp (.tup _)
          exact fin _ _ _ _ _ h.2 s c' (.tup (.inl (.inl upd_same)) ((k1.app k2).mono s))
  · exact h.elim
theorem de_add {a b : Expr} {pos : Pos} {ta tb : DTE} (ha : DE X a ta) (hb : DE X b tb) : DE X (.BinOp a .Add b pos) (tOp2 addD ta tb) := de_op op_addAll l_add ha hb
end
end DL

set_option Elab.async false
set_option linter.all false
set_option maxRecDepth 100000
set_option maxHeartbeats 1000000
namespace DL
open PySem PySem.Spec PyProof.Rows L2

theorem u100 {k : Nat} {A : Around} (r : Room k A) : A.units + 100 < cLine := by have := r.un; omega

/-! ### what data reads as -/
mutual
theorem Rp.reads {X : Cx} {pins : List (Addr × Obj)} {σ : L2.St} {F H : Hp} {s : Shared} (I : Inv X pins σ H s) (e : Same F H) : ∀ (d : PyData) (v : V) (u : Value), d.plain = true → Rp X.K F v d → RelV v u → ∃ as, Reads s.heap u d as
  | .none, _, _, _, h, r => by cases h; cases r; exact ⟨_, Reads.none⟩
  | .bool b, _, _, _, h, r => by cases h; cases r; exact ⟨_, Reads.bool b⟩
  | .int i, _, _, _, h, r => by cases h; obtain ⟨t, rfl⟩ := r; exact ⟨_, Reads.int i t⟩
  | .str x, _, _, _, h, r => by cases h; obtain ⟨t, rfl⟩ := r; exact ⟨_, Reads.str x t⟩
  | .list ds, _, _, pl, h, r => by
    cases h with
    | lst hs ha =>
      cases r
      obtain ⟨its, rv, ⟨o, n, ho, hc, _, hd⟩, _⟩ := I.list (.inl (.inl (e _ _ hs)))
      obtain ⟨as, hr⟩ := Rp.readsAll I e ds _ its (by simpa [PyData.plain] using pl) ha rv
      exact ⟨_, Reads.list ho hc hd hr⟩
  | .tuple ds, _, _, pl, h, r => by
    cases h with
    | tup hs ha =>
      cases r
      obtain ⟨its, rv, ⟨o, ho, hc, n, hd⟩, _⟩ := I.tuple (SqT_mono e hs)
      obtain ⟨as, hr⟩ := Rp.readsAll I e ds _ its (by simpa [PyData.plain] using pl) ha rv
      exact ⟨_, Reads.tuple ho hc hd hr⟩
  | .dict _, _, _, pl, _, _ => by simp [PyData.plain] at pl
theorem Rp.readsAll {X : Cx} {pins : List (Addr × Obj)} {σ : L2.St} {F H : Hp} {s : Shared} (I : Inv X pins σ H s) (e : Same F H) : ∀ (ds : List PyData) (vs : List V) (us : List Value), PyData.plainAll ds = true → RpAll X.K F vs ds → Vals vs us → ∃ as, ReadsAll s.heap us ds as
  | [], _, _, _, h, r => by cases h; cases r; exact ⟨_, ReadsAll.nil⟩
  | d :: ds, _, _, pl, h, r => by
    cases h with
    | cons h1 h2 =>
      cases r with
      | cons r1 r2 =>
        simp [PyData.plainAll] at pl
        obtain ⟨as, q1⟩ := Rp.reads I e d _ _ pl.1 h1 r1
        obtain ⟨bs, q2⟩ := Rp.readsAll I e ds _ _ pl.2 h2 r2
        exact ⟨_, ReadsAll.cons q1 q2⟩
end

section
variable {X : Cx}
/-! == and != of data without dicts -/
def eqD : D2 := fun x y μ R => match x, y with
  | .d a, .d b => a.plain = true ∧ b.plain = true ∧ min a.depth b.depth ≤ 64 ∧ R (.d (.bool (PyData.eqv a b))) μ
  | _, _ => False
def neD : D2 := fun x y μ R => match x, y with
  | .d a, .d b => a.plain = true ∧ b.plain = true ∧ min a.depth b.depth ≤ 64 ∧ R (.d (.bool (!PyData.eqv a b))) μ
  | _, _ => False
def rEqP (K : PySem.W.Frag) : R2 := fun x y H Q => ∃ F d e, Same F H ∧ Rp K F x d ∧ Rp K F y e ∧ d.plain = true ∧ e.plain = true ∧ min d.depth e.depth ≤ 64 ∧ Q (.bl (PyData.eqv d e)) H
def rNeP (K : PySem.W.Frag) : R2 := fun x y H Q => ∃ F d e, Same F H ∧ Rp K F x d ∧ Rp K F y e ∧ d.plain = true ∧ e.plain = true ∧ min d.depth e.depth ≤ 64 ∧ Q (.bl (!PyData.eqv d e)) H
theorem op_eqP (hu : X.A.units + 100 < cLine) : OpR X (compareOp .Eq) (rEqP X.K) := by
  intro pins s σ H x y v u Q I rx ry ⟨F, d, e, sm, hd, he, pd, pe, dm, q⟩
  obtain ⟨as, r1⟩ := Rp.reads I sm d x v pd hd rx
  obtain ⟨bs, r2⟩ := Rp.reads I sm e y u pe he ry
  exact SeqAt.eq_plain r1 r2 pd pe (by omega) ⟨.bl _, H, I, rfl, q⟩
theorem op_neP (hu : X.A.units + 100 < cLine) : OpR X (compareOp .NotEq) (rNeP X.K) := by
  intro pins s σ H x y v u Q I rx ry ⟨F, d, e, sm, hd, he, pd, pe, dm, q⟩
  obtain ⟨as, r1⟩ := Rp.reads I sm d x v pd hd rx
  obtain ⟨bs, r2⟩ := Rp.reads I sm e y u pe he ry
  exact SeqAt.ne_plain r1 r2 pd pe (by omega) ⟨.bl _, H, I, rfl, q⟩
theorem l_eq {K : PySem.W.Frag} : Lift2 K (rEqP K) eqD := by
  intro F H G μ x y wx wy R Q c rx ry h fin
  unfold eqD at h
  split at h
  · rename_i a b
    exact ⟨F, a, b, c.sub, rx, ry, h.1, h.2.1, h.2.2.1, fin.flat c h.2.2.2 (.bl _)⟩
  · exact h.elim
theorem l_ne {K : PySem.W.Frag} : Lift2 K (rNeP K) neD := by
  intro F H G μ x y wx wy R Q c rx ry h fin
  unfold neD at h
  split at h
  · rename_i a b
    exact ⟨F, a, b, c.sub, rx, ry, h.1, h.2.1, h.2.2.1, fin.flat c h.2.2.2 (.bl _)⟩
  · exact h.elim

/-! in, not in -/
def inD (neg : Bool) : D2 := fun x y μ R => match x, y with
  | .d (.str a), .d (.str b) => ∃ c, a = ⟨#[c]⟩ ∧ R (.d (.bool (neg ^^ decide (c ∈ b.cps.toList)))) μ
  | .d a, .d (.tuple ds) => a.plain = true ∧ PyData.plainAll ds = true ∧ min (PyData.depthAll ds) a.depth ≤ 64 ∧ R (.d (.bool (neg ^^ ds.any fun z => PyData.eqv z a))) μ
  | .d a, .d (.list ds) => a.plain = true ∧ PyData.plainAll ds = true ∧ min (PyData.depthAll ds) a.depth ≤ 64 ∧ R (.d (.bool (neg ^^ ds.any fun z => PyData.eqv z a))) μ
  | _, _ => False
def rInP (K : PySem.W.Frag) (neg : Bool) : R2 := fun x y H Q => (∃ c z, x = .str ⟨#[c]⟩ ∧ y = .str z ∧ Q (.bl (neg ^^ decide (c ∈ z.cps.toList))) H) ∨
  ∃ F d ds, Same F H ∧ Rp K F x d ∧ (Rp K F y (.tuple ds) ∨ Rp K F y (.list ds)) ∧ d.plain = true ∧ PyData.plainAll ds = true ∧ min (PyData.depthAll ds) d.depth ≤ 64 ∧ Q (.bl (neg ^^ ds.any fun z => PyData.eqv z d)) H
theorem op_inP (hu : X.A.units + 100 < cLine) : OpR X (compareOp .In) (rInP X.K false) := by
  intro pins s σ H x y v u Q I rx ry h
  rcases h with ⟨c, z, h1, h2, h3⟩ | ⟨F, d, ds, sm, hd, he, pd, pe, dm, q⟩
  · exact op_in_sign pins s σ H x y v u Q I rx ry ⟨c, z, h1, h2, by simpa using h3⟩
  · obtain ⟨as, r1⟩ := Rp.reads I sm d x v pd hd rx
    rw [Bool.false_xor] at q
    rcases he with he | he
    · obtain ⟨bs, r2⟩ := Rp.reads I sm (.tuple ds) y u (by simpa [PyData.plain] using pe) he ry
      exact SeqAt.in_tuple_data r2 r1 pe pd (by omega) ⟨.bl _, H, I, rfl, q⟩
    · obtain ⟨bs, r2⟩ := Rp.reads I sm (.list ds) y u (by simpa [PyData.plain] using pe) he ry
      exact SeqAt.in_list_data r2 r1 pe pd (by omega) ⟨.bl _, H, I, rfl, q⟩
theorem op_notInP (hu : X.A.units + 100 < cLine) : OpR X (compareOp .NotIn) (rInP X.K true) := by
  intro pins s σ H x y v u Q I rx ry h
  rcases h with ⟨c, z, h1, h2, h3⟩ | ⟨F, d, ds, sm, hd, he, pd, pe, dm, q⟩
  · exact op_notIn_sign pins s σ H x y v u Q I rx ry ⟨c, z, h1, h2, by simpa using h3⟩
  · obtain ⟨as, r1⟩ := Rp.reads I sm d x v pd hd rx
    rw [Bool.true_xor] at q
    rcases he with he | he
    · obtain ⟨bs, r2⟩ := Rp.reads I sm (.tuple ds) y u (by simpa [PyData.plain] using pe) he ry
      exact SeqAt.notIn_tuple_data r2 r1 pe pd (by omega) ⟨.bl _, H, I, rfl, q⟩
    · obtain ⟨bs, r2⟩ := Rp.reads I sm (.list ds) y u (by simpa [PyData.plain] using pe) he ry
      exact SeqAt.notIn_list_data r2 r1 pe pd (by omega) ⟨.bl _, H, I, rfl, q⟩
theorem l_in {K : PySem.W.Frag} {neg : Bool} : Lift2 K (rInP K neg) (inD neg) := by
  intro F H G μ x y wx wy R Q c rx ry h fin
  unfold inD at h
  split at h
  · rename_i a b
    obtain ⟨z, rfl, h⟩ := h
    cases rx; cases ry
    exact .inl ⟨z, b, rfl, rfl, fin.flat c h (.bl _)⟩
  · exact .inr ⟨F, _, _, c.sub, rx, .inl ry, h.1, h.2.1, h.2.2.1, fin.flat c h.2.2.2 (.bl _)⟩
  · exact .inr ⟨F, _, _, c.sub, rx, .inr ry, h.1, h.2.1, h.2.2.1, fin.flat c h.2.2.2 (.bl _)⟩
  · exact h.elim

/-! order -/
def cmpD (fi : Int → Int → Bool) (fs : Str → Str → Bool) : D2 := fun x y μ R => match x, y with
  | .d (.int i), .d (.int j) => R (.d (.bool (fi i j))) μ
  | .d (.str a), .d (.str b) => R (.d (.bool (fs a b))) μ
  | _, _ => False
def rCmp (fi : Int → Int → Bool) (fs : Str → Str → Bool) : R2 := fun x y H Q => (∃ i j, x = .int i ∧ y = .int j ∧ Q (.bl (fi i j)) H) ∨ ∃ i j, x = .str i ∧ y = .str j ∧ Q (.bl (fs i j)) H
theorem l_cmp {K : PySem.W.Frag} {fi : Int → Int → Bool} {fs : Str → Str → Bool} : Lift2 K (rCmp fi fs) (cmpD fi fs) := by
  intro F H G μ x y wx wy R Q c rx ry h fin
  unfold cmpD at h
  split at h
  · cases rx; cases ry
    exact .inl ⟨_, _, rfl, rfl, fin.flat c h (.bl _)⟩
  · cases rx; cases ry
    exact .inr ⟨_, _, rfl, rfl, fin.flat c h (.bl _)⟩
  · exact h.elim
abbrev ltD : D2 := cmpD (fun i j => decide (i < j)) fun a b => decide (a.cps.toList < b.cps.toList)
abbrev leD : D2 := cmpD (fun i j => decide (i ≤ j)) fun a b => !decide (b.cps.toList < a.cps.toList)
abbrev gtD : D2 := cmpD (fun i j => decide (j < i)) fun a b => decide (b.cps.toList < a.cps.toList)
abbrev geD : D2 := cmpD (fun i j => decide (j ≤ i)) fun a b => !decide (a.cps.toList < b.cps.toList)
theorem op_ltA : OpR X (compareOp .Lt) (rCmp (fun i j => decide (i < j)) fun a b => decide (a.cps.toList < b.cps.toList)) := OpR.or op_lt op_lt_str
theorem op_leA : OpR X (compareOp .LtE) (rCmp (fun i j => decide (i ≤ j)) fun a b => !decide (b.cps.toList < a.cps.toList)) := OpR.or op_le op_le_str
theorem op_gtA : OpR X (compareOp .Gt) (rCmp (fun i j => decide (j < i)) fun a b => decide (b.cps.toList < a.cps.toList)) := OpR.or op_gt op_gt_str
theorem op_geA : OpR X (compareOp .GtE) (rCmp (fun i j => decide (j ≤ i)) fun a b => !decide (a.cps.toList < b.cps.toList)) := OpR.or op_ge op_ge_str

/-! is, is not: None and truths -/
def isNon : PyData → Bool
  | .none => true
  | _ => false
def isD (neg : Bool) : D2 := fun x y μ R => match x, y with
  | .d a, .d .none => R (.d (.bool (neg ^^ isNon a))) μ
  | .d (.bool a), .d (.bool b) => R (.d (.bool (neg ^^ decide (a = b)))) μ
  | .v _, .d .none => ∃ a, x = .v (.ref a) ∧ R (.d (.bool neg)) μ
  | _, _ => False
def rIsA (neg : Bool) : R2 := fun x y H Q => (y = V.non ∧ Q (V.bl (neg ^^ decide (x = V.non))) H) ∨ ∃ a b : Bool, x = .bl a ∧ y = .bl b ∧ Q (.bl (neg ^^ decide (a = b))) H
theorem op_isA : OpR X (compareOp .Is) (rIsA false) := by
  intro pins s σ H x y v u Q I rx ry h
  rcases h with ⟨h1, h2⟩ | ⟨a, b, h1, h2, h3⟩
  · exact op_isN pins s σ H x y v u Q I rx ry ⟨h1, by simpa using h2⟩
  · exact op_isBl pins s σ H x y v u Q I rx ry ⟨a, b, h1, h2, by simpa using h3⟩
theorem op_isNotA : OpR X (compareOp .IsNot) (rIsA true) := by
  intro pins s σ H x y v u Q I rx ry h
  rcases h with ⟨h1, h2⟩ | ⟨a, b, h1, h2, h3⟩
  · exact op_notN pins s σ H x y v u Q I rx ry ⟨h1, by simpa using h2⟩
  · exact op_notBl pins s σ H x y v u Q I rx ry ⟨a, b, h1, h2, by simpa using h3⟩
theorem Rp_non {K : PySem.W.Frag} {F : Hp} {x : V} {a : PyData} (h : Rp K F x a) : decide (x = V.non) = isNon a := by
  cases h <;> first | rfl | simp
theorem l_is {K : PySem.W.Frag} {neg : Bool} : Lift2 K (rIsA neg) (isD neg) := by
  intro F H G μ x y wx wy R Q c rx ry h fin
  unfold isD at h
  split at h
  · cases ry
    refine .inl ⟨rfl, ?_⟩
    rw [Rp_non rx]
    exact fin.flat c h (.bl _)
  · cases rx; cases ry
    exact .inr ⟨_, _, rfl, rfl, fin.flat c h (.bl _)⟩
  · cases ry
    obtain ⟨a, e, h⟩ := h
    cases e
    cases (show x = .ref a from rx)
    refine .inl ⟨rfl, ?_⟩
    have e : decide (V.ref a = V.non) = false := by simp
    rw [e, Bool.xor_false]
    exact fin.flat c h (.bl _)
  · exact h.elim

/-! numbers -/
def numD (C : Int → Int → Prop) (f : Int → Int → Int) : D2 := fun x y μ R => match x, y with
  | .d (.int i), .d (.int j) => C i j ∧ R (.d (.int (f i j))) μ
  | _, _ => False
theorem l_num {K : PySem.W.Frag} {C : Int → Int → Prop} {f : Int → Int → Int} : Lift2 K (rI C fun i j => .int (f i j)) (numD C f) := by
  intro F H G μ x y wx wy R Q c rx ry h fin
  unfold numD at h
  split at h
  · cases rx; cases ry
    exact ⟨_, _, rfl, rfl, h.1, fin.flat c h.2 (.int _)⟩
  · exact h.elim
def subD : D2 := fun x y μ R => match x, y with
  | .d (.int i), .d (.int j) => R (.d (.int (i - j))) μ
  | _, _ => False
theorem l_sub {K : PySem.W.Frag} : Lift2 K (rI0 fun i j => .int (i - j)) subD := by
  intro F H G μ x y wx wy R Q c rx ry h fin
  unfold subD at h
  split at h
  · cases rx; cases ry
    exact ⟨_, _, rfl, rfl, fin.flat c h (.int _)⟩
  · exact h.elim
/-- products: numbers; a list, a tuple, a text some times -/
def mulD : D2 := fun x y μ R => match x, y with
  | .d (.int i), .d (.int j) => (-2 ^ 64 < i ∧ i < 2 ^ 64 ∨ -2 ^ 64 < j ∧ j < 2 ^ 64) ∧ R (.d (.int (i * j))) μ
  | .d (.list ds), .d (.int k) => -2 ^ 63 ≤ k ∧ k < 2 ^ 63 ∧ ds.length * k.toNat ≤ sizeLine ∧ R (.d (.list (List.replicate k.toNat ds).flatten)) μ
  | .d (.tuple ds), .d (.int k) => ds ≠ [] ∧ 2 ≤ k ∧ k ≤ 1000 ∧ ds.length ≤ 1000 ∧ R (.d (.tuple (List.replicate k.toNat ds).flatten)) μ
  | _, _ => False
def rMulA (K : PySem.W.Frag) : R2 := fun x y H Q => (rI CMul (fun i j => .int (i * j)) x y H Q ∨ rRep x y H Q) ∨ rRepT K x y H Q
theorem op_mulA : OpR X (binaryOp .Mult) (rMulA X.K) := OpR.or (OpR.or op_mul op_rep) op_repT
theorem l_mul {K : PySem.W.Frag} : Lift2 K (rMulA K) mulD := by
  intro F H G μ x y wx wy R Q c rx ry h fin
  unfold mulD at h
  split at h
  · cases rx; cases ry
    exact .inl (.inl ⟨_, _, rfl, rfl, h.1, fin.flat c h.2 (.int _)⟩)
  · cases ry
    cases rx with
    | lst e1 k1 =>
      refine .inl (.inr ⟨_, _, _, rfl, rfl, c.sub _ _ e1, h.1, h.2.1, by rw [k1.len]; exact h.2.2.1, fun p hp => ?_⟩)
      obtain ⟨s, c'⟩ := c.lay hp (.lst _)
      exact fin _ _ _ _ _ h.2.2.2 s c' (.lst upd_same ((k1.rep _).mono s))
  · cases ry
    cases rx with
    | tup e1 k1 =>
      refine .inr ⟨_, _, _, rfl, rfl, SqT_mono c.sub e1, fun z => ?_, h.2.1, h.2.2.1, by rw [k1.len]; exact h.2.2.2.1, fun p hp => ?_⟩
      · subst z
        cases k1
        exact h.1 rfl
      · obtain ⟨s, c'⟩ := c.lay hp (.tup _)
        exact fin _ _ _ _ _ h.2.2.2.2 s c' (.tup (.inl (.inl upd_same)) ((k1.rep _).mono s))
  · exact h.elim
abbrev modD : D2 := numD (fun _ j => j ≠ 0) fun i j => i.fmod j
abbrev divD : D2 := numD CDivW fun i j => i / j
abbrev powD : D2 := numD CPow fun i j => i ^ j.toNat
def negD : W → M → DQ → Prop := fun x μ R => match x with
  | .d (.int i) => R (.d (.int (-i))) μ
  | _ => False
theorem l_neg {K : PySem.W.Frag} : Lift1 K (rU fun i => V.int (-i)) negD := by
  intro F H G μ x wx R Q c rx h fin
  unfold negD at h
  split at h
  · cases rx
    exact ⟨_, rfl, fin.flat c h (.int _)⟩
  · exact h.elim

/-! ### truth, and, or, not, if -/
def truD (w : W) (μ : M) (R : Bool → Prop) : Prop := match w with
  | .d .none => R false
  | .d (.bool b) => R b
  | .d (.int i) => R (i != 0)
  | .d (.str x) => x.length ≤ sizeLine ∧ R ((x.length : Int) != 0)
  | .d (.list ds) => R (!ds.isEmpty)
  | .d (.tuple ds) => R (!ds.isEmpty)
  | .d (.dict ds) => R (!ds.isEmpty)
  | .s ns => R (!ns.isEmpty)
  | .v (.ref a) => match μ a with
    | some (.lst ws) => R (!ws.isEmpty)
    | some (.dct kvs) => R (!kvs.isEmpty)
    | _ => False
  | _ => False
theorem emp_of_len {α β : Type} : ∀ {xs : List α} {ys : List β}, xs.length = ys.length → xs.isEmpty = ys.isEmpty
  | [], [], _ => rfl
  | _ :: _, _ :: _, _ => rfl
  | [], _ :: _, h => by simp at h
  | _ :: _, [], h => by simp at h
theorem RpKv.len {K : PySem.W.Frag} {F : Hp} : ∀ {vs : List (Key × V)} {ds : List (PyData × PyData)}, RpKv K F vs ds → vs.length = ds.length
  | _, _, .nil => rfl
  | _, _, .cons _ _ t => congrArg (· + 1) (RpKv.len t)
theorem tru_of {K : PySem.W.Frag} {F H G : Hp} {μ : M} {x : V} {w : W} {R : Bool → Prop} (c : Cn K F H μ G) (r : Rw K F x w) (h : truD w μ R) : ∃ k, TruV K x H k ∧ R k := by
  unfold truD at h
  split at h
  · cases r; exact ⟨_, rfl, h⟩
  · cases r; exact ⟨_, rfl, h⟩
  · cases r; exact ⟨_, rfl, h⟩
  · cases r; exact ⟨_, ⟨h.1, rfl⟩, h.2⟩
  · cases r with
    | lst e k => exact ⟨_, .inl ⟨_, .inl (.inl (c.sub _ _ e)), rfl⟩, by rw [emp_of_len k.len]; exact h⟩
  · cases r with
    | tup e k => exact ⟨_, .inr (.inl ⟨_, SqT_mono c.sub e, rfl⟩), by rw [emp_of_len k.len]; exact h⟩
  · cases r with
    | dct e k => exact ⟨_, .inr (.inr ⟨_, c.sub _ _ e, rfl⟩), by rw [emp_of_len k.len]; exact h⟩
  · obtain ⟨a, rfl, e⟩ := r
    exact ⟨_, .inl ⟨_, c.sub.seq e, rfl⟩, by rw [emp_of_len (List.length_map _)]; exact h⟩
  · rename_i a
    cases (show x = .ref a from r)
    split at h
    · rename_i ws e
      obtain ⟨_, _, o, ho, vs, rfl, k⟩ := c.mu a _ e
      exact ⟨_, .inl ⟨_, .inl (.inl ho), rfl⟩, by rw [emp_of_len k.len]; exact h⟩
    · rename_i kvs e
      obtain ⟨_, _, o, ho, vs, rfl, k⟩ := c.mu a _ e
      exact ⟨_, .inr (.inr ⟨_, ho, rfl⟩), by rw [emp_of_len (Paired.length k)]; exact h⟩
    · exact h.elim
  · exact h.elim
def tAndD (ta tb : DTE) : DTE := fun ρ μ R => ta ρ μ fun w μ1 => truD w μ1 fun k => if k = true then tb ρ μ1 R else R w μ1
def tOrD (ta tb : DTE) : DTE := fun ρ μ R => ta ρ μ fun w μ1 => truD w μ1 fun k => if k = true then R w μ1 else tb ρ μ1 R
theorem de_and {a b : Expr} {rest : List Expr} {pos : Pos} {ta tb : DTE} (ha : DE X a ta) (hb : DE X (.BoolOp .And (b :: rest) pos) tb) : DE X (.BoolOp .And (a :: b :: rest) pos) (tAndD ta tb) :=
  ⟨PE_mono (pe_andT ha.pe hb.pe) fun σ H Q ⟨F, ρ, μ, G, R, c, rs, h, fin⟩ => lE_go c rs h fun wx μ1 F1 H1 x r1 s1 c1 q1 => by
    obtain ⟨k, tk, r⟩ := tru_of c1 q1 r1
    refine ⟨k, tk, ?_⟩
    cases k with
    | true => rw [if_pos rfl] at r ⊢; exact lE_go c1 (rs.mono s1) r (fin.mono s1)
    | false => rw [if_neg Bool.false_ne_true] at r ⊢; exact fin _ _ _ _ _ r s1 c1 q1⟩
theorem de_or {a b : Expr} {rest : List Expr} {pos : Pos} {ta tb : DTE} (ha : DE X a ta) (hb : DE X (.BoolOp .Or (b :: rest) pos) tb) : DE X (.BoolOp .Or (a :: b :: rest) pos) (tOrD ta tb) :=
  ⟨PE_mono (pe_orT ha.pe hb.pe) fun σ H Q ⟨F, ρ, μ, G, R, c, rs, h, fin⟩ => lE_go c rs h fun wx μ1 F1 H1 x r1 s1 c1 q1 => by
    obtain ⟨k, tk, r⟩ := tru_of c1 q1 r1
    refine ⟨k, tk, ?_⟩
    cases k with
    | true => rw [if_pos rfl] at r ⊢; exact fin _ _ _ _ _ r s1 c1 q1
    | false => rw [if_neg Bool.false_ne_true] at r ⊢; exact lE_go c1 (rs.mono s1) r (fin.mono s1)⟩
theorem de_one {a : Expr} {pos : Pos} {op : BoolOp} {t : DTE} (h : DE X a t) : DE X (.BoolOp op [a] pos) t := ⟨pe_one h.pe⟩
def tNotD (ta : DTE) : DTE := fun ρ μ R => ta ρ μ fun w μ1 => truD w μ1 fun k => R (.d (.bool (!k))) μ1
theorem de_not {a : Expr} {pos : Pos} {ta : DTE} (ha : DE X a ta) : DE X (.UnaryOp .Not a pos) (tNotD ta) :=
  ⟨PE_mono (pe_notT ha.pe) fun σ H Q ⟨F, ρ, μ, G, R, c, rs, h, fin⟩ => lE_go c rs h fun wx μ1 F1 H1 x r1 s1 c1 q1 => by
    obtain ⟨k, tk, r⟩ := tru_of c1 q1 r1
    exact ⟨k, tk, fin _ _ _ _ _ r s1 c1 (.bl _)⟩⟩
/-- an expression as a test -/
def tTru (t : DTE) : DTT := fun ρ μ R => t ρ μ fun w μ1 => truD w μ1 fun k => R k μ1
theorem dt_of {e : Expr} {t : DTE} (he : DE X e t) (hp : ∀ whole : Sem Value, PySem.isTrue e X.env whole = (do
      let v ← whole
      standAt e.pos
      holding [v] (truthy v))) : DT X e (tTru t) :=
  ⟨PT_mono (pt_truth he.pe hp) fun σ H Q ⟨F, ρ, μ, G, R, c, rs, h, fin⟩ => lE_go c rs h fun wx μ1 F1 H1 x r1 s1 c1 q1 => by
    obtain ⟨k, tk, r⟩ := tru_of c1 q1 r1
    exact ⟨k, tk, fin _ _ _ _ r s1 c1⟩⟩
theorem lT_go {K : PySem.W.Frag} {t : DTT} {σ : L2.St} {H F G : Hp} {ρ : Sl} {μ : M} {R : Bool → M → Prop} {Q : Bool → Hp → Prop} (c : Cn K F H μ G) (r : Rs K F σ ρ) (h : t ρ μ R) (f : FinB K F G R Q) : lT K t σ H Q := ⟨F, ρ, μ, G, R, c, r, h, f⟩
def tNotB (t : DTT) : DTT := fun ρ μ R => t ρ μ fun k μ1 => R (!k) μ1
theorem dt_not {a : Expr} {pos : Pos} {t : DTT} (h : DT X a t) : DT X (.UnaryOp .Not a pos) (tNotB t) :=
  ⟨PT_mono (pt_not h.pt) fun σ H Q ⟨F, ρ, μ, G, R, c, rs, h, fin⟩ => lT_go c rs h fun b μ1 F1 H1 r s c1 => fin _ _ _ _ r s c1⟩
def tAndB (t u : DTT) : DTT := fun ρ μ R => t ρ μ fun k μ1 => if k = true then u ρ μ1 R else R false μ1
def tOrB (t u : DTT) : DTT := fun ρ μ R => t ρ μ fun k μ1 => if k = true then R true μ1 else u ρ μ1 R
theorem dw_and {a b : Expr} {rest : List Expr} {pos : Pos} {t u : DTT} (ha : DT X a t) (hb : DW X (.BoolOp .And (b :: rest) pos) u) : DW X (.BoolOp .And (a :: b :: rest) pos) (tAndB t u) :=
  ⟨PW_mono (pw_and ha.pt hb.pw) fun σ H Q ⟨F, ρ, μ, G, R, c, rs, h, fin⟩ => lT_go c rs h fun b μ1 F1 H1 r s c1 => by
    cases b with
    | true => rw [if_pos rfl] at r ⊢; exact lT_go c1 (rs.mono s) r (fin.mono s)
    | false => rw [if_neg Bool.false_ne_true] at r ⊢; exact fin _ _ _ _ r s c1⟩
theorem dw_or {a b : Expr} {rest : List Expr} {pos : Pos} {t u : DTT} (ha : DT X a t) (hb : DW X (.BoolOp .Or (b :: rest) pos) u) : DW X (.BoolOp .Or (a :: b :: rest) pos) (tOrB t u) :=
  ⟨PW_mono (pw_or ha.pt hb.pw) fun σ H Q ⟨F, ρ, μ, G, R, c, rs, h, fin⟩ => lT_go c rs h fun b μ1 F1 H1 r s c1 => by
    cases b with
    | true => rw [if_pos rfl] at r ⊢; exact fin _ _ _ _ r s c1
    | false => rw [if_neg Bool.false_ne_true] at r ⊢; exact lT_go c1 (rs.mono s) r (fin.mono s)⟩
theorem dw_and1 {a : Expr} {pos : Pos} {t : DTT} (h : DT X a t) : DW X (.BoolOp .And [a] pos) t := ⟨pw_and1 h.pt⟩
theorem dw_or1 {a : Expr} {pos : Pos} {t : DTT} (h : DT X a t) : DW X (.BoolOp .Or [a] pos) t := ⟨pw_or1 h.pt⟩
theorem dt_w {e : Expr} {t : DTT} (h : DW X e t) : DT X e t := ⟨h.pw.pt⟩
def tIfD (t : DTT) (ta tb : DTE) : DTE := fun ρ μ R => t ρ μ fun k μ1 => if k = true then ta ρ μ1 R else tb ρ μ1 R
theorem de_if {c a b : Expr} {pos : Pos} {t : DTT} {ta tb : DTE} (hc : DT X c t) (ha : DE X a ta) (hb : DE X b tb) : DE X (.IfExp c a b pos) (tIfD t ta tb) :=
  ⟨PE_mono (pe_ifExp hc.pt ha.pe hb.pe) fun σ H Q ⟨F, ρ, μ, G, R, c, rs, h, fin⟩ => lT_go c rs h fun b μ1 F1 H1 r s c1 => by
    cases b with
    | true => rw [if_pos rfl] at r ⊢; exact lE_go c1 (rs.mono s) r (fin.mono s)
    | false => rw [if_neg Bool.false_ne_true] at r ⊢; exact lE_go c1 (rs.mono s) r (fin.mono s)⟩
end
end DL

set_option Elab.async false
set_option linter.all false
set_option maxRecDepth 100000
set_option maxHeartbeats 1000000
namespace DL
open PySem PySem.Spec PyProof.Rows L2

/-! ### arguments and displays -/
section
variable {X : Cx}
theorem lA_go {K : PySem.W.Frag} {t : DTA} {σ : L2.St} {H F G : Hp} {ρ : Sl} {μ : M} {R : List W → M → Prop} {Q : List V → Hp → Prop} (c : Cn K F H μ G) (r : Rs K F σ ρ) (h : t ρ μ R) (f : FinA K F G R Q) : lA K t σ H Q := ⟨F, ρ, μ, G, R, c, r, h, f⟩
def tNilD : DTA := fun _ μ R => R [] μ
def tConsD (ta : DTE) (tr : DTA) : DTA := fun ρ μ R => ta ρ μ fun x μ1 => tr ρ μ1 fun xs μ2 => R (x :: xs) μ2
theorem da_nil : DA X [] tNilD := ⟨PA_mono pa_nil fun σ H Q ⟨F, ρ, μ, G, R, c, rs, h, fin⟩ => fin [] μ F H [] h (Same.refl _) c .nil⟩
theorem da_cons {e : Expr} {es : List Expr} {ta : DTE} {tr : DTA} (ha : DE X e ta) (hr : DA X es tr) (hs : starEach (e :: es) X.env = (false, eval e X.env) :: starEach es X.env) : DA X (e :: es) (tConsD ta tr) :=
  ⟨PA_mono (pa_cons ha.pe hr.pa hs) fun σ H Q ⟨F, ρ, μ, G, R, c, rs, h, fin⟩ =>
    lE_go c rs h fun wx μ1 F1 H1 x r1 s1 c1 q1 => lA_go c1 (rs.mono s1) r1 fun ws μ2 F2 H2 xs r2 s2 c2 q2 => fin _ _ _ _ _ r2 (s1.trans s2) c2 (.cons (q1.mono s2) q2)⟩
/-- data from values, or nothing -/
def asD (ws : List W) (R : List PyData → Prop) : Prop := match dats ws with
  | some ds => R ds
  | none => False
theorem asD_ok {K : PySem.W.Frag} {F : Hp} {vs : List V} {ws : List W} {R : List PyData → Prop} (r : RwAll K F vs ws) (h : asD ws R) : ∃ ds, RpAll K F vs ds ∧ R ds := by
  unfold asD at h
  split at h
  · rename_i ds e
    exact ⟨ds, dats_ok r e, h⟩
  · exact h.elim
def tTupD (t : DTA) : DTE := fun ρ μ R => t ρ μ fun ws μ1 => ws.length ≤ sizeLine ∧ asD ws fun ds => R (.d (.tuple ds)) μ1
def tLstD (t : DTA) : DTE := fun ρ μ R => t ρ μ fun ws μ1 => ws.length ≤ sizeLine ∧ asD ws fun ds => R (.d (.list ds)) μ1
/-- a list that will change -/
def tLstM (t : DTA) : DTE := fun ρ μ R => t ρ μ fun ws μ1 => ws.length ≤ sizeLine ∧ ∀ p, μ1 p = none → R (.v (.ref p)) (mset μ1 p (.lst ws))
def tTupM (t : DTA) : DTE := fun ρ μ R => t ρ μ fun ws μ1 => ws.length ≤ sizeLine ∧ ∀ p, μ1 p = none → R (.v (.ref p)) (mset μ1 p (.tup ws))
theorem de_tupM {es : List Expr} {n : Nat} {pos : Pos} {t : DTA} (h : DA X es t) : DE X (.Tuple es n pos) (tTupM t) :=
  ⟨PE_mono (pe_tup h.pa) fun σ H Q ⟨F, ρ, μ, G, R, c, rs, h, fin⟩ => lA_go c rs h fun ws μ1 F1 H1 xs r1 s1 c1 q1 => ⟨by rw [q1.len]; exact r1.1, fun p hp =>
    fin _ _ _ _ _ (r1.2 p (c1.noM hp)) s1 (c1.born hp ⟨xs, rfl, q1⟩) rfl⟩⟩
theorem de_tup {es : List Expr} {n : Nat} {pos : Pos} {t : DTA} (h : DA X es t) : DE X (.Tuple es n pos) (tTupD t) :=
  ⟨PE_mono (pe_tup h.pa) fun σ H Q ⟨F, ρ, μ, G, R, c, rs, h, fin⟩ => lA_go c rs h fun ws μ1 F1 H1 xs r1 s1 c1 q1 => ⟨by rw [q1.len]; exact r1.1, fun p hp => by
    obtain ⟨ds, k, r⟩ := asD_ok q1 r1.2
    obtain ⟨s, c'⟩ := c1.lay hp (.tup xs)
    exact fin _ _ _ _ _ r (s1.trans s) c' (.tup (.inl (.inl upd_same)) (k.mono s))⟩⟩
theorem de_lst {es : List Expr} {pos : Pos} {t : DTA} (h : DA X es t) : DE X (.List es pos) (tLstD t) :=
  ⟨PE_mono (pe_lst h.pa) fun σ H Q ⟨F, ρ, μ, G, R, c, rs, h, fin⟩ => lA_go c rs h fun ws μ1 F1 H1 xs r1 s1 c1 q1 => ⟨by rw [q1.len]; exact r1.1, fun p hp => by
    obtain ⟨ds, k, r⟩ := asD_ok q1 r1.2
    obtain ⟨s, c'⟩ := c1.lay hp (.lst xs)
    exact fin _ _ _ _ _ r (s1.trans s) c' (.lst upd_same (k.mono s))⟩⟩
theorem de_lstM {es : List Expr} {pos : Pos} {t : DTA} (h : DA X es t) : DE X (.List es pos) (tLstM t) :=
  ⟨PE_mono (pe_lst h.pa) fun σ H Q ⟨F, ρ, μ, G, R, c, rs, h, fin⟩ => lA_go c rs h fun ws μ1 F1 H1 xs r1 s1 c1 q1 => ⟨by rw [q1.len]; exact r1.1, fun p hp =>
    fin _ _ _ _ _ (r1.2 p (c1.noM hp)) s1 (c1.born hp ⟨xs, rfl, q1⟩) rfl⟩⟩

end

/-! ### places -/
theorem ixN_len {α β : Type} {xs : List α} {ys : List β} (h : xs.length = ys.length) (i : Int) : ixN xs.length i = ixN ys.length i := by rw [h]
theorem atI_rp {K : PySem.W.Frag} {F : Hp} {vs : List V} {ds : List PyData} {i : Int} {d : PyData} (h : RpAll K F vs ds) (e : atI ds i = some d) : ∃ v, atI vs i = some v ∧ Rp K F v d := by
  unfold atI at e ⊢
  rw [h.len]
  cases q : ixN ds.length i with
  | none => rw [q] at e; cases e
  | some j => rw [q] at e; exact h.get e
theorem RwAll.get {K : PySem.W.Frag} {F : Hp} : ∀ {vs : List V} {ws : List W} {i : Nat} {w : W}, RwAll K F vs ws → ws[i]? = some w → ∃ v, vs[i]? = some v ∧ Rw K F v w
  | _, _, _, _, .nil, e => by simp at e
  | _, _, 0, _, .cons r _, e => by simp at e; subst e; exact ⟨_, rfl, r⟩
  | _, _, i + 1, _, .cons _ t, e => by
    obtain ⟨v, h1, h2⟩ := RwAll.get (i := i) t (by simpa using e)
    exact ⟨v, by simpa using h1, h2⟩
theorem RwAll.set {K : PySem.W.Frag} {F : Hp} {v : V} {w : W} (r : Rw K F v w) : ∀ {vs : List V} {ws : List W} (i : Nat), RwAll K F vs ws → RwAll K F (vs.set i v) (ws.set i w)
  | _, _, _, .nil => .nil
  | _, _, 0, .cons _ t => .cons r t
  | _, _, i + 1, .cons q t => .cons q (RwAll.set r i t)
theorem atI_rw {K : PySem.W.Frag} {F : Hp} {vs : List V} {ws : List W} {i : Int} {w : W} (h : RwAll K F vs ws) (e : atI ws i = some w) : ∃ v, atI vs i = some v ∧ Rw K F v w := by
  unfold atI at e ⊢
  rw [h.len]
  cases q : ixN ws.length i with
  | none => rw [q] at e; cases e
  | some j => rw [q] at e; exact RwAll.get h e
def onS {α : Type} (o : Option α) (R : α → Prop) : Prop := match o with
  | some x => R x
  | none => False
theorem onS_ok {α : Type} {o : Option α} {R : α → Prop} (h : onS o R) : ∃ x, o = some x ∧ R x := by
  cases o with
  | none => exact h.elim
  | some x => exact ⟨x, rfl, h⟩
theorem onS_of {α : Type} {o : Option α} {x : α} {R : α → Prop} (e : o = some x) (h : R x) : onS o R := by rw [e]; exact h
section
variable {X : Cx}
def ixD : D2 := fun x y μ R => match x, y with
  | .d (.list ds), .d (.int i) => onS (atI ds i) fun d => R (.d d) μ
  | .d (.tuple ds), .d (.int i) => onS (atI ds i) fun d => R (.d d) μ
  | .d (.str z), .d (.int i) => z.length ≤ sizeLine ∧ onS (atI z.cps.toList i) fun c => R (.d (.str ⟨#[c]⟩)) μ
  | .s ns, .d (.int i) => onS (atI ns i) fun n => R (.d (.int n)) μ
  | .v (.ref a), .d (.int i) => onS (μ a) fun m => match m with
    | .lst ws => onS (atI ws i) fun w => R w μ
    | .tup ws => onS (atI ws i) fun w => R w μ
    | _ => False
  | _, _ => False
def rIxA (K : PySem.W.Frag) : R2 := fun x y H Q => (rIxL K x y H Q ∨ rIxT K x y H Q) ∨ rIxS x y H Q
theorem IxR.or {r1 r2 : R2} (h1 : IxR X r1) (h2 : IxR X r2) : IxR X fun x y H Q => r1 x y H Q ∨ r2 x y H Q := fun va sl pins s σ H x y v u Q I rx ry h e => by
  rcases h with h | h
  · exact h1 va sl pins s σ H x y v u Q I rx ry h e
  · exact h2 va sl pins s σ H x y v u Q I rx ry h e
theorem ix_all : IxR X (rIxA X.K) := IxR.or (IxR.or ix_list ix_tup) ix_str
theorem atI_ints {ns : List Int} {i n : Int} (e : atI ns i = some n) : atI (ns.map V.int) i = some (.int n) := by
  unfold atI at e ⊢
  rw [List.length_map]
  cases q : ixN ns.length i with
  | none => rw [q] at e; cases e
  | some j =>
    rw [q] at e
    show (ns.map V.int)[j]? = _
    rw [List.getElem?_map]
    rw [show ns[j]? = some n from e]
    rfl
theorem l_ix {K : PySem.W.Frag} : Lift2 K (rIxA K) ixD := by
  intro F H G μ x y wx wy R Q c rx ry h fin
  unfold ixD at h
  split at h
  · cases ry
    cases rx with
    | lst e k =>
      obtain ⟨d, ed, r⟩ := onS_ok h
      obtain ⟨v, ev, rv⟩ := atI_rp k ed
      exact .inl (.inl ⟨_, _, _, v, rfl, rfl, .inl (.inl (c.sub _ _ e)), ev, fin _ _ _ _ _ r (Same.refl _) c rv⟩)
  · cases ry
    cases rx with
    | tup e k =>
      obtain ⟨d, ed, r⟩ := onS_ok h
      obtain ⟨v, ev, rv⟩ := atI_rp k ed
      exact .inl (.inr ⟨_, _, _, v, rfl, rfl, SqT_mono c.sub e, ev, fin _ _ _ _ _ r (Same.refl _) c rv⟩)
  · cases ry; cases rx
    obtain ⟨d, ed, r⟩ := onS_ok h.2
    exact .inr ⟨_, _, _, rfl, rfl, h.1, ed, fin _ _ _ _ _ r (Same.refl _) c (.str _)⟩
  · cases ry
    obtain ⟨a, rfl, e⟩ := rx
    obtain ⟨n, en, r⟩ := onS_ok h
    exact .inl (.inl ⟨_, _, _, _, rfl, rfl, c.sub.seq e, atI_ints en, fin _ _ _ _ _ r (Same.refl _) c (.int _)⟩)
  · rename_i a i
    cases ry
    cases (show x = .ref a from rx)
    obtain ⟨m, em, h⟩ := onS_ok h
    split at h
    · rename_i ws
      obtain ⟨_, _, o, ho, vs, rfl, k⟩ := c.mu _ _ em
      obtain ⟨w, ew, r⟩ := onS_ok h
      obtain ⟨v, ev, rv⟩ := atI_rw k ew
      exact .inl (.inl ⟨_, _, _, v, rfl, rfl, .inl (.inl ho), ev, fin _ _ _ _ _ r (Same.refl _) c rv⟩)
    · rename_i ws
      obtain ⟨_, _, o, ho, vs, rfl, k⟩ := c.mu _ _ em
      obtain ⟨w, ew, r⟩ := onS_ok h
      obtain ⟨v, ev, rv⟩ := atI_rw k ew
      exact .inl (.inr ⟨_, _, _, v, rfl, rfl, .inl (.inl ho), ev, fin _ _ _ _ _ r (Same.refl _) c rv⟩)
    · exact h.elim
  · exact h.elim
theorem de_ix {a b : Expr} {pos : Pos} {ta tb : DTE} (ha : DE X a ta) (hb : DE X b tb) (pl : PlainIx b) : DE X (.Subscript a b pos) (tOp2 ixD ta tb) :=
  ⟨PE_mono (pe_ix ix_all ha.pe hb.pe pl) fun σ H Q ⟨F, ρ, μ, G, R, c, rs, h, fin⟩ =>
    lE_go c rs h fun wx μ1 F1 H1 x r1 s1 c1 q1 => lE_go c1 (rs.mono s1) r1 fun wy μ2 F2 H2 y r2 s2 c2 q2 => l_ix c2 (q1.mono s2) q2 r2 (fin.mono (s1.trans s2))⟩

/-! ### slices -/
abbrev DTO := Sl → M → (Option Int → M → Prop) → Prop
def lO (K : PySem.W.Frag) (t : DTO) : TO := fun σ H Q => ∃ (F : Hp) (ρ : Sl) (μ : M) (G : Hp) (R : Option Int → M → Prop), Cn K F H μ G ∧ Rs K F σ ρ ∧ t ρ μ R ∧ ∀ (o : Option Int) (μ' : M) (F' H' : Hp), R o μ' → Same F F' → Cn K F' H' μ' G → Q o H'
structure DO (X : Cx) (e : Option Expr) (t : DTO) : Prop where
  po : PO X e (lO X.K t)
def tNoD : DTO := fun _ μ R => R none μ
def tPartD (t : DTE) : DTO := fun ρ μ R => t ρ μ fun w μ1 => match w with
  | .d (.int i) => R (some i) μ1
  | _ => False
theorem PO_mono {e : Option Expr} {t t' : TO} (h : PO X e t) (i : ∀ σ H Q, t' σ H Q → t σ H Q) : PO X e t' := ⟨fun pins s σ H Q I q => h.run pins s σ H Q I (i _ _ _ q)⟩
theorem do_none : DO X none tNoD := ⟨PO_mono po_none fun σ H Q ⟨F, ρ, μ, G, R, c, rs, h, fin⟩ => fin _ _ _ _ h (Same.refl _) c⟩
theorem do_some {e : Expr} {t : DTE} (h : DE X e t) : DO X (some e) (tPartD t) := ⟨PO_mono (po_some h.pe) fun σ H Q ⟨F, ρ, μ, G, R, c, rs, h, fin⟩ =>
  lE_go c rs h fun w μ1 F1 H1 x r1 s1 c1 q1 => by
    split at r1
    · cases q1
      exact ⟨_, rfl, fin _ _ _ _ r1 s1 c1⟩
    · exact r1.elim⟩
def cutG {α : Type} (xs : List α) (lo hi : Option Int) : List α := List.take (HT.sIx xs.length xs.length hi - HT.sIx xs.length 0 lo) (List.drop (HT.sIx xs.length 0 lo) xs)
def slD (x : W) (lo hi : Option Int) (μ : M) (R : DQ) : Prop := match x with
  | .d (.list ds) => R (.d (.list (cutG ds lo hi))) μ
  | .d (.tuple ds) => R (.d (.tuple (cutG ds lo hi))) μ
  | .d (.str z) => z.length ≤ sizeLine ∧ R (.d (.str (cutS z lo hi))) μ
  | .s ns => R (.d (.list ((cutG ns lo hi).map .int))) μ
  | .v (.ref a) => onS (μ a) fun m => match m with
    | .lst ws => asD (cutG ws lo hi) fun ds => R (.d (.list ds)) μ
    | _ => False
  | _ => False
def rSlAll (K : PySem.W.Frag) : V → Option Int → Option Int → Hp → VK → Prop := fun x lo hi H Q => (rSlL K x lo hi H Q ∨ rSlA K x lo hi H Q) ∨ rSlS x lo hi H Q
theorem SlR.or {r1 r2 : V → Option Int → Option Int → Hp → VK → Prop} (h1 : SlR X r1) (h2 : SlR X r2) : SlR X fun x lo hi H Q => r1 x lo hi H Q ∨ r2 x lo hi H Q := fun pins s σ H x v vl vu lo hi sl Q I rx i1 i2 i3 h => by
  rcases h with h | h
  · exact h1 pins s σ H x v vl vu lo hi sl Q I rx i1 i2 i3 h
  · exact h2 pins s σ H x v vl vu lo hi sl Q I rx i1 i2 i3 h
theorem sl_all : SlR X (rSlAll X.K) := SlR.or (SlR.or sl_list sl_tupA) sl_str
theorem cutV_rp {K : PySem.W.Frag} {F : Hp} {vs : List V} {ds : List PyData} (h : RpAll K F vs ds) (lo hi : Option Int) : RpAll K F (cutV vs lo hi) (cutG ds lo hi) := by
  unfold cutV cutG
  rw [h.len]
  exact (h.drop _).take _
theorem RwAll.drop {K : PySem.W.Frag} {F : Hp} : ∀ {vs : List V} {ds : List W} (n : Nat), RwAll K F vs ds → RwAll K F (vs.drop n) (ds.drop n)
  | _, _, 0, r => r
  | _, _, _ + 1, .nil => .nil
  | _, _, n + 1, .cons _ t => RwAll.drop n t
theorem RwAll.take {K : PySem.W.Frag} {F : Hp} : ∀ {vs : List V} {ds : List W} (n : Nat), RwAll K F vs ds → RwAll K F (vs.take n) (ds.take n)
  | _, _, 0, _ => .nil
  | _, _, _ + 1, .nil => .nil
  | _, _, n + 1, .cons r t => .cons r (RwAll.take n t)
theorem cutV_rw {K : PySem.W.Frag} {F : Hp} {vs : List V} {ws : List W} (h : RwAll K F vs ws) (lo hi : Option Int) : RwAll K F (cutV vs lo hi) (cutG ws lo hi) := by
  unfold cutV cutG
  rw [h.len]
  exact RwAll.take _ (RwAll.drop _ h)
theorem cutV_id {α : Type} {xs : List α} {lo hi : Option Int} (h : HT.sIx xs.length 0 lo = 0 ∧ HT.sIx xs.length xs.length hi = xs.length) : cutG xs lo hi = xs := by
  unfold cutG
  rw [h.1, h.2, List.drop_zero, Nat.sub_zero, List.take_length]
theorem ints_rp {K : PySem.W.Frag} {F : Hp} : ∀ ns : List Int, RpAll K F (ns.map V.int) (ns.map .int)
  | [] => .nil
  | n :: ns => .cons (.int n) (ints_rp ns)
theorem cut_map {α β : Type} (f : α → β) (xs : List α) (lo hi : Option Int) : cutG (xs.map f) lo hi = (cutG xs lo hi).map f := by
  unfold cutG
  rw [List.length_map, ← List.map_drop, ← List.map_take]
theorem l_sl {K : PySem.W.Frag} {F H G : Hp} {μ : M} {x : V} {wx : W} {lo hi : Option Int} {R : DQ} {Q : VK} (c : Cn K F H μ G) (rx : Rw K F x wx) (h : slD wx lo hi μ R) (fin : Fin K F G R Q) : rSlAll K x lo hi H Q := by
  unfold slD at h
  split at h
  · cases rx with
    | lst e k =>
      refine .inl (.inl ⟨_, _, rfl, .inl (.inl (c.sub _ _ e)), fun p hp => ?_⟩)
      obtain ⟨s, c'⟩ := c.lay hp (.lst _)
      exact fin _ _ _ _ _ h s c' (.lst upd_same ((cutV_rp k lo hi).mono s))
  · cases rx with
    | tup e k =>
      refine .inl (.inr ⟨_, _, rfl, SqT_mono c.sub e, fun z => ?_, fun z p hp => ?_⟩)
      · rw [k.len] at z
        rw [cutV_id z] at h
        exact fin.flat c h (.tup e k)
      · obtain ⟨s, c'⟩ := c.lay hp (.tup _)
        exact fin _ _ _ _ _ h s c' (.tup (.inl (.inl upd_same)) ((cutV_rp k lo hi).mono s))
  · cases rx
    exact .inr ⟨_, rfl, h.1, fin.flat c h.2 (.str _)⟩
  · obtain ⟨a, rfl, e⟩ := rx
    refine .inl (.inl ⟨_, _, rfl, c.sub.seq e, fun p hp => ?_⟩)
    obtain ⟨s, c'⟩ := c.lay hp (.lst (cutV (List.map V.int _) lo hi))
    refine fin _ _ _ _ _ h s c' (.lst upd_same ?_)
    rw [← cut_map]
    exact cutV_rp (ints_rp _) lo hi
  · rename_i a
    cases (show x = .ref a from rx)
    obtain ⟨m, em, h⟩ := onS_ok h
    split at h
    · rename_i ws
      obtain ⟨_, _, o, ho, vs, rfl, k⟩ := c.mu _ _ em
      obtain ⟨ds, kd, r⟩ := asD_ok (cutV_rw k lo hi) h
      refine .inl (.inl ⟨_, _, rfl, .inl (.inl ho), fun p hp => ?_⟩)
      obtain ⟨s, c'⟩ := c.lay hp (.lst (cutV vs lo hi))
      exact fin _ _ _ _ _ r s c' (.lst upd_same (kd.mono s))
    · exact h.elim
  · exact h.elim
def tSlD (te : DTE) (tl th : DTO) : DTE := fun ρ μ R => te ρ μ fun w μ1 => tl ρ μ1 fun lo μ2 => th ρ μ2 fun hi μ3 => slD w lo hi μ3 R
theorem de_sl {e : Expr} {te : DTE} {lo hi : Option Expr} {tl th : DTO} {pos p2 : Pos} (he : DE X e te) (hl : DO X lo tl) (hh : DO X hi th) : DE X (.Subscript e (.Slice lo hi none p2) pos) (tSlD te tl th) :=
  ⟨PE_mono (pe_slice sl_all he.pe hl.po hh.po) fun σ H Q ⟨F, ρ, μ, G, R, c, rs, h, fin⟩ =>
    lE_go c rs h fun wx μ1 F1 H1 x r1 s1 c1 q1 => ⟨F1, ρ, μ1, G, _, c1, rs.mono s1, r1, fun lo μ2 F2 H2 r2 s2 c2 => ⟨F2, ρ, μ2, G, _, c2, rs.mono (s1.trans s2), r2, fun hi μ3 F3 H3 r3 s3 c3 =>
      l_sl c3 (q1.mono (s2.trans s3)) r3 (fin.mono ((s1.trans s2).trans s3))⟩⟩⟩

/-! ### calls of what is built in -/
abbrev DC := List W → M → DQ → Prop
def LiftA (K : PySem.W.Frag) (r : List V → Hp → VK → Prop) (rD : DC) : Prop := ∀ {F H G : Hp} {μ : M} {vs : List V} {ws : List W} {R : DQ} {Q : VK}, Cn K F H μ G → RwAll K F vs ws → rD ws μ R → Fin K F G R Q → r vs H Q
def tCallB (rD : DC) (t : DTA) : DTE := fun ρ μ R => t ρ μ fun ws μ1 => rD ws μ1 R
theorem de_callB {x : Str} {p pos : Pos} {e : Expr} {es : List Expr} {t : DTA} {id : String} {r : List V → Hp → VK → Prop} {rD : DC} (hc : CallR X (.builtin id) r) (l : LiftA X.K r rD) (hg : Gl X x) (hm : X.mg x = none) (hv : bootBuiltins x = some (.builtin id)) (ha : DA X (e :: es) t)
    (hn : x ≠ "__name__") (hdb : (x == ("__debug__" : Str)) = false) (he : starEach (e :: es) X.env = (false, eval e X.env) :: starEach es X.env) (hpl : (backTo pos (starEach es X.env)).any (·.1) = false) :
    DE X (.Call (.Name x p) (e :: es) [] pos) (tCallB rD t) :=
  ⟨PE_mono (pe_callB hc hg hm hv ha.pa hn hdb he hpl) fun σ H Q ⟨F, ρ, μ, G, R, c, rs, h, fin⟩ => lA_go c rs h fun ws μ1 F1 H1 xs r1 s1 c1 q1 => l c1 q1 r1 (fin.mono s1)⟩
theorem de_callT {x : Str} {p pos : Pos} {e : Expr} {es : List Expr} {t : DTA} {T : String} {r : List V → Hp → VK → Prop} {rD : DC} (hc : CallR X (.type T) r) (l : LiftA X.K r rD) (hg : Gl X x) (hm : X.mg x = none) (hv : bootBuiltins x = some (.type T)) (ha : DA X (e :: es) t)
    (hn : x ≠ "__name__") (hdb : (x == ("__debug__" : Str)) = false) (he : starEach (e :: es) X.env = (false, eval e X.env) :: starEach es X.env) (hpl : (backTo pos (starEach es X.env)).any (·.1) = false) :
    DE X (.Call (.Name x p) (e :: es) [] pos) (tCallB rD t) :=
  ⟨PE_mono (pe_callTy hc hg hm hv ha.pa hn hdb he hpl) fun σ H Q ⟨F, ρ, μ, G, R, c, rs, h, fin⟩ => lA_go c rs h fun ws μ1 F1 H1 xs r1 s1 c1 q1 => l c1 q1 r1 (fin.mono s1)⟩
/-- a built-in class as a value -/
theorem de_ty {x : Str} {pos : Pos} {T : String} (hg : Gl X x) (hm : X.mg x = none) (hv : bootBuiltins x = some (.type T)) (hn : x ≠ "__name__") (hdb : (x == ("__debug__" : Str)) = false) : DE X (.Name x pos) (tK (.v (.ty T))) :=
  de_k (pe_bltn (v := .ty T) hg hm hv rfl hn hdb) fun _ => rfl

theorem CallR.or {f : Value} {r1 r2 : List V → Hp → VK → Prop} (h1 : CallR X f r1) (h2 : CallR X f r2) : CallR X f fun xs H Q => r1 xs H Q ∨ r2 xs H Q := fun pins s σ H xs us Q I r h => by
  rcases h with h | h
  · exact h1 pins s σ H xs us Q I r h
  · exact h2 pins s σ H xs us Q I r h

def lenD : DC := fun ws μ R => match ws with
  | [.d (.str x)] => x.length ≤ sizeLine ∧ R (.d (.int x.length)) μ
  | [.d (.list ds)] => R (.d (.int ds.length)) μ
  | [.d (.tuple ds)] => R (.d (.int ds.length)) μ
  | [.s ns] => R (.d (.int ns.length)) μ
  | [.v (.ref a)] => onS (μ a) fun m => match m with
    | .lst ws => R (.d (.int ws.length)) μ
    | .tup ws => R (.d (.int ws.length)) μ
    | _ => False
  | _ => False
theorem l_len {K : PySem.W.Frag} : LiftA K (fun xs H Q => ∃ x n, xs = [x] ∧ LenV K x H n ∧ Q (V.int ↑n) H) lenD := by
  intro F H G μ vs ws R Q c rv h fin
  unfold lenD at h
  split at h
  · cases rv with | cons r t => cases t; cases r; exact ⟨_, _, rfl, ⟨h.1, rfl⟩, fin.flat c h.2 (.int _)⟩
  · cases rv with
    | cons r t =>
      cases t
      cases r with
      | lst e k => exact ⟨_, _, rfl, .inl ⟨_, .inl (.inl (c.sub _ _ e)), k.len.symm⟩, fin.flat c h (.int _)⟩
  · cases rv with
    | cons r t =>
      cases t
      cases r with
      | tup e k => exact ⟨_, _, rfl, .inr ⟨_, SqT_mono c.sub e, k.len.symm⟩, fin.flat c h (.int _)⟩
  · cases rv with
    | cons r t =>
      cases t
      obtain ⟨a, rfl, e⟩ := r
      exact ⟨_, _, rfl, .inl ⟨_, c.sub.seq e, (List.length_map _).symm⟩, fin.flat c h (.int _)⟩
  · rename_i a
    cases rv with
    | cons r t =>
      rename_i v0 vs0
      cases t
      cases (show v0 = .ref a from r)
      obtain ⟨m, em, h⟩ := onS_ok h
      split at h
      · obtain ⟨_, _, o, ho, vs, rfl, k⟩ := c.mu _ _ em
        exact ⟨_, _, rfl, .inl ⟨_, .inl (.inl ho), k.len.symm⟩, fin.flat c h (.int _)⟩
      · obtain ⟨_, _, o, ho, vs, rfl, k⟩ := c.mu _ _ em
        exact ⟨_, _, rfl, .inr ⟨_, .inl (.inl ho), k.len.symm⟩, fin.flat c h (.int _)⟩
      · exact h.elim
  · exact h.elim
def int2D (f : Int → Int → Int) : DC := fun ws μ R => match ws with
  | [.d (.int i), .d (.int j)] => R (.d (.int (f i j))) μ
  | _ => False
theorem l_int2 {K : PySem.W.Frag} {f : Int → Int → Int} : LiftA K (fun xs H Q => ∃ i j, xs = [V.int i, V.int j] ∧ Q (V.int (f i j)) H) (int2D f) := by
  intro F H G μ vs ws R Q c rv h fin
  unfold int2D at h
  split at h
  · cases rv with
    | cons r t => cases t with
      | cons r2 t => cases t; cases r; cases r2; exact ⟨_, _, rfl, fin.flat c h (.int _)⟩
  · exact h.elim
abbrev max2D : DC := int2D fun i j => if j > i then j else i
abbrev min2D : DC := int2D fun i j => if j < i then j else i
def absD : DC := fun ws μ R => match ws with
  | [.d (.int i)] => R (.d (.int (if i < 0 then -i else i))) μ
  | _ => False
theorem l_abs {K : PySem.W.Frag} : LiftA K (fun xs H Q => ∃ i, xs = [V.int i] ∧ Q (V.int (if i < 0 then -i else i)) H) absD := by
  intro F H G μ vs ws R Q c rv h fin
  unfold absD at h
  split at h
  · cases rv with | cons r t => cases t; cases r; exact ⟨_, rfl, fin.flat c h (.int _)⟩
  · exact h.elim
def bools : List PyData → Option (List Bool)
  | [] => some []
  | .bool b :: r => (bools r).map (b :: ·)
  | _ :: _ => none
theorem bools_map : ∀ bs : List Bool, bools (bs.map .bool) = some bs
  | [] => rfl
  | b :: bs => by
    show (bools (bs.map .bool)).map (b :: ·) = _
    rw [bools_map bs]; rfl
theorem bools_rp {K : PySem.W.Frag} {F : Hp} : ∀ {vs : List V} {ds : List PyData} {bs : List Bool}, RpAll K F vs ds → bools ds = some bs → vs = bs.map V.bl
  | _, _, _, .nil, e => by cases e; rfl
  | _, d :: ds, bs, .cons h t, e => by
    cases h with
    | bl b =>
      have e' : (bools ds).map (b :: ·) = some bs := e
      cases q : bools ds with
      | none => rw [q] at e'; cases e'
      | some y => rw [q] at e'; cases e'; rw [bools_rp t q]; rfl
    | _ => cases e
def allD : DC := fun ws μ R => match ws with
  | [.d (.list ds)] => onS (bools ds) fun bs => R (.d (.bool (bs.all id))) μ
  | _ => False
def anyD : DC := fun ws μ R => match ws with
  | [.d (.list ds)] => onS (bools ds) fun bs => R (.d (.bool (bs.any id))) μ
  | _ => False
theorem l_all {K : PySem.W.Frag} : LiftA K (rAll K) allD := by
  intro F H G μ vs ws R Q c rv h fin
  unfold allD at h
  split at h
  · cases rv with
    | cons r t =>
      cases t
      cases r with
      | lst e k =>
        obtain ⟨bs, eb, h⟩ := onS_ok h
        have ev := bools_rp k eb
        subst ev
        exact ⟨_, bs, rfl, .inl (.inl (c.sub _ _ e)), fin.flat c h (.bl _)⟩
  · exact h.elim
theorem l_any {K : PySem.W.Frag} : LiftA K (rAny K) anyD := by
  intro F H G μ vs ws R Q c rv h fin
  unfold anyD at h
  split at h
  · cases rv with
    | cons r t =>
      cases t
      cases r with
      | lst e k =>
        obtain ⟨bs, eb, h⟩ := onS_ok h
        have ev := bools_rp k eb
        subst ev
        exact ⟨_, bs, rfl, .inl (.inl (c.sub _ _ e)), fin.flat c h (.bl _)⟩
  · exact h.elim
def intsD : List PyData → Option (List Int)
  | [] => some []
  | .int b :: r => (intsD r).map (b :: ·)
  | _ :: _ => none
theorem ints_map : ∀ bs : List Int, intsD (bs.map .int) = some bs
  | [] => rfl
  | b :: bs => by
    show (intsD (bs.map .int)).map (b :: ·) = _
    rw [ints_map bs]; rfl
theorem ints_rpv {K : PySem.W.Frag} {F : Hp} : ∀ {vs : List V} {ds : List PyData} {bs : List Int}, RpAll K F vs ds → intsD ds = some bs → vs = bs.map V.int
  | _, _, _, .nil, e => by cases e; rfl
  | _, d :: ds, bs, .cons h t, e => by
    cases h with
    | int b =>
      have e' : (intsD ds).map (b :: ·) = some bs := e
      cases q : intsD ds with
      | none => rw [q] at e'; cases e'
      | some y => rw [q] at e'; cases e'; rw [ints_rpv t q]; rfl
    | _ => cases e
def sumD : DC := fun ws μ R => match ws with
  | [.d (.list ds)] => onS (intsD ds) fun bs => R (.d (.int bs.sum)) μ
  | _ => False
theorem l_sum {K : PySem.W.Frag} : LiftA K (rSum K) sumD := by
  intro F H G μ vs ws R Q c rv h fin
  unfold sumD at h
  split at h
  · cases rv with
    | cons r t =>
      cases t
      cases r with
      | lst e k =>
        obtain ⟨bs, eb, h⟩ := onS_ok h
        have ev := ints_rpv k eb
        subst ev
        exact ⟨_, bs, rfl, .inl (.inl (c.sub _ _ e)), fin.flat c h (.int _)⟩
  · exact h.elim
/-- isinstance(x, T), T a built-in class -/
def tyName : W → M → Option String
  | .d .none, _ => some "NoneType"
  | .d (.bool _), _ => some "bool"
  | .d (.int _), _ => some "int"
  | .d (.str _), _ => some "str"
  | .d (.list _), _ => some "list"
  | .d (.tuple _), _ => some "tuple"
  | .d (.dict _), _ => some "dict"
  | _, _ => none
def isiD : DC := fun ws μ R => match ws with
  | [x, .v (.ty T)] => onS (tyName x μ) fun n => onS (kitB n T) fun b => R (.d (.bool b)) μ
  | _ => False
theorem tyName_ok {K : PySem.W.Frag} {F H G : Hp} {μ : M} {v : V} {w : W} {n : String} (c : Cn K F H μ G) (r : Rw K F v w) (e : tyName w μ = some n) : TyX K H v (.type n) := by
  unfold tyName at e
  split at e
  · cases e; cases r; exact .base .non
  · cases e; cases r; exact .base (.bl _)
  · cases e; cases r; exact .base (.int _)
  · cases e; cases r; exact .base (.str _)
  · cases e
    cases r with
    | lst e k => exact .base (.lst (c.sub _ _ e))
  · cases e
    cases r with
    | tup e k =>
      rcases e with (e | ⟨o, e⟩) | ⟨o, its, m, e, hc, _⟩
      · exact .base (.tup (c.sub _ _ e))
      · exact .fTuple (c.sub _ _ e)
      · exact .kTuple e hc
  · cases e
    cases r with
    | dct e k => exact .base (.dK (c.sub _ _ e))
  · cases e
theorem l_isi {K : PySem.W.Frag} : LiftA K (rIsi K) isiD := by
  intro F H G μ vs ws R Q c rv h fin
  unfold isiD at h
  split at h
  · rename_i x T
    cases rv with
    | cons r t =>
      cases t with
      | cons r2 t =>
        rename_i v1 vs1 v2 vs2
        cases t
        cases (show v2 = .ty T from r2)
        obtain ⟨n, en, h⟩ := onS_ok h
        obtain ⟨b, eb, h⟩ := onS_ok h
        exact ⟨_, _, _, _, b, rfl, .ty T, tyName_ok c r en, kit_ty eb, fin.flat c h (.bl _)⟩
  · exact h.elim
end
end DL

set_option Elab.async false
set_option linter.all false
set_option maxRecDepth 100000
set_option maxHeartbeats 1000000
namespace DL
open PySem PySem.Spec PyProof.Rows L2

/-! ### methods of built-in kinds -/
section
variable {X : Cx}
abbrev DM := W → List W → M → DQ → Prop
def LiftM (K : PySem.W.Frag) (r : V → List V → Hp → VK → Prop) (rD : DM) : Prop := ∀ {F H G : Hp} {μ : M} {x : V} {wx : W} {vs : List V} {ws : List W} {R : DQ} {Q : VK}, Cn K F H μ G → Rw K F x wx → RwAll K F vs ws → rD wx ws μ R → Fin K F G R Q → r x vs H Q
def tyMD (T : String) (w : W) (μ : M) : Prop := match w with
  | .d (.str _) => T = "str"
  | .d (.list _) => T = "list"
  | .v (.ref a) => onS (μ a) fun m => match m with
    | .lst _ => T = "list"
    | .dct _ => T = "dict"
    | _ => False
  | _ => False
theorem tyMD_ok {K : PySem.W.Frag} {F H G : Hp} {μ : M} {x : V} {w : W} {T : String} (c : Cn K F H μ G) (r : Rw K F x w) (h : tyMD T w μ) : tyV K T x H := by
  unfold tyMD at h
  split at h
  · cases r; exact h
  · cases r with
    | lst e k => exact .inl ⟨h, _, .inl (.inl (c.sub _ _ e))⟩
  · rename_i a
    cases (show x = .ref a from r)
    obtain ⟨m, em, h⟩ := onS_ok h
    split at h
    · obtain ⟨_, _, o, ho, vs, rfl, k⟩ := c.mu _ _ em
      exact .inl ⟨h, _, .inl (.inl ho)⟩
    · obtain ⟨_, _, o, ho, vs, rfl, k⟩ := c.mu _ _ em
      exact .inr (.inr (.inl ⟨h, .inl ⟨_, ho⟩⟩))
    · exact h.elim
  · exact h.elim
def tMetD (T : String) (rD : DM) (to : DTE) (t : DTA) : DTE := fun ρ μ R => to ρ μ fun x μ1 => tyMD T x μ1 ∧ t ρ μ1 fun ws μ2 => rD x ws μ2 R
theorem de_bm {o e : Expr} {es : List Expr} {to : DTE} {t : DTA} {name : Str} {apos cpos : Pos} {T id : String} {r : V → List V → Hp → VK → Prop} {rD : DM} (hp : PlainAttrs T) (sl : Slot T name id) (ty : typeOf (.builtin id) = pure (.type "method_descriptor")) (hm : MtR X id r) (l : LiftM X.K r rD)
    (ho : DE X o to) (ha : DA X (e :: es) t) (h1 : attributeBase o name X.env (eval o X.env) = eval o X.env)
    (h2 : ((((backTo cpos (starEach (e :: es) X.env)).all fun x => !x.fst) && (backToKw cpos (keywordEach [] X.env)).all fun x => x.fst.isSome) && decide ((e :: es).length + ([] : List Keyword).length + (if ([] : List Keyword).isEmpty = true then 0 else 1) < 30)) = true)
    (h3 : (apos.endLine == cpos.line) = true) (h4 : starEach (e :: es) X.env = (false, eval e X.env) :: starEach es X.env) (h5 : ((backTo cpos (starEach es X.env)).any fun x => x.fst) = false) :
    DE X (.Call (.Attribute o name apos) (e :: es) [] cpos) (tMetD T rD to t) :=
  ⟨PE_mono (pe_bm hp sl ty hm ho.pe ha.pa h1 h2 h3 h4 h5) fun σ H Q ⟨F, ρ, μ, G, R, c, rs, h, fin⟩ =>
    lE_go c rs h fun wx μ1 F1 H1 x r1 s1 c1 q1 => ⟨tyMD_ok c1 q1 r1.1, lA_go c1 (rs.mono s1) r1.2 fun ws μ2 F2 H2 vs r2 s2 c2 q2 => l c2 (q1.mono s2) q2 r2 (fin.mono (s1.trans s2))⟩⟩
theorem de_bm0 {o : Expr} {to : DTE} {name : Str} {apos cpos : Pos} {T id : String} {r : V → List V → Hp → VK → Prop} {rD : DM} (hp : PlainAttrs T) (sl : Slot T name id) (ty : typeOf (.builtin id) = pure (.type "method_descriptor")) (hm : MtR X id r) (l : LiftM X.K r rD)
    (ho : DE X o to) (h1 : attributeBase o name X.env (eval o X.env) = eval o X.env) (h3 : (apos.endLine == cpos.line) = true) :
    DE X (.Call (.Attribute o name apos) [] [] cpos) (tMetD T rD to tNilD) :=
  ⟨PE_mono (pe_bm0 hp sl ty hm ho.pe h1 h3) fun σ H Q ⟨F, ρ, μ, G, R, c, rs, h, fin⟩ =>
    lE_go c rs h fun wx μ1 F1 H1 x r1 s1 c1 q1 => ⟨tyMD_ok c1 q1 r1.1, l c1 q1 .nil r1.2 (fin.mono s1)⟩⟩
def apdD : DM := fun x ws μ R => match x, ws with
  | .v (.ref a), [y] => onS (μ a) fun m => match m with
    | .lst xs => xs.length < sizeLine ∧ R (.d .none) (mset μ a (.lst (xs ++ [y])))
    | _ => False
  | _, _ => False
theorem l_apd {K : PySem.W.Frag} : LiftM K rAppend apdD := by
  intro F H G μ x wx vs ws R Q c rx rv h fin
  unfold apdD at h
  split at h
  · rename_i a y
    cases (show x = .ref a from rx)
    obtain ⟨m, em, h⟩ := onS_ok h
    split at h
    · rename_i xs
      obtain ⟨_, _, o, ho, zs, rfl, k⟩ := c.mu _ _ em
      cases rv with
      | cons r t =>
        cases t
        exact ⟨_, _, _, rfl, rfl, ho, by rw [k.len]; exact h.1, fin _ _ _ _ _ h.2 (Same.refl _) (c.write em ⟨_, rfl, k.app (.cons r .nil)⟩) .non⟩
    · exact h.elim
  · exact h.elim
/-- xs.extend(ys), ys data -/
def extD : DM := fun x ws μ R => match x, ws with
  | .v (.ref a), [.d (.list ds)] => onS (μ a) fun m => match m with
    | .lst xs => xs.length + ds.length ≤ sizeLine ∧ R (.d .none) (mset μ a (.lst (xs ++ ds.map .d)))
    | _ => False
  | _, _ => False
theorem l_ext {K : PySem.W.Frag} : LiftM K rExtend extD := by
  intro F H G μ x wx vs ws R Q c rx rv h fin
  unfold extD at h
  split at h
  · rename_i a ds
    cases (show x = .ref a from rx)
    obtain ⟨m, em, h⟩ := onS_ok h
    split at h
    · rename_i xs
      obtain ⟨_, _, o, ho, zs, rfl, k⟩ := c.mu _ _ em
      cases rv with
      | cons r t =>
        cases t
        cases r with
        | lst e k2 =>
          exact ⟨_, _, _, _, rfl, rfl, ho, c.sub _ _ e, by rw [k.len, k2.len]; exact h.1, fin _ _ _ _ _ h.2 (Same.refl _) (c.write em ⟨_, rfl, k.app k2.w⟩) .non⟩
    · exact h.elim
  · exact h.elim
def strsD : List PyData → Option (List Str)
  | [] => some []
  | .str b :: r => (strsD r).map (b :: ·)
  | _ :: _ => none
theorem strsD_map : ∀ bs : List Str, strsD (bs.map .str) = some bs
  | [] => rfl
  | b :: bs => by
    show (strsD (bs.map .str)).map (b :: ·) = _
    rw [strsD_map bs]; rfl
theorem strsD_rp {K : PySem.W.Frag} {F : Hp} : ∀ {vs : List V} {ds : List PyData} {bs : List Str}, RpAll K F vs ds → strsD ds = some bs → vs = bs.map V.str
  | _, _, _, .nil, e => by cases e; rfl
  | _, d :: ds, bs, .cons h t, e => by
    cases h with
    | str b =>
      have e' : (strsD ds).map (b :: ·) = some bs := e
      cases q : strsD ds with
      | none => rw [q] at e'; cases e'
      | some y => rw [q] at e'; cases e'; rw [strsD_rp t q]; rfl
    | _ => cases e
def joinD : DM := fun x ws μ R => match x, ws with
  | .d (.str a), [.d (.list ds)] => onS (strsD ds) fun ys => (ys.map (·.length)).sum + ys.length * a.length ≤ 16777216 ∧ R (.d (.str (Txt.join a ys))) μ
  | .d (.str a), [.d (.tuple ds)] => onS (strsD ds) fun ys => (ys.map (·.length)).sum + ys.length * a.length ≤ 16777216 ∧ R (.d (.str (Txt.join a ys))) μ
  | _, _ => False
theorem l_join {K : PySem.W.Frag} : LiftM K (fun x xs H Q => ∃ a p, ∃ ys : List Str, x = .str a ∧ xs = [.ref p] ∧ (SqL K H p (ys.map V.str) ∨ SqT K H p (ys.map V.str)) ∧ (ys.map (·.length)).sum + ys.length * a.length ≤ 16777216 ∧ Q (.str (Txt.join a ys)) H) joinD := by
  intro F H G μ x wx vs ws R Q c rx rv h fin
  unfold joinD at h
  split at h
  · cases rx
    obtain ⟨ys, ey, h⟩ := onS_ok h
    cases rv with
    | cons r t =>
      cases t
      cases r with
      | lst e k =>
        have ev := strsD_rp k ey
        subst ev
        exact ⟨_, _, ys, rfl, rfl, .inl (.inl (.inl (c.sub _ _ e))), h.1, fin.flat c h.2 (.str _)⟩
  · cases rx
    obtain ⟨ys, ey, h⟩ := onS_ok h
    cases rv with
    | cons r t =>
      cases t
      cases r with
      | tup e k =>
        have ev := strsD_rp k ey
        subst ev
        exact ⟨_, _, ys, rfl, rfl, .inr (SqT_mono c.sub e), h.1, fin.flat c h.2 (.str _)⟩
  · exact h.elim
/-- a method of a text with one text -/
def str1D (f : Str → Str → PyData) : DM := fun x ws μ R => match x, ws with
  | .d (.str a), [.d (.str b)] => R (.d (f a b)) μ
  | _, _ => False
theorem l_str1b {K : PySem.W.Frag} {f : Str → Str → Bool} : LiftM K (fun x xs H Q => ∃ a b, x = V.str a ∧ xs = [V.str b] ∧ Q (V.bl (f a b)) H) (str1D fun a b => .bool (f a b)) := by
  intro F H G μ x wx vs ws R Q c rx rv h fin
  unfold str1D at h
  split at h
  · cases rx
    cases rv with | cons r t => cases t; cases r; exact ⟨_, _, rfl, rfl, fin.flat c h (.bl _)⟩
  · exact h.elim
theorem l_str1i {K : PySem.W.Frag} {f : Str → Str → Int} : LiftM K (fun x xs H Q => ∃ a b, x = V.str a ∧ xs = [V.str b] ∧ Q (V.int (f a b)) H) (str1D fun a b => .int (f a b)) := by
  intro F H G μ x wx vs ws R Q c rx rv h fin
  unfold str1D at h
  split at h
  · cases rx
    cases rv with | cons r t => cases t; cases r; exact ⟨_, _, rfl, rfl, fin.flat c h (.int _)⟩
  · exact h.elim
theorem strs_rp {K : PySem.W.Frag} {F : Hp} : ∀ ns : List Str, RpAll K F (ns.map V.str) (ns.map .str)
  | [] => .nil
  | n :: ns => .cons (.str n) (strs_rp ns)
def splitD : DM := fun x ws μ R => match x, ws with
  | .d (.str a), [.d (.str b)] => (b.length == 0) = false ∧ a.length + 2 ≤ sizeLine ∧ R (.d (.list ((Txt.split a b).map .str))) μ
  | _, _ => False
theorem l_split {K : PySem.W.Frag} : LiftM K (fun x xs H Q => ∃ a b, x = V.str a ∧ xs = [V.str b] ∧ (b.length == 0) = false ∧ a.length + 2 ≤ sizeLine ∧ rNewStrs (Txt.split a b) H Q) splitD := by
  intro F H G μ x wx vs ws R Q c rx rv h fin
  unfold splitD at h
  split at h
  · cases rx
    cases rv with
    | cons r t =>
      cases t
      cases r
      refine ⟨_, _, rfl, rfl, h.1, h.2.1, fun p hp => ?_⟩
      obtain ⟨s, c'⟩ := c.lay hp (.lst _)
      exact fin _ _ _ _ _ h.2.2 s c' (.lst upd_same (strs_rp _))
  · exact h.elim
end

/-! ### what is walked -/
def Yields (K : PySem.W.Frag) (F : Hp) (J : It) (ws : List W) : Prop := ∀ (F' H : Hp) (μ : M) (G : Hp), Same F F' → Cn K F' H μ G →
  (∀ i w, ws[i]? = some w → J.go i H ∧ ∀ x H', J.yld i H x H' → ∃ F'', Same F' F'' ∧ Cn K F'' H' μ G ∧ Rw K F'' x w) ∧ J.stop ws.length H
abbrev DTI := Sl → M → (List W → M → Prop) → Prop
def lI (K : PySem.W.Frag) (t : DTI) : TI := fun σ H R' => ∃ (F : Hp) (ρ : Sl) (μ : M) (G : Hp) (R : List W → M → Prop), Cn K F H μ G ∧ Rs K F σ ρ ∧ t ρ μ R ∧
  ∀ (ws : List W) (μ' : M) (F' H' : Hp) (J : It), R ws μ' → Same F F' → Cn K F' H' μ' G → Yields K F' J ws → R' J H'
structure DI (X : Cx) (tg iter : Expr) (t : DTI) : Prop where
  pi : PI X tg iter (lI X.K t)
section
variable {X : Cx} {tg : Expr}
theorem PI_mono {e : Expr} {t t' : TI} (h : PI X tg e t) (i : ∀ σ H Q, t' σ H Q → t σ H Q) : PI X tg e t' := ⟨fun pins s σ H Q I q => h.run pins s σ H Q I (i _ _ _ q)⟩
/-- a list: data, the script -/
def tItL (t : DTE) : DTI := fun ρ μ R => t ρ μ fun w μ1 => match w with
  | .d (.list ds) => R (ds.map .d) μ1
  | .s ns => R (ns.map fun n => .d (.int n)) μ1
  | _ => False
theorem getElem_map_d {ds : List PyData} {i : Nat} {w : W} (e : (ds.map W.d)[i]? = some w) : ∃ d, ds[i]? = some d ∧ w = .d d := by
  rw [List.getElem?_map] at e
  cases q : ds[i]? with
  | none => rw [q] at e; cases e
  | some d => rw [q] at e; cases e; exact ⟨d, rfl, rfl⟩
theorem yl_list {K : PySem.W.Frag} {F : Hp} {a : Addr} {xs : List V} {ds : List PyData} (e : F a = some (.lst xs)) (k : RpAll K F xs ds) : Yields K F (Itl K a) (ds.map .d) := by
  intro F' H μ G s c
  have sq : SqL K H a xs := .inl (.inl (c.sub _ _ (s _ _ e)))
  refine ⟨fun i w ew => ?_, xs, sq, by rw [List.length_map, k.len]; exact Nat.le_refl _⟩
  obtain ⟨d, ed, rfl⟩ := getElem_map_d ew
  obtain ⟨v, ev, rv⟩ := k.get ed
  refine ⟨⟨xs, v, sq, ev⟩, fun x H' hy => ?_⟩
  obtain ⟨rfl, f⟩ := hy
  cases Option.some.inj ((f _ sq).symm.trans ev)
  exact ⟨F', Same.refl _, c, rv.mono s _⟩
theorem yl_script {K : PySem.W.Frag} {F : Hp} {a : Addr} {ns : List Int} (e : SqL K F a (ns.map V.int)) : Yields K F (Itl K a) (ns.map fun n => .d (.int n)) := by
  intro F' H μ G s c
  have sq : SqL K H a (ns.map V.int) := c.sub.seq (s.seq e)
  refine ⟨fun i w ew => ?_, _, sq, by rw [List.length_map, List.length_map]; exact Nat.le_refl _⟩
  rw [List.getElem?_map] at ew
  cases q : ns[i]? with
  | none => rw [q] at ew; cases ew
  | some n =>
    rw [q] at ew
    cases ew
    have ev : (ns.map V.int)[i]? = some (.int n) := by rw [List.getElem?_map, q]; rfl
    refine ⟨⟨_, _, sq, ev⟩, fun x H' hy => ?_⟩
    obtain ⟨rfl, f⟩ := hy
    cases Option.some.inj ((f _ sq).symm.trans ev)
    exact ⟨F', Same.refl _, c, .int n⟩
theorem di_list {e : Expr} {t : DTE} (h : DE X e t) : DI X tg e (tItL t) :=
  ⟨PI_mono (pi_list h.pe) fun σ H Q ⟨F, ρ, μ, G, R, c, rs, h, fin⟩ => lE_go c rs h fun wx μ1 F1 H1 x r1 s1 c1 q1 => by
    split at r1
    · cases q1 with
      | lst e k => exact ⟨_, rfl, ⟨_, .inl (.inl (c1.sub _ _ e))⟩, fin _ _ _ _ _ r1 s1 c1 (yl_list e k)⟩
    · obtain ⟨a, rfl, e⟩ := q1
      exact ⟨_, rfl, ⟨_, c1.sub.seq e⟩, fin _ _ _ _ _ r1 s1 c1 (yl_script e)⟩
    · exact r1.elim⟩
def tItT (t : DTE) : DTI := fun ρ μ R => t ρ μ fun w μ1 => match w with
  | .d (.tuple ds) => R (ds.map .d) μ1
  | _ => False
theorem yl_tup {K : PySem.W.Frag} {F : Hp} {a : Addr} {xs : List V} {ds : List PyData} (e : SqT K F a xs) (k : RpAll K F xs ds) : Yields K F (Itt K a) (ds.map .d) := by
  intro F' H μ G s c
  have sq : SqT K H a xs := SqT_mono c.sub (SqT_mono s e)
  refine ⟨fun i w ew => ?_, xs, sq, by rw [List.length_map, k.len]; exact Nat.le_refl _⟩
  obtain ⟨d, ed, rfl⟩ := getElem_map_d ew
  obtain ⟨v, ev, rv⟩ := k.get ed
  refine ⟨⟨xs, v, sq, ev⟩, fun x H' hy => ?_⟩
  obtain ⟨rfl, f⟩ := hy
  cases Option.some.inj ((f _ sq).symm.trans ev)
  exact ⟨F', Same.refl _, c, rv.mono s _⟩
theorem di_tup {e : Expr} {t : DTE} (h : DE X e t) : DI X tg e (tItT t) :=
  ⟨PI_mono (pi_tup h.pe) fun σ H Q ⟨F, ρ, μ, G, R, c, rs, h, fin⟩ => lE_go c rs h fun wx μ1 F1 H1 x r1 s1 c1 q1 => by
    split at r1
    · cases q1 with
      | tup e k => exact ⟨_, rfl, ⟨_, SqT_mono c1.sub e⟩, fin _ _ _ _ _ r1 s1 c1 (yl_tup e k)⟩
    · exact r1.elim⟩
def signs (z : Str) : List W := z.cps.toList.map fun c => .d (.str ⟨#[c]⟩)
def tItS (t : DTE) : DTI := fun ρ μ R => t ρ μ fun w μ1 => match w with
  | .d (.str z) => R (signs z) μ1
  | _ => False
theorem yl_str {K : PySem.W.Frag} {F : Hp} {z : Str} : Yields K F (Its z) (signs z) := by
  intro F' H μ G s c
  refine ⟨fun i w ew => ?_, by show z.cps.size ≤ _; simp [signs]⟩
  unfold signs at ew
  rw [List.getElem?_map] at ew
  cases q : z.cps.toList[i]? with
  | none => rw [q] at ew; cases ew
  | some n =>
    rw [q] at ew
    cases ew
    rw [Array.getElem?_toList] at q
    refine ⟨(Array.getElem?_eq_some_iff.mp q).1, fun x H' hy => ?_⟩
    obtain ⟨rfl, c', e', rfl⟩ := hy
    rw [q] at e'
    cases e'
    exact ⟨F', Same.refl _, c, .str _⟩
theorem di_str {e : Expr} {t : DTE} (h : DE X e t) : DI X tg e (tItS t) :=
  ⟨PI_mono (pi_str h.pe) fun σ H Q ⟨F, ρ, μ, G, R, c, rs, h, fin⟩ => lE_go c rs h fun wx μ1 F1 H1 x r1 s1 c1 q1 => by
    split at r1
    · cases q1
      exact ⟨_, rfl, fin _ _ _ _ _ r1 s1 c1 yl_str⟩
    · exact r1.elim⟩
def rangeW (lo : Int) (n : Nat) : List W := (List.range n).map fun (i : Nat) => W.d (.int (lo + (i : Int)))
def tItR (t : DTA) : DTI := fun ρ μ R => t ρ μ fun ws μ1 => match ws with
  | [.d (.int j)] => -2 ^ 62 ≤ j ∧ j < 2 ^ 62 ∧ R (rangeW 0 j.toNat) μ1
  | _ => False
def tItR2 (t : DTA) : DTI := fun ρ μ R => t ρ μ fun ws μ1 => match ws with
  | [.d (.int i), .d (.int j)] => (-2 ^ 62 ≤ i ∧ i < 2 ^ 62 ∧ -2 ^ 62 ≤ j ∧ j < 2 ^ 62) ∧ R (rangeW i (j - i).toNat) μ1
  | _ => False
theorem yl_range {K : PySem.W.Frag} {F : Hp} {lo : Int} {n : Nat} : Yields K F (Itr lo n) (rangeW lo n) := by
  intro F' H μ G s c
  refine ⟨fun i w ew => ?_, by show n ≤ _; simp [rangeW]⟩
  unfold rangeW at ew
  rw [List.getElem?_map] at ew
  by_cases hi : i < n
  · rw [List.getElem?_range hi] at ew
    cases ew
    refine ⟨hi, fun x H' hy => ?_⟩
    obtain ⟨rfl, rfl⟩ := hy
    exact ⟨F', Same.refl _, c, .int _⟩
  · rw [List.getElem?_eq_none (by simpa using hi)] at ew
    cases ew
theorem di_range1 {a : Expr} {ta : DTA} {p pos : Pos} (hg : Gl X "range") (hm : X.mg "range" = none) (ha : DA X [a] ta) (hs : starEach [a] X.env = [(false, eval a X.env)]) : DI X tg (.Call (.Name "range" p) [a] [] pos) (tItR ta) :=
  ⟨PI_mono (pi_range1 hg hm ha.pa hs) fun σ H Q ⟨F, ρ, μ, G, R, c, rs, h, fin⟩ => lA_go c rs h fun ws μ1 F1 H1 vs r1 s1 c1 q1 => by
    split at r1
    · cases q1 with
      | cons r t => cases t; cases r; exact ⟨_, rfl, r1.1, r1.2.1, fin _ _ _ _ _ r1.2.2 s1 c1 yl_range⟩
    · exact r1.elim⟩
theorem di_range2 {a b : Expr} {ta : DTA} {p pos : Pos} (hg : Gl X "range") (hm : X.mg "range" = none) (ha : DA X [a, b] ta) (hs : starEach [a, b] X.env = [(false, eval a X.env), (false, eval b X.env)]) (hs2 : starEach [b] X.env = [(false, eval b X.env)]) : DI X tg (.Call (.Name "range" p) [a, b] [] pos) (tItR2 ta) :=
  ⟨PI_mono (pi_range2 hg hm ha.pa hs hs2) fun σ H Q ⟨F, ρ, μ, G, R, c, rs, h, fin⟩ => lA_go c rs h fun ws μ1 F1 H1 vs r1 s1 c1 q1 => by
    split at r1
    · cases q1 with
      | cons r t => cases t with
        | cons r' t => cases t; cases r; cases r'; exact ⟨_, _, rfl, r1.1, fin _ _ _ _ _ r1.2 s1 c1 yl_range⟩
    · exact r1.elim⟩

/-! ### statements -/
theorem lS_go {K : PySem.W.Frag} {t : DTS} {σ : L2.St} {H F G : Hp} {ρ : Sl} {μ : M} {R : DEnds} {D : Ends} (c : Cn K F H μ G) (r : Rs K F σ ρ) (h : t R ρ μ) (f : FinS K F G R D) : lS K t D σ H := ⟨F, ρ, μ, G, R, c, r, h, f⟩
def tSeqD (t u : DTS) : DTS := fun D ρ μ => t { nx := u D, rt := D.rt, bk := D.bk, ct := D.ct } ρ μ
theorem dss_cons {st : Stmt} {rest : List Stmt} {t u : DTS} (h : DS X st t) (h2 : DSs X rest u) : DSs X (st :: rest) (tSeqD t u) :=
  ⟨PSs_mono (pss_cons h.ps h2.pss) fun D σ H ⟨F, ρ, μ, G, R, c, rs, h, fin⟩ => lS_go (R := { nx := u R, rt := R.rt, bk := R.bk, ct := R.ct }) c rs h ⟨fun ρ1 μ1 F1 H1 σ1 r s c1 q => lS_go c1 q r (fin.mono s), fin.rt, fin.bk, fin.ct⟩⟩
theorem dss_one {st : Stmt} {t : DTS} (h : DS X st t) : DSs X [st] t := ⟨pss_one h.ps⟩
def tNextD : DTS := fun D ρ μ => D.nx ρ μ
theorem dss_nil : DSs X [] tNextD := ⟨PSs_mono pss_nil fun D σ H ⟨F, ρ, μ, G, R, c, rs, h, fin⟩ => fin.nx _ _ _ _ _ h (Same.refl _) c rs⟩
theorem ds_pass {pos : Pos} : DS X (.Pass pos) tNextD := ⟨PS_mono ps_pass fun D σ H ⟨F, ρ, μ, G, R, c, rs, h, fin⟩ => fin.nx _ _ _ _ _ h (Same.refl _) c rs⟩
def tSetD (i : Nat) (t : DTE) : DTS := fun D ρ μ => t ρ μ fun w μ1 => D.nx (ρ.set i (some w)) μ1
theorem ds_set {st : Stmt} {i : Nat} {t : DTE} (h : PS X st (tAsg (lE X.K t) (gName i))) : DS X st (tSetD i t) :=
  ⟨PS_mono h fun D σ H ⟨F, ρ, μ, G, R, c, rs, h, fin⟩ => lE_go c rs h fun w μ1 F1 H1 x r s c1 q => fin.nx _ _ _ _ _ r s c1 ((rs.mono s).set i q)⟩
def tDropD (t : DTE) : DTS := fun D ρ μ => t ρ μ fun _ μ1 => D.nx ρ μ1
theorem ds_expr {st : Stmt} {t : DTE} (h : PS X st (tDrop (lE X.K t))) : DS X st (tDropD t) :=
  ⟨PS_mono h fun D σ H ⟨F, ρ, μ, G, R, c, rs, h, fin⟩ => lE_go c rs h fun w μ1 F1 H1 x r s c1 q => fin.nx _ _ _ _ _ r s c1 (rs.mono s)⟩
def tRetD (t : DTE) : DTS := fun D ρ μ => t ρ μ D.rt
theorem ds_ret {e : Expr} {pos : Pos} {t : DTE} (h : DE X e t) : DS X (.Return (some e) pos) (tRetD t) :=
  ⟨PS_mono (ps_ret h.pe) fun D σ H ⟨F, ρ, μ, G, R, c, rs, h, fin⟩ => lE_go c rs h fin.rt⟩
def tRetND : DTS := fun D _ μ => D.rt (.d .none) μ
theorem ds_retN {pos : Pos} : DS X (.Return none pos) tRetND :=
  ⟨PS_mono ps_retN fun D σ H ⟨F, ρ, μ, G, R, c, rs, h, fin⟩ => fin.rt _ _ _ _ _ h (Same.refl _) c .non⟩
def tIfS (t : DTT) (a b : DTS) : DTS := fun D ρ μ => t ρ μ fun k μ1 => if k = true then a D ρ μ1 else b D ρ μ1
theorem ds_if {e : Expr} {a b : List Stmt} {pos : Pos} {t : DTT} {ta tb : DTS} (he : DT X e t) (ha : DSs X a ta) (hb : DSs X b tb) : DS X (.If e a b pos) (tIfS t ta tb) :=
  ⟨PS_mono (ps_if he.pt ha.pss hb.pss) fun D σ H ⟨F, ρ, μ, G, R, c, rs, h, fin⟩ => lT_go c rs h fun k μ1 F1 H1 r s c1 => by
    cases k with
    | true => rw [if_pos rfl] at r ⊢; exact lS_go c1 (rs.mono s) r (fin.mono s)
    | false => rw [if_neg Bool.false_ne_true] at r ⊢; exact lS_go c1 (rs.mono s) r (fin.mono s)⟩
def tBrkD : DTS := fun D ρ μ => D.bk ρ μ
def tCntD : DTS := fun D ρ μ => D.ct ρ μ
theorem ds_break {pos : Pos} : DS X (.Break pos) tBrkD := ⟨PS_mono ps_break fun D σ H ⟨F, ρ, μ, G, R, c, rs, h, fin⟩ => fin.bk _ _ _ _ _ h (Same.refl _) c rs⟩
theorem ds_continue {pos : Pos} : DS X (.Continue pos) tCntD := ⟨PS_mono ps_continue fun D σ H ⟨F, ρ, μ, G, R, c, rs, h, fin⟩ => fin.ct _ _ _ _ _ h (Same.refl _) c rs⟩

/-! targets -/
abbrev DTG := W → Sl → M → (Sl → M → Prop) → Prop
def lG (K : PySem.W.Frag) (t : DTG) : TG := fun v σ H Q => ∃ (F : Hp) (ρ : Sl) (μ : M) (G : Hp) (w : W) (R : Sl → M → Prop), Cn K F H μ G ∧ Rs K F σ ρ ∧ Rw K F v w ∧ t w ρ μ R ∧ FinN K F G R Q
structure DG (X : Cx) (tg : Expr) (t : DTG) : Prop where
  pg : PG X tg (lG X.K t)
theorem PG_mono {e : Expr} {t t' : TG} (h : PG X e t) (i : ∀ v σ H Q, t' v σ H Q → t v σ H Q) : PG X e t' := ⟨fun pins s σ H v u Q I r q => h.run pins s σ H v u Q I r (i _ _ _ _ q)⟩
def gNameD (i : Nat) : DTG := fun w ρ μ R => R (ρ.set i (some w)) μ
theorem dg_name {e : Expr} {i : Nat} (h : PG X e (gName i)) : DG X e (gNameD i) := ⟨PG_mono h fun v σ H Q ⟨F, ρ, μ, G, w, R, c, rs, rw', h, fin⟩ => fin _ _ _ _ _ h (Same.refl _) c (rs.set i rw')⟩
/-- xs[i] = e, of a list that changes -/
def gSetD (to ti : DTE) : DTG := fun w ρ μ R => to ρ μ fun o μ1 => ti ρ μ1 fun i μ2 => match o, i with
  | .v (.ref a), .d (.int k) => onS (μ2 a) fun m => match m with
    | .lst ws => onS (ixN ws.length k) fun j => R ρ (mset μ2 a (.lst (ws.set j w)))
    | _ => False
  | _, _ => False
theorem dg_sub {o i : Expr} {pos : Pos} {to ti : DTE} (ho : DE X o to) (hi : DE X i ti) (hx : ∀ v : Value, assign (o.Subscript i pos) X.env v = do
      let ov ← holding [v] (eval o X.env)
      let iv ← holding [v, ov] (eval i X.env)
      standAt pos
      holding [v, ov, iv] (setItem ov iv v)
      release [v, ov, iv] []) : DG X (.Subscript o i pos) (gSetD to ti) :=
  ⟨PG_mono (pg_sub ho.pe hi.pe set_list hx) fun v σ H Q ⟨F, ρ, μ, G, w, R, c, rs, rw', h, fin⟩ =>
    lE_go c rs h fun wo μ1 F1 H1 x r1 s1 c1 q1 => lE_go c1 (rs.mono s1) r1 fun wi μ2 F2 H2 y r2 s2 c2 q2 => by
      split at r2
      · rename_i a k
        cases q2
        cases (show x = .ref a from q1)
        obtain ⟨m, em, h⟩ := onS_ok r2
        split at h
        · rename_i ws
          obtain ⟨j, ej, h⟩ := onS_ok h
          obtain ⟨_, _, o, ho, vs, rfl, kv⟩ := c2.mu _ _ em
          refine ⟨_, vs, _, j, rfl, rfl, ho, by rw [kv.len]; exact ej, ?_⟩
          exact fin _ _ _ _ _ h (s1.trans s2) (c2.write em ⟨_, rfl, RwAll.set (rw'.mono (s1.trans s2)) j kv⟩) (rs.mono (s1.trans s2))
        · exact h.elim
      · exact r2.elim⟩
def tAsgD (t : DTE) (g : DTG) : DTS := fun D ρ μ => t ρ μ fun w μ1 => g w ρ μ1 D.nx
theorem ds_asg {st : Stmt} {t : DTE} {g : DTG} (h : PS X st (tAsg (lE X.K t) (lG X.K g))) : DS X st (tAsgD t g) :=
  ⟨PS_mono h fun D σ H ⟨F, ρ, μ, G, R, c, rs, h, fin⟩ => lE_go c rs h fun w μ1 F1 H1 x r s c1 q => ⟨F1, ρ, μ1, G, w, _, c1, rs.mono s, q, r, fin.nx.mono s⟩⟩

/-! loops -/
def loopD (g : DTG) (tb : DTS) : List W → DTS
  | [], D, ρ, μ => D.nx ρ μ
  | x :: r, D, ρ, μ => g x ρ μ fun ρ1 μ1 => tb { nx := loopD g tb r D, rt := D.rt, bk := D.nx, ct := loopD g tb r D } ρ1 μ1
def tForD (t : DTI) (g : DTG) (tb : DTS) : DTS := fun D ρ μ => t ρ μ fun ws μ1 => loopD g tb ws D ρ μ1
theorem loop_read {K : PySem.W.Frag} {F G : Hp} {J : It} {ws : List W} {g : DTG} {tb : DTS} {R : DEnds} {D : Ends} (y : Yields K F J ws) (fin : FinS K F G R D) {σ : L2.St} {H : Hp} {ρ : Sl} {μ : M} (c : Cn K F H μ G) (rs : Rs K F σ ρ) (h : loopD g tb ws R ρ μ) :
    ∃ W : Nat → Nat → L2.St → Hp → Prop, (∃ m, W 0 m σ H) ∧ ∀ (i m : Nat) (σ : L2.St) (H : Hp), W i m σ H → J.stop i H ∧ D.nx σ H ∨ J.go i H ∧ ∃ N : L2.St → Hp → Prop, (∀ (σ' : L2.St) (H' : Hp), N σ' H' → ∃ m', m' < m ∧ W (i + 1) m' σ' H') ∧
      ∀ (x : V) (H' : Hp), J.yld i H x H' → lG K g x σ H' fun σ2 H2 => lS K tb { nx := N, rt := D.rt, bk := D.nx, ct := N } σ2 H2 := by
  refine ⟨fun i m σ H => m + i = ws.length ∧ ∃ F' ρ' μ', Same F F' ∧ Cn K F' H μ' G ∧ Rs K F' σ ρ' ∧ loopD g tb (ws.drop i) R ρ' μ', ⟨ws.length, rfl, F, ρ, μ, Same.refl _, c, rs, h⟩, fun i m σ H ⟨em, F', ρ', μ', s, c, rs, h⟩ => ?_⟩
  obtain ⟨yg, ys⟩ := y F' H μ' G s c
  by_cases hi : i < ws.length
  · have ew : ws[i]? = some ws[i] := List.getElem?_eq_getElem hi
    rw [List.drop_eq_getElem_cons hi] at h
    obtain ⟨go, yl⟩ := yg i _ ew
    refine .inr ⟨go, fun σ' H' => ∃ F' ρ' μ', Same F F' ∧ Cn K F' H' μ' G ∧ Rs K F' σ' ρ' ∧ loopD g tb (ws.drop (i + 1)) R ρ' μ', fun σ' H' hN => ⟨m - 1, by omega, by omega, hN⟩, fun x H' hy => ?_⟩
    obtain ⟨F2, s2, c2, r2⟩ := yl x H' hy
    refine ⟨F2, ρ', μ', G, _, _, c2, rs.mono s2, r2, h, fun ρ3 μ3 F3 H3 σ3 r3 s3 c3 q3 => ?_⟩
    have s03 := (s.trans s2).trans s3
    refine lS_go c3 q3 r3 ⟨fun ρ4 μ4 F4 H4 σ4 r4 s4 c4 q4 => ⟨F4, ρ4, μ4, s03.trans s4, c4, q4, r4⟩, fin.rt.mono s03, fin.nx.mono s03, fun ρ4 μ4 F4 H4 σ4 r4 s4 c4 q4 => ⟨F4, ρ4, μ4, s03.trans s4, c4, q4, r4⟩⟩
  · have e : i = ws.length := by omega
    subst e
    rw [List.drop_length] at h
    exact .inl ⟨ys, fin.nx _ _ _ _ _ h s c rs⟩
theorem ds_for {tg iter : Expr} {body : List Stmt} {pos : Pos} {t : DTI} {g : DTG} {tb : DTS} (h : PS X (.For tg iter body [] pos) (tFor (lI X.K t) (lG X.K g) (lS X.K tb))) : DS X (.For tg iter body [] pos) (tForD t g tb) :=
  ⟨PS_mono h fun D σ H ⟨F, ρ, μ, G, R, c, rs, h, fin⟩ => ⟨F, ρ, μ, G, _, c, rs, h, fun ws μ1 F1 H1 J r s c1 y => loop_read y (fin.mono s) c1 (rs.mono s) r⟩⟩
end
end DL

set_option Elab.async false
set_option linter.all false
set_option maxRecDepth 100000
set_option maxHeartbeats 1000000
namespace DL
open PySem PySem.Spec PyProof.Rows L2

/-! ### comprehensions -/
def wipeD (ρ : Sl) : List Nat → Sl
  | [] => ρ
  | v :: vs => (wipeD ρ vs).set v none
theorem Rs.wipe {K : PySem.W.Frag} {F : Hp} {σ : L2.St} {ρ : Sl} (h : Rs K F σ ρ) : ∀ vs : List Nat, Rs K F (wipe σ vs) (wipeD ρ vs)
  | [] => h
  | v :: vs => by
    have ih := Rs.wipe h vs
    refine ⟨by show ((wipeD ρ vs).set v none).length = ((L2.wipe σ vs).set v none).length; rw [List.length_set, List.length_set, ih.len], fun j u q => ?_⟩
    have q' : ((wipeD ρ vs).set v none)[j]? = some (some u) := q
    show ∃ x, ((L2.wipe σ vs).set v none)[j]? = some (some x) ∧ _
    rw [List.getElem?_set] at q' ⊢
    by_cases e : v = j
    · rw [if_pos e] at q'
      split at q' <;> cases q'
    · rw [if_neg e] at q' ⊢
      exact ih.get j u q'
theorem wipe_at {σ : L2.St} {i : Nat} : ∀ {vs : List Nat}, i ∈ vs → i < σ.length → (wipe σ vs)[i]? = some none
  | v :: vs, hm, hl => by
    show ((L2.wipe σ vs).set v none)[i]? = some none
    rw [List.getElem?_set]
    by_cases e : v = i
    · rw [if_pos e, if_pos (by rw [wipe_length]; rw [e]; exact hl)]
    · rw [if_neg e]
      rcases List.mem_cons.mp hm with z | z
      · exact absurd z.symm e
      · exact wipe_at z hl
theorem wipe_ext {σ τ : L2.St} {vs : List Nat} (hl : σ.length = τ.length) (h : ∀ i, i ∉ vs → σ[i]? = τ[i]?) : wipe σ vs = wipe τ vs := by
  apply List.ext_getElem?
  intro i
  by_cases hm : i ∈ vs
  · by_cases hi : i < σ.length
    · rw [wipe_at hm hi, wipe_at hm (by omega)]
    · rw [List.getElem?_eq_none (by rw [wipe_length]; omega), List.getElem?_eq_none (by rw [wipe_length]; omega)]
  · rw [wipe_out hm, wipe_out hm, h i hm]
theorem wipe_set {σ : L2.St} {vs : List Nat} {i : Nat} {x : Option V} (hm : i ∈ vs) : wipe ((wipe σ vs).set i x) vs = wipe σ vs := by
  refine wipe_ext (by rw [List.length_set, wipe_length]) fun j hj => ?_
  have e : i ≠ j := fun z => hj (z ▸ hm)
  rw [List.getElem?_set, if_neg e, wipe_out hj]

section
variable {X : Cx}
/-- the frame set apart for the list that is made -/
theorem Cn.apartL {K : PySem.W.Frag} {F H G : Hp} {μ : M} (c : Cn K F H μ G) {p : Addr} (hp : H p = none) (o : HO) : Cn K F (upd H p o) μ (upd G p o) := by
  refine ⟨fun b x q => ?_, upd_same_same c.fr, fun a m q => ?_, fun a q => ?_⟩
  · rw [upd_ne (ne_of_none q (c.noF hp))]; exact c.sub _ _ q
  · obtain ⟨h1, h2, o', h3, h4⟩ := c.mu a m q
    have n := ne_of_none h3 hp
    exact ⟨h1, by rw [upd_ne n]; exact h2, o', by rw [upd_ne n]; exact h3, h4⟩
  · have n : a ≠ p := fun z => q (z ▸ c.noF hp)
    rw [upd_ne n]; exact c.apart a q
theorem upd_keep {H : Hp} {p : Addr} {o : HO} (h : H p = some o) : upd H p o = H := by
  funext b
  unfold upd
  by_cases e : b = p
  · rw [if_pos e, e, h]
  · rw [if_neg e]
theorem Cn.turnL {K : PySem.W.Frag} {F H G : Hp} {μ : M} {p : Addr} {o o' : HO} (c : Cn K F H μ (upd G p o)) : Cn K F (upd H p o') μ (upd G p o') := by
  have hF : F p = none := by
    cases e : F p with
    | none => rfl
    | some x => have z := c.apart p (by rw [e]; simp); rw [upd_same] at z; cases z
  refine ⟨fun b x q => ?_, fun b x q => ?_, fun a m q => ?_, fun a q => ?_⟩
  · rw [upd_ne (ne_of_none q hF)]; exact c.sub _ _ q
  · by_cases z : b = p
    · subst z; rw [upd_same] at q ⊢; exact q
    · rw [upd_ne z] at q ⊢
      exact c.fr _ _ (by rw [upd_ne z]; exact q)
  · obtain ⟨h1, h2, o2, h3, h4⟩ := c.mu a m q
    have n : a ≠ p := fun z => by subst z; rw [upd_same] at h2; cases h2
    rw [upd_ne n] at h2
    exact ⟨h1, by rw [upd_ne n]; exact h2, o2, by rw [upd_ne n]; exact h3, h4⟩
  · have n : a ≠ p := fun z => q (z ▸ hF)
    have z := c.apart a q
    rw [upd_ne n] at z ⊢
    exact z
theorem Cn.backL {K : PySem.W.Frag} {F H G : Hp} {μ : M} {p : Addr} {o : HO} (c : Cn K F H μ (upd G p o)) (hG : G p = none) : Same F (upd F p o) ∧ Cn K (upd F p o) H μ G := by
  have hF : F p = none := by
    cases e : F p with
    | none => rfl
    | some x => have z := c.apart p (by rw [e]; simp); rw [upd_same] at z; cases z
  have e := same_upd (o := o) hF
  refine ⟨e, fun b x q => ?_, fun b x q => c.fr _ _ (by rw [upd_ne (ne_of_none q hG)]; exact q), fun a m q => ?_, fun a q => ?_⟩
  · by_cases z : b = p
    · subst z; rw [upd_same] at q; exact c.fr _ _ (by rw [upd_same]; exact q)
    · rw [upd_ne z] at q; exact c.sub _ _ q
  · obtain ⟨h1, h2, o2, h3, h4⟩ := c.mu a m q
    have n : a ≠ p := fun z => by subst z; rw [upd_same] at h2; cases h2
    rw [upd_ne n] at h2
    exact ⟨by rw [upd_ne n]; exact h1, h2, o2, h3, h4.mono e⟩
  · by_cases z : a = p
    · subst z; exact hG
    · rw [upd_ne z] at q
      have y := c.apart a q
      rw [upd_ne z] at y
      exact y
theorem Cn.backM {K : PySem.W.Frag} {F H G : Hp} {μ : M} {p : Addr} {o : HO} {m : MO} (c : Cn K F H μ (upd G p o)) (hG : G p = none) (r : Rm K F o m) : μ p = none ∧ Cn K F H (mset μ p m) G := by
  have hF : F p = none := by
    cases e : F p with
    | none => rfl
    | some x => have z := c.apart p (by rw [e]; simp); rw [upd_same] at z; cases z
  have hM : μ p = none := by
    cases e : μ p with
    | none => rfl
    | some x => have z := (c.mu p x e).2.1; rw [upd_same] at z; cases z
  refine ⟨hM, c.sub, fun b x q => c.fr _ _ (by rw [upd_ne (ne_of_none q hG)]; exact q), fun a n q => ?_, fun a q => ?_⟩
  · by_cases z : a = p
    · subst z
      rw [mset_same] at q
      cases q
      exact ⟨hF, hG, o, c.fr _ _ upd_same, r⟩
    · rw [mset_ne z] at q
      obtain ⟨h1, h2, h3⟩ := c.mu a n q
      rw [upd_ne z] at h2
      exact ⟨h1, h2, h3⟩
  · have n : a ≠ p := fun z => q (z ▸ hF)
    have y := c.apart a q
    rw [upd_ne n] at y
    exact y

/-- the turns of a comprehension: rows that are left, what is made so far -/
def compL (i : Nat) (tt : DTT) (te : DTE) (ρ : Sl) : List W → List W → M → (List W → M → Prop) → Prop
  | [], acc, μ, R => R acc μ
  | x :: r, acc, μ, R => tt (ρ.set i (some x)) μ fun b μ1 => if b = true then te (ρ.set i (some x)) μ1 fun y μ2 => acc.length < sizeLine ∧ compL i tt te ρ r (acc ++ [y]) μ2 R else compL i tt te ρ r acc μ1 R
def tCompG (t : DTI) (i : Nat) (tt : DTT) (te : DTE) (vs : List Nat) (fin : List W → M → DQ → Prop) : DTE := fun ρ μ R => t ρ μ fun ws μ1 => compL i tt te (wipeD ρ vs) ws [] μ1 fun acc μ2 => fin acc μ2 R
/-- the list is data -/
def cFrz : List W → M → DQ → Prop := fun acc μ R => asD acc fun ds => R (.d (.list ds)) μ
/-- the list will change -/
def cMut : List W → M → DQ → Prop := fun acc μ R => ∀ p, μ p = none → R (.v (.ref p)) (mset μ p (.lst acc))
def CEnd (K : PySem.W.Frag) (e : List W → M → DQ → Prop) : Prop := ∀ {F H G : Hp} {μ : M} {p : Addr} {vs : List V} {acc : List W} {R : DQ} {Q : VK}, Cn K F H μ (upd G p (.lst vs)) → G p = none → RwAll K F vs acc → e acc μ R → Fin K F G R Q → Q (.ref p) H
theorem cFrz_ok {K : PySem.W.Frag} : CEnd K cFrz := by
  intro F H G μ p vs acc R Q c hG r h fin
  obtain ⟨ds, k, h⟩ := asD_ok r h
  obtain ⟨s, c'⟩ := c.backL hG
  exact fin _ _ _ _ _ h s c' (.lst upd_same (k.mono s))
theorem cMut_ok {K : PySem.W.Frag} : CEnd K cMut := by
  intro F H G μ p vs acc R Q c hG r h fin
  obtain ⟨hM, c'⟩ := c.backM (m := .lst acc) hG ⟨vs, rfl, r⟩
  exact fin _ _ _ _ _ (h p hM) (Same.refl _) c' rfl
theorem lc_read {t : DTI} {i : Nat} {tt : DTT} {te : DTE} {vs : List Nat} {e : List W → M → DQ → Prop} (he : CEnd X.K e) (hi : i ∈ vs) {σ : L2.St} {H : Hp} {Q : VK} (h : lE X.K (tCompG t i tt te vs e) σ H Q) : tLc (lI X.K t) (gName i) (lT X.K tt) (lE X.K te) vs σ H Q := by
  obtain ⟨F, ρ, μ, G, R, c, rs, h, fin⟩ := h
  refine ⟨F, ρ, μ, G, _, c, rs, h, fun ws μ1 F1 H1 J r1 s1 c1 y p hp => ?_⟩
  have hG := c1.noG hp
  have hF := c1.noF hp
  refine ⟨fun j m H => m + j = ws.length ∧ ∃ F' μ' vs' acc, Same F1 F' ∧ Cn X.K F' H μ' (upd G p (.lst vs')) ∧ RwAll X.K F' vs' acc ∧ compL i tt te (wipeD ρ vs) (ws.drop j) acc μ' (fun acc μ2 => e acc μ2 R), ⟨ws.length, rfl, F1, μ1, [], [], Same.refl _, c1.apartL hp _, .nil, r1⟩, fun j m H ⟨em, F', μ', vs', acc, s, c, ra, h⟩ => ?_⟩
  obtain ⟨yg, ys⟩ := y F' H μ' _ s c
  by_cases hj : j < ws.length
  · have ew : ws[j]? = some ws[j] := List.getElem?_eq_getElem hj
    rw [List.drop_eq_getElem_cons hj] at h
    obtain ⟨go, yl⟩ := yg j _ ew
    refine .inr ⟨go, fun H' => ∃ F' μ' vs' acc, Same F1 F' ∧ Cn X.K F' H' μ' (upd G p (.lst vs')) ∧ RwAll X.K F' vs' acc ∧ compL i tt te (wipeD ρ vs) (ws.drop (j + 1)) acc μ' (fun acc μ2 => e acc μ2 R), fun H' hN => ⟨m - 1, by omega, by omega, hN⟩, fun x H' hy => ?_⟩
    obtain ⟨F2, s2, c2, r2⟩ := yl x H' hy
    have rs2 : Rs X.K F2 ((L2.wipe σ vs).set i (some x)) ((wipeD ρ vs).set i (some ws[j])) := ((((rs.mono s1).mono s).mono s2).wipe vs).set i r2
    refine ⟨wipe_set hi, F2, _, μ', _, _, c2, rs2, h, fun b μ3 F3 H3 r3 s3 c3 => ?_⟩
    cases b with
    | true =>
      rw [if_pos rfl] at r3 ⊢
      refine lE_go c3 (rs2.mono s3) r3 fun w μ4 F4 H4 v r4 s4 c4 q4 => ?_
      have s24 := (s2.trans s3).trans s4
      refine ⟨vs', c4.fr _ _ upd_same, by rw [RwAll.len ra]; exact r4.1, F4, μ4, vs' ++ [v], acc ++ [w], s.trans s24, c4.turnL, (ra.mono s24).app (.cons q4 .nil), r4.2⟩
    | false =>
      rw [if_neg Bool.false_ne_true] at r3 ⊢
      exact ⟨F3, μ3, vs', acc, (s.trans s2).trans s3, c3, ra.mono (s2.trans s3), r3⟩
  · have ej : j = ws.length := by omega
    subst ej
    rw [List.drop_length] at h
    exact .inl ⟨ys, he c hG ra h (fin.mono (s1.trans s))⟩
theorem de_lc {e : Expr} {t : DTI} {i : Nat} {tt : DTT} {te : DTE} {vs : List Nat} {en : List W → M → DQ → Prop} (h : PE X e (tLc (lI X.K t) (gName i) (lT X.K tt) (lE X.K te) vs)) (he : CEnd X.K en) (hi : i ∈ vs) : DE X e (tCompG t i tt te vs en) :=
  ⟨PE_mono h fun σ H Q q => lc_read he hi q⟩
theorem ds_setLc {st : Stmt} {j : Nat} {t : DTI} {i : Nat} {tt : DTT} {te : DTE} {vs : List Nat} {en : List W → M → DQ → Prop} (h : PS X st (tAsg (tLc (lI X.K t) (gName i) (lT X.K tt) (lE X.K te) vs) (gName j))) (he : CEnd X.K en) (hi : i ∈ vs) : DS X st (tSetD j (tCompG t i tt te vs en)) :=
  ds_set (PS_mono h fun D σ H q => lc_read he hi q)
def tYesD : DTT := fun _ μ R => R true μ
structure DTs (X : Cx) (ifs : List Expr) (t : DTT) : Prop where
  pts : PTs X ifs (lT X.K t)
theorem PTs_mono {e : List Expr} {t t' : TT} (h : PTs X e t) (i : ∀ σ H Q, t' σ H Q → t σ H Q) : PTs X e t' := ⟨fun pins s σ H Q I q => h.run pins s σ H Q I (i _ _ _ q)⟩
theorem dts_nil : DTs X [] tYesD := ⟨PTs_mono pts_nil fun σ H Q ⟨F, ρ, μ, G, R, c, rs, h, fin⟩ => fin _ _ _ _ h (Same.refl _) c⟩
theorem dts_one {e : Expr} {t : DTT} (h : DT X e t) : DTs X [e] t := ⟨pts_one h.pt⟩

/-! ### while -/
def tWhileD (t : DTT) (tb : DTS) : DTS := fun D ρ μ => ∃ (I : Sl → M → Prop) (m : Sl → M → Nat), I ρ μ ∧ ∀ ρ μ, I ρ μ → t ρ μ fun k μ1 => if k = true then
  tb { nx := fun ρ' μ' => I ρ' μ' ∧ m ρ' μ' < m ρ μ, rt := D.rt, bk := D.nx, ct := fun ρ' μ' => I ρ' μ' ∧ m ρ' μ' < m ρ μ } ρ μ1 else D.nx ρ μ1
theorem ds_while {c : Expr} {body : List Stmt} {pos : Pos} {t : DTT} {tb : DTS} (h : PS X (.While c body [] pos) (tWhile (lT X.K t) (lS X.K tb))) : DS X (.While c body [] pos) (tWhileD t tb) :=
  ⟨PS_mono h fun D σ H ⟨F, ρ, μ, G, R, c, rs, h, fin⟩ => by
    obtain ⟨I, m, h0, h⟩ := h
    refine ⟨fun n σ H => ∃ F' ρ' μ', Same F F' ∧ Cn X.K F' H μ' G ∧ Rs X.K F' σ ρ' ∧ I ρ' μ' ∧ m ρ' μ' = n, ⟨_, F, ρ, μ, Same.refl _, c, rs, h0, rfl⟩, fun n σ H ⟨F', ρ', μ', s, c, rs, hI, en⟩ => ?_⟩
    refine lT_go c rs (h ρ' μ' hI) fun k μ1 F1 H1 r s1 c1 => ?_
    cases k with
    | true =>
      rw [if_pos rfl] at r ⊢
      have go : ∀ (ρ2 : Sl) (μ2 : M) (F2 H2 : Hp) (σ2 : L2.St), I ρ2 μ2 ∧ m ρ2 μ2 < m ρ' μ' → Same F1 F2 → Cn X.K F2 H2 μ2 G → Rs X.K F2 σ2 ρ2 → ∃ m', m' < n ∧ ∃ F' ρ' μ', Same F F' ∧ Cn X.K F' H2 μ' G ∧ Rs X.K F' σ2 ρ' ∧ I ρ' μ' ∧ m ρ' μ' = m' :=
        fun ρ2 μ2 F2 H2 σ2 a b c d => ⟨_, by have := a.2; omega, F2, ρ2, μ2, (s.trans s1).trans b, c, d, a.1, rfl⟩
      exact ⟨fun σ2 H2 => ∃ m', m' < n ∧ ∃ F' ρ' μ', Same F F' ∧ Cn X.K F' H2 μ' G ∧ Rs X.K F' σ2 ρ' ∧ I ρ' μ' ∧ m ρ' μ' = m', fun σ2 H2 q => q, lS_go c1 (rs.mono s1) r ⟨fun ρ2 μ2 F2 H2 σ2 a b c d => go ρ2 μ2 F2 H2 σ2 a b c d, fin.rt.mono (s.trans s1), fin.nx.mono (s.trans s1), fun ρ2 μ2 F2 H2 σ2 a b c d => go ρ2 μ2 F2 H2 σ2 a b c d⟩⟩
    | false =>
      rw [if_neg Bool.false_ne_true] at r ⊢
      exact fin.nx _ _ _ _ _ r (s.trans s1) c1 (rs.mono s1)⟩

/-! ### x += e -/
def tAugD (i : Nat) (t : DTE) (r : D2) : DTS := fun D ρ μ => match ρ[i]? with
  | some (some w) => t ρ μ fun u μ1 => r w u μ1 fun z μ2 => D.nx (ρ.set i (some z)) μ2
  | _ => False
def LiftP (K : PySem.W.Frag) (r : TIp) (rD : D2) : Prop := Lift2 K r rD
theorem ds_aug {st : Stmt} {i : Nat} {t : DTE} {r : TIp} {rD : D2} (h : PS X st (tAug i (lE X.K t) r)) (l : Lift2 X.K r rD) : DS X st (tAugD i t rD) :=
  ⟨PS_mono h fun D σ H ⟨F, ρ, μ, G, R, c, rs, h, fin⟩ => by
    unfold tAugD at h
    split at h
    · rename_i w e
      obtain ⟨v, ev, rv⟩ := rs.get i w e
      exact ⟨v, ev, lE_go c rs h fun u μ1 F1 H1 y r1 s1 c1 q1 => l c1 (rv.mono s1) q1 r1 fun z μ2 F2 H2 x r2 s2 c2 q2 => fin.nx _ _ _ _ _ r2 (s1.trans s2) c2 ((rs.mono (s1.trans s2)).set i q2)⟩
    · exact h.elim⟩
theorem l_ipI {K : PySem.W.Frag} {f : Int → Int → Int} : Lift2 K (ipI f) (numD (fun _ _ => True) f) := by
  intro F H G μ x y wx wy R Q c rx ry h fin
  unfold numD at h
  split at h
  · cases rx; cases ry
    exact ⟨_, _, rfl, rfl, fin.flat c h.2 (.int _)⟩
  · exact h.elim

/-! ### repr of data without dicts -/
def reprD : DC := fun ws μ R => match ws with
  | [.d (.list ds)] => PyData.plainAll ds = true ∧ PyData.showable (.list ds) = true ∧ PyData.depth (.list ds) ≤ 60 ∧ (PyData.shown (.list ds)).length ≤ sizeLine ∧ R (.d (.str (PyData.shown (.list ds)))) μ
  | [.d (.tuple ds)] => PyData.plainAll ds = true ∧ PyData.showable (.tuple ds) = true ∧ PyData.depth (.tuple ds) ≤ 60 ∧ (PyData.shown (.tuple ds)).length ≤ sizeLine ∧ R (.d (.str (PyData.shown (.tuple ds)))) μ
  | _ => False
def rReprD (K : PySem.W.Frag) : List V → Hp → VK → Prop := fun xs H Q => ∃ F p d, xs = [.ref p] ∧ Same F H ∧ Rp K F (.ref p) d ∧ d.plain = true ∧ d.showable = true ∧ d.depth ≤ 60 ∧ d.shown.length ≤ sizeLine ∧ Q (.str d.shown) H
mutual
theorem plain_noDict : ∀ d : PyData, d.plain = true → d.hasDict = false
  | .none, _ => rfl
  | .bool _, _ => rfl
  | .int _, _ => rfl
  | .str _, _ => rfl
  | .list ds, h => by simp only [PyData.hasDict]; exact plain_noDictAll ds (by simpa [PyData.plain] using h)
  | .tuple ds, h => by simp only [PyData.hasDict]; exact plain_noDictAll ds (by simpa [PyData.plain] using h)
  | .dict _, h => by simp [PyData.plain] at h
theorem plain_noDictAll : ∀ ds : List PyData, PyData.plainAll ds = true → PyData.hasDictAll ds = false
  | [], _ => rfl
  | d :: ds, h => by
    simp [PyData.plainAll] at h
    simp only [PyData.hasDictAll, plain_noDict d h.1, plain_noDictAll ds h.2, Bool.or_self]
end
theorem call_reprD (hu : X.A.units + 100 < cLine) (hg : X.A.guards = some []) : CallR X (.builtin "repr") (rReprD X.K) := by
  intro pins s σ H xs us Q I r ⟨F, p, d, e, sm, rp, pl, sh, dp, sz, q⟩
  subst e
  cases r with
  | cons r t =>
    cases t
    obtain ⟨as, rd⟩ := Rp.reads I sm d _ _ pl rp r
    cases r
    exact repr_of_reads' rd sh (fun z => by rw [plain_noDict d pl] at z; cases z) hg (by omega) (fun _ _ z => z) (fun h' u tk k => ⟨.str _, H, I.kept k, ⟨_, rfl⟩, q⟩) sz
theorem l_repr {K : PySem.W.Frag} : LiftA K (rReprD K) reprD := by
  intro F H G μ vs ws R Q c rv h fin
  unfold reprD at h
  split at h
  · cases rv with
    | cons r t =>
      cases t
      cases r with
      | lst e k => exact ⟨F, _, _, rfl, c.sub, .lst e k, by simpa [PyData.plain] using h.1, h.2.1, h.2.2.1, h.2.2.2.1, fin.flat c h.2.2.2.2 (.str _)⟩
  · cases rv with
    | cons r t =>
      cases t
      cases r with
      | tup e k => exact ⟨F, _, _, rfl, c.sub, .tup e k, by simpa [PyData.plain] using h.1, h.2.1, h.2.2.1, h.2.2.2.1, fin.flat c h.2.2.2.2 (.str _)⟩
  · exact h.elim
end
end DL

set_option Elab.async false
set_option linter.all false
set_option maxRecDepth 100000
set_option maxHeartbeats 1000000
namespace DL
open PySem PySem.Spec PyProof.Rows L2

/-! ### defs -/
/-- what a def promises, over data: arguments, objects, what is wanted of the answer -/
abbrev DSp := List W → M → DQ → Prop
def lSp (K : PySem.W.Frag) (ds : DSp) : Sp := fun vs H Q _ => ∃ (F : Hp) (μ : M) (G : Hp) (ws : List W) (R : DQ), Cn K F H μ G ∧ RwAll K F vs ws ∧ ds ws μ R ∧ Fin K F G R Q
/-- as FnOk, where no repr is under way -/
structure FG (P : Program) (w : World) (K : PySem.W.Frag) (mg : Str → Option Value) (base : Heap) (CX : CXT) (k : Nat) (f : Addr) (fd : FuncData) (ps : List Str) (sp : Sp) : Prop where
  arity : ∀ vs H Q E, sp vs H Q E → vs.length = ps.length
  go : ∀ (A : Around) (outer : List Env) (s : Shared) (H : Hp) (args : Args) (us : List Value) (vs : List V) (Q : VK) (E : XK), Room k A → A.guards = some [] → Env0 P w K mg base A outer s H → BindsTo s fd args (ps.zip us) → Vals vs us → sp vs H Q E →
    codeAny (model P w) A (.call (.ref f) args) (CR CX outer P w H s Q E) s
theorem FG.mono {P : Program} {w : World} {K : PySem.W.Frag} {mg : Str → Option Value} {base : Heap} {CX : CXT} {j k : Nat} {f : Addr} {fd : FuncData} {ps : List Str} {sp : Sp} (F : FG P w K mg base CX j f fd ps sp) (h : j ≤ k) : FG P w K mg base CX k f fd ps sp :=
  ⟨F.arity, fun A outer s H args us vs Q E hr => F.go A outer s H args us vs Q E (hr.mono h)⟩
theorem FG.imp {P : Program} {w : World} {K : PySem.W.Frag} {mg : Str → Option Value} {base : Heap} {CX : CXT} {k : Nat} {f : Addr} {fd : FuncData} {ps : List Str} {ds ds' : DSp} (F : FG P w K mg base CX k f fd ps (lSp K ds)) (h : ∀ ws μ R, ds' ws μ R → ds ws μ R) :
    FG P w K mg base CX k f fd ps (lSp K ds') :=
  ⟨fun vs H Q E ⟨F', μ, G, ws, R, a, b, c, d⟩ => F.arity vs H Q E ⟨F', μ, G, ws, R, a, b, h _ _ _ c, d⟩, fun A outer s H args us vs Q E hr hg he hb hv ⟨F', μ, G, ws, R, a, b, c, d⟩ => F.go A outer s H args us vs Q E hr hg he hb hv ⟨F', μ, G, ws, R, a, b, h _ _ _ c, d⟩⟩

section
variable {X : Cx} {CX : CXT} {k : Nat} {f C : Addr} {fd : FuncData} {ps : List Str} {sp : Sp} {dvs : List V} {ds : List Value} {E : XK} {x : Str} {p pos : Pos} {e : Expr} {es : List Expr} {t : TA}
theorem run_fg {pins : List (Addr × Obj)} {σ : L2.St} {H : Hp} {s : Shared} {Q : VK} {us : List Value} {vs : List V} (F : FG X.prog X.w X.K X.mg X.base CX k f fd ps sp) (hr : Room k X.A) (hg : X.A.guards = some []) (hb : L2.Binds X.K fd ps ds) (hd : Vals dvs ds) (hx : Passes CX X E)
    (I : Inv X pins σ H s) (r : Vals vs us) (h : sp (vs ++ dvs) H Q E) : wpAny (model X.prog X.w) X.A (call (.ref f) us) (EP X pins σ Q) X.xe s := by
  have rr : Vals (vs ++ dvs) (us ++ ds) := r.append hd
  have ll : (us ++ ds).length = ps.length := by
    rw [← rr.length]
    exact F.arity _ _ _ _ h
  refine wpAny_call (codeAny_mono (F.go X.A X.stack s H ⟨us, []⟩ (us ++ ds) (vs ++ dvs) Q E hr hg I.env0 (hb s us I.kIn ll) rr h) ?_)
  intro r s' hq
  match r, hq with
  | .error e, hq => exact hx pins σ H s e s' I hq
  | .ok (.ret u), hq => exact I.after hq
theorem pe_callG (F : FG X.prog X.w X.K X.mg X.base CX k f fd ps sp) (hr : Room k X.A) (hgd : X.A.guards = some []) (hg : Gl X x) (hm : X.mg x = some (.ref f)) (hk : PySem.W.keepIn X.K (.ref f) = true) (hb : L2.Binds X.K fd ps ds) (hd : Vals dvs ds) (hx : Passes CX X E)
    (ha : PA X (e :: es) t) (hdb : (x == ("__debug__" : Str)) = false) (he : starEach (e :: es) X.env = (false, eval e X.env) :: starEach es X.env) (hpl : (backTo pos (starEach es X.env)).any (·.1) = false) :
    PE X (.Call (.Name x p) (e :: es) [] pos) (tCall sp dvs E t) := by
  constructor
  intro pins s σ H Q I h
  apply wpAny_Call_Name_kw
  apply ld_glob I hg hm _ hdb
  apply PySem.W.callWith_K (h₀ := X.base) I.ok.mod.kin hk _ he hpl
  refine thn (ha.run pos pins s σ H _ I h) ?_
  rintro us s1 ⟨vs, H1, I1, r, q⟩
  exact ⟨I1.kIn, run_fg F hr hgd hb hd hx I1 r q⟩
theorem pe_callG0 (F : FG X.prog X.w X.K X.mg X.base CX k f fd ps sp) (hr : Room k X.A) (hgd : X.A.guards = some []) (hg : Gl X x) (hm : X.mg x = some (.ref f)) (hk : PySem.W.keepIn X.K (.ref f) = true) (hb : L2.Binds X.K fd ps ds) (hd : Vals dvs ds) (hx : Passes CX X E)
    (hdb : (x == ("__debug__" : Str)) = false) : PE X (.Call (.Name x p) [] [] pos) (tCall sp dvs E tNil) := by
  constructor
  intro pins s σ H Q I h
  apply wpAny_Call_Name_kw
  apply ld_glob I hg hm _ hdb
  exact PySem.W.callWith_K0 I.kIn hk (run_fg (us := []) F hr hgd hb hd hx I .nil h)
end
/-- a def of the text, called by its name; no error leaves it -/
def tCallD (ds : DSp) (t : DTA) : DTE := fun ρ μ R => t ρ μ fun ws μ1 => ds ws μ1 R
section
variable {X : Cx} {k : Nat} {f : Addr} {fd : FuncData} {ps : List Str} {x : Str} {p pos : Pos} {e : Expr} {es : List Expr}
theorem de_call {ds : DSp} {t : DTA} (F : FG X.prog X.w X.K X.mg X.base CX0 k f fd ps (lSp X.K ds)) (hr : Room k X.A) (hgd : X.A.guards = some []) (hg : Gl X x) (hm : X.mg x = some (.ref f)) (hk : PySem.W.keepIn X.K (.ref f) = true) (hb : L2.Binds X.K fd ps [])
    (ha : DA X (e :: es) t) (hdb : (x == ("__debug__" : Str)) = false) (he : starEach (e :: es) X.env = (false, eval e X.env) :: starEach es X.env) (hpl : (backTo pos (starEach es X.env)).any (·.1) = false) :
    DE X (.Call (.Name x p) (e :: es) [] pos) (tCallD ds t) :=
  ⟨PE_mono (pe_callG F hr hgd hg hm hk hb .nil pass0 ha.pa hdb he hpl) fun σ H Q ⟨F', ρ, μ, G, R, c, rs, h, fin⟩ => lA_go c rs h fun ws μ1 F1 H1 vs r1 s1 c1 q1 => by
    rw [List.append_nil]
    exact ⟨F1, μ1, G, ws, R, c1, q1, r1, fin.mono s1⟩⟩
theorem de_call0 {ds : DSp} (F : FG X.prog X.w X.K X.mg X.base CX0 k f fd ps (lSp X.K ds)) (hr : Room k X.A) (hgd : X.A.guards = some []) (hg : Gl X x) (hm : X.mg x = some (.ref f)) (hk : PySem.W.keepIn X.K (.ref f) = true) (hb : L2.Binds X.K fd ps [])
    (hdb : (x == ("__debug__" : Str)) = false) : DE X (.Call (.Name x p) [] [] pos) (tCallD ds tNilD) :=
  ⟨PE_mono (pe_callG0 F hr hgd hg hm hk hb .nil pass0 hdb) fun σ H Q ⟨F', ρ, μ, G, R, c, rs, h, fin⟩ => ⟨F', μ, G, [], R, c, .nil, h, fin⟩⟩
end

/-! ### a def by its body -/
def startD (n : Nat) (ws : List W) : Sl := ws.map some ++ List.replicate (n - ws.length) none
theorem startD_ok {K : PySem.W.Frag} {F : Hp} {N : List Str} {vs : List V} {ws : List W} (r : RwAll K F vs ws) : Rs K F (L2.start N vs) (startD N.length ws) := by
  have l := RwAll.len r
  refine ⟨by unfold L2.start startD; simp [l], fun i w e => ?_⟩
  unfold startD at e
  unfold L2.start
  by_cases hi : i < ws.length
  · rw [List.getElem?_append_left (by simpa using hi), List.getElem?_map] at e
    rw [List.getElem?_append_left (by simpa [l] using hi), List.getElem?_map]
    cases q : ws[i]? with
    | none => rw [q] at e; cases e
    | some u =>
      rw [q] at e
      cases e
      obtain ⟨v, ev, rv⟩ := RwAll.get r q
      exact ⟨v, by rw [ev]; rfl, rv⟩
  · rw [List.getElem?_append_right (by simpa using hi), List.getElem?_replicate] at e
    split at e <;> cases e
section
variable {P : Program} {w : World} {K : PySem.W.Frag} {mg : Str → Option Value} {base : Heap}
theorem fg_of {CX : CXT} {x qual : Str} {st : Stmt} {f : Addr} {fd : FuncData} {N ps : List Str} {k : Nat} {sp : Sp} (F : Fun K x qual st f fd) (S : FnScope N ps (defScope st)) (arity : ∀ vs H Q E, sp vs H Q E → vs.length = ps.length)
    (hbody : ∀ (cdv : Value) (A : Around) (outer : List Env) (s : Shared) (H : Hp) (vs : List V) (Q : VK) (E : XK), Room k (A.deeper (envOfC qual (defScope st) s.heap.objs.size f cdv)) → A.guards = some [] → sp vs H Q E →
      ∃ t, PSs (cxOf CX P w K mg base N qual (defScope st) f cdv A outer s H E) (defBody st) t ∧ t { nx := fun _ H' => Q .non H', rt := Q } (L2.start N vs) H) : FG P w K mg base CX (k + 1) f fd ps sp := by
  obtain ⟨oc, od, kV, doc, pm, an, cdv, ct, osl, rfl, lk, hcd⟩ := F.ex
  constructor
  · exact arity
  intro A outer s H args us vs Q E hr hgd e0 hb r hsp
  have al := arity _ _ _ _ hsp
  have kIn : K.In s.heap := e0.mod.kin.keeps fun b o e => (e0.bs b o e).1
  have noLim : s.heap.NoLimit := e0.mod.nolimit.keeps fun b o e => (e0.bs b o e).1
  have kinds : ∀ y ∈ ps.zip us, (defScope st).names.lookup y.1 = some .local ∨ ((defScope st).names.lookup y.1 = some .cell ∧ ((cellsFrom (s.heap.objs.size + 1) (defScope st).names []).lookup y.1).isSome = true) := by
    rintro ⟨n, v⟩ hy
    rcases S.par n (List.of_mem_zip hy).1 with q | q
    · exact Or.inl q
    · exact Or.inr ⟨q, PySem.W.cellsFrom_some _ _ _ (.inl q)⟩
  apply codeAny_call_function hr.depth (kIn _ _ lk) rfl S.co S.gen rfl (PySem.W.codeRec_of kIn hcd)
  apply hb
  apply wpAny_newFunctionEnv_cells S.kind kinds
  intro env he s1 ic
  subst he
  refine ⟨noLim.keeps ic.toInCall.keep, codeAny_func ?_⟩
  obtain ⟨t, ht, hq⟩ := hbody cdv A outer s H vs Q E (hr.deeper _) hgd hsp
  have I : Inv (cxOf CX P w K mg base N qual (defScope st) f cdv A outer s H E) [] (L2.start N vs) H s1 := inv_start S hr.hd e0 al r ic
  refine wpAny_mono (ht.run [] s1 (L2.start N vs) H _ I hq) ?_ (fun e s' hs => hs)
  intro fl s' hs
  have out : ∀ {σ' : L2.St} {H' : Hp} {v : V} {u : Value}, Inv (cxOf CX P w K mg base N qual (defScope st) f cdv A outer s H E) [] σ' H' s' → RelV v u → Q v H' → CE outer P w H s Q u s' := by
    intro σ' H' v u J rv q
    exact ⟨v, H', J.os, J.bare, J.base, J.hok, rv, q⟩
  match fl, hs with
  | .ret u, ⟨v, σ', H', J, rv, q⟩ => exact out J rv q
  | .next, ⟨σ', H', J, q⟩ => exact out (v := V.non) (u := Value.none) J rfl q
  | .brk, ⟨_, _, _, q⟩ => exact False.elim q
  | .cont, ⟨_, _, _, q⟩ => exact False.elim q
/-- THE RULE for a def over data: a reading t of its body, and that the promise gives it -/
theorem fg_data {x qual : Str} {st : Stmt} {f : Addr} {fd : FuncData} {N ps : List Str} {k : Nat} {ds : DSp} (F : Fun K x qual st f fd) (S : FnScope N ps (defScope st)) (ar : ∀ ws μ R, ds ws μ R → ws.length = ps.length) (t : DTS)
    (hb : ∀ (cdv : Value) (A : Around) (outer : List Env) (s : Shared) (H : Hp) (E : XK), Room k (A.deeper (envOfC qual (defScope st) s.heap.objs.size f cdv)) → A.guards = some [] → DSs (cxOf CX0 P w K mg base N qual (defScope st) f cdv A outer s H E).nox (defBody st) t)
    (hd : ∀ ws μ R, ds ws μ R → t { nx := fun _ μ' => R (.d .none) μ', rt := R } (startD N.length ws) μ) : FG P w K mg base CX0 (k + 1) f fd ps (lSp K ds) := by
  refine fg_of F S (fun vs H Q E ⟨F', μ, G, ws, R, c, r, h, fin⟩ => (RwAll.len r).trans (ar _ _ _ h)) fun cdv A outer s H vs Q E hr hg ⟨F', μ, G, ws, R, c, r, h, fin⟩ => ?_
  have hX := hb cdv A outer s H E hr hg
  refine ⟨_, hX.pss.nox, lS_go c (startD_ok r) (hd ws μ R h) ⟨fun ρ' μ' F1 H1 σ1 r1 s1 c1 q1 => fin _ _ _ _ _ r1 s1 c1 .non, fin, fun _ _ _ _ _ z => z.elim, fun _ _ _ _ _ z => z.elim⟩⟩
end
end DL

set_option Elab.async false
set_option linter.all false
set_option maxRecDepth 100000
set_option maxHeartbeats 1000000
namespace DL
open PySem PySem.Spec PyProof.Rows L2

/-- the law's promise: of a script of at most 63 ints it tells True -/
def spLaw : DSp := fun ws _ R => ∃ ns : List Int, ws = [.s ns] ∧ ns.length ≤ 63 ∧ ∀ μ', R (.d (.bool true)) μ'
theorem spLaw_len : ∀ ws μ R, spLaw ws μ R → ws.length = 1 := fun ws μ R ⟨ns, e, _⟩ => by rw [e]; rfl

/-- the heap that tells of the script alone -/
def onlyS (K : PySem.W.Frag) (a : Addr) (o : Obj) (ns : List Int) : Hp := fun b => if b = a ∧ K.lookup a = none then some (.frz o (.lst (ns.map V.int))) else none

theorem law_callG {P : Program} {w : World} {K : PySem.W.Frag} {mg mb : Str → Option Value} {k : Nat} {fa a : Addr} {fd : FuncData} {x : Str} {s1 : Shared} {vs : List Value} {ns : List Int}
    (KX : K.In s1.heap) (hns : s1.heap.Ns mainGlobals mg) (hb : s1.heap.Ns builtinsNs mb) (hbb : ∀ x : Str, x ≠ "__name__" → mb x = bootBuiltins x) (hlim : s1.heap.NoLimit) (hg : s1.gens = #[])
    (ha : s1.heap.get? a = some { cls := .type "list", data := .seq vs.toArray }) (hi : IntsAre vs ns) (hl : ns.length ≤ 63) (hr : Room k callerA)
    (hF : ∀ base : Heap, K.In base → base.Ns mainGlobals mg → FG P w K mg base CX0 k fa fd [x] (lSp K spLaw)) (hbind : ∀ (s : Shared) (u : Value), BindsTo s fd ⟨[u], []⟩ [(x, u)]) :
    codeAny (model P w) callerA (.call (.ref fa) ⟨[.ref a], []⟩) (fun r s' => r = .ok (.ret (.bool true)) ∧ OldK s1.heap s'.heap ∧ s'.os = s1.os ∧ AllBare s'.gens) s1 := by
  have rv : Vals (ns.map V.int) vs := vals_ints hi
  have lv := hi.length
  have hsz : ns.length ≤ sizeLine := Nat.le_trans hl (by decide)
  generalize eo : ({ cls := .type "list", data := .seq vs.toArray } : Obj) = ob at ha
  let H : Hp := onlyS K a ob ns
  have Ht : ∀ b, H b ≠ none → b = a ∧ K.lookup a = none ∧ H b = some (.frz ob (.lst (ns.map V.int))) := by
    intro b hb
    by_cases z : b = a ∧ K.lookup a = none
    · exact ⟨z.1, z.2, if_pos z⟩
    · exact absurd (if_neg z) hb
  have Hseq : SqL K H a (ns.map V.int) := by
    cases hk : K.lookup a with
    | none => exact .inl (.inr ⟨ob, if_pos ⟨rfl, hk⟩⟩)
    | some o =>
      have e := KX a o hk
      rw [ha] at e
      have e' : ob = o := Option.some.inj e
      subst e'
      rw [← eo] at hk
      exact .inr ⟨_, vs.toArray, _, hk, rfl, rfl, rfl, by rw [List.size_toArray, lv]; exact hsz, by simpa using rv⟩
  have Hok : HOk P w H s1.heap := by
    intro b u e
    obtain ⟨rfl, hk, e2⟩ := Ht b (by rw [e]; simp)
    rw [e] at e2
    cases e2
    refine ⟨ha, by rw [List.length_map]; exact hsz, vs, 0, rv, ?_⟩
    rw [ha, ← eo]
  have keepB : ∀ {b : Addr} {o : Obj}, s1.heap.get? b = some o → H b = none → (hidT s1.heap H).get? b = some o := fun e n => hidT_get e n
  have noDict : ∀ {b : Addr} {o : Obj} {es : Array DictEntry} {ep : Nat}, s1.heap.get? b = some o → o.data = .dict es ep → H b = none := by
    intro b o es ep e d
    cases q : H b with
    | none => rfl
    | some u =>
      obtain ⟨rfl, _, _⟩ := Ht b (by rw [q]; simp)
      rw [ha] at e
      have e' := Option.some.inj e
      rw [← e', ← eo] at d
      have d' : Data.seq vs.toArray _ = Data.dict es ep := d
      cases d'
  have nsB : ∀ {b : Addr} {m : Str → Option Value}, s1.heap.Ns b m → (hidT s1.heap H).Ns b m := fun {b m} ⟨o, es, ep, e, d, r⟩ => ⟨o, es, ep, keepB e (noDict e d), d, r⟩
  have KB : K.In (hidT s1.heap H) := by
    intro b o e
    refine keepB (KX b o e) ?_
    cases q : H b with
    | none => rfl
    | some u =>
      obtain ⟨rfl, hk, _⟩ := Ht b (by rw [q]; simp)
      rw [hk] at e
      cases e
  have hM : Mod K mg (hidT s1.heap H) := ⟨KB, nsB hns, ⟨mb, nsB hb, hbb⟩, let ⟨mc, h1, h2⟩ := hlim; ⟨mc, nsB h1, h2⟩⟩
  have nof : ∀ b, b ∉ frs ([] : List Env) := fun b z => by simp [frs] at z
  have e0 : Env0 P w K mg (hidT s1.heap H) callerA [] s1 H := ⟨rfl, hM, fun b o e => of_hidT e, Nat.le_of_eq (hidT_size _ _), trivial, fun b hb => absurd hb (nof b), Hok, .of_eq hg⟩
  have cn : Cn K H H (fun _ => none) (fun _ => none) := ⟨Same.refl _, fun b o e => (by cases e), fun b m e => (by cases e), fun _ _ => rfl⟩
  have run := (hF _ KB (nsB hns)).go callerA [] s1 H ⟨[.ref a], []⟩ [.ref a] [.ref a] (fun v _ => v = .bl true) E0 hr rfl e0 (hbind s1 (.ref a)) (.cons rfl .nil)
    ⟨H, fun _ => none, fun _ => none, [.s ns], fun w _ => w = .d (.bool true), cn, .cons ⟨a, rfl, Hseq⟩ .nil, ⟨ns, rfl, hl, fun _ => rfl⟩, fun w' μ' F' H' v e _ _ r => by subst e; cases r; rfl⟩
  refine codeAny_mono run ?_
  intro r s' h
  match r, h with
  | .error e, h => exact False.elim h
  | .ok (.ret u), ⟨v, H', os, bare, un, hok', r', q⟩ =>
    have q' : v = .bl true := q
    subst q'
    obtain rfl : u = Value.bool true := r'
    refine ⟨rfl, OldK.of_keep ?_, os, bare⟩
    intro b o e
    cases q : H b with
    | none => exact un.keep b o e q (nof b) (by simp)
    | some u =>
      obtain ⟨rfl, _, z⟩ := Ht b (by rw [q]; simp)
      have z2 := un.frzs b ob _ z
      obtain ⟨e2, _⟩ := hok' b _ z2
      rw [ha] at e
      rw [← e]
      exact e2

/-- what k_head leaves, from the law's promise -/
theorem walk_ofG {l : PySem.W.OpenLaw} {k : Nat} {q : Program} {loose : List Str} {XP : (Str → Option Value) → Heap → Prop} {YP : World → Heap → Prop} {d : DefRec} {K : Params → PySem.W.Frag} {x : Str}
    (hn : l.most = some 63) (hdf : d.params.defaults = []) (hr : Room k callerA) (hY : ∀ (w : World) (h : Heap), YP w h → (K w.params).In h)
    (F : ∀ (w : World) (mg : Str → Option Value) (fa : Addr) (h : Heap), (K w.params).In h → h.Ns mainGlobals mg → mg d.name = some (.ref fa) →
      ∃ fd : FuncData, (∀ (s : Shared) (u : Value), BindsTo s fd ⟨[u], []⟩ [(x, u)]) ∧ ∀ base : Heap, (K w.params).In base → base.Ns mainGlobals mg → FG l.prog w (K w.params) mg base CX0 k fa fd [x] (lSp (K w.params) spLaw)) :
    PySem.W.WalkO q loose XP YP l.row.toRowW d [] (fun f vs => PySem.call f vs) := by
  refine Att.attach_call hn hdf ?_
  intro w s0 s1 mg mb fa o pm cd doc a vs ns G Y ho hd hcd hmg hobj hints hlen hg
  have KX := hY w _ Y
  obtain ⟨fd, hb, hF⟩ := F w mg fa _ KX G.T.g hmg
  exact law_callG KX G.T.g G.T.b G.T.builtins G.T.nolimit hg hobj hints hlen hr hF hb
end DL

set_option Elab.async false
set_option linter.all false
set_option maxRecDepth 100000
set_option maxHeartbeats 1000000
namespace DL
open PySem PySem.Spec PyProof.Rows L2

/-! ### an object that a name holds becomes data, ahead of a row -/
section
variable {X : Cx}
def tFrz (i : Nat) (t : DTS) : DTS := fun D ρ μ => match ρ[i]? with
  | some (some (.v (.ref a))) => match μ a with
    | some (.lst ws) => asD ws fun ds => t D (ρ.set i (some (.d (.list ds)))) (mdel μ a)
    | _ => False
  | _ => False
theorem Rs.re {K : PySem.W.Frag} {F : Hp} {σ : L2.St} {ρ : Sl} (h : Rs K F σ ρ) {i : Nat} {v : V} {w : W} (e : σ[i]? = some (some v)) (r : Rw K F v w) : Rs K F σ (ρ.set i (some w)) := by
  refine ⟨by rw [List.length_set]; exact h.len, fun j u q => ?_⟩
  rw [List.getElem?_set] at q
  by_cases z : i = j
  · subst z
    rw [if_pos rfl] at q
    split at q
    · cases q
      exact ⟨v, e, r⟩
    · cases q
  · rw [if_neg z] at q
    exact h.get j u q
theorem dss_frz (i : Nat) {sts : List Stmt} {t : DTS} (h : DSs X sts t) : DSs X sts (tFrz i t) := ⟨PSs_mono h.pss fun D σ H ⟨F, ρ, μ, G, R, c, rs, h, fin⟩ => by
  unfold tFrz at h
  split at h
  · rename_i a e
    split at h
    · rename_i ws ea
      obtain ⟨v, ev, rv⟩ := rs.get i _ e
      cases (show v = .ref a from rv)
      obtain ⟨_, _, o, ho, vs, rfl, k⟩ := c.mu a _ ea
      obtain ⟨s1, c1⟩ := c.freeze ea ho
      obtain ⟨ds, kd, h⟩ := asD_ok (k.mono s1) h
      exact lS_go c1 ((rs.mono s1).re (w := .d (.list ds)) ev (Rp.lst upd_same kd)) h (fin.mono s1)
    · exact h.elim
  · exact h.elim⟩

/-! ### small dicts -/
def tDict0 : DTE := fun _ μ R => R (.d (.dict [])) μ
theorem de_dict0 {pos : Pos} : DE X (.Dict [] [] pos) tDict0 := ⟨PE_mono pe_dnewK fun σ H Q ⟨F, ρ, μ, G, R, c, rs, h, fin⟩ p hp => by
  obtain ⟨s, c'⟩ := c.lay hp (.dK [])
  exact fin _ _ _ _ _ h s c' (.dct upd_same .nil)⟩
def tDict1 (x : Str) (i : Int) : DTE := fun _ μ R => R (.d (.dict [(.str x, .int i)])) μ
theorem de_dict1 {x : Str} {i : Int} {k v : Expr} {pos : Pos} (hk : PE X k (tC (.str x))) (hv : PE X v (tC (.int i))) : DE X (.Dict [some k] [v] pos) (tDict1 x i) :=
  ⟨PE_mono (pe_disp (pps_cons hk hv pps_nil) rfl rfl (fun z => by cases z) (by simp)) fun σ H Q ⟨F, ρ, μ, G, R, c, rs, h, fin⟩ p hp => by
    refine ⟨upd_same, [(.inr x, .int i)], rfl, by simp, ?_⟩
    rw [upd_upd]
    obtain ⟨s, c'⟩ := c.lay hp (.dK (mergeK [] [(.inr x, .int i)]))
    exact fin _ _ _ _ _ h s c' (.dct upd_same (.cons (.str x) (.int i) .nil))⟩
end

/-! ### a dict in a tuple of texts: never -/
theorem str_declines_dict (b : Str) (u : Tok) (l : Addr) (es : Array DictEntry) (n : Nat) (dd : Option Addr) (sl : Array (Option Value)) :
    Meets (Builtin.«str.__eq__» ⟨[.str b u, .ref l], []⟩) (fun _ R s => s.heap.get? l = some { cls := .type "dict", dict := dd, data := .dict es n, slots := sl } ∧ R (.ok (.ret .notImplemented)) s) := by
  refine .of_wp fun prog w A R s h => ?_
  obtain ⟨hp, g, d, tk, os⟩ := s
  obtain ⟨hl, h⟩ := h
  wp_walk using wpAny_loadPart' hl, wpAny_load hl
  exact ⟨_, rfl, h⟩
theorem dict_declines_str (b : Str) (u : Tok) (l : Addr) (es : Array DictEntry) (n : Nat) (dd : Option Addr) (sl : Array (Option Value)) :
    Meets (Builtin.«dict.__eq__» ⟨[.ref l, .str b u], []⟩) (fun _ R s => s.heap.get? l = some { cls := .type "dict", dict := dd, data := .dict es n, slots := sl } ∧ R (.ok (.ret .notImplemented)) s) := by
  refine .of_wp fun prog w A R s h => ?_
  obtain ⟨hp, g, d, tk, os⟩ := s
  obtain ⟨hl, h⟩ := h
  have f1 := F.sub_str_dict
  wp_walk using wpAny_loadPart' hl, wpAny_load hl
  exact ⟨_, rfl, h⟩
section
variable {A : Around} {s : Shared}
theorem rc_str_dict {l : Addr} {es : Array DictEntry} {n : Nat} {dd : Option Addr} {sl : Array (Option Value)} (b : Str) (u : Tok) (ho : s.heap.get? l = some { cls := .type "dict", dict := dd, data := .dict es n, slots := sl }) (hu : A.units < cLine) : SeqAt.RcAt A s (.str b u) (.ref l) false := by
  intro prog w E Q h
  refine SeqAt.rc_eq_decline_or (k := false) (typeIs_str s b u) ⟨_, ho, rfl⟩ (by decide) F.sub_dict_str F.slot_str_eq F.slot_dict_eq_refl ?_ ?_ ?_ (.inr hu) h
  · intro _ hq
    exact call_meets F.slot_str_eq (typeIs_str s b u) F.entry_str_eq (F.args_str_eq_2 _ _) (str_declines_dict b u l es n dd sl) ⟨ho, hq⟩
  · intro _ hq
    exact call_meets F.slot_dict_eq_refl ⟨_, ho, rfl⟩ F.entry_dict_eq (F.args_dict_eq_2 _ _) (dict_declines_str b u l es n dd sl) ⟨ho, hq⟩
  · intro _ hq
    exact wpAny_of_eq (rfl : isSame (.str b u) (.ref l) = pure false) hq
theorem eq_str_dict {l : Addr} {es : Array DictEntry} {n : Nat} {dd : Option Addr} {sl : Array (Option Value)} (b : Str) (u : Tok) (ho : s.heap.get? l = some { cls := .type "dict", dict := dd, data := .dict es n, slots := sl }) (hu : A.units < cLine) : SeqAt.EqAt A s (.str b u) (.ref l) false := by
  intro prog w E Q h
  unfold eqBool
  apply wpAny_holding
  refine wpAny_ite_split (fun z => ?_) (fun _ => ?_)
  · exact absurd (eq_of_beq z) nofun
  · exact wpAny_bind (rc_str_dict b u ho hu prog w E _ (wpAny_truthy_bool h))
end
section
variable {X : Cx}
def rInDict (K : PySem.W.Frag) (neg : Bool) : R2 := fun x y H Q => ∃ F a kvs ds ys, Same F H ∧ x = .ref a ∧ F a = some (.dK kvs) ∧ Rp K F y (.tuple ds) ∧ strsD ds = some ys ∧ Q (.bl neg) H
theorem strs_vals {K : PySem.W.Frag} {F : Hp} {vs : List V} {ds : List PyData} {ys : List Str} {us : List Value} (k : RpAll K F vs ds) (e : strsD ds = some ys) (r : Vals vs us) : ∀ u ∈ us, ∃ y t, u = Value.str y t := by
  have ev := strsD_rp k e
  subst ev
  clear k e
  induction ys generalizing us with
  | nil => cases r; intro u hu; cases hu
  | cons y ys ih =>
    cases r with
    | cons r t =>
      intro u hu
      rcases List.mem_cons.mp hu with z | z
      · subst z
        obtain ⟨tk, rfl⟩ := r
        exact ⟨_, _, rfl⟩
      · exact ih t u z
theorem dict_raw {P : Program} {w : World} {H : Hp} {h : Heap} {a : Addr} {kvs : List (Key × V)} (x : ObjOk P w H h a (.dK kvs)) : ∃ dd es n sl, h.get? a = some { cls := .type "dict", dict := dd, data := .dict es n, slots := sl } := by
  obtain ⟨_, _, vs, _, ⟨cls, dd, data, sl⟩, es, ep, ho, ex, hd, _⟩ := x
  have hc := ex.1
  simp only at hc hd
  subst hc hd
  exact ⟨_, _, _, _, ho⟩
theorem in_dict_core (hu : X.A.units + 100 < cLine) {pins : List (Addr × Obj)} {σ : L2.St} {H : Hp} {s : Shared} {F : Hp} {a : Addr} {kvs : List (Key × V)} {ds : List PyData} {ys : List Str} {y : V} {u : Value} (I : Inv X pins σ H s) (sm : Same F H) (ea : F a = some (.dK kvs)) (ry : Rp X.K F y (.tuple ds)) (es : strsD ds = some ys) (r : RelV y u) :
    ∃ l items, u = .ref l ∧ s.heap.IsTuple l items ∧ ∀ z, z ∈ items → SeqAt.EqAt X.A.in1 s z (.ref a) false := by
  obtain ⟨dd, ee, n, sl, ho⟩ := dict_raw (I.hok a _ (sm _ _ ea))
  cases ry with
  | tup e k =>
    cases r
    obtain ⟨its, rv, ⟨o, h1, h2, h3⟩, _⟩ := I.tuple (SqT_mono sm e)
    refine ⟨_, _, rfl, ⟨o, h1, h2, h3⟩, fun z hz => ?_⟩
    obtain ⟨y, t, rfl⟩ := strs_vals k es rv z (by simpa using hz)
    exact eq_str_dict y t ho (by show X.A.units + 1 < cLine; omega)
theorem op_inDict (hu : X.A.units + 100 < cLine) : OpR X (compareOp .In) (rInDict X.K false) := by
  intro pins s σ H x y v u Q I rx ry ⟨F, a, kvs, ds, ys, sm, ex, ea, ry', es, q⟩
  subst ex
  cases rx
  obtain ⟨l, items, rfl, hl, he⟩ := in_dict_core hu I sm ea ry' es ry
  refine SeqAt.in_tupleAt (fun _ => false) hl he ?_
  have e : (items.any fun _ => false) = false := by simp
  first
    | (rw [e]; exact ⟨.bl _, H, I, rfl, q⟩)
    | (simpa using (⟨.bl _, H, I, rfl, q⟩ : EP X pins σ Q (.bool false) s))

def inA : D2 := fun x y μ R => match x, y with
  | .d (.dict _), .d (.tuple ds) => (strsD ds).isSome = true ∧ R (.d (.bool false)) μ
  | x, y => inD false x y μ R
def rInA (K : PySem.W.Frag) : R2 := fun x y H Q => rInP K false x y H Q ∨ rInDict K false x y H Q
theorem op_inA (hu : X.A.units + 100 < cLine) : OpR X (compareOp .In) (rInA X.K) := OpR.or (op_inP hu) (op_inDict hu)
theorem l_inA {K : PySem.W.Frag} : Lift2 K (rInA K) inA := by
  intro F H G μ x y wx wy R Q c rx ry h fin
  unfold inA at h
  split at h
  · rename_i kv ds
    cases rx with
    | dct e k =>
      cases q : strsD ds with
      | none => rw [q] at h; cases h.1
      | some ys => exact .inr ⟨F, _, _, ds, ys, c.sub, rfl, e, ry, q, fin.flat c h.2 (.bl _)⟩
  · exact .inl (l_in c rx ry h fin)
end

/-! ### what the top has -/
structure Const (K : PySem.W.Frag) (mg : Str → Option Value) (x : Str) (w : W) : Prop where
  ex : ∃ (v : V) (u : Value), mg x = some u ∧ RelV v u ∧ ∀ F, Rw K F v w
theorem Const.de {X : Cx} {x : Str} {w : W} {pos : Pos} (c : Const X.K X.mg x w) (hg : Gl X x) (hd : (x == ("__debug__" : Str)) = false := by decide) : DE X (.Name x pos) (tK w) := by
  obtain ⟨v, u, h1, h2, h3⟩ := c.ex
  exact de_k (pe_glob hg h1 h2 hd) h3
theorem Const.str {K : PySem.W.Frag} {mg : Str → Option Value} {x s : Str} {t : Tok} (h : mg x = some (.str s t)) : Const K mg x (.d (.str s)) := ⟨.str s, _, h, ⟨t, rfl⟩, fun _ => Rp.str s⟩
theorem Const.int {K : PySem.W.Frag} {mg : Str → Option Value} {x : Str} {i : Int} {t : Tok} (h : mg x = some (.int i t)) : Const K mg x (.d (.int i)) := ⟨.int i, _, h, ⟨t, rfl⟩, fun _ => Rp.int i⟩
theorem Const.strs {K : PySem.W.Frag} {mg : Str → Option Value} {x : Str} {a : Addr} {dd : Option Addr} {us : List Value} {n : Nat} {sl : Array (Option Value)} {ss : List Str} (h : mg x = some (.ref a)) (l : K.lookup a = some ⟨.type "tuple", dd, .seq us.toArray n, sl⟩) (hz : us.length ≤ sizeLine) (r : Vals (ss.map V.str) us) :
    Const K mg x (.d (.tuple (ss.map .str))) := ⟨.ref a, _, h, rfl, fun F => Rp.tup (.inr ⟨_, us.toArray, n, l, rfl, rfl, by simpa using hz, by simpa using r⟩) (strs_rp ss)⟩
end DL

set_option Elab.async false
set_option linter.all false
set_option maxRecDepth 100000
namespace DL
open PySem PySem.Spec PyProof.Rows L2
section
variable {X : Cx}
/-- a comparison as a test -/
def tTst (t : DTE) : DTT := fun ρ μ R => t ρ μ fun w μ1 => match w with
  | .d (.bool k) => R k μ1
  | _ => False
theorem dt_cmp {a b : Expr} {op : CmpOp} {pos : Pos} {r : R2} {rD : D2} {ta tb : DTE} (ho : OpR X (compareOp op) r) (l : Lift2 X.K r rD) (ha : DE X a ta) (hb : DE X b tb) (nm : behindInMarks op b = false) : DT X (.Compare a [op] [b] pos) (tTst (tOp2 rD ta tb)) :=
  ⟨PT_mono (pt_cmpR ho ha.pe hb.pe nm) fun σ H Q ⟨F, ρ, μ, G, R, c, rs, h, fin⟩ =>
    lE_go c rs h fun wx μ1 F1 H1 x r1 s1 c1 q1 => lE_go c1 (rs.mono s1) r1 fun wy μ2 F2 H2 y r2 s2 c2 q2 => l c2 (q1.mono s2) q2 r2 fun wz μ3 F3 H3 z r3 s3 c3 q3 => by
      split at r3
      · rename_i k
        cases (show Rp X.K F3 z (.bool k) from q3)
        exact ⟨k, rfl, fin _ _ _ _ r3 ((s1.trans s2).trans s3) c3⟩
      · exact r3.elim⟩
theorem dt_chain {a b e : Expr} {op op' : CmpOp} {pos : Pos} {r r' : R2} {rD rD' : D2} {ta tb tc : DTE} (ho : OpR X (compareOp op) r) (ho' : OpR X (compareOp op') r') (l : Lift2 X.K r rD) (l' : Lift2 X.K r' rD')
    (ha : DE X a ta) (hb : DE X b tb) (hc : DE X e tc) (nm : lastMarks [op, op'] [b, e] = false) : DT X (.Compare a [op, op'] [b, e] pos) (tTst (tChainD rD rD' ta tb tc)) :=
  ⟨PT_mono (pt_chain ho ho' ha.pe hb.pe hc.pe nm) fun σ H Q ⟨F, ρ, μ, G, R, c, rs, h, fin⟩ =>
    lE_go c rs h fun wx μ1 F1 H1 x r1 s1 c1 q1 => lE_go c1 (rs.mono s1) r1 fun wy μ2 F2 H2 y r2 s2 c2 q2 => l c2 (q1.mono s2) q2 r2 fun wz μ3 F3 H3 z r3 s3 c3 q3 => by
      split at r3
      · rename_i k
        cases (show Rp X.K F3 z (.bool k) from q3)
        refine ⟨k, rfl, ?_⟩
        have s13 := (s1.trans s2).trans s3
        have last : ∀ (wu : W) (μ4 : M) (F4 H4 : Hp) (u : V), (match wu with | .d (.bool k) => R k μ4 | _ => False) → Same F F4 → Cn X.K F4 H4 μ4 G → Rw X.K F4 u wu → ∃ k, u = .bl k ∧ Q k H4 := by
          intro wu μ4 F4 H4 u r4 s4 c4 q4
          split at r4
          · rename_i k4
            cases (show Rp X.K F4 u (.bool k4) from q4)
            exact ⟨k4, rfl, fin _ _ _ _ r4 s4 c4⟩
          · exact r4.elim
        cases k with
        | true =>
          rw [if_pos rfl] at r3 ⊢
          exact lE_go c3 (rs.mono s13) r3 fun wu μ4 F4 H4 u r4 s4 c4 q4 => l' c4 (q2.mono (s3.trans s4)) q4 r4 fun wv μ5 F5 H5 v r5 s5 c5 q5 => last wv μ5 F5 H5 v r5 ((s13.trans s4).trans s5) c5 q5
        | false =>
          rw [if_neg Bool.false_ne_true] at r3 ⊢
          exact last (.d (.bool false)) _ _ _ _ r3 s13 c3 (Rp.bl false)
      · exact r3.elim⟩
end
section
variable {x y w : W} {μ : M} {R : DQ} {i j : Int} {a b : Str} {xs ys : List PyData} {d e : PyData} {ns : List Int} {p : Addr} {ws : List W} {B : Bool → Prop} {neg : Bool} {lo hi : Option Int}
theorem q_addI : addD (.d (.int i)) (.d (.int j)) μ R = R (.d (.int (i + j))) μ := rfl
theorem q_addS : addD (.d (.str a)) (.d (.str b)) μ R = (a.length + b.length ≤ sizeLine ∧ R (.d (.str (a ++ b))) μ) := rfl
theorem q_addL : addD (.d (.list xs)) (.d (.list ys)) μ R = (xs.length + ys.length ≤ sizeLine ∧ R (.d (.list (xs ++ ys))) μ) := rfl
theorem q_addT : addD (.d (.tuple xs)) (.d (.tuple ys)) μ R = (xs.length + ys.length ≤ sizeLine ∧ R (.d (.tuple (xs ++ ys))) μ) := rfl
theorem q_sub : subD (.d (.int i)) (.d (.int j)) μ R = R (.d (.int (i - j))) μ := rfl
theorem q_mulI : mulD (.d (.int i)) (.d (.int j)) μ R = ((-2 ^ 64 < i ∧ i < 2 ^ 64 ∨ -2 ^ 64 < j ∧ j < 2 ^ 64) ∧ R (.d (.int (i * j))) μ) := rfl
theorem q_mulL : mulD (.d (.list xs)) (.d (.int j)) μ R = (-2 ^ 63 ≤ j ∧ j < 2 ^ 63 ∧ xs.length * j.toNat ≤ sizeLine ∧ R (.d (.list (List.replicate j.toNat xs).flatten)) μ) := rfl
theorem q_mulT : mulD (.d (.tuple xs)) (.d (.int j)) μ R = (xs ≠ [] ∧ 2 ≤ j ∧ j ≤ 1000 ∧ xs.length ≤ 1000 ∧ R (.d (.tuple (List.replicate j.toNat xs).flatten)) μ) := rfl
theorem q_num {C : Int → Int → Prop} {f : Int → Int → Int} : numD C f (.d (.int i)) (.d (.int j)) μ R = (C i j ∧ R (.d (.int (f i j))) μ) := rfl
theorem q_neg : negD (.d (.int i)) μ R = R (.d (.int (-i))) μ := rfl
theorem q_cmpI {fi fs} : cmpD fi fs (.d (.int i)) (.d (.int j)) μ R = R (.d (.bool (fi i j))) μ := rfl
theorem q_cmpS {fi fs} : cmpD fi fs (.d (.str a)) (.d (.str b)) μ R = R (.d (.bool (fs a b))) μ := rfl
theorem q_eq : eqD (.d d) (.d e) μ R = (d.plain = true ∧ e.plain = true ∧ min d.depth e.depth ≤ 64 ∧ R (.d (.bool (PyData.eqv d e))) μ) := rfl
theorem q_ne : neD (.d d) (.d e) μ R = (d.plain = true ∧ e.plain = true ∧ min d.depth e.depth ≤ 64 ∧ R (.d (.bool (!PyData.eqv d e))) μ) := rfl
theorem q_isN : isD neg (.d d) (.d .none) μ R = R (.d (.bool (neg ^^ isNon d))) μ := by cases d <;> rfl
theorem q_isB {k l : Bool} : isD neg (.d (.bool k)) (.d (.bool l)) μ R = R (.d (.bool (neg ^^ decide (k = l)))) μ := rfl
theorem q_inS : inD neg (.d (.str a)) (.d (.str b)) μ R = ∃ c, a = ⟨#[c]⟩ ∧ R (.d (.bool (neg ^^ decide (c ∈ b.cps.toList)))) μ := rfl
theorem q_inSc {c : Nat} : inD neg (.d (.str ⟨#[c]⟩)) (.d (.str b)) μ R = R (.d (.bool (neg ^^ decide (c ∈ b.cps.toList)))) μ := by
  rw [q_inS]
  exact propext ⟨fun ⟨z, e, h⟩ => by cases e; exact h, fun h => ⟨c, rfl, h⟩⟩
theorem q_inT : inD neg (.d d) (.d (.tuple xs)) μ R = (d.plain = true ∧ PyData.plainAll xs = true ∧ min (PyData.depthAll xs) d.depth ≤ 64 ∧ R (.d (.bool (neg ^^ xs.any fun z => PyData.eqv z d))) μ) := by cases d <;> rfl
theorem q_inL : inD neg (.d d) (.d (.list xs)) μ R = (d.plain = true ∧ PyData.plainAll xs = true ∧ min (PyData.depthAll xs) d.depth ≤ 64 ∧ R (.d (.bool (neg ^^ xs.any fun z => PyData.eqv z d))) μ) := by cases d <;> rfl
theorem q_inAS : inA (.d (.str a)) y μ R = inD false (.d (.str a)) y μ R := by cases y with | d z => cases z <;> rfl | s _ => rfl | v _ => rfl
theorem q_inAN : inA (.d .none) y μ R = inD false (.d .none) y μ R := by cases y with | d z => cases z <;> rfl | s _ => rfl | v _ => rfl
theorem q_inAB {k : Bool} : inA (.d (.bool k)) y μ R = inD false (.d (.bool k)) y μ R := by cases y with | d z => cases z <;> rfl | s _ => rfl | v _ => rfl
theorem q_inAI : inA (.d (.int i)) y μ R = inD false (.d (.int i)) y μ R := by cases y with | d z => cases z <;> rfl | s _ => rfl | v _ => rfl
theorem q_inAL : inA (.d (.list xs)) y μ R = inD false (.d (.list xs)) y μ R := by cases y with | d z => cases z <;> rfl | s _ => rfl | v _ => rfl
theorem q_inAT : inA (.d (.tuple xs)) y μ R = inD false (.d (.tuple xs)) y μ R := by cases y with | d z => cases z <;> rfl | s _ => rfl | v _ => rfl
theorem q_inAD {kv} : inA (.d (.dict kv)) (.d (.tuple ys)) μ R = ((strsD ys).isSome = true ∧ R (.d (.bool false)) μ) := rfl
theorem q_ixL : ixD (.d (.list xs)) (.d (.int i)) μ R = onS (atI xs i) fun d => R (.d d) μ := rfl
theorem q_ixT : ixD (.d (.tuple xs)) (.d (.int i)) μ R = onS (atI xs i) fun d => R (.d d) μ := rfl
theorem q_ixS : ixD (.d (.str a)) (.d (.int i)) μ R = (a.length ≤ sizeLine ∧ onS (atI a.cps.toList i) fun c => R (.d (.str ⟨#[c]⟩)) μ) := rfl
theorem q_ixM : ixD (.v (.ref p)) (.d (.int i)) μ R = onS (μ p) fun m => match m with
    | .lst ws => onS (atI ws i) fun w => R w μ
    | .tup ws => onS (atI ws i) fun w => R w μ
    | _ => False := rfl
theorem q_onS {α : Type} {z : α} {Q : α → Prop} : onS (some z) Q = Q z := rfl
theorem q_slL : slD (.d (.list xs)) lo hi μ R = R (.d (.list (cutG xs lo hi))) μ := rfl
theorem q_slT : slD (.d (.tuple xs)) lo hi μ R = R (.d (.tuple (cutG xs lo hi))) μ := rfl
theorem q_slS : slD (.d (.str a)) lo hi μ R = (a.length ≤ sizeLine ∧ R (.d (.str (cutS a lo hi))) μ) := rfl
theorem q_slX : slD (.s ns) lo hi μ R = R (.d (.list ((cutG ns lo hi).map .int))) μ := rfl
theorem q_truN : truD (.d .none) μ B = B false := rfl
theorem q_truB {k : Bool} : truD (.d (.bool k)) μ B = B k := rfl
theorem q_truI : truD (.d (.int i)) μ B = B (i != 0) := rfl
theorem q_truS : truD (.d (.str a)) μ B = (a.length ≤ sizeLine ∧ B ((a.length : Int) != 0)) := rfl
theorem q_truL : truD (.d (.list xs)) μ B = B (!xs.isEmpty) := rfl
theorem q_truT : truD (.d (.tuple xs)) μ B = B (!xs.isEmpty) := rfl
theorem q_lenS : lenD [.d (.str a)] μ R = (a.length ≤ sizeLine ∧ R (.d (.int a.length)) μ) := rfl
theorem q_lenL : lenD [.d (.list xs)] μ R = R (.d (.int xs.length)) μ := rfl
theorem q_lenT : lenD [.d (.tuple xs)] μ R = R (.d (.int xs.length)) μ := rfl
theorem q_lenX : lenD [.s ns] μ R = R (.d (.int ns.length)) μ := rfl
theorem q_int2 {f : Int → Int → Int} : int2D f [.d (.int i), .d (.int j)] μ R = R (.d (.int (f i j))) μ := rfl
theorem q_abs : absD [.d (.int i)] μ R = R (.d (.int (if i < 0 then -i else i))) μ := rfl
theorem q_all : allD [.d (.list xs)] μ R = onS (bools xs) fun bs => R (.d (.bool (bs.all id))) μ := rfl
theorem q_any : anyD [.d (.list xs)] μ R = onS (bools xs) fun bs => R (.d (.bool (bs.any id))) μ := rfl
theorem q_sum : sumD [.d (.list xs)] μ R = onS (intsD xs) fun bs => R (.d (.int bs.sum)) μ := rfl
theorem q_isi {T : String} : isiD [x, .v (.ty T)] μ R = onS (tyName x μ) fun n => onS (kitB n T) fun b => R (.d (.bool b)) μ := rfl
theorem q_reprL : reprD [.d (.list xs)] μ R = (PyData.plainAll xs = true ∧ PyData.showable (.list xs) = true ∧ PyData.depth (.list xs) ≤ 60 ∧ (PyData.shown (.list xs)).length ≤ sizeLine ∧ R (.d (.str (PyData.shown (.list xs)))) μ) := rfl
theorem q_reprT : reprD [.d (.tuple xs)] μ R = (PyData.plainAll xs = true ∧ PyData.showable (.tuple xs) = true ∧ PyData.depth (.tuple xs) ≤ 60 ∧ (PyData.shown (.tuple xs)).length ≤ sizeLine ∧ R (.d (.str (PyData.shown (.tuple xs)))) μ) := rfl
theorem q_apd : apdD (.v (.ref p)) [y] μ R = onS (μ p) fun m => match m with
    | .lst xs => xs.length < sizeLine ∧ R (.d .none) (mset μ p (.lst (xs ++ [y])))
    | _ => False := rfl
theorem q_ext : extD (.v (.ref p)) [.d (.list ys)] μ R = onS (μ p) fun m => match m with
    | .lst xs => xs.length + ys.length ≤ sizeLine ∧ R (.d .none) (mset μ p (.lst (xs ++ ys.map .d)))
    | _ => False := rfl
theorem q_joinL : joinD (.d (.str a)) [.d (.list xs)] μ R = onS (strsD xs) fun ys => (ys.map (·.length)).sum + ys.length * a.length ≤ 16777216 ∧ R (.d (.str (Txt.join a ys))) μ := rfl
theorem q_split : splitD (.d (.str a)) [.d (.str b)] μ R = ((b.length == 0) = false ∧ a.length + 2 ≤ sizeLine ∧ R (.d (.list ((Txt.split a b).map .str))) μ) := rfl
theorem q_str1 {f : Str → Str → PyData} : str1D f (.d (.str a)) [.d (.str b)] μ R = R (.d (f a b)) μ := rfl
theorem q_tyS : tyMD "str" (.d (.str a)) μ = True := by simp [tyMD]
theorem q_tyL : tyMD "list" (.d (.list xs)) μ = True := by simp [tyMD]
theorem q_tyM : tyMD "list" (.v (.ref p)) μ = onS (μ p) fun m => match m with
    | .lst _ => "list" = "list"
    | .dct _ => "list" = "dict"
    | _ => False := rfl
theorem q_asD {P : List PyData → Prop} : asD (xs.map .d) P = P xs := by unfold asD; rw [dats_map]
theorem q_asD0 {P : List PyData → Prop} : asD [] P = P [] := rfl
theorem q_asDc {P : List PyData → Prop} : asD (.d d :: ws) P = asD ws fun ds => P (d :: ds) := by
  unfold asD
  show (match (dats ws).map (d :: ·) with | some ds => P ds | none => False) = _
  cases dats ws <;> rfl
theorem q_at0 {α : Type} {u v t : α} : atI [u, v, t] 0 = some u := rfl
theorem q_at1 {α : Type} {u v t : α} : atI [u, v, t] 1 = some v := rfl
theorem q_at2 {α : Type} {u v t : α} : atI [u, v, t] 2 = some t := rfl
theorem q_n0 : ixN 3 0 = some 0 := rfl
theorem q_n1 : ixN 3 1 = some 1 := rfl
theorem q_n2 : ixN 3 2 = some 2 := rfl
theorem q_tyN : tyName (.d .none) μ = some "NoneType" := rfl
theorem q_tyB {k : Bool} : tyName (.d (.bool k)) μ = some "bool" := rfl
theorem q_tyI : tyName (.d (.int i)) μ = some "int" := rfl
theorem q_tyS2 : tyName (.d (.str a)) μ = some "str" := rfl
theorem q_tyL2 : tyName (.d (.list xs)) μ = some "list" := rfl
theorem q_tyT2 : tyName (.d (.tuple xs)) μ = some "tuple" := rfl
theorem q_tyD2 {kv} : tyName (.d (.dict kv)) μ = some "dict" := rfl
theorem k_ss : kitB "str" "str" = some true := by decide +kernel
theorem k_ns : kitB "NoneType" "str" = some false := by decide +kernel
theorem k_bs : kitB "bool" "str" = some false := by decide +kernel
theorem k_is_ : kitB "int" "str" = some false := by decide +kernel
theorem k_ls : kitB "list" "str" = some false := by decide +kernel
theorem k_ts : kitB "tuple" "str" = some false := by decide +kernel
theorem k_ds : kitB "dict" "str" = some false := by decide +kernel
theorem k_nt : kitB "NoneType" "tuple" = some false := by decide +kernel
theorem k_bt : kitB "bool" "tuple" = some false := by decide +kernel
theorem k_it : kitB "int" "tuple" = some false := by decide +kernel
theorem k_st : kitB "str" "tuple" = some false := by decide +kernel
theorem k_lt : kitB "list" "tuple" = some false := by decide +kernel
theorem k_tt : kitB "tuple" "tuple" = some true := by decide +kernel
theorem k_dt : kitB "dict" "tuple" = some false := by decide +kernel
theorem k_ni : kitB "NoneType" "int" = some false := by decide +kernel
theorem k_bi : kitB "bool" "int" = some true := by decide +kernel
theorem k_ii : kitB "int" "int" = some true := by decide +kernel
theorem k_si : kitB "str" "int" = some false := by decide +kernel
theorem k_li : kitB "list" "int" = some false := by decide +kernel
theorem k_ti : kitB "tuple" "int" = some false := by decide +kernel
theorem k_di : kitB "dict" "int" = some false := by decide +kernel
theorem k_nb : kitB "NoneType" "bool" = some false := by decide +kernel
theorem k_bb : kitB "bool" "bool" = some true := by decide +kernel
theorem k_ib : kitB "int" "bool" = some false := by decide +kernel
theorem k_sb : kitB "str" "bool" = some false := by decide +kernel
theorem k_lb : kitB "list" "bool" = some false := by decide +kernel
theorem k_tb : kitB "tuple" "bool" = some false := by decide +kernel
theorem k_db : kitB "dict" "bool" = some false := by decide +kernel
theorem mset_self {μ : M} {a : Addr} {m : MO} (h : μ a = some m) : mset μ a m = μ := by
  funext b
  unfold mset
  by_cases e : b = a
  · rw [if_pos e, e, h]
  · rw [if_neg e]
theorem mset_in {μ : M} {a p : Addr} {m n m' : MO} (h : a ≠ p) : mset (mset (mset μ a m) p n) a m' = mset (mset μ a m') p n := by
  funext b
  unfold mset
  by_cases e : b = a
  · subst e; rw [if_pos rfl, if_neg h, if_pos rfl]
  · rw [if_neg e, if_neg e]
    by_cases e2 : b = p
    · rw [if_pos e2, if_pos e2]
    · rw [if_neg e2, if_neg e2, if_neg e]
theorem startD_eq (n : Nat) (ws : List W) : startD n ws = ws.map some ++ List.replicate (n - ws.length) none := rfl

theorem q_bools {α : Type} {l : List α} {B : α → Bool} : bools (l.map fun c => .bool (B c)) = some (l.map B) := by
  rw [← bools_map (l.map B), List.map_map]; rfl
theorem q_strs {α : Type} {l : List α} {B : α → Str} : strsD (l.map fun c => .str (B c)) = some (l.map B) := by
  rw [← strsD_map (l.map B), List.map_map]; rfl
theorem q_ints {α : Type} {l : List α} {B : α → Int} : intsD (l.map fun c => .int (B c)) = some (l.map B) := by
  rw [← ints_map (l.map B), List.map_map]; rfl
theorem q_bools0 {bs : List Bool} : bools (bs.map .bool) = some bs := bools_map bs
theorem q_strs0 {bs : List Str} : strsD (bs.map .str) = some bs := strsD_map bs
theorem q_ints0 {bs : List Int} : intsD (bs.map .int) = some bs := ints_map bs
theorem compL_inv {k : Nat} {tt : DTT} {te : DTE} {ρ : Sl} {ws acc : List W} {μ : M} {C : List W → M → Prop} (I : List W → List W → M → Prop) (h0 : I ws acc μ)
    (hs : ∀ x r acc μ (Z : List W → M → Prop), I (x :: r) acc μ → (∀ acc' μ', I r acc' μ' → Z acc' μ') → tt (ρ.set k (some x)) μ fun b μ1 => if b = true then te (ρ.set k (some x)) μ1 fun y μ2 => acc.length < sizeLine ∧ Z (acc ++ [y]) μ2 else Z acc μ1)
    (he : ∀ acc μ, I [] acc μ → C acc μ) : compL k tt te ρ ws acc μ C := by
  induction ws generalizing acc μ with
  | nil => exact he _ _ h0
  | cons x r ih => exact hs x r acc μ (fun acc' μ' => compL k tt te ρ r acc' μ' C) h0 fun acc' μ' h => ih h
/-- a comprehension that changes nothing -/
theorem compL_map {α : Type} {k : Nat} {tt : DTT} {te : DTE} {ρ : Sl} {acc : List W} {μ : M} {C : List W → M → Prop} (g : α → W) (l : List α) (p : α → Bool) (f : α → PyData)
    (ht : ∀ x ∈ l, ∀ Z : Bool → M → Prop, Z (p x) μ → tt (ρ.set k (some (g x))) μ Z) (hf : ∀ x ∈ l, p x = true → ∀ Z : DQ, Z (.d (f x)) μ → te (ρ.set k (some (g x))) μ Z) (hz : acc.length + l.length ≤ sizeLine)
    (he : C (acc ++ ((l.filter p).map f).map .d) μ) : compL k tt te ρ (l.map g) acc μ C := by
  induction l generalizing acc with
  | nil => simpa [compL] using he
  | cons x r ih =>
    rw [List.map_cons]
    unfold compL
    apply ht x List.mem_cons_self
    have ht' := fun y hy => ht y (List.mem_cons_of_mem x hy)
    have hf' := fun y hy => hf y (List.mem_cons_of_mem x hy)
    rw [List.length_cons] at hz
    cases q : p x with
    | true =>
      rw [if_pos rfl]
      apply hf x List.mem_cons_self q
      rw [List.filter_cons_of_pos q] at he
      exact ⟨by omega, ih ht' hf' (by rw [List.length_append, List.length_singleton]; omega) (by simpa using he)⟩
    | false =>
      rw [if_neg Bool.false_ne_true]
      rw [List.filter_cons_of_neg (by rw [q]; exact Bool.false_ne_true)] at he
      exact ih ht' hf' (by omega) he
theorem filter_yes {α : Type} (l : List α) : l.filter (fun _ => true) = l := List.filter_eq_self.mpr fun _ _ => rfl
theorem loopD_inv {g : DTG} {tb : DTS} {D : DEnds} {ws : List W} {ρ : Sl} {μ : M} (I : List W → Sl → M → Prop) (h0 : I ws ρ μ)
    (hs : ∀ x r ρ μ (Z : Sl → M → Prop), I (x :: r) ρ μ → (∀ ρ' μ', I r ρ' μ' → Z ρ' μ') → g x ρ μ fun ρ1 μ1 => tb { nx := Z, rt := D.rt, bk := D.nx, ct := Z } ρ1 μ1)
    (he : ∀ ρ μ, I [] ρ μ → D.nx ρ μ) : loopD g tb ws D ρ μ := by
  induction ws generalizing ρ μ with
  | nil => exact he _ _ h0
  | cons x r ih => exact hs x r ρ μ (fun ρ' μ' => loopD g tb r D ρ' μ') h0 fun ρ' μ' h => ih h
theorem signs_eq (z : Str) : signs z = z.cps.toList.map fun c => .d (.str ⟨#[c]⟩) := rfl
end
end DL

set_option Elab.async false
set_option linter.all false
set_option maxRecDepth 100000
namespace DL
open PySem PySem.Spec PyProof.Rows L2
theorem sizeLit : sizeLine = 16777216 := by decide
theorem q_asDd {d : PyData} {P : List PyData → Prop} : asD [.d d] P = P [d] := rfl
theorem len_codes (s : Str) : s.length = s.cps.toList.length := by cases s; rfl
theorem codes_app (a b : Str) : (a ++ b).cps.toList = a.cps.toList ++ b.cps.toList := by
  show (Str.append a b).cps.toList = _
  simp [Str.append]
theorem len_app (a b : Str) : (a ++ b).length = a.length + b.length := strLen_append a b
theorem codes_cut (z : Str) (lo hi : Option Int) : (cutS z lo hi).cps.toList = cutG z.cps.toList lo hi := by
  unfold cutS cutG
  rw [len_codes]
theorem cutG_len {α : Type} (xs : List α) (lo hi : Option Int) : (cutG xs lo hi).length ≤ xs.length := by
  unfold cutG
  rw [List.length_take, List.length_drop]
  omega
theorem cutS_len (z : Str) (lo hi : Option Int) : (cutS z lo hi).length ≤ z.length := by
  rw [len_codes, codes_cut, len_codes z]
  exact cutG_len _ lo hi
theorem at_in {α : Type} {xs : List α} {i : Int} (h0 : 0 ≤ i) (h1 : i < (xs.length : Int)) : ∃ c, atI xs i = some c ∧ xs[i.toNat]? = some c ∧ c ∈ xs := by
  have hn : i.toNat < xs.length := by omega
  have e : xs[i.toNat]? = some xs[i.toNat] := List.getElem?_eq_getElem hn
  refine ⟨xs[i.toNat], ?_, e, List.getElem_mem hn⟩
  unfold atI ixN
  rw [if_pos h0, if_pos h1]
  exact e
theorem join_len (sep : Str) (ps : List Str) : (Txt.join sep ps).length = (ps.map (·.length)).sum + (ps.length - 1) * sep.length := size_glued sep ps
theorem sum_le {α : Type} (f : α → Nat) (k : Nat) : ∀ l : List α, (∀ x ∈ l, f x ≤ k) → (l.map f).sum ≤ l.length * k
  | [], _ => by simp
  | x :: l, h => by
    have h1 := h x List.mem_cons_self
    have h2 := sum_le f k l fun y hy => h y (List.mem_cons_of_mem x hy)
    rw [List.map_cons, List.sum_cons, List.length_cons, Nat.add_mul]
    omega
theorem rangeW_len (lo : Int) (n : Nat) : (rangeW lo n).length = n := by simp [rangeW]
theorem onS_at {α : Type} {xs : List α} {i : Int} {P : α → Prop} (h0 : 0 ≤ i) (h1 : i < (xs.length : Int)) (h : ∀ c ∈ xs, P c) : onS (atI xs i) P := by
  obtain ⟨c, e, _, hm⟩ := at_in h0 h1
  rw [e]
  exact h c hm
theorem plainAll_map {α : Type} (f : α → PyData) (h : ∀ x, (f x).plain = true) : ∀ l : List α, PyData.plainAll (l.map f) = true
  | [] => rfl
  | x :: l => by simp only [List.map_cons, PyData.plainAll, h x, plainAll_map f h l, Bool.and_self]
theorem plainAll_strs {α : Type} (f : α → Str) (l : List α) : PyData.plainAll (l.map fun c => .str (f c)) = true := plainAll_map _ (fun x => by simp [PyData.plain]) l
theorem plainAll_str (l : List Str) : PyData.plainAll (l.map .str) = true := plainAll_map _ (fun x => by simp [PyData.plain]) l
end DL

set_option Elab.async false
set_option linter.all false
set_option maxRecDepth 100000
set_option maxHeartbeats 1000000
namespace DL
open PySem PySem.Spec PyProof.Rows L2

/-! ### a written table of defs, read by a text; a def that a name holds, called -/
structure KTab (K : PySem.W.Frag) (w : World) (mg : Str → Option Value) (x : Str) (tab : Str → Option Addr) : Prop where
  ex : ∃ p, mg x = some (.ref p) ∧ ∀ z f, tab z = some f → KDct K w p z (.ref f)
section
variable {X : Cx}
def tTab (tab : Str → Option Addr) (tb : DTE) : DTE := fun ρ μ R => tb ρ μ fun w μ1 => match w with
  | .d (.str z) => onS (tab z) fun f => R (.v (.ref f)) μ1
  | _ => False
theorem de_tab {x : Str} {p pos : Pos} {b : Expr} {tb : DTE} {tab : Str → Option Addr} (c : KTab X.K X.w X.mg x tab) (hg : Gl X x) (hd : (x == ("__debug__" : Str)) = false) (hb : DE X b tb) (pl : PlainIx b) : DE X (.Subscript (.Name x p) b pos) (tTab tab tb) := by
  obtain ⟨a, hm, ht⟩ := c.ex
  refine ⟨PE_mono (pe_ix ix_kdict (pe_glob (v := .ref a) hg hm rfl hd) hb.pe pl) fun σ H Q ⟨F, ρ, μ, G, R, c, rs, h, fin⟩ => ?_⟩
  refine lE_go c rs h fun wb μ1 F1 H1 y r1 s1 c1 q1 => ?_
  split at r1
  · rename_i z
    cases (show Rp X.K F1 y (.str z) from q1)
    obtain ⟨f, ef, r⟩ := onS_ok r1
    exact ⟨a, z, .ref f, rfl, rfl, ht z f ef, fin _ _ _ _ _ r s1 c1 rfl⟩
  · exact r1.elim
structure HeldG (P : Program) (w : World) (K : PySem.W.Frag) (mg : Str → Option Value) (base : Heap) (k : Nat) (f : Addr) (ds : DSp) : Prop where
  ex : ∃ (fd : FuncData) (ps : List Str), FG P w K mg base CX0 k f fd ps (lSp K ds) ∧ PySem.W.keepIn K (.ref f) = true ∧ L2.Binds K fd ps []
def tCallL2 (i : Nat) (S : Addr → DSp → Prop) (t : DTA) : DTE := fun ρ μ R => ∃ f ds, ρ[i]? = some (some (.v (.ref f))) ∧ S f ds ∧ t ρ μ fun ws μ1 => ds ws μ1 R
theorem de_callL {k i : Nat} {x : Str} {p pos : Pos} {e : Expr} {es : List Expr} {t : DTA} {S : Addr → DSp → Prop} (hS : ∀ f ds, S f ds → HeldG X.prog X.w X.K X.mg X.base k f ds) (hr : Room k X.A) (hgd : X.A.guards = some []) (hN : X.N[i]? = some x) (hv : Vis X.env.scope x) (ha : DA X (e :: es) t)
    (hdb : (x == ("__debug__" : Str)) = false) (hcd : (x == ("__classdict__" : Str)) = false) (he : starEach (e :: es) X.env = (false, eval e X.env) :: starEach es X.env) (hpl : (backTo pos (starEach es X.env)).any (·.1) = false) :
    DE X (.Call (.Name x p) (e :: es) [] pos) (tCallL2 i S t) := by
  constructor
  constructor
  intro pins s σ H Q I ⟨F, ρ, μ, G, R, c, rs, ⟨f, ds, ei, hs, h⟩, fin⟩
  obtain ⟨fd, ps, FF, hk, hb⟩ := (hS f ds hs).ex
  obtain ⟨v, ev, rv⟩ := rs.get i _ ei
  cases (show v = .ref f from rv)
  apply wpAny_Call_Name_kw
  refine thn ((pe_var (pos := p) hN hv hdb hcd).run pins s σ H (fun v H1 => v = .ref f ∧ H1 = H) I ⟨.ref f, ev, rfl, rfl⟩) ?_
  rintro u s1 ⟨v, H1, I1, r1, rfl, rfl⟩
  cases r1
  refine PySem.W.callWith_K (h₀ := X.base) I.ok.mod.kin hk (thn (ha.pa.run pos pins s1 σ _ _ I1 (lA_go c rs h (Q := fun vs H2 => lSp X.K ds (vs ++ []) H2 Q E0) ?_)) ?_) he hpl
  · intro ws μ1 F1 H1 vs r1 s1 c1 q1
    rw [List.append_nil]
    exact ⟨F1, μ1, G, ws, R, c1, q1, r1, fin.mono s1⟩
  · rintro us s2 ⟨vs, H2, I2, r, q⟩
    exact ⟨I2.kIn, run_fg FF hr hgd hb .nil pass0 I2 r q⟩

/-! ### text[lo::k] -/
def tStep (k : Int) (te : DTE) (tl : DTO) : DTE := fun ρ μ R => te ρ μ fun w μ1 => tl ρ μ1 fun lo μ2 => match w with
  | .d (.str z) => k ≠ 0 ∧ z.length ≤ sizeLine ∧ ∀ t u, R (.d (.str (Txt.sliceBy z (lo.map fun i => (i, t)) none (k, u)))) μ2
  | _ => False
theorem de_step {e : Expr} {te : DTE} {lo : Option Expr} {tl : DTO} {k : Int} {j : Nat} {pos p2 p3 : Pos} (he : DE X e te) (hl : DO X lo tl) : DE X (.Subscript e (.Slice lo none (some (.Constant (.int k) j p3)) p2) pos) (tStep k te tl) := by
  constructor
  constructor
  intro pins s σ H Q I ⟨F, ρ, μ, G, R, c, rs, h, fin⟩
  apply Subscript_
  refine thn (he.pe.run pins s σ H (fun x H1 => lO X.K tl σ H1 fun o H2 => ∃ z, x = .str z ∧ k ≠ 0 ∧ z.length ≤ sizeLine ∧ ∀ t u, Q (.str (Txt.sliceBy z (o.map fun i => (i, t)) none (k, u))) H2) I (lE_go c rs h fun w μ1 F1 H1 x r1 s1 c1 q1 => ?_)) ?_
  · refine ⟨F1, ρ, μ1, G, _, c1, rs.mono s1, r1, fun o μ2 F2 H2 r2 s2 c2 => ?_⟩
    split at r2
    · rename_i z
      cases (show Rp X.K F1 x (.str z) from q1)
      exact ⟨z, rfl, r2.1, r2.2.1, fun t u => fin _ _ _ _ _ (r2.2.2 t u) (s1.trans s2) c2 (Rp.str _)⟩
    · exact r2.elim
  rintro v s1 ⟨x, H1, I1, r1, q1⟩
  apply wpAny_Slice
  refine thn (hl.po.run pins s1 σ H1 _ I1 q1) ?_
  rintro vl s2 ⟨o, H2, I2, pl, z, rfl, hk0, hz, q2⟩
  refine thn (po_none.run pins s2 σ H2 (fun o2 H3 => o2 = none ∧ H3 = H2) I2 ⟨rfl, rfl⟩) ?_
  rintro vu s3 ⟨o2, H3, I3, pu, rfl, rfl⟩
  have hst : PO X (some (.Constant (.int k) j p3)) (tPart (tC (.int k))) := po_some pe_int
  refine thn (hst.run pins s3 σ H3 (fun o3 H4 => o3 = some k ∧ H4 = H3) I3 ⟨k, rfl, rfl, rfl⟩) ?_
  rintro vs s4 ⟨o3, H4, I4, ps, rfl, rfl⟩
  obtain ⟨t, rfl⟩ := r1
  cases pu
  cases ps with
  | int _ uk =>
    have I5 : Inv X pins σ H4 { s4 with heap := s4.heap.push { cls := .type "slice", data := .fields #[vl, .none, .int k uk] } } := I4.kept (t' := s4.toks) fun b ob q => Heap.get?_push_of_some _ q
    have go : ∀ (l : Option (Int × Tok)), (∃ tt, l = o.map fun i => (i, tt)) → ({ s4 with heap := s4.heap.push { cls := .type "slice", data := .fields #[vl, .none, .int k uk] } } : Shared).heap.IsSlice s4.heap.objs.size l none (some (k, uk)) →
        wpAny (model X.prog X.w) X.A (subscriptTail e (.Slice lo none (some (.Constant (.int k) j p3)) p2) (.str z t) (.ref s4.heap.objs.size)) (EP X pins σ Q) X.xe { s4 with heap := s4.heap.push { cls := .type "slice", data := .fields #[vl, .none, .int k uk] } } := by
      rintro l ⟨tt, rfl⟩ hsl
      refine tail_any (ops := [.ref s4.heap.objs.size, .str z t]) (typeIs_str _ _ _) PySem.F.slot_str_getitem.lookup ?_ (by with_unfolding_all rfl)
      refine wpAny_getItem_str_slice (st := some (k, uk)) hsl (by simpa using hk0) ?_
      exact post_val_or_str ⟨Nat.le_trans (Txt.sliceBy_le z _ _ (k, uk) hk0) hz, fun t' c' => ⟨.str _, H4, I5.tok c', ⟨_, rfl⟩, q2 tt uk⟩⟩
    cases pl with
    | none => exact go none ⟨0, rfl⟩ ⟨_, Heap.get?_push_size _ rfl, rfl, rfl⟩
    | int i ti => exact go (some (i, ti)) ⟨ti, rfl⟩ ⟨_, Heap.get?_push_size _ rfl, rfl, rfl⟩
/-! ### text * int, str(int) -/
end
/-- every other one -/
def ev {α : Type} : List α → List α
  | [] => []
  | [x] => [x]
  | x :: _ :: r => x :: ev r
theorem ev_pick {α : Type} : ∀ (xs : List α), ((List.range ((xs.length + 1) / 2)).map fun k => 2 * k).filterMap (fun i => xs[i]?) = ev xs
  | [] => by simp [ev]
  | [x] => by simp [ev]
  | x :: y :: r => by
    have e : ((x :: y :: r).length + 1) / 2 = (r.length + 1) / 2 + 1 := by simp only [List.length_cons]; omega
    rw [e, List.range_succ_eq_map, List.map_cons, List.filterMap_cons]
    show x :: _ = x :: ev r
    rw [← ev_pick r, List.map_map, List.filterMap_map, List.filterMap_map]
    congr 1
theorem idx2 (i n : Nat) (hi : i ≤ n) : sliceRange (i : Int) (n : Int) 2 = (List.range ((n - i + 1) / 2)).map fun k => i + 2 * k := by
  unfold sliceRange
  simp only [if_pos (show (2 : Int) > 0 by decide)]
  have e : (if (i : Int) < (n : Int) then ((n : Int) - (i : Int) + 2 - 1) / 2 else 0).toNat = (n - i + 1) / 2 := by
    split <;> omega
  rw [e]
  apply List.map_congr_left
  intro k _
  omega
theorem step2 (z : Str) (t u : Tok) : (Txt.sliceBy z (Option.map (fun i => (i, t)) none) none (2, u)).cps.toList = ev z.cps.toList := by
  have e : slicePicked z none none (some (2, u)) = (List.range ((z.cps.toList.length + 1) / 2)).map fun k => 2 * k := by
    show Builtin.Str.strSliceIndices none none 2 z.length = _
    have h := idx2 0 z.length (Nat.zero_le _)
    rw [← len_codes]
    simpa [Builtin.Str.strSliceIndices] using h
  unfold Txt.sliceBy
  rw [if_neg (by simp)]
  show (List.filterMap _ (slicePicked z none none (some (2, u)))).toArray.toList = _
  rw [e, List.toList_toArray, ← ev_pick z.cps.toList]
  congr 1
  funext k
  rw [Array.getElem?_toList]
theorem step2_1 (z : Str) (t u : Tok) (hz : 1 ≤ z.length) : (Txt.sliceBy z (Option.map (fun i => (i, t)) (some 1)) none (2, u)).cps.toList = ev (z.cps.toList.drop 1) := by
  have hl : (z.cps.toList.drop 1).length = z.length - 1 := by rw [List.length_drop, ← len_codes]
  have e : slicePicked z (some (1, t)) none (some (2, u)) = (List.range (((z.cps.toList.drop 1).length + 1) / 2)).map fun k => 1 + 2 * k := by
    show Builtin.Str.strSliceIndices (some 1) none 2 z.length = _
    have h := idx2 1 z.length hz
    rw [hl, ← h]
    unfold Builtin.Str.strSliceIndices
    simp only [if_pos (show (2 : Int) > 0 by decide)]
    have m : max (0 : Int) (min (if (1 : Int) < 0 then 1 + (z.length : Int) else 1) (z.length : Int)) = ((1 : Nat) : Int) := by
      rw [if_neg (by decide)]; omega
    rw [m]
  unfold Txt.sliceBy
  rw [if_neg (by simp)]
  show (List.filterMap _ (slicePicked z (some (1, t)) none (some (2, u)))).toArray.toList = _
  rw [e, List.toList_toArray, ← ev_pick (z.cps.toList.drop 1), List.filterMap_map, List.filterMap_map]
  congr 1
  funext k
  show z.cps[1 + 2 * k]? = (z.cps.toList.drop 1)[2 * k]?
  rw [List.getElem?_drop, Array.getElem?_toList]

section
variable {X : Cx}
def mulX : D2 := fun x y μ R => match x, y with
  | .d (.str z), .d (.int i) => ∃ c, z = ⟨#[c]⟩ ∧ 0 ≤ i ∧ i ≤ 1000 ∧ R (.d (.str (Txt.mul z i))) μ
  | x, y => mulD x y μ R
def rMulX (K : PySem.W.Frag) : R2 := fun x y H Q => rMulA K x y H Q ∨ ∃ (c : Nat) (i : Int), x = .str ⟨#[c]⟩ ∧ y = .int i ∧ 0 ≤ i ∧ i ≤ 1000 ∧ Q (.str (Txt.mul ⟨#[c]⟩ i)) H
theorem mulOk1 (c : Nat) (i : Int) (h0 : 0 ≤ i) (h1 : i ≤ 1000) : MulOk ⟨#[c]⟩ i := by
  have e : (⟨#[c]⟩ : Str).length = 1 := rfl
  have hz := sizeLit
  refine ⟨?_, fun h2 h3 => ?_, fun h2 h3 => ?_⟩
  · rw [decide_eq_false (by omega), decide_eq_false (by omega)]; rfl
  · rw [e]
    intro h
    have h4 : (2 ^ 63 - 1) / i < 1 := by omega
    have h5 : (2 ^ 63 - 1 : Int) < 1 * i := by
      have := Int.lt_mul_of_ediv_lt (by omega) h4
      exact this
    omega
  · show Builtin.Str.tooLong _ = false
    rw [e, Nat.one_mul]
    unfold Builtin.Str.tooLong
    rw [decide_eq_false]
    have := hz
    omega
theorem op_mulS : OpR X (binaryOp .Mult) (fun x y H Q => ∃ (c : Nat) (i : Int), x = V.str ⟨#[c]⟩ ∧ y = V.int i ∧ 0 ≤ i ∧ i ≤ 1000 ∧ Q (V.str (Txt.mul ⟨#[c]⟩ i)) H) := by
  rintro pins s σ H x y v u Q I rx ry ⟨c, i, rfl, rfl, h0, h1, q⟩
  obtain ⟨t, rfl⟩ := rx
  obtain ⟨t2, rfl⟩ := ry
  exact SB.mul (mulOk1 c i h0 h1) fun t' k => ⟨.str _, H, I.tok k, ⟨_, rfl⟩, q⟩
theorem op_mulX : OpR X (binaryOp .Mult) (rMulX X.K) := OpR.or op_mulA op_mulS
theorem l_mulX {K : PySem.W.Frag} : Lift2 K (rMulX K) mulX := by
  intro F H G μ x y wx wy R Q c rx ry h fin
  unfold mulX at h
  split at h
  · obtain ⟨z, rfl, h0, h1, h⟩ := h
    cases rx; cases ry
    exact .inr ⟨_, _, rfl, rfl, h0, h1, fin.flat c h (.str _)⟩
  · exact .inl (l_mul c rx ry h fin)
theorem q_mulXI {i j : Int} {μ : M} {R : DQ} : mulX (.d (.int i)) (.d (.int j)) μ R = ((-2 ^ 64 < i ∧ i < 2 ^ 64 ∨ -2 ^ 64 < j ∧ j < 2 ^ 64) ∧ R (.d (.int (i * j))) μ) := rfl
theorem q_mulXS {z : Str} {i : Int} {μ : M} {R : DQ} : mulX (.d (.str z)) (.d (.int i)) μ R = (∃ c, z = ⟨#[c]⟩ ∧ 0 ≤ i ∧ i ≤ 1000 ∧ R (.d (.str (Txt.mul z i))) μ) := rfl
theorem q_mulXL {xs : List PyData} {i : Int} {μ : M} {R : DQ} : mulX (.d (.list xs)) (.d (.int i)) μ R = mulD (.d (.list xs)) (.d (.int i)) μ R := rfl
theorem q_mulXT {xs : List PyData} {i : Int} {μ : M} {R : DQ} : mulX (.d (.tuple xs)) (.d (.int i)) μ R = mulD (.d (.tuple xs)) (.d (.int i)) μ R := rfl
def strD : DC := fun ws μ R => match ws with
  | [.d (.int i)] => i.natAbs.log2 < 1920 ∧ R (.d (.str (Str.ofString (toString i)))) μ
  | _ => False
theorem l_str {K : PySem.W.Frag} : LiftA K (fun xs H Q => ∃ i, xs = [V.int i] ∧ i.natAbs.log2 < 1920 ∧ Q (V.str (Str.ofString (toString i))) H) strD := by
  intro F H G μ vs ws R Q c rv h fin
  unfold strD at h
  split at h
  · cases rv with | cons r t => cases t; cases r; exact ⟨_, rfl, h.1, fin.flat c h.2 (.str _)⟩
  · exact h.elim
theorem q_str {i : Int} {μ : M} {R : DQ} : strD [.d (.int i)] μ R = (i.natAbs.log2 < 1920 ∧ R (.d (.str (Str.ofString (toString i)))) μ) := rfl
def intD : DC := fun ws μ R => match ws with
  | [.d (.str a)] => ∃ n, intText? a = some n ∧ a.length ≤ 640 ∧ R (.d (.int n)) μ
  | _ => False
theorem l_int {K : PySem.W.Frag} : LiftA K (fun xs H Q => ∃ a n, xs = [V.str a] ∧ intText? a = some n ∧ a.length ≤ 640 ∧ Q (V.int n) H) intD := by
  intro F H G μ vs ws R Q c rv h fin
  unfold intD at h
  split at h
  · obtain ⟨n, h1, h2, h⟩ := h
    cases rv with | cons r t => cases t; cases r; exact ⟨_, n, rfl, h1, h2, fin.flat c h (.int _)⟩
  · exact h.elim
theorem q_int {a : Str} {μ : M} {R : DQ} : intD [.d (.str a)] μ R = (∃ n, intText? a = some n ∧ a.length ≤ 640 ∧ R (.d (.int n)) μ) := rfl
theorem q_step {k : Int} {te : DTE} {tl : DTO} {ρ : Sl} {μ : M} {R : DQ} : tStep k te tl ρ μ R = te ρ μ fun w μ1 => tl ρ μ1 fun lo μ2 => match w with
  | .d (.str z) => k ≠ 0 ∧ z.length ≤ sizeLine ∧ ∀ t u, R (.d (.str (Txt.sliceBy z (lo.map fun i => (i, t)) none (k, u)))) μ2
  | _ => False := rfl
end
end DL

set_option Elab.async false
set_option linter.all false
set_option maxRecDepth 100000
set_option maxHeartbeats 1000000
/-! texts as lists of codes: cut at a sign, names -/
namespace DL
open PySem PySem.Spec PyProof.Rows L2
abbrev cd (s : Str) : List Nat := s.cps.toList
abbrev mk (l : List Nat) : Str := ⟨l.toArray⟩
theorem mk_cd (s : Str) : mk (cd s) = s := by cases s; rfl
theorem cd_inj {a b : Str} (h : cd a = cd b) : a = b := by rw [← mk_cd a, ← mk_cd b, h]
theorem beq_cd (a b : Str) : (a == b) = (cd a == cd b) := by
  rw [Bool.eq_iff_iff, beq_iff_eq, beq_iff_eq]
  exact ⟨fun h => by rw [h], cd_inj⟩
def sp1 (c : Nat) : List Nat → List (List Nat)
  | [] => [[]]
  | x :: r => if x = c then [] :: sp1 c r else match sp1 c r with
    | [] => [[x]]
    | p :: ps => (x :: p) :: ps
theorem sp1_ne (c : Nat) : ∀ l, sp1 c l ≠ []
  | [] => by simp [sp1]
  | x :: r => by
    unfold sp1
    split
    · simp
    · split <;> simp
theorem sp1_hit {c x : Nat} {r : List Nat} (h : x = c) : sp1 c (x :: r) = [] :: sp1 c r := by
  conv => lhs; unfold sp1
  rw [if_pos h]
theorem sp1_miss {c x : Nat} {r p : List Nat} {ps : List (List Nat)} (h : x ≠ c) (e : sp1 c r = p :: ps) : sp1 c (x :: r) = (x :: p) :: ps := by
  conv => lhs; unfold sp1
  rw [if_neg h, e]
theorem pre1 (c x : Nat) (r : List Nat) : TL.pre [c] (x :: r) = decide (x = c) := by
  unfold TL.pre
  rw [Bool.eq_iff_iff]
  simp
theorem spl_sp1 (c : Nat) : ∀ (l acc : List Nat), TL.spl [c] 0 acc l = (match sp1 c l with | [] => [] | p :: ps => (acc ++ p) :: ps)
  | [], acc => by simp [TL.spl, sp1]
  | x :: r, acc => by
    by_cases h : x = c
    · rw [TL.spl_hit (by rw [pre1, decide_eq_true h])]
      have ih := spl_sp1 c r []
      show acc :: TL.spl [c] 0 [] r = _
      rw [ih, sp1_hit h]
      cases e : sp1 c r with
      | nil => exact absurd e (sp1_ne c r)
      | cons p ps => simp
    · rw [TL.spl_miss (by rw [pre1, decide_eq_false h]), spl_sp1 c r (acc ++ [x])]
      cases e : sp1 c r with
      | nil => exact absurd e (sp1_ne c r)
      | cons p ps => rw [sp1_miss h e]; simp
theorem split1 (s : Str) (c : Nat) (hc : c < 256) : Txt.split s ⟨#[c]⟩ = (sp1 c (cd s)).map mk := by
  have h := SX.split_S (a := cd s) (b := [c]) (by simp) (by simp [hc])
  have e1 : SX.S (cd s) = s := SX.S_tl s
  have e2 : SX.S [c] = ⟨#[c]⟩ := rfl
  rw [e1, e2] at h
  rw [h, spl_sp1]
  have e3 : (match sp1 c (cd s) with | [] => [] | p :: ps => ([] ++ p) :: ps) = sp1 c (cd s) := by
    cases e : sp1 c (cd s) with
    | nil => rfl
    | cons p ps => simp
  rw [e3]
def cutAt (c : Nat) : List Nat → Option (List Nat × List Nat)
  | [] => none
  | x :: r => if x = c then some ([], r) else (cutAt c r).map fun z => (x :: z.1, z.2)
theorem sp1_cut (c : Nat) : ∀ l, sp1 c l = (match cutAt c l with | none => [l] | some (p, q) => p :: sp1 c q)
  | [] => rfl
  | x :: r => by
    unfold cutAt
    by_cases h : x = c
    · rw [if_pos h, sp1_hit h]
    · rw [if_neg h]
      have ih := sp1_cut c r
      cases e : cutAt c r with
      | none => rw [e] at ih; exact sp1_miss h ih
      | some z => rw [e] at ih; exact sp1_miss h ih
theorem cut_none {c : Nat} : ∀ {l : List Nat}, c ∉ l → cutAt c l = none
  | [], _ => rfl
  | x :: r, h => by
    unfold cutAt
    rw [if_neg (fun z => h (by rw [z]; exact List.mem_cons_self)), cut_none fun z => h (List.mem_cons_of_mem x z)]
    rfl
theorem cut_app {c : Nat} (q : List Nat) : ∀ {p : List Nat}, c ∉ p → cutAt c (p ++ c :: q) = some (p, q)
  | [], _ => by simp [cutAt]
  | x :: r, h => by
    rw [List.cons_append]
    unfold cutAt
    rw [if_neg (fun z => h (by rw [z]; exact List.mem_cons_self)), cut_app q fun z => h (List.mem_cons_of_mem x z)]
    rfl
theorem cut_some {c : Nat} : ∀ {l p q : List Nat}, cutAt c l = some (p, q) → l = p ++ c :: q ∧ c ∉ p
  | [], _, _, h => by cases h
  | x :: r, p, q, h => by
    unfold cutAt at h
    by_cases e : x = c
    · rw [if_pos e] at h
      cases h
      exact ⟨by rw [e]; rfl, by simp⟩
    · rw [if_neg e] at h
      cases f : cutAt c r with
      | none => rw [f] at h; cases h
      | some z =>
        rw [f] at h
        cases h
        obtain ⟨h1, h2⟩ := cut_some (p := z.1) (q := z.2) f
        exact ⟨by rw [h1]; rfl, fun hm => by
          rcases List.mem_cons.mp hm with y | y
          · exact e y.symm
          · exact h2 y⟩
theorem sp1_one {c : Nat} {l : List Nat} (h : c ∉ l) : sp1 c l = [l] := by rw [sp1_cut, cut_none h]
theorem sp1_len1 {c : Nat} {l : List Nat} (h : (sp1 c l).length = 1) : sp1 c l = [l] := by
  rw [sp1_cut] at h ⊢
  cases e : cutAt c l with
  | none => rfl
  | some z =>
    rw [e] at h
    have := sp1_ne c z.2
    have h2 : (sp1 c z.2).length = 0 := by simpa using h
    exact absurd (List.length_eq_zero_iff.mp h2) this
/-- find of one sign -/
theorem at1 (s : Str) (c i : Nat) : StrLaws.At s ⟨#[c]⟩ s.length i ↔ (cd s)[i]? = some c := by
  rw [TL.at_iff (by simp [TL.tl]) i]
  show TL.pre [c] ((cd s).drop i) = true ↔ _
  cases e : (cd s).drop i with
  | nil =>
    have : (cd s).length ≤ i := by simpa [List.drop_eq_nil_iff] using e
    rw [List.getElem?_eq_none this]
    simp [TL.pre]
  | cons x r =>
    rw [pre1]
    have : (cd s)[i]? = some x := by
      have := congrArg List.head? e
      rw [List.head?_drop] at this
      simpa using this
    rw [this]
    simp
theorem find1 (s : Str) (c : Nat) : (match cutAt c (cd s) with | none => Txt.find s ⟨#[c]⟩ = -1 | some (p, q) => Txt.find s ⟨#[c]⟩ = (p.length : Int) ∧ cd s = p ++ c :: q) := by
  rcases find_whole s ⟨#[c]⟩ with ⟨h1, h2⟩ | ⟨i, h1, h2, h3⟩
  · have hn : c ∉ cd s := fun hm => by
      obtain ⟨i, hi⟩ := List.mem_iff_getElem?.mp hm
      exact h2 i ((at1 s c i).mpr hi)
    rw [cut_none hn]
    exact h1
  · rw [at1] at h2
    have hm : c ∈ cd s := List.mem_of_getElem? h2
    cases e : cutAt c (cd s) with
    | none =>
      have : ∀ {l : List Nat}, c ∈ l → cutAt c l ≠ none := by
        intro l hl
        induction l with
        | nil => cases hl
        | cons x r ih =>
          unfold cutAt
          by_cases z : x = c
          · rw [if_pos z]; simp
          · rw [if_neg z]
            rcases List.mem_cons.mp hl with y | y
            · exact absurd y.symm z
            · intro k
              cases f : cutAt c r with
              | none => exact ih y f
              | some w => rw [f] at k; cases k
      exact absurd e (this hm)
    | some z =>
      obtain ⟨p, q⟩ := z
      obtain ⟨e1, e2⟩ := cut_some e
      refine ⟨?_, e1⟩
      rw [h1]
      have hp : (cd s)[p.length]? = some c := by rw [e1]; simp
      rcases Nat.lt_trichotomy i p.length with h | h | h
      · have : (cd s)[i]? = p[i]? := by rw [e1, List.getElem?_append_left h]
        rw [this] at h2
        exact absurd (List.mem_of_getElem? h2) e2
      · rw [h]
      · exact absurd ((at1 s c p.length).mpr hp) (h3 p.length h)

/-! names -/
def az (c : Nat) : Bool := decide (97 ≤ c) && decide (c ≤ 122)
def dg (c : Nat) : Bool := decide (48 ≤ c) && decide (c ≤ 57)
def ag (c : Nat) : Bool := decide (97 ≤ c) && decide (c ≤ 103)
def isWordC (l : List Nat) : Bool := decide (1 ≤ l.length) && decide (l.length ≤ 8) && l.all az
theorem az_lt {c : Nat} (h : az c = true) : 97 ≤ c ∧ c ≤ 122 := by simpa [az] using h
theorem word_no {l : List Nat} {c : Nat} (h : isWordC l = true) (hc : c < 97) : c ∉ l := fun hm => by
  simp only [isWordC, Bool.and_eq_true, List.all_eq_true] at h
  have := az_lt (h.2 c hm)
  omega
/-- letters -/
def nmL (l : List Nat) : Bool := match cutAt 64 l with
  | none => false
  | some (p, q) => isWordC p && isWordC q
theorem nmL_split (l : List Nat) : (decide ((sp1 64 l).length = 2) && (sp1 64 l).all isWordC) = nmL l := by
  unfold nmL
  rw [sp1_cut]
  cases e : cutAt 64 l with
  | none => rfl
  | some z =>
    obtain ⟨p, q⟩ := z
    simp only [List.length_cons, List.all_cons]
    by_cases h : isWordC q = true
    · simp [sp1_one (word_no h (show 64 < 97 by decide)), h]
    · have hq : isWordC q = false := by simpa using h
      by_cases h1 : (sp1 64 q).length = 1
      · simp [sp1_len1 h1, hq]
      · rw [decide_eq_false (by omega), hq, Bool.and_false, Bool.false_and]
theorem nmL_make {p q : List Nat} (hp : isWordC p = true) (hq : isWordC q = true) : nmL (p ++ 64 :: q) = true := by
  unfold nmL
  rw [cut_app q (word_no hp (by decide))]
  simp [hp, hq]
/-- calls -/
def nmC (l : List Nat) : Bool := match l with
  | [] => false
  | x :: r => decide (x = 43) && decide (3 ≤ r.length) && decide (r.length ≤ 9) && r.all dg
/-- pages -/
def nmP (l : List Nat) : Bool := match sp1 47 l with
  | [] => false
  | p :: ps => decide (p = []) && decide (1 ≤ ps.length) && decide (ps.length ≤ 3) && ps.all isWordC
theorem sp1_head (c : Nat) (l : List Nat) : (match sp1 c l with | [] => false | p :: ps => decide (p = []) && decide (1 ≤ ps.length)) = (match l with | [] => false | x :: _ => decide (x = c)) := by
  cases l with
  | nil => rfl
  | cons x r =>
    by_cases h : x = c
    · rw [sp1_hit h]
      have : 1 ≤ (sp1 c r).length := by
        cases e : sp1 c r with
        | nil => exact absurd e (sp1_ne c r)
        | cons p ps => simp
      simp [h, this]
    · cases e : sp1 c r with
      | nil => exact absurd e (sp1_ne c r)
      | cons p ps => rw [sp1_miss h e]; simp [h]
theorem sp1_joined {c : Nat} : ∀ {w : List Nat} {ws : List (List Nat)}, c ∉ w → (∀ x ∈ ws, c ∉ x) → sp1 c (w ++ (ws.map fun x => c :: x).flatten) = w :: ws
  | w, [], h, _ => by simp [sp1_one h]
  | w, x :: ws, h, hs => by
    rw [List.map_cons, List.flatten_cons, sp1_cut, List.cons_append, cut_app _ h]
    show w :: sp1 c (x ++ _) = _
    rw [sp1_joined (hs x List.mem_cons_self) fun y hy => hs y (List.mem_cons_of_mem x hy)]
theorem nmP_make {ws : List (List Nat)} (h1 : 1 ≤ ws.length) (h3 : ws.length ≤ 3) (h : ∀ w ∈ ws, isWordC w = true) : nmP (ws.map fun x => 47 :: x).flatten = true := by
  unfold nmP
  have := sp1_joined (c := 47) (w := []) (ws := ws) (by simp) fun x hx => word_no (h x hx) (by decide)
  rw [List.nil_append] at this
  rw [this]
  simp only [decide_eq_true h1, decide_eq_true h3, Bool.and_true, Bool.true_and, List.all_eq_true, decide_true]
  exact h
/-- sounds -/
def snd : List Nat → Bool
  | [] => false
  | [x] => ag x
  | x :: y :: r => ag x && decide (y = 45) && snd r
def nmS (l : List Nat) : Bool := snd l && decide (3 ≤ l.length) && decide (l.length ≤ 11)
def one1 (t : List Nat) : Bool := match t with
  | [x] => ag x
  | _ => false
theorem ag_ne {x : Nat} (h : ag x = true) : x ≠ 45 := by
  simp only [ag, Bool.and_eq_true, decide_eq_true_eq] at h; omega
theorem snd_split : ∀ l : List Nat, (sp1 45 l).all one1 = snd l
  | [] => rfl
  | [x] => by
    by_cases h : x = 45
    · rw [sp1_hit h]; subst h; rfl
    · rw [sp1_miss h (show sp1 45 [] = [] :: [] from rfl)]; simp [one1, snd]
  | x :: y :: r => by
    have ih := snd_split r
    by_cases h : x = 45
    · rw [sp1_hit h]
      subst h
      simp [one1, snd, ag]
    · by_cases h2 : y = 45
      · rw [sp1_miss h (sp1_hit h2)]
        simp [one1, snd, h2, ← ih]
      · cases e : sp1 45 r with
        | nil => exact absurd e (sp1_ne 45 r)
        | cons p ps =>
          rw [sp1_miss h (sp1_miss h2 e)]
          simp [one1, snd, h2]
theorem snd_len : ∀ l : List Nat, snd l = true → (sp1 45 l).length * 2 = l.length + 1
  | [], h => by cases h
  | [x], h => by
    have hx : x ≠ 45 := ag_ne (by simpa [snd] using h)
    rw [sp1_miss hx (show sp1 45 [] = [] :: [] from rfl)]; rfl
  | x :: y :: r, h => by
    simp only [snd, Bool.and_eq_true, decide_eq_true_eq] at h
    have hx : x ≠ 45 := ag_ne h.1.1
    rw [sp1_miss hx (sp1_hit h.1.2)]
    have := snd_len r h.2
    simp only [List.length_cons]
    omega
theorem nmS_split (l : List Nat) : (decide (2 ≤ (sp1 45 l).length) && decide ((sp1 45 l).length ≤ 6) && (sp1 45 l).all one1) = nmS l := by
  rw [snd_split]
  unfold nmS
  by_cases h : snd l = true
  · have := snd_len l h
    rw [h, Bool.and_true, Bool.true_and]
    rw [Bool.eq_iff_iff]
    simp only [Bool.and_eq_true, decide_eq_true_eq]
    omega
  · have h' : snd l = false := by simpa using h
    rw [h', Bool.and_false, Bool.false_and, Bool.false_and]
theorem snd_ev : ∀ l : List Nat, l.length % 2 = 1 → ((ev l).all ag && decide (ev (l.drop 1) = List.replicate (l.length / 2) 45)) = snd l
  | [], h => by simp at h
  | [x], _ => by simp [ev, snd]
  | x :: y :: r, h => by
    have ih := snd_ev r (by simp only [List.length_cons] at h; omega)
    have e2 : (x :: y :: r).length / 2 = r.length / 2 + 1 := by simp only [List.length_cons]; omega
    have e3 : ev ((x :: y :: r).drop 1) = y :: ev (r.drop 1) := by
      cases r with
      | nil => simp at h
      | cons z r => rfl
    rw [e2, e3, List.replicate_succ]
    show (ag x && (ev r).all ag && _) = (ag x && decide (y = 45) && snd r)
    rw [← ih]
    by_cases h1 : y = 45
    · subst h1
      simp [Bool.and_assoc]
    · simp [h1]
theorem snd_odd : ∀ l : List Nat, snd l = true → l.length % 2 = 1
  | [], h => by cases h
  | [x], _ => rfl
  | x :: y :: r, h => by
    simp only [snd, Bool.and_eq_true] at h
    have := snd_odd r h.2
    simp only [List.length_cons]
    omega
theorem nmS_odd {l : List Nat} (h : l.length ∉ [3, 5, 7, 9, 11]) : nmS l = false := by
  unfold nmS
  cases q : snd l with
  | false => rfl
  | true =>
    have := snd_odd l q
    rw [Bool.true_and, Bool.and_eq_false_iff]
    simp only [List.mem_cons, List.not_mem_nil, or_false] at h
    by_cases h3 : 3 ≤ l.length
    · exact .inr (decide_eq_false (by omega))
    · exact .inl (decide_eq_false h3)
def joinS : List Nat → List Nat
  | [] => []
  | [x] => [x]
  | x :: r => x :: 45 :: joinS r
theorem snd_join : ∀ l : List Nat, l ≠ [] → l.all ag = true → snd (joinS l) = true
  | [], h, _ => absurd rfl h
  | [x], _, h => by simpa [joinS, snd] using h
  | x :: y :: r, _, h => by
    simp only [List.all_cons, Bool.and_eq_true] at h
    have ih := snd_join (y :: r) (by simp) (by simp [h.2])
    show snd (x :: 45 :: joinS (y :: r)) = true
    simp [snd, h.1, ih]
theorem joinS_len : ∀ l : List Nat, (joinS l).length = 2 * l.length - 1
  | [] => rfl
  | [x] => rfl
  | x :: y :: r => by
    have ih := joinS_len (y :: r)
    show (x :: 45 :: joinS (y :: r)).length = _
    simp only [List.length_cons] at ih ⊢
    omega
theorem nmS_make {l : List Nat} (h2 : 2 ≤ l.length) (h6 : l.length ≤ 6) (h : l.all ag = true) : nmS (joinS l) = true := by
  unfold nmS
  have := joinS_len l
  rw [snd_join l (fun z => by rw [z] at h2; simp at h2) h, decide_eq_true (by omega), decide_eq_true (by omega)]
  rfl

theorem sw1 (s : Str) (c : Nat) : Txt.startswith s ⟨#[c]⟩ = (match cd s with | [] => false | x :: _ => decide (x = c)) := by
  have h : Txt.startswith s ⟨#[c]⟩ = true ↔ (cd s)[0]? = some c := by
    rw [← at1]
    unfold Txt.startswith StrLaws.At
    rw [Bool.and_eq_true, decide_eq_true_eq]
  rw [Bool.eq_iff_iff, h]
  cases cd s with
  | nil => simp
  | cons x r => simp
theorem cutG_from {α : Type} (xs : List α) (k : Nat) : cutG xs (some (k : Int)) none = xs.drop k := by
  unfold cutG
  rw [HT.sIx_nat, HT.sIx_none]
  by_cases h : k ≤ xs.length
  · rw [Nat.min_eq_left h, List.take_of_length_le (by rw [List.length_drop]; omega)]
  · rw [Nat.min_eq_right (by omega), List.drop_of_length_le (Nat.le_refl _), List.drop_of_length_le (by omega)]
    simp
theorem cutG_to {α : Type} (xs : List α) (k : Nat) : cutG xs none (some (k : Int)) = xs.take k := by
  unfold cutG
  rw [HT.sIx_nat, HT.sIx_none, List.drop_zero, Nat.sub_zero]
  by_cases h : k ≤ xs.length
  · rw [Nat.min_eq_left h]
  · rw [Nat.min_eq_right (by omega), List.take_of_length_le (Nat.le_refl _), List.take_of_length_le (by omega)]
theorem cutG_1 {α : Type} (xs : List α) : cutG xs (some 1) none = xs.drop 1 := cutG_from xs 1
theorem codes_1 (s : Str) : cd (cutS s (some 1) none) = (cd s).drop 1 := by rw [cd, codes_cut, cutG_1]
theorem if2 {A : Bool} {X Y : Prop} (h1 : A = true → X) (h2 : A = false → Y) : if A = true then X else Y := by
  cases A with
  | true => rw [if_pos rfl]; exact h1 rfl
  | false => rw [if_neg Bool.false_ne_true]; exact h2 rfl
theorem len_mk (l : List Nat) : (mk l).length = l.length := by rw [len_codes]
theorem cd_mk (l : List Nat) : cd (mk l) = l := by simp [cd, mk]
end DL

set_option Elab.async false
set_option linter.all false
set_option maxRecDepth 100000
set_option maxHeartbeats 1000000
namespace DL
open PySem PySem.Spec PyProof.Rows L2
section
variable {X : Cx}
/-! ### xs[::-1] of a list -/
def revD (w : W) (μ : M) (R : DQ) : Prop := match w with
  | .d (.list ds) => R (.d (.list ds.reverse)) μ
  | .v (.ref a) => onS (μ a) fun m => match m with
    | .lst ws => asD ws.reverse fun ds => R (.d (.list ds)) μ
    | _ => False
  | _ => False
def tRevD (te : DTE) (ts : DTO) : DTE := fun ρ μ R => te ρ μ fun w μ1 => ts ρ μ1 fun o μ2 => o = some (-1) ∧ revD w μ2 R
theorem rp_rev {K : PySem.W.Frag} {F : Hp} : ∀ {vs : List V} {ds : List PyData}, RpAll K F vs ds → RpAll K F vs.reverse ds.reverse
  | _, _, .nil => .nil
  | _, _, .cons r t => by
    rw [List.reverse_cons, List.reverse_cons]
    exact RpAll.app (rp_rev t) (.cons r .nil)
theorem rw_rev {K : PySem.W.Frag} {F : Hp} : ∀ {vs : List V} {ds : List W}, RwAll K F vs ds → RwAll K F vs.reverse ds.reverse
  | _, _, .nil => .nil
  | _, _, .cons r t => by
    rw [List.reverse_cons, List.reverse_cons]
    exact RwAll.app (rw_rev t) (.cons r .nil)
theorem de_rev {e st : Expr} {te : DTE} {ts : DTO} {pos p2 : Pos} (he : DE X e te) (hs : DO X (some st) ts) : DE X (.Subscript e (.Slice none none (some st) p2) pos) (tRevD te ts) := by
  constructor
  constructor
  intro pins s σ H Q I ⟨F, ρ, μ, G, R, c, rs, h, fin⟩
  apply Subscript_
  refine thn (he.pe.run pins s σ H (fun x H1 => lO X.K ts σ H1 fun o H2 => ∃ a xs, x = .ref a ∧ o = some (-1) ∧ SqL X.K H2 a xs ∧ ∀ p, H2 p = none → Q (.ref p) (upd H2 p (.lst xs.reverse))) I (lE_go c rs h fun w μ1 F1 H1 x r1 s1 c1 q1 => ?_)) ?_
  · refine ⟨F1, ρ, μ1, G, _, c1, rs.mono s1, r1, fun o μ2 F2 H2 r2 s2 c2 => ?_⟩
    obtain ⟨ho, r2⟩ := r2
    have q2 := q1.mono s2
    unfold revD at r2
    split at r2
    · cases (show Rp X.K F2 x _ from q2) with
      | lst e k =>
        refine ⟨_, _, rfl, ho, .inl (.inl (c2.sub _ _ e)), fun p hp => ?_⟩
        obtain ⟨s, c'⟩ := c2.lay hp (.lst _)
        exact fin _ _ _ _ _ r2 ((s1.trans s2).trans s) c' (.lst upd_same ((rp_rev k).mono s))
    · rename_i a
      cases (show x = .ref a from q2)
      obtain ⟨m, em, h⟩ := onS_ok r2
      split at h
      · obtain ⟨_, _, o, ho2, vs, rfl, k⟩ := c2.mu _ _ em
        obtain ⟨ds, kd, r⟩ := asD_ok (rw_rev k) h
        refine ⟨_, _, rfl, ho, .inl (.inl ho2), fun p hp => ?_⟩
        obtain ⟨s, c'⟩ := c2.lay hp (.lst vs.reverse)
        exact fin _ _ _ _ _ r ((s1.trans s2).trans s) c' (.lst upd_same (kd.mono s))
      · exact h.elim
    · exact r2.elim
  rintro v s1 ⟨x, H1, I1, r1, q1⟩
  apply wpAny_Slice
  refine thn (po_none.run pins s1 σ H1 (fun o2 H3 => o2 = none ∧ H3 = H1) I1 ⟨rfl, rfl⟩) ?_
  rintro vl s2 ⟨o2, H2, I2, pl, rfl, rfl⟩
  refine thn (po_none.run pins s2 σ H2 (fun o2 H3 => o2 = none ∧ H3 = H2) I2 ⟨rfl, rfl⟩) ?_
  rintro vu s3 ⟨o3, H3, I3, pu, rfl, rfl⟩
  refine thn (hs.po.run pins s3 σ H3 _ I3 q1) ?_
  rintro vs s4 ⟨o, H4, I4, ps, a, xs, rfl, rfl, hx, q⟩
  cases r1
  have I5 : Inv X pins σ H4 { s4 with heap := s4.heap.push { cls := .type "slice", data := .fields #[vl, vu, vs] } } := I4.kept (t' := s4.toks) fun b ob q => Heap.get?_push_of_some _ q
  obtain ⟨its, r, ht, hz⟩ := I5.list hx
  have hlen := r.length
  refine tail_any (ops := [.ref a, .ref s4.heap.objs.size]) ht.isList.typeIs slot_list_getitem.lookup ?_ (by with_unfolding_all rfl)
  refine wpAny_getItem_list_slice ht.isList (Heap.IsSliceOf.new ..) pl pu ps (by simp) ?_ (by rw [List.size_toArray] <;> omega)
  rw [PySem.W.krv_pick]
  refine ⟨.ref _, _, I5.laid (t' := s4.toks) (o := .lst xs.reverse) (fun b ob q => Heap.get?_push_of_some _ q) (Nat.le_refl _) ?_, rfl, q _ (I5.hok.fresh (Nat.le_refl _))⟩
  exact ⟨by rw [List.length_reverse]; exact hz, _, 0, Vals.reverse r, Heap.get?_push_size _ rfl⟩
theorem q_revL {xs : List PyData} {μ : M} {R : DQ} : revD (.d (.list xs)) μ R = R (.d (.list xs.reverse)) μ := rfl
theorem q_revM {a : Addr} {μ : M} {R : DQ} : revD (.v (.ref a)) μ R = onS (μ a) fun m => match m with
    | .lst ws => asD ws.reverse fun ds => R (.d (.list ds)) μ
    | _ => False := rfl

/-! ### (a, b, ..) = a tuple -/
abbrev DTGs := List W → Sl → M → (Sl → M → Prop) → Prop
def lGs (K : PySem.W.Frag) (t : DTGs) : TGs := fun vs σ H Q => ∃ (F : Hp) (ρ : Sl) (μ : M) (G : Hp) (ws : List W) (R : Sl → M → Prop), Cn K F H μ G ∧ Rs K F σ ρ ∧ RwAll K F vs ws ∧ t ws ρ μ R ∧ FinN K F G R Q
structure DGs (X : Cx) (ts : List Expr) (t : DTGs) : Prop where
  pgs : PGs X ts (lGs X.K t)
theorem PGs_mono {es : List Expr} {t t' : TGs} (h : PGs X es t) (i : ∀ v σ H Q, t' v σ H Q → t v σ H Q) : PGs X es t' := ⟨fun pins s σ H v u Q I r q => h.run pins s σ H v u Q I r (i _ _ _ _ q)⟩
def gNilD : DTGs := fun ws ρ μ R => ws = [] ∧ R ρ μ
def gConsD (t : DTG) (u : DTGs) : DTGs := fun ws ρ μ R => match ws with
  | w :: r => t w ρ μ fun ρ' μ' => u r ρ' μ' R
  | [] => False
theorem dgs_nil : DGs X [] gNilD := ⟨PGs_mono pgs_nil fun v σ H Q ⟨F, ρ, μ, G, ws, R, c, rs, rw', h, fin⟩ => by
  obtain ⟨rfl, h⟩ := h
  cases rw'
  first
  | exact fin _ _ _ _ _ h (Same.refl _) c rs
  | exact ⟨rfl, fin _ _ _ _ _ h (Same.refl _) c rs⟩⟩
theorem dgs_cons {e : Expr} {es : List Expr} {t : DTG} {u : DTGs} (h1 : DG X e t) (h2 : DGs X es u)
    (hs : (assignEach (e :: es) X.env).map (·.2) = assign e X.env :: (assignEach es X.env).map (·.2) := by rfl) : DGs X (e :: es) (gConsD t u) :=
  ⟨PGs_mono (pgs_cons h1.pg h2.pgs hs) fun v σ H Q ⟨F, ρ, μ, G, ws, R, c, rs, rw', h, fin⟩ => by
    unfold gConsD at h
    split at h
    · cases rw' with
      | cons r rr =>
        refine ⟨_, _, rfl, F, ρ, μ, G, _, _, c, rs, r, h, fun ρ' μ' F1 H1 σ1 r1 s1 c1 rs1 => ?_⟩
        exact ⟨F1, ρ', μ', G, _, _, c1, rs1, RwAll.mono s1 rr, r1, fin.mono s1⟩
    · exact h.elim⟩
theorem rw_of_rp {K : PySem.W.Frag} {F : Hp} : ∀ {vs : List V} {ds : List PyData}, RpAll K F vs ds → RwAll K F vs (ds.map .d)
  | _, _, .nil => .nil
  | _, _, .cons r t => .cons r (rw_of_rp t)
def gTupD (n : Nat) (t : DTGs) : DTG := fun w ρ μ R => match w with
  | .d (.tuple ds) => ds.length = n ∧ t (ds.map .d) ρ μ R
  | _ => False
theorem dg_tup {es : List Expr} {k : Nat} {pos : Pos} {t : DTGs} {n : Nat} (hc : X.calm = true) (h : DGs X es t)
    (hn : (assignEach es X.env).length = n := by rfl) (hst : (assignEach es X.env).findIdx? (·.1) = none := by rfl) : DG X (.Tuple es k pos) (gTupD n t) :=
  ⟨PG_mono (pg_tup hc h.pgs hn hst) fun v σ H Q ⟨F, ρ, μ, G, w, R, c, rs, rw', h, fin⟩ => by
    unfold gTupD at h
    split at h
    · cases (show Rp X.K F v _ from rw') with
      | tup e k =>
        exact ⟨_, _, rfl, SqT_mono c.sub e, by rw [k.len]; exact h.1, F, ρ, μ, G, _, R, c, rs, rw_of_rp k, h.2, fin⟩
    · exact h.elim⟩
/-! ### f'..' -/
def tFmtD (te : DTE) : DTE := fun ρ μ R => te ρ μ fun w μ1 => match w with
  | .d (.str z) => z.length ≤ sizeLine ∧ R (.d (.str z)) μ1
  | .d (.int i) => i.natAbs.log2 < 1920 ∧ R (.d (.str (Str.ofString (toString i)))) μ1
  | _ => False
theorem de_fmt {e : Expr} {te : DTE} {pos : Pos} (he : DE X e te) : DE X (.FormattedValue e (-1) none pos) (tFmtD te) :=
  ⟨PE_mono (pe_fmt he.pe) fun σ H Q ⟨F, ρ, μ, G, R, c, rs, h, fin⟩ => lE_go c rs h fun w μ1 F1 H1 x r1 s1 c1 q1 => by
    try dsimp only at r1
    split at r1
    · cases (show Rp X.K F1 x _ from q1)
      exact .inl ⟨_, rfl, r1.1, fin _ _ _ _ _ r1.2 s1 c1 (Rp.str _)⟩
    · cases (show Rp X.K F1 x _ from q1)
      exact .inr ⟨_, rfl, r1.1, fin _ _ _ _ _ r1.2 s1 c1 (Rp.str _)⟩
    · exact r1.elim⟩
inductive DJ (X : Cx) : List Expr → List DTE → Prop where
  | nil : DJ X [] []
  | cons {e : Expr} {t : DTE} {es : List Expr} {ts : List DTE} (h : DE X e t) (r : DJ X es ts) : DJ X (e :: es) (t :: ts)
def tJsD : List DTE → Str → DTE
  | [], acc => fun _ μ R => R (.d (.str acc)) μ
  | t :: ts, acc => fun ρ μ R => t ρ μ fun w μ1 => match w with
    | .d (.str y) => (acc ++ y).length ≤ sizeLine ∧ tJsD ts (acc ++ y) ρ μ1 R
    | _ => False
theorem DJ.pj {es : List Expr} {ts : List DTE} (h : DJ X es ts) : PJ X es (ts.map (lE X.K)) := by
  induction h with
  | nil => exact .nil
  | cons h _ ih => exact .cons h.pe ih
theorem js_go {K : PySem.W.Frag} : ∀ (ts : List DTE) (acc : Str) {σ : L2.St} {H F G : Hp} {ρ : Sl} {μ : M} {R : DQ} {Q : VK}, Cn K F H μ G → Rs K F σ ρ → tJsD ts acc ρ μ R → Fin K F G R Q → tJs (ts.map (lE K)) acc σ H fun out H1 => Q (.str out) H1
  | [], acc, σ, H, F, G, ρ, μ, R, Q, c, rs, h, fin => fin _ _ _ _ _ h (Same.refl _) c (Rp.str _)
  | t :: ts, acc, σ, H, F, G, ρ, μ, R, Q, c, rs, h, fin => by
    refine lE_go c rs h fun w μ1 F1 H1 x r1 s1 c1 q1 => ?_
    try dsimp only at r1
    split at r1
    · cases (show Rp K F1 x _ from q1)
      exact ⟨_, rfl, r1.1, js_go ts _ c1 (rs.mono s1) r1.2 (fin.mono s1)⟩
    · exact r1.elim
theorem de_joined {v1 v2 : Expr} {rest : List Expr} {ts : List DTE} {pos : Pos} (h : DJ X (v1 :: v2 :: rest) ts) : DE X (.JoinedStr (v1 :: v2 :: rest) pos) (tJsD ts Str.empty) :=
  ⟨PE_mono (pe_joined h.pj) fun σ H Q ⟨F, ρ, μ, G, R, c, rs, h, fin⟩ => js_go ts _ c rs h fin⟩
/-! ### a, b = x, y -/
def tParD (i j : Nat) (t : DTA) : DTS := fun D ρ μ => t ρ μ fun ws μ1 => match ws with
  | [a, b] => D.nx ((ρ.set i (some a)).set j (some b)) μ1
  | _ => False
theorem ds_par {st : Stmt} {i j : Nat} {ta : DTA} (h : PS X st (tPar i j (lA X.K ta))) : DS X st (tParD i j ta) :=
  ⟨PS_mono h fun D σ H ⟨F, ρ, μ, G, R, c, rs, h, fin⟩ => ⟨F, ρ, μ, G, _, c, rs, h, fun ws μ1 F1 H1 vs r s c1 q => by
    try dsimp only at r
    split at r
    · cases q with
      | cons ra q =>
        cases q with
        | cons rb q =>
          cases q
          exact ⟨_, _, rfl, fin.nx _ _ _ _ _ r s c1 (((rs.mono s).set i ra).set j rb)⟩
    · exact r.elim⟩⟩
/-! ### a text's signs, joined -/
theorem mt_joinS (hc : X.calm = true) : MtR X "str.join" (fun x xs H Q => ∃ a y, x = V.str a ∧ xs = [V.str y] ∧ y.length ≤ 1000 ∧ a.length ≤ 1000 ∧ Q (V.str (Txt.join a (PyProof.Rows.signs y))) H) := by
  intro pins s σ H x xs v us Q I rx rs h
  obtain ⟨a, y, rfl, rfl, hy, ha, h⟩ := h
  obtain ⟨t, rfl⟩ := rx
  cases rs with
  | cons r1 rs =>
    cases rs
    obtain ⟨u, rfl⟩ := r1
    exact SC.joinStr (I.ok.hd hc) (PyProof.Rows.joinOk_signsN hy ha (by decide)) fun h' k t' hk => ⟨.str _, H, I.kept (t' := k) hk, ⟨t', rfl⟩, h⟩
def joinSD : DM := fun x ws μ R => match x, ws with
  | .d (.str a), [.d (.str y)] => y.length ≤ 1000 ∧ a.length ≤ 1000 ∧ R (.d (.str (Txt.join a (PyProof.Rows.signs y)))) μ
  | _, _ => False
theorem l_joinS {K : PySem.W.Frag} : LiftM K (fun x xs H Q => ∃ a y, x = V.str a ∧ xs = [V.str y] ∧ y.length ≤ 1000 ∧ a.length ≤ 1000 ∧ Q (V.str (Txt.join a (PyProof.Rows.signs y))) H) joinSD := by
  intro F H G μ x wx vs ws R Q c rx rv h fin
  unfold joinSD at h
  split at h
  · cases rx
    cases rv with
    | cons r t =>
      cases t
      cases r
      exact ⟨_, _, rfl, rfl, h.1, h.2.1, fin.flat c h.2.2 (.str _)⟩
  · exact h.elim
theorem q_joinS {a y : Str} {μ : M} {R : DQ} : joinSD (.d (.str a)) [.d (.str y)] μ R = (y.length ≤ 1000 ∧ a.length ≤ 1000 ∧ R (.d (.str (Txt.join a (PyProof.Rows.signs y)))) μ) := rfl
/-! ### repr of None too -/
theorem call_reprN : CallR X (.builtin "repr") (fun xs H Q => xs = [V.non] ∧ Q (.str (Str.ofString "None")) H) := by
  intro pins s σ H xs us Q I r ⟨e, q⟩
  subst e
  cases r with
  | cons r t =>
    cases t
    cases r
    exact PySem.P.repr_of_none ⟨.str _, H, I.tok _, ⟨_, rfl⟩, q⟩
def reprG : DC := fun ws μ R => match ws with
  | [.d .none] => R (.d (.str (Str.ofString "None"))) μ
  | ws => reprD ws μ R
theorem l_reprG {K : PySem.W.Frag} : LiftA K (fun xs H Q => rReprD K xs H Q ∨ (xs = [V.non] ∧ Q (.str (Str.ofString "None")) H)) reprG := by
  intro F H G μ vs ws R Q c rv h fin
  unfold reprG at h
  split at h
  · cases rv with
    | cons r t =>
      cases t
      cases r
      exact .inr ⟨rfl, fin.flat c h (.str _)⟩
  · exact .inl (l_repr c rv h fin)
theorem q_reprGN {μ : M} {R : DQ} : reprG [.d .none] μ R = R (.d (.str (Str.ofString "None"))) μ := rfl
theorem q_reprGT {xs : List PyData} {μ : M} {R : DQ} : reprG [.d (.tuple xs)] μ R = reprD [.d (.tuple xs)] μ R := rfl
theorem q_reprGL {xs : List PyData} {μ : M} {R : DQ} : reprG [.d (.list xs)] μ R = reprD [.d (.list xs)] μ R := rfl
end
end DL

set_option Elab.async false
set_option linter.all false
set_option maxRecDepth 100000
set_option maxHeartbeats 2000000
/-! enumerate over a tuple; starred things; pairs in comprehensions; defs that call themselves -/
namespace DL
open PySem PySem.Spec PyProof.Rows L2

/-! ### enumerate(a tuple) -/
def IeT (K : PySem.W.Frag) (a : Addr) : It where
  go i H := ∃ (xs : List V) (x : V), SqT K H a xs ∧ xs[i]? = some x
  yld i H v H' := ∃ T x, v = .ref T ∧ H T = none ∧ H' = upd H T (.tup [.int (i : Nat), x]) ∧ ∀ xs, SqT K H a xs → xs[i]? = some x
  stop i H := ∃ xs : List V, SqT K H a xs ∧ xs.length ≤ i
theorem enum_new {v : Value} {o : Obj} {J : Heap → Prop} (B : Begins v o J) :
    Meets (Builtin.«enumerate.__new__» ⟨[.type "enumerate", v], []⟩) (fun _ R s => J s.heap ∧ R (.ok (.ret (.ref (s.heap.push o).objs.size)))
      { s with heap := (s.heap.push o).push { cls := .type "enumerate", data := .fields #[.none, .bool false, .ref s.heap.objs.size, rawInt 0, .none, .none] } }) := by
  refine .of_wp fun pr w A R ⟨hp, g, d, tk, os⟩ ⟨hj, hr⟩ => ?_
  have sub := sub_enumerate
  have it : ∀ {A' : Around} {E Q : Value → Shared → Prop}, Q (.ref hp.objs.size) ⟨hp.push o, g, d, tk, os⟩ → wpAny (model pr w) A' (pyIter v) Q E ⟨hp, g, d, tk, os⟩ := fun q => B.iter pr w _ _ ⟨hp, g, d, tk, os⟩ _ hj q
  wp_walk using it
  refine wpAny_stack_any fun st => wpAny_pure ?_
  have last : ∀ {A' : Around} {E : Value → Shared → Prop}, True := fun {_ _} => trivial
  split
  · next c _ _ _ _ _ =>
    cases (c == Value.type "enumerate") <;> (wp_walk using it; exact ⟨_, rfl, hr⟩)
  · wp_walk using it; exact ⟨_, rfl, hr⟩
section
variable {P : Program} {w : World} {A : Around} {E : Value → Shared → Prop} {s : Shared}
theorem enum_call {v : Value} {o : Obj} {J : Heap → Prop} {Q : Value → Shared → Prop} (B : Begins v o J) (hj : J s.heap)
    (hq : ∀ h', IsEnum h' (s.heap.objs.size + 1) s.heap.objs.size 0 .none → h'.get? s.heap.objs.size = some o → (∀ b x, s.heap.get? b = some x → h'.get? b = some x) → Q (.ref (s.heap.objs.size + 1)) { s with heap := h' }) :
    wpAny (model P w) A (call (.type "enumerate") [v]) Q E s := by
  have z : (s.heap.push o).objs.size = s.heap.objs.size + 1 := Heap.size_push ..
  generalize eO : ({ cls := .type "enumerate", data := .fields #[.none, .bool false, .ref s.heap.objs.size, rawInt 0, .none, .none] } : Obj) = O
  have hO : O.isFreed = false := by rw [← eO]; rfl
  have at1 : ((s.heap.push o).push O).get? (s.heap.objs.size + 1) = some O := by rw [← z]; exact Heap.get?_push_size _ hO
  refine callType_new F.called_enumerate (by decide) (F.typeCall_enumerate_1 _) (F.newCall_enumerate_1 _) (fun obj => F.args_object_init_2 obj _) F.entry_enumerate_new (enum_new B) ⟨hj, ?_⟩
  show _ ∧ _
  rw [z, eO]
  refine ⟨⟨O, at1, by rw [← eO]⟩, hq _ (at1.trans (by rw [← eO])) (Heap.get?_push_of_some _ (Heap.get?_push_size _ B.free)) fun b x e => Heap.get?_push_of_some _ (Heap.get?_push_of_some _ e)⟩
end
theorem turn_enumT {P : Program} {w : World} {K : PySem.W.Frag} {elts : List Expr} {kk : Nat} {tpos : Pos} (a e it : Addr) :
    Turn P w K (.Tuple elts kk tpos) (IeT K a) [e, it] e (fun i h => (∃ old, IsEnum h e it ((i : Nat) : Int) old) ∧ h.IsTupleIter it a i ∧ e ≠ it) := by
  refine ⟨by simp, fun i h ⟨⟨old, he⟩, ⟨o, ho, hc, hd⟩, _⟩ b hb => ?_, fun i h h' ⟨⟨old, he⟩, hi, hne⟩ k => ⟨⟨old, k e (by simp) _ he⟩, hi.at fun o q => k it (by simp) o q, hne⟩, ?_, ?_, fun A i s Q E ⟨⟨_, he⟩, _⟩ h => wpAny_pyIter_enum he h⟩
  · rcases List.mem_cons.mp hb with rfl | z
    · exact ⟨_, he, fun v q => nomatch q⟩
    · rw [List.mem_singleton.mp z]; exact ⟨o, ho, fun v q => by rw [hd] at q; cases q⟩
  · rintro X hP hw hK hc i pins s σ H E I hf ⟨⟨old, he⟩, hit, hne⟩ ⟨xs, x, hq, hx⟩
    subst hP hw hK
    obtain ⟨its, rv, p, hz⟩ := I.tuple hq
    have p : s.heap.IsTuple a its.toArray := p
    obtain ⟨u, hu, ru⟩ := rv.get hx
    have ea : e ≠ a := by
      rintro rfl
      obtain ⟨o, ho, hc, _⟩ := p
      rw [he] at ho
      have ho' := Option.some.inj ho
      rw [← ho'] at hc
      have hc : Value.type "enumerate" = Value.type "tuple" := hc
      revert hc
      decide
    have ia : a ≠ it := by
      rintro rfl
      obtain ⟨o, ho, hc, _⟩ := p
      obtain ⟨o2, ho2, hc2, _⟩ := hit
      have ho' := Option.some.inj (ho.symm.trans ho2)
      rw [← ho', hc] at hc2
      revert hc2
      decide
    have el : e < s.heap.objs.size := Heap.lt_size he
    have il : it < s.heap.objs.size := by obtain ⟨_, q, _⟩ := hit; exact Heap.lt_size q
    have hlt : i < its.toArray.size := by
      rw [List.size_toArray]
      exact (List.getElem?_eq_some_iff.mp hu).1
    refine wpAny_pyNext_enum_itemC (Draws.tuple (A := X.A.in1) (I.ok.hd hc) it a ia its.toArray) he ⟨hit, p⟩ hlt hne (by simp [hne, ea]) fun x' h' tk hx' ho hst hT hsz hk => ?_
    obtain rfl : u = x' := Option.some.inj (by rw [← hu, ← hx']; simp)
    refine ⟨_, rfl, wpAny_letOwnedTupleGo_enum (s := { s with heap := h', toks := tk + 1 }) ho fun h'' he' sb => ?_⟩
    have T2 : h''.get? s.heap.objs.size = some { cls := .type "tuple", data := .seq #[.int i tk, u] } := (sb.2 _ (Nat.ne_of_gt el)).trans hT
    have new : ObjOk X.prog X.w (upd H s.heap.objs.size (.tup [.int (i : Nat), x])) h'' s.heap.objs.size (.tup [.int (i : Nat), x]) := ⟨by show 2 ≤ sizeLine; decide, [.int i tk, u], .cons ⟨_, rfl⟩ (.cons ru .nil), _, T2, rfl, _, rfl⟩
    have J : Inv X pins σ (upd H s.heap.objs.size (.tup [.int (i : Nat), x])) { s with heap := h'', toks := tk + 1 } :=
      I.turnedNew (ch := [e, it]) (fun b ob hb q => (sb.2 b fun z => hb (by simp [z])).trans (hk b ob (fun z => hb (by simp [z])) (fun z => hb (by simp [z])) q)) hf (Nat.le_refl _) new
    refine ⟨.ref s.heap.objs.size, _, J, rfl, ⟨_, x, rfl, I.hok.fresh (Nat.le_refl _), rfl, fun ys hy => by rw [I.tuple_inj hy hq]; exact hx⟩, ⟨⟨u, ?_⟩, hst.1.at fun o q => (sb.2 it (Ne.symm hne)).trans q, hne⟩, fun b hb => ?_⟩
    · rw [show ((i + 1 : Nat) : Int) = (i : Int) + 1 by omega]; exact he'
    · have hb' : b < s.heap.objs.size := by
        rcases List.mem_cons.mp hb with rfl | z
        · exact el
        · rw [List.mem_singleton.mp z]; exact il
      rw [upd_ne (Nat.ne_of_lt hb')]
      exact (hf b hb).1
  · rintro X hP hw hK hc i pins s σ H E I hf ⟨⟨old, he⟩, hit, hne⟩ ⟨xs, hq, hx⟩
    subst hP hw hK
    obtain ⟨its, rv, p, hz⟩ := I.tuple hq
    have p : s.heap.IsTuple a its.toArray := p
    obtain ⟨f0, f1, f2, f3, f4, f5⟩ := hf it (by simp)
    have hl := rv.length
    have T : s.TypeIs (.ref e) "enumerate" := ⟨_, he, rfl⟩
    unfold pyNext
    refine wpAny_bind (wpAny_attempt (wpAny_callSpecial?_slot (name := Str.ofString "__next__") T F.slot_enumerate_next (wpAny_call_entry F.slot_enumerate_next T F.entry_enumerate_next ?_ (F.args_enumerate_next_1 _))))
    show wpAny _ _ (field (.ref e) 2 >>= _) _ _ _
    refine wpAny_bind (wpAny_field he rfl (x := .ref it) rfl (wpAny_bind (wpAny_nextOf_tuple_end (I.ok.hd hc) hit p (by simp; omega) fun h' x eb hx' => ?_)))
    obtain ⟨o, ho, hc2⟩ := hx'
    refine wpAny_bind (wpAny_isInstance (T := "StopIteration") (b := true) ⟨o, ho, hc2⟩ isSubtype_stop (wpAny_pure ?_))
    exact ⟨rfl, I.turned (t' := s.toks) (fun b o hb q => eb b o hb q) f0 f1 f3 f4 f5⟩
def iEnT (K : PySem.W.Frag) (ta : TA) : TI := fun σ H R => ta σ H fun vs H1 => ∃ a xs, vs = [.ref a] ∧ SqT K H1 a xs ∧ R (IeT K a) H1
theorem pi_enumT {X : Cx} {e : Expr} {ta : TA} {p pos tpos : Pos} {elts : List Expr} {kk : Nat} (hg : Gl X "enumerate") (hm : X.mg "enumerate" = none) (ha : PA X [e] ta) (hs : starEach [e] X.env = [(false, eval e X.env)]) :
    PI X (.Tuple elts kk tpos) (.Call (.Name "enumerate" p) [e] [] pos) (iEnT X.K ta) := by
  refine ⟨fun pins s σ H R I h => Call_ (ld_blt I hg hm boot_enumerate (PyProof.Rows.callWith_type1 (thn (ha.run pos pins s σ H _ I h) fun us s1 ⟨vs, H1, I1, r1, a, xs, ex, hq, q⟩ => ?_) hs rfl))⟩
  subst ex
  cases r1 with
  | cons r rr =>
    cases rr; cases r
    obtain ⟨its, rv, p', hz⟩ := I1.tuple hq
    refine enum_call (begins_tuple a its.toArray) (show s1.heap.IsTuple a its.toArray from p') fun h' he hit hk => wpAny_pyIter_enum he ?_
    refine ⟨s1.heap.objs.size + 1, [s1.heap.objs.size + 1, s1.heap.objs.size], _, _, H1, rfl, I1.kept (t' := s1.toks) hk, turn_enumT a (s1.heap.objs.size + 1) s1.heap.objs.size, ⟨⟨.none, he⟩, ⟨_, hit, rfl, rfl⟩, Nat.succ_ne_self _⟩, fun b hb => ?_, q⟩
    have hle : s1.heap.objs.size ≤ b := by
      rcases List.mem_cons.mp hb with rfl | z
      · exact Nat.le_add_right _ _
      · rw [List.mem_singleton.mp z]; exact Nat.le_refl _
    exact I1.fpOk hle (I1.hok.fresh hle)
def enumF : Nat → List PyData → List PyData
  | _, [] => []
  | n, d :: ds => .tuple [.int (n : Int), d] :: enumF (n + 1) ds
theorem enumF_get : ∀ (ds : List PyData) (n i : Nat) (w : PyData), (enumF n ds)[i]? = some w → ∃ d, ds[i]? = some d ∧ w = .tuple [.int ((n + i : Nat) : Int), d]
  | [], _, _, _, h => by simp [enumF] at h
  | d :: ds, n, 0, w, h => by
    have h' : some (PyData.tuple [.int (n : Int), d]) = some w := h
    cases h'
    exact ⟨d, rfl, rfl⟩
  | d :: ds, n, i + 1, w, h => by
    obtain ⟨d', h1, h2⟩ := enumF_get ds (n + 1) i w h
    exact ⟨d', h1, by rw [h2, show n + 1 + i = n + (i + 1) by omega]⟩
theorem enumF_len : ∀ (ds : List PyData) (n : Nat), (enumF n ds).length = ds.length
  | [], _ => rfl
  | _ :: ds, n => congrArg (· + 1) (enumF_len ds (n + 1))
theorem yl_enum {K : PySem.W.Frag} {F : Hp} {J : It} {xs : List V} {ds : List PyData} (k : RpAll K F xs ds) (hgo : ∀ F' H i x, Same F F' → Same F' H → xs[i]? = some x → J.go i H) (hst : ∀ F' H, Same F F' → Same F' H → J.stop xs.length H)
    (hy : ∀ F' H i x v H', Same F F' → Same F' H → xs[i]? = some x → J.yld i H v H' → ∃ T, v = .ref T ∧ H T = none ∧ H' = upd H T (.tup [.int (i : Nat), x])) : Yields K F J ((enumF 0 ds).map .d) := by
  intro F' H μ G s c
  refine ⟨fun i w ew => ?_, ?_⟩
  · rw [List.getElem?_map] at ew
    cases q : (enumF 0 ds)[i]? with
    | none => rw [q] at ew; cases ew
    | some w' =>
      rw [q] at ew
      cases ew
      obtain ⟨d, ed, rfl⟩ := enumF_get ds 0 i w' q
      obtain ⟨v, ev, rv⟩ := k.get ed
      refine ⟨hgo F' H i v s c.sub ev, fun x H' hyl => ?_⟩
      obtain ⟨T, rfl, hT, rfl⟩ := hy F' H i v x H' s c.sub ev hyl
      obtain ⟨s1, c1⟩ := c.lay hT (.tup [.int (i : Nat), v])
      refine ⟨_, s1, c1, ?_⟩
      rw [Nat.zero_add]
      exact .tup (.inl (.inl upd_same)) (.cons (.int _) (.cons ((rv.mono s _).mono s1 _) .nil))
  · rw [List.length_map, enumF_len, ← k.len]
    exact hst F' H s c.sub
section
variable {X : Cx}
theorem yl_enumT {K : PySem.W.Frag} {F : Hp} {a : Addr} {xs : List V} {ds : List PyData} (e : SqT K F a xs) (k : RpAll K F xs ds) : Yields K F (IeT K a) ((enumF 0 ds).map .d) := by
  have sq : ∀ {F' H : Hp}, Same F F' → Same F' H → SqT K H a xs := fun s c => SqT_mono c (SqT_mono s e)
  refine yl_enum k (fun F' H i x s c ev => ⟨xs, x, sq s c, ev⟩) (fun F' H s c => ⟨xs, sq s c, Nat.le_refl _⟩) fun F' H i x v H' s c ev ⟨T, x', ex, hT, eH, f⟩ => ⟨T, ex, hT, ?_⟩
  cases Option.some.inj ((f _ (sq s c)).symm.trans ev)
  exact eH
theorem yl_enumL {K : PySem.W.Frag} {F : Hp} {a : Addr} {xs : List V} {ds : List PyData} (e : SqL K F a xs) (k : RpAll K F xs ds) : Yields K F (Ite K a) ((enumF 0 ds).map .d) := by
  have sq : ∀ {F' H : Hp}, Same F F' → Same F' H → SqL K H a xs := fun s c => c.seq (s.seq e)
  refine yl_enum k (fun F' H i x s c ev => ⟨xs, x, sq s c, ev⟩) (fun F' H s c => ⟨xs, sq s c, Nat.le_refl _⟩) fun F' H i x v H' s c ev ⟨T, x', ex, hT, eH, f⟩ => ⟨T, ex, hT, ?_⟩
  cases Option.some.inj ((f _ (sq s c)).symm.trans ev)
  exact eH
def tItET (t : DTA) : DTI := fun ρ μ R => t ρ μ fun ws μ1 => match ws with
  | [.d (.tuple ds)] => R ((enumF 0 ds).map .d) μ1
  | _ => False
def tItEL (t : DTA) : DTI := fun ρ μ R => t ρ μ fun ws μ1 => match ws with
  | [.d (.list ds)] => R ((enumF 0 ds).map .d) μ1
  | _ => False
theorem di_enumT {a : Expr} {ta : DTA} {p pos tpos : Pos} {elts : List Expr} {kk : Nat} (hg : Gl X "enumerate") (hm : X.mg "enumerate" = none) (ha : DA X [a] ta) (hs : starEach [a] X.env = [(false, eval a X.env)]) : DI X (.Tuple elts kk tpos) (.Call (.Name "enumerate" p) [a] [] pos) (tItET ta) :=
  ⟨PI_mono (pi_enumT hg hm ha.pa hs) fun σ H Q ⟨F, ρ, μ, G, R, c, rs, h, fin⟩ => lA_go c rs h fun ws μ1 F1 H1 vs r1 s1 c1 q1 => by
    try dsimp only at r1
    split at r1
    · cases q1 with
      | cons r t => cases t; cases r with
        | tup e k => exact ⟨_, _, rfl, SqT_mono c1.sub e, fin _ _ _ _ _ r1 s1 c1 (yl_enumT e k)⟩
    · exact r1.elim⟩
theorem di_enumL {a : Expr} {ta : DTA} {p pos tpos : Pos} {elts : List Expr} {kk : Nat} (hg : Gl X "enumerate") (hm : X.mg "enumerate" = none) (ha : DA X [a] ta) (hs : starEach [a] X.env = [(false, eval a X.env)]) : DI X (.Tuple elts kk tpos) (.Call (.Name "enumerate" p) [a] [] pos) (tItEL ta) :=
  ⟨PI_mono (pi_enum hg hm ha.pa hs) fun σ H Q ⟨F, ρ, μ, G, R, c, rs, h, fin⟩ => lA_go c rs h fun ws μ1 F1 H1 vs r1 s1 c1 q1 => by
    try dsimp only at r1
    split at r1
    · cases q1 with
      | cons r t => cases t; cases r with
        | lst e k => exact ⟨_, _, rfl, .inl (.inl (c1.sub _ _ e)), fin _ _ _ _ _ r1 s1 c1 (yl_enumL (.inl (.inl e)) k)⟩
    · exact r1.elim⟩

/-! ### starred things -/
def seqOf : W → Option (List PyData)
  | .d (.tuple ds) => some ds
  | .d (.list ds) => some ds
  | _ => none
theorem seqOf_ok {K : PySem.W.Frag} {F H : Hp} {x : V} {w : W} {ds : List PyData} (sm : Same F H) (r : Rw K F x w) (e : seqOf w = some ds) : ∃ a xs, x = .ref a ∧ (SqT K H a xs ∨ SqL K H a xs) ∧ RpAll K F xs ds := by
  unfold seqOf at e
  split at e
  · cases e
    cases (show Rp K F x _ from r) with
    | tup e k => exact ⟨_, _, rfl, .inl (SqT_mono sm e), k⟩
  · cases e
    cases (show Rp K F x _ from r) with
    | lst e k => exact ⟨_, _, rfl, .inr (.inl (.inl (sm _ _ e))), k⟩
  · cases e
def tStarD (te : DTE) (tr : DTA) : DTA := fun ρ μ R => te ρ μ fun x μ1 => onS (seqOf x) fun ds => tr ρ μ1 fun xs μ2 => R (ds.map .d ++ xs) μ2
theorem da_star {e : Expr} {p : Pos} {es : List Expr} {te : DTE} {tr : DTA} (he : DE X e te) (hr : DA X es tr) (hs : starEach (.Starred e p :: es) X.env = (true, eval e X.env) :: starEach es X.env) : DA X (.Starred e p :: es) (tStarD te tr) :=
  ⟨PA_mono (StX.pa_star he.pe hr.pa hs) fun σ H Q ⟨F, ρ, μ, G, R, c, rs, h, fin⟩ => lE_go c rs h fun wx μ1 F1 H1 x r1 s1 c1 q1 => by
    obtain ⟨ds, ed, r1⟩ := onS_ok r1
    obtain ⟨a, xs, ex, hx, k⟩ := seqOf_ok c1.sub q1 ed
    exact ⟨a, xs, ex, hx, lA_go c1 (rs.mono s1) r1 fun ws μ2 F2 H2 vs r2 s2 c2 q2 => fin _ _ _ _ _ r2 (s1.trans s2) c2 ((rw_of_rp (RpAll.mono s2 _ k)).app q2)⟩⟩
theorem q_seqT {ds : List PyData} : seqOf (.d (.tuple ds)) = some ds := rfl
theorem q_seqL {ds : List PyData} : seqOf (.d (.list ds)) = some ds := rfl

/-! ### comprehensions over pairs -/
def compP (i j : Nat) (tt : DTT) (te : DTE) (ρ : Sl) : List W → List W → M → (List W → M → Prop) → Prop
  | [], acc, μ, R => R acc μ
  | .d (.tuple [a, b]) :: r, acc, μ, R => tt ((ρ.set i (some (.d a))).set j (some (.d b))) μ fun k μ1 => if k = true then te ((ρ.set i (some (.d a))).set j (some (.d b))) μ1 fun y μ2 => acc.length < sizeLine ∧ compP i j tt te ρ r (acc ++ [y]) μ2 R else compP i j tt te ρ r acc μ1 R
  | _ :: _, _, _, _ => False
def tCompP (t : DTI) (i j : Nat) (tt : DTT) (te : DTE) (vs : List Nat) (fin : List W → M → DQ → Prop) : DTE := fun ρ μ R => t ρ μ fun ws μ1 => compP i j tt te (wipeD ρ vs) ws [] μ1 fun acc μ2 => fin acc μ2 R
abbrev gPair (K : PySem.W.Frag) (i j : Nat) : TG := gTup K 2 (gCons (gName i) (gCons (gName j) gNil))
theorem wipe_set2 {σ : L2.St} {vs : List Nat} {i j : Nat} {x y : Option V} (hi : i ∈ vs) (hj : j ∈ vs) : wipe (((wipe σ vs).set i x).set j y) vs = wipe σ vs := by
  refine wipe_ext (by rw [List.length_set, List.length_set, wipe_length]) fun l hl => ?_
  have e1 : j ≠ l := fun z => hl (z ▸ hj)
  have e2 : i ≠ l := fun z => hl (z ▸ hi)
  rw [List.getElem?_set, if_neg e1, List.getElem?_set, if_neg e2, wipe_out hl]
theorem compP_pair {i j : Nat} {tt : DTT} {te : DTE} {ρ : Sl} {x : W} {r acc : List W} {μ : M} {R : List W → M → Prop} (h : compP i j tt te ρ (x :: r) acc μ R) : ∃ a b, x = .d (.tuple [a, b]) ∧
    tt ((ρ.set i (some (.d a))).set j (some (.d b))) μ fun k μ1 => if k = true then te ((ρ.set i (some (.d a))).set j (some (.d b))) μ1 fun y μ2 => acc.length < sizeLine ∧ compP i j tt te ρ r (acc ++ [y]) μ2 R else compP i j tt te ρ r acc μ1 R := by
  rcases x with x | _ | _
  · rcases x with _ | _ | _ | _ | _ | ds | _
    · exact h.elim
    · exact h.elim
    · exact h.elim
    · exact h.elim
    · exact h.elim
    · rcases ds with _ | ⟨a, _ | ⟨b, _ | ⟨c, ds⟩⟩⟩
      · exact h.elim
      · exact h.elim
      · exact ⟨a, b, rfl, h⟩
      · exact h.elim
    · exact h.elim
  · exact h.elim
  · exact h.elim
theorem lc_readP {t : DTI} {i j : Nat} {tt : DTT} {te : DTE} {vs : List Nat} {e : List W → M → DQ → Prop} (he : CEnd X.K e) (hi : i ∈ vs) (hj : j ∈ vs) {σ : L2.St} {H : Hp} {Q : VK} (h : lE X.K (tCompP t i j tt te vs e) σ H Q) : tLc (lI X.K t) (gPair X.K i j) (lT X.K tt) (lE X.K te) vs σ H Q := by
  obtain ⟨F, ρ, μ, G, R, c, rs, h, fin⟩ := h
  refine ⟨F, ρ, μ, G, _, c, rs, h, fun ws μ1 F1 H1 J r1 s1 c1 y p hp => ?_⟩
  have hG := c1.noG hp
  let Inv2 : List W → Hp → Prop := fun rest H => ∃ F' μ' vs' acc, Same F1 F' ∧ Cn X.K F' H μ' (upd G p (.lst vs')) ∧ RwAll X.K F' vs' acc ∧ compP i j tt te (wipeD ρ vs) rest acc μ' (fun acc μ2 => e acc μ2 R)
  refine ⟨fun n m H => m + n = ws.length ∧ Inv2 (ws.drop n) H, ⟨ws.length, rfl, F1, μ1, [], [], Same.refl _, c1.apartL hp _, .nil, r1⟩, fun n m H ⟨em, F', μ', vs', acc, s, c, ra, h⟩ => ?_⟩
  obtain ⟨yg, ys⟩ := y F' H μ' _ s c
  by_cases hn : n < ws.length
  · have ew : ws[n]? = some ws[n] := List.getElem?_eq_getElem hn
    rw [List.drop_eq_getElem_cons hn] at h
    obtain ⟨go, yl⟩ := yg n _ ew
    refine .inr ⟨go, Inv2 (ws.drop (n + 1)), fun H' hN => ⟨m - 1, by omega, by omega, hN⟩, fun x H' hy => ?_⟩
    obtain ⟨F2, s2, c2, r2⟩ := yl x H' hy
    generalize ws[n] = wn at h r2
    obtain ⟨a, b, rfl, h⟩ := compP_pair h
    · cases (show Rp X.K F2 x _ from r2) with
      | tup e2 k2 =>
        cases k2 with
        | cons ka k2 =>
          cases k2 with
          | cons kb k2 =>
            cases k2
            rename_i T va vb
            have rs2 : Rs X.K F2 (((L2.wipe σ vs).set i (some va)).set j (some vb)) (((wipeD ρ vs).set i (some (.d a))).set j (some (.d b))) := (((((rs.mono s1).mono s).mono s2).wipe vs).set i (w := .d a) ka).set j (w := .d b) kb
            refine ⟨T, _, rfl, SqT_mono c2.sub e2, rfl, va, _, rfl, vb, _, rfl, rfl, wipe_set2 hi hj, F2, _, _, _, _, c2, rs2, h, fun q μ3 F3 H3 r3 s3 c3 => ?_⟩
            cases q with
            | true =>
              rw [if_pos rfl] at r3 ⊢
              refine lE_go c3 (rs2.mono s3) r3 fun w μ4 F4 H4 v r4 s4 c4 q4 => ?_
              have s24 := (s2.trans s3).trans s4
              exact ⟨vs', c4.fr _ _ upd_same, by rw [RwAll.len ra]; exact r4.1, F4, μ4, vs' ++ [v], acc ++ [w], s.trans s24, c4.turnL, (ra.mono s24).app (.cons q4 .nil), r4.2⟩
            | false =>
              rw [if_neg Bool.false_ne_true] at r3 ⊢
              exact ⟨F3, μ3, vs', acc, (s.trans s2).trans s3, c3, ra.mono (s2.trans s3), r3⟩
  · have en : n = ws.length := by omega
    subst en
    rw [List.drop_length] at h
    exact .inl ⟨ys, he c hG ra h (fin.mono (s1.trans s))⟩
theorem de_lcP {e : Expr} {t : DTI} {i j : Nat} {tt : DTT} {te : DTE} {vs : List Nat} {en : List W → M → DQ → Prop} (h : PE X e (tLc (lI X.K t) (gPair X.K i j) (lT X.K tt) (lE X.K te) vs)) (he : CEnd X.K en) (hi : i ∈ vs) (hj : j ∈ vs) : DE X e (tCompP t i j tt te vs en) :=
  ⟨PE_mono h fun σ H Q q => lc_readP he hi hj q⟩
theorem ds_setLcP {st : Stmt} {l : Nat} {t : DTI} {i j : Nat} {tt : DTT} {te : DTE} {vs : List Nat} {en : List W → M → DQ → Prop} (h : PS X st (tAsg (tLc (lI X.K t) (gPair X.K i j) (lT X.K tt) (lE X.K te) vs) (gName l))) (he : CEnd X.K en) (hi : i ∈ vs) (hj : j ∈ vs) : DS X st (tSetD l (tCompP t i j tt te vs en)) :=
  ds_set (PS_mono h fun D σ H q => lc_readP he hi hj q)
theorem pg_pair {i j : Nat} {x y : Str} {px py tp : Pos} {n : Nat} (hc : X.calm = true) (h1 : PG X (.Name x px) (gName i)) (h2 : PG X (.Name y py) (gName j)) : PG X (.Tuple [.Name x px, .Name y py] n tp) (gPair X.K i j) := pg_tup hc (pgs_cons h1 (pgs_cons h2 pgs_nil))
/-- a pass over pairs that changes nothing -/
theorem compP_map {α : Type} {i j : Nat} {tt : DTT} {te : DTE} {ρ : Sl} {acc : List W} {μ : M} {C : List W → M → Prop} (g1 g2 : α → PyData) (l : List α) (p : α → Bool) (f : α → PyData)
    (ht : ∀ x ∈ l, ∀ Z : Bool → M → Prop, Z (p x) μ → tt ((ρ.set i (some (.d (g1 x)))).set j (some (.d (g2 x)))) μ Z) (hf : ∀ x ∈ l, p x = true → ∀ Z : DQ, Z (.d (f x)) μ → te ((ρ.set i (some (.d (g1 x)))).set j (some (.d (g2 x)))) μ Z) (hz : acc.length + l.length ≤ sizeLine)
    (he : C (acc ++ ((l.filter p).map f).map .d) μ) : compP i j tt te ρ (l.map fun x => .d (.tuple [g1 x, g2 x])) acc μ C := by
  induction l generalizing acc with
  | nil => simpa [compP] using he
  | cons x r ih =>
    rw [List.map_cons]
    unfold compP
    apply ht x List.mem_cons_self
    have ht' := fun y hy => ht y (List.mem_cons_of_mem x hy)
    have hf' := fun y hy => hf y (List.mem_cons_of_mem x hy)
    rw [List.length_cons] at hz
    cases q : p x with
    | true =>
      rw [if_pos rfl]
      apply hf x List.mem_cons_self q
      rw [List.filter_cons_of_pos q] at he
      exact ⟨by omega, ih ht' hf' (by rw [List.length_append, List.length_singleton]; omega) (by simpa using he)⟩
    | false =>
      rw [if_neg Bool.false_ne_true]
      rw [List.filter_cons_of_neg (by rw [q]; exact Bool.false_ne_true)] at he
      exact ih ht' hf' (by omega) he

/-- a comprehension within a comprehension -/
theorem lk_relabel (env : Env) : ∀ {names : List (Str × NameKind)} {x : Str}, names.lookup x = some .cell ∨ names.lookup x = some .free →
    (names.map fun (n, k) => if (k == .free && env.scope.kind == .function && env.kindOf n == some .cell) then (n, NameKind.cell) else (n, k)).lookup x = some .cell ∨
    (names.map fun (n, k) => if (k == .free && env.scope.kind == .function && env.kindOf n == some .cell) then (n, NameKind.cell) else (n, k)).lookup x = some .free
  | [], _, h => by rcases h with h | h <;> cases h
  | (n, k) :: r, x, h => by
    have ih := @lk_relabel env r x
    by_cases hx : (x == n) = true
    · have hk : k = .cell ∨ k = .free := by
        simp only [List.lookup_cons, hx] at h
        rcases h with h | h <;> (cases h; first | exact .inl rfl | exact .inr rfl)
      have key : ∀ m : NameKind, List.lookup x ((n, m) :: List.map (fun (n, k) => if (k == .free && env.scope.kind == .function && env.kindOf n == some .cell) then (n, NameKind.cell) else (n, k)) r) = some m := fun m => by rw [List.lookup_cons, hx]
      rw [List.map_cons]
      by_cases hc : (k == .free && env.scope.kind == .function && env.kindOf n == some .cell) = true
      · simp only [hc, if_true]; exact .inl (key _)
      · simp only [hc]
        rcases hk with rfl | rfl
        · exact .inl (key _)
        · exact .inr (key _)
    · have hx' : (x == n) = false := by simpa using hx
      have key : ∀ (m : NameKind) (l : List (Str × NameKind)), List.lookup x ((n, m) :: l) = List.lookup x l := fun m l => by rw [List.lookup_cons, hx']
      rw [key] at h
      rw [List.map_cons]
      by_cases hc : (k == .free && env.scope.kind == .function && env.kindOf n == some .cell) = true
      · simp only [hc, if_true]; rw [key]; exact ih h
      · simp only [hc]; exact (key _ _).symm ▸ ih h
theorem blkOk_in {N : List Str} {sc scope : Scope} {own : List (Str × Nat)} {env : Env} (h : blkC N sc scope own = true) : BlkOk N (relabel sc env) scope own := by
  have b := blkOk_by h
  exact ⟨b.kind, b.uniq, b.ix, fun y hy e => lk_relabel env (b.free y hy e), b.own⟩
/-! ### a def that calls itself: at depth 0 it promises nothing -/
theorem fg_never {P : Program} {w : World} {K : PySem.W.Frag} {mg : Str → Option Value} {base : Heap} {CX : CXT} {k : Nat} {f : Addr} {fd : FuncData} {ps : List Str} {ds : DSp} (h : ∀ ws μ R, ¬ ds ws μ R) : FG P w K mg base CX k f fd ps (lSp K ds) :=
  ⟨fun vs H Q E ⟨_, _, _, _, _, _, _, z, _⟩ => (h _ _ _ z).elim, fun A outer s H args us vs Q E hr hg he hb hv ⟨_, _, _, _, _, _, _, z, _⟩ => (h _ _ _ z).elim⟩

/-! ### a written table of tuples of texts -/
structure KTabD (K : PySem.W.Frag) (w : World) (mg : Str → Option Value) (x : Str) (tab : Str → Option PyData) : Prop where
  ex : ∃ p, mg x = some (.ref p) ∧ ∀ z d, tab z = some d → ∃ v, KDct K w p z v ∧ ∀ F, Rp K F v d
def tTabD (tab : Str → Option PyData) (tb : DTE) : DTE := fun ρ μ R => tb ρ μ fun w μ1 => match w with
  | .d (.str z) => onS (tab z) fun d => R (.d d) μ1
  | _ => False
theorem de_tabD {x : Str} {p pos : Pos} {b : Expr} {tb : DTE} {tab : Str → Option PyData} (c : KTabD X.K X.w X.mg x tab) (hg : Gl X x) (hd : (x == ("__debug__" : Str)) = false) (hb : DE X b tb) (pl : PlainIx b) : DE X (.Subscript (.Name x p) b pos) (tTabD tab tb) := by
  obtain ⟨a, hm, ht⟩ := c.ex
  refine ⟨PE_mono (pe_ix ix_kdict (pe_glob (v := .ref a) hg hm rfl hd) hb.pe pl) fun σ H Q ⟨F, ρ, μ, G, R, c, rs, h, fin⟩ => ?_⟩
  refine lE_go c rs h fun wb μ1 F1 H1 y r1 s1 c1 q1 => ?_
  try dsimp only at r1
  split at r1
  · rename_i z
    cases (show Rp X.K F1 y (.str z) from q1)
    obtain ⟨d, ed, r⟩ := onS_ok r1
    obtain ⟨v, kv, rv⟩ := ht z d ed
    exact ⟨a, z, v, rfl, rfl, kv, fin _ _ _ _ _ r s1 c1 (rv F1)⟩
  · exact r1.elim
end
end DL

set_option Elab.async false
set_option linter.all false
set_option maxRecDepth 100000
set_option maxHeartbeats 2000000
/-! a list that may change, looked at as the data that it holds -/
namespace DL
open PySem PySem.Spec PyProof.Rows L2
def vw (w : W) (μ : M) : W := match w with
  | .v (.ref a) => match μ a with
    | some (.lst ws) => match dats ws with
      | some ds => .d (.list ds)
      | none => .v (.ref a)
    | _ => .v (.ref a)
  | w => w
section
variable {K : PySem.W.Frag} {F F0 H G : Hp} {μ : M}
theorem same_frz {a : Addr} {o : HO} (h0 : Same F0 H) (ho : H a = some o) : Same F0 (upd F0 a o) ∧ Same (upd F0 a o) H := by
  refine ⟨fun b x e => ?_, fun b x e => ?_⟩
  · by_cases z : b = a
    · subst z
      rw [upd_same, ← ho, h0 _ _ e]
    · rw [upd_ne z]; exact e
  · by_cases z : b = a
    · subst z
      rw [upd_same] at e
      rw [ho, ← e]
    · rw [upd_ne z] at e; exact h0 _ _ e
theorem vw_ok {x : V} {w : W} (c : Cn K F H μ G) (s0 : Same F F0) (h0 : Same F0 H) (r : Rw K F x w) : ∃ F', Same F0 F' ∧ Same F' H ∧ Rw K F' x (vw w μ) := by
  have triv : ∃ F', Same F0 F' ∧ Same F' H ∧ Rw K F' x w := ⟨F0, Same.refl _, h0, r.mono s0⟩
  unfold vw
  split
  · rename_i a
    cases em : μ a with
    | none => exact triv
    | some m =>
      cases m with
      | lst ws =>
        cases ed : dats ws with
        | none => simp only [em, ed]; exact triv
        | some ds =>
          simp only [em, ed]
          obtain ⟨_, _, o, ho, vs, rfl, k⟩ := c.mu a _ em
          cases (show x = .ref a from r)
          obtain ⟨s1, s2⟩ := same_frz h0 ho
          exact ⟨_, s1, s2, Rp.lst upd_same (dats_ok (k.mono (s0.trans s1)) ed)⟩
      | tup ws => exact triv
      | dct kvs => exact triv
      | ins C dx fs => exact triv
      | exc nm ea ed => exact triv
      | xd fs => exact triv
  · exact triv
def eqV : D2 := fun x y μ R => eqD (vw x μ) (vw y μ) μ R
def neV : D2 := fun x y μ R => neD (vw x μ) (vw y μ) μ R
theorem l_eqV : Lift2 K (rEqP K) eqV := by
  intro F H G μ x y wx wy R Q c rx ry h fin
  obtain ⟨F1, s1, h1, r1⟩ := vw_ok c (Same.refl _) c.sub rx
  obtain ⟨F2, s2, h2, r2⟩ := vw_ok c s1 h1 ry
  unfold eqV eqD at h
  split at h
  · rename_i a b e1 e2
    rw [e1] at r1
    rw [e2] at r2
    exact ⟨F2, a, b, h2, Rp.mono s2 _ r1, r2, h.1, h.2.1, h.2.2.1, fin.flat c h.2.2.2 (.bl _)⟩
  · exact h.elim
theorem l_neV : Lift2 K (rNeP K) neV := by
  intro F H G μ x y wx wy R Q c rx ry h fin
  obtain ⟨F1, s1, h1, r1⟩ := vw_ok c (Same.refl _) c.sub rx
  obtain ⟨F2, s2, h2, r2⟩ := vw_ok c s1 h1 ry
  unfold neV neD at h
  split at h
  · rename_i a b e1 e2
    rw [e1] at r1
    rw [e2] at r2
    exact ⟨F2, a, b, h2, Rp.mono s2 _ r1, r2, h.1, h.2.1, h.2.2.1, fin.flat c h.2.2.2 (.bl _)⟩
  · exact h.elim
def reprV : DC := fun ws μ R => match ws with
  | [w] => match vw w μ with
    | .d .none => R (.d (.str (Str.ofString "None"))) μ
    | .d (.list ds) => PyData.plainAll ds = true ∧ PyData.showable (.list ds) = true ∧ PyData.depth (.list ds) ≤ 60 ∧ (PyData.shown (.list ds)).length ≤ sizeLine ∧ R (.d (.str (PyData.shown (.list ds)))) μ
    | .d (.tuple ds) => PyData.plainAll ds = true ∧ PyData.showable (.tuple ds) = true ∧ PyData.depth (.tuple ds) ≤ 60 ∧ (PyData.shown (.tuple ds)).length ≤ sizeLine ∧ R (.d (.str (PyData.shown (.tuple ds)))) μ
    | _ => False
  | _ => False
theorem l_reprV : LiftA K (fun xs H Q => rReprD K xs H Q ∨ (xs = [V.non] ∧ Q (.str (Str.ofString "None")) H)) reprV := by
  intro F H G μ vs ws R Q c rv h fin
  unfold reprV at h
  split at h
  · rename_i w
    cases rv with
    | cons r t =>
      cases t
      obtain ⟨F1, s1, h1, r1⟩ := vw_ok c (Same.refl _) c.sub r
      split at h
      · rename_i e
        rw [e] at r1
        cases r1
        exact .inr ⟨rfl, fin.flat c h (.str _)⟩
      · rename_i ds e
        rw [e] at r1
        cases (show Rp K F1 _ _ from r1) with
        | lst e k => exact .inl ⟨F1, _, _, rfl, h1, .lst e k, by simpa [PyData.plain] using h.1, h.2.1, h.2.2.1, h.2.2.2.1, fin.flat c h.2.2.2.2 (.str _)⟩
      · rename_i ds e
        rw [e] at r1
        cases (show Rp K F1 _ _ from r1) with
        | tup e k => exact .inl ⟨F1, _, _, rfl, h1, .tup e k, by simpa [PyData.plain] using h.1, h.2.1, h.2.2.1, h.2.2.2.1, fin.flat c h.2.2.2.2 (.str _)⟩
      · exact h.elim
  · exact h.elim
def tyNameV (w : W) (μ : M) : Option String := match w with
  | .v (.ref a) => match μ a with
    | some (.lst _) => some "list"
    | some (.tup _) => some "tuple"
    | some (.dct _) => some "dict"
    | _ => none
  | w => tyName w μ
theorem tyNameV_ok {v : V} {w : W} {n : String} (c : Cn K F H μ G) (r : Rw K F v w) (e : tyNameV w μ = some n) : TyX K H v (.type n) := by
  unfold tyNameV at e
  split at e
  · rename_i a
    cases (show v = .ref a from r)
    split at e
    · rename_i ws em
      cases e
      obtain ⟨_, _, o, ho, vs, rfl, k⟩ := c.mu a _ em
      exact .base (.lst ho)
    · rename_i ws em
      cases e
      obtain ⟨_, _, o, ho, vs, rfl, k⟩ := c.mu a _ em
      exact .base (.tup ho)
    · rename_i ws em
      cases e
      obtain ⟨_, _, o, ho, vs, rfl, k⟩ := c.mu a _ em
      exact .base (.dK ho)
    · cases e
  · exact tyName_ok c r e
def isiV : DC := fun ws μ R => match ws with
  | [x, .v (.ty T)] => onS (tyNameV x μ) fun n => onS (kitB n T) fun b => R (.d (.bool b)) μ
  | _ => False
theorem l_isiV : LiftA K (rIsi K) isiV := by
  intro F H G μ vs ws R Q c rv h fin
  unfold isiV at h
  split at h
  · rename_i x T
    cases rv with
    | cons r t =>
      cases t with
      | cons r2 t =>
        rename_i v1 vs1 v2 vs2
        cases t
        cases (show v2 = .ty T from r2)
        obtain ⟨n, en, h⟩ := onS_ok h
        obtain ⟨b, eb, h⟩ := onS_ok h
        exact ⟨_, _, _, _, b, rfl, .ty T, tyNameV_ok c r en, kit_ty eb, fin.flat c h (.bl _)⟩
  · exact h.elim
theorem vw_list {x : V} {w : W} {a : List PyData} (c : Cn K F H μ G) (r : Rw K F x w) (e : vw w μ = .d (.list a)) : ∃ p vs, x = .ref p ∧ H p = some (.lst vs) ∧ RpAll K F vs a := by
  unfold vw at e
  split at e
  · rename_i p
    cases (show x = .ref p from r)
    cases em : μ p with
    | none => rw [em] at e; cases e
    | some m =>
      cases m with
      | lst ws =>
        cases ed : dats ws with
        | none => simp only [em, ed] at e; cases e
        | some ds =>
          simp only [em, ed] at e
          cases e
          obtain ⟨_, _, o, ho, vs, rfl, k⟩ := c.mu p _ em
          exact ⟨p, vs, rfl, ho, dats_ok k ed⟩
      | tup ws => rw [em] at e; cases e
      | dct kvs => rw [em] at e; cases e
      | ins C dx fs => rw [em] at e; cases e
      | exc nm ea ed => rw [em] at e; cases e
      | xd fs => rw [em] at e; cases e
  · rw [e] at r
    cases (show Rp K F x _ from r) with
    | lst e k => exact ⟨_, _, rfl, c.sub _ _ e, k⟩
/-- a + b of two lists: a list that will change -/
def addM : D2 := fun x y μ R => match vw x μ, vw y μ with
  | .d (.list a), .d (.list b) => a.length + b.length ≤ sizeLine ∧ ∀ p, μ p = none → R (.v (.ref p)) (mset μ p (.lst ((a ++ b).map .d)))
  | _, _ => False
theorem l_addM : Lift2 K (rAddAll K) addM := by
  intro F H G μ x y wx wy R Q c rx ry h fin
  unfold addM at h
  split at h
  · rename_i a b e1 e2
    obtain ⟨p1, v1, rfl, h1, k1⟩ := vw_list c rx e1
    obtain ⟨p2, v2, rfl, h2, k2⟩ := vw_list c ry e2
    refine .inl (.inr ⟨_, _, _, _, rfl, rfl, h1, h2, by rw [k1.len, k2.len]; exact h.1, fun p hp => ?_⟩)
    exact fin _ _ _ _ _ (h.2 p (c.noM hp)) (Same.refl _) (c.born hp ⟨_, rfl, by rw [List.map_append]; exact RwAll.app k1.w k2.w⟩) rfl
  · exact h.elim
/-- xs.pop(0), xs.pop() -/
def pop0D : DM := fun x ws μ R => match x, ws with
  | .v (.ref a), [.d (.int 0)] => onS (μ a) fun m => match m with
    | .lst (y :: r) => R y (mset μ a (.lst r))
    | _ => False
  | _, _ => False
theorem l_pop0 : LiftM K rPopAt pop0D := by
  intro F H G μ x wx vs ws R Q c rx rv h fin
  unfold pop0D at h
  split at h
  · rename_i a
    cases (show x = .ref a from rx)
    obtain ⟨m, em, h⟩ := onS_ok h
    split at h
    · rename_i y r
      obtain ⟨_, _, o, ho, zs, rfl, k⟩ := c.mu _ _ em
      cases rv with
      | cons r1 t =>
        cases t
        cases (show Rp K F _ (.int 0) from r1)
        cases k with
        | cons ky kr =>
          exact ⟨_, _, 0, 0, _, rfl, rfl, ho, by decide, by decide, by simp [seqIndex?], rfl, fin _ _ _ _ _ h (Same.refl _) (c.write em ⟨_, rfl, kr⟩) ky⟩
    · exact h.elim
  · exact h.elim
def popD : DM := fun x ws μ R => match x, ws with
  | .v (.ref a), [] => onS (μ a) fun m => match m with
    | .lst ws => onS ws.getLast? fun w => R w (mset μ a (.lst ws.dropLast))
    | _ => False
  | _, _ => False
theorem RwAll.last {vs : List V} {ws : List W} {w : W} (k : RwAll K F vs ws) (e : ws.getLast? = some w) : ∃ y, vs[vs.length - 1]? = some y ∧ Rw K F y w := by
  rw [List.getLast?_eq_getElem?] at e
  rw [RwAll.len k]
  exact RwAll.get k e
theorem RwAll.dropLast : ∀ {vs : List V} {ws : List W}, RwAll K F vs ws → RwAll K F vs.dropLast ws.dropLast
  | _, _, .nil => .nil
  | _, _, .cons _ .nil => .nil
  | _, _, .cons r (.cons r2 t) => .cons r (RwAll.dropLast (.cons r2 t))
theorem l_pop : LiftM K rPop popD := by
  intro F H G μ x wx vs ws R Q c rx rv h fin
  unfold popD at h
  split at h
  · rename_i a
    cases (show x = .ref a from rx)
    cases rv
    obtain ⟨m, em, h⟩ := onS_ok h
    split at h
    · rename_i us
      obtain ⟨w, ew, h⟩ := onS_ok h
      obtain ⟨_, _, o, ho, zs, rfl, k⟩ := c.mu _ _ em
      obtain ⟨y, ey, ry⟩ := RwAll.last k ew
      exact ⟨_, _, y, rfl, rfl, ho, ey, fin _ _ _ _ _ h (Same.refl _) (c.write em ⟨_, rfl, RwAll.dropLast k⟩) ry⟩
    · exact h.elim
  · exact h.elim
/-- tuple(xs) -/
def tupofD : DC := fun ws μ R => match ws with
  | [w] => match vw w μ with
    | .d (.list ds) => R (.d (.tuple ds)) μ
    | .d (.tuple ds) => R (.d (.tuple ds)) μ
    | _ => False
  | _ => False
theorem l_tupof : LiftA K (fun xs H Q => ∃ p ys, xs = [V.ref p] ∧ ((SqL K H p ys ∧ ∀ l, H l = none → Q (.ref l) (upd H l (.tup ys))) ∨ (SqT K H p ys ∧ Q (.ref p) H))) tupofD := by
  intro F H G μ vs ws R Q c rv h fin
  unfold tupofD at h
  split at h
  · rename_i w
    cases rv with
    | cons r t =>
      cases t
      split at h
      · rename_i ds e
        obtain ⟨p, vs, rfl, hp, k⟩ := vw_list c r e
        refine ⟨p, vs, rfl, .inl ⟨.inl (.inl hp), fun l hl => ?_⟩⟩
        obtain ⟨s, c'⟩ := c.lay hl (.tup vs)
        exact fin _ _ _ _ _ h s c' (.tup (.inl (.inl upd_same)) (RpAll.mono s _ k))
      · rename_i ds e
        obtain ⟨F1, s1, h1, r1⟩ := vw_ok c (Same.refl _) c.sub r
        have ew : w = .d (.tuple ds) := by
          unfold vw at e
          split at e
          · rename_i a
            cases em : μ a with
            | none => rw [em] at e; cases e
            | some m =>
              cases m with
              | lst ws =>
                cases ed : dats ws with
                | none => simp only [em, ed] at e; cases e
                | some ds => simp only [em, ed] at e; cases e
              | tup ws => rw [em] at e; cases e
              | dct kvs => rw [em] at e; cases e
              | ins C dx fs => rw [em] at e; cases e
              | exc nm ea ed => rw [em] at e; cases e
              | xd fs => rw [em] at e; cases e
          · exact e
        subst ew
        cases (show Rp K F _ _ from r) with
        | tup e k => exact ⟨_, _, rfl, .inr ⟨SqT_mono c.sub e, fin.flat c h (.tup e k)⟩⟩
      · exact h.elim
  · exact h.elim
def revMD : DM := fun x ws μ R => match x, ws with
  | .v (.ref a), [] => onS (μ a) fun m => match m with
    | .lst ws => R (.d .none) (mset μ a (.lst ws.reverse))
    | _ => False
  | _, _ => False
theorem l_revM : LiftM K rReverse revMD := by
  intro F H G μ x wx vs ws R Q c rx rv h fin
  unfold revMD at h
  split at h
  · rename_i a
    cases (show x = .ref a from rx)
    cases rv
    obtain ⟨m, em, h⟩ := onS_ok h
    split at h
    · obtain ⟨_, _, o, ho, zs, rfl, k⟩ := c.mu _ _ em
      exact ⟨_, _, rfl, rfl, ho, fin _ _ _ _ _ h (Same.refl _) (c.write em ⟨_, rfl, rw_rev k⟩) .non⟩
    · exact h.elim
  · exact h.elim
end
section
variable {μ : M} {R : DQ} {d e : PyData} {p : Addr} {w : W} {ws : List W}
theorem q_vwd : vw (.d d) μ = .d d := rfl
theorem q_vwm {ds : List PyData} (h : μ p = some (.lst (ds.map .d))) : vw (.v (.ref p)) μ = .d (.list ds) := by
  unfold vw
  simp only [h, dats_map]
theorem q_vws {ds : List PyData} : vw (.v (.ref p)) (mset μ p (.lst (ds.map .d))) = .d (.list ds) := q_vwm mset_same
theorem q_vws0 : vw (.v (.ref p)) (mset μ p (.lst [])) = .d (.list []) := q_vwm (ds := []) mset_same
theorem q_eqVd {y : W} : eqV (.d d) y μ R = eqD (.d d) (vw y μ) μ R := rfl
theorem q_neVd {y : W} : neV (.d d) y μ R = neD (.d d) (vw y μ) μ R := rfl
theorem q_eqVv {x y : W} : eqV x y μ R = eqD (vw x μ) (vw y μ) μ R := rfl
theorem q_neVv {x y : W} : neV x y μ R = neD (vw x μ) (vw y μ) μ R := rfl
theorem q_isiV {x : W} {T : String} : isiV [x, .v (.ty T)] μ R = onS (tyNameV x μ) fun n => onS (kitB n T) fun b => R (.d (.bool b)) μ := rfl
theorem q_tyNd : tyNameV (.d d) μ = tyName (.d d) μ := rfl
theorem q_tyNm (h : μ p = some (.lst ws)) : tyNameV (.v (.ref p)) μ = some "list" := by unfold tyNameV; simp only [h]
theorem q_tyNt (h : μ p = some (.tup ws)) : tyNameV (.v (.ref p)) μ = some "tuple" := by unfold tyNameV; simp only [h]
theorem q_tyNu : tyNameV (.v (.ref p)) (mset μ p (.tup ws)) = some "tuple" := q_tyNt mset_same
theorem q_tyNs : tyNameV (.v (.ref p)) (mset μ p (.lst ws)) = some "list" := q_tyNm mset_same
theorem q_reprVN : reprV [.d .none] μ R = R (.d (.str (Str.ofString "None"))) μ := rfl
theorem q_reprVT {xs : List PyData} : reprV [.d (.tuple xs)] μ R = reprD [.d (.tuple xs)] μ R := rfl
theorem q_reprVL {xs : List PyData} : reprV [.d (.list xs)] μ R = reprD [.d (.list xs)] μ R := rfl
theorem q_reprVm {ds : List PyData} (h : vw (.v (.ref p)) μ = .d (.list ds)) : reprV [.v (.ref p)] μ R = reprD [.d (.list ds)] μ R := by
  unfold reprV reprD
  simp only [h]
theorem q_addM {x y : W} {a b : List PyData} (h1 : vw x μ = .d (.list a)) (h2 : vw y μ = .d (.list b)) : addM x y μ R = (a.length + b.length ≤ sizeLine ∧ ∀ p, μ p = none → R (.v (.ref p)) (mset μ p (.lst ((a ++ b).map .d)))) := by
  unfold addM
  simp only [h1, h2]
theorem q_lenM : lenD [.v (.ref p)] μ R = onS (μ p) fun m => match m with
    | .lst ws => R (.d (.int ws.length)) μ
    | .tup ws => R (.d (.int ws.length)) μ
    | _ => False := rfl
theorem q_pop0 : pop0D (.v (.ref p)) [.d (.int 0)] μ R = onS (μ p) fun m => match m with
    | .lst (y :: r) => R y (mset μ p (.lst r))
    | _ => False := rfl
theorem q_pop : popD (.v (.ref p)) [] μ R = onS (μ p) fun m => match m with
    | .lst ws => onS ws.getLast? fun w => R w (mset μ p (.lst ws.dropLast))
    | _ => False := rfl
theorem q_tupofL {xs : List PyData} : tupofD [.d (.list xs)] μ R = R (.d (.tuple xs)) μ := rfl
theorem q_tupofT {xs : List PyData} : tupofD [.d (.tuple xs)] μ R = R (.d (.tuple xs)) μ := rfl
theorem q_tupofm {ds : List PyData} (h : vw (.v (.ref p)) μ = .d (.list ds)) : tupofD [.v (.ref p)] μ R = R (.d (.tuple ds)) μ := by
  unfold tupofD
  simp only [h]
theorem q_revMD : revMD (.v (.ref p)) [] μ R = onS (μ p) fun m => match m with
    | .lst ws => R (.d .none) (mset μ p (.lst ws.reverse))
    | _ => False := rfl
end

theorem q_asDapp : ∀ {ds : List PyData} {ws : List W} {P : List PyData → Prop}, asD (ds.map .d ++ ws) P = asD ws fun es => P (ds ++ es)
  | [], _, _ => rfl
  | d :: ds, ws, P => by
    rw [List.map_cons, List.cons_append, q_asDc, q_asDapp]
    rfl
theorem q_gTup2 {i j : Nat} {a b : PyData} {ρ : Sl} {Q : Sl → M → Prop} : gTupD 2 (gConsD (gNameD i) (gConsD (gNameD j) gNilD)) (.d (.tuple [a, b])) ρ μ Q = Q ((ρ.set i (some (.d a))).set j (some (.d b))) μ := propext ⟨fun h => h.2.2, fun h => ⟨rfl, rfl, h⟩⟩
theorem q_gTup3 {i j k : Nat} {a b c : PyData} {ρ : Sl} {Q : Sl → M → Prop} : gTupD 3 (gConsD (gNameD i) (gConsD (gNameD j) (gConsD (gNameD k) gNilD))) (.d (.tuple [a, b, c])) ρ μ Q = Q (((ρ.set i (some (.d a))).set j (some (.d b))).set k (some (.d c))) μ := propext ⟨fun h => h.2.2, fun h => ⟨rfl, rfl, h⟩⟩
/-! ### what is no longer needed is forgotten at a def's end -/
def MSub (μ μ' : M) : Prop := ∀ a m, μ a = some m → μ' a = some m
theorem MSub.rfl {μ : M} : MSub μ μ := fun _ _ h => h
theorem MSub.trans {μ μ' μ2 : M} (h : MSub μ μ') (g : MSub μ' μ2) : MSub μ μ2 := fun a m e => g a m (h a m e)
theorem MSub.upd {μ μ' : M} {p : Addr} {m : MO} (h : MSub μ μ') (n : μ p = none) : MSub μ (mset μ' p m) := fun a m' e => by
  have z : a ≠ p := fun z => by rw [z, n] at e; cases e
  rw [mset_ne z]; exact h a m' e
theorem MSub.new {μ μ' : M} {p : Addr} {m : MO} (h : MSub μ μ') (n : μ' p = none) : MSub μ (mset μ' p m) := h.upd (by
  cases e : μ p with
  | none => exact Eq.refl _
  | some x => rw [h p x e] at n; cases n)
theorem MSub.both {μ μ' : M} {p : Addr} {m : MO} (h : MSub μ μ') : MSub (mset μ p m) (mset μ' p m) := fun a m' e => by
  by_cases z : a = p
  · subst z; rw [mset_same] at e ⊢; exact e
  · rw [mset_ne z] at e ⊢; exact h a m' e
theorem MSub.del {μ μ' : M} {p : Addr} (h : MSub μ μ') (n : μ p = none) : MSub μ (mdel μ' p) := fun a m' e => by
  have z : a ≠ p := fun z => by rw [z, n] at e; cases e
  unfold mdel
  rw [if_neg z]; exact h a m' e
theorem Cn.less {K : PySem.W.Frag} {F H G : Hp} {μ μ' : M} (c : Cn K F H μ' G) (s : MSub μ μ') : Cn K F H μ G := ⟨c.sub, c.fr, fun a m e => c.mu a m (s a m e), c.apart⟩
def Fgt (R : DQ) : DQ := fun w μ' => ∃ μ, MSub μ μ' ∧ R w μ
theorem Fgt.now {R : DQ} {w : W} {μ : M} (h : R w μ) : Fgt R w μ := ⟨μ, MSub.rfl, h⟩
theorem Fin.fgt {K : PySem.W.Frag} {F G : Hp} {R : DQ} {Q : VK} (f : Fin K F G R Q) : Fin K F G (Fgt R) Q := fun w μ' F' H' v ⟨μ, s, h⟩ sm c q => f w μ F' H' v h sm (c.less s) q
theorem FG.fgt {P : Program} {w : World} {K : PySem.W.Frag} {mg : Str → Option Value} {base : Heap} {CX : CXT} {k : Nat} {f : Addr} {fd : FuncData} {ps : List Str} {ds ds' : DSp} (F : FG P w K mg base CX k f fd ps (lSp K ds)) (h : ∀ ws μ R, ds' ws μ R → ds ws μ (Fgt R)) :
    FG P w K mg base CX k f fd ps (lSp K ds') :=
  ⟨fun vs H Q E ⟨F', μ, G, ws, R, a, b, c, d⟩ => F.arity vs H Q E ⟨F', μ, G, ws, Fgt R, a, b, h _ _ _ c, d.fgt⟩, fun A outer s H args us vs Q E hr hg he hb hv ⟨F', μ, G, ws, R, a, b, c, d⟩ => F.go A outer s H args us vs Q E hr hg he hb hv ⟨F', μ, G, ws, Fgt R, a, b, h _ _ _ c, d.fgt⟩⟩
theorem fg_dataF {P : Program} {w : World} {K : PySem.W.Frag} {mg : Str → Option Value} {base : Heap} {x qual : Str} {st : Stmt} {f : Addr} {fd : FuncData} {N ps : List Str} {k : Nat} {ds : DSp} (F : Fun K x qual st f fd) (S : FnScope N ps (defScope st)) (ar : ∀ ws μ R, ds ws μ R → ws.length = ps.length) (t : DTS)
    (hb : ∀ (cdv : Value) (A : Around) (outer : List Env) (s : Shared) (H : Hp) (E : XK), Room k (A.deeper (envOfC qual (defScope st) s.heap.objs.size f cdv)) → A.guards = some [] → DSs (cxOf CX0 P w K mg base N qual (defScope st) f cdv A outer s H E).nox (defBody st) t)
    (hd : ∀ ws μ R, ds ws μ R → t { nx := fun _ μ' => Fgt R (.d .none) μ', rt := Fgt R } (startD N.length ws) μ) : FG P w K mg base CX0 (k + 1) f fd ps (lSp K ds) :=
  FG.fgt (fg_data (ds := fun ws μ R => ∃ R', R = Fgt R' ∧ ds ws μ R') F S (fun ws μ R ⟨R', _, h⟩ => ar ws μ R' h) t hb fun ws μ R ⟨R', e, h⟩ => by subst e; exact hd ws μ R' h) fun ws μ R h => ⟨R, rfl, h⟩

section
variable {α : Type} {x y z u v : α} {l : List α}
theorem q_ixc {n : Nat} {k : Nat} (h : k < n) : ixN n (k : Int) = some k := by
  unfold ixN
  rw [if_pos (by omega), if_pos (by omega)]
  rfl
theorem q_atc0 : atI (x :: l) 0 = some x := by
  have h := q_ixc (n := (x :: l).length) (k := 0) (by simp)
  unfold atI; rw [show (0 : Int) = ((0 : Nat) : Int) from rfl, h]; rfl
theorem q_atc1 : atI (x :: y :: l) 1 = some y := by
  have h := q_ixc (n := (x :: y :: l).length) (k := 1) (by simp)
  unfold atI; rw [show (1 : Int) = ((1 : Nat) : Int) from rfl, h]; rfl
theorem q_atc2 : atI (x :: y :: z :: l) 2 = some z := by
  have h := q_ixc (n := (x :: y :: z :: l).length) (k := 2) (by simp)
  unfold atI; rw [show (2 : Int) = ((2 : Nat) : Int) from rfl, h]; rfl
theorem q_atc3 : atI (x :: y :: z :: u :: l) 3 = some u := by
  have h := q_ixc (n := (x :: y :: z :: u :: l).length) (k := 3) (by simp)
  unfold atI; rw [show (3 : Int) = ((3 : Nat) : Int) from rfl, h]; rfl
theorem q_atc4 : atI (x :: y :: z :: u :: v :: l) 4 = some v := by
  have h := q_ixc (n := (x :: y :: z :: u :: v :: l).length) (k := 4) (by simp)
  unfold atI; rw [show (4 : Int) = ((4 : Nat) : Int) from rfl, h]; rfl
end
theorem kk_NoneType_list : kitB "NoneType" "list" = some false := by decide +kernel
theorem kk_NoneType_dict : kitB "NoneType" "dict" = some false := by decide +kernel
theorem kk_bool_list : kitB "bool" "list" = some false := by decide +kernel
theorem kk_bool_dict : kitB "bool" "dict" = some false := by decide +kernel
theorem kk_int_list : kitB "int" "list" = some false := by decide +kernel
theorem kk_int_dict : kitB "int" "dict" = some false := by decide +kernel
theorem kk_str_list : kitB "str" "list" = some false := by decide +kernel
theorem kk_str_dict : kitB "str" "dict" = some false := by decide +kernel
theorem kk_list_list : kitB "list" "list" = some true := by decide +kernel
theorem kk_list_dict : kitB "list" "dict" = some false := by decide +kernel
theorem kk_tuple_list : kitB "tuple" "list" = some false := by decide +kernel
theorem kk_tuple_dict : kitB "tuple" "dict" = some false := by decide +kernel
theorem kk_dict_list : kitB "dict" "list" = some false := by decide +kernel
theorem kk_dict_dict : kitB "dict" "dict" = some true := by decide +kernel
theorem q_eqSS {s : Str} : PyData.eqv (.str s) (.str s) = true := by simp [PyData.eqv]
theorem q_eqII {i : Int} : PyData.eqv (.int i) (.int i) = true := by simp [PyData.eqv]
end DL

set_option Elab.async false
set_option linter.all false
set_option maxRecDepth 100000
set_option maxHeartbeats 4000000
/-! a tuple some times: once, never -/
namespace DL
open PySem PySem.Spec PyProof.Rows L2
theorem tup_once (l : Addr) (its : Array Value) (n : Nat) (dd : Option Addr) (sl : Array (Option Value)) (u : Tok) :
    Meets (Builtin.«tuple.__mul__» ⟨[.ref l, .int 1 u], []⟩) (fun _ R s => s.heap.get? l = some { cls := .type "tuple", dict := dd, data := .seq its n, slots := sl } ∧ R (.ok (.ret (Value.ref l))) s) := by
  refine .of_wp fun prog w A R s h => ?_
  obtain ⟨hp, g, d, tk, os⟩ := s
  obtain ⟨hl, h⟩ := h
  have f1 := AutoSeq1.idx_int
  have f2 : (decide ((1 : Int) < -(2 ^ 63)) || decide ((1 : Int) ≥ 2 ^ 63)) = false := by decide
  have f3 : (its.isEmpty || (1 : Int) == 1) = true := by simp
  have hT : (⟨hp, g, d, tk, os⟩ : Shared).TypeIs (.ref l) "tuple" := ⟨_, hl, rfl⟩
  wp_walk using wpAny_loadPart' hl
  repeat (first
    | (refine wpAny_ite_false (decide_eq_false (by rw [f2]; exact Bool.false_ne_true)) ?_; wp_walk using wpAny_loadPart' hl)
    | (refine wpAny_ite_true (decide_eq_true f3) ?_; wp_walk using wpAny_loadPart' hl))
  exact ⟨_, rfl, h⟩
theorem tup_never (l : Addr) (its : Array Value) (n : Nat) (dd : Option Addr) (sl : Array (Option Value)) (x : Int) (u : Tok) (c0 : (decide (x < -(2 ^ 63)) || decide (x ≥ 2 ^ 63)) = false) (c1 : (its.isEmpty || x == 1) = false) (c2 : (decide (x ≤ 0) || its.isEmpty) = true) :
    Meets (Builtin.«tuple.__mul__» ⟨[.ref l, .int x u], []⟩) (fun _ R s => s.heap.get? l = some { cls := .type "tuple", dict := dd, data := .seq its n, slots := sl } ∧ R (.ok (.ret (Value.ref s.heap.objs.size))) { s with heap := s.heap.push { cls := Value.type "tuple", data := Data.seq #[] } }) := by
  refine .of_wp fun prog w A R s h => ?_
  obtain ⟨hp, g, d, tk, os⟩ := s
  obtain ⟨hl, h⟩ := h
  have f1 := AutoSeq1.idx_int
  wp_walk using wpAny_loadPart' hl
  repeat (first
    | (refine wpAny_ite_false (decide_eq_false (by rw [c0]; exact Bool.false_ne_true)) ?_; wp_walk using wpAny_loadPart' hl)
    | (refine wpAny_ite_false (decide_eq_false (by rw [c1]; exact Bool.false_ne_true)) ?_; wp_walk using wpAny_loadPart' hl)
    | (refine wpAny_ite_true (decide_eq_true c2) ?_; wp_walk using wpAny_loadPart' hl))
  exact ⟨_, rfl, h⟩

section
variable {X : Cx}
def rRepE (K : PySem.W.Frag) : R2 := fun x y H Q => ∃ l k xs, x = .ref l ∧ y = .int k ∧ SqT K H l xs ∧ xs ≠ [] ∧ (k = 1 ∧ Q (.ref l) H ∨ k = 0 ∧ ∀ p, H p = none → Q (.ref p) (upd H p (.tup [])))
theorem op_repE : OpR X (binaryOp .Mult) (rRepE X.K) := by
  rintro pins s σ H x y v u Q I rx ry ⟨l, k, xs, rfl, rfl, hT, hne, hk⟩
  cases rx
  obtain ⟨t, rfl⟩ := ry
  obtain ⟨its, r, ⟨⟨cls, dd, data, sl⟩, ho, hc, n, hd⟩, hs⟩ := I.tuple hT
  simp only at hc hd
  subst hc hd
  have hi : its.toArray.isEmpty = false := by
    cases its with
    | nil => cases r; exact absurd rfl hne
    | cons a b => rfl
  rcases hk with ⟨rfl, q⟩ | ⟨rfl, q⟩
  · exact wpAny_binaryOp_repeat_ref (T := "tuple") (U := "int") (by decide) ⟨_, ho, rfl⟩ (fun s' => typeIs_int s' 1 t) noFill_tuple_mul F.fills_int_mul F.slot_int_rmul repeat_tuple F.slot_int_index.lookup
      (call_meets F.slot_int_rmul (typeIs_int s 1 t) F.entry_int_rmul (F.args_int_rmul_2 _ _) (int_rmul_tuple 1 t l its.toArray n dd sl)
        ⟨ho, rfl, ⟨_, ho, rfl⟩, call_meets F.slot_tuple_mul ⟨_, ho, rfl⟩ F.entry_tuple_mul (F.args_tuple_mul_2 _ _) (tup_once l its.toArray n dd sl t) ⟨ho, .ref l, H, I, rfl, q⟩⟩)
  · refine wpAny_binaryOp_repeat_ref (T := "tuple") (U := "int") (by decide) ⟨_, ho, rfl⟩ (fun s' => typeIs_int s' 0 t) noFill_tuple_mul F.fills_int_mul F.slot_int_rmul repeat_tuple F.slot_int_index.lookup
      (call_meets F.slot_int_rmul (typeIs_int s 0 t) F.entry_int_rmul (F.args_int_rmul_2 _ _) (int_rmul_tuple 0 t l its.toArray n dd sl)
        ⟨ho, rfl, ⟨_, ho, rfl⟩, call_meets F.slot_tuple_mul ⟨_, ho, rfl⟩ F.entry_tuple_mul (F.args_tuple_mul_2 _ _) (tup_never l its.toArray n dd sl 0 t (by decide) (by rw [hi]; rfl) (by simp)) ⟨ho, ?_⟩⟩)
    refine ⟨.ref s.heap.objs.size, _, I.laid (t' := s.toks) (o := .tup []) (fun b ob q => Heap.get?_push_of_some _ q) (Nat.le_refl _) ?_, rfl, q _ (I.hok.fresh (Nat.le_refl _))⟩
    exact ⟨Nat.zero_le _, _, .nil, IsTup.new _ _⟩
def mulY : D2 := fun x y μ R => match x, y with
  | .d (.tuple ds), .d (.int k) => ds ≠ [] ∧ 0 ≤ k ∧ k ≤ 1000 ∧ ds.length ≤ 1000 ∧ R (.d (.tuple (List.replicate k.toNat ds).flatten)) μ
  | x, y => mulX x y μ R
def rMulY (K : PySem.W.Frag) : R2 := fun x y H Q => rMulX K x y H Q ∨ rRepE K x y H Q
theorem op_mulY : OpR X (binaryOp .Mult) (rMulY X.K) := OpR.or op_mulX op_repE
theorem l_mulY {K : PySem.W.Frag} : Lift2 K (rMulY K) mulY := by
  intro F H G μ x y wx wy R Q c rx ry h fin
  unfold mulY at h
  split at h
  · rename_i ds k
    obtain ⟨h1, h2, h3, h4, h5⟩ := h
    by_cases k2 : 2 ≤ k
    · exact .inl (l_mulX (wx := .d (.tuple ds)) (wy := .d (.int k)) c rx ry ⟨h1, k2, h3, h4, h5⟩ fin)
    · cases (show Rp K F y _ from ry)
      cases (show Rp K F x _ from rx) with
      | tup e kk =>
        refine .inr ⟨_, _, _, rfl, rfl, SqT_mono c.sub e, fun z => by subst z; cases kk; exact h1 rfl, ?_⟩
        by_cases k1 : k = 1
        · subst k1
          have h5' : R (.d (.tuple ds)) μ := by simpa using h5
          exact .inl ⟨rfl, fin.flat c h5' (.tup e kk)⟩
        · have k0 : k = 0 := by omega
          subst k0
          refine .inr ⟨rfl, fun p hp => ?_⟩
          obtain ⟨s, c'⟩ := c.lay hp (.tup [])
          have h5' : R (.d (.tuple [])) μ := h5
          exact fin _ _ _ _ _ h5' s c' (.tup (.inl (.inl upd_same)) .nil)
  · exact .inl (l_mulX c rx ry h fin)
theorem q_mulYI {i j : Int} {μ : M} {R : DQ} : mulY (.d (.int i)) (.d (.int j)) μ R = ((-2 ^ 64 < i ∧ i < 2 ^ 64 ∨ -2 ^ 64 < j ∧ j < 2 ^ 64) ∧ R (.d (.int (i * j))) μ) := rfl
theorem q_mulYS {z : Str} {i : Int} {μ : M} {R : DQ} : mulY (.d (.str z)) (.d (.int i)) μ R = (∃ c, z = ⟨#[c]⟩ ∧ 0 ≤ i ∧ i ≤ 1000 ∧ R (.d (.str (Txt.mul z i))) μ) := rfl
theorem q_mulYL {xs : List PyData} {i : Int} {μ : M} {R : DQ} : mulY (.d (.list xs)) (.d (.int i)) μ R = mulD (.d (.list xs)) (.d (.int i)) μ R := rfl
theorem q_mulYT {xs : List PyData} {i : Int} {μ : M} {R : DQ} : mulY (.d (.tuple xs)) (.d (.int i)) μ R = (xs ≠ [] ∧ 0 ≤ i ∧ i ≤ 1000 ∧ xs.length ≤ 1000 ∧ R (.d (.tuple (List.replicate i.toNat xs).flatten)) μ) := rfl
end
end DL

set_option Elab.async false
set_option linter.all false
set_option maxRecDepth 100000
set_option maxHeartbeats 2000000
/-! what was made and will not change: taken as data; more of lists -/
namespace DL
open PySem PySem.Spec PyProof.Rows L2
def frz1 (w : W) (μ : M) : Option (PyData × M) := match w with
  | .d d => some (d, μ)
  | .v (.ref a) => match μ a with
    | some (.lst ws) => (dats ws).map fun ds => (.list ds, mdel μ a)
    | _ => none
  | _ => none
def frzL : List W → M → Option (List PyData × M)
  | [], μ => some ([], μ)
  | w :: r, μ => match frz1 w μ with
    | some (d, μ') => (frzL r μ').map fun z => (d :: z.1, z.2)
    | none => none
def frzW (w : W) (μ : M) : Option (PyData × M) := match w with
  | .v (.ref a) => match μ a with
    | some (.tup ws) => (frzL ws (mdel μ a)).map fun z => (.tuple z.1, z.2)
    | _ => frz1 (.v (.ref a)) μ
  | w => frz1 w μ
section
variable {K : PySem.W.Frag} {F H G : Hp} {μ μ' : M}
theorem frz1_ok {x : V} {w : W} {d : PyData} (c : Cn K F H μ G) (r : Rw K F x w) (e : frz1 w μ = some (d, μ')) : ∃ F', Same F F' ∧ Cn K F' H μ' G ∧ Rp K F' x d := by
  unfold frz1 at e
  split at e
  · cases e; exact ⟨F, Same.refl _, c, r⟩
  · rename_i a
    cases (show x = .ref a from r)
    split at e
    · rename_i ws em
      cases ed : dats ws with
      | none => rw [ed] at e; cases e
      | some ds =>
        rw [ed] at e
        cases e
        obtain ⟨_, _, o, ho, vs, rfl, k⟩ := c.mu a _ em
        obtain ⟨s, c'⟩ := c.freeze em ho
        exact ⟨_, s, c', .lst upd_same (dats_ok (k.mono s) ed)⟩
    · cases e
  · cases e
theorem frzL_ok : ∀ {xs : List V} {ws : List W} {F : Hp} {μ μ' : M} {ds : List PyData}, Cn K F H μ G → RwAll K F xs ws → frzL ws μ = some (ds, μ') → ∃ F', Same F F' ∧ Cn K F' H μ' G ∧ RpAll K F' xs ds
  | _, [], F, μ, μ', ds, c, r, e => by
    cases r
    have e' : some (([] : List PyData), μ) = some (ds, μ') := e
    cases e'
    exact ⟨F, Same.refl _, c, .nil⟩
  | _, w :: ws, F, μ, μ', ds, c, r, e => by
    unfold frzL at e
    cases r with
    | cons r t =>
      cases e1 : frz1 w μ with
      | none => rw [e1] at e; cases e
      | some z =>
        obtain ⟨d, μ1⟩ := z
        rw [e1] at e
        obtain ⟨F1, s1, c1, q1⟩ := frz1_ok c r e1
        cases e2 : frzL ws μ1 with
        | none => simp only [e2] at e; cases e
        | some z2 =>
          simp only [e2] at e
          cases e
          obtain ⟨F2, s2, c2, q2⟩ := frzL_ok c1 (RwAll.mono s1 t) e2
          exact ⟨F2, s1.trans s2, c2, .cons (Rp.mono s2 _ q1) q2⟩
theorem frzW_ok {x : V} {w : W} {d : PyData} (c : Cn K F H μ G) (r : Rw K F x w) (e : frzW w μ = some (d, μ')) : ∃ F', Same F F' ∧ Cn K F' H μ' G ∧ Rp K F' x d := by
  unfold frzW at e
  split at e
  · rename_i a
    cases (show x = .ref a from r)
    split at e
    · rename_i ws em
      obtain ⟨_, _, o, ho, vs, rfl, k⟩ := c.mu a _ em
      obtain ⟨s, c'⟩ := c.freeze em ho
      cases e2 : frzL ws (mdel μ a) with
      | none => rw [e2] at e; cases e
      | some z =>
        rw [e2] at e
        cases e
        obtain ⟨F2, s2, c2, q2⟩ := frzL_ok c' (k.mono s) e2
        exact ⟨F2, s.trans s2, c2, .tup (SqT_mono s2 (.inl (.inl upd_same))) q2⟩
    · exact frz1_ok c r e
  · exact frz1_ok c r e
end
section
variable {X : Cx}
/-- the value of an expression, taken as data from then on -/
def tFrzE (t : DTE) : DTE := fun ρ μ R => t ρ μ fun w μ1 => onS (frzW w μ1) fun z => R (.d z.1) z.2
theorem de_frz {e : Expr} {t : DTE} (h : DE X e t) : DE X e (tFrzE t) :=
  ⟨PE_mono h.pe fun σ H Q ⟨F, ρ, μ, G, R, c, rs, h, fin⟩ => lE_go c rs h fun w μ1 F1 H1 x r1 s1 c1 q1 => by
    obtain ⟨z, ez, r1⟩ := onS_ok r1
    obtain ⟨F2, s2, c2, q2⟩ := frzW_ok c1 q1 (d := z.1) (μ' := z.2) ez
    exact fin _ _ _ _ _ r1 (s1.trans s2) c2 q2⟩
theorem ext_tup (l : Addr) (its : Array Value) (n : Nat) (b : Addr) (its2 : Array Value) (n2 : Nat) (dd : Option Addr) (sl : Array (Option Value)) (h0 : ¬ (!its.isEmpty && Builtin.List.listTooLong (its.size + its2.size)) = true) (h1 : its.size ≤ sizeLine) (h2 : its.size + its2.size ≤ sizeLine + 1) :
    Meets (Builtin.«list.extend» ⟨[.ref l, .ref b], []⟩) (fun _ R s => s.heap.get? l = some { cls := .type "list", data := .seq its n } ∧ s.heap.get? b = some { cls := .type "tuple", dict := dd, data := .seq its2 n2, slots := sl } ∧ R (.ok (.ret Value.none)) { s with heap := s.heap.update l (Obj.mapSeq fun x => x ++ its2), toks := s.toks }) := by
  refine .of_wp fun prog w A R s h => ?_
  obtain ⟨hp, g, d, tk, os⟩ := s
  obtain ⟨hl, hb, h⟩ := h
  have f1 := AutoSeq1.idx_int
  have f2 := AutoSeq1.sub_tuple_tuple
  have f3 := AutoSeq1.sub_list_list
  have f4 := AutoSeq1.sub_tuple_list
  have f5 := AutoSeq1.sub_list_tuple
  have hz' : (its ++ its2).size ≤ sizeLine + 1 := by rw [Array.size_append]; exact h2
  wp_walk using (wpAny_updateSeq hl rfl (hz := h1) (_hz' := hz')), wpAny_loadPart' hl, wpAny_loadPart' hb
  exact ⟨_, rfl, h⟩
/-! extend with a tuple -/
def rExtT (K : PySem.W.Frag) : V → List V → Hp → VK → Prop := fun x vs H Q => ∃ l b xs zs, x = .ref l ∧ vs = [.ref b] ∧ H l = some (.lst xs) ∧ SqT K H b zs ∧ xs.length + zs.length ≤ sizeLine ∧ Q .non (upd H l (.lst (xs ++ zs)))
theorem mt_extendT : MtM X "list.extend" (rExtT X.K) := by
  rintro pins s σ H x vs v us Q I rx rv ⟨l, b, xs, zs, rfl, rfl, hH, hB, hz, q⟩
  cases rx
  obtain ⟨u, rfl, ru⟩ := rv.one
  cases ru
  obtain ⟨z, its, n, r, hl, e⟩ := I.lstM hH
  obtain ⟨its2, r2, ⟨⟨cls, dd, data, sl⟩, ho, hc, n2, hd⟩, hz2⟩ := I.tuple hB
  simp only at hc hd
  subst hc hd
  have l2 := r2.length
  have hsz : its.toArray.size + its2.toArray.size ≤ sizeLine := by rw [List.size_toArray, List.size_toArray]; omega
  have hlong : ¬ (!its.toArray.isEmpty && Builtin.List.listTooLong (its.toArray.size + its2.toArray.size)) = true := by
    rw [notLongL hsz, Bool.and_false]; exact Bool.false_ne_true
  refine call_meets F.slot_list_extend ⟨_, e, rfl⟩ F.entry_list_extend (F.args_list_extend_2 _ _) (ext_tup l its.toArray n b its2.toArray n2 dd sl hlong (by rw [List.size_toArray]; omega) (by omega)) ⟨e, ho, ?_⟩
  refine ⟨.non, _, I.lset (its' := its ++ its2) hH e (by simp) (r.append r2) (by rw [List.length_append]; omega), rfl, q⟩
def extT : DM := fun x ws μ R => match x, ws with
  | .v (.ref a), [.d (.tuple ds)] => onS (μ a) fun m => match m with
    | .lst xs => xs.length + ds.length ≤ sizeLine ∧ R (.d .none) (mset μ a (.lst (xs ++ ds.map .d)))
    | _ => False
  | _, _ => False
theorem l_extT {K : PySem.W.Frag} : LiftM K (rExtT K) extT := by
  intro F H G μ x wx vs ws R Q c rx rv h fin
  unfold extT at h
  split at h
  · rename_i a ds
    cases (show x = .ref a from rx)
    obtain ⟨m, em, h⟩ := onS_ok h
    split at h
    · rename_i xs
      obtain ⟨_, _, o, ho, zs, rfl, k⟩ := c.mu _ _ em
      cases rv with
      | cons r t =>
        cases t
        cases r with
        | tup e k2 =>
          exact ⟨_, _, _, _, rfl, rfl, ho, SqT_mono c.sub e, by rw [k.len, k2.len]; exact h.1, fin _ _ _ _ _ h.2 (Same.refl _) (c.write em ⟨_, rfl, k.app k2.w⟩) .non⟩
    · exact h.elim
  · exact h.elim
theorem q_extT {μ : M} {R : DQ} {p : Addr} {ds : List PyData} : extT (.v (.ref p)) [.d (.tuple ds)] μ R = onS (μ p) fun m => match m with
    | .lst xs => xs.length + ds.length ≤ sizeLine ∧ R (.d .none) (mset μ p (.lst (xs ++ ds.map .d)))
    | _ => False := rfl
/-! xs.clear() -/
def clrD : DM := fun x ws μ R => match x, ws with
  | .v (.ref a), [] => onS (μ a) fun m => match m with
    | .lst _ => R (.d .none) (mset μ a (.lst []))
    | _ => False
  | _, _ => False
theorem l_clr {K : PySem.W.Frag} : LiftM K rClear clrD := by
  intro F H G μ x wx vs ws R Q c rx rv h fin
  unfold clrD at h
  split at h
  · rename_i a
    cases (show x = .ref a from rx)
    cases rv
    obtain ⟨m, em, h⟩ := onS_ok h
    split at h
    · obtain ⟨_, _, o, ho, zs, rfl, k⟩ := c.mu _ _ em
      exact ⟨_, _, rfl, rfl, ho, fin _ _ _ _ _ h (Same.refl _) (c.write em ⟨_, rfl, .nil⟩) .non⟩
    · exact h.elim
  · exact h.elim
theorem q_clr {μ : M} {R : DQ} {p : Addr} : clrD (.v (.ref p)) [] μ R = onS (μ p) fun m => match m with
    | .lst _ => R (.d .none) (mset μ p (.lst []))
    | _ => False := rfl
theorem q_frzd {d : PyData} {μ : M} : frzW (.d d) μ = some (d, μ) := rfl
theorem q_frzl {a : Addr} {ds : List PyData} {μ : M} (h : μ a = some (.lst (ds.map .d))) : frzW (.v (.ref a)) μ = some (.list ds, mdel μ a) := by
  unfold frzW frz1
  simp only [h, dats_map]
  rfl
theorem mdel_ne {μ : M} {a b : Addr} (h : b ≠ a) : mdel μ a b = μ b := by unfold mdel; rw [if_neg h]
theorem q_frzt {a l : Addr} {d : PyData} {ds : List PyData} {μ : M} (h : μ a = some (.tup [.d d, .v (.ref l)])) (hl : μ l = some (.lst (ds.map .d))) : frzW (.v (.ref a)) μ = some (.tuple [d, .list ds], mdel (mdel μ a) l) := by
  have ne : l ≠ a := fun z => by rw [z, h] at hl; cases hl
  have e1 : mdel μ a l = some (.lst (ds.map .d)) := (mdel_ne ne).trans hl
  unfold frzW
  simp only [h, frzL, frz1, e1, dats_map]
  rfl
end

/-! written dicts of texts -/
section
variable {X : Cx}
def dvals : List (Str × DTE) → Sl → M → (List PyData → M → Prop) → Prop
  | [], _, μ, R => R [] μ
  | (_, t) :: r, ρ, μ, R => t ρ μ fun w μ1 => match w with
    | .d d => dvals r ρ μ1 fun ds μ2 => R (d :: ds) μ2
    | _ => False
def dzip : List (Str × DTE) → List PyData → List (PyData × PyData)
  | (x, _) :: r, d :: ds => (.str x, d) :: dzip r ds
  | _, _ => []
def tDictD (l : List (Str × DTE)) : DTE := fun ρ μ R => dvals l ρ μ fun ds μ1 => R (.d (.dict (dzip l ds))) μ1
inductive DicE (X : Cx) : List (Option Expr) → List Expr → List (Str × DTE) → Prop where
  | nil : DicE X [] [] []
  | cons {k v : Expr} {x : Str} {t : DTE} {ks : List (Option Expr)} {vs : List Expr} {l : List (Str × DTE)} (hk : PE X k (tC (.str x))) (hv : DE X v t) (r : DicE X ks vs l) : DicE X (some k :: ks) (v :: vs) ((x, t) :: l)
def dtrs (K : PySem.W.Frag) (l : List (Str × DTE)) : List (TE × TE) := l.map fun z => (tC (.str z.1), lE K z.2)
theorem DicE.pps {pos : Pos} {ks : List (Option Expr)} {vs : List Expr} {l : List (Str × DTE)} (h : DicE X ks vs l) : PPs X pos ks vs (dtrs X.K l) := by
  induction h with
  | nil => exact pps_nil
  | cons hk hv _ ih => exact pps_cons hk hv.pe ih
def kzip : List (Str × DTE) → List V → List (Key × V)
  | (x, _) :: r, v :: vs => (.inr x, v) :: kzip r vs
  | _, _ => []
theorem kzip_len : ∀ (l : List (Str × DTE)) (vs : List V), (kzip l vs).length ≤ l.length
  | [], _ => by simp [kzip]
  | _ :: _, [] => by simp [kzip]
  | (x, t) :: r, v :: vs => by
    have := kzip_len r vs
    simp only [kzip, List.length_cons]
    omega
theorem dvals_go {K : PySem.W.Frag} {p : Addr} {G : Hp} {σ : L2.St} {ρ : Sl} : ∀ (l : List (Str × DTE)) {F H : Hp} {μ : M} {R : List PyData → M → Prop} {Q : List (V × V) → Hp → Prop}, Cn K F H μ (upd G p (.dK [])) → Rs K F σ ρ → dvals l ρ μ R →
    (∀ (ds : List PyData) (μ' : M) (F' H' : Hp) (vs : List V), R ds μ' → Same F F' → Cn K F' H' μ' (upd G p (.dK [])) → RpAll K F' vs ds → Q ((kzip l vs).map fun kv => (kV kv.1, kv.2)) H') → tPairs (dtrs K l) σ H Q
  | [], F, H, μ, R, Q, c, rs, h, fin => fin [] μ F H [] h (Same.refl _) c .nil
  | (x, t) :: r, F, H, μ, R, Q, c, rs, h, fin => by
    refine lE_go c rs h fun w μ1 F1 H1 v r1 s1 c1 q1 => ?_
    try dsimp only at r1
    split at r1
    · rename_i d
      exact dvals_go r c1 (rs.mono s1) r1 fun ds μ2 F2 H2 vs r2 s2 c2 k2 => fin (d :: ds) μ2 F2 H2 (v :: vs) r2 (s1.trans s2) c2 (.cons (Rp.mono s2 _ q1) k2)
    · exact r1.elim
theorem put_new {kvs : List (Key × V)} {k : Key} {v : V} (h : ∀ q ∈ kvs, q.1 ≠ k) : putK kvs k v = kvs ++ [(k, v)] := by
  unfold putK
  rw [if_neg]
  simp only [List.any_eq_true, decide_eq_true_eq, not_exists, not_and]
  exact h
theorem merge_new : ∀ (l : List (Str × DTE)) (vs : List V) (kvs : List (Key × V)), (l.map (·.1)).Nodup → (∀ q ∈ kvs, ∀ x ∈ l.map (·.1), q.1 ≠ .inr x) → mergeK kvs (kzip l vs) = kvs ++ kzip l vs
  | [], _, kvs, _, _ => by simp [kzip, mergeK]
  | _ :: _, [], kvs, _, _ => by simp [kzip, mergeK]
  | (x, t) :: r, v :: vs, kvs, nd, h => by
    rw [List.map_cons, List.nodup_cons] at nd
    have e : mergeK kvs (kzip ((x, t) :: r) (v :: vs)) = mergeK (putK kvs (.inr x) v) (kzip r vs) := rfl
    rw [e, put_new fun q hq => h q hq x (by simp), merge_new r vs _ nd.2 ?_]
    · simp [kzip]
    · intro q hq y hy
      rcases List.mem_append.mp hq with hq | hq
      · exact h q hq y (List.mem_cons_of_mem _ hy)
      · rw [List.mem_singleton.mp hq]
        intro z
        injection z with z
        exact nd.1 (z ▸ hy)
theorem kzip_rp {K : PySem.W.Frag} {F : Hp} : ∀ (l : List (Str × DTE)) {vs : List V} {ds : List PyData}, RpAll K F vs ds → RpKv K F (kzip l vs) (dzip l ds)
  | [], _, _, _ => .nil
  | _ :: _, _, _, .nil => .nil
  | (x, t) :: r, _, _, .cons h k => .cons (.str x) h (kzip_rp r k)
theorem de_dict {ks : List (Option Expr)} {vs : List Expr} {pos : Pos} {l : List (Str × DTE)} (h : DicE X ks vs l) (nd : (l.map (·.1)).Nodup) (hall : ks.all (·.isSome) = true) (hl : ks.length = vs.length) (h0 : ks ≠ []) (h15 : ks.length ≤ 15) (hl15 : l.length ≤ 15) : DE X (.Dict ks vs pos) (tDictD l) :=
  ⟨PE_mono (pe_disp h.pps hall hl h0 h15) fun σ H Q ⟨F, ρ, μ, G, R, c, rs, h, fin⟩ p hp => by
    have hG := c.noG hp
    refine dvals_go l (c.apartL hp (.dK [])) rs h fun ds μ1 F1 H1 vs r1 s1 c1 k1 => ⟨c1.fr _ _ upd_same, kzip l vs, rfl, Nat.le_trans (kzip_len l vs) hl15, ?_⟩
    rw [merge_new l vs [] nd (fun q hq => by cases hq), List.nil_append]
    obtain ⟨s2, c2⟩ := (c1.turnL (o' := .dK (kzip l vs))).backL hG
    exact fin _ _ _ _ _ r1 (s1.trans s2) c2 (.dct upd_same ((kzip_rp l k1).mono s2))⟩
def dlook (z : Str) : List (PyData × PyData) → Option PyData
  | [] => none
  | (.str x, d) :: r => if x = z then some d else dlook z r
  | _ :: r => dlook z r
theorem dlook_ok {K : PySem.W.Frag} {F : Hp} {z : Str} : ∀ {kvs : List (Key × V)} {ds : List (PyData × PyData)} {d : PyData}, RpKv K F kvs ds → dlook z ds = some d → ∃ v, valV kvs (.inr z) = some v ∧ Rp K F v d
  | _, _, _, .nil, e => by cases e
  | (k, v) :: kvs, (e0, d0) :: ds, d, .cons hk hv t, e => by
    cases k with
    | inl i =>
      cases (show Rp K F (.int i) e0 from hk)
      rw [valV_neg (by simp)]
      exact dlook_ok t e
    | inr x =>
      cases (show Rp K F (.str x) e0 from hk)
      unfold dlook at e
      by_cases hx : x = z
      · rw [if_pos hx] at e
        cases e
        exact ⟨v, valV_pos (by simp [hx]), hv⟩
      · rw [if_neg hx] at e
        rw [valV_neg (by simp [hx])]
        exact dlook_ok t e
def tDGetD (td ty : DTE) : DTE := fun ρ μ R => td ρ μ fun x μ1 => ty ρ μ1 fun y μ2 => match x, y with
  | .d (.dict ds), .d (.str z) => onS (dlook z ds) fun d => R (.d d) μ2
  | _, _ => False
theorem de_dget {o i : Expr} {pos : Pos} {td ty : DTE} (hu : X.A.units + 100 < cLine) (ho : DE X o td) (hi : DE X i ty) (hs : NoSl i) : DE X (.Subscript o i pos) (tDGetD td ty) :=
  ⟨PE_mono (pe_dget (by omega) ho.pe hi.pe hs) fun σ H Q ⟨F, ρ, μ, G, R, c, rs, h, fin⟩ => lE_go c rs h fun wx μ1 F1 H1 x r1 s1 c1 q1 => lE_go c1 (rs.mono s1) r1 fun wy μ2 F2 H2 y r2 s2 c2 q2 => by
    try dsimp only at r2
    split at r2
    · rename_i ds z
      obtain ⟨d, ed, r⟩ := onS_ok r2
      cases (show Rp X.K F2 y _ from q2)
      cases (show Rp X.K F1 x _ from q1) with
      | dct e k =>
        obtain ⟨v, ev, rv⟩ := dlook_ok (k.mono s2) ed
        exact ⟨_, v, rfl, .inl ⟨_, .inr z, .inl (c2.sub _ _ (s2 _ _ e)), rfl, ev.symm⟩, fin _ _ _ _ _ r (s1.trans s2) c2 rv⟩
    · exact r2.elim⟩
end

def intG : DC := fun ws μ R => match ws with
  | [.d (.bool b)] => R (.d (.int (if b then 1 else 0))) μ
  | [.d (.int i)] => R (.d (.int i)) μ
  | ws => intD ws μ R
theorem l_intG {K : PySem.W.Frag} : LiftA K (fun xs H Q => ((∃ i, xs = [V.int i] ∧ Q (V.int i) H) ∨ ∃ k, xs = [V.bl k] ∧ Q (V.int (if k then 1 else 0)) H) ∨ ∃ a n, xs = [V.str a] ∧ intText? a = some n ∧ a.length ≤ 640 ∧ Q (V.int n) H) intG := by
  intro F H G μ vs ws R Q c rv h fin
  unfold intG at h
  split at h
  · cases rv with | cons r t => cases t; cases r; exact .inl (.inr ⟨_, rfl, fin.flat c h (.int _)⟩)
  · cases rv with | cons r t => cases t; cases r; exact .inl (.inl ⟨_, rfl, fin.flat c h (.int _)⟩)
  · exact .inr (l_int c rv h fin)
theorem q_intGb {b : Bool} {μ : M} {R : DQ} : intG [.d (.bool b)] μ R = R (.d (.int (if b then 1 else 0))) μ := rfl
theorem q_intGi {i : Int} {μ : M} {R : DQ} : intG [.d (.int i)] μ R = R (.d (.int i)) μ := rfl
theorem q_intGs {a : Str} {μ : M} {R : DQ} : intG [.d (.str a)] μ R = intD [.d (.str a)] μ R := rfl

theorem tab_tup {K : PySem.W.Frag} {a : Addr} {dd : Option Addr} {us : List Value} {n : Nat} {sl : Array (Option Value)} (ss : List Str) (l : K.lookup a = some ⟨.type "tuple", dd, .seq us.toArray n, sl⟩) (hz : us.length ≤ sizeLine) (r : Vals (ss.map V.str) us) : ∀ F, Rp K F (.ref a) (.tuple (List.map .str ss)) :=
  fun F => Rp.tup (.inr ⟨_, us.toArray, n, l, rfl, rfl, by simpa using hz, by simpa using r⟩) (strs_rp ss)
end DL

set_option Elab.async false
set_option linter.all false
set_option maxRecDepth 100000
set_option maxHeartbeats 2000000
/-! a tuple from its end to its beginning -/
namespace DL
open PySem PySem.Spec PyProof.Rows L2 HT
section
variable {prog : Program} {w : World} {A : Around} {E : Value → Shared → Prop} {s : Shared}
theorem adj_back (n : Nat) : Builtin.Slice.sliceAdjust none none (-1) (n : Int) = ((n : Int) - 1, -1) := by
  unfold Builtin.Slice.sliceAdjust
  simp
theorem places_back (n : Nat) : Builtin.Slice.slicePlaces ((n : Int) - 1) (-1) (-1) = n := by
  unfold Builtin.Slice.slicePlaces
  simp
  split <;> omega
theorem fm_congr {α β : Type} {f g : α → Option β} : ∀ {l : List α}, (∀ x ∈ l, f x = g x) → l.filterMap f = l.filterMap g
  | [], _ => rfl
  | x :: r, h => by
    rw [List.filterMap_cons, List.filterMap_cons, h x List.mem_cons_self, fm_congr fun y hy => h y (List.mem_cons_of_mem _ hy)]
theorem applied_back {sl : Addr} {u : Tok} {n : Nat} {Q : Int × Int × Nat → Shared → Prop} (hs : s.heap.IsSliceOf sl .none .none (.int (-1) u)) (h : Q ((n : Int) - 1, -1, n) s) : wpAny (model prog w) A (Builtin.Slice.sliceApplied (.ref sl) (pure (n : Int))) Q E s := by
  obtain ⟨os, hos, hcs, hds⟩ := id hs
  unfold Builtin.Slice.sliceApplied Builtin.Slice.sliceFields
  refine wpAny_bind (wpAny_bind (wpAny_field hos hds (x := .none) rfl (wpAny_bind (wpAny_field hos hds (x := .none) rfl (wpAny_bind (wpAny_field hos hds (x := .int (-1) u) rfl (wpAny_pure ?_)))))))
  refine wpAny_bind (slicePart_int ?_)
  show wpAny _ _ (if ((-1 : Int) == 0) = true then _ else _) _ _ s
  rw [if_neg (by decide)]
  refine wpAny_bind (slicePart_none (wpAny_bind (slicePart_none (wpAny_bind (wpAny_pure ?_)))))
  show wpAny _ _ (match Builtin.Slice.sliceAdjust none none (-1) (n : Int) with | (lo, hi) => pure (lo, (-1 : Int), Builtin.Slice.slicePlaces lo hi (-1))) _ _ s
  rw [adj_back]
  show wpAny _ _ (pure (((n : Int) - 1), (-1 : Int), Builtin.Slice.slicePlaces ((n : Int) - 1) (-1) (-1))) _ _ s
  rw [places_back]
  exact wpAny_pure h
theorem pick_back (xs : Array Value) : (List.range xs.size).filterMap (fun (k : Nat) => xs[(((xs.size : Nat) : Int) - 1 + (k : Int) * (-1)).toNat]?) = xs.toList.reverse := by
  have h := congrArg Array.toList (PySem.W.krv_pick xs)
  have e : slicePick xs none none (some (-1)) = ((List.range xs.size).filterMap (fun (k : Nat) => xs[(((xs.size : Nat) : Int) - 1 + (k : Int) * (-1)).toNat]?)).toArray := by
    unfold slicePick
    rw [PySem.W.krv_bounds]
    show ((sliceRange ((xs.size : Int) - 1) (-1) (-1)).filterMap _).toArray = _
    rw [PySem.W.krv_sliceRange, List.filterMap_map]
    congr 1
    refine fm_congr fun k hk => ?_
    have hk' := List.mem_range.mp hk
    show xs[xs.size - 1 - k]? = _
    congr 1
    omega
  rw [e] at h
  simpa using h
theorem item_back {t sl : Addr} {items : Array Value} {u : Tok} {Q : Value → Shared → Prop} (ht : IsTup s.heap t items) (hs : s.heap.IsSliceOf sl .none .none (.int (-1) u)) (hz : items.size ≤ sizeLine)
    (h : Q (.ref s.heap.objs.size) { s with heap := s.heap.push { cls := .type "tuple", data := .seq items.toList.reverse.toArray } }) : wpAny (model prog w) A (getItem (.ref t) (.ref sl)) Q E s := by
  obtain ⟨os, hos, hcs, hds⟩ := id hs
  have T : s.TypeIs (.ref sl) "slice" := ⟨os, hos, hcs⟩
  unfold getItem
  try with_reducible refine wpAny_holding ?_
  first | refine wpAny_bind (wpAny_pure ?_) | skip
  refine wpAny_bind (wpAny_sequenceKey ht.typeIs (by decide) (wpAny_bind (wpAny_callSpecial?_slot (name := Str.ofString "__getitem__") ht.typeIs PyProof.Rows.slot_tuple_getitem (wpAny_call_entry PyProof.Rows.slot_tuple_getitem ht.typeIs entry_tuple_getitem ?_ (args_tuple_getitem _ _)))))
  show wpAny _ _ (Builtin.Tuple.tupleItemsOf (.ref t) >>= _) _ _ s
  refine wpAny_bind (tupleItemsOf_ ht (wpAny_bind (wpAny_typeOf T ?_)))
  rw [if_pos (by decide)]
  refine wpAny_bind (applied_back hs ?_)
  have hno : ¬ ((((items.size : Int) - 1) == 0 && (-1 : Int) == 1 && items.size == items.size) = true) := by simp
  show wpAny _ _ (if (((items.size : Int) - 1) == 0 && (-1 : Int) == 1 && items.size == items.size) = true then _ else _) _ _ s
  rw [if_neg hno]
  unfold Builtin.Tuple.tupleExact
  rw [pick_back]
  have hsz : sizeOk (.seq items.toList.reverse.toArray) := by
    show items.toList.reverse.toArray.size ≤ sizeLine
    rw [List.size_toArray, List.length_reverse, Array.length_toList]; exact hz
  refine wpAny_bind (wpAny_newObj_type ?_ hsz)
  first
    | exact wpAny_bind (wpAny_pure (wpAny_pure ⟨_, rfl, wpAny_pure h⟩))
    | exact wpAny_pure ⟨_, rfl, wpAny_pure h⟩
end
section
variable {X : Cx}
def tRevT (te : DTE) (ts : DTO) : DTE := fun ρ μ R => te ρ μ fun w μ1 => ts ρ μ1 fun o μ2 => o = some (-1) ∧ match w with
  | .d (.tuple ds) => R (.d (.tuple ds.reverse)) μ2
  | _ => False
theorem de_revT {e st : Expr} {te : DTE} {ts : DTO} {pos p2 : Pos} (he : DE X e te) (hs : DO X (some st) ts) : DE X (.Subscript e (.Slice none none (some st) p2) pos) (tRevT te ts) := by
  constructor
  constructor
  intro pins s σ H Q I ⟨F, ρ, μ, G, R, c, rs, h, fin⟩
  apply Subscript_
  refine thn (he.pe.run pins s σ H (fun x H1 => lO X.K ts σ H1 fun o H2 => ∃ a xs, x = .ref a ∧ o = some (-1) ∧ SqT X.K H2 a xs ∧ ∀ p, H2 p = none → Q (.ref p) (upd H2 p (.tup xs.reverse))) I (lE_go c rs h fun w μ1 F1 H1 x r1 s1 c1 q1 => ?_)) ?_
  · refine ⟨F1, ρ, μ1, G, _, c1, rs.mono s1, r1, fun o μ2 F2 H2 r2 s2 c2 => ?_⟩
    obtain ⟨ho, r2⟩ := r2
    have q2 := q1.mono s2
    try dsimp only at r2
    split at r2
    · cases (show Rp X.K F2 x _ from q2) with
      | tup e k =>
        refine ⟨_, _, rfl, ho, SqT_mono c2.sub e, fun p hp => ?_⟩
        obtain ⟨s, c'⟩ := c2.lay hp (.tup _)
        exact fin _ _ _ _ _ r2 ((s1.trans s2).trans s) c' (.tup (.inl (.inl upd_same)) ((rp_rev k).mono s))
    · exact r2.elim
  rintro v s1 ⟨x, H1, I1, r1, q1⟩
  apply wpAny_Slice
  refine thn (po_none.run pins s1 σ H1 (fun o2 H3 => o2 = none ∧ H3 = H1) I1 ⟨rfl, rfl⟩) ?_
  rintro vl s2 ⟨o2, H2, I2, pl, rfl, rfl⟩
  refine thn (po_none.run pins s2 σ H2 (fun o2 H3 => o2 = none ∧ H3 = H2) I2 ⟨rfl, rfl⟩) ?_
  rintro vu s3 ⟨o3, H3, I3, pu, rfl, rfl⟩
  refine thn (hs.po.run pins s3 σ H3 _ I3 q1) ?_
  rintro vs s4 ⟨o, H4, I4, ps, a, xs, rfl, rfl, hx, q⟩
  cases r1
  cases pl
  cases pu
  cases ps with
  | int _ uk =>
    have I5 : Inv X pins σ H4 { s4 with heap := s4.heap.push { cls := .type "slice", data := .fields #[.none, .none, .int (-1) uk] } } := I4.kept (t' := s4.toks) fun b ob q => Heap.get?_push_of_some _ q
    obtain ⟨its, r, ht, hz⟩ := I5.tuple hx
    have ht : IsTup _ a its.toArray := ht
    have hlen := r.length
    refine tail_any (ops := [.ref a, .ref s4.heap.objs.size]) ht.typeIs PyProof.Rows.slot_tuple_getitem.lookup ?_ (by with_unfolding_all rfl)
    refine item_back ht (Heap.IsSliceOf.new ..) (by rw [List.size_toArray]; omega) ?_
    refine ⟨.ref _, _, I5.laid (t' := s4.toks) (o := .tup xs.reverse) (fun b ob q => Heap.get?_push_of_some _ q) (Nat.le_refl _) ?_, rfl, q _ (I5.hok.fresh (Nat.le_refl _))⟩
    exact ⟨by rw [List.length_reverse]; exact hz, _, Vals.reverse r, IsTup.new _ _⟩
end
end DL

set_option Elab.async false
set_option linter.all false
set_option maxRecDepth 100000
set_option maxHeartbeats 2000000
/-! sorted of texts, a list's or a tuple's -/
namespace DL
open PySem PySem.Spec PyProof.Rows L2 HT
theorem inv_A {X : Cx} {A : Around} {pins : List (Addr × Obj)} {σ : L2.St} {H : Hp} {s : Shared} (h1 : A.handled = X.A.handled) (h2 : A.frames = X.A.frames) (I : L2.Inv X pins σ H s) : L2.Inv {X with A := A} pins σ H s where
  ok := { I.ok with hd := fun z => h1.trans (I.ok.hd z), frames := h2.trans I.ok.frames }
  os := I.os
  bare := I.bare
  base := I.base
  loc := I.loc
  cell := I.cell
  free := I.free
  freeC := I.freeC
  pin := I.pin
  hok := I.hok
  len := I.len
def rSortT (K : PySem.W.Frag) : List V → Hp → VK → Prop := fun vs H Q => ∃ (a : Addr) (zs : List Str), vs = [V.ref a] ∧ SqT K H a (zs.map .str) ∧ zs.length < 64 ∧ ∀ (ys : List Str) (p : Addr), ys.Perm zs → sortedS ys = true → H p = none → Q (.ref p) (upd H p (.lst (ys.map .str)))
theorem call_sortedT {X : Cx} : CallR X (.builtin "sorted") (rSortT X.K) := by
  rintro pins s σ H xs us Q I rv ⟨a, zs, rfl, ht, hz, q⟩
  obtain ⟨its, r2, ⟨o, ho, hc, n, hd⟩, hz2⟩ := I.tuple ht
  have hl := r2.length
  cases rv with
  | cons r t =>
    cases t
    cases r
    refine PySem.Calls.call_function_entry kind_sorted plain_sorted entry_sorted (args_sorted1 _) ?_
    unfold Builtin.sorted
    refine wpAny_bind (wpAny_pure ?_)
    refine wpAny_bind (wpAny_collect_seq a (.inr rfl) ho hc hd (fun h' k => ?_) (by rw [List.size_toArray]; omega))
    refine wpAny_bind (wpAny_newList ?_ (by simp only []; omega))
    have I1 := I.kept (t' := s.toks) k
    have I2 := I1.lnew (its := its.toArray.toList) r2 hz2 (t' := s.toks)
    refine wpAny_bind (wpAny_holding (wpAny_mono (mt_sortS (X := {X with A := X.A.in1}) pins _ σ _ (.ref h'.objs.size) [] _ [] (fun v H' => v = V.non ∧ ∃ ys : List Str, ys.Perm zs ∧ sortedS ys = true ∧ H' = upd H h'.objs.size (.lst (ys.map .str))) (inv_A rfl rfl I2) rfl .nil ⟨_, zs, rfl, rfl, upd_same, hz, fun ys hp hs => ⟨rfl, ys, hp, hs, ?_⟩⟩) ?_ (fun e s hs => hs)))
    · funext b; unfold upd; split <;> rfl
    · rintro v s2 ⟨v', H', I3, rv, rfl, ys, hp, hs, rfl⟩
      exact wpAny_pure ⟨_, rfl, .ref _, _, (show L2.Inv X pins σ _ s2 from inv_A (X := {X with A := X.A.in1}) (A := X.A) rfl rfl I3), rfl, q ys _ hp hs (I1.fresh)⟩

section
variable {K : PySem.W.Frag} {F H G : Hp} {μ : M} {R : DQ} {p : Addr}
theorem rpAll_strs : ∀ ys : List Str, RpAll K F (ys.map V.str) (ys.map PyData.str)
  | [] => .nil
  | y :: r => .cons (.str y) (rpAll_strs r)
def sortSD : DC := fun ws μ R => match ws with
  | [w] => match vw w μ with
    | .d (.list ds) => onS (strsD ds) fun zs => zs.length < 64 ∧ ∀ (ys : List Str) (p : Addr), ys.Perm zs → sortedS ys = true → μ p = none → R (.v (.ref p)) (mset μ p (.lst ((ys.map PyData.str).map .d)))
    | .d (.tuple ds) => onS (strsD ds) fun zs => zs.length < 64 ∧ ∀ (ys : List Str) (p : Addr), ys.Perm zs → sortedS ys = true → μ p = none → R (.v (.ref p)) (mset μ p (.lst ((ys.map PyData.str).map .d)))
    | _ => False
  | _ => False
theorem l_sortS : LiftA K (fun xs H Q => rSortedS K xs H Q ∨ rSortT K xs H Q) sortSD := by
  intro F H G μ vs ws R Q c rv h fin
  unfold sortSD at h
  split at h
  · rename_i w
    cases rv with
    | cons r t =>
      cases t
      split at h
      · rename_i ds e
        obtain ⟨p, vs, rfl, hp, k⟩ := vw_list c r e
        obtain ⟨zs, ez, h⟩ := onS_ok h
        have ev := strsD_rp k ez
        subst ev
        exact .inl ⟨p, zs, rfl, .inl (.inl hp), h.1, fun ys p' hp' hs' hn => fin _ _ _ _ _ (h.2 ys p' hp' hs' (c.noM hn)) (Same.refl _) (c.born hn ⟨_, rfl, (rpAll_strs ys).w⟩) rfl⟩
      · rename_i ds e
        have ew : w = .d (.tuple ds) := by
          unfold vw at e
          split at e
          · rename_i a
            cases em : μ a with
            | none => rw [em] at e; cases e
            | some m =>
              cases m with
              | lst ws =>
                cases ed : dats ws with
                | none => simp only [em, ed] at e; cases e
                | some ds => simp only [em, ed] at e; cases e
              | tup ws => rw [em] at e; cases e
              | dct kvs => rw [em] at e; cases e
              | ins C dx fs => rw [em] at e; cases e
              | exc nm ea ed => rw [em] at e; cases e
              | xd fs => rw [em] at e; cases e
          · exact e
        subst ew
        obtain ⟨zs, ez, h⟩ := onS_ok h
        cases (show Rp K F _ _ from r) with
        | tup e k =>
          have ev := strsD_rp k ez
          subst ev
          exact .inr ⟨_, zs, rfl, SqT_mono c.sub e, h.1, fun ys p' hp' hs' hn => fin _ _ _ _ _ (h.2 ys p' hp' hs' (c.noM hn)) (Same.refl _) (c.born hn ⟨_, rfl, (rpAll_strs ys).w⟩) rfl⟩
      · exact h.elim
  · exact h.elim
theorem q_sortT {xs : List PyData} : sortSD [.d (.tuple xs)] μ R = onS (strsD xs) fun zs => zs.length < 64 ∧ ∀ (ys : List Str) (p : Addr), ys.Perm zs → sortedS ys = true → μ p = none → R (.v (.ref p)) (mset μ p (.lst ((ys.map PyData.str).map .d))) := rfl
theorem q_sortm {ds : List PyData} (h : vw (.v (.ref p)) μ = .d (.list ds)) : sortSD [.v (.ref p)] μ R = onS (strsD ds) fun zs => zs.length < 64 ∧ ∀ (ys : List Str) (p : Addr), ys.Perm zs → sortedS ys = true → μ p = none → R (.v (.ref p)) (mset μ p (.lst ((ys.map PyData.str).map .d))) := by
  unfold sortSD
  simp only [h]
end
theorem set_open (l b sl : Addr) (its its2 : Array Value) (n n2 : Nat) (k : Int) (t : Tok) (hk : 0 ≤ k) (hk2 : k ≤ its.size) (hne : l ≠ b) (h1 : its.size ≤ sizeLine) (h2 : its.size + its2.size ≤ sizeLine) :
    Meets (Builtin.«list.__setitem__» ⟨[.ref l, .ref sl, .ref b], []⟩) (fun _ R s => s.heap.get? l = some { cls := .type "list", data := .seq its n } ∧ s.heap.get? b = some { cls := .type "list", data := .seq its2 n2 } ∧ s.heap.IsSliceOf sl (.int k t) .none .none ∧ R (.ok (.ret Value.none)) { s with heap := s.heap.update l (Obj.mapSeq fun xs => xs.extract 0 k.toNat ++ its2 ++ xs.extract (max k (its.size : Int)).toNat), toks := s.toks }) := by
  refine .of_wp fun prog w A R s h => ?_
  obtain ⟨hp, g, d, tk, os⟩ := s
  obtain ⟨hl, hb, ⟨⟨cls, dd, data, sl2⟩, hs, hc, hd⟩, h⟩ := h
  simp only at hc hd
  subst hc hd
  have f4 := PySem.slice_no_index
  have f5 : (l == b) = false := by simpa using hne
  have hz' : ((fun xs => xs.extract 0 k.toNat ++ its2 ++ xs.extract (max k (its.size : Int)).toNat) its).size ≤ sizeLine + 1 := by
    simp only [Array.size_append, Array.size_extract]; omega
  have f1 := AutoSeq1.idx_int
  have f3 := AutoSeq1.sub_list_list
  wp_walk using (wpAny_updateSeq hl rfl (hz := h1) (_hz' := hz')), wpAny_loadPart' hl, wpAny_loadPart' hb, wpAny_loadPart' hs
  rw [if_neg (show ¬ Builtin.List.listSameRef (Value.ref l) (Value.ref b) = true by show ¬ (l == b) = true; rw [f5]; exact Bool.false_ne_true)]
  have f6 : Builtin.List.listTooLong (its.size + its2.size) = false := notLongL h2
  have e : sliceIndices (rawInt k) .none .none its.size = pure (k, ((its.size : Nat) : Int), (1 : Int)) := by
    refine (sliceIndices_raw (some k) none none its.size (by simp)).trans ?_
    congr 1
    unfold sliceBounds
    show ((if (1 : Int) > 0 then max 0 (min (if k < 0 then k + (its.size : Int) else k) (its.size : Int)) else max (-1) (min (if k < 0 then k + (its.size : Int) else k) ((its.size : Int) - 1)), if (1 : Int) > 0 then (its.size : Int) else -1, (1 : Int)) : Int × Int × Int) = _
    simp only [show ¬ k < 0 by omega, if_false, show (1 : Int) > 0 by decide, if_true]
    rw [show max 0 (min k (its.size : Int)) = k by omega]
  wp_walk using (wpAny_updateSeq hl rfl (hz := h1) (_hz' := hz')), wpAny_loadPart' hl, wpAny_loadPart' hb, wpAny_loadPart' hs
  first
    | exact wpAny_bind (wpAny_letGo (wpAny_pure ⟨_, rfl, h⟩))
    | exact wpAny_letGo (wpAny_pure ⟨_, rfl, h⟩)
    | exact wpAny_pure ⟨_, rfl, h⟩
    | exact ⟨_, rfl, h⟩
theorem item_open {prog : Program} {w : World} {A : Around} {E : Value → Shared → Prop} {s : Shared} {l b sl : Addr} {its its2 : Array Value} {n n2 : Nat} {k : Int} {t : Tok} {Q : Unit → Shared → Prop} (hl : s.heap.get? l = some { cls := .type "list", data := .seq its n }) (hb : s.heap.get? b = some { cls := .type "list", data := .seq its2 n2 }) (hs : s.heap.IsSliceOf sl (.int k t) .none .none)
    (hk : 0 ≤ k) (hk2 : k ≤ its.size) (hne : l ≠ b) (h1 : its.size ≤ sizeLine) (h2 : its.size + its2.size ≤ sizeLine)
    (h : Q () { s with heap := s.heap.update l (Obj.mapSeq fun xs => xs.extract 0 k.toNat ++ its2 ++ xs.extract (max k (its.size : Int)).toNat), toks := s.toks }) : wpAny (model prog w) A (setItem (.ref l) (.ref sl) (.ref b)) Q E s := by
  have T : s.TypeIs (.ref l) "list" := ⟨_, hl, rfl⟩
  unfold setItem
  try with_reducible refine wpAny_holding ?_
  refine wpAny_bind (wpAny_sequenceKey T (by decide) (wpAny_bind (wpAny_callSpecial?_slot (name := Str.ofString "__setitem__") T F.slot_list_setitem (call_meets F.slot_list_setitem T F.entry_list_setitem (F.args_list_setitem_3 _ _ _) (set_open l b sl its its2 n n2 k t hk hk2 hne h1 h2) ⟨hl, hb, hs, ?_⟩))))
  exact wpAny_pure h
section
variable {X : Cx}
/-- xs[a:] = ys, of a list that changes -/
def gSlD (to : DTE) (tl : DTO) : DTG := fun w ρ μ R => to ρ μ fun o μ1 => tl ρ μ1 fun i μ2 => match o, i, w with
  | .v (.ref a), some k, .d (.list ds) => onS (μ2 a) fun m => match m with
    | .lst ws => 0 ≤ k ∧ k ≤ ws.length ∧ ws.length + ds.length ≤ sizeLine ∧ R ρ (mset μ2 a (.lst (ws.take k.toNat ++ ds.map .d)))
    | _ => False
  | _, _, _ => False
theorem vals_take : ∀ {vs : List V} {us : List Value} (n : Nat), Vals vs us → Vals (vs.take n) (us.take n)
  | _, _, 0, _ => .nil
  | _, _, _ + 1, .nil => .nil
  | _, _, n + 1, .cons r t => .cons r (vals_take n t)
theorem dg_slice {o lo : Expr} {to : DTE} {tl : DTO} {pos p2 : Pos} (ho : DE X o to) (hl : DO X (some lo) tl) : DG X (.Subscript o (.Slice (some lo) none none p2) pos) (gSlD to tl) := by
  constructor
  constructor
  intro pins s σ H v u Q I rv ⟨F, ρ, μ, G, w, R, c, rs, rw', h, fin⟩
  rw [assign_Subscript]
  refine wpAny_bind (wpAny_holding (thn (ho.pe.run pins s σ H (fun x H1 => lO X.K tl σ H1 fun oi H2 => ∃ a b k xs ys, x = .ref a ∧ v = .ref b ∧ a ≠ b ∧ oi = some k ∧ H2 a = some (.lst xs) ∧ H2 b = some (.lst ys) ∧ 0 ≤ k ∧ k ≤ xs.length ∧ xs.length + ys.length ≤ sizeLine ∧ Q σ (upd H2 a (.lst (xs.take k.toNat ++ ys)))) I (lE_go c rs h fun wo μ1 F1 H1 x r1 s1 c1 q1 => ?_)) ?_))
  · refine ⟨F1, ρ, μ1, G, _, c1, rs.mono s1, r1, fun oi μ2 F2 H2 r2 s2 c2 => ?_⟩
    try dsimp only at r2
    split at r2
    · rename_i a k ds
      cases (show x = .ref a from q1)
      obtain ⟨m, em, h⟩ := onS_ok r2
      split at h
      · rename_i ws
        obtain ⟨h1, h2, h3, h4⟩ := h
        obtain ⟨hFa, _, o', ho', vs, rfl, kv⟩ := c2.mu _ _ em
        have r3 := rw'.mono (s1.trans s2)
        cases (show Rp X.K F2 v _ from r3) with
        | lst e k' =>
          rename_i b ys
          refine ⟨a, b, k, vs, ys, rfl, rfl, ?_, rfl, ho', c2.sub _ _ e, h1, by rw [kv.len]; exact h2, by rw [kv.len, k'.len]; exact h3, ?_⟩
          · intro z
            rw [← z, hFa] at e
            cases e
          · exact fin _ _ _ _ _ h4 (s1.trans s2) (c2.write em ⟨_, rfl, (RwAll.take _ kv).app k'.w⟩) (rs.mono (s1.trans s2))
      · exact h.elim
    · exact r2.elim
  rintro ov s1 ⟨x, H1, I1, r1, q1⟩
  refine wpAny_bind (wpAny_holding (wpAny_Slice (thn (hl.po.run pins s1 σ H1 _ I1 q1) ?_)))
  rintro vl s2 ⟨oi, H2, I2, pl, a, b, k, xs, ys, rfl, rfl, hne, rfl, ha, hb, h1, h2, h3, q⟩
  refine thn (po_none.run pins s2 σ H2 (fun o2 H3 => o2 = none ∧ H3 = H2) I2 ⟨rfl, rfl⟩) ?_
  rintro vu s3 ⟨o3, H3, I3, pu, rfl, rfl⟩
  refine thn (po_none.run pins s3 σ H3 (fun o2 H4 => o2 = none ∧ H4 = H3) I3 ⟨rfl, rfl⟩) ?_
  rintro vs s4 ⟨o4, H4, I4, ps, rfl, rfl⟩
  cases r1
  cases rv
  cases pu
  cases ps
  cases pl with
  | int _ uk =>
    have I5 : Inv X pins σ H4 { s4 with heap := s4.heap.push { cls := .type "slice", data := .fields #[.int k uk, .none, .none] } } := I4.kept (t' := s4.toks) fun b ob q => Heap.get?_push_of_some _ q
    refine wpAny_bind (wpAny_standAt (wpAny_bind (wpAny_holding ?_)))
    obtain ⟨z1, its, n, ra, hla, e1⟩ := I5.lstM ha
    obtain ⟨z2, its2, n2, rb, hlb, e2⟩ := I5.lstM hb
    have l1 := ra.length
    have l2 := rb.length
    refine item_open (its := its.toArray) (its2 := its2.toArray) e1 e2 (Heap.IsSliceOf.new ..) h1 (by rw [List.size_toArray]; omega) hne (by rw [List.size_toArray]; omega) (by rw [List.size_toArray, List.size_toArray]; omega) ?_
    refine wpAny_release ⟨σ, _, I5.lset (ys := xs.take k.toNat ++ ys) (its' := its.take k.toNat ++ its2) ha e1 ?_ ?_ ?_, q⟩
    · have hm : (max k (its.toArray.size : Int)).toNat = its.length := by rw [List.size_toArray]; omega
      show its.toArray.extract 0 k.toNat ++ its2.toArray ++ its.toArray.extract (max k (its.toArray.size : Int)).toNat = _
      rw [hm]
      apply Array.ext'
      simp
    · exact (vals_take _ ra).append rb
    · rw [List.length_append, List.length_take]; omega
end
end DL

set_option Elab.async false
set_option linter.all false
set_option maxRecDepth 100000
set_option maxHeartbeats 2000000
/-! rows that are never reached; ord; list(xs); pop at a place; walks over whatever a name holds -/
namespace DL
open PySem PySem.Spec PyProof.Rows L2 HT
section
variable {X : Cx}
def tNeverD : DTS := fun _ _ _ => False
theorem ds_never {st : Stmt} : DS X st tNeverD := ⟨⟨fun pins s σ H D I ⟨_, _, _, _, _, _, _, h, _⟩ => h.elim⟩⟩
end
section
variable {K : PySem.W.Frag} {F H G : Hp} {μ : M} {R : DQ} {p : Addr}
theorem vw_tuple {w : W} {ds : List PyData} (e : vw w μ = .d (.tuple ds)) : w = .d (.tuple ds) := by
  unfold vw at e
  split at e
  · rename_i a
    cases em : μ a with
    | none => rw [em] at e; cases e
    | some m =>
      cases m with
      | lst ws =>
        cases ed : dats ws with
        | none => simp only [em, ed] at e; cases e
        | some ds => simp only [em, ed] at e; cases e
      | tup ws => rw [em] at e; cases e
      | dct kvs => rw [em] at e; cases e
      | ins C dx fs => rw [em] at e; cases e
      | exc nm ea ed => rw [em] at e; cases e
      | xd fs => rw [em] at e; cases e
  · exact e
theorem vw_str {w : W} {z : Str} (e : vw w μ = .d (.str z)) : w = .d (.str z) := by
  unfold vw at e
  split at e
  · rename_i a
    cases em : μ a with
    | none => rw [em] at e; cases e
    | some m =>
      cases m with
      | lst ws =>
        cases ed : dats ws with
        | none => simp only [em, ed] at e; cases e
        | some ds => simp only [em, ed] at e; cases e
      | tup ws => rw [em] at e; cases e
      | dct kvs => rw [em] at e; cases e
      | ins C dx fs => rw [em] at e; cases e
      | exc nm ea ed => rw [em] at e; cases e
      | xd fs => rw [em] at e; cases e
  · exact e
/-! list(xs) -/
def rListOf (K : PySem.W.Frag) : List V → Hp → VK → Prop := fun xs H Q => ∃ p ys, xs = [V.ref p] ∧ (SqL K H p ys ∨ SqT K H p ys) ∧ ∀ l, H l = none → Q (.ref l) (upd H l (.lst ys))
def listMD : DC := fun ws μ R => match ws with
  | [w] => match vw w μ with
    | .d (.list ds) => ∀ p, μ p = none → R (.v (.ref p)) (mset μ p (.lst (ds.map .d)))
    | .d (.tuple ds) => ∀ p, μ p = none → R (.v (.ref p)) (mset μ p (.lst (ds.map .d)))
    | _ => False
  | _ => False
theorem l_listM : LiftA K (rListOf K) listMD := by
  intro F H G μ vs ws R Q c rv h fin
  unfold listMD at h
  split at h
  · rename_i w
    cases rv with
    | cons r t =>
      cases t
      split at h
      · rename_i ds e
        obtain ⟨p, vs, rfl, hp, k⟩ := vw_list c r e
        exact ⟨p, vs, rfl, .inl (.inl (.inl hp)), fun l hl => fin _ _ _ _ _ (h l (c.noM hl)) (Same.refl _) (c.born hl ⟨_, rfl, k.w⟩) rfl⟩
      · rename_i ds e
        obtain rfl := vw_tuple e
        cases (show Rp K F _ _ from r) with
        | tup e k => exact ⟨_, _, rfl, .inr (SqT_mono c.sub e), fun l hl => fin _ _ _ _ _ (h l (c.noM hl)) (Same.refl _) (c.born hl ⟨_, rfl, k.w⟩) rfl⟩
      · exact h.elim
  · exact h.elim
theorem q_listML {ds : List PyData} : listMD [.d (.list ds)] μ R = ∀ p, μ p = none → R (.v (.ref p)) (mset μ p (.lst (ds.map .d))) := rfl
theorem q_listMT {ds : List PyData} : listMD [.d (.tuple ds)] μ R = ∀ p, μ p = none → R (.v (.ref p)) (mset μ p (.lst (ds.map .d))) := rfl
def listDD : DC := fun ws μ R => match ws with
  | [w] => match vw w μ with
    | .d (.list ds) => R (.d (.list ds)) μ
    | .d (.tuple ds) => R (.d (.list ds)) μ
    | _ => False
  | _ => False
theorem l_listD : LiftA K (rListOf K) listDD := by
  intro F H G μ vs ws R Q c rv h fin
  unfold listDD at h
  split at h
  · rename_i w
    cases rv with
    | cons r t =>
      cases t
      split at h
      · rename_i ds e
        obtain ⟨p, vs, rfl, hp, k⟩ := vw_list c r e
        refine ⟨p, vs, rfl, .inl (.inl (.inl hp)), fun l hl => ?_⟩
        obtain ⟨s, c'⟩ := c.lay hl (.lst vs)
        exact fin _ _ _ _ _ h s c' (.lst upd_same (k.mono s))
      · rename_i ds e
        obtain rfl := vw_tuple e
        cases (show Rp K F _ _ from r) with
        | tup e k =>
          refine ⟨_, _, rfl, .inr (SqT_mono c.sub e), fun l hl => ?_⟩
          obtain ⟨s, c'⟩ := c.lay hl (.lst _)
          exact fin _ _ _ _ _ h s c' (.lst upd_same (k.mono s))
      · exact h.elim
  · exact h.elim
theorem q_listDL {ds : List PyData} : listDD [.d (.list ds)] μ R = R (.d (.list ds)) μ := rfl
theorem q_listDT {ds : List PyData} : listDD [.d (.tuple ds)] μ R = R (.d (.list ds)) μ := rfl
/-! ord -/
def rOrd : List V → Hp → VK → Prop := fun xs H Q => ∃ x, xs = [V.str x] ∧ x.length = 1 ∧ Q (.int (x.cps.getD 0 0 : Nat)) H
def ordD : DC := fun ws μ R => match ws with
  | [.d (.str x)] => x.length = 1 ∧ R (.d (.int (x.cps.getD 0 0 : Nat))) μ
  | _ => False
theorem l_ord : LiftA K rOrd ordD := by
  intro F H G μ vs ws R Q c rv h fin
  unfold ordD at h
  split at h
  · cases rv with
    | cons r t =>
      cases t
      cases (show Rp K F _ _ from r)
      exact ⟨_, rfl, h.1, fin.flat c h.2 (.int _)⟩
  · exact h.elim
theorem q_ord {x : Str} : ordD [.d (.str x)] μ R = (x.length = 1 ∧ R (.d (.int (x.cps.getD 0 0 : Nat))) μ) := rfl
/-! pop at a place -/
theorem RwAll.erase : ∀ {vs : List V} {ws : List W} (i : Nat), RwAll K F vs ws → RwAll K F (vs.eraseIdx i) (ws.eraseIdx i)
  | _, _, _, .nil => .nil
  | _, _, 0, .cons _ t => t
  | _, _, i + 1, .cons r t => .cons r (RwAll.erase i t)
def popAtD : DM := fun x ws μ R => match x, ws with
  | .v (.ref a), [.d (.int i)] => onS (μ a) fun m => match m with
    | .lst ws => 0 ≤ i ∧ i < 2 ^ 60 ∧ onS ws[i.toNat]? fun w => R w (mset μ a (.lst (ws.eraseIdx i.toNat)))
    | _ => False
  | _, _ => False
theorem seqIx {i : Int} {n : Nat} (h0 : 0 ≤ i) (h1 : i.toNat < n) : seqIndex? i n = some i.toNat := by
  unfold seqIndex?
  simp only [show ¬ i < 0 by omega, if_false]
  first
    | rw [if_pos (by omega)]
    | (split <;> first | rfl | omega)
    | simp; omega
theorem l_popAt : LiftM K rPopAt popAtD := by
  intro F H G μ x wx vs ws R Q c rx rv h fin
  unfold popAtD at h
  split at h
  · rename_i a i
    cases (show x = .ref a from rx)
    obtain ⟨m, em, h⟩ := onS_ok h
    split at h
    · rename_i us
      obtain ⟨h0, h1, h⟩ := h
      obtain ⟨w, ew, h⟩ := onS_ok h
      obtain ⟨_, _, o, ho, zs, rfl, k⟩ := c.mu _ _ em
      obtain ⟨y, ey, ry⟩ := RwAll.get k ew
      have hl : i.toNat < zs.length := by
        rcases Nat.lt_or_ge i.toNat zs.length with z | z
        · exact z
        · rw [List.getElem?_eq_none z] at ey; cases ey
      cases rv with
      | cons r1 t =>
        cases t
        cases (show Rp K F _ (.int i) from r1)
        exact ⟨_, _, i, i.toNat, y, rfl, rfl, ho, by omega, by omega, seqIx h0 hl, ey, fin _ _ _ _ _ h (Same.refl _) (c.write em ⟨_, rfl, RwAll.erase _ k⟩) ry⟩
    · exact h.elim
  · exact h.elim
theorem q_popAt {i : Int} : popAtD (.v (.ref p)) [.d (.int i)] μ R = onS (μ p) fun m => match m with
    | .lst ws => 0 ≤ i ∧ i < 2 ^ 60 ∧ onS ws[i.toNat]? fun w => R w (mset μ p (.lst (ws.eraseIdx i.toNat)))
    | _ => False := rfl
end
/-! a walk over what a name holds: a list, a tuple, a text -/
section
variable {X : Cx} {tg : Expr}
def tItV (i : Nat) : DTI := fun ρ μ R => match ρ[i]? with
  | some (some (.d (.list ds))) => R (ds.map .d) μ
  | some (some (.d (.tuple ds))) => R (ds.map .d) μ
  | some (some (.d (.str z))) => R (signs z) μ
  | _ => False
theorem di_any {e : Expr} {i : Nat} (h : DE X e (tVarD i)) : DI X tg e (tItV i) := ⟨⟨fun pins s σ H Q I ⟨F, ρ, μ, G, R, c, rs, h', fin⟩ => by
  unfold tItV at h'
  split at h'
  · rename_i ds e
    refine (di_list h).pi.run pins s σ H Q I ⟨F, ρ, μ, G, R, c, rs, ?_, fin⟩
    show tVarD i ρ μ _
    unfold tVarD
    rw [e]
    exact h'
  · rename_i ds e
    refine (di_tup h).pi.run pins s σ H Q I ⟨F, ρ, μ, G, R, c, rs, ?_, fin⟩
    show tVarD i ρ μ _
    unfold tVarD
    rw [e]
    exact h'
  · rename_i z e
    refine (di_str h).pi.run pins s σ H Q I ⟨F, ρ, μ, G, R, c, rs, ?_, fin⟩
    show tVarD i ρ μ _
    unfold tVarD
    rw [e]
    exact h'
  · exact h'.elim⟩⟩
end
end DL

set_option Elab.async false
set_option linter.all false
set_option maxRecDepth 100000
set_option maxHeartbeats 2000000
/-! tuple and list of a text; repr of a text; join of whatever; products of great numbers -/
namespace DL
open PySem PySem.Spec PyProof.Rows L2 HT
theorem signs_vals : ∀ (cs : List Nat) (us : List Value), us.length = cs.length → (∀ (j : Nat) (v : Value), us[j]? = some v → ∃ c u, cs[j]? = some c ∧ v = Value.str ⟨#[c]⟩ u) → Vals (cs.map fun c => V.str ⟨#[c]⟩) us
  | [], [], _, _ => .nil
  | [], _ :: _, h, _ => by cases h
  | _ :: _, [], h, _ => by cases h
  | c :: cs, v :: us, h, k => by
    obtain ⟨c', u, e1, e2⟩ := k 0 v rfl
    have : c = c' := by simpa using e1
    subst this
    exact .cons ⟨u, e2⟩ (signs_vals cs us (by simpa using h) fun j w e => by simpa using k (j + 1) w (by simpa using e))
def signV (z : Str) : List V := z.cps.toList.map fun c => V.str ⟨#[c]⟩
theorem items_vals {z : Str} {acc : Array Value} (h : ItemsOf (SignAt z) acc z.cps.size) : Vals (signV z) acc.toList := by
  refine signs_vals _ _ (by rw [Array.length_toList, Array.length_toList]; exact h.1) fun j v e => ?_
  rw [Array.getElem?_toList] at e
  obtain ⟨c, u, e1, e2⟩ := h.2 j v e
  exact ⟨c, u, by rw [Array.getElem?_toList]; exact e1, e2⟩
theorem signV_len (z : Str) : (signV z).length = z.length := by
  unfold signV
  rw [List.length_map, Array.length_toList]; rfl
section
variable {X : Cx}
def rTupS : List V → Hp → VK → Prop := fun xs H Q => ∃ z, xs = [V.str z] ∧ z.length ≤ sizeLine ∧ ∀ l, H l = none → Q (.ref l) (upd H l (.tup (signV z)))
def rLstS : List V → Hp → VK → Prop := fun xs H Q => ∃ z, xs = [V.str z] ∧ z.length ≤ sizeLine ∧ ∀ l, H l = none → Q (.ref l) (upd H l (.lst (signV z)))
theorem call_tupS (hc : X.calm = true) : CallR X (.type "tuple") rTupS := by
  rintro pins s σ H xs us Q I rv ⟨z, rfl, hz, q⟩
  cases rv with
  | cons r t =>
    cases t
    obtain ⟨u, rfl⟩ := r
    refine call_tuple_str (I.ok.hd hc) z u (fun h' tk acc k hi => ?_) hz
    have I1 := I.kept (t' := tk) k
    have hv := items_vals hi
    refine ⟨.ref _, _, I1.laid (t' := tk) (o := .tup (signV z)) (fun b ob q => Heap.get?_push_of_some _ q) (Nat.le_refl _) ?_, rfl, q _ (I1.hok.fresh (Nat.le_refl _))⟩
    exact ⟨by rw [signV_len]; exact hz, _, hv, IsTup.new _ _⟩
theorem call_lstS (hc : X.calm = true) : CallR X (.type "list") rLstS := by
  rintro pins s σ H xs us Q I rv ⟨z, rfl, hz, q⟩
  cases rv with
  | cons r t =>
    cases t
    obtain ⟨u, rfl⟩ := r
    refine call_list_str (I.ok.hd hc) z u (fun h' tk acc n k hg hi => ?_) hz
    have hv := items_vals hi
    refine ⟨.ref _, _, I.laid (t' := tk) (o := .lst (signV z)) k (Nat.le_refl _) ?_, rfl, q _ (I.hok.fresh (Nat.le_refl _))⟩
    first
      | exact ⟨by rw [signV_len]; exact hz, _, n, hv, hg⟩
      | exact ⟨_, n, hv, hg, by rw [signV_len]; exact hz⟩
def rReprS : List V → Hp → VK → Prop := fun xs H Q => ∃ z, xs = [V.str z] ∧ (PyData.shown (.str z)).length ≤ sizeLine ∧ Q (.str (PyData.shown (.str z))) H
theorem call_reprS : CallR X (.builtin "repr") rReprS := by
  rintro pins s σ H xs us Q I rv ⟨z, rfl, hz, q⟩
  cases rv with
  | cons r t =>
    cases t
    obtain ⟨u, rfl⟩ := r
    refine P.repr_of_str ?_ hz
    exact ⟨.str _, H, I.kept (t' := s.toks + 1) (fun _ _ h => h), ⟨_, rfl⟩, q⟩
def rTupA (K : PySem.W.Frag) : List V → Hp → VK → Prop := fun xs H Q => (∃ p ys, xs = [V.ref p] ∧ ((SqL K H p ys ∧ ∀ l, H l = none → Q (.ref l) (upd H l (.tup ys))) ∨ (SqT K H p ys ∧ Q (.ref p) H))) ∨ rTupS xs H Q
theorem call_tupA (hc : X.calm = true) : CallR X (.type "tuple") (rTupA X.K) := DL.CallR.or call_tuple_of (call_tupS hc)
def rLstA (K : PySem.W.Frag) : List V → Hp → VK → Prop := fun xs H Q => rListOf K xs H Q ∨ rLstS xs H Q
theorem call_lstA (hc : X.calm = true) : CallR X (.type "list") (rLstA X.K) := DL.CallR.or call_list_of (call_lstS hc)
def rReprA (K : PySem.W.Frag) : List V → Hp → VK → Prop := fun xs H Q => (rReprD K xs H Q ∨ (xs = [V.non] ∧ Q (.str (Str.ofString "None")) H)) ∨ rReprS xs H Q
theorem call_reprA (hu : X.A.units + 100 < cLine) (hg : X.A.guards = some []) : CallR X (.builtin "repr") (rReprA X.K) := DL.CallR.or (DL.CallR.or (call_reprD hu hg) call_reprN) call_reprS
theorem MtR.or {id : String} {r1 r2 : V → List V → Hp → VK → Prop} (h1 : MtR X id r1) (h2 : MtR X id r2) : MtR X id fun x xs H Q => r1 x xs H Q ∨ r2 x xs H Q := fun pins s σ H x xs v us Q I rx rv h => by
  rcases h with h | h
  · exact h1 pins s σ H x xs v us Q I rx rv h
  · exact h2 pins s σ H x xs v us Q I rx rv h
end
section
variable {K : PySem.W.Frag} {F H G : Hp} {μ : M} {R : DQ} {p : Addr}
def signD (z : Str) : List PyData := z.cps.toList.map fun c => .str ⟨#[c]⟩
theorem sign_rp : ∀ cs : List Nat, RpAll K F (cs.map fun c => V.str ⟨#[c]⟩) (cs.map fun c => PyData.str ⟨#[c]⟩)
  | [] => .nil
  | _ :: r => .cons (.str _) (sign_rp r)
def tupofSD : DC := fun ws μ R => match ws with
  | [.d (.str z)] => z.length ≤ sizeLine ∧ R (.d (.tuple (signD z))) μ
  | ws => tupofD ws μ R
theorem l_tupofS : LiftA K (rTupA K) tupofSD := by
  intro F H G μ vs ws R Q c rv h fin
  unfold tupofSD at h
  split at h
  · rename_i z
    cases rv with
    | cons r t =>
      cases t
      cases (show Rp K F _ _ from r)
      refine .inr ⟨z, rfl, h.1, fun l hl => ?_⟩
      obtain ⟨s, c'⟩ := c.lay hl (.tup (signV z))
      exact fin _ _ _ _ _ h.2 s c' (.tup (.inl (.inl upd_same)) (sign_rp _))
  · exact .inl (l_tupof c rv h fin)
theorem q_tupSL {xs : List PyData} : tupofSD [.d (.list xs)] μ R = R (.d (.tuple xs)) μ := rfl
theorem q_tupST {xs : List PyData} : tupofSD [.d (.tuple xs)] μ R = R (.d (.tuple xs)) μ := rfl
theorem q_tupSS {z : Str} : tupofSD [.d (.str z)] μ R = (z.length ≤ sizeLine ∧ R (.d (.tuple (signD z))) μ) := rfl
def listSD : DC := fun ws μ R => match ws with
  | [.d (.str z)] => z.length ≤ sizeLine ∧ R (.d (.list (signD z))) μ
  | ws => listDD ws μ R
theorem l_listS : LiftA K (rLstA K) listSD := by
  intro F H G μ vs ws R Q c rv h fin
  unfold listSD at h
  split at h
  · rename_i z
    cases rv with
    | cons r t =>
      cases t
      cases (show Rp K F _ _ from r)
      refine .inr ⟨z, rfl, h.1, fun l hl => ?_⟩
      obtain ⟨s, c'⟩ := c.lay hl (.lst (signV z))
      exact fin _ _ _ _ _ h.2 s c' (.lst upd_same (sign_rp _))
  · exact .inl (l_listD c rv h fin)
theorem q_listSS {z : Str} : listSD [.d (.str z)] μ R = (z.length ≤ sizeLine ∧ R (.d (.list (signD z))) μ) := rfl
theorem q_listSL {xs : List PyData} : listSD [.d (.list xs)] μ R = R (.d (.list xs)) μ := rfl
theorem q_listST {xs : List PyData} : listSD [.d (.tuple xs)] μ R = R (.d (.list xs)) μ := rfl
/-! repr, of texts too -/
def reprX : DC := fun ws μ R => match ws with
  | [.d (.str z)] => (PyData.shown (.str z)).length ≤ sizeLine ∧ R (.d (.str (PyData.shown (.str z)))) μ
  | ws => reprV ws μ R
theorem l_reprX : LiftA K (rReprA K) reprX := by
  intro F H G μ vs ws R Q c rv h fin
  unfold reprX at h
  split at h
  · rename_i z
    cases rv with
    | cons r t =>
      cases t
      cases (show Rp K F _ _ from r)
      exact .inr ⟨z, rfl, h.1, fin.flat c h.2 (.str _)⟩
  · exact .inl (l_reprV c rv h fin)
theorem q_reprXS {z : Str} : reprX [.d (.str z)] μ R = ((PyData.shown (.str z)).length ≤ sizeLine ∧ R (.d (.str (PyData.shown (.str z)))) μ) := rfl
theorem q_reprXT {xs : List PyData} : reprX [.d (.tuple xs)] μ R = reprD [.d (.tuple xs)] μ R := rfl
theorem q_reprXL {xs : List PyData} : reprX [.d (.list xs)] μ R = reprD [.d (.list xs)] μ R := rfl
theorem q_reprXm {ds : List PyData} (h : vw (.v (.ref p)) μ = .d (.list ds)) : reprX [.v (.ref p)] μ R = reprD [.d (.list ds)] μ R := q_reprVm h
theorem q_reprXs {ds : List PyData} : reprX [.v (.ref p)] (mset μ p (.lst (ds.map .d))) R = reprD [.d (.list ds)] (mset μ p (.lst (ds.map .d))) R := q_reprVm q_vws
def sindexD : DM := fun x ws μ R => match x, ws with
  | .d (.str a), [.d (.str b)] => ∃ i rest, Builtin.Str.occurrences a b 0 a.length 1 = i :: rest ∧ R (.d (.int (i : Nat))) μ
  | _, _ => False
theorem l_sindex : LiftM K (fun x xs H Q => ∃ a b i rest, x = V.str a ∧ xs = [V.str b] ∧ Builtin.Str.occurrences a b 0 a.length 1 = i :: rest ∧ Q (V.int (i : Nat)) H) sindexD := by
  intro F H G μ x wx vs ws R Q c rx rv h fin
  unfold sindexD at h
  split at h
  · cases rx
    cases rv with
    | cons r t =>
      cases t
      cases r
      obtain ⟨i, rest, h1, h2⟩ := h
      exact ⟨_, _, i, rest, rfl, rfl, h1, fin.flat c h2 (.int _)⟩
  · exact h.elim
theorem q_sindex {a b : Str} : sindexD (.d (.str a)) [.d (.str b)] μ R = ∃ i rest, Builtin.Str.occurrences a b 0 a.length 1 = i :: rest ∧ R (.d (.int (i : Nat))) μ := rfl
def rmpreD : DM := fun x ws μ R => match x, ws with
  | .d (.str a), [.d (.str b)] => a.length ≤ sizeLine ∧ R (.d (.str (Txt.removeprefix a b))) μ
  | _, _ => False
theorem l_rmpre : LiftM K (fun x xs H Q => ∃ a b, x = V.str a ∧ xs = [V.str b] ∧ a.length ≤ sizeLine ∧ Q (V.str (Txt.removeprefix a b)) H) rmpreD := by
  intro F H G μ x wx vs ws R Q c rx rv h fin
  unfold rmpreD at h
  split at h
  · cases rx
    cases rv with
    | cons r t =>
      cases t
      cases r
      exact ⟨_, _, rfl, rfl, h.1, fin.flat c h.2 (.str _)⟩
  · exact h.elim
theorem q_rmpre {a b : Str} : rmpreD (.d (.str a)) [.d (.str b)] μ R = (a.length ≤ sizeLine ∧ R (.d (.str (Txt.removeprefix a b))) μ) := rfl
/-! join of a text's signs, or of texts -/
def rJoin (K : PySem.W.Frag) : V → List V → Hp → VK → Prop := fun x xs H Q => (∃ a p, ∃ ys : List Str, x = V.str a ∧ xs = [V.ref p] ∧ (SqL K H p (ys.map V.str) ∨ SqT K H p (ys.map V.str)) ∧ (ys.map (·.length)).sum + ys.length * a.length ≤ 16777216 ∧ Q (.str (Txt.join a ys)) H) ∨ (∃ a y, x = V.str a ∧ xs = [V.str y] ∧ y.length ≤ 1000 ∧ a.length ≤ 1000 ∧ Q (V.str (Txt.join a (PyProof.Rows.signs y))) H)
theorem mt_joinA {X : Cx} (hc : X.calm = true) : MtR X "str.join" (rJoin X.K) := MtR.or mt_join (mt_joinS hc)
def joinAD : DM := fun x ws μ R => match x, ws with
  | .d (.str a), [.d (.str y)] => y.length ≤ 1000 ∧ a.length ≤ 1000 ∧ R (.d (.str (Txt.join a (PyProof.Rows.signs y)))) μ
  | x, ws => joinD x ws μ R
theorem l_joinA : LiftM K (rJoin K) joinAD := by
  intro F H G μ x wx vs ws R Q c rx rv h fin
  unfold joinAD at h
  split at h
  · exact .inr (l_joinS c rx rv h fin)
  · exact .inl (l_join c rx rv h fin)
theorem q_joinAS {a y : Str} : joinAD (.d (.str a)) [.d (.str y)] μ R = (y.length ≤ 1000 ∧ a.length ≤ 1000 ∧ R (.d (.str (Txt.join a (PyProof.Rows.signs y)))) μ) := rfl
theorem q_joinAL {a : Str} {xs : List PyData} : joinAD (.d (.str a)) [.d (.list xs)] μ R = onS (strsD xs) fun ys => (ys.map (·.length)).sum + ys.length * a.length ≤ 16777216 ∧ R (.d (.str (Txt.join a ys))) μ := rfl
theorem q_joinAT {a : Str} {xs : List PyData} : joinAD (.d (.str a)) [.d (.tuple xs)] μ R = onS (strsD xs) fun ys => (ys.map (·.length)).sum + ys.length * a.length ≤ 16777216 ∧ R (.d (.str (Txt.join a ys))) μ := rfl
theorem Const.ints {mg : Str → Option Value} {x : Str} {a : Addr} {dd : Option Addr} {us : List Value} {n : Nat} {sl : Array (Option Value)} {ns : List Int} (h : mg x = some (.ref a)) (l : K.lookup a = some ⟨.type "tuple", dd, .seq us.toArray n, sl⟩) (hz : us.length ≤ sizeLine) (r : Vals (ns.map V.int) us) :
    Const K mg x (.d (.tuple (ns.map .int))) := ⟨.ref a, _, h, rfl, fun F => Rp.tup (.inr ⟨_, us.toArray, n, l, rfl, rfl, by simpa using hz, by simpa using r⟩) (ints_rp ns)⟩
theorem Const.two {mg : Str → Option Value} {x : Str} {a b c : Addr} {dd d1 d2 : Option Addr} {us vs : List Value} {n n1 n2 : Nat} {sl s1 s2 : Array (Option Value)} {ns ms : List Int} (h : mg x = some (.ref a)) (l : K.lookup a = some ⟨.type "tuple", dd, .seq ([.ref b, .ref c] : List Value).toArray n, sl⟩)
    (lb : K.lookup b = some ⟨.type "tuple", d1, .seq us.toArray n1, s1⟩) (lc : K.lookup c = some ⟨.type "tuple", d2, .seq vs.toArray n2, s2⟩) (hz : us.length ≤ sizeLine) (hz2 : vs.length ≤ sizeLine) (r : Vals (ns.map V.int) us) (r2 : Vals (ms.map V.int) vs) :
    Const K mg x (.d (.tuple [.tuple (ns.map .int), .tuple (ms.map .int)])) :=
  ⟨.ref a, _, h, rfl, fun F => Rp.tup (xs := [.ref b, .ref c]) (.inr ⟨_, ([.ref b, .ref c] : List Value).toArray, n, l, rfl, rfl, by simp [sizeLine], .cons rfl (.cons rfl .nil)⟩)
    (.cons (Rp.tup (.inr ⟨_, us.toArray, n1, lb, rfl, rfl, by simpa using hz, by simpa using r⟩) (ints_rp ns)) (.cons (Rp.tup (.inr ⟨_, vs.toArray, n2, lc, rfl, rfl, by simpa using hz2, by simpa using r2⟩) (ints_rp ms)) .nil))⟩
/-! products of great numbers -/
def mulZ : D2 := fun x y μ R => match x, y with
  | .d (.int i), .d (.int j) => CMulW i j ∧ R (.d (.int (i * j))) μ
  | x, y => mulY x y μ R
def rMulZ (K : PySem.W.Frag) : R2 := fun x y H Q => rI CMulW (fun i j => V.int (i * j)) x y H Q ∨ rMulY K x y H Q
theorem op_mulZ {X : Cx} : OpR X (binaryOp .Mult) (rMulZ X.K) := OpR.or op_mulW op_mulY
theorem l_mulZ : Lift2 K (rMulZ K) mulZ := by
  intro F H G μ x y wx wy R Q c rx ry h fin
  unfold mulZ at h
  split at h
  · cases rx; cases ry
    exact .inl ⟨_, _, rfl, rfl, h.1, fin.flat c h.2 (.int _)⟩
  · exact .inr (l_mulY c rx ry h fin)
theorem q_mulZI {i j : Int} : mulZ (.d (.int i)) (.d (.int j)) μ R = (CMulW i j ∧ R (.d (.int (i * j))) μ) := rfl
theorem q_mulZL {xs : List PyData} {i : Int} : mulZ (.d (.list xs)) (.d (.int i)) μ R = mulD (.d (.list xs)) (.d (.int i)) μ R := rfl
theorem cmulW {i j : Int} {a b : Nat} (hi : i.natAbs < 2 ^ a) (hj : j.natAbs < 2 ^ b) (h : a + b ≤ 900000) : CMulW i j := by
  unfold CMulW
  have h1 : i.natAbs.log2 ≤ a := by
    rcases Nat.eq_zero_or_pos i.natAbs with z | z
    · rw [z]; exact Nat.zero_le _
    · exact Nat.le_of_lt ((Nat.log2_lt (by omega)).mpr hi)
  have h2 : j.natAbs.log2 ≤ b := by
    rcases Nat.eq_zero_or_pos j.natAbs with z | z
    · rw [z]; exact Nat.zero_le _
    · exact Nat.le_of_lt ((Nat.log2_lt (by omega)).mpr hj)
  omega
end
end DL

set_option Elab.async false
set_option linter.all false
set_option maxRecDepth 100000
set_option maxHeartbeats 2000000
/-! a text in a written dict -/
namespace DL
open PySem PySem.Spec PyProof.Rows L2 HT
def isK (ks : List Str) (e : DictEntry) : Bool := match e.key with
  | .str k _ => ks.contains k
  | _ => false
structure KTabI (K : PySem.W.Frag) (w : World) (mg : Str → Option Value) (x : Str) (ks : List Str) : Prop where
  ex : ∃ p es n, mg x = some (.ref p) ∧ KDict K w p es n ∧ ∀ z, ∃ r, PySem.W.nsIn K p z = some r ∧ r.isSome = ks.contains z
theorem find_absent {ks : List Str} {z : Str} (hz : ks.contains z = false) : ∀ {es : List DictEntry}, es.all (isK ks) = true → es.find? (fun x => x.key.isStr z) = none ∧ (es.any fun x => x.refKey) = false
  | [], _ => ⟨rfl, rfl⟩
  | e :: r, h => by
    rw [List.all_cons, Bool.and_eq_true] at h
    obtain ⟨h1, h2⟩ := find_absent hz h.2
    have h0 := h.1
    obtain ⟨hs, k, v⟩ := e
    unfold isK at h0
    simp only at h0
    split at h0
    · rename_i s t
      have hne : ¬ s = z := fun e => by rw [e, hz] at h0; cases h0
      refine ⟨?_, ?_⟩
      · rw [List.find?_cons_of_neg (by first | (simp [Value.isStr]; exact hne) | (simp [Value.isStr, hne]))]
        exact h1
      · rw [List.any_cons, h2, Bool.or_false]; rfl
    · cases h0
theorem KTabI.mk' {K : PySem.W.Frag} {w : World} {mg : Str → Option Value} {x : Str} {ks : List Str} {p : Addr} {es : Array DictEntry} {n : Nat} (hm : mg x = some (.ref p)) (o : K.lookup p = some ⟨.type "dict", none, .dict es n, #[]⟩) (kl : PySem.W.KeysLit w.params es.toList) (lo : (p == sysModules) = false)
    (hk : es.toList.all (isK ks) = true) (hp : ∀ k ∈ ks, ∃ v, PySem.W.nsIn K p k = some (some v)) : KTabI K w mg x ks := by
  refine ⟨p, es, n, hm, ⟨o, kl, lo⟩, fun z => ?_⟩
  cases hz : ks.contains z with
  | true =>
    obtain ⟨v, e⟩ := hp z (by simpa using hz)
    exact ⟨_, e, rfl⟩
  | false =>
    obtain ⟨h1, h2⟩ := find_absent hz hk
    refine ⟨none, ?_, rfl⟩
    unfold PySem.W.nsIn
    rw [o]
    simp only [h1, h2, Bool.false_eq_true, if_false]
def inTabD (ks : List Str) (d : Addr) : D2 := fun x y μ R => match x, y with
  | .d (.str z), .v (.ref a) => a = d ∧ R (.d (.bool (ks.contains z))) μ
  | _, _ => False
theorem l_inTab {K : PySem.W.Frag} {ks : List Str} {d : Addr} (hz : ∀ z, ∃ r, PySem.W.nsIn K d z = some r ∧ r.isSome = ks.contains z) : Lift2 K (fun x y H Q => ∃ (z : Str) (r : Option Value), x = V.str z ∧ y = V.ref d ∧ PySem.W.nsIn K d z = some r ∧ Q (.bl r.isSome) H) (inTabD ks d) := by
  intro F H G μ x y wx wy R Q c rx ry h fin
  unfold inTabD at h
  split at h
  · rename_i z a
    cases (show Rp K F x (.str z) from rx)
    cases (show y = .ref a from ry)
    obtain ⟨rfl, h⟩ := h
    obtain ⟨r, e1, e2⟩ := hz z
    exact ⟨z, r, rfl, rfl, e1, by rw [e2]; exact fin.flat c h (.bl _)⟩
  · exact h.elim
section
variable {X : Cx}
def tInTab (ks : List Str) (ta : DTE) : DTE := fun ρ μ R => ta ρ μ fun w μ1 => match w with
  | .d (.str z) => R (.d (.bool (ks.contains z))) μ1
  | _ => False
theorem de_inTab {x : Str} {p pos : Pos} {a : Expr} {ta : DTE} {ks : List Str} (c : KTabI X.K X.w X.mg x ks) (hg : Gl X x) (hd : (x == ("__debug__" : Str)) = false) (ha : DE X a ta) (nm : behindInMarks .In (.Name x p) = false) : DE X (.Compare a [.In] [.Name x p] pos) (tInTab ks ta) := by
  obtain ⟨d, es, n, hm, D, hz⟩ := c.ex
  have hb : DE X (.Name x p) (tK (.v (.ref d))) := de_k (v := .ref d) (pe_glob hg hm (show RelV (V.ref d) (.ref d) from rfl) hd) (fun _ => rfl)
  refine ⟨PE_mono (de_cmp (op_in_kd D) (l_inTab hz) ha hb nm).pe fun σ H Q ⟨F, ρ, μ, G, R, c, rs, h, fin⟩ => ⟨F, ρ, μ, G, R, c, rs, ?_, fin⟩⟩
  have e : (fun (w : W) (μ1 : M) => match w with
      | .d (.str z) => R (.d (.bool (ks.contains z))) μ1
      | _ => False) = fun (w : W) (μ1 : M) => inTabD ks d w (.v (.ref d)) μ1 R := by
    funext w μ1
    cases w with
    | d x => cases x <;> simp [inTabD]
    | s _ => rfl
    | v _ => rfl
  show ta ρ μ fun w μ1 => inTabD ks d w (.v (.ref d)) μ1 R
  rw [← e]
  exact h
end
end DL

set_option Elab.async false
set_option linter.all false
set_option maxRecDepth 100000
set_option maxHeartbeats 200000
/-! calls with one argument by its name, or left out -/
namespace DL
open PySem PySem.Spec PyProof.Rows L2 HT
/-- the last argument by its name kn -/
def KB1 (K : PySem.W.Frag) (fd : FuncData) (ps : List Str) (kn : Str) : Prop := ∀ (s : Shared) (us : List Value) (w : Value), K.In s.heap → (us ++ [w]).length = ps.length → BindsTo s fd ⟨us, [(kn, w)]⟩ (ps.zip (us ++ [w]))
/-- the last argument left out: the text's own number -/
def KBD (K : PySem.W.Frag) (fd : FuncData) (ps : List Str) (z : Int) : Prop := ∃ t, L2.Binds K fd ps [.int z t]
section
variable {X : Cx} {CX : CXT} {k : Nat} {f : Addr} {fd : FuncData} {ps : List Str} {sp : Sp} {E : XK} {x kn : Str} {p pos kpos : Pos} {e ke : Expr} {es : List Expr} {t : TA} {te : TE}
theorem run_fg1 {pins : List (Addr × Obj)} {σ : L2.St} {H : Hp} {s : Shared} {Q : VK} {us : List Value} {vs : List V} {z : V} {w : Value} (F : FG X.prog X.w X.K X.mg X.base CX k f fd ps sp) (hr : Room k X.A) (hg : X.A.guards = some []) (hb : KB1 X.K fd ps kn) (hx : Passes CX X E)
    (I : Inv X pins σ H s) (r : Vals vs us) (rz : Vals [z] [w]) (h : sp (vs ++ [z]) H Q E) : wpAny (model X.prog X.w) X.A (call (.ref f) us [(kn, w)]) (EP X pins σ Q) X.xe s := by
  have rr : Vals (vs ++ [z]) (us ++ [w]) := r.append rz
  have ll : (us ++ [w]).length = ps.length := by
    rw [← rr.length]
    exact F.arity _ _ _ _ h
  refine wpAny_call (codeAny_mono (F.go X.A X.stack s H ⟨us, [(kn, w)]⟩ (us ++ [w]) (vs ++ [z]) Q E hr hg I.env0 (hb s us w I.kIn ll) rr h) ?_)
  intro r s' hq
  match r, hq with
  | .error e, hq => exact hx pins σ H s e s' I hq
  | .ok (.ret u), hq => exact I.after hq
def One (sp : Sp) (Q : VK) (E : XK) (vs : List V) : List V → Hp → Prop
  | [z], H => sp (vs ++ [z]) H Q E
  | _, _ => False
theorem One.out {Q : VK} {vs zs : List V} {H : Hp} (h : One sp Q E vs zs H) : ∃ z, zs = [z] ∧ sp (vs ++ [z]) H Q E := by
  match zs, h with
  | [z], h => exact ⟨z, rfl, h⟩
def tCallK1q (sp : Sp) (E : XK) (t tk : TA) : TE := fun σ H Q => t σ H fun vs H1 => tk σ H1 fun zs H2 => One sp Q E vs zs H2
theorem pe_callGK1 {kws : List Keyword} {tk : TA} (F : FG X.prog X.w X.K X.mg X.base CX k f fd ps sp) (hr : Room k X.A) (hgd : X.A.guards = some []) (hg : Gl X x) (hm : X.mg x = some (.ref f)) (hk : PySem.W.keepIn X.K (.ref f) = true) (hb : KB1 X.K fd ps kn) (hx : Passes CX X E)
    (ha : PA X (e :: es) t) (hkw : PK X kws tk) (hdb : (x == ("__debug__" : Str)) = false) (he : starEach (e :: es) X.env = (false, eval e X.env) :: starEach es X.env)
    (hall : (backToKw pos (keywordEach kws X.env)).all (·.1.isSome) = true) (hks : (backToKw pos (keywordEach kws X.env)).filterMap (·.1) = [kn])
    (hpl : ((backTo pos (starEach (e :: es) X.env)).any (·.1) || (backToKw pos (keywordEach kws X.env)).any (·.1.isNone)) = false) :
    PE X (.Call (.Name x p) (e :: es) kws pos) (tCallK1q sp E t tk) := by
  refine ⟨fun pins s σ H Q I h => ?_⟩
  refine wpAny_Call_Name_kw (ld_glob I hg hm ?_ hdb)
  have h' : t σ H fun vs H1 => tk σ H1 fun zs H2 => One sp Q E vs zs H2 := h
  have A := ha.run pos pins s σ H _ I h'
  refine PySem.W.callWith_KW (h₀ := X.base) I.ok.mod.kin hk hall (thn A ?_) hpl he
  rintro us s1 ⟨vs, H1, I1, r, q⟩
  have B := hkw.run pos pins s1 σ H1 _ I1 q
  refine thn B ?_
  rintro ws s2 ⟨zs, H2, I2, rz, q2⟩
  refine ⟨I2.kIn, ?_⟩
  rw [hks]
  obtain ⟨z, rfl, q3⟩ := One.out q2
  cases rz with
  | cons r1 t =>
    cases t
    exact run_fg1 F hr hgd hb hx I2 r (.cons r1 .nil) q3
end
section
variable {X : Cx} {k : Nat} {f : Addr} {fd : FuncData} {ps : List Str} {x kn : Str} {p pos kpos : Pos} {e ke : Expr} {es : List Expr}
def tCallKD (ds : DSp) (t : DTA) (te : DTE) : DTE := fun ρ μ R => t ρ μ fun ws μ1 => te ρ μ1 fun z μ2 => ds (ws ++ [z]) μ2 R
theorem de_callK1 {ds : DSp} {t : DTA} {te : DTE} (F : FG X.prog X.w X.K X.mg X.base CX0 k f fd ps (lSp X.K ds)) (hr : Room k X.A) (hgd : X.A.guards = some []) (hg : Gl X x) (hm : X.mg x = some (.ref f)) (hk : PySem.W.keepIn X.K (.ref f) = true) (hb : KB1 X.K fd ps kn)
    (ha : DA X (e :: es) t) (hke : DE X ke te) (hdb : (x == ("__debug__" : Str)) = false) (he : starEach (e :: es) X.env = (false, eval e X.env) :: starEach es X.env)
    (hall : (backToKw pos (keywordEach [⟨some kn, ke, kpos⟩] X.env)).all (·.1.isSome) = true) (hks : (backToKw pos (keywordEach [⟨some kn, ke, kpos⟩] X.env)).filterMap (·.1) = [kn])
    (hpl : ((backTo pos (starEach (e :: es) X.env)).any (·.1) || (backToKw pos (keywordEach [⟨some kn, ke, kpos⟩] X.env)).any (·.1.isNone)) = false) :
    DE X (.Call (.Name x p) (e :: es) [⟨some kn, ke, kpos⟩] pos) (tCallKD ds t te) :=
  ⟨PE_mono (pe_callGK1 F hr hgd hg hm hk hb pass0 ha.pa (pk_cons hke.pe pk_nil) hdb he hall hks hpl) fun σ H Q ⟨F', ρ, μ, G, R, c, rs, h, fin⟩ => lA_go c rs h fun ws μ1 F1 H1 vs r1 s1 c1 q1 =>
    lE_go c1 (rs.mono s1) r1 fun z μ2 F2 H2 y r2 s2 c2 q2 => ⟨F2, μ2, G, ws ++ [z], R, c2, RwAll.app (q1.mono s2) (.cons q2 .nil), r2, fin.mono (s1.trans s2)⟩⟩
def tCallDf (ds : DSp) (z : Int) (t : DTA) : DTE := fun ρ μ R => t ρ μ fun ws μ1 => ds (ws ++ [.d (.int z)]) μ1 R
theorem de_callDf {ds : DSp} {t : DTA} {z : Int} (F : FG X.prog X.w X.K X.mg X.base CX0 k f fd ps (lSp X.K ds)) (hr : Room k X.A) (hgd : X.A.guards = some []) (hg : Gl X x) (hm : X.mg x = some (.ref f)) (hk : PySem.W.keepIn X.K (.ref f) = true) (hb : KBD X.K fd ps z)
    (ha : DA X (e :: es) t) (hdb : (x == ("__debug__" : Str)) = false) (he : starEach (e :: es) X.env = (false, eval e X.env) :: starEach es X.env) (hpl : (backTo pos (starEach es X.env)).any (·.1) = false) :
    DE X (.Call (.Name x p) (e :: es) [] pos) (tCallDf ds z t) := by
  obtain ⟨tk, hb⟩ := hb
  exact ⟨PE_mono (pe_callG (dvs := [.int z]) F hr hgd hg hm hk hb (.cons (show RelV (.int z) (.int z tk) from ⟨tk, rfl⟩) .nil) pass0 ha.pa hdb he hpl) fun σ H Q ⟨F', ρ, μ, G, R, c, rs, h, fin⟩ => lA_go c rs h fun ws μ1 F1 H1 vs r1 s1 c1 q1 =>
    ⟨F1, μ1, G, ws ++ [.d (.int z)], R, c1, RwAll.app q1 (.cons (show Rw X.K F1 (.int z) (.d (.int z)) from Rp.int z) .nil), r1, fin.mono s1⟩⟩
end
end DL

set_option Elab.async false
set_option linter.all false
set_option maxRecDepth 100000
set_option maxHeartbeats 400000
/-! powers of great numbers; str of a text; isinstance with a tuple of types -/
namespace DL
open PySem PySem.Spec PyProof.Rows L2 HT
section
variable {K : PySem.W.Frag} {μ : M} {R : DQ}
def CPowZ (i j : Int) : Prop := 0 ≤ j ∧ (Builtin.Int.intBits i : Int) * j ≤ 2 ^ 27
theorem op_powZ {X : Cx} : OpR X (binaryOp .Pow) (rI CPowZ fun i j => .int (i ^ j.toNat)) := opI fun _ _ _ _ _ _ _ hc q => PyProof.Rows.pow_int hc.1 hc.2 q
abbrev powZ : D2 := numD CPowZ fun i j => i ^ j.toNat
theorem cpowZ {i : Int} {a j : Nat} (h : i.natAbs < 2 ^ a) (h2 : a * j ≤ 134217728) : CPowZ i (j : Int) := by
  refine ⟨by omega, ?_⟩
  have h1 : Builtin.Int.intBits i ≤ a := intBits_le_iff.mpr h
  have h3 : Builtin.Int.intBits i * j ≤ a * j := Nat.mul_le_mul_right _ h1
  have h4 : ((Builtin.Int.intBits i * j : Nat) : Int) ≤ 134217728 := by omega
  rw [Int.natCast_mul] at h4
  exact h4
def strZ : DC := fun ws μ R => match ws with
  | [.d (.str a)] => R (.d (.str a)) μ
  | ws => strD ws μ R
theorem l_strZ : LiftA K (fun xs H Q => (∃ i, xs = [V.int i] ∧ i.natAbs.log2 < 1920 ∧ Q (V.str (Str.ofString (toString i))) H) ∨ ∃ a, xs = [V.str a] ∧ Q (V.str a) H) strZ := by
  intro F H G μ vs ws R Q c rv h fin
  unfold strZ at h
  split at h
  · cases rv with
    | cons r t =>
      cases t
      cases r
      exact .inr ⟨_, rfl, fin.flat c h (.str _)⟩
  · exact .inl (l_str c rv h fin)
theorem q_strZS {a : Str} : strZ [.d (.str a)] μ R = R (.d (.str a)) μ := rfl
theorem q_strZI {i : Int} : strZ [.d (.int i)] μ R = (i.natAbs.log2 < 1920 ∧ R (.d (.str (Str.ofString (toString i)))) μ) := rfl
def kitBs (n : String) : List String → Option Bool
  | [] => some false
  | T :: r => match kitB n T with
    | some true => some true
    | some false => kitBs n r
    | none => none
theorem kitAny_bs {n : String} {b : Bool} : ∀ {Ts : List String}, kitBs n Ts = some b → PySem.W.kitAny K (.type n) (Ts.map Value.type) = some b
  | [], h => h
  | T :: r, h => by
    unfold kitBs at h
    split at h
    · rename_i e
      cases h
      exact kitAny_cons (kit_ty e) (fun e => by cases e) (fun _ => rfl)
    · rename_i e
      exact kitAny_cons (kit_ty e) (fun _ => kitAny_bs h) (fun e => by cases e)
    · cases h
def tTys : List String → DTA
  | [] => tNilD
  | T :: r => tConsD (tK (.v (.ty T))) (tTys r)
theorem tTys_of {ρ : Sl} : ∀ {Ts : List String} {R : List W → M → Prop}, R (Ts.map fun T => .v (.ty T)) μ → tTys Ts ρ μ R
  | [], _, h => h
  | T :: r, R, h => tTys_of (Ts := r) (R := fun xs μ2 => R (.v (.ty T) :: xs) μ2) h
theorem tys_eq {F : Hp} : ∀ {Ts : List String} {xs : List V}, RwAll K F xs (Ts.map fun T => .v (.ty T)) → xs = Ts.map V.ty
  | [], _, .nil => rfl
  | T :: r, _, .cons h t => by rw [tys_eq t]; cases (show _ = V.ty T from h); rfl
theorem tys_cls : ∀ Ts : List String, Paired ClsV (Ts.map V.ty) (Ts.map Value.type)
  | [] => .nil
  | T :: r => .cons (.ty T) (tys_cls r)
def tIsiT (Ts : List String) (te : DTE) : DTE := fun ρ μ R => te ρ μ fun x μ1 => onS (tyNameV x μ1) fun n => onS (kitBs n Ts) fun b => R (.d (.bool b)) μ1
theorem de_isiT {X : Cx} {x : Str} {p pos p2 : Pos} {n2 : Nat} {e : Expr} {es : List Expr} {te : DTE} {Ts : List String} (hg : Gl X x) (hm : X.mg x = none) (hv : bootBuiltins x = some (.builtin "isinstance")) (he : DE X e te) (ht : DA X es (tTys Ts))
    (hz : Ts.length ≤ sizeLine) (hn : x ≠ "__name__") (hdb : (x == ("__debug__" : Str)) = false) (hs1 : starEach [e, .Tuple es n2 p2] X.env = (false, eval e X.env) :: starEach [.Tuple es n2 p2] X.env)
    (hs2 : starEach [.Tuple es n2 p2] X.env = (false, eval (.Tuple es n2 p2) X.env) :: starEach [] X.env) (hpl : (backTo pos (starEach [.Tuple es n2 p2] X.env)).any (·.1) = false) :
    DE X (.Call (.Name x p) [e, .Tuple es n2 p2] [] pos) (tIsiT Ts te) := by
  refine ⟨PE_mono (pe_callB call_isiT hg hm hv (pa_cons he.pe (pa_cons (pe_tup ht.pa) pa_nil hs2) hs1) hn hdb hs1 hpl) fun σ H Q ⟨F, ρ, μ, G, R, c, rs, h, fin⟩ => ?_⟩
  refine lE_go c rs h fun wx μ1 F1 H1 x r1 s1 c1 q1 => lA_go c1 (rs.mono s1) (tTys_of (R := fun ws μ2 => ws = (Ts.map fun T => W.v (.ty T)) ∧ μ2 = μ1) ⟨rfl, rfl⟩) fun ws μ2 F2 H2 xs r2 s2 c2 q2 => ?_
  obtain ⟨rfl, rfl⟩ := r2
  obtain rfl := tys_eq q2
  refine ⟨by rw [List.length_map]; exact hz, fun p hp => ?_⟩
  obtain ⟨n, en, r1⟩ := onS_ok r1
  obtain ⟨b, eb, r1⟩ := onS_ok r1
  obtain ⟨s, c'⟩ := c2.lay hp (.tup (Ts.map V.ty))
  exact ⟨x, p, _, _, Ts.map Value.type, b, rfl, upd_same, tys_cls Ts, tyNameV_ok c' (q1.mono (s2.trans s)) en, kitAny_bs eb, fin _ _ _ _ _ r1 (s1.trans (s2.trans s)) c' (.bl b)⟩
end
end DL

set_option Elab.async false
set_option linter.all false
set_option maxRecDepth 100000
set_option maxHeartbeats 2000000
/-! the law's promise with the bits of the script's numbers told; products of numbers of any size; a dict == a text -/
namespace DL
open PySem PySem.Spec PyProof.Rows L2
def spLawB : DSp := fun ws _ R => ∃ ns : List Int, ws = [.s ns] ∧ ns.length ≤ 63 ∧ (∀ n ∈ ns, Builtin.Int.intBits n ≤ 1048576) ∧ ∀ μ', R (.d (.bool true)) μ'
theorem spLawB_len : ∀ ws μ R, spLawB ws μ R → ws.length = 1 := fun ws μ R ⟨ns, e, _⟩ => by rw [e]; rfl
theorem law_callGB {P : Program} {w : World} {K : PySem.W.Frag} {mg mb : Str → Option Value} {k : Nat} {fa a : Addr} {fd : FuncData} {x : Str} {s1 : Shared} {vs : List Value} {ns : List Int}
    (KX : K.In s1.heap) (hns : s1.heap.Ns mainGlobals mg) (hb : s1.heap.Ns builtinsNs mb) (hbb : ∀ x : Str, x ≠ "__name__" → mb x = bootBuiltins x) (hlim : s1.heap.NoLimit) (hg : s1.gens = #[])
    (ha : s1.heap.get? a = some { cls := .type "list", data := .seq vs.toArray }) (hi : IntsAre vs ns) (hl : ns.length ≤ 63) (hbits : ∀ n ∈ ns, Builtin.Int.intBits n ≤ 1048576) (hr : Room k callerA)
    (hF : ∀ base : Heap, K.In base → base.Ns mainGlobals mg → FG P w K mg base CX0 k fa fd [x] (lSp K spLawB)) (hbind : ∀ (s : Shared) (u : Value), BindsTo s fd ⟨[u], []⟩ [(x, u)]) :
    codeAny (model P w) callerA (.call (.ref fa) ⟨[.ref a], []⟩) (fun r s' => r = .ok (.ret (.bool true)) ∧ OldK s1.heap s'.heap ∧ s'.os = s1.os ∧ AllBare s'.gens) s1 := by
  have rv : Vals (ns.map V.int) vs := vals_ints hi
  have lv := hi.length
  have hsz : ns.length ≤ sizeLine := Nat.le_trans hl (by decide)
  generalize eo : ({ cls := .type "list", data := .seq vs.toArray } : Obj) = ob at ha
  let H : Hp := onlyS K a ob ns
  have Ht : ∀ b, H b ≠ none → b = a ∧ K.lookup a = none ∧ H b = some (.frz ob (.lst (ns.map V.int))) := by
    intro b hb
    by_cases z : b = a ∧ K.lookup a = none
    · exact ⟨z.1, z.2, if_pos z⟩
    · exact absurd (if_neg z) hb
  have Hseq : SqL K H a (ns.map V.int) := by
    cases hk : K.lookup a with
    | none => exact .inl (.inr ⟨ob, if_pos ⟨rfl, hk⟩⟩)
    | some o =>
      have e := KX a o hk
      rw [ha] at e
      have e' : ob = o := Option.some.inj e
      subst e'
      rw [← eo] at hk
      exact .inr ⟨_, vs.toArray, _, hk, rfl, rfl, rfl, by rw [List.size_toArray, lv]; exact hsz, by simpa using rv⟩
  have Hok : HOk P w H s1.heap := by
    intro b u e
    obtain ⟨rfl, hk, e2⟩ := Ht b (by rw [e]; simp)
    rw [e] at e2
    cases e2
    refine ⟨ha, by rw [List.length_map]; exact hsz, vs, 0, rv, ?_⟩
    rw [ha, ← eo]
  have keepB : ∀ {b : Addr} {o : Obj}, s1.heap.get? b = some o → H b = none → (hidT s1.heap H).get? b = some o := fun e n => hidT_get e n
  have noDict : ∀ {b : Addr} {o : Obj} {es : Array DictEntry} {ep : Nat}, s1.heap.get? b = some o → o.data = .dict es ep → H b = none := by
    intro b o es ep e d
    cases q : H b with
    | none => rfl
    | some u =>
      obtain ⟨rfl, _, _⟩ := Ht b (by rw [q]; simp)
      rw [ha] at e
      have e' := Option.some.inj e
      rw [← e', ← eo] at d
      have d' : Data.seq vs.toArray _ = Data.dict es ep := d
      cases d'
  have nsB : ∀ {b : Addr} {m : Str → Option Value}, s1.heap.Ns b m → (hidT s1.heap H).Ns b m := fun {b m} ⟨o, es, ep, e, d, r⟩ => ⟨o, es, ep, keepB e (noDict e d), d, r⟩
  have KB : K.In (hidT s1.heap H) := by
    intro b o e
    refine keepB (KX b o e) ?_
    cases q : H b with
    | none => rfl
    | some u =>
      obtain ⟨rfl, hk, _⟩ := Ht b (by rw [q]; simp)
      rw [hk] at e
      cases e
  have hM : Mod K mg (hidT s1.heap H) := ⟨KB, nsB hns, ⟨mb, nsB hb, hbb⟩, let ⟨mc, h1, h2⟩ := hlim; ⟨mc, nsB h1, h2⟩⟩
  have nof : ∀ b, b ∉ frs ([] : List Env) := fun b z => by simp [frs] at z
  have e0 : Env0 P w K mg (hidT s1.heap H) callerA [] s1 H := ⟨rfl, hM, fun b o e => of_hidT e, Nat.le_of_eq (hidT_size _ _), trivial, fun b hb => absurd hb (nof b), Hok, .of_eq hg⟩
  have cn : Cn K H H (fun _ => none) (fun _ => none) := ⟨Same.refl _, fun b o e => (by cases e), fun b m e => (by cases e), fun _ _ => rfl⟩
  have run := (hF _ KB (nsB hns)).go callerA [] s1 H ⟨[.ref a], []⟩ [.ref a] [.ref a] (fun v _ => v = .bl true) E0 hr rfl e0 (hbind s1 (.ref a)) (.cons rfl .nil)
    ⟨H, fun _ => none, fun _ => none, [.s ns], fun w _ => w = .d (.bool true), cn, .cons ⟨a, rfl, Hseq⟩ .nil, ⟨ns, rfl, hl, hbits, fun _ => rfl⟩, fun w' μ' F' H' v e _ _ r => by subst e; cases r; rfl⟩
  refine codeAny_mono run ?_
  intro r s' h
  match r, h with
  | .error e, h => exact False.elim h
  | .ok (.ret u), ⟨v, H', os, bare, un, hok', r', q⟩ =>
    have q' : v = .bl true := q
    subst q'
    obtain rfl : u = Value.bool true := r'
    refine ⟨rfl, OldK.of_keep ?_, os, bare⟩
    intro b o e
    cases q : H b with
    | none => exact un.keep b o e q (nof b) (by simp)
    | some u =>
      obtain ⟨rfl, _, z⟩ := Ht b (by rw [q]; simp)
      have z2 := un.frzs b ob _ z
      obtain ⟨e2, _⟩ := hok' b _ z2
      rw [ha] at e
      rw [← e]
      exact e2

/-- what k_head leaves, from the law's promise -/
theorem walk_ofGB {l : PySem.W.OpenLaw} {k : Nat} {q : Program} {loose : List Str} {XP : (Str → Option Value) → Heap → Prop} {YP : World → Heap → Prop} {d : DefRec} {K : Params → PySem.W.Frag} {x : Str}
    (hn : l.most = some 63) (hdf : d.params.defaults = []) (hr : Room k callerA) (hY : ∀ (w : World) (h : Heap), YP w h → (K w.params).In h)
    (F : ∀ (w : World) (mg : Str → Option Value) (fa : Addr) (h : Heap), (K w.params).In h → h.Ns mainGlobals mg → mg d.name = some (.ref fa) →
      ∃ fd : FuncData, (∀ (s : Shared) (u : Value), BindsTo s fd ⟨[u], []⟩ [(x, u)]) ∧ ∀ base : Heap, (K w.params).In base → base.Ns mainGlobals mg → FG l.prog w (K w.params) mg base CX0 k fa fd [x] (lSp (K w.params) spLawB)) :
    PySem.W.WalkO q loose XP YP l.row.toRowW d [] (fun f vs => PySem.call f vs) := by
  refine Att.attach_callB hn hdf ?_
  intro w s0 s1 mg mb fa o pm cd doc a vs ns G Y ho hd hcd hmg hobj hints hlen hbits hg
  have KX := hY w _ Y
  obtain ⟨fd, hb, hF⟩ := F w mg fa _ KX G.T.g hmg
  exact law_callGB KX G.T.g G.T.b G.T.builtins G.T.nolimit hg hobj hints hlen hbits hr hF hb

section
variable {K : PySem.W.Frag} {μ : M} {R : DQ}
/-! products -/
def mulG : D2 := fun x y μ R => match x, y with
  | .d (.int i), .d (.int j) => IntMulOk i j ∧ R (.d (.int (i * j))) μ
  | x, y => mulY x y μ R
def rMulG (K : PySem.W.Frag) : R2 := fun x y H Q => rI IntMulOk (fun i j => V.int (i * j)) x y H Q ∨ rMulY K x y H Q
theorem op_mulGi {X : Cx} : OpR X (binaryOp .Mult) (rI IntMulOk fun i j => .int (i * j)) := opI fun _ _ _ _ _ _ _ hc q => mul_int q hc
theorem op_mulG {X : Cx} : OpR X (binaryOp .Mult) (rMulG X.K) := OpR.or op_mulGi op_mulY
theorem l_mulG : Lift2 K (rMulG K) mulG := by
  intro F H G μ x y wx wy R Q c rx ry h fin
  unfold mulG at h
  split at h
  · cases rx; cases ry
    exact .inl ⟨_, _, rfl, rfl, h.1, fin.flat c h.2 (.int _)⟩
  · exact .inr (l_mulY c rx ry h fin)
theorem q_mulGI {i j : Int} : mulG (.d (.int i)) (.d (.int j)) μ R = (IntMulOk i j ∧ R (.d (.int (i * j))) μ) := rfl
theorem q_mulGS {z : Str} {i : Int} : mulG (.d (.str z)) (.d (.int i)) μ R = mulY (.d (.str z)) (.d (.int i)) μ R := rfl
theorem q_mulGL {xs : List PyData} {i : Int} : mulG (.d (.list xs)) (.d (.int i)) μ R = mulY (.d (.list xs)) (.d (.int i)) μ R := rfl
theorem q_mulGT {xs : List PyData} {i : Int} : mulG (.d (.tuple xs)) (.d (.int i)) μ R = mulY (.d (.tuple xs)) (.d (.int i)) μ R := rfl
theorem bits64 {i : Int} (h0 : -2 ^ 64 < i) (h1 : i < 2 ^ 64) : Builtin.Int.intBits i ≤ 64 := intBits_le_iff.mpr (by
  have : i.natAbs < 18446744073709551616 := by omega
  exact this)
theorem mulL {i j : Int} (h0 : -2 ^ 64 < i) (h1 : i < 2 ^ 64) : IntMulOk i j := .of_left (bits64 h0 h1)
theorem mulR {i j : Int} (h0 : -2 ^ 64 < j) (h1 : j < 2 ^ 64) : IntMulOk i j := .of_right (bits64 h0 h1)
theorem mulB {i j : Int} (h : Builtin.Int.intBits i + Builtin.Int.intBits j ≤ 134217728) : IntMulOk i j := by
  have e : bitsLine = 134217728 := by decide
  unfold IntMulOk
  intro z
  rw [Bool.and_eq_true] at z
  have z2 := z.2
  unfold Builtin.Int.intTooBig at z2
  have z3 := of_decide_eq_true z2
  rw [e] at z3
  omega
end
/-! a dict == a text: never -/
section
variable {A : Around} {s : Shared}
theorem rc_dict_str {l : Addr} {es : Array DictEntry} {n : Nat} {dd : Option Addr} {sl : Array (Option Value)} (b : Str) (u : Tok) (ho : s.heap.get? l = some { cls := .type "dict", dict := dd, data := .dict es n, slots := sl }) (hu : A.units < cLine) : SeqAt.RcAt A s (.ref l) (.str b u) false := by
  intro prog w E Q h
  refine SeqAt.rc_eq_decline_or (k := false) ⟨_, ho, rfl⟩ (typeIs_str s b u) (by decide) F.sub_str_dict F.slot_dict_eq F.slot_str_eq_refl ?_ ?_ ?_ (.inr hu) h
  · intro _ hq
    exact call_meets F.slot_dict_eq ⟨_, ho, rfl⟩ F.entry_dict_eq (F.args_dict_eq_2 _ _) (dict_declines_str b u l es n dd sl) ⟨ho, hq⟩
  · intro _ hq
    exact call_meets F.slot_str_eq_refl (typeIs_str s b u) F.entry_str_eq (F.args_str_eq_2 _ _) (str_declines_dict b u l es n dd sl) ⟨ho, hq⟩
  · intro _ hq
    exact wpAny_of_eq (rfl : isSame (.ref l) (.str b u) = pure false) hq
end
section
variable {X : Cx} {K : PySem.W.Frag} {μ : M} {R : DQ}
def rEqDict : R2 := fun x y H Q => ∃ a kvs b, x = .ref a ∧ H a = some (.dK kvs) ∧ y = .str b ∧ Q (.bl false) H
theorem op_eqDict (hu : X.A.units + 100 < cLine) : OpR X (compareOp .Eq) rEqDict := by
  intro pins s σ H x y v u Q I rx ry ⟨a, kvs, b, ex, ea, ey, q⟩
  subst ex ey
  cases rx
  obtain ⟨t, rfl⟩ := ry
  obtain ⟨dd, ee, n, sl, ho⟩ := dict_raw (I.hok a _ ea)
  exact rc_dict_str b t ho (by omega) X.prog X.w _ _ ⟨.bl _, H, I, rfl, q⟩
def rEqCont (K : PySem.W.Frag) : R2 := fun x y H Q => ∃ a b, x = .ref a ∧ y = .str b ∧ ((∃ xs, H a = some (.lst xs)) ∨ ∃ xs, SqT K H a xs) ∧ Q (.bl false) H
theorem op_eqCont (hu : X.A.units + 100 < cLine) : OpR X (compareOp .Eq) (rEqCont X.K) := by
  intro pins s σ H x y v u Q I rx ry ⟨a, b, ex, ey, e, q⟩
  subst ex ey
  cases rx
  obtain ⟨t, rfl⟩ := ry
  rcases e with ⟨xs, e⟩ | ⟨xs, e⟩
  · obtain ⟨its, _, ⟨o, n, h1, h2, _, h3⟩, _⟩ := I.list (SqL.of e)
    exact SeqAt.RcAt.list_str b t ⟨o, h1, h2, n, h3⟩ (by omega) X.prog X.w _ _ ⟨.bl _, H, I, rfl, q⟩
  · obtain ⟨its, _, ⟨o, h1, h2, h3⟩, _⟩ := I.tuple e
    exact SeqAt.RcAt.tuple_str b t ⟨o, h1, h2, h3⟩ (by omega) X.prog X.w _ _ ⟨.bl _, H, I, rfl, q⟩
def eqX : D2 := fun x y μ R => match x, y with
  | .d (.dict _), .d (.str _) => R (.d (.bool false)) μ
  | .d (.list _), .d (.str _) => R (.d (.bool false)) μ
  | .d (.tuple _), .d (.str _) => R (.d (.bool false)) μ
  | x, y => eqV x y μ R
def rEqX (K : PySem.W.Frag) : R2 := fun x y H Q => (rEqP K x y H Q ∨ rEqDict x y H Q) ∨ rEqCont K x y H Q
theorem op_eqX (hu : X.A.units + 100 < cLine) : OpR X (compareOp .Eq) (rEqX X.K) := OpR.or (OpR.or (op_eqP hu) (op_eqDict hu)) (op_eqCont hu)
theorem l_eqX : Lift2 K (rEqX K) eqX := by
  intro F H G μ x y wx wy R Q c rx ry h fin
  unfold eqX at h
  split at h
  · cases rx with
    | dct e k =>
      cases ry
      exact .inl (.inr ⟨_, _, _, rfl, c.sub _ _ e, rfl, fin.flat c h (.bl _)⟩)
  · cases rx with
    | lst e k =>
      cases ry
      exact .inr ⟨_, _, rfl, rfl, .inl ⟨_, c.sub _ _ e⟩, fin.flat c h (.bl _)⟩
  · cases rx with
    | tup e k =>
      cases ry
      exact .inr ⟨_, _, rfl, rfl, .inr ⟨_, SqT_mono c.sub e⟩, fin.flat c h (.bl _)⟩
  · exact .inl (.inl (l_eqV c rx ry h fin))
/-! a list, a tuple or a dict in a tuple of texts: never -/
def rInCont (K : PySem.W.Frag) : R2 := fun x y H Q => ∃ F a ds ys, Same F H ∧ x = .ref a ∧ ((∃ xs, F a = some (.lst xs)) ∨ ∃ xs, SqT K F a xs) ∧ Rp K F y (.tuple ds) ∧ strsD ds = some ys ∧ Q (.bl false) H
theorem op_inCont (hu : X.A.units + 100 < cLine) : OpR X (compareOp .In) (rInCont X.K) := by
  intro pins s σ H x y v u Q I rx ry ⟨F, a, ds, ys, sm, ex, ea, ry', es, q⟩
  subst ex
  cases rx
  have he : ∀ (z : Str) (t : Tok), SeqAt.EqAt X.A.in1 s (.str z t) (.ref a) false := fun z t => by
    have hu' : X.A.in1.units < cLine := by show X.A.units + 1 < cLine; omega
    rcases ea with ⟨xs, e⟩ | ⟨xs, e⟩
    · obtain ⟨its, _, ⟨o, n, h1, h2, _, h3⟩, _⟩ := I.list (SqL.of (sm _ _ e))
      exact SeqAt.EqAt.str_list z t ⟨o, h1, h2, n, h3⟩ hu'
    · obtain ⟨its, _, ⟨o, h1, h2, h3⟩, _⟩ := I.tuple (SqT_mono sm e)
      exact SeqAt.EqAt.str_tuple z t ⟨o, h1, h2, h3⟩ hu'
  cases ry' with
  | tup e k =>
    cases ry
    obtain ⟨its, rv, ⟨o, h1, h2, h3⟩, _⟩ := I.tuple (SqT_mono sm e)
    refine SeqAt.in_tupleAt (fun _ => false) ⟨o, h1, h2, h3⟩ (fun z hz => ?_) ?_
    · obtain ⟨y, t, rfl⟩ := strs_vals k es rv z (by simpa using hz)
      exact he y t
    · have e : (its.toArray.any fun _ => false) = false := by simp
      first
        | (rw [e]; exact ⟨.bl _, H, I, rfl, q⟩)
        | (simpa using (⟨.bl _, H, I, rfl, q⟩ : EP X pins σ Q (.bool false) s))
def inX : D2 := fun x y μ R => match x, y with
  | .d (.list _), .d (.tuple ds) => (strsD ds).isSome = true ∧ R (.d (.bool false)) μ
  | .d (.tuple _), .d (.tuple ds) => (strsD ds).isSome = true ∧ R (.d (.bool false)) μ
  | x, y => inA x y μ R
def rInX (K : PySem.W.Frag) : R2 := fun x y H Q => rInA K x y H Q ∨ rInCont K x y H Q
theorem op_inX (hu : X.A.units + 100 < cLine) : OpR X (compareOp .In) (rInX X.K) := OpR.or (op_inA hu) (op_inCont hu)
theorem l_inX : Lift2 K (rInX K) inX := by
  intro F H G μ x y wx wy R Q c rx ry h fin
  unfold inX at h
  split at h
  · rename_i kv ds
    cases rx with
    | lst e k =>
      cases q : strsD ds with
      | none => rw [q] at h; cases h.1
      | some ys => exact .inr ⟨F, _, ds, ys, c.sub, rfl, .inl ⟨_, e⟩, ry, q, fin.flat c h.2 (.bl _)⟩
  · rename_i kv ds
    cases rx with
    | tup e k =>
      cases q : strsD ds with
      | none => rw [q] at h; cases h.1
      | some ys => exact .inr ⟨F, _, ds, ys, c.sub, rfl, .inr ⟨_, e⟩, ry, q, fin.flat c h.2 (.bl _)⟩
  · exact .inl (l_inA c rx ry h fin)
theorem q_inXi {i : Int} {e : PyData} : inX (.d (.int i)) (.d e) μ R = inA (.d (.int i)) (.d e) μ R := rfl
theorem q_inXs {s : Str} {e : PyData} : inX (.d (.str s)) (.d e) μ R = inA (.d (.str s)) (.d e) μ R := rfl
theorem q_inXb {b : Bool} {e : PyData} : inX (.d (.bool b)) (.d e) μ R = inA (.d (.bool b)) (.d e) μ R := rfl
theorem q_inXn {e : PyData} : inX (.d .none) (.d e) μ R = inA (.d .none) (.d e) μ R := rfl
theorem q_inXd {kv : List (PyData × PyData)} {ds : List PyData} : inX (.d (.dict kv)) (.d (.tuple ds)) μ R = ((strsD ds).isSome = true ∧ R (.d (.bool false)) μ) := rfl
theorem q_inXl {xs ds : List PyData} : inX (.d (.list xs)) (.d (.tuple ds)) μ R = ((strsD ds).isSome = true ∧ R (.d (.bool false)) μ) := rfl
theorem q_inXt {xs ds : List PyData} : inX (.d (.tuple xs)) (.d (.tuple ds)) μ R = ((strsD ds).isSome = true ∧ R (.d (.bool false)) μ) := rfl
theorem q_eqXi {i : Int} {e : PyData} : eqX (.d (.int i)) (.d e) μ R = eqD (.d (.int i)) (.d e) μ R := rfl
theorem q_eqXs {s : Str} {e : PyData} : eqX (.d (.str s)) (.d e) μ R = eqD (.d (.str s)) (.d e) μ R := rfl
theorem q_eqXb {b : Bool} {e : PyData} : eqX (.d (.bool b)) (.d e) μ R = eqD (.d (.bool b)) (.d e) μ R := rfl
theorem q_eqXn {e : PyData} : eqX (.d .none) (.d e) μ R = eqD (.d .none) (.d e) μ R := rfl
theorem q_eqXl {ds : List PyData} {b : Str} : eqX (.d (.list ds)) (.d (.str b)) μ R = R (.d (.bool false)) μ := rfl
theorem q_eqXt {ds : List PyData} {b : Str} : eqX (.d (.tuple ds)) (.d (.str b)) μ R = R (.d (.bool false)) μ := rfl
theorem q_eqXd {kv : List (PyData × PyData)} {b : Str} : eqX (.d (.dict kv)) (.d (.str b)) μ R = R (.d (.bool false)) μ := rfl
end
end DL

set_option Elab.async false
set_option linter.all false
set_option maxRecDepth 100000
set_option maxHeartbeats 2000000
/-! instances of classes of one's own: fields, methods, making; changing dicts -/
namespace DL
open PySem PySem.Spec PyProof.Rows L2

/-! ### what is held under a name, under a key -/
def putWf (f : Str) (w : W) : List (Str × W) → List (Str × W)
  | [] => [(f, w)]
  | (g, x) :: r => if g = f then (g, w) :: r else (g, x) :: putWf f w r
section
variable {K : PySem.W.Frag} {F : Hp}
theorem kv_lookup {f : Str} {w : W} : ∀ {vs : List (Str × V)} {ws : List (Str × W)}, RwKv K F vs ws → ws.lookup f = some w → ∃ v, vs.lookup f = some v ∧ Rw K F v w
  | _, _, .nil, h => by cases h
  | (g, v) :: vs, (g', w') :: ws, .cons r t, h => by
    obtain ⟨e, rv⟩ := r
    simp only at e rv
    subst e
    rw [List.lookup_cons] at h ⊢
    cases q : f == g with
    | true => rw [q] at h; cases h; exact ⟨v, rfl, rv⟩
    | false => rw [q] at h; exact kv_lookup t h
theorem kv_lookup_none {f : Str} : ∀ {vs : List (Str × V)} {ws : List (Str × W)}, RwKv K F vs ws → ws.lookup f = none → vs.lookup f = none
  | _, _, .nil, h => rfl
  | (g, v) :: vs, (g', w') :: ws, .cons r t, h => by
    obtain ⟨e, rv⟩ := r
    simp only at e rv
    subst e
    rw [List.lookup_cons] at h ⊢
    cases q : f == g with
    | true => rw [q] at h; cases h
    | false => rw [q] at h; exact kv_lookup_none t h
theorem kv_put {f : Str} {v : V} {w : W} (r : Rw K F v w) : ∀ {vs : List (Str × V)} {ws : List (Str × W)}, RwKv K F vs ws → RwKv K F (putF f v vs) (putWf f w ws)
  | _, _, .nil => .cons ⟨rfl, r⟩ .nil
  | (g, x) :: vs, (g', x') :: ws, .cons q t => by
    obtain ⟨e, rv⟩ := q
    simp only at e rv
    subst e
    unfold putF putWf
    split
    · exact .cons ⟨rfl, r⟩ t
    · exact .cons ⟨rfl, rv⟩ (kv_put r t)
theorem kv_len {κ : Type} : ∀ {vs : List (κ × V)} {ws : List (κ × W)}, RwKv K F vs ws → vs.length = ws.length := fun h => Paired.length h
end

/-! ### e.f, e.f = value -/
section
variable {X : Cx} {e o value : Expr} {f : Str} {pos pos' : Pos} {C : Addr}
def insAt (w : W) (μ : M) (C : Addr) (Q : Addr → Addr → List (Str × W) → Prop) : Prop := match w with
  | .v (.ref a) => onS (μ a) fun m => match m with
    | .ins C' dx fs => C' = C ∧ Q a dx fs
    | _ => False
  | _ => False
theorem insAt_ok {w : W} {μ : M} {C : Addr} {Q : Addr → Addr → List (Str × W) → Prop} (h : insAt w μ C Q) : ∃ a dx fs, w = .v (.ref a) ∧ μ a = some (.ins C dx fs) ∧ Q a dx fs := by
  unfold insAt at h
  split at h
  · rename_i a
    obtain ⟨m, em, h2⟩ := onS_ok h
    clear h
    split at h2
    · rename_i C' dx fs
      obtain ⟨e, h3⟩ := h2
      subst e
      exact ⟨a, dx, fs, rfl, em, h3⟩
    · exact h2.elim
  · exact h.elim
def tFldD (C : Addr) (f : Str) (t : DTE) : DTE := fun ρ μ R => t ρ μ fun w μ1 => insAt w μ1 C fun _ _ fs => onS (fs.lookup f) fun w => R w μ1
theorem de_fld {t : DTE} (cl : Cls X.K C) (n : NoAttr X.K C f) (he : DE X e t) (hb : attributeBase e f X.env (eval e X.env) = eval e X.env) : DE X (.Attribute e f pos) (tFldD C f t) :=
  ⟨PE_mono (pe_fld he.pe hb) fun σ H Q ⟨F, ρ, μ, G, R, c, rs, h, fin⟩ => lE_go c rs h fun w μ1 F1 H1 x r1 s1 c1 q1 => by
    obtain ⟨a, dx, fs, rfl, em, h⟩ := insAt_ok r1
    obtain ⟨w, ew, h⟩ := onS_ok h
    cases (show x = .ref a from q1)
    obtain ⟨_, _, _, ho, vs, rfl, kv⟩ := c1.mu a _ em
    obtain ⟨v, ev, rv⟩ := kv_lookup kv ew
    exact ⟨a, C, dx, vs, v, rfl, ho, cl, n, ev, fin _ _ _ _ _ h s1 c1 rv⟩⟩
def sFldD (C : Addr) (f : Str) (to tv : DTE) : DTS := fun D ρ μ => tv ρ μ fun w μ1 => to ρ μ1 fun o μ2 => insAt o μ2 C fun a dx fs => fs.length < 1000 ∧ D.nx ρ (mset μ2 a (.ins C dx (putWf f w fs)))
theorem ds_fld {to tv : DTE} (cl : Cls X.K C) (n : NoAttr X.K C f) (ho : DE X o to) (hv : DE X value tv) (hs : swapsWith value (some (.Attribute o f pos')) pos.line X.env = pure false) : DS X (.Assign [.Attribute o f pos'] value pos) (sFldD C f to tv) :=
  ⟨PS_mono (ps_fld ho.pe hv.pe hs) fun D σ H ⟨F, ρ, μ, G, R, c, rs, h, fin⟩ => lE_go c rs h fun w μ1 F1 H1 y r1 s1 c1 q1 => lE_go c1 (rs.mono s1) r1 fun w2 μ2 F2 H2 x r2 s2 c2 q2 => by
    obtain ⟨a, dx, fs, rfl, em, hl, h⟩ := insAt_ok r2
    cases (show x = .ref a from q2)
    obtain ⟨_, _, _, ho, vs, rfl, kv⟩ := c2.mu a _ em
    exact ⟨a, C, dx, vs, rfl, ho, cl, n, by rw [kv_len kv]; exact hl, fin.nx _ _ _ _ _ h (s1.trans s2) (c2.write em ⟨_, rfl, kv_put (q1.mono s2) kv⟩) (rs.mono (s1.trans s2))⟩⟩
end

/-! ### a method of the class, called; an instance made -/
section
variable {X : Cx} {CX : CXT} {k : Nat} {f C : Addr} {fd : FuncData} {ps : List Str} {sp : Sp} {dvs : List V} {ds : List Value} {E : XK} {x m : Str} {p pos apos : Pos} {e o : Expr} {es : List Expr} {ta : TE} {t : TA}
theorem pe_methG {pl : Sem Bool} (he : PE X o ta) (c : Cls X.K C) (hm : Meth X.K C m f) (F : FG X.prog X.w X.K X.mg X.base CX k f fd ps sp) (hr : Room k X.A) (hgd : X.A.guards = some []) (hb : L2.Binds X.K fd ps ds) (hd : Vals dvs ds) (hx : Passes CX X E) (ha : PA X (e :: es) t)
    (hst : starEach (e :: es) X.env = (false, eval e X.env) :: starEach es X.env) (hpl : (backTo pos (starEach es X.env)).any (·.1) = false)
    (ht : eval (.Call (.Attribute o m apos) (e :: es) [] pos) X.env = (do
      let ov ← eval o X.env
      standAt apos.atName
      let (f, first) ← holding [ov] (getMethod ov m pl)
      callWith pos f first (backTo pos (starEach (e :: es) X.env)) (backToKw pos (keywordEach [] X.env)))) :
    PE X (.Call (.Attribute o m apos) (e :: es) [] pos) (tMeth C m sp dvs E ta t) := by
  refine ⟨fun pins s σ H Q I h => ?_⟩
  refine PySem.W.methodCall_KW (pl := pl) (thn (he.run pins s σ H _ I h) fun u s1 ⟨x, H1, I1, rx, a, dx, fs, ex, ea, l, q⟩ => ?_) ht
  subst ex
  obtain rfl : u = Value.ref a := rx
  refine getmeth_ok I1 ea c hm l ?_
  refine PySem.W.callWith_K (first := [.ref a]) (h₀ := X.base) I.ok.mod.kin hm.kp (thn (ha.run pos pins s1 σ H1 _ I1 q) fun us s2 ⟨vs, H2, I2, r, q2⟩ => ⟨I2.kIn, ?_⟩) hst hpl
  exact run_fg (us := .ref a :: us) (vs := .ref a :: vs) F hr hgd hb hd hx I2 (.cons rfl r) q2
theorem pe_methG0 {pl : Sem Bool} (he : PE X o ta) (c : Cls X.K C) (hm : Meth X.K C m f) (F : FG X.prog X.w X.K X.mg X.base CX k f fd ps sp) (hr : Room k X.A) (hgd : X.A.guards = some []) (hb : L2.Binds X.K fd ps ds) (hd : Vals dvs ds) (hx : Passes CX X E)
    (ht : eval (.Call (.Attribute o m apos) [] [] pos) X.env = (do
      let ov ← eval o X.env
      standAt apos.atName
      let (f, first) ← holding [ov] (getMethod ov m pl)
      callWith pos f first (backTo pos (starEach [] X.env)) (backToKw pos (keywordEach [] X.env)))) :
    PE X (.Call (.Attribute o m apos) [] [] pos) (tMeth C m sp dvs E ta tNil) := by
  refine ⟨fun pins s σ H Q I h => ?_⟩
  refine PySem.W.methodCall_KW (pl := pl) (thn (he.run pins s σ H _ I h) fun u s1 ⟨x, H1, I1, rx, a, dx, fs, ex, ea, l, q⟩ => ?_) ht
  subst ex
  obtain rfl : u = Value.ref a := rx
  refine getmeth_ok I1 ea c hm l ?_
  exact PySem.W.callWith_K0 (first := [.ref a]) I1.kIn hm.kp (run_fg (us := [.ref a]) (vs := [.ref a]) F hr hgd hb hd hx I1 (.cons rfl .nil) q)
theorem run_makeG {pins : List (Addr × Obj)} {σ : L2.St} {H : Hp} {s : Shared} {Q : VK} {us : List Value} {vs : List V} (M : Mk X.K C f) (F : FG X.prog X.w X.K X.mg X.base CX k f fd ps sp) (hr : Room (k + 1) X.A) (hgd : X.A.guards = some []) (hb : L2.Binds X.K fd ps ds) (hd : Vals dvs ds)
    (hx : Passes CX X E) (I : Inv X pins σ H s) (r : Vals vs us)
    (h : ∀ x dx, H x = none → H dx = none → dx ≠ x → sp (.ref x :: (vs ++ dvs)) (upd (upd H dx (.own x)) x (.ins C dx [])) (fun v H2 => v = .non ∧ Q (.ref x) H2) E) :
    wpAny (model X.prog X.w) X.A (call (.ref C) us) (EP X pins σ Q) X.xe s := by
  have hq := h (s.heap.objs.size + 1) s.heap.objs.size (I.hok.fresh (Nat.le_succ _)) (I.hok.fresh (Nat.le_refl _)) (Nat.ne_of_lt (Nat.lt_succ_self _))
  have I2 := Inv.made (C := C) I
  have r2 : Vals (V.ref (s.heap.objs.size + 1) :: (vs ++ dvs)) (Value.ref (s.heap.objs.size + 1) :: (us ++ ds)) := .cons rfl (r.append hd)
  have hl : (Value.ref (s.heap.objs.size + 1) :: us ++ ds).length = ps.length := by
    have e := r2.length
    rw [F.arity _ _ _ _ hq] at e
    exact e.symm
  refine wpAny_call (make_map (f := f) I.kIn M.makes M.init (beq_iff_eq.mp M.fn) (codeAny_mono (F.go _ X.stack _ _ ⟨Value.ref (s.heap.objs.size + 1) :: us, []⟩ (Value.ref (s.heap.objs.size + 1) :: (us ++ ds)) _ _ E (hr.make C us []) hgd
    (I2.env0.make C us []) (hb _ (Value.ref (s.heap.objs.size + 1) :: us) I2.kIn hl) r2 hq) fun r s' hq' => ?_))
  cases r with
  | error e => exact hx pins σ _ _ e s' I2 hq'
  | ok fl =>
    cases fl with
    | ret u =>
      obtain ⟨v, H', I3, rv, ev, q3⟩ := I2.after hq'
      subst ev
      exact ⟨rv, ⟨V.ref (s.heap.objs.size + 1), H', I3, rfl, q3⟩⟩
    | next => exact False.elim hq'
    | brk => exact False.elim hq'
    | cont => exact False.elim hq'
theorem pe_makeG (M : Mk X.K C f) (F : FG X.prog X.w X.K X.mg X.base CX k f fd ps sp) (hr : Room (k + 1) X.A) (hgd : X.A.guards = some []) (hg : Gl X x) (hm : X.mg x = some (.ref C)) (hb : L2.Binds X.K fd ps ds) (hd : Vals dvs ds) (hx : Passes CX X E)
    (ha : PA X (e :: es) t) (hdb : (x == ("__debug__" : Str)) = false) (he : starEach (e :: es) X.env = (false, eval e X.env) :: starEach es X.env) (hpl : (backTo pos (starEach es X.env)).any (·.1) = false) :
    PE X (.Call (.Name x p) (e :: es) [] pos) (tMake C sp dvs E t) := by
  constructor
  intro pins s σ H Q I h
  apply wpAny_Call_Name_kw
  apply ld_glob I hg hm _ hdb
  apply PySem.W.callWith_K (h₀ := X.base) I.ok.mod.kin M.kp _ he hpl
  refine thn (ha.run pos pins s σ H _ I h) ?_
  rintro us s1 ⟨vs, H1, I1, r, q⟩
  exact ⟨I1.kIn, run_makeG M F hr hgd hb hd hx I1 r q⟩
end
section
variable {K : PySem.W.Frag} {F H G : Hp} {μ : M}
/-- an object beside what is spoken of -/
theorem Cn.hide (c : Cn K F H μ G) {p : Addr} (hp : H p = none) (o : HO) : Cn K F (upd H p o) μ G := by
  refine ⟨fun b x q => ?_, fun b x q => ?_, fun a n q => ?_, c.apart⟩
  · rw [upd_ne (ne_of_none q (c.noF hp))]; exact c.sub _ _ q
  · rw [upd_ne (ne_of_none q (c.noG hp))]; exact c.fr _ _ q
  · obtain ⟨h1, h2, o', h3, h4⟩ := c.mu a n q
    exact ⟨h1, h2, o', by rw [upd_ne (ne_of_none h3 hp)]; exact h3, h4⟩
end
/-- o.m(..) -/
def tMethC (C : Addr) (m : Str) (ds : DSp) (to : DTE) (t : DTA) : DTE := fun ρ μ R => to ρ μ fun o μ1 => insAt o μ1 C fun a _ fs => fs.lookup m = none ∧ t ρ μ1 fun ws μ2 => ds (.v (.ref a) :: ws) μ2 R
/-- C(..) -/
def tMakeC (C : Addr) (ds : DSp) (t : DTA) : DTE := fun ρ μ R => t ρ μ fun ws μ1 => ∀ x dx, μ1 x = none → ds (.v (.ref x) :: ws) (mset μ1 x (.ins C dx [])) fun w μ2 => w = .d .none ∧ R (.v (.ref x)) μ2
section
variable {X : Cx} {k : Nat} {f C : Addr} {fd : FuncData} {ps : List Str} {x m : Str} {p pos apos : Pos} {e o : Expr} {es : List Expr}
theorem de_meth {ds : DSp} {to : DTE} {t : DTA} {pl : Sem Bool} (ho : DE X o to) (c : Cls X.K C) (hm : Meth X.K C m f) (F : FG X.prog X.w X.K X.mg X.base CX0 k f fd ps (lSp X.K ds)) (hr : Room k X.A) (hgd : X.A.guards = some []) (hb : L2.Binds X.K fd ps [])
    (ha : DA X (e :: es) t) (hst : starEach (e :: es) X.env = (false, eval e X.env) :: starEach es X.env) (hpl : (backTo pos (starEach es X.env)).any (·.1) = false)
    (ht : eval (.Call (.Attribute o m apos) (e :: es) [] pos) X.env = (do
      let ov ← eval o X.env
      standAt apos.atName
      let (f, first) ← holding [ov] (getMethod ov m pl)
      callWith pos f first (backTo pos (starEach (e :: es) X.env)) (backToKw pos (keywordEach [] X.env)))) :
    DE X (.Call (.Attribute o m apos) (e :: es) [] pos) (tMethC C m ds to t) :=
  ⟨PE_mono (pe_methG (E := E0) ho.pe c hm F hr hgd hb .nil pass0 ha.pa hst hpl ht) fun σ H Q ⟨F', ρ, μ, G, R, c, rs, h, fin⟩ => lE_go c rs h fun w μ1 F1 H1 v r1 s1 c1 q1 => by
    obtain ⟨a, dx, fs, rfl, em, hl, h⟩ := insAt_ok r1
    cases (show v = .ref a from q1)
    obtain ⟨_, _, _, ho, vs, rfl, kv⟩ := c1.mu a _ em
    refine ⟨a, dx, vs, rfl, ho, kv_lookup_none kv hl, lA_go c1 (rs.mono s1) h fun ws μ2 F2 H2 vs2 r2 s2 c2 q2 => ?_⟩
    rw [List.append_nil]
    exact ⟨F2, μ2, G, _, R, c2, .cons (show Rw X.K F2 (V.ref a) (.v (.ref a)) from rfl) q2, r2, fin.mono (s1.trans s2)⟩⟩
theorem de_meth0 {ds : DSp} {to : DTE} {pl : Sem Bool} (ho : DE X o to) (c : Cls X.K C) (hm : Meth X.K C m f) (F : FG X.prog X.w X.K X.mg X.base CX0 k f fd ps (lSp X.K ds)) (hr : Room k X.A) (hgd : X.A.guards = some []) (hb : L2.Binds X.K fd ps [])
    (ht : eval (.Call (.Attribute o m apos) [] [] pos) X.env = (do
      let ov ← eval o X.env
      standAt apos.atName
      let (f, first) ← holding [ov] (getMethod ov m pl)
      callWith pos f first (backTo pos (starEach [] X.env)) (backToKw pos (keywordEach [] X.env)))) :
    DE X (.Call (.Attribute o m apos) [] [] pos) (tMethC C m ds to tNilD) :=
  ⟨PE_mono (pe_methG0 (E := E0) ho.pe c hm F hr hgd hb .nil pass0 ht) fun σ H Q ⟨F', ρ, μ, G, R, c, rs, h, fin⟩ => lE_go c rs h fun w μ1 F1 H1 v r1 s1 c1 q1 => by
    obtain ⟨a, dx, fs, rfl, em, hl, h⟩ := insAt_ok r1
    cases (show v = .ref a from q1)
    obtain ⟨_, _, _, ho, vs, rfl, kv⟩ := c1.mu a _ em
    exact ⟨a, dx, vs, rfl, ho, kv_lookup_none kv hl, F1, μ1, G, _, R, c1, .cons (show Rw X.K F1 (V.ref a) (.v (.ref a)) from rfl) .nil, h, fin.mono s1⟩⟩
theorem de_make {ds : DSp} {t : DTA} (M : Mk X.K C f) (F : FG X.prog X.w X.K X.mg X.base CX0 k f fd ps (lSp X.K ds)) (hr : Room (k + 1) X.A) (hgd : X.A.guards = some []) (hg : Gl X x) (hm : X.mg x = some (.ref C)) (hb : L2.Binds X.K fd ps [])
    (ha : DA X (e :: es) t) (hdb : (x == ("__debug__" : Str)) = false) (he : starEach (e :: es) X.env = (false, eval e X.env) :: starEach es X.env) (hpl : (backTo pos (starEach es X.env)).any (·.1) = false) :
    DE X (.Call (.Name x p) (e :: es) [] pos) (tMakeC C ds t) :=
  ⟨PE_mono (pe_makeG (E := E0) M F hr hgd hg hm hb .nil pass0 ha.pa hdb he hpl) fun σ H Q ⟨F', ρ, μ, G, R, c, rs, h, fin⟩ => lA_go c rs h fun ws μ1 F1 H1 vs r1 s1 c1 q1 => fun x dx hx hdx hne => by
    rw [List.append_nil]
    have c2 := c1.hide hdx (.own x)
    have hx2 : upd H1 dx (.own x) x = none := by rw [upd_ne (Ne.symm hne)]; exact hx
    have c3 := c2.born (p := x) (o := .ins C dx []) (m := .ins C dx []) hx2 ⟨[], rfl, .nil⟩
    refine ⟨F1, _, G, _, _, c3, .cons (show Rw X.K F1 (V.ref x) (.v (.ref x)) from rfl) q1, r1 x dx (c1.noM hx), fun w μ' F' H' v ⟨ew, h⟩ s c q => ?_⟩
    subst ew
    cases (show Rp X.K F' v .none from q)
    exact ⟨rfl, fin _ _ _ _ _ h (s1.trans s) c rfl⟩⟩
end

/-! ### changing dicts: keys are numbers and texts -/
def keyW : W → Option Key
  | .d (.int i) => some (.inl i)
  | .d (.str s) => some (.inr s)
  | _ => none
def valW (kvs : List (Key × W)) (k : Key) : Option W := (kvs.find? fun kv => decide (kv.1 = k)).map (·.2)
def putW (kvs : List (Key × W)) (k : Key) (w : W) : List (Key × W) :=
  if (kvs.any fun kv => decide (kv.1 = k)) = true then kvs.map (fun kv => if kv.1 = k then (kv.1, w) else kv) else kvs ++ [(k, w)]
section
variable {K : PySem.W.Frag} {F : Hp}
theorem key_kV {w : W} {k : Key} {v : V} (e : keyW w = some k) (r : Rw K F v w) : v = kV k := by
  unfold keyW at e
  split at e
  · cases e; cases (show Rp K F v _ from r); rfl
  · cases e; cases (show Rp K F v _ from r); rfl
  · cases e
theorem kv_val {k : Key} : ∀ {vs : List (Key × V)} {ws : List (Key × W)}, RwKv K F vs ws → (∀ w, valW ws k = some w → ∃ v, valV vs k = some v ∧ Rw K F v w) ∧ (valW ws k = none → valV vs k = none)
  | _, _, .nil => ⟨fun w h => (by cases h), fun _ => rfl⟩
  | (g, v) :: vs, (g', w') :: ws, .cons r t => by
    obtain ⟨e, rv⟩ := r
    simp only at e rv
    subst e
    have ih := kv_val (k := k) t
    by_cases q : g = k
    · have e1 : valW ((g, w') :: ws) k = some w' := by simp [valW, List.find?_cons, q]
      have e2 : valV ((g, v) :: vs) k = some v := valV_pos q
      rw [e1, e2]
      exact ⟨fun w h => by cases h; exact ⟨v, rfl, rv⟩, fun h => by cases h⟩
    · have e1 : valW ((g, w') :: ws) k = valW ws k := by simp [valW, List.find?_cons, q]
      have e2 : valV ((g, v) :: vs) k = valV vs k := valV_neg q
      rw [e1, e2]
      exact ih
theorem kv_any {k : Key} : ∀ {vs : List (Key × V)} {ws : List (Key × W)}, RwKv K F vs ws → (vs.any fun kv => decide (kv.1 = k)) = ws.any fun kv => decide (kv.1 = k)
  | _, _, .nil => rfl
  | (g, v) :: vs, (g', w') :: ws, .cons r t => by
    obtain ⟨e, _⟩ := r
    simp only at e
    subst e
    rw [List.any_cons, List.any_cons, kv_any t]
theorem kv_app {vs vs' : List (Key × V)} {ws ws' : List (Key × W)} (h : RwKv K F vs ws) (g : RwKv K F vs' ws') : RwKv K F (vs ++ vs') (ws ++ ws') := by
  induction h with
  | nil => exact g
  | cons r t ih => exact .cons r ih
theorem kv_mapput {k : Key} {v : V} {w : W} (r : Rw K F v w) : ∀ {vs : List (Key × V)} {ws : List (Key × W)}, RwKv K F vs ws → RwKv K F (vs.map fun kv => if kv.1 = k then (kv.1, v) else kv) (ws.map fun kv => if kv.1 = k then (kv.1, w) else kv)
  | _, _, .nil => .nil
  | (g, x) :: vs, (g', x') :: ws, .cons q t => by
    obtain ⟨e, rv⟩ := q
    simp only at e rv
    subst e
    rw [List.map_cons, List.map_cons]
    refine .cons ?_ (kv_mapput r t)
    by_cases z : g = k
    · show (if g = k then (g, v) else (g, x)).1 = (if g = k then (g, w) else (g, x')).1 ∧ Rw K F (if g = k then (g, v) else (g, x)).2 (if g = k then (g, w) else (g, x')).2
      rw [if_pos z, if_pos z]; exact ⟨rfl, r⟩
    · show (if g = k then (g, v) else (g, x)).1 = (if g = k then (g, w) else (g, x')).1 ∧ Rw K F (if g = k then (g, v) else (g, x)).2 (if g = k then (g, w) else (g, x')).2
      rw [if_neg z, if_neg z]; exact ⟨rfl, rv⟩
theorem kv_putK {k : Key} {v : V} {w : W} (r : Rw K F v w) {vs : List (Key × V)} {ws : List (Key × W)} (h : RwKv K F vs ws) : RwKv K F (putK vs k v) (putW ws k w) := by
  unfold putK putW
  rw [kv_any h]
  split
  · exact kv_mapput r h
  · exact kv_app h (.cons ⟨rfl, r⟩ .nil)
end
def dctAt (w : W) (μ : M) (Q : Addr → List (Key × W) → Prop) : Prop := match w with
  | .v (.ref a) => onS (μ a) fun m => match m with
    | .dct kvs => Q a kvs
    | _ => False
  | _ => False
theorem dctAt_ok {w : W} {μ : M} {Q : Addr → List (Key × W) → Prop} (h : dctAt w μ Q) : ∃ a kvs, w = .v (.ref a) ∧ μ a = some (.dct kvs) ∧ Q a kvs := by
  unfold dctAt at h
  split at h
  · rename_i a
    obtain ⟨m, em, h2⟩ := onS_ok h
    clear h
    split at h2
    · exact ⟨a, _, rfl, em, h2⟩
    · exact h2.elim
  · exact h.elim
section
variable {X : Cx} {o i a b value : Expr} {pos pos' : Pos}
def tDictM : DTE := fun _ μ R => ∀ p, μ p = none → R (.v (.ref p)) (mset μ p (.dct []))
theorem de_dictM : DE X (.Dict [] [] pos) tDictM := ⟨PE_mono pe_dnewK fun σ H Q ⟨F, ρ, μ, G, R, c, rs, h, fin⟩ p hp =>
  fin _ _ _ _ _ (h p (c.noM hp)) (Same.refl _) (c.born hp ⟨[], rfl, .nil⟩) rfl⟩
/-- d[k] -/
def tDGetM (td ty : DTE) : DTE := fun ρ μ R => td ρ μ fun x μ1 => ty ρ μ1 fun y μ2 => dctAt x μ2 fun _ kvs => onS (keyW y) fun k => onS (valW kvs k) fun w => R w μ2
theorem de_dgetM {td ty : DTE} (hu : X.A.units + 1 < cLine) (ho : DE X o td) (hi : DE X i ty) (hs : NoSl i) : DE X (.Subscript o i pos) (tDGetM td ty) :=
  ⟨PE_mono (pe_dget hu ho.pe hi.pe hs) fun σ H Q ⟨F, ρ, μ, G, R, c, rs, h, fin⟩ => lE_go c rs h fun wx μ1 F1 H1 x r1 s1 c1 q1 => lE_go c1 (rs.mono s1) r1 fun wy μ2 F2 H2 y r2 s2 c2 q2 => by
    obtain ⟨a, kvs, rfl, em, h⟩ := dctAt_ok r2
    obtain ⟨k, ek, h⟩ := onS_ok h
    obtain ⟨w, ew, h⟩ := onS_ok h
    cases (show x = .ref a from q1)
    have ey := key_kV ek q2
    subst ey
    obtain ⟨_, _, _, ho, vs, rfl, kv⟩ := c2.mu a _ em
    obtain ⟨v, ev, rv⟩ := (kv_val kv).1 w ew
    exact ⟨a, v, rfl, by rw [← ev]; exact DGet.k ho, fin _ _ _ _ _ h (s1.trans s2) c2 rv⟩⟩
/-- k in d, k not in d -/
def tDInM (neg : Bool) (ty td : DTE) : DTE := fun ρ μ R => ty ρ μ fun y μ1 => td ρ μ1 fun x μ2 => dctAt x μ2 fun _ kvs => onS (keyW y) fun k => R (.d (.bool (neg ^^ (valW kvs k).isSome))) μ2
theorem kv_isSome {K : PySem.W.Frag} {F : Hp} {k : Key} {vs : List (Key × V)} {ws : List (Key × W)} (kv : RwKv K F vs ws) : (valV vs k).isSome = (valW ws k).isSome := by
  cases e : valW ws k with
  | none => rw [(kv_val kv).2 e]; rfl
  | some w => obtain ⟨v, ev, _⟩ := (kv_val kv).1 w e; rw [ev]; rfl
theorem de_dinM {td ty : DTE} (hu : X.A.units + 1 < cLine) (hi : DE X i ty) (ho : DE X o td) (hm : behindInMarks .In o = false) : DE X (.Compare i [.In] [o] pos) (tDInM false ty td) :=
  ⟨PE_mono (pe_cmp (pc_din hu hi.pe ho.pe) hm) fun σ H Q ⟨F, ρ, μ, G, R, c, rs, h, fin⟩ => lE_go c rs h fun wy μ1 F1 H1 y r1 s1 c1 q1 => lE_go c1 (rs.mono s1) r1 fun wx μ2 F2 H2 x r2 s2 c2 q2 => by
    obtain ⟨a, kvs, rfl, em, h⟩ := dctAt_ok r2
    obtain ⟨k, ek, h⟩ := onS_ok h
    cases (show x = .ref a from q2)
    have ey := key_kV ek q1
    subst ey
    obtain ⟨_, _, _, ho, vs, rfl, kv⟩ := c2.mu a _ em
    refine ⟨a, _, rfl, DGet.k ho, ?_⟩
    rw [kv_isSome kv]
    rw [Bool.false_xor] at h
    exact fin _ _ _ _ _ h (s1.trans s2) c2 (Rp.bl _)⟩
theorem de_dnotinM {td ty : DTE} (hu : X.A.units + 1 < cLine) (hi : DE X i ty) (ho : DE X o td) (hm : behindInMarks .NotIn o = false) : DE X (.Compare i [.NotIn] [o] pos) (tDInM true ty td) :=
  ⟨PE_mono (pe_cmp (pc_dnotin hu hi.pe ho.pe) hm) fun σ H Q ⟨F, ρ, μ, G, R, c, rs, h, fin⟩ => lE_go c rs h fun wy μ1 F1 H1 y r1 s1 c1 q1 => lE_go c1 (rs.mono s1) r1 fun wx μ2 F2 H2 x r2 s2 c2 q2 => by
    obtain ⟨a, kvs, rfl, em, h⟩ := dctAt_ok r2
    obtain ⟨k, ek, h⟩ := onS_ok h
    cases (show x = .ref a from q2)
    have ey := key_kV ek q1
    subst ey
    obtain ⟨_, _, _, ho, vs, rfl, kv⟩ := c2.mu a _ em
    refine ⟨a, _, rfl, DGet.k ho, ?_⟩
    rw [kv_isSome kv]
    rw [Bool.true_xor] at h
    exact fin _ _ _ _ _ h (s1.trans s2) c2 (Rp.bl _)⟩
theorem dt_dinM {td ty : DTE} (hu : X.A.units + 1 < cLine) (hi : DE X i ty) (ho : DE X o td) (hm : behindInMarks .In o = false) : DT X (.Compare i [.In] [o] pos) (tTst (tDInM false ty td)) :=
  ⟨PT_mono (pt_cmp (pc_din hu hi.pe ho.pe) hm) fun σ H Q ⟨F, ρ, μ, G, R, c, rs, h, fin⟩ => lE_go c rs h fun wy μ1 F1 H1 y r1 s1 c1 q1 => lE_go c1 (rs.mono s1) r1 fun wx μ2 F2 H2 x r2 s2 c2 q2 => by
    obtain ⟨a, kvs, rfl, em, h⟩ := dctAt_ok r2
    obtain ⟨k, ek, h⟩ := onS_ok h
    cases (show x = .ref a from q2)
    have ey := key_kV ek q1
    subst ey
    obtain ⟨_, _, _, ho, vs, rfl, kv⟩ := c2.mu a _ em
    refine ⟨a, _, rfl, DGet.k ho, _, rfl, ?_⟩
    rw [kv_isSome kv]
    rw [Bool.false_xor] at h
    exact fin _ _ _ _ h (s1.trans s2) c2⟩
theorem dt_dnotinM {td ty : DTE} (hu : X.A.units + 1 < cLine) (hi : DE X i ty) (ho : DE X o td) (hm : behindInMarks .NotIn o = false) : DT X (.Compare i [.NotIn] [o] pos) (tTst (tDInM true ty td)) :=
  ⟨PT_mono (pt_cmp (pc_dnotin hu hi.pe ho.pe) hm) fun σ H Q ⟨F, ρ, μ, G, R, c, rs, h, fin⟩ => lE_go c rs h fun wy μ1 F1 H1 y r1 s1 c1 q1 => lE_go c1 (rs.mono s1) r1 fun wx μ2 F2 H2 x r2 s2 c2 q2 => by
    obtain ⟨a, kvs, rfl, em, h⟩ := dctAt_ok r2
    obtain ⟨k, ek, h⟩ := onS_ok h
    cases (show x = .ref a from q2)
    have ey := key_kV ek q1
    subst ey
    obtain ⟨_, _, _, ho, vs, rfl, kv⟩ := c2.mu a _ em
    refine ⟨a, _, rfl, DGet.k ho, _, rfl, ?_⟩
    rw [kv_isSome kv]
    rw [Bool.true_xor] at h
    exact fin _ _ _ _ h (s1.trans s2) c2⟩
/-- d[k] = v -/
def sDPutM (td ty tv : DTE) : DTS := fun D ρ μ => tv ρ μ fun w μ1 => td ρ μ1 fun x μ2 => ty ρ μ2 fun y μ3 => dctAt x μ3 fun a kvs => onS (keyW y) fun k => kvs.length < sizeLine ∧ D.nx ρ (mset μ3 a (.dct (putW kvs k w)))
theorem ds_dputM {td ty tv : DTE} (hu : X.A.units + 1 < cLine) (ho : DE X o td) (hi : DE X i ty) (hv : DE X value tv) (hs : swapsWith value (some (.Subscript o i pos')) pos.line X.env = pure false) : DS X (.Assign [.Subscript o i pos'] value pos) (sDPutM td ty tv) :=
  ⟨PS_mono (ps_dput hu ho.pe hi.pe hv.pe hs) fun D σ H ⟨F, ρ, μ, G, R, c, rs, h, fin⟩ => lE_go c rs h fun w μ1 F1 H1 v r1 s1 c1 q1 => lE_go c1 (rs.mono s1) r1 fun wx μ2 F2 H2 x r2 s2 c2 q2 => lE_go c2 (rs.mono (s1.trans s2)) r2 fun wy μ3 F3 H3 y r3 s3 c3 q3 => by
    obtain ⟨a, kvs, rfl, em, h⟩ := dctAt_ok r3
    obtain ⟨k, ek, hl, h⟩ := onS_ok h
    cases (show x = .ref a from q2)
    have ey := key_kV ek q3
    subst ey
    obtain ⟨_, _, _, ho, vs, rfl, kv⟩ := c3.mu a _ em
    have s123 := (s1.trans s2).trans s3
    exact ⟨a, _, rfl, DPut.k ho (by rw [kv_len kv]; exact hl), fin.nx _ _ _ _ _ h s123 (c3.write em ⟨_, rfl, kv_putK (q1.mono (s2.trans s3)) kv⟩) (rs.mono s123)⟩⟩
end

/-! ### len of a changing dict, of an instance -/
section
variable {X : Cx} {CX : CXT} {k : Nat} {f C : Addr} {fd : FuncData} {ps : List Str} {sp : Sp} {E : XK}
theorem call_lenDk : CallR X (.builtin "len") (fun xs H Q => ∃ a kvs, xs = [V.ref a] ∧ H a = some (.dK kvs) ∧ Q (.int kvs.length) H) := by
  intro pins s σ H xs us Q I r ⟨a, kvs, ex, e, q⟩
  subst ex
  cases r with
  | cons r t =>
    cases t
    cases r
    exact d_len I (.inl e) fun t s' I' => ⟨.int kvs.length, H, I', ⟨_, rfl⟩, q⟩
theorem call_lenI (hm : Meth X.K C "__len__" f) (F : FG X.prog X.w X.K X.mg X.base CX k f fd ps sp) (hr : Room (k + 1) X.A) (hgd : X.A.guards = some []) (hb : L2.Binds X.K fd ps []) (hx : Passes CX X E) :
    CallR X (.builtin "len") (fun xs H Q => ∃ a dx fs, xs = [V.ref a] ∧ H a = some (.ins C dx fs) ∧ sp [.ref a] H (fun v H2 => ∃ n : Int, v = .int n ∧ 0 ≤ n ∧ n < 2 ^ 63 ∧ Q v H2) E) := by
  intro pins s σ H xs us Q I r ⟨a, dx, fs, ex, e, q⟩
  subst ex
  cases r with
  | cons r t =>
    cases t
    cases r
    obtain ⟨mA, O, _, _, _, _⟩ := ins_get I.hok e
    obtain ⟨od, ia, _⟩ := O.look
    obtain ⟨m, fr⟩ := I.fr
    refine PySem.W.len_K fr I.ok.mod.kin ia hm.at_ hm.fn ?_
    have ll : ([Value.ref a] ++ []).length = ps.length := by have := F.arity _ _ _ _ q; simpa using this
    refine wpAny_call (codeAny_mono (F.go X.A.in1 X.stack s H ⟨[.ref a], []⟩ ([Value.ref a] ++ []) [.ref a] _ E hr.in1 hgd I.env0.in1 (hb s [.ref a] I.kIn ll) (show Vals [V.ref a] ([Value.ref a] ++ []) from .cons rfl .nil) q) ?_)
    intro r s' hq
    match r, hq with
    | .error e, hq => exact hx pins σ H s e s' I hq
    | .ok (.ret u), hq =>
      obtain ⟨v, H', I3, rv, n, ev, h0, h1, q3⟩ := I.after hq
      subst ev
      obtain ⟨t, rfl⟩ := rv
      exact ⟨⟨h0, h1⟩, ⟨.int n, H', I3.tok _, ⟨_, rfl⟩, q3⟩⟩
end
def lenM : DC := fun ws μ R => match ws with
  | [.v (.ref a)] => onS (μ a) fun m => match m with
    | .dct kvs => R (.d (.int kvs.length)) μ
    | .lst ws => R (.d (.int ws.length)) μ
    | .tup ws => R (.d (.int ws.length)) μ
    | _ => False
  | ws => lenD ws μ R
theorem l_lenM {K : PySem.W.Frag} : LiftA K (fun xs H Q => (∃ x n, xs = [x] ∧ LenV K x H n ∧ Q (V.int ↑n) H) ∨ ∃ a kvs, xs = [V.ref a] ∧ H a = some (.dK kvs) ∧ Q (.int kvs.length) H) lenM := by
  intro F H G μ vs ws R Q c rv h fin
  unfold lenM at h
  split at h
  · rename_i a
    obtain ⟨m, em, h2⟩ := onS_ok h
    split at h2
    · cases rv with
      | cons r t =>
        cases t
        cases (show _ = V.ref a from r)
        obtain ⟨_, _, _, ho, vs, rfl, kv⟩ := c.mu a _ em
        refine .inr ⟨a, vs, rfl, ho, ?_⟩
        rw [kv_len kv]
        exact fin.flat c h2 (.int _)
    · refine .inl (l_len c rv ?_ fin)
      show onS (μ a) _
      rw [em]
      exact h2
    · refine .inl (l_len c rv ?_ fin)
      show onS (μ a) _
      rw [em]
      exact h2
    · exact h2.elim
  · exact .inl (l_len c rv h fin)
theorem call_lenA {X : Cx} : CallR X (.builtin "len") (fun xs H Q => (∃ x n, xs = [x] ∧ LenV X.K x H n ∧ Q (V.int ↑n) H) ∨ ∃ a kvs, xs = [V.ref a] ∧ H a = some (.dK kvs) ∧ Q (.int kvs.length) H) := CallR.or call_len call_lenDk
def lenID (C : Addr) (ds : DSp) : DC := fun ws μ R => match ws with
  | [w] => insAt w μ C fun a _ _ => ds [.v (.ref a)] μ fun w μ2 => ∃ n : Int, w = .d (.int n) ∧ 0 ≤ n ∧ n < 2 ^ 63 ∧ R w μ2
  | _ => False
theorem l_lenI {K : PySem.W.Frag} {C : Addr} {ds : DSp} : LiftA K (fun xs H Q => ∃ a dx fs, xs = [V.ref a] ∧ H a = some (.ins C dx fs) ∧ lSp K ds [.ref a] H (fun v H2 => ∃ n : Int, v = .int n ∧ 0 ≤ n ∧ n < 2 ^ 63 ∧ Q v H2) E0) (lenID C ds) := by
  intro F H G μ vs ws R Q c rv h fin
  unfold lenID at h
  split at h
  · obtain ⟨a, dx, fs, rfl, em, h⟩ := insAt_ok h
    cases rv with
    | cons r t =>
      cases t
      cases (show _ = V.ref a from r)
      obtain ⟨_, _, _, ho, vs, rfl, kv⟩ := c.mu a _ em
      refine ⟨a, dx, vs, rfl, ho, F, μ, G, _, _, c, .cons (show Rw K F (V.ref a) (.v (.ref a)) from rfl) .nil, h, fun w μ' F' H' v ⟨n, ew, h0, h1, q⟩ s c' r' => ?_⟩
      subst ew
      cases (show Rp K F' v (.int n) from r')
      exact ⟨n, rfl, h0, h1, fin _ _ _ _ _ q s c' (.int n)⟩
  · exact h.elim
end DL
theorem DL.u1 {a : Nat} (h : a + 100 < PySem.cLine) : a + 1 < PySem.cLine := by omega
namespace DL
open PySem PySem.Spec PyProof.Rows L2
section
variable {μ : M} {R : DQ} {a C : Addr}
theorem q_insAt {Q : Addr → Addr → List (Str × W) → Prop} : insAt (.v (.ref a)) μ C Q = onS (μ a) fun m => match m with
    | .ins C' dx fs => C' = C ∧ Q a dx fs
    | _ => False := rfl
theorem q_dctAt {Q : Addr → List (Key × W) → Prop} : dctAt (.v (.ref a)) μ Q = onS (μ a) fun m => match m with
    | .dct kvs => Q a kvs
    | _ => False := rfl
theorem q_keyI {i : Int} : keyW (.d (.int i)) = some (.inl i) := rfl
theorem q_keyS {s : Str} : keyW (.d (.str s)) = some (.inr s) := rfl
theorem q_lenMd {d : PyData} : lenM [.d d] μ R = lenD [.d d] μ R := rfl
theorem q_lenMs {ns : List Int} : lenM [.s ns] μ R = R (.d (.int ns.length)) μ := rfl
theorem q_lenMv : lenM [.v (.ref a)] μ R = onS (μ a) fun m => match m with
    | .dct kvs => R (.d (.int kvs.length)) μ
    | .lst ws => R (.d (.int ws.length)) μ
    | .tup ws => R (.d (.int ws.length)) μ
    | _ => False := rfl
theorem q_lenI {w : W} {ds : DSp} : lenID C ds [w] μ R = insAt w μ C fun a _ _ => ds [.v (.ref a)] μ fun w μ2 => ∃ n : Int, w = .d (.int n) ∧ 0 ≤ n ∧ n < 2 ^ 63 ∧ R w μ2 := rfl
end
end DL
namespace DL
open PySem PySem.Spec PyProof.Rows L2
/-! ### x[::-1] of a text or a tuple -/
theorem krv_allN (xs : Array Nat) : (List.range xs.size).filterMap (xs[·]?) = xs.toList := by
  have h : ∀ l : List Nat, (List.range l.length).filterMap (l[·]?) = l := fun l => by
    induction l with
    | nil => rfl
    | cons a l ih =>
      rw [List.length_cons, List.range_succ_eq_map, List.filterMap_cons, List.filterMap_map]
      show a :: (List.range l.length).filterMap (fun k => (a :: l)[k + 1]?) = _
      rw [show (fun k => (a :: l)[k + 1]?) = fun k => l[k]? from funext fun k => List.getElem?_cons_succ, ih]
  have := h xs.toList
  rw [Array.length_toList] at this
  rw [← this]
  congr 1
  funext k
  rw [← Array.getElem?_toList]
theorem rev_text (x : Str) (t : Tok) (uk : Tok) : sliceMade x t none none (some (-1, uk)) = .str ⟨x.cps.toList.reverse.toArray⟩ := by
  unfold sliceMade
  rw [if_neg (by simp)]
  congr 2
  unfold slicePicked Builtin.Str.strSliceIndices
  show ((sliceRange ((x.cps.size : Int) - 1) (-1) (-1)).filterMap (x.cps[·]?)).toArray = _
  rw [PySem.W.krv_sliceRange, PySem.W.krv_range, List.filterMap_reverse, krv_allN]
end DL
namespace DL
open PySem PySem.Spec PyProof.Rows L2
section
variable {X : Cx}
def revS (z : Str) : Str := ⟨z.cps.toList.reverse.toArray⟩
def tRevA (te : DTE) (ts : DTO) : DTE := fun ρ μ R => te ρ μ fun w μ1 => ts ρ μ1 fun o μ2 => o = some (-1) ∧ match w with
  | .d (.tuple ds) => R (.d (.tuple ds.reverse)) μ2
  | .d (.str z) => z.length ≤ sizeLine ∧ R (.d (.str (revS z))) μ2
  | _ => False
theorem de_revA {e st : Expr} {te : DTE} {ts : DTO} {pos p2 : Pos} (he : DE X e te) (hs : DO X (some st) ts) : DE X (.Subscript e (.Slice none none (some st) p2) pos) (tRevA te ts) := by
  constructor
  constructor
  intro pins s σ H Q I ⟨F, ρ, μ, G, R, c, rs, h, fin⟩
  apply Subscript_
  refine thn (he.pe.run pins s σ H (fun x H1 => lO X.K ts σ H1 fun o H2 => o = some (-1) ∧ ((∃ a xs, x = .ref a ∧ SqT X.K H2 a xs ∧ ∀ p, H2 p = none → Q (.ref p) (upd H2 p (.tup xs.reverse))) ∨ ∃ z, x = .str z ∧ z.length ≤ sizeLine ∧ Q (.str (revS z)) H2)) I (lE_go c rs h fun w μ1 F1 H1 x r1 s1 c1 q1 => ?_)) ?_
  · refine ⟨F1, ρ, μ1, G, _, c1, rs.mono s1, r1, fun o μ2 F2 H2 r2 s2 c2 => ?_⟩
    obtain ⟨ho, r2⟩ := r2
    have q2 := q1.mono s2
    try dsimp only at r2
    refine ⟨ho, ?_⟩
    split at r2
    · cases (show Rp X.K F2 x _ from q2) with
      | tup e k =>
        refine .inl ⟨_, _, rfl, SqT_mono c2.sub e, fun p hp => ?_⟩
        obtain ⟨s, c'⟩ := c2.lay hp (.tup _)
        exact fin _ _ _ _ _ r2 ((s1.trans s2).trans s) c' (.tup (.inl (.inl upd_same)) ((rp_rev k).mono s))
    · cases (show Rp X.K F2 x _ from q2) with
      | str z => exact .inr ⟨_, rfl, r2.1, fin _ _ _ _ _ r2.2 (s1.trans s2) c2 (.str _)⟩
    · exact r2.elim
  rintro v s1 ⟨x, H1, I1, r1, q1⟩
  apply wpAny_Slice
  refine thn (po_none.run pins s1 σ H1 (fun o2 H3 => o2 = none ∧ H3 = H1) I1 ⟨rfl, rfl⟩) ?_
  rintro vl s2 ⟨o2, H2, I2, pl, rfl, rfl⟩
  refine thn (po_none.run pins s2 σ H2 (fun o2 H3 => o2 = none ∧ H3 = H2) I2 ⟨rfl, rfl⟩) ?_
  rintro vu s3 ⟨o3, H3, I3, pu, rfl, rfl⟩
  refine thn (hs.po.run pins s3 σ H3 _ I3 q1) ?_
  rintro vs s4 ⟨o, H4, I4, ps, rfl, qq⟩
  cases pl
  cases pu
  cases ps with
  | int _ uk =>
    have I5 : Inv X pins σ H4 { s4 with heap := s4.heap.push { cls := .type "slice", data := .fields #[.none, .none, .int (-1) uk] } } := I4.kept (t' := s4.toks) fun b ob q => Heap.get?_push_of_some _ q
    rcases qq with ⟨a, xs, rfl, hx, q⟩ | ⟨z, rfl, hzl, q⟩
    · cases r1
      obtain ⟨its, r, ht, hz⟩ := I5.tuple hx
      have ht : IsTup _ a its.toArray := ht
      have hlen := r.length
      refine tail_any (ops := [.ref a, .ref s4.heap.objs.size]) ht.typeIs PyProof.Rows.slot_tuple_getitem.lookup ?_ (by with_unfolding_all rfl)
      refine item_back ht (Heap.IsSliceOf.new ..) (by rw [List.size_toArray]; omega) ?_
      refine ⟨.ref _, _, I5.laid (t' := s4.toks) (o := .tup xs.reverse) (fun b ob q => Heap.get?_push_of_some _ q) (Nat.le_refl _) ?_, rfl, q _ (I5.hok.fresh (Nat.le_refl _))⟩
      exact ⟨by rw [List.length_reverse]; exact hz, _, Vals.reverse r, IsTup.new _ _⟩
    · obtain ⟨t, rfl⟩ := r1
      refine tail_any (ops := [.str z t, .ref s4.heap.objs.size]) (T := "str") (typeIs_str _ z t) PySem.F.slot_str_getitem.lookup ?_ (by with_unfolding_all rfl)
      refine wpAny_getItem_str_slice (l := none) (u := none) (st := some (-1, uk)) ⟨_, Heap.get?_push_size _ rfl, rfl, rfl⟩ rfl ?_
      rw [rev_text]
      refine ⟨?_, ⟨.str (revS z), H4, I5.tok _, ⟨_, rfl⟩, q⟩⟩
      show (z.cps.toList.reverse.toArray).size ≤ sizeLine
      rw [List.size_toArray, List.length_reverse, Array.length_toList]
      exact hzl
end
end DL

set_option Elab.async false
set_option linter.all false
set_option maxRecDepth 100000
set_option maxHeartbeats 2000000
namespace DL
open PySem PySem.Spec PyProof.Rows L2
/-! the law's bag -/
def IsBag (m : MO) : Prop := ∃ b0 b1 b2 : Int, m = .lst [.d (.int b0), .d (.int b1), .d (.int b2)] ∧ 0 ≤ b0
def lettersS : Str := "abcdefghijklmnopqrstuvwxyz"
def allIn (a b : Str) : Bool := a.cps.toList.all fun c => decide (c ∈ b.cps.toList)
def isWordD : PyData → Bool
  | .str s => isWordC (cd s)
  | _ => false
def kindsL : List Str := ["letters", "calls", "pages", "sounds"]
/-- what may be handed in -/
def okT : PyData → Prop
  | .str s => s.length ≤ 1000
  | .dict _ => True
  | d => d.plain = true ∧ d.depth ≤ 60
theorem in_letters (c : Nat) : decide (c ∈ lettersS.cps.toList) = az c := by
  have e : lettersS.cps.toList = [97, 98, 99, 100, 101, 102, 103, 104, 105, 106, 107, 108, 109, 110, 111, 112, 113, 114, 115, 116, 117, 118, 119, 120, 121, 122] := by decide +kernel
  rw [e, Bool.eq_iff_iff]
  simp only [az, decide_eq_true_eq, Bool.and_eq_true, List.mem_cons, List.not_mem_nil, or_false]
  omega
theorem eqv_str (a b : Str) : PyData.eqv (.str a) (.str b) = (a == b) := by simp [PyData.eqv]
theorem eqv_int (a b : Int) : PyData.eqv (.int a) (.int b) = (a == b) := by simp [PyData.eqv]
theorem eqv_nil (xs : List PyData) : PyData.eqv (.list xs) (.list []) = xs.isEmpty := by cases xs <;> simp [PyData.eqv, PyData.eqvAll]
theorem eqv_nn : PyData.eqv (.list []) (.list []) = true := by simp [PyData.eqv, PyData.eqvAll]
theorem one_len (c : Nat) : (⟨#[c]⟩ : Str).length = 1 := rfl
theorem filter_all {α : Type} (p : α → Bool) : ∀ l : List α, (l.filter fun x => !p x).isEmpty = l.all p
  | [] => rfl
  | x :: l => by
    rw [List.all_cons, ← filter_all p l]
    cases q : p x
    · rw [List.filter_cons_of_pos (by simp [q])]; rfl
    · rw [List.filter_cons_of_neg (by simp [q])]; rfl
theorem kq_ll : PyData.eqv (.str (Str.ofString "letters")) (.str (Str.ofString "letters")) = true := by rw [eqv_str]; decide +kernel
theorem kq_lc : PyData.eqv (.str (Str.ofString "letters")) (.str (Str.ofString "calls")) = false := by rw [eqv_str]; decide +kernel
theorem kq_lp : PyData.eqv (.str (Str.ofString "letters")) (.str (Str.ofString "pages")) = false := by rw [eqv_str]; decide +kernel
theorem kq_ls : PyData.eqv (.str (Str.ofString "letters")) (.str (Str.ofString "sounds")) = false := by rw [eqv_str]; decide +kernel
theorem kq_cl : PyData.eqv (.str (Str.ofString "calls")) (.str (Str.ofString "letters")) = false := by rw [eqv_str]; decide +kernel
theorem kq_cc : PyData.eqv (.str (Str.ofString "calls")) (.str (Str.ofString "calls")) = true := by rw [eqv_str]; decide +kernel
theorem kq_cp : PyData.eqv (.str (Str.ofString "calls")) (.str (Str.ofString "pages")) = false := by rw [eqv_str]; decide +kernel
theorem kq_cs : PyData.eqv (.str (Str.ofString "calls")) (.str (Str.ofString "sounds")) = false := by rw [eqv_str]; decide +kernel
theorem kq_pl : PyData.eqv (.str (Str.ofString "pages")) (.str (Str.ofString "letters")) = false := by rw [eqv_str]; decide +kernel
theorem kq_pc : PyData.eqv (.str (Str.ofString "pages")) (.str (Str.ofString "calls")) = false := by rw [eqv_str]; decide +kernel
theorem kq_pp : PyData.eqv (.str (Str.ofString "pages")) (.str (Str.ofString "pages")) = true := by rw [eqv_str]; decide +kernel
theorem kq_ps : PyData.eqv (.str (Str.ofString "pages")) (.str (Str.ofString "sounds")) = false := by rw [eqv_str]; decide +kernel
theorem kq_sl : PyData.eqv (.str (Str.ofString "sounds")) (.str (Str.ofString "letters")) = false := by rw [eqv_str]; decide +kernel
theorem kq_sc : PyData.eqv (.str (Str.ofString "sounds")) (.str (Str.ofString "calls")) = false := by rw [eqv_str]; decide +kernel
theorem kq_sp : PyData.eqv (.str (Str.ofString "sounds")) (.str (Str.ofString "pages")) = false := by rw [eqv_str]; decide +kernel
theorem kq_ss : PyData.eqv (.str (Str.ofString "sounds")) (.str (Str.ofString "sounds")) = true := by rw [eqv_str]; decide +kernel
theorem kinds4 {k : Str} (h : k ∈ kindsL) : k = Str.ofString "letters" ∨ k = Str.ofString "calls" ∨ k = Str.ofString "pages" ∨ k = Str.ofString "sounds" := by
  simpa [kindsL] using h
def isNm (k : Str) (l : List Nat) : Bool := if k = "letters" then nmL l else if k = "calls" then nmC l else if k = "pages" then nmP l else nmS l
def isNmD (k : Str) : PyData → Bool
  | .str s => isNm k (cd s)
  | _ => false
theorem nm_l (l : List Nat) : isNm (Str.ofString "letters") l = nmL l := by unfold isNm; rw [if_pos rfl]
theorem nm_c (l : List Nat) : isNm (Str.ofString "calls") l = nmC l := by unfold isNm; rw [if_neg (by decide +kernel), if_pos rfl]
theorem nm_p (l : List Nat) : isNm (Str.ofString "pages") l = nmP l := by unfold isNm; rw [if_neg (by decide +kernel), if_neg (by decide +kernel), if_pos rfl]
theorem nm_s (l : List Nat) : isNm (Str.ofString "sounds") l = nmS l := by unfold isNm; rw [if_neg (by decide +kernel), if_neg (by decide +kernel), if_neg (by decide +kernel)]
theorem in_tones (c : Nat) : decide (c ∈ (Str.ofString "abcdefg").cps.toList) = ag c := by
  have e : (Str.ofString "abcdefg").cps.toList = [97, 98, 99, 100, 101, 102, 103] := by decide +kernel
  rw [e, Bool.eq_iff_iff]
  simp only [ag, decide_eq_true_eq, Bool.and_eq_true, List.mem_cons, List.not_mem_nil, or_false]
  omega
theorem in_figures (c : Nat) : decide (c ∈ (Str.ofString "0123456789").cps.toList) = dg c := by
  have e : (Str.ofString "0123456789").cps.toList = [48, 49, 50, 51, 52, 53, 54, 55, 56, 57] := by decide +kernel
  rw [e, Bool.eq_iff_iff]
  simp only [dg, decide_eq_true_eq, Bool.and_eq_true, List.mem_cons, List.not_mem_nil, or_false]
  omega
theorem at_sign : Str.ofString "@" = ⟨#[64]⟩ := by decide +kernel
theorem slash : Str.ofString "/" = ⟨#[47]⟩ := by decide +kernel
theorem dash : Str.ofString "-" = ⟨#[45]⟩ := by decide +kernel
theorem plus : Str.ofString "+" = ⟨#[43]⟩ := by decide +kernel
theorem part_len {s : Str} {c : Nat} {p : List Nat} (h : p ∈ sp1 c (cd s)) (hc : c < 256) : (mk p).length ≤ s.length := by
  refine part_short (y := ⟨#[c]⟩) ?_
  rw [split1 s c hc]
  exact List.mem_map_of_mem h
theorem split_cnt (s : Str) {c : Nat} (hc : c < 256) : (sp1 c (cd s)).length ≤ s.length + 2 := by
  have := split_le s ⟨#[c]⟩
  rw [split1 s c hc, List.length_map] at this
  exact this
theorem words_comp {ce : DTE} {i : Nat} {ρ : Sl} (hce : ∀ (s : Str) (μ : M) (Z : DQ), s.length ≤ 1000 → Z (.d (.bool (isWordC (cd s)))) μ → ce (ρ.set i (some (.d (.str s)))) μ Z) (ps : List (List Nat)) (hl : ∀ p ∈ ps, (mk p).length ≤ 1000) (hz : ps.length ≤ 2000) {μ : M} {R : DQ} (h : R (.d (.bool (ps.all isWordC))) μ) :
    compL i tYesD ce ρ (((ps.map mk).map PyData.str).map W.d) [] μ fun acc μ2 => asD acc fun ds => onS (bools ds) fun bs => R (.d (.bool (bs.all id))) μ2 := by
  have e : ((ps.map mk).map PyData.str).map W.d = ps.map fun p => W.d (.str (mk p)) := by rw [List.map_map, List.map_map]; rfl
  rw [e]
  refine compL_map _ ps (fun _ => true) (fun p => .bool (isWordC p)) ?_ ?_ ?_ ?_
  · intro p _ Z hZ; exact hZ
  · intro p hp _ Z hZ
    exact hce (mk p) μ Z (hl p hp) hZ
  · rw [List.length_nil, Nat.zero_add, sizeLit]; omega
  · rw [filter_yes]
    (try simp only [startD_eq, tSeqD, tSetD, tRetD, tRetND, DL.tIfS, tDropD, tAsgD, gSetD, gNameD, tTru, tTst, tNotB, tAndB, tOrB, tVarD, tK, tOp2, tUn1, tAndD, tOrD, tNotD, tIfD, tChainD, tConsD, tNilD, tTupD, tLstD, tLstM, tCallB, tCallD, tMetD, tSlD, tNoD, tPartD, tYesD, tNextD, tFrz, tForD, tItL, tItT, tItS, tItR, tItR2, tCompG, cFrz, cMut, tDict0, tDict1, tAugD, wipeD, mset_same, mset_mset, List.getElem?_cons_zero, List.getElem?_cons_succ, List.set_cons_zero, List.set_cons_succ, List.map_cons, List.map_nil, List.length_cons, List.length_nil, List.append_nil, List.nil_append, List.cons_append, List.replicate_succ, List.replicate_zero, Nat.sub_self, Nat.reduceSub, Nat.reduceAdd, if_true, if_false, reduceCtorEq, Bool.false_eq_true, Nat.zero_add, true_and, Bool.not_true, Bool.not_false, Bool.false_xor, ↓reduceIte, q_addI, q_addS, q_addL, q_addT, q_sub, q_mulI, q_mulL, q_mulT, q_num, q_neg, q_cmpI, q_cmpS, q_eq, q_ne, q_isN, q_isB, q_inSc, q_inT, q_inL, q_inAS, q_inAN, q_inAB, q_inAI, q_inAL, q_inAT, q_inAD, q_ixL, q_ixT, q_ixS, q_ixM, q_onS, q_slL, q_slT, q_slS, q_slX, q_truN, q_truB, q_truI, q_truS, q_truL, q_truT, q_lenS, q_lenL, q_lenT, q_lenX, q_int2, q_abs, q_all, q_any, q_sum, q_isi, q_reprL, q_reprT, q_apd, q_ext, q_joinL, q_split, q_str1, q_tyS, q_tyL, q_tyM, q_asD, q_asD0, q_asDc, q_at0, q_at1, q_at2, q_n0, q_n1, q_n2, q_tyN, q_tyB, q_tyI, q_tyS2, q_tyL2, q_tyT2, q_tyD2, k_ss, k_ns, k_bs, k_is_, k_ls, k_ts, k_ds, k_nt, k_bt, k_it, k_st, k_lt, k_tt, k_dt, k_ni, k_bi, k_ii, k_si, k_li, k_ti, k_di, k_nb, k_bb, k_ib, k_sb, k_lb, k_tb, k_db, q_bools, q_strs, q_ints, q_bools0, q_strs0, q_ints0, q_asDd, sizeLit, Nat.reduceLeDiff, Nat.reduceLT, Int.reduceLE, Int.reduceLT, Int.reducePow, Int.reduceNeg, Nat.reducePow, Int.reduceToNat, Int.reduceSub, Int.reduceAdd, and_true, implies_true, PyData.plain, PyData.plainAll, PyData.showable, PyData.showableAll, PyData.depth, PyData.depthAll, Bool.and_self, Bool.and_true, Bool.true_and, Nat.max_self, Nat.min_self, Nat.reduceLeDiff, Nat.zero_le, q_mulXI, q_mulXS, q_mulXL, q_mulXT, q_str, q_int, q_step, tTab, tJsD, tFmtD, tRevD, q_revL, q_revM, tParD, q_joinS, q_reprGN, q_reprGT, q_reprGL, q_eqVv, q_neVv, q_vwd, q_vws, q_vws0, q_isiV, q_tyNd, q_tyNs, q_reprVN, q_reprVT, q_reprVL, tStarD, q_seqT, q_seqL, tCompP, tItET, tItEL, tTabD, q_pop0, q_pop, q_revMD, q_tupofL, q_tupofT, q_atc0, q_atc1, q_atc2, q_atc3, q_atc4, q_lenM, q_asDapp, q_gTup2, q_gTup3, kk_NoneType_list, kk_NoneType_dict, kk_bool_list, kk_bool_dict, kk_int_list, kk_int_dict, kk_str_list, kk_str_dict, kk_list_list, kk_list_dict, kk_tuple_list, kk_tuple_dict, kk_dict_list, kk_dict_dict, q_mulYI, q_mulYS, q_mulYL, q_mulYT, q_tyNu, tTupM, tFrzE, q_frzd, q_extT, q_clr, q_intGb, q_intGi, q_intGs, tDGetD, tDictD, dvals, dzip, tRevT])
    rw [List.all_map]
    exact h
theorem nmC_cons (x : Nat) (r : List Nat) : nmC (x :: r) = (decide (x = 43) && decide (3 ≤ r.length) && decide (r.length ≤ 9) && r.all dg) := rfl
theorem nmC_nil : nmC [] = false := rfl
theorem nmL_none {l : List Nat} (h : cutAt 64 l = none) : nmL l = false := by unfold nmL; rw [h]
theorem nmL_some {l x y : List Nat} (h : cutAt 64 l = some (x, y)) : nmL l = (isWordC x && isWordC y) := by unfold nmL; rw [h]
theorem nmP_cons {l p : List Nat} {ps : List (List Nat)} (h : sp1 47 l = p :: ps) : nmP l = (decide (p = []) && decide (1 ≤ ps.length) && decide (ps.length ≤ 3) && ps.all isWordC) := by unfold nmP; rw [h]
theorem joinL_dash : ∀ cs : List Nat, TL.joinL [45] (cs.map fun c => [c]) = joinS cs
  | [] => rfl
  | [x] => rfl
  | x :: y :: r => by
    have ih := joinL_dash (y :: r)
    show [x] ++ ([45] ++ TL.joinL [45] ((y :: r).map fun c => [c])) = x :: 45 :: joinS (y :: r)
    rw [ih]; rfl
theorem joinDash (cs : List Nat) : Txt.join (Str.ofString "-") (cs.map fun c => ⟨#[c]⟩) = mk (joinS cs) := by
  have e2 : (cs.map fun c => (⟨#[c]⟩ : Str)) = (cs.map fun c => [c]).map SX.S := by rw [List.map_map]; rfl
  have e1 : Str.ofString "-" = SX.S [45] := by decide +kernel
  rw [e1, e2, SX.join_S, joinL_dash]
theorem sum_ones (cs : List Nat) : ((cs.map fun c => (⟨#[c]⟩ : Str)).map fun x => x.length).sum = cs.length := by
  induction cs with
  | nil => rfl
  | cons x r ih => rw [List.map_cons, List.map_cons, List.sum_cons, ih, one_len, List.length_cons]; omega
theorem mk_app (a b : List Nat) : mk a ++ mk b = mk (a ++ b) := by
  apply cd_inj
  simp [cd, codes_app, mk]
theorem mk_one (c : Nat) : (⟨#[c]⟩ : Str) = mk [c] := rfl
/-- the k-th word -/
def kwF : Nat → Nat → List Nat → List Nat
  | 0, _, acc => acc
  | f + 1, n, acc => if n = 0 then acc else kwF f ((n - 1) / 26) ((97 + (n - 1) % 26) :: acc)
def kw (k : Nat) : List Nat := kwF 3 (k + 1) []
/-- tones -/
def tgF : Nat → Nat → List Nat → List Nat
  | 0, _, acc => acc
  | f + 1, n, acc => if n = 0 then acc else tgF f (n / 7) ((97 + n % 7) :: acc)
def tn (k : Nat) : List Nat := tgF 3 (k / 7) [97 + k % 7]
def wF : Nat → Nat → List Nat → List Nat
  | 0, _, acc => acc
  | s + 1, n, acc => wF s (n / 26) ((97 + n % 26) :: acc)
theorem kwF_0 (f : Nat) (acc : List Nat) : kwF f 0 acc = acc := by cases f <;> rfl
theorem tgF_0 (f : Nat) (acc : List Nat) : tgF f 0 acc = acc := by cases f <;> rfl
theorem kw_word : ∀ k < 2401, isWordC (kw k) = true ∧ (kw k).length ≤ 3 := by decide +kernel
theorem tn_ok : ∀ k < 2401, (tn k).all ag = true ∧ 1 ≤ (tn k).length ∧ (tn k).length ≤ 4 := by decide +kernel
theorem kw_nth : ∀ k < 2401, (if k < 26 then wF 1 k [] else if k < 702 then wF 2 (k - 26) [] else wF 3 (k - 702) []) = kw k := by decide +kernel
def fig (k : Nat) : List Nat := cd (Str.ofString (toString (k : Int)))
theorem fig_ok : ∀ k : Nat, k < 2401 → (fig k).all dg = true ∧ 1 ≤ (fig k).length ∧ (fig k).length ≤ 4 := by decide +kernel
theorem fig_log : ∀ k : Nat, k < 2401 → ((k : Int)).natAbs.log2 < 1920 := by
  intro k hk
  show k.log2 < 1920
  have h2 : k.log2 < 12 := by
    by_cases h : k = 0
    · subst h; decide
    · exact (Nat.log2_lt h).mpr (by omega)
  omega
def ahC (kd : Str) (d : Nat) : List Nat := if kd = Str.ofString "letters" then [] else if kd = Str.ofString "calls" then [43, 57] ++ fig d else if kd = Str.ofString "pages" then [47, 100, 111, 111, 114] ++ [97 + d] ++ [47] else [103, 45] ++ [97 + d] ++ [45]
def beC (kd : Str) (d : Nat) : List Nat := if kd = Str.ofString "letters" then [64, 100, 111, 111, 114] ++ [97 + d] else []
def nwC (kd : Str) (k : Nat) : List Nat := if kd = Str.ofString "letters" then kw k else if kd = Str.ofString "calls" then fig k else if kd = Str.ofString "pages" then kw k else joinS (tn k)
def ownC (kd : Str) (d k : Nat) : List Nat := ahC kd d ++ nwC kd k ++ beC kd d
theorem letter_at : ∀ d < 26, (Str.ofString "abcdefghijklmnopqrstuvwxyz").cps.toList[d]? = some (97 + d) := by decide +kernel
theorem tone_at : ∀ d < 7, (Str.ofString "abcdefg").cps.toList[d]? = some (97 + d) := by decide +kernel
theorem at_letter {i : Int} (h0 : 0 ≤ i) (h1 : i < 26) : atI (Str.ofString "abcdefghijklmnopqrstuvwxyz").cps.toList i = some (97 + i.toNat) := by
  have e : i = ((i.toNat : Nat) : Int) := by omega
  rw [e]
  exact atI_nat (letter_at _ (by omega))
theorem at_tone {i : Int} (h0 : 0 ≤ i) (h1 : i < 7) : atI (Str.ofString "abcdefg").cps.toList i = some (97 + i.toNat) := by
  have e : i = ((i.toNat : Nat) : Int) := by omega
  rw [e]
  exact atI_nat (tone_at _ (by omega))
theorem cdivS {a b : Int} (h0 : -1 ≤ a) (h1 : a ≤ 20000) (hb : b = 7 ∨ b = 26) : CDivW a b := by
  rcases hb with rfl | rfl <;> exact ⟨by omega, by decide⟩
theorem cdiv {a b : Int} (h0 : -1 ≤ a) (h1 : a ≤ 2401) (hb : b = 7 ∨ b = 26) : CDivW a b := by
  rcases hb with rfl | rfl <;> exact ⟨by omega, by decide⟩
theorem empty_mk : Str.empty = mk [] := rfl
theorem no_text : Str.ofString "" = mk [] := by decide +kernel
theorem l_atdoor : Str.ofString "@door" = mk [64, 100, 111, 111, 114] := by decide +kernel
theorem l_p9 : Str.ofString "+9" = mk [43, 57] := by decide +kernel
theorem l_sdoor : Str.ofString "/door" = mk [47, 100, 111, 111, 114] := by decide +kernel
theorem l_slash : Str.ofString "/" = mk [47] := by decide +kernel
theorem l_gd : Str.ofString "g-" = mk [103, 45] := by decide +kernel
theorem l_g : Str.ofString "g" = mk [103] := by decide +kernel
theorem l_d : Str.ofString "-" = mk [45] := by decide +kernel
theorem fig_str {k : Int} (h0 : 0 ≤ k) : Str.ofString (toString k) = mk (fig k.toNat) := by
  unfold fig
  rw [mk_cd, show ((k.toNat : Nat) : Int) = k by omega]
theorem ah_l (d : Nat) : ahC (Str.ofString "letters") d = [] := by unfold ahC; rw [if_pos rfl]
theorem ah_c (d : Nat) : ahC (Str.ofString "calls") d = [43, 57] ++ fig d := by unfold ahC; rw [if_neg (by decide +kernel), if_pos rfl]
theorem ah_p (d : Nat) : ahC (Str.ofString "pages") d = [47, 100, 111, 111, 114] ++ [97 + d] ++ [47] := by unfold ahC; rw [if_neg (by decide +kernel), if_neg (by decide +kernel), if_pos rfl]
theorem ah_s (d : Nat) : ahC (Str.ofString "sounds") d = [103, 45] ++ [97 + d] ++ [45] := by unfold ahC; rw [if_neg (by decide +kernel), if_neg (by decide +kernel), if_neg (by decide +kernel)]
theorem be_l (d : Nat) : beC (Str.ofString "letters") d = [64, 100, 111, 111, 114] ++ [97 + d] := by unfold beC; rw [if_pos rfl]
theorem be_c (d : Nat) : beC (Str.ofString "calls") d = [] := by unfold beC; rw [if_neg (by decide +kernel)]
theorem be_p (d : Nat) : beC (Str.ofString "pages") d = [] := by unfold beC; rw [if_neg (by decide +kernel)]
theorem be_s (d : Nat) : beC (Str.ofString "sounds") d = [] := by unfold beC; rw [if_neg (by decide +kernel)]
theorem nw_l (k : Nat) : nwC (Str.ofString "letters") k = kw k := by unfold nwC; rw [if_pos rfl]
theorem nw_c (k : Nat) : nwC (Str.ofString "calls") k = fig k := by unfold nwC; rw [if_neg (by decide +kernel), if_pos rfl]
theorem nw_p (k : Nat) : nwC (Str.ofString "pages") k = kw k := by unfold nwC; rw [if_neg (by decide +kernel), if_neg (by decide +kernel), if_pos rfl]
theorem nw_s (k : Nat) : nwC (Str.ofString "sounds") k = joinS (tn k) := by unfold nwC; rw [if_neg (by decide +kernel), if_neg (by decide +kernel), if_neg (by decide +kernel)]
theorem joinS_2 (x y : Nat) {l : List Nat} (h : 1 ≤ l.length) : joinS (x :: y :: l) = [x, 45, y, 45] ++ joinS l := by
  cases l with
  | nil => simp at h
  | cons z r => rfl
theorem door_word : ∀ d < 7, isWordC ([100, 111, 111, 114] ++ [97 + d]) = true := by decide +kernel
theorem ownC_ok {kd : Str} (hk : kd ∈ kindsL) {d k : Nat} (hd : d < 7) (h : k < 2401) : isNm kd (ownC kd d k) = true ∧ (ownC kd d k).length ≤ 40 := by
  obtain ⟨w1, w2⟩ := kw_word k h
  obtain ⟨t1, t2, t3⟩ := tn_ok k h
  obtain ⟨f1, f2, f3⟩ := fig_ok k h
  obtain ⟨g1, g2, g3⟩ := fig_ok d (by omega)
  have dw := door_word d hd
  unfold ownC
  rcases kinds4 hk with rfl | rfl | rfl | rfl
  · rw [nm_l, ah_l, nw_l, be_l]
    refine ⟨?_, by simp only [List.length_append, List.length_cons, List.length_nil]; omega⟩
    exact nmL_make w1 dw
  · rw [nm_c, ah_c, nw_c, be_c]
    have g4 : (fig d).length = 1 := by
      have : d = 0 ∨ d = 1 ∨ d = 2 ∨ d = 3 ∨ d = 4 ∨ d = 5 ∨ d = 6 := by omega
      rcases this with rfl | rfl | rfl | rfl | rfl | rfl | rfl <;> decide +kernel
    refine ⟨?_, by simp only [List.length_append, List.length_cons, List.length_nil]; omega⟩
    show nmC (43 :: (57 :: fig d ++ fig k ++ [])) = true
    rw [nmC_cons, List.append_nil]
    have e : (57 :: fig d ++ fig k).length = 1 + (fig d).length + (fig k).length := by rw [List.length_append, List.length_cons]; omega
    rw [e, decide_eq_true (rfl : (43 : Nat) = 43), decide_eq_true (by omega), decide_eq_true (by omega), List.all_append, List.all_cons, g1, f1]
    rfl
  · rw [nm_p, ah_p, nw_p, be_p]
    refine ⟨?_, by simp only [List.length_append, List.length_cons, List.length_nil]; omega⟩
    have := nmP_make (ws := [[100, 111, 111, 114] ++ [97 + d], kw k]) (by simp) (by simp) (fun w hw => by
      simp only [List.mem_cons, List.not_mem_nil, or_false] at hw
      rcases hw with rfl | rfl
      · exact dw
      · exact w1)
    simpa using this
  · rw [nm_s, ah_s, nw_s, be_s]
    have e : [103, 45] ++ [97 + d] ++ [45] ++ joinS (tn k) ++ [] = joinS (103 :: (97 + d) :: tn k) := by rw [joinS_2 _ _ t2]; simp
    rw [e]
    have hag : ag (97 + d) = true := by simp only [ag, Bool.and_eq_true, decide_eq_true_eq]; omega
    refine ⟨nmS_make (by simp) (by simp only [List.length_cons]; omega) (by rw [List.all_cons, List.all_cons, t1, hag]; rfl), ?_⟩
    rw [joinS_len]
    simp only [List.length_cons]
    omega
/-! sayings -/
inductive Pt where
  | leaf (w : Str) (h : List PyData)
  | grp (q : Bool) (ps : List Pt)
def gw (q : Bool) : Str := if q then Str.ofString "quote" else Str.ofString "loud"
mutual
def Pt.D : Pt → PyData
  | .leaf w h => .tuple (.str w :: h)
  | .grp q ps => .tuple [.str (gw q), .tuple (Pt.Ds ps)]
def Pt.Ds : List Pt → List PyData
  | [] => []
  | p :: r => p.D :: Pt.Ds r
end
mutual
def Pt.n : Pt → Nat
  | .leaf _ _ => 1
  | .grp _ ps => 1 + Pt.ns ps
def Pt.ns : List Pt → Nat
  | [] => 0
  | p :: r => p.n + Pt.ns r
end
mutual
def Pt.dp : Pt → Nat
  | .leaf _ _ => 1
  | .grp _ ps => 1 + Pt.dps ps
def Pt.dps : List Pt → Nat
  | [] => 0
  | p :: r => max p.dp (Pt.dps r)
end
inductive LeafOk (kd : Str) : Str → List PyData → Prop
  | word {l : List Nat} : isWordC l = true → LeafOk kd (Str.ofString "word") [.str (mk l)]
  | number {n : Int} : -1000000000 ≤ n → n ≤ 1000000000 → LeafOk kd (Str.ofString "number") [.int n]
  | name {l : List Nat} : isNm kd l = true → l.length ≤ 40 → LeafOk kd (Str.ofString "name") [.str (mk l)]
  | pause : LeafOk kd (Str.ofString "pause") []
  | picture {rows : List (List Nat)} {wd : Nat} : 1 ≤ rows.length → rows.length ≤ 6 → 1 ≤ wd → wd ≤ 8 → (∀ r ∈ rows, r.length = wd ∧ r.all dg = true) → LeafOk kd (Str.ofString "picture") [.tuple (rows.map fun r => .str (mk r))]
mutual
def Pt.Ok (kd : Str) : Pt → Prop
  | .leaf w h => LeafOk kd w h
  | .grp _ ps => ps ≠ [] ∧ Pt.Oks kd ps
def Pt.Oks (kd : Str) : List Pt → Prop
  | [] => True
  | p :: r => p.Ok kd ∧ Pt.Oks kd r
end
def Pt.inn : Pt → List Pt
  | .leaf _ _ => []
  | .grp _ ps => ps
def Pt.isG : Pt → Bool
  | .leaf _ _ => false
  | .grp _ _ => true
def Pt.hd : Pt → Str
  | .leaf w _ => w
  | .grp q _ => gw q
theorem Pt.Ds_map : ∀ ps : List Pt, Pt.Ds ps = ps.map Pt.D
  | [] => rfl
  | p :: r => by unfold Pt.Ds; rw [Pt.Ds_map r, List.map_cons]
theorem Pt.Ds_len (ps : List Pt) : (Pt.Ds ps).length = ps.length := by rw [Pt.Ds_map, List.length_map]
theorem Pt.Ds_app (a b : List Pt) : Pt.Ds (a ++ b) = Pt.Ds a ++ Pt.Ds b := by rw [Pt.Ds_map, Pt.Ds_map, Pt.Ds_map, List.map_append]
theorem Pt.ns_cons (p : Pt) (r : List Pt) : Pt.ns (p :: r) = p.n + Pt.ns r := rfl
theorem Pt.dps_cons (p : Pt) (r : List Pt) : Pt.dps (p :: r) = max p.dp (Pt.dps r) := rfl
theorem Pt.ns_app : ∀ a b : List Pt, Pt.ns (a ++ b) = Pt.ns a + Pt.ns b
  | [], b => by simp [Pt.ns]
  | p :: r, b => by rw [List.cons_append, Pt.ns_cons, Pt.ns_cons, Pt.ns_app r b]; omega
theorem Pt.dps_app : ∀ a b : List Pt, Pt.dps (a ++ b) = max (Pt.dps a) (Pt.dps b)
  | [], b => by simp [Pt.dps]
  | p :: r, b => by rw [List.cons_append, Pt.dps_cons, Pt.dps_cons, Pt.dps_app r b]; omega
theorem Pt.Oks_iff {kd : Str} : ∀ {ps : List Pt}, Pt.Oks kd ps ↔ ∀ p ∈ ps, p.Ok kd
  | [] => by simp [Pt.Oks]
  | p :: r => by unfold Pt.Oks; rw [Pt.Oks_iff]; simp
theorem Pt.Oks_app {kd : Str} {a b : List Pt} : Pt.Oks kd (a ++ b) ↔ Pt.Oks kd a ∧ Pt.Oks kd b := by
  rw [Pt.Oks_iff, Pt.Oks_iff, Pt.Oks_iff]
  simp only [List.mem_append]
  exact ⟨fun h => ⟨fun p hp => h p (.inl hp), fun p hp => h p (.inr hp)⟩, fun h p hp => hp.elim (h.1 p) (h.2 p)⟩
theorem Pt.n_pos : ∀ p : Pt, 1 ≤ p.n
  | .leaf _ _ => Nat.le_refl _
  | .grp _ ps => by unfold Pt.n; omega
theorem Pt.len_ns : ∀ ps : List Pt, ps.length ≤ Pt.ns ps
  | [] => by simp [Pt.ns]
  | p :: r => by have := Pt.len_ns r; have := p.n_pos; unfold Pt.ns; rw [List.length_cons]; omega
theorem Pt.dp_pos : ∀ p : Pt, 1 ≤ p.dp
  | .leaf _ _ => Nat.le_refl _
  | .grp _ ps => by unfold Pt.dp; omega
theorem Pt.dp_le {p : Pt} : ∀ {ps : List Pt}, p ∈ ps → p.dp ≤ Pt.dps ps
  | q :: r, h => by
    unfold Pt.dps
    rcases List.mem_cons.mp h with rfl | h
    · omega
    · have := Pt.dp_le h; omega
theorem Pt.n_le {p : Pt} : ∀ {ps : List Pt}, p ∈ ps → p.n ≤ Pt.ns ps
  | q :: r, h => by
    unfold Pt.ns
    rcases List.mem_cons.mp h with rfl | h
    · omega
    · have := Pt.n_le h; omega
theorem Pt.inn_dp (p : Pt) : Pt.dps p.inn + 1 ≤ p.dp := by
  cases p with
  | leaf => show 0 + 1 ≤ 1; omega
  | grp q ps => show Pt.dps ps + 1 ≤ 1 + Pt.dps ps; omega
theorem Pt.inn_n (p : Pt) : Pt.ns p.inn + 1 = p.n := by
  cases p with
  | leaf => rfl
  | grp q ps => show Pt.ns ps + 1 = 1 + Pt.ns ps; omega
theorem Pt.inn_ok {kd : Str} {p : Pt} (h : p.Ok kd) : Pt.Oks kd p.inn := by
  cases p with
  | leaf => exact trivial
  | grp q ps => exact h.2
theorem Pt.D_leaf (w : Str) (h : List PyData) : (Pt.leaf w h).D = .tuple (.str w :: h) := rfl
theorem Pt.D_grp (q : Bool) (ps : List Pt) : (Pt.grp q ps).D = .tuple [.str (gw q), .tuple (Pt.Ds ps)] := rfl
theorem leaf_noG {kd w : Str} {h : List PyData} (l : LeafOk kd w h) : (w == Str.ofString "loud") = false ∧ (w == Str.ofString "quote") = false := by
  cases l <;> decide +kernel
theorem gw_is (q : Bool) : ((gw q == Str.ofString "loud") || (gw q == Str.ofString "quote")) = true := by cases q <;> decide +kernel
theorem Pt.isG_by {kd : Str} {p : Pt} (h : p.Ok kd) : ((p.hd == Str.ofString "loud") || (p.hd == Str.ofString "quote")) = p.isG := by
  cases p with
  | leaf w l => have := leaf_noG h; show (w == _ || w == _) = false; rw [this.1, this.2]; rfl
  | grp q ps => exact gw_is q
theorem Pt.D_shape : ∀ p : Pt, ∃ r, p.D = .tuple (.str p.hd :: r) ∧ (p.isG = true → r = [.tuple (Pt.Ds p.inn)])
  | .leaf w h => ⟨h, rfl, fun z => by cases z⟩
  | .grp q ps => ⟨_, rfl, fun _ => rfl⟩
/-! what can be looked at whole -/
structure DOk (d : PyData) (b : Nat) : Prop where
  plain : d.plain = true
  show_ : d.showable = true
  short : d.leavesShort 40 = true
  bulk : d.bulk ≤ b
  depth : d.depth ≤ 50
theorem nm_lt {kd : Str} {l : List Nat} (h : isNm kd l = true) : ∀ c ∈ l, c < 128 := by
  have hw : ∀ {w : List Nat}, isWordC w = true → ∀ c ∈ w, c < 128 := fun hw c hc => by
    simp only [isWordC, Bool.and_eq_true, List.all_eq_true] at hw
    have := az_lt (hw.2 c hc); omega
  unfold isNm at h
  split at h
  · unfold nmL at h
    split at h
    · cases h
    · rename_i p q e
      obtain ⟨e2, _⟩ := cut_some e
      rw [Bool.and_eq_true] at h
      rw [e2]
      intro c hc
      simp only [List.mem_append, List.mem_cons] at hc
      rcases hc with hc | hc | hc
      · exact hw h.1 c hc
      · omega
      · exact hw h.2 c hc
  · split at h
    · unfold nmC at h
      split at h
      · cases h
      · rename_i x r
        simp only [Bool.and_eq_true, decide_eq_true_eq, List.all_eq_true] at h
        intro c hc
        rcases List.mem_cons.mp hc with rfl | hc
        · omega
        · have := h.2 c hc
          simp only [dg, Bool.and_eq_true, decide_eq_true_eq] at this
          omega
    · split at h
      · have key : ∀ (m : List Nat), (∀ p ∈ sp1 47 m, ∀ c ∈ p, c < 128) → ∀ c ∈ m, c < 128 := by
          intro m
          induction m with
          | nil => intro _ c hc; cases hc
          | cons x r ih =>
            intro hm c hc
            by_cases hx : x = 47
            · rw [sp1_hit hx] at hm
              rcases List.mem_cons.mp hc with rfl | hc
              · omega
              · exact ih (fun p hp => hm p (List.mem_cons_of_mem _ hp)) c hc
            · cases e : sp1 47 r with
              | nil => exact absurd e (sp1_ne _ _)
              | cons p ps =>
                rw [sp1_miss hx e] at hm
                rcases List.mem_cons.mp hc with rfl | hc
                · exact hm _ List.mem_cons_self _ List.mem_cons_self
                · refine ih (fun p' hp' => ?_) c hc
                  rw [e] at hp'
                  rcases List.mem_cons.mp hp' with rfl | hp'
                  · intro d hd; exact hm _ List.mem_cons_self d (List.mem_cons_of_mem _ hd)
                  · exact hm p' (List.mem_cons_of_mem _ hp')
        refine key l ?_
        unfold nmP at h
        split at h
        · cases h
        · rename_i p ps e
          rw [e]
          simp only [Bool.and_eq_true, decide_eq_true_eq, List.all_eq_true] at h
          intro p' hp' c hc
          rcases List.mem_cons.mp hp' with rfl | hp'
          · rw [h.1.1.1] at hc; cases hc
          · exact hw (h.2 p' hp') c hc
      · have key : ∀ m : List Nat, snd m = true → ∀ c ∈ m, c < 128 := by
          intro m
          induction m using snd.induct with
          | case1 => intro h; cases h
          | case2 x => intro h c hc; rw [List.mem_singleton.mp hc]; have h : ag x = true := h; simp only [ag, Bool.and_eq_true, decide_eq_true_eq] at h; omega
          | case3 x y r ih =>
            intro h c hc
            simp only [snd, ag, Bool.and_eq_true, decide_eq_true_eq] at h
            simp only [List.mem_cons] at hc
            rcases hc with rfl | rfl | hc
            · omega
            · omega
            · exact ih h.2 c hc
        unfold nmS at h
        simp only [Bool.and_eq_true] at h
        exact key l h.1.1
theorem short_str {l : List Nat} (h : ∀ c ∈ l, c < 128) : (PyData.str (mk l)).leavesShort 40 = true := by
  simp only [PyData.leavesShort, List.all_eq_true, decide_eq_true_eq]
  intro c hc
  have hc : c ∈ cd (mk l) := hc
  rw [cd_mk] at hc
  have := h c hc
  have e : (16 : Nat) ^ 8 = 4294967296 := by decide
  omega
theorem bulk_str (l : List Nat) : (PyData.str (mk l)).bulk = l.length := by
  show (mk l).cps.size = _
  rw [← Array.length_toList]
theorem ok_lit {w : Str} (h : w.cps.toList.all (· < 128) = true) : DOk (.str w) w.length := by
  refine ⟨rfl, rfl, ?_, Nat.le_refl _, by simp [PyData.depth]⟩
  simp only [PyData.leavesShort, List.all_eq_true, decide_eq_true_eq] at h ⊢
  intro c hc
  have := h c hc
  have e : (16 : Nat) ^ 8 = 4294967296 := by decide
  omega
theorem int_text_len_1921' (n : Int) (h0 : -1000000000 ≤ n) (h1 : n ≤ 1000000000) : (PyData.int n).shown.length ≤ 40 := by
  have e1 := int_text_length_le10 (a := n) (k := 10) (by decide) (by omega)
  have e : (PyData.int n).shown.length = (toString n).length := by
    exact PySem.ofString_length _
  omega
theorem shown_int {n : Int} (h0 : -1000000000 ≤ n) (h1 : n ≤ 1000000000) : (PyData.int n).leavesShort 40 = true ∧ (PyData.int n).showable = true := by
  have hb : n.natAbs < 2 ^ 30 := by omega
  refine ⟨?_, ?_⟩
  · simp only [PyData.leavesShort, decide_eq_true_eq]
    have := int_text_len_1921' n h0 h1
    exact this
  · simp only [PyData.showable, decide_eq_true_eq]
    by_cases hz : n.natAbs = 0
    · rw [hz]; decide
    · have := (Nat.log2_lt hz).2 hb
      omega
theorem DOk.mono {d : PyData} {b b' : Nat} (h : DOk d b) (l : b ≤ b') : DOk d b' := ⟨h.plain, h.show_, h.short, Nat.le_trans h.bulk l, h.depth⟩
structure DOks (ds : List PyData) (b dpt : Nat) : Prop where
  plain : PyData.plainAll ds = true
  show_ : PyData.showableAll ds = true
  short : PyData.leavesShortAll 40 ds = true
  bulk : PyData.bulkAll ds ≤ b
  depth : PyData.depthAll ds ≤ dpt
structure DOkD (d : PyData) (b dpt : Nat) : Prop where
  plain : d.plain = true
  show_ : d.showable = true
  short : d.leavesShort 40 = true
  bulk : d.bulk ≤ b
  depth : d.depth ≤ dpt
theorem DOks.nil {b dpt : Nat} : DOks [] b dpt := ⟨rfl, rfl, rfl, Nat.zero_le _, Nat.zero_le _⟩
theorem DOks.cons {d : PyData} {ds : List PyData} {b b' dpt : Nat} (h : DOkD d b dpt) (t : DOks ds b' dpt) : DOks (d :: ds) (b + 1 + b') dpt := by
  refine ⟨?_, ?_, ?_, ?_, ?_⟩
  · simp only [PyData.plainAll, h.plain, t.plain, Bool.and_self]
  · simp only [PyData.showableAll, h.show_, t.show_, Bool.and_self]
  · simp only [PyData.leavesShortAll, h.short, t.short, Bool.and_self]
  · have := h.bulk; have := t.bulk; simp only [PyData.bulkAll]; omega
  · have := h.depth; have := t.depth; simp only [PyData.depthAll]; omega
theorem DOks.tup {ds : List PyData} {b dpt : Nat} (h : DOks ds b dpt) : DOkD (.tuple ds) b (dpt + 1) :=
  ⟨by simpa [PyData.plain] using h.plain, by simpa [PyData.showable] using h.show_, by simpa [PyData.leavesShort] using h.short, by simpa [PyData.bulk] using h.bulk, by have := h.depth; simp only [PyData.depth]; omega⟩
theorem DOks.lst {ds : List PyData} {b dpt : Nat} (h : DOks ds b dpt) : DOkD (.list ds) b (dpt + 1) :=
  ⟨by simpa [PyData.plain] using h.plain, by simpa [PyData.showable] using h.show_, by simpa [PyData.leavesShort] using h.short, by simpa [PyData.bulk] using h.bulk, by have := h.depth; simp only [PyData.depth]; omega⟩
theorem DOks.mono {ds : List PyData} {b b' d d' : Nat} (h : DOks ds b d) (l : b ≤ b') (l2 : d ≤ d') : DOks ds b' d' := ⟨h.plain, h.show_, h.short, Nat.le_trans h.bulk l, Nat.le_trans h.depth l2⟩
theorem DOkD.mono {ds : PyData} {b b' d d' : Nat} (h : DOkD ds b d) (l : b ≤ b') (l2 : d ≤ d') : DOkD ds b' d' := ⟨h.plain, h.show_, h.short, Nat.le_trans h.bulk l, Nat.le_trans h.depth l2⟩
theorem okd_str {l : List Nat} (h : ∀ c ∈ l, c < 128) (dpt : Nat) : DOkD (.str (mk l)) l.length dpt := ⟨rfl, rfl, short_str h, by rw [bulk_str]; exact Nat.le_refl _, by simp [PyData.depth]⟩
theorem okd_int {n : Int} (h0 : -1000000000 ≤ n) (h1 : n ≤ 1000000000) (dpt : Nat) : DOkD (.int n) 0 dpt := ⟨rfl, (shown_int h0 h1).2, (shown_int h0 h1).1, Nat.le_refl _, by simp [PyData.depth]⟩
theorem okd_lit {w : Str} (h : w.cps.toList.all (· < 128) = true) (dpt : Nat) : DOkD (.str w) w.length dpt := by
  have := ok_lit h
  exact ⟨this.plain, this.show_, this.short, this.bulk, by simp [PyData.depth]⟩
theorem oks_strs {rows : List (List Nat)} {wd : Nat} (h : ∀ r ∈ rows, r.length = wd ∧ r.all dg = true) (dpt : Nat) : DOks (rows.map fun r => PyData.str (mk r)) (rows.length * (wd + 1)) dpt := by
  induction rows with
  | nil => exact .nil
  | cons r rs ih =>
    have h1 := h r List.mem_cons_self
    have hd : ∀ c ∈ r, c < 128 := fun c hc => by
      have := List.all_eq_true.mp h1.2 c hc
      simp only [dg, Bool.and_eq_true, decide_eq_true_eq] at this; omega
    have := DOks.cons (okd_str hd dpt) (ih fun x hx => h x (List.mem_cons_of_mem _ hx))
    refine DOks.mono this ?_ (Nat.le_refl _)
    rw [h1.1, List.length_cons, Nat.add_mul]
    omega
theorem leaf_ok {kd w : Str} {h : List PyData} (l : LeafOk kd w h) : DOkD (.tuple (.str w :: h)) 110 2 := by
  have az128 : ∀ {l : List Nat}, isWordC l = true → (∀ c ∈ l, c < 128) ∧ l.length ≤ 8 := fun hw => by
    simp only [isWordC, Bool.and_eq_true, List.all_eq_true, decide_eq_true_eq] at hw
    exact ⟨fun c hc => by have := az_lt (hw.2 c hc); omega, hw.1.2⟩
  have lw : ∀ {w : Str}, w.cps.toList.all (· < 128) = true → w.length ≤ 10 → DOkD (.str w) 10 1 := fun h l => (okd_lit h 1).mono l (Nat.le_refl _)
  cases l with
  | word hw => exact (DOks.tup (.cons (lw (by decide +kernel) (by decide +kernel)) (.cons (okd_str (az128 hw).1 1) .nil (b' := 0)))).mono (by have := (az128 hw).2; omega) (by omega)
  | number h0 h1 => exact (DOks.tup (.cons (lw (by decide +kernel) (by decide +kernel)) (.cons (okd_int h0 h1 1) .nil (b' := 0)))).mono (by omega) (by omega)
  | name hn hl => exact (DOks.tup (.cons (lw (by decide +kernel) (by decide +kernel)) (.cons (okd_str (nm_lt hn) 1) .nil (b' := 0)))).mono (by omega) (by omega)
  | pause => exact (DOks.tup (.cons (lw (by decide +kernel) (by decide +kernel)) .nil (b' := 0))).mono (by omega) (by omega)
  | @picture rows wd h1 h6 w1 w8 hr =>
    have hb : rows.length * (wd + 1) ≤ 6 * 9 := Nat.mul_le_mul h6 (by omega)
    exact (DOks.tup (.cons (lw (by decide +kernel) (by decide +kernel)) (.cons (DOks.tup (oks_strs hr 0)) .nil (b' := 0)))).mono (by omega) (by omega)
mutual
theorem Pt.okd {kd : Str} : ∀ p : Pt, p.Ok kd → DOkD p.D (121 * p.n - 1) (2 * p.dp)
  | .leaf w h, l => (leaf_ok l).mono (by show 110 ≤ 121 * 1 - 1; omega) (Nat.le_refl _)
  | .grp q ps, l => by
    have h1 := Pt.okds ps l.2
    have lw : DOkD (.str (gw q)) 10 (2 * Pt.dps ps + 1) := (okd_lit (by cases q <;> decide +kernel) _).mono (by cases q <;> decide +kernel) (Nat.le_refl _)
    have := DOks.tup (.cons lw (.cons (DOks.tup h1) .nil (b' := 0)))
    exact this.mono (by show _ ≤ 121 * (1 + Pt.ns ps) - 1; omega) (by show _ ≤ 2 * (1 + Pt.dps ps); omega)
theorem Pt.okds {kd : Str} : ∀ ps : List Pt, Pt.Oks kd ps → DOks (Pt.Ds ps) (121 * Pt.ns ps) (2 * Pt.dps ps)
  | [], _ => .nil
  | p :: r, l => by
    have h1 := Pt.okd p l.1
    have h2 := Pt.okds r l.2
    have hp := p.n_pos
    have := DOks.cons (h1.mono (Nat.le_refl _) (d' := 2 * Pt.dps (p :: r)) (by rw [Pt.dps_cons]; omega)) (h2.mono (Nat.le_refl _) (by rw [Pt.dps_cons]; omega))
    exact this.mono (by show _ ≤ 121 * (p.n + Pt.ns r); omega) (Nat.le_refl _)
end
theorem okd_shown {d : PyData} {b dpt : Nat} (h : DOkD d b dpt) (hb : b ≤ 300000) : d.shown.length ≤ sizeLine := by
  have := PyData.shown_le_bulk 40 (by decide) d h.short
  have := h.bulk
  rw [sizeLit]
  omega
theorem repr_tup {ds : List PyData} {b dpt : Nat} {μ : M} {R : DQ} (h : DOks ds b dpt) (hb : b ≤ 300000) (hd : dpt ≤ 50) (q : R (.d (.str (PyData.shown (.tuple ds)))) μ) : reprD [.d (.tuple ds)] μ R := by
  have t := h.tup
  exact ⟨h.plain, t.show_, by have := t.depth; omega, okd_shown t hb, q⟩
theorem repr_lst {ds : List PyData} {b dpt : Nat} {μ : M} {R : DQ} (h : DOks ds b dpt) (hb : b ≤ 300000) (hd : dpt ≤ 50) (q : R (.d (.str (PyData.shown (.list ds)))) μ) : reprD [.d (.list ds)] μ R := by
  have t := h.lst
  exact ⟨h.plain, t.show_, by have := t.depth; omega, okd_shown t hb, q⟩
theorem eqv_self {d : PyData} (h : d.plain = true) : PyData.eqv d d = true := PySem.SeqAt.eqv_refl_plain _ h
theorem wq_word_word : PyData.eqv (.str (Str.ofString "word")) (.str (Str.ofString "word")) = true := by rw [eqv_str]; decide +kernel
theorem wq_word_number : PyData.eqv (.str (Str.ofString "word")) (.str (Str.ofString "number")) = false := by rw [eqv_str]; decide +kernel
theorem wq_word_name : PyData.eqv (.str (Str.ofString "word")) (.str (Str.ofString "name")) = false := by rw [eqv_str]; decide +kernel
theorem wq_word_pause : PyData.eqv (.str (Str.ofString "word")) (.str (Str.ofString "pause")) = false := by rw [eqv_str]; decide +kernel
theorem wq_word_picture : PyData.eqv (.str (Str.ofString "word")) (.str (Str.ofString "picture")) = false := by rw [eqv_str]; decide +kernel
theorem wq_word_loud : PyData.eqv (.str (Str.ofString "word")) (.str (Str.ofString "loud")) = false := by rw [eqv_str]; decide +kernel
theorem wq_word_quote : PyData.eqv (.str (Str.ofString "word")) (.str (Str.ofString "quote")) = false := by rw [eqv_str]; decide +kernel
theorem wq_number_word : PyData.eqv (.str (Str.ofString "number")) (.str (Str.ofString "word")) = false := by rw [eqv_str]; decide +kernel
theorem wq_number_number : PyData.eqv (.str (Str.ofString "number")) (.str (Str.ofString "number")) = true := by rw [eqv_str]; decide +kernel
theorem wq_number_name : PyData.eqv (.str (Str.ofString "number")) (.str (Str.ofString "name")) = false := by rw [eqv_str]; decide +kernel
theorem wq_number_pause : PyData.eqv (.str (Str.ofString "number")) (.str (Str.ofString "pause")) = false := by rw [eqv_str]; decide +kernel
theorem wq_number_picture : PyData.eqv (.str (Str.ofString "number")) (.str (Str.ofString "picture")) = false := by rw [eqv_str]; decide +kernel
theorem wq_number_loud : PyData.eqv (.str (Str.ofString "number")) (.str (Str.ofString "loud")) = false := by rw [eqv_str]; decide +kernel
theorem wq_number_quote : PyData.eqv (.str (Str.ofString "number")) (.str (Str.ofString "quote")) = false := by rw [eqv_str]; decide +kernel
theorem wq_name_word : PyData.eqv (.str (Str.ofString "name")) (.str (Str.ofString "word")) = false := by rw [eqv_str]; decide +kernel
theorem wq_name_number : PyData.eqv (.str (Str.ofString "name")) (.str (Str.ofString "number")) = false := by rw [eqv_str]; decide +kernel
theorem wq_name_name : PyData.eqv (.str (Str.ofString "name")) (.str (Str.ofString "name")) = true := by rw [eqv_str]; decide +kernel
theorem wq_name_pause : PyData.eqv (.str (Str.ofString "name")) (.str (Str.ofString "pause")) = false := by rw [eqv_str]; decide +kernel
theorem wq_name_picture : PyData.eqv (.str (Str.ofString "name")) (.str (Str.ofString "picture")) = false := by rw [eqv_str]; decide +kernel
theorem wq_name_loud : PyData.eqv (.str (Str.ofString "name")) (.str (Str.ofString "loud")) = false := by rw [eqv_str]; decide +kernel
theorem wq_name_quote : PyData.eqv (.str (Str.ofString "name")) (.str (Str.ofString "quote")) = false := by rw [eqv_str]; decide +kernel
theorem wq_pause_word : PyData.eqv (.str (Str.ofString "pause")) (.str (Str.ofString "word")) = false := by rw [eqv_str]; decide +kernel
theorem wq_pause_number : PyData.eqv (.str (Str.ofString "pause")) (.str (Str.ofString "number")) = false := by rw [eqv_str]; decide +kernel
theorem wq_pause_name : PyData.eqv (.str (Str.ofString "pause")) (.str (Str.ofString "name")) = false := by rw [eqv_str]; decide +kernel
theorem wq_pause_pause : PyData.eqv (.str (Str.ofString "pause")) (.str (Str.ofString "pause")) = true := by rw [eqv_str]; decide +kernel
theorem wq_pause_picture : PyData.eqv (.str (Str.ofString "pause")) (.str (Str.ofString "picture")) = false := by rw [eqv_str]; decide +kernel
theorem wq_pause_loud : PyData.eqv (.str (Str.ofString "pause")) (.str (Str.ofString "loud")) = false := by rw [eqv_str]; decide +kernel
theorem wq_pause_quote : PyData.eqv (.str (Str.ofString "pause")) (.str (Str.ofString "quote")) = false := by rw [eqv_str]; decide +kernel
theorem wq_picture_word : PyData.eqv (.str (Str.ofString "picture")) (.str (Str.ofString "word")) = false := by rw [eqv_str]; decide +kernel
theorem wq_picture_number : PyData.eqv (.str (Str.ofString "picture")) (.str (Str.ofString "number")) = false := by rw [eqv_str]; decide +kernel
theorem wq_picture_name : PyData.eqv (.str (Str.ofString "picture")) (.str (Str.ofString "name")) = false := by rw [eqv_str]; decide +kernel
theorem wq_picture_pause : PyData.eqv (.str (Str.ofString "picture")) (.str (Str.ofString "pause")) = false := by rw [eqv_str]; decide +kernel
theorem wq_picture_picture : PyData.eqv (.str (Str.ofString "picture")) (.str (Str.ofString "picture")) = true := by rw [eqv_str]; decide +kernel
theorem wq_picture_loud : PyData.eqv (.str (Str.ofString "picture")) (.str (Str.ofString "loud")) = false := by rw [eqv_str]; decide +kernel
theorem wq_picture_quote : PyData.eqv (.str (Str.ofString "picture")) (.str (Str.ofString "quote")) = false := by rw [eqv_str]; decide +kernel
theorem wq_loud_word : PyData.eqv (.str (Str.ofString "loud")) (.str (Str.ofString "word")) = false := by rw [eqv_str]; decide +kernel
theorem wq_loud_number : PyData.eqv (.str (Str.ofString "loud")) (.str (Str.ofString "number")) = false := by rw [eqv_str]; decide +kernel
theorem wq_loud_name : PyData.eqv (.str (Str.ofString "loud")) (.str (Str.ofString "name")) = false := by rw [eqv_str]; decide +kernel
theorem wq_loud_pause : PyData.eqv (.str (Str.ofString "loud")) (.str (Str.ofString "pause")) = false := by rw [eqv_str]; decide +kernel
theorem wq_loud_picture : PyData.eqv (.str (Str.ofString "loud")) (.str (Str.ofString "picture")) = false := by rw [eqv_str]; decide +kernel
theorem wq_loud_loud : PyData.eqv (.str (Str.ofString "loud")) (.str (Str.ofString "loud")) = true := by rw [eqv_str]; decide +kernel
theorem wq_loud_quote : PyData.eqv (.str (Str.ofString "loud")) (.str (Str.ofString "quote")) = false := by rw [eqv_str]; decide +kernel
theorem wq_quote_word : PyData.eqv (.str (Str.ofString "quote")) (.str (Str.ofString "word")) = false := by rw [eqv_str]; decide +kernel
theorem wq_quote_number : PyData.eqv (.str (Str.ofString "quote")) (.str (Str.ofString "number")) = false := by rw [eqv_str]; decide +kernel
theorem wq_quote_name : PyData.eqv (.str (Str.ofString "quote")) (.str (Str.ofString "name")) = false := by rw [eqv_str]; decide +kernel
theorem wq_quote_pause : PyData.eqv (.str (Str.ofString "quote")) (.str (Str.ofString "pause")) = false := by rw [eqv_str]; decide +kernel
theorem wq_quote_picture : PyData.eqv (.str (Str.ofString "quote")) (.str (Str.ofString "picture")) = false := by rw [eqv_str]; decide +kernel
theorem wq_quote_loud : PyData.eqv (.str (Str.ofString "quote")) (.str (Str.ofString "loud")) = false := by rw [eqv_str]; decide +kernel
theorem wq_quote_quote : PyData.eqv (.str (Str.ofString "quote")) (.str (Str.ofString "quote")) = true := by rw [eqv_str]; decide +kernel
theorem any_groups {kd : Str} {p : Pt} (hp : Pt.Ok kd p) : ([PyData.str (Str.ofString "loud"), PyData.str (Str.ofString "quote")].any fun z => PyData.eqv z (.str p.hd)) = p.isG := by
  rw [List.any_cons, List.any_cons, List.any_nil, eqv_str, eqv_str, Bool.or_false, BEq.comm, BEq.comm (a := Str.ofString "quote"), Pt.isG_by hp]
end DL

set_option Elab.async false
set_option linter.all false
set_option maxRecDepth 100000
set_option maxHeartbeats 2000000
/-! a changing dict == {} -/
namespace DL
open PySem PySem.Spec PyProof.Rows L2
section
variable {X : Cx}
def rEqDE : R2 := fun x y H Q => ∃ a b ks, x = .ref a ∧ y = .ref b ∧ H a = some (.dK ks) ∧ H b = some (.dK []) ∧ Q (.bl (ks.length == 0)) H
theorem op_eqDE (hu : X.A.units + 100 < cLine) : OpR X (compareOp .Eq) rEqDE := by
  intro pins s σ H x y v u Q I rx ry h
  obtain ⟨a, b, ks, rfl, rfl, ea, eb, q⟩ := h
  obtain rfl : v = Value.ref a := rx
  obtain rfl : u = Value.ref b := ry
  obtain ⟨_, ya, va, ra, da⟩ := (show ObjOk X.prog X.w H s.heap a (.dK ks) from I.hok a _ ea)
  obtain ⟨_, yb, vb, rb, db⟩ := (show ObjOk X.prog X.w H s.heap b (.dK []) from I.hok b _ eb)
  have lb : vb.length = 0 := rb.length.symm
  refine PySem.W.rcP_dicts (knd := mixKind X.prog X.w) (r := true) ya yb da db (by omega) (fun e => ?_) _ _ ?_
  · cases va with
    | nil => exact .nil
    | cons z zs => rw [lb] at e; simp at e
  · refine ⟨.bl _, H, I, rfl, ?_⟩
    rw [lb, ← ra.length, Bool.and_true]
    exact q
def eqDE : D2 := fun x y μ R => match x, y with
  | .v (.ref a), .v (.ref b) => onS (μ a) fun m => match m with
    | .dct ks => μ b = some (.dct []) ∧ R (.d (.bool (ks.length == 0))) μ
    | _ => False
  | _, _ => False
theorem l_eqDE {K : PySem.W.Frag} : Lift2 K rEqDE eqDE := by
  intro F H G μ x y wx wy R Q c rx ry h fin
  unfold eqDE at h
  split at h
  · rename_i a b
    obtain ⟨m, em, h⟩ := onS_ok h
    split at h
    · rename_i ks
      obtain ⟨eb, h⟩ := h
      cases (show x = .ref a from rx)
      cases (show y = .ref b from ry)
      obtain ⟨_, _, _, ho, vs, rfl, kv⟩ := c.mu a _ em
      obtain ⟨_, _, _, ho2, vs2, rfl, kv2⟩ := c.mu b _ eb
      cases kv2
      refine ⟨a, b, vs, rfl, rfl, ho, ho2, ?_⟩
      rw [kv_len kv]
      exact fin.flat c h (.bl _)
    · exact h.elim
  · exact h.elim
theorem q_eqDE {a b : Addr} {μ : M} {R : DQ} : eqDE (.v (.ref a)) (.v (.ref b)) μ R = onS (μ a) fun m => match m with
    | .dct ks => μ b = some (.dct []) ∧ R (.d (.bool (ks.length == 0))) μ
    | _ => False := rfl
theorem q_reprXN {μ : M} {R : DQ} : reprX [.d .none] μ R = R (.d (.str (Str.ofString "None"))) μ := rfl
end
end DL
namespace DL
open PySem PySem.Spec PyProof.Rows L2
section
variable {X : Cx} {o e : Expr} {apos cpos : Pos}
/-- d.get(k) -/
def tDGet0 (td ty : DTE) : DTE := fun ρ μ R => td ρ μ fun x μ1 => dctAt x μ1 fun a _ => ty ρ μ1 fun y μ2 => dctAt (.v (.ref a)) μ2 fun _ kvs => onS (keyW y) fun k => R ((valW kvs k).getD (.d .none)) μ2
theorem de_dget0 {td ty : DTE} (hu : X.A.units + 1 < cLine) (ho : DE X o td) (hi : DE X e ty) (m : M1 X o "get" apos e cpos) : DE X (.Call (.Attribute o "get" apos) [e] [] cpos) (tDGet0 td ty) :=
  ⟨PE_mono (pe_dget1 hu ho.pe hi.pe m) fun σ H Q ⟨F, ρ, μ, G, R, c, rs, h, fin⟩ => lE_go c rs h fun wx μ1 F1 H1 x r1 s1 c1 q1 => by
    obtain ⟨a, kvs, rfl, em, h⟩ := dctAt_ok r1
    cases (show x = .ref a from q1)
    obtain ⟨_, _, _, ho1, vs1, rfl, kv1⟩ := c1.mu a _ em
    refine ⟨a, rfl, .inl ⟨vs1, .inl ho1⟩, lE_go c1 (rs.mono s1) h fun wy μ2 F2 H2 y r2 s2 c2 q2 => ?_⟩
    obtain ⟨a', kvs, ea, em, h⟩ := dctAt_ok r2
    cases ea
    obtain ⟨k, ek, h⟩ := onS_ok h
    have ey := key_kV ek q2
    subst ey
    obtain ⟨_, _, _, ho2, vs, rfl, kv⟩ := c2.mu a _ em
    refine ⟨_, DGet.k ho2, ?_⟩
    cases ew : valW kvs k with
    | some w =>
      obtain ⟨v, ev, rv⟩ := (kv_val kv).1 w ew
      rw [ew] at h
      rw [ev]
      exact fin _ _ _ _ _ h (s1.trans s2) c2 rv
    | none =>
      rw [(kv_val kv).2 ew]
      rw [ew] at h
      exact fin _ _ _ _ _ h (s1.trans s2) c2 .non⟩
end
end DL

set_option Elab.async false
set_option linter.all false
set_option maxRecDepth 100000
set_option maxHeartbeats 2000000
/-! exceptions over data: what a def lets out, raise, try .. except X as e with the exception held as a value, isinstance of it -/
namespace DL
open PySem PySem.Spec PyProof.Rows L2

/-! ### an exception that is caught is tracked -/
section
variable {X : Cx} {pins : List (Addr × Obj)} {σ : L2.St} {H : Hp} {s : Shared}
theorem exH_ok {P : Program} {w : World} {H : Hp} {h : Heap} {a : Addr} {cls : Value} {d : Option Addr} {oe : Obj} {vs : Array Value} (e : h.get? a = some oe) (z : Zc cls d oe) (dd : oe.data = .fields vs) : ObjOk P w H h a (ExH cls d a) :=
  ⟨⟨oe, vs, e, z, dd⟩, ⟨oe, e⟩, fun _ _ ⟨o, v, q, r⟩ k => ⟨o, v, k o q, r⟩⟩
theorem Inv.trackX (I : Inv X pins σ H s) {a : Addr} {oe : Obj} {vs : Array Value} {cls : Value} {d : Option Addr} (ha : s.heap.get? a = some oe) (hz : Zc cls d oe) (hd : oe.data = .fields vs) (na : H a = none) (n0 : X.s_0.heap.get? a = none) (nP : ∀ p ∈ X.pn ++ pins, p.1 ≠ a) (nL : a ≠ X.env.locals) :
    Inv X pins σ (upd H a (ExH cls d a)) s := by
  have ne0 : ∀ b o, X.s_0.heap.get? b = some o → b ≠ a := fun b o e z => by rw [z, n0] at e; cases e
  have neH : ∀ b o, H b = some o → b ≠ a := fun b o e z => by rw [z, na] at e; cases e
  refine ⟨I.ok, I.os, I.bare, ⟨I.base.keep, I.base.slot, fun b o e n hq => ?_, I.base.there, fun b xs e => ?_, fun b o u e => ?_, fun b ps e => ?_⟩, I.loc, I.cell, ?_, fun x c e => ?_, fun p hp => ?_, fun b u e => ?_, I.len⟩
  · rw [upd_ne (ne0 b o e)]; exact I.base.free b o e n hq
  · have q := I.base.tups b xs e
    rw [upd_ne (neH b _ q)]; exact q
  · have q := I.base.frzs b o u e
    rw [upd_ne (neH b _ q)]; exact q
  · obtain ⟨m, q⟩ := I.base.tbls b ps e
    exact ⟨m, by rw [upd_ne (neH b _ q)]; exact q⟩
  · rw [upd_ne (Ne.symm nL)]; exact I.free
  · have hc : c ≠ a := fun z => by
      obtain ⟨v, o, ho, hv⟩ := I.cell x c e
      rw [z, ha] at ho
      cases ho
      rw [hd] at hv
      cases hv
    rw [upd_ne hc]; exact I.freeC x c e
  · obtain ⟨e, n, r⟩ := I.pin p hp
    exact ⟨e, by rw [upd_ne (nP p hp)]; exact n, r⟩
  · by_cases hb : b = a
    · subst hb
      rw [upd_same] at e
      cases e
      exact exH_ok ha hz hd
    · rw [upd_ne hb] at e
      exact (I.hok b u e).stay (fun c v _ q => q) (fun c q => by rw [upd_ne (neH c _ q)]; exact q) fun c xs q => by rw [upd_ne (neH c _ q)]; exact q
theorem Inv.suiteT (I : Inv X pins σ H s) (a : Addr) : Inv (X.suite a (X.pn ++ pins)) [] σ H s :=
  ⟨I.ok.suite _ _, I.os, I.bare, I.base, I.loc, I.cell, I.free, I.freeC, fun p hp => I.pin p (by rw [List.append_nil] at hp; exact hp), I.hok, I.len⟩
theorem Inv.unsuiteT {a : Addr} {pn' : List (Addr × Obj)} (I : Inv (X.suite a (X.pn ++ pins)) pn' σ H s) (ok : X.Ok) : Inv X pins σ H s :=
  ⟨ok, I.os, I.bare, I.base, I.loc, I.cell, I.free, I.freeC, fun p hp => I.pin p (List.mem_append_left _ hp), I.hok, I.len⟩
end
/-- what the clause wishes of an exception of the body, the exception tracked -/
def wAsT (K : PySem.W.Frag) (c : Value) (i : Nat) (ts : TS) (Wout : WX) (D : Ends) : WX := fun cls d σ H =>
  ∃ b, PySem.W.exmOne K cls c = some b ∧ (b = true → ∀ a, H a = none → ts { nx := fun σ' H' => D.nx (σ'.set i none) H', rt := D.rt, bk := fun σ' H' => D.bk (σ'.set i none) H', ct := fun σ' H' => D.ct (σ'.set i none) H' } (σ.set i (some (.ref a))) (upd H a (ExH cls d a))) ∧
    (b = false → Wout cls d σ H)
section
variable {X : Cx} {x n : Str} {c : Value} {i : Nat} {body suite : List Stmt} {b₀ : Stmt} {np pos pos' : Pos} {tb : WX → TS} {ts : TS} {Wout : WX}
theorem ps_try_asT (hs : X.stack = X.env :: X.outer) (hf : X.env.frame = some X.env.locals) (hN : X.N.Nodup) (hi : X.N[i]? = some n) (hln : X.env.kindOf n = some .local) (hex : X.ex = []) (hc : Names X x c) (tk : Takes X Wout)
    (hb : ∀ (W : WX) (pn : List (Addr × Obj)) (xe : Value → Shared → Prop), Takes (X.tr pn xe) W → PassesOwn (model X.prog X.w) X.A X.env xe → PSs (X.tr pn xe) body (tb W))
    (hsu : ∀ (a : Addr) (pn : List (Addr × Obj)), PSs (X.suite a pn) (b₀ :: suite) ts) :
    PS X (.Try body [.ExceptHandler (some (.Name x np)) (some n) (b₀ :: suite) pos'] [] [] pos) (fun D σ H => tb (wAsT X.K c i ts Wout D) D σ H) := by
  refine ⟨fun pins s σ H D I h => ?_⟩
  have ok := I.ok
  have hfr : X.A.frames = some (X.env :: X.outer) := by rw [ok.frames, hs]
  have hloc : Loc X.env.scope n := .inl hln
  refine wpAny_Try_except ?_
  refine wpAny_mono ((hb (wAsT X.K c i ts Wout D) (X.pn ++ pins) (fun e s₁ => wpAny (model X.prog X.w) X.A (noteFrame e X.env) (fun _ s₂ => wpAny (model X.prog X.w) X.A (setFlight e none) (fun _ s₃ =>
    wpAny (model X.prog X.w) X.A (handleBy e X.env [.ExceptHandler (some (.Name x np)) (some n) (b₀ :: suite) pos']) (SP X pins D) X.xe s₃) X.xe s₂) X.xe s₁) (fun u s' xx => ?_) PassesOwn.looking).run [] s σ H D (I.toTry _) h) (fun f s1 hsp => ?_) (fun e s1 he => he)
  · -- the catch
    obtain ⟨a, B, sI, pins', σ', H', cls, d, rfl, J', nb, up, sky, na, os, ag, b, hb1, hyes, hno⟩ := xx
    have J : Inv X pins σ' H' sI := J'.ofTry ok
    have sky' : Sky B (X.env :: X.outer) a (Zc cls d) X.env.locals s'.heap := by rw [← hs]; exact sky
    show wpAny (model X.prog X.w) X.A (noteFrame (.ref a) X.env) _ _ _
    refine Sky.land Zc.steady hfr hf sky' fun h3 fl3 up3 => ?_
    have J3 : Inv X pins σ' H' { s' with heap := h3 } := J.landed nb fl3.1 (up.trans up3) os ag
    obtain ⟨oe3, vs3, he3, hz3, hd3⟩ := fl3.there
    have notFr : ∀ {h : Heap} {o : Obj} {vs : Array Value}, h.FunFrames B (X.env :: X.outer) → h.get? a = some o → o.data = .fields vs → a ∉ frs (X.env :: X.outer) := fun {h o vs} ff e dd hm => by
      obtain ⟨_, o', e', hnf⟩ := ff.mem hm
      rw [e] at e'; cases e'
      exact hnf _ dd
    have nfr := notFr fl3.2.2.1 he3 hd3
    have nL : a ≠ X.env.locals := fun z => nfr (List.mem_filterMap.mpr ⟨X.env, List.mem_cons_self, by rw [hf, z]⟩)
    have nfr' : a ∉ frs X.stack := by rw [hs]; exact nfr
    have nB : B.get? a = none := fl3.2.1
    have nI : sI.heap.get? a = none := by
      cases e : sI.heap.get? a with
      | none => rfl
      | some o => have := nb a o e nfr'; rw [nB] at this; cases this
    have n0 : X.s_0.heap.get? a = none := by
      cases e : X.s_0.heap.get? a with
      | none => rfl
      | some o =>
        obtain ⟨o', q⟩ := J.base.there a o e (by rw [hex]; exact fun z => nomatch z)
        rw [nI] at q; cases q
    have nP : ∀ p ∈ X.pn ++ pins, p.1 ≠ a := fun p hp z => by
      obtain ⟨e, _⟩ := J.pin p hp
      rw [z, nI] at e; cases e
    have nF : a ∉ X.fs := fun hm => by
      obtain ⟨e, he, q⟩ := List.mem_filterMap.mp hm
      exact nfr (List.mem_filterMap.mpr ⟨e, List.mem_cons_of_mem _ he, q⟩)
    have S3 := J3.suite he3 hd3 na nL nF
    refine wpAny_handleBy_cons (codeAny_handlers_test ?_) (by intro q; cases q)
    have LT : PySem.W.Looks (model X.prog X.w) h3 (typeOf (.ref a)) cls := fun A Q E s k q => wpAny_typeOf_ref (k _ _ he3) (by rw [hz3.1]; exact q)
    have LM := PySem.W.exm_one (M := model X.prog X.w) (J3.kIn) LT hb1
    have test : ∀ {Q : Value → Shared → Prop} {E : Value → Shared → Prop}, Q c { s' with heap := h3 } → wpAny (model X.prog X.w) (X.A.mark (some (.ref a))) (eval (.Name x np) X.env) Q E { s' with heap := h3 } := fun {Q E} q => by
      obtain ⟨hg, hdbg, hm | ⟨hm, hv, hnn⟩⟩ := hc
      · exact ld_glob (X := X.suite a ((a, oe3) :: (X.pn ++ pins))) S3 hg hm q hdbg
      · exact ld_blt (X := X.suite a ((a, oe3) :: (X.pn ++ pins))) S3 hg hm hv q hnn hdbg
    refine test (LM.here ?_)
    cases b with
    | true =>
      refine codeAny_handlers_suite_as ?_
      refine HandSPX.lands_againZ fl3 fun h4 fl4 up4 => ?_
      have J4 : Inv X pins σ' H' { s' with heap := h4 } := J.landed nb fl4.1 ((up.trans up3).trans up4) os ag
      obtain ⟨oe4, vs4, he4, hz4, hd4⟩ := fl4.there
      have J5 := Inv.trackX J4 he4 hz4 hd4 na n0 nP nL
      have S4 := Inv.suiteT J5 a
      refine store_ok (X := X.suite a (X.pn ++ pins)) (v := .ref a) S4 hN hi hloc rfl (fun s5 S5 => ?_) (.inr hln)
      refine wpAny_mono ((hsu a (X.pn ++ pins)).run [] s5 _ (upd H' a (ExH cls d a)) _ S5 (hyes rfl a na)) (fun f s6 hsp => ?_) (fun _ _ z => False.elim z)
      have end_ : ∀ {σ6 : L2.St} {H6 : Hp} {Q : Shared → Prop}, Inv (X.suite a (X.pn ++ pins)) [] σ6 H6 s6 → (∀ s7, Inv X pins (σ6.set i none) H6 s7 → Q s7) →
          wpAny (model X.prog X.w) X.A (do bindName X.env n .none; unbindBehindTheSuite X.env n pos') (fun _ s7 => Q s7) X.xe s6 := fun {σ6 H6 Q} S6 hq => gone_ok (Inv.unsuiteT S6 ok) hN hi hln hq
      cases f with
      | next =>
        obtain ⟨σ6, H6, S6, q6⟩ := hsp
        exact end_ S6 fun s7 J7 => ⟨_, _, J7, q6⟩
      | brk =>
        obtain ⟨σ6, H6, S6, q6⟩ := hsp
        exact end_ S6 fun s7 J7 => ⟨_, _, J7, q6⟩
      | cont =>
        obtain ⟨σ6, H6, S6, q6⟩ := hsp
        exact end_ S6 fun s7 J7 => ⟨_, _, J7, q6⟩
      | ret u =>
        obtain ⟨v6, σ6, H6, S6, r6, q6⟩ := hsp
        exact end_ S6 fun s7 J7 => ⟨_, _, _, J7, r6, q6⟩
    | false =>
      show wpAny _ X.A (handleBy (.ref a) X.env []) _ _ _
      refine wpAny_handleBy_nil ?_
      obtain ⟨k1, k2, k3, oe, vs, T, oT, ts', he, hz, hd, h1, hr⟩ := id fl3
      unfold PySem.passOn
      refine wpAny_bind (wpAny_field he hd h1 ?_)
      rw [if_neg (show ¬ ((Value.ref T == Value.none) = true) from by simp)]
      have fin : wpAny (model X.prog X.w) X.A (setFlight (.ref a) X.env.frame) (fun _ s4 => wpAny (model X.prog X.w) X.A (throw (.ref a) : Sem Flow) (SP X pins D) X.xe s4) X.xe { s' with heap := h3 } := by
        rw [hf]
        refine HandSPX.setFlight_upZ fl3 fun h4 hh4 up4 => wpAny_throw (tk _ _ ?_)
        exact ⟨a, B, sI, pins, σ', H', cls, d, rfl, J, nb, (up.trans up3).trans up4, .inr (.inr (by rw [hs]; exact hh4)), na, os, ag, hno rfl⟩
      first
        | exact wpAny_bind (wpAny_pure (wpAny_bind fin))
        | exact wpAny_bind fin
  · cases f with
    | next =>
      obtain ⟨σ', H', J', q⟩ := hsp
      exact wpAny_execs_nil ⟨σ', H', J'.ofTry ok, q⟩
    | brk =>
      obtain ⟨σ', H', J', q⟩ := hsp
      exact ⟨σ', H', J'.ofTry ok, q⟩
    | cont =>
      obtain ⟨σ', H', J', q⟩ := hsp
      exact ⟨σ', H', J'.ofTry ok, q⟩
    | ret u =>
      obtain ⟨v, σ', H', J', r, q⟩ := hsp
      exact ⟨v, σ', H', J'.ofTry ok, r, q⟩
end
end DL
namespace DL
open PySem PySem.Spec PyProof.Rows L2
/-! ### over data -/
/-- what is wished of an exception: its class's name, the heap -/
abbrev DX := Str → M → Prop
abbrev DWX := Str → Sl → M → Prop
abbrev clsN (K : PySem.W.Frag) (nm : Str) (C : Addr) : Prop := PySem.W.nsIn K mainGlobals nm = some (some (.ref C))
def FinW (K : PySem.W.Frag) (F G : Hp) (E : DWX) (W : WX) : Prop := ∀ (nm : Str) (C : Addr) (ρ : Sl) (μ : M) (F' H' : Hp) (σ : L2.St), E nm ρ μ → clsN K nm C → Same F F' → Cn K F' H' μ G → Rs K F' σ ρ → W (.ref C) none σ H'
theorem FinW.mono {K : PySem.W.Frag} {F F' G : Hp} {E : DWX} {W : WX} (h : FinW K F G E W) (e : Same F F') : FinW K F' G E W := fun nm C ρ μ F1 H1 σ r n s c q => h nm C ρ μ F1 H1 σ r n (e.trans s) c q
def lEX (K : PySem.W.Frag) (W : WX) (t : DWX → DTE) : TE := fun σ H Q => ∃ (F : Hp) (ρ : Sl) (μ : M) (G : Hp) (R : DQ) (E : DWX), Cn K F H μ G ∧ Rs K F σ ρ ∧ t E ρ μ R ∧ Fin K F G R Q ∧ FinW K F G E W
def lSX (K : PySem.W.Frag) (W : WX) (t : DWX → DTS) : TS := fun D σ H => ∃ (F : Hp) (ρ : Sl) (μ : M) (G : Hp) (R : DEnds) (E : DWX), Cn K F H μ G ∧ Rs K F σ ρ ∧ t E R ρ μ ∧ FinS K F G R D ∧ FinW K F G E W
theorem lEX_go {K : PySem.W.Frag} {W : WX} {t : DWX → DTE} {σ : L2.St} {H F G : Hp} {ρ : Sl} {μ : M} {R : DQ} {Q : VK} {E : DWX} (c : Cn K F H μ G) (r : Rs K F σ ρ) (h : t E ρ μ R) (f : Fin K F G R Q) (g : FinW K F G E W) : lEX K W t σ H Q := ⟨F, ρ, μ, G, R, E, c, r, h, f, g⟩
theorem lSX_go {K : PySem.W.Frag} {W : WX} {t : DWX → DTS} {σ : L2.St} {H F G : Hp} {ρ : Sl} {μ : M} {R : DEnds} {D : Ends} {E : DWX} (c : Cn K F H μ G) (r : Rs K F σ ρ) (h : t E R ρ μ) (f : FinS K F G R D) (g : FinW K F G E W) : lSX K W t D σ H := ⟨F, ρ, μ, G, R, E, c, r, h, f, g⟩
structure DEX (X : Cx) (W : WX) (e : Expr) (t : DWX → DTE) : Prop where
  pe : PE X e (lEX X.K W t)
structure DSX (X : Cx) (W : WX) (st : Stmt) (t : DWX → DTS) : Prop where
  ps : PS X st (lSX X.K W t)
structure DSsX (X : Cx) (W : WX) (sts : List Stmt) (t : DWX → DTS) : Prop where
  pss : PSs X sts (lSX X.K W t)
section
variable {X : Cx} {Wh : WX}
theorem dex_of {e : Expr} {t : DTE} (h : DE X e t) : DEX X Wh e fun _ => t := ⟨PE_mono h.pe fun σ H Q ⟨F, ρ, μ, G, R, E, c, rs, h, fin, _⟩ => lE_go c rs h fin⟩
theorem dsx_of {st : Stmt} {t : DTS} (h : DS X st t) : DSX X Wh st fun _ => t := ⟨PS_mono h.ps fun D σ H ⟨F, ρ, μ, G, R, E, c, rs, h, fin, _⟩ => lS_go c rs h fin⟩
theorem dssx_of {sts : List Stmt} {t : DTS} (h : DSs X sts t) : DSsX X Wh sts fun _ => t := ⟨PSs_mono h.pss fun D σ H ⟨F, ρ, μ, G, R, E, c, rs, h, fin, _⟩ => lS_go c rs h fin⟩
theorem dssx_one {st : Stmt} {t : DWX → DTS} (h : DSX X Wh st t) : DSsX X Wh [st] t := ⟨pss_one h.ps⟩
theorem dssx_nil : DSsX X Wh [] fun _ => tNextD := dssx_of dss_nil
theorem dssx_cons {st : Stmt} {rest : List Stmt} {t u : DWX → DTS} (h : DSX X Wh st t) (h2 : DSsX X Wh rest u) : DSsX X Wh (st :: rest) fun E => tSeqD (t E) (u E) :=
  ⟨PSs_mono (pss_cons h.ps h2.pss) fun D σ H ⟨F, ρ, μ, G, R, E, c, rs, h, fin, g⟩ => lSX_go (R := { nx := u E R, rt := R.rt, bk := R.bk, ct := R.ct }) c rs h ⟨fun ρ1 μ1 F1 H1 σ1 r s c1 q => lSX_go c1 q r (fin.mono s) (g.mono s), fin.rt, fin.bk, fin.ct⟩ g⟩
theorem dsx_if {e : Expr} {a b : List Stmt} {pos : Pos} {t : DTT} {ta tb : DWX → DTS} (he : DT X e t) (ha : DSsX X Wh a ta) (hb : DSsX X Wh b tb) : DSX X Wh (.If e a b pos) fun E => tIfS t (ta E) (tb E) :=
  ⟨PS_mono (ps_if he.pt ha.pss hb.pss) fun D σ H ⟨F, ρ, μ, G, R, E, c, rs, h, fin, g⟩ => lT_go c rs h fun k μ1 F1 H1 r s c1 => by
    cases k with
    | true => rw [if_pos rfl] at r ⊢; exact lSX_go c1 (rs.mono s) r (fin.mono s) (g.mono s)
    | false => rw [if_neg Bool.false_ne_true] at r ⊢; exact lSX_go c1 (rs.mono s) r (fin.mono s) (g.mono s)⟩
theorem dsx_set {st : Stmt} {i : Nat} {t : DWX → DTE} (h : PS X st (tAsg (lEX X.K Wh t) (gName i))) : DSX X Wh st fun E => tSetD i (t E) :=
  ⟨PS_mono h fun D σ H ⟨F, ρ, μ, G, R, E, c, rs, h, fin, g⟩ => lEX_go c rs h (fun w μ1 F1 H1 x r s c1 q => fin.nx _ _ _ _ _ r s c1 ((rs.mono s).set i q)) g⟩
theorem dsx_expr {st : Stmt} {t : DWX → DTE} (h : PS X st (tDrop (lEX X.K Wh t))) : DSX X Wh st fun E => tDropD (t E) :=
  ⟨PS_mono h fun D σ H ⟨F, ρ, μ, G, R, E, c, rs, h, fin, g⟩ => lEX_go c rs h (fun w μ1 F1 H1 x r s c1 q => fin.nx _ _ _ _ _ r s c1 (rs.mono s)) g⟩
theorem dsx_ret {e : Expr} {pos : Pos} {t : DWX → DTE} (h : DEX X Wh e t) : DSX X Wh (.Return (some e) pos) fun E => tRetD (t E) :=
  ⟨PS_mono (ps_ret h.pe) fun D σ H ⟨F, ρ, μ, G, R, E, c, rs, h, fin, g⟩ => lEX_go c rs h fin.rt g⟩
theorem loop_readX {K : PySem.W.Frag} {F G : Hp} {J : It} {ws : List W} {g : DTG} {tb : DWX → DTS} {R : DEnds} {D : Ends} {E : DWX} {WW : WX} (y : Yields K F J ws) (fin : FinS K F G R D) (fw : FinW K F G E WW) {σ : L2.St} {H : Hp} {ρ : Sl} {μ : M} (c : Cn K F H μ G) (rs : Rs K F σ ρ) (h : loopD g (tb E) ws R ρ μ) :
    ∃ W : Nat → Nat → L2.St → Hp → Prop, (∃ m, W 0 m σ H) ∧ ∀ (i m : Nat) (σ : L2.St) (H : Hp), W i m σ H → J.stop i H ∧ D.nx σ H ∨ J.go i H ∧ ∃ N : L2.St → Hp → Prop, (∀ (σ' : L2.St) (H' : Hp), N σ' H' → ∃ m', m' < m ∧ W (i + 1) m' σ' H') ∧
      ∀ (x : V) (H' : Hp), J.yld i H x H' → lG K g x σ H' fun σ2 H2 => lSX K WW tb { nx := N, rt := D.rt, bk := D.nx, ct := N } σ2 H2 := by
  refine ⟨fun i m σ H => m + i = ws.length ∧ ∃ F' ρ' μ', Same F F' ∧ Cn K F' H μ' G ∧ Rs K F' σ ρ' ∧ loopD g (tb E) (ws.drop i) R ρ' μ', ⟨ws.length, rfl, F, ρ, μ, Same.refl _, c, rs, h⟩, fun i m σ H ⟨em, F', ρ', μ', s, c, rs, h⟩ => ?_⟩
  obtain ⟨yg, ys⟩ := y F' H μ' G s c
  by_cases hi : i < ws.length
  · have ew : ws[i]? = some ws[i] := List.getElem?_eq_getElem hi
    rw [List.drop_eq_getElem_cons hi] at h
    obtain ⟨go, yl⟩ := yg i _ ew
    refine .inr ⟨go, fun σ' H' => ∃ F' ρ' μ', Same F F' ∧ Cn K F' H' μ' G ∧ Rs K F' σ' ρ' ∧ loopD g (tb E) (ws.drop (i + 1)) R ρ' μ', fun σ' H' hN => ⟨m - 1, by omega, by omega, hN⟩, fun x H' hy => ?_⟩
    obtain ⟨F2, s2, c2, r2⟩ := yl x H' hy
    refine ⟨F2, ρ', μ', G, _, _, c2, rs.mono s2, r2, h, fun ρ3 μ3 F3 H3 σ3 r3 s3 c3 q3 => ?_⟩
    have s03 := (s.trans s2).trans s3
    refine lSX_go c3 q3 r3 ⟨fun ρ4 μ4 F4 H4 σ4 r4 s4 c4 q4 => ⟨F4, ρ4, μ4, s03.trans s4, c4, q4, r4⟩, fin.rt.mono s03, fin.nx.mono s03, fun ρ4 μ4 F4 H4 σ4 r4 s4 c4 q4 => ⟨F4, ρ4, μ4, s03.trans s4, c4, q4, r4⟩⟩ (fw.mono s03)
  · have e : i = ws.length := by omega
    subst e
    rw [List.drop_length] at h
    exact .inl ⟨ys, fin.nx _ _ _ _ _ h s c rs⟩
theorem dsx_for {tg iter : Expr} {body : List Stmt} {pos : Pos} {t : DTI} {g : DTG} {tb : DWX → DTS} (h : PS X (.For tg iter body [] pos) (tFor (lI X.K t) (lG X.K g) (lSX X.K Wh tb))) : DSX X Wh (.For tg iter body [] pos) fun E => tForD t g (tb E) :=
  ⟨PS_mono h fun D σ H ⟨F, ρ, μ, G, R, E, c, rs, h, fin, fw⟩ => ⟨F, ρ, μ, G, _, c, rs, h, fun ws μ1 F1 H1 J r s c1 y => loop_readX y (fin.mono s) (fw.mono s) c1 (rs.mono s) r⟩⟩
theorem dsx_while {c : Expr} {body : List Stmt} {pos : Pos} {t : DTT} {tb : DWX → DTS} (h : PS X (.While c body [] pos) (tWhile (lT X.K t) (lSX X.K Wh tb))) : DSX X Wh (.While c body [] pos) fun E => tWhileD t (tb E) :=
  ⟨PS_mono h fun D σ H ⟨F, ρ, μ, G, R, E, c, rs, h, fin, fw⟩ => by
    obtain ⟨I, m, h0, h⟩ := h
    refine ⟨fun n σ H => ∃ F' ρ' μ', Same F F' ∧ Cn X.K F' H μ' G ∧ Rs X.K F' σ ρ' ∧ I ρ' μ' ∧ m ρ' μ' = n, ⟨_, F, ρ, μ, Same.refl _, c, rs, h0, rfl⟩, fun n σ H ⟨F', ρ', μ', s, c, rs, hI, en⟩ => ?_⟩
    refine lT_go c rs (h ρ' μ' hI) fun k μ1 F1 H1 r s1 c1 => ?_
    cases k with
    | true =>
      rw [if_pos rfl] at r ⊢
      have go : ∀ (ρ2 : Sl) (μ2 : M) (F2 H2 : Hp) (σ2 : L2.St), I ρ2 μ2 ∧ m ρ2 μ2 < m ρ' μ' → Same F1 F2 → Cn X.K F2 H2 μ2 G → Rs X.K F2 σ2 ρ2 → ∃ m', m' < n ∧ ∃ F' ρ' μ', Same F F' ∧ Cn X.K F' H2 μ' G ∧ Rs X.K F' σ2 ρ' ∧ I ρ' μ' ∧ m ρ' μ' = m' :=
        fun ρ2 μ2 F2 H2 σ2 a b c d => ⟨_, by have := a.2; omega, F2, ρ2, μ2, (s.trans s1).trans b, c, d, a.1, rfl⟩
      exact ⟨fun σ2 H2 => ∃ m', m' < n ∧ ∃ F' ρ' μ', Same F F' ∧ Cn X.K F' H2 μ' G ∧ Rs X.K F' σ2 ρ' ∧ I ρ' μ' ∧ m ρ' μ' = m', fun σ2 H2 q => q, lSX_go c1 (rs.mono s1) r ⟨fun ρ2 μ2 F2 H2 σ2 a b c d => go ρ2 μ2 F2 H2 σ2 a b c d, fin.rt.mono (s.trans s1), fin.nx.mono (s.trans s1), fun ρ2 μ2 F2 H2 σ2 a b c d => go ρ2 μ2 F2 H2 σ2 a b c d⟩ (fw.mono (s.trans s1))⟩
    | false =>
      rw [if_neg Bool.false_ne_true] at r ⊢
      exact fin.nx _ _ _ _ _ r (s.trans s1) c1 (rs.mono s1)⟩
/-- raise X('..') -/
def tRaiseD (nm : Str) : DWX → DTS := fun E _ ρ μ => E nm ρ μ
theorem dsx_raise {C : Addr} {e : Expr} {pos : Pos} {nm : Str} (hc : X.calm = true) (tk : Takes X Wh) (hn : clsN X.K nm C) (he : L2.PMk X e fun _ H Q => Q (.ref C) none H) : DSX X Wh (.Raise (some e) none pos) (tRaiseD nm) :=
  ⟨PS_mono (ps_raise hc tk he) fun D σ H ⟨F, ρ, μ, G, R, E, c, rs, h, fin, fw⟩ => fw nm C ρ μ F H σ h hn (Same.refl _) c rs⟩
end

/-! ### defs that exceptions leave -/
abbrev DSpX := List W → M → DQ → DX → Prop
def FinE (K : PySem.W.Frag) (F G : Hp) (EX : DX) (E : XK) : Prop := ∀ (nm : Str) (C : Addr) (μ : M) (F' H' : Hp), EX nm μ → clsN K nm C → Same F F' → Cn K F' H' μ G → E (.ref C) none H'
def lSpX (K : PySem.W.Frag) (ds : DSpX) : Sp := fun vs H Q E => ∃ (F : Hp) (μ : M) (G : Hp) (ws : List W) (R : DQ) (EX : DX), Cn K F H μ G ∧ RwAll K F vs ws ∧ ds ws μ R EX ∧ Fin K F G R Q ∧ FinE K F G EX E
/-- a def's promise where nothing is let out -/
def noX (ds : DSpX) : DSp := fun ws μ R => ds ws μ R fun _ _ => False
def tCallX (ds : DSpX) (t : DTA) : DWX → DTE := fun E ρ μ R => t ρ μ fun ws μ1 => ds ws μ1 R fun nm μ' => E nm ρ μ'
section
variable {X : Cx} {CX : CXT} {k : Nat} {f C : Addr} {fd : FuncData} {ps : List Str} {sp : Sp} {x m : Str} {p pos apos : Pos} {e o : Expr} {es : List Expr} {ta : TE} {t : TA} {E : L2.St → XK}
theorem run_fgS {pins : List (Addr × Obj)} {σ : L2.St} {H : Hp} {s : Shared} {Q : VK} {us : List Value} {vs : List V} (F : FG X.prog X.w X.K X.mg X.base CX k f fd ps sp) (hr : Room k X.A) (hg : X.A.guards = some []) (hb : L2.Binds X.K fd ps []) (hx : PassesAt CX X σ (E σ))
    (I : Inv X pins σ H s) (r : Vals vs us) (h : sp vs H Q (E σ)) : wpAny (model X.prog X.w) X.A (call (.ref f) us) (EP X pins σ Q) X.xe s := by
  have ll : us.length = ps.length := by
    rw [← r.length]
    exact F.arity _ _ _ _ h
  have b := hb s us I.kIn (by rw [List.append_nil]; exact ll)
  rw [List.append_nil] at b
  refine wpAny_call (codeAny_mono (F.go X.A X.stack s H ⟨us, []⟩ us vs Q (E σ) hr hg I.env0 b r h) ?_)
  intro r s' hq
  match r, hq with
  | .error e, hq => exact hx pins H s e s' I hq
  | .ok (.ret u), hq => exact I.after hq
theorem pe_callGS (F : FG X.prog X.w X.K X.mg X.base CX k f fd ps sp) (hr : Room k X.A) (hgd : X.A.guards = some []) (hg : Gl X x) (hm : X.mg x = some (.ref f)) (hk : PySem.W.keepIn X.K (.ref f) = true) (hb : L2.Binds X.K fd ps []) (hx : ∀ σ, PassesAt CX X σ (E σ))
    (ha : PA X (e :: es) t) (hdb : (x == ("__debug__" : Str)) = false) (he : starEach (e :: es) X.env = (false, eval e X.env) :: starEach es X.env) (hpl : (backTo pos (starEach es X.env)).any (·.1) = false) :
    PE X (.Call (.Name x p) (e :: es) [] pos) (tCallS sp E t) := by
  constructor
  intro pins s σ H Q I h
  apply wpAny_Call_Name_kw
  apply ld_glob I hg hm _ hdb
  apply PySem.W.callWith_K (h₀ := X.base) I.ok.mod.kin hk _ he hpl
  refine thn (ha.run pos pins s σ H _ I h) ?_
  rintro us s1 ⟨vs, H1, I1, r, q⟩
  exact ⟨I1.kIn, run_fgS F hr hgd hb (hx σ) I1 r q⟩
def tMethS (C : Addr) (m : Str) (sp : Sp) (E : L2.St → XK) (to : TE) (t : TA) : TE := fun σ H Q => to σ H fun x H1 => ∃ a dx fs, x = V.ref a ∧ H1 a = some (.ins C dx fs) ∧ fs.lookup m = none ∧ t σ H1 fun vs H2 => sp (.ref a :: vs) H2 Q (E σ)
theorem pe_methGS {pl : Sem Bool} (he : PE X o ta) (c : Cls X.K C) (hm : Meth X.K C m f) (F : FG X.prog X.w X.K X.mg X.base CX k f fd ps sp) (hr : Room k X.A) (hgd : X.A.guards = some []) (hb : L2.Binds X.K fd ps []) (hx : ∀ σ, PassesAt CX X σ (E σ)) (ha : PA X (e :: es) t)
    (hst : starEach (e :: es) X.env = (false, eval e X.env) :: starEach es X.env) (hpl : (backTo pos (starEach es X.env)).any (·.1) = false)
    (ht : eval (.Call (.Attribute o m apos) (e :: es) [] pos) X.env = (do
      let ov ← eval o X.env
      standAt apos.atName
      let (f, first) ← holding [ov] (getMethod ov m pl)
      callWith pos f first (backTo pos (starEach (e :: es) X.env)) (backToKw pos (keywordEach [] X.env)))) :
    PE X (.Call (.Attribute o m apos) (e :: es) [] pos) (tMethS C m sp E ta t) := by
  refine ⟨fun pins s σ H Q I h => ?_⟩
  refine PySem.W.methodCall_KW (pl := pl) (thn (he.run pins s σ H _ I h) fun u s1 ⟨x, H1, I1, rx, a, dx, fs, ex, ea, l, q⟩ => ?_) ht
  subst ex
  obtain rfl : u = Value.ref a := rx
  refine getmeth_ok I1 ea c hm l ?_
  refine PySem.W.callWith_K (first := [.ref a]) (h₀ := X.base) I.ok.mod.kin hm.kp (thn (ha.run pos pins s1 σ H1 _ I1 q) fun us s2 ⟨vs, H2, I2, r, q2⟩ => ⟨I2.kIn, ?_⟩) hst hpl
  exact run_fgS (us := .ref a :: us) (vs := .ref a :: vs) F hr hgd hb (hx σ) I2 (.cons rfl r) q2
theorem pe_methGS0 {pl : Sem Bool} (he : PE X o ta) (c : Cls X.K C) (hm : Meth X.K C m f) (F : FG X.prog X.w X.K X.mg X.base CX k f fd ps sp) (hr : Room k X.A) (hgd : X.A.guards = some []) (hb : L2.Binds X.K fd ps []) (hx : ∀ σ, PassesAt CX X σ (E σ))
    (ht : eval (.Call (.Attribute o m apos) [] [] pos) X.env = (do
      let ov ← eval o X.env
      standAt apos.atName
      let (f, first) ← holding [ov] (getMethod ov m pl)
      callWith pos f first (backTo pos (starEach [] X.env)) (backToKw pos (keywordEach [] X.env)))) :
    PE X (.Call (.Attribute o m apos) [] [] pos) (tMethS C m sp E ta tNil) := by
  refine ⟨fun pins s σ H Q I h => ?_⟩
  refine PySem.W.methodCall_KW (pl := pl) (thn (he.run pins s σ H _ I h) fun u s1 ⟨x, H1, I1, rx, a, dx, fs, ex, ea, l, q⟩ => ?_) ht
  subst ex
  obtain rfl : u = Value.ref a := rx
  refine getmeth_ok I1 ea c hm l ?_
  exact PySem.W.callWith_K0 (first := [.ref a]) I1.kIn hm.kp (run_fgS (us := [.ref a]) (vs := [.ref a]) F hr hgd hb (hx σ) I1 (.cons rfl .nil) q)
end
section
variable {X : Cx} {Wh : WX} {k : Nat} {f C : Addr} {fd : FuncData} {ps : List Str} {x m : Str} {p pos apos : Pos} {e o : Expr} {es : List Expr}
theorem dex_call {ds : DSpX} {t : DTA} (tk : Takes X Wh) (F : FG X.prog X.w X.K X.mg X.base (L2.CX X.prog X.w) k f fd ps (lSpX X.K ds)) (hr : Room k X.A) (hgd : X.A.guards = some []) (hg : Gl X x) (hm : X.mg x = some (.ref f)) (hk : PySem.W.keepIn X.K (.ref f) = true) (hb : L2.Binds X.K fd ps [])
    (ha : DA X (e :: es) t) (hdb : (x == ("__debug__" : Str)) = false) (he : starEach (e :: es) X.env = (false, eval e X.env) :: starEach es X.env) (hpl : (backTo pos (starEach es X.env)).any (·.1) = false) :
    DEX X Wh (.Call (.Name x p) (e :: es) [] pos) (tCallX ds t) :=
  ⟨PE_mono (pe_callGS (E := WE Wh) F hr hgd hg hm hk hb (fun σ => passAt tk σ) ha.pa hdb he hpl) fun σ H Q ⟨F', ρ, μ, G, R, E, c, rs, h, fin, fw⟩ => lA_go c rs h fun ws μ1 F1 H1 vs r1 s1 c1 q1 =>
    ⟨F1, μ1, G, ws, R, _, c1, q1, r1, fin.mono s1, fun nm C μ' F2 H2 he hn s c2 => fw nm C ρ μ' F2 H2 σ he hn (s1.trans s) c2 ((rs.mono s1).mono s)⟩⟩
/-- a def that may let something out, but doesn't here -/
theorem de_callN {ds : DSpX} {t : DTA} (F : FG X.prog X.w X.K X.mg X.base (L2.CX X.prog X.w) k f fd ps (lSpX X.K ds)) (hr : Room k X.A) (hgd : X.A.guards = some []) (hg : Gl X x) (hm : X.mg x = some (.ref f)) (hk : PySem.W.keepIn X.K (.ref f) = true) (hb : L2.Binds X.K fd ps [])
    (ha : DA X (e :: es) t) (hdb : (x == ("__debug__" : Str)) = false) (he : starEach (e :: es) X.env = (false, eval e X.env) :: starEach es X.env) (hpl : (backTo pos (starEach es X.env)).any (·.1) = false) :
    DE X (.Call (.Name x p) (e :: es) [] pos) (tCallD (noX ds) t) :=
  ⟨PE_mono (pe_callG (E := L2.E0) F hr hgd hg hm hk hb .nil L2.passL ha.pa hdb he hpl) fun σ H Q ⟨F', ρ, μ, G, R, c, rs, h, fin⟩ => lA_go c rs h fun ws μ1 F1 H1 vs r1 s1 c1 q1 => by
    rw [List.append_nil]
    exact ⟨F1, μ1, G, ws, R, _, c1, q1, r1, fin.mono s1, fun nm C μ' F2 H2 he => he.elim⟩⟩
def tMethX (C : Addr) (m : Str) (ds : DSpX) (to : DTE) (t : DTA) : DWX → DTE := fun E ρ μ R => to ρ μ fun o μ1 => insAt o μ1 C fun a _ fs => fs.lookup m = none ∧ t ρ μ1 fun ws μ2 => ds (.v (.ref a) :: ws) μ2 R fun nm μ' => E nm ρ μ'
theorem dex_meth {ds : DSpX} {to : DTE} {t : DTA} {pl : Sem Bool} (tk : Takes X Wh) (ho : DE X o to) (c : Cls X.K C) (hm : Meth X.K C m f) (F : FG X.prog X.w X.K X.mg X.base (L2.CX X.prog X.w) k f fd ps (lSpX X.K ds)) (hr : Room k X.A) (hgd : X.A.guards = some []) (hb : L2.Binds X.K fd ps [])
    (ha : DA X (e :: es) t) (hst : starEach (e :: es) X.env = (false, eval e X.env) :: starEach es X.env) (hpl : (backTo pos (starEach es X.env)).any (·.1) = false)
    (ht : eval (.Call (.Attribute o m apos) (e :: es) [] pos) X.env = (do
      let ov ← eval o X.env
      standAt apos.atName
      let (f, first) ← holding [ov] (getMethod ov m pl)
      callWith pos f first (backTo pos (starEach (e :: es) X.env)) (backToKw pos (keywordEach [] X.env)))) :
    DEX X Wh (.Call (.Attribute o m apos) (e :: es) [] pos) (tMethX C m ds to t) :=
  ⟨PE_mono (pe_methGS (E := WE Wh) ho.pe c hm F hr hgd hb (fun σ => passAt tk σ) ha.pa hst hpl ht) fun σ H Q ⟨F', ρ, μ, G, R, E, c, rs, h, fin, fw⟩ => lE_go c rs h fun w μ1 F1 H1 v r1 s1 c1 q1 => by
    obtain ⟨a, dx, fs, rfl, em, hl, h⟩ := insAt_ok r1
    cases (show v = .ref a from q1)
    obtain ⟨_, _, _, ho, vs, rfl, kv⟩ := c1.mu a _ em
    refine ⟨a, dx, vs, rfl, ho, kv_lookup_none kv hl, lA_go c1 (rs.mono s1) h fun ws μ2 F2 H2 vs2 r2 s2 c2 q2 => ?_⟩
    exact ⟨F2, μ2, G, _, R, _, c2, .cons (show Rw X.K F2 (V.ref a) (.v (.ref a)) from rfl) q2, r2, fin.mono (s1.trans s2), fun nm C μ' F3 H3 he hn s c3 => fw nm C ρ μ' F3 H3 σ he hn ((s1.trans s2).trans s) c3 (((rs.mono s1).mono s2).mono s)⟩⟩
theorem dex_meth0 {ds : DSpX} {to : DTE} {pl : Sem Bool} (tk : Takes X Wh) (ho : DE X o to) (c : Cls X.K C) (hm : Meth X.K C m f) (F : FG X.prog X.w X.K X.mg X.base (L2.CX X.prog X.w) k f fd ps (lSpX X.K ds)) (hr : Room k X.A) (hgd : X.A.guards = some []) (hb : L2.Binds X.K fd ps [])
    (ht : eval (.Call (.Attribute o m apos) [] [] pos) X.env = (do
      let ov ← eval o X.env
      standAt apos.atName
      let (f, first) ← holding [ov] (getMethod ov m pl)
      callWith pos f first (backTo pos (starEach [] X.env)) (backToKw pos (keywordEach [] X.env)))) :
    DEX X Wh (.Call (.Attribute o m apos) [] [] pos) (tMethX C m ds to tNilD) :=
  ⟨PE_mono (pe_methGS0 (E := WE Wh) ho.pe c hm F hr hgd hb (fun σ => passAt tk σ) ht) fun σ H Q ⟨F', ρ, μ, G, R, E, c, rs, h, fin, fw⟩ => lE_go c rs h fun w μ1 F1 H1 v r1 s1 c1 q1 => by
    obtain ⟨a, dx, fs, rfl, em, hl, h⟩ := insAt_ok r1
    cases (show v = .ref a from q1)
    obtain ⟨_, _, _, ho, vs, rfl, kv⟩ := c1.mu a _ em
    exact ⟨a, dx, vs, rfl, ho, kv_lookup_none kv hl, F1, μ1, G, _, R, _, c1, .cons (show Rw X.K F1 (V.ref a) (.v (.ref a)) from rfl) .nil, h, fin.mono s1, fun nm C μ' F3 H3 he hn s c3 => fw nm C ρ μ' F3 H3 σ he hn (s1.trans s) c3 ((rs.mono s1).mono s)⟩⟩
end
section
variable {P : Program} {w : World} {K : PySem.W.Frag} {mg : Str → Option Value} {base : Heap}
theorem fg_dataX {x qual : Str} {st : Stmt} {f : Addr} {fd : FuncData} {N ps : List Str} {k : Nat} {ds : DSpX} (F : Fun K x qual st f fd) (S : FnScope N ps (defScope st)) (ar : ∀ ws μ R EX, ds ws μ R EX → ws.length = ps.length) (t : DWX → DTS)
    (hb : ∀ (cdv : Value) (A : Around) (outer : List Env) (s : Shared) (H : Hp) (E : XK), Room k (A.deeper (envOfC qual (defScope st) s.heap.objs.size f cdv)) → A.guards = some [] → ∀ W : WX, Takes (cxOf (L2.CX P w) P w K mg base N qual (defScope st) f cdv A outer s H E) W →
      PassesOwn (model P w) (cxOf (L2.CX P w) P w K mg base N qual (defScope st) f cdv A outer s H E).A (cxOf (L2.CX P w) P w K mg base N qual (defScope st) f cdv A outer s H E).env (cxOf (L2.CX P w) P w K mg base N qual (defScope st) f cdv A outer s H E).xe →
      DSsX (cxOf (L2.CX P w) P w K mg base N qual (defScope st) f cdv A outer s H E) W (defBody st) t)
    (hd : ∀ ws μ R EX, ds ws μ R EX → t (fun nm _ μ' => EX nm μ') { nx := fun _ μ' => R (.d .none) μ', rt := R } (startD N.length ws) μ) : FG P w K mg base (L2.CX P w) (k + 1) f fd ps (lSpX K ds) := by
  refine fg_of F S (fun vs H Q E ⟨F', μ, G, ws, R, EX, c, r, h, fin⟩ => (RwAll.len r).trans (ar _ _ _ _ h)) fun cdv A outer s H vs Q E hr hg ⟨F', μ, G, ws, R, EX, c, r, h, fin, fe⟩ => ?_
  have hX := hb cdv A outer s H E hr hg (fun cls d _ H => E cls d H) (takes_of rfl rfl rfl rfl) (passes_of rfl)
  refine ⟨_, hX.pss, lSX_go c (startD_ok r) (hd ws μ R EX h) ⟨fun ρ' μ' F1 H1 σ1 r1 s1 c1 q1 => fin _ _ _ _ _ r1 s1 c1 .non, fin, fun _ _ _ _ _ z => z.elim, fun _ _ _ _ _ z => z.elim⟩ fun nm C ρ μ' F1 H1 σ he hn s c1 q => fe nm C μ' F1 H1 he hn s c1⟩
end
end DL
namespace DL
open PySem PySem.Spec PyProof.Rows L2
/-! ### try .. except C as e -/
theorem Rs.none {K : PySem.W.Frag} {F : Hp} {σ : L2.St} {ρ : Sl} (h : Rs K F σ ρ) (i : Nat) : Rs K F (σ.set i none) (ρ.set i none) := by
  refine ⟨by rw [List.length_set, List.length_set, h.len], fun j w q => ?_⟩
  rw [List.getElem?_set] at q ⊢
  by_cases e : i = j
  · rw [if_pos e] at q; split at q <;> cases q
  · rw [if_neg e] at q ⊢; exact h.get j w q
def tTryD (i : Nat) (cat : List (Str × Bool)) (tb : DWX → DTS) (ts : DTS) : DWX → DTS := fun E D ρ μ => tb (fun nm ρ' μ' => onS (cat.lookup nm) fun b =>
  if b = true then ∀ a, μ' a = none → ts { nx := fun ρ2 μ2 => D.nx (ρ2.set i none) μ2, rt := D.rt, bk := fun ρ2 μ2 => D.bk (ρ2.set i none) μ2, ct := fun ρ2 μ2 => D.ct (ρ2.set i none) μ2 } (ρ'.set i (some (.v (.ref a)))) (mset μ' a (.exc nm a none)) else E nm ρ' μ') D ρ μ
/-- what the names of classes say -/
def CatOk (K : PySem.W.Frag) (f : Value → Option Bool) (l : List (Str × Bool)) : Prop := ∀ nm b C, l.lookup nm = some b → clsN K nm C → f (.ref C) = some b
theorem CatOk.nil {K : PySem.W.Frag} {f : Value → Option Bool} : CatOk K f [] := fun nm b C h => by cases h
theorem CatOk.cons {K : PySem.W.Frag} {f : Value → Option Bool} {l : List (Str × Bool)} {nm : Str} {b : Bool} {C : Addr} (hn : clsN K nm C) (hf : f (.ref C) = some b) (t : CatOk K f l) : CatOk K f ((nm, b) :: l) := fun nm' b' C' h hn' => by
  rw [List.lookup_cons] at h
  cases e : nm' == nm with
  | true =>
    rw [e] at h
    cases h
    have := eq_of_beq e
    subst this
    have h2 := hn.symm.trans hn'
    cases h2
    exact hf
  | false => rw [e] at h; exact t nm' b' C' h hn'
section
variable {X : Cx} {Wh : WX} {x n : Str} {c : Value} {i : Nat} {body suite : List Stmt} {b₀ : Stmt} {np pos pos' : Pos}
theorem dsx_tryAs {cat : List (Str × Bool)} {tb : DWX → DTS} {ts : DTS} (hs : X.stack = X.env :: X.outer) (hf : X.env.frame = some X.env.locals) (hN : X.N.Nodup) (hi : X.N[i]? = some n) (hln : X.env.kindOf n = some .local) (hex : X.ex = []) (hc : Names X x c) (tk : Takes X Wh)
    (hcat : CatOk X.K (fun t => PySem.W.exmOne X.K t c) cat)
    (hb : ∀ (W : WX) (pn : List (Addr × Obj)) (xe : Value → Shared → Prop), Takes (X.tr pn xe) W → PassesOwn (model X.prog X.w) X.A X.env xe → DSsX (X.tr pn xe) W body tb)
    (hsu : ∀ (a : Addr) (pn : List (Addr × Obj)), DSs (X.suite a pn) (b₀ :: suite) ts) :
    DSX X Wh (.Try body [.ExceptHandler (some (.Name x np)) (some n) (b₀ :: suite) pos'] [] [] pos) (tTryD i cat tb ts) :=
  ⟨PS_mono (ps_try_asT (tb := fun W => lSX X.K W tb) (ts := lS X.K ts) hs hf hN hi hln hex hc tk (fun W pn xe t p => (hb W pn xe t p).pss) (fun a pn => (hsu a pn).pss)) fun D σ H ⟨F, ρ, μ, G, R, E, c, rs, h, fin, fw⟩ => by
    refine lSX_go (t := tb) c rs h fin ?_
    intro nm C ρ' μ' F' H' σ' he hn s c' r'
    obtain ⟨b, eb, he⟩ := onS_ok he
    refine ⟨b, hcat nm b C eb hn, fun e a na => ?_, fun e => ?_⟩
    · subst e
      rw [if_pos rfl] at he
      have fm := fin.mono s
      refine lS_go (c'.born na (m := .exc nm a none) ⟨C, hn, rfl⟩) (r'.set i (show Rw X.K F' (V.ref a) (.v (.ref a)) from rfl)) (he a (c'.noM na)) ⟨fun ρ2 μ2 F2 H2 σ2 r s2 c2 q => fm.nx _ _ _ _ _ r s2 c2 (q.none i), fm.rt, fun ρ2 μ2 F2 H2 σ2 r s2 c2 q => fm.bk _ _ _ _ _ r s2 c2 (q.none i), fun ρ2 μ2 F2 H2 σ2 r s2 c2 q => fm.ct _ _ _ _ _ r s2 c2 (q.none i)⟩
    · subst e
      rw [if_neg Bool.false_ne_true] at he
      exact fw nm C ρ' μ' F' H' σ' he hn s c' r'⟩
/-- a try statement in a def that lets nothing out -/
theorem ds_ofX {st : Stmt} {t : DWX → DTS} (h : DSX X (fun _ _ _ _ => False) st t) : DS X st (t fun _ _ _ => False) := ⟨PS_mono h.ps fun D σ H ⟨F, ρ, μ, G, R, c, rs, h, fin⟩ => lSX_go c rs h fin fun nm C ρ' μ' F' H' σ' he => he.elim⟩
end

/-! ### isinstance(e, C), isinstance(e, (C, D, ..)) of a caught exception, or None -/
structure PCs (X : Cx) (es : List Expr) (cs : List V) (us : List Value) : Prop where
  pa : PA X es fun _ H Q => Q cs H
  cl : Paired ClsV cs us
section
variable {X : Cx}
theorem pcs_nil : PCs X [] [] [] := ⟨pa_nil, .nil⟩
theorem pcs_cons {e : Expr} {es : List Expr} {v : V} {u : Value} {cs : List V} {us : List Value} (h : PE X e (tC v)) (k : ClsV v u) (t : PCs X es cs us) (hst : starEach (e :: es) X.env = (false, eval e X.env) :: starEach es X.env) : PCs X (e :: es) (v :: cs) (u :: us) :=
  ⟨PA_mono (pa_cons h t.pa hst) fun σ H Q q => q, .cons k t.cl⟩
theorem pe_own {x : Str} {C : Addr} {pos : Pos} (hg : Gl X x) (hm : X.mg x = some (.ref C)) (hd : (x == ("__debug__" : Str)) = false) : PE X (.Name x pos) (tC (V.ref C)) := pe_glob hg hm rfl hd
/-- the class of a value that may be an exception -/
inductive TyE (K : PySem.W.Frag) (H : Hp) : V → Value → Prop
  | ty {v : V} {t : Value} : TyX K H v t → TyE K H v t
  | exc {a D : Addr} : H a = some (ExH (.ref D) none a) → ExcC K D → TyE K H (.ref a) (.ref D)
theorem kit_ofE {pins : List (Addr × Obj)} {σ : L2.St} {H : Hp} {s : Shared} {x : V} {u t : Value} (I : Inv X pins σ H s) (rx : RelV x u) (ty : TyE X.K H x t) : ∃ P : Heap → Prop, PySem.W.KitX X.K u t P ∧ P s.heap ∧ u ≠ .builtin "__main__.__loader__#opaque" := by
  cases ty with
  | ty h => exact kit_of I rx h
  | @exc a D e C =>
    cases (show u = Value.ref a from rx)
    obtain ⟨⟨oe, vs, ha, hz, hd⟩, _⟩ := (show ObjOk X.prog X.w H s.heap a (ExH (.ref D) none a) from I.hok a _ e)
    have J : PySem.W.InstAt s.heap a oe D none := by
      obtain ⟨oc, od, oda, osl⟩ := oe
      obtain ⟨h1, h2⟩ := hz
      dsimp only at h1 h2 hd
      subst h1 h2 hd
      exact ⟨ha, rfl, rfl, trivial⟩
    exact ⟨_, PySem.W.handS_kitx_exc C.hg C.hk C.hs C.hd C.ha C.hn C.ht C.hm, J, fun z => nomatch z⟩
def rIsE1 (K : PySem.W.Frag) : List V → Hp → VK → Prop := fun xs H Q => ∃ (x c : V) (t u : Value) (b : Bool), xs = [x, c] ∧ ClsV c u ∧ TyE K H x t ∧ PySem.W.kitOne K t u = some b ∧ Q (.bl b) H
def rIsET (K : PySem.W.Frag) : List V → Hp → VK → Prop := fun xs H Q => ∃ (x : V) (tp : Addr) (cs : List V) (t : Value) (us : List Value) (b : Bool), xs = [x, .ref tp] ∧ H tp = some (.tup cs) ∧ Paired ClsV cs us ∧ TyE K H x t ∧ PySem.W.kitAny K t us = some b ∧ Q (.bl b) H
theorem call_isE1 : CallR X (.builtin "isinstance") (rIsE1 X.K) := by
  intro pins s σ H xs us Q I r h
  obtain ⟨x, c, t, u, b, rfl, k, ty, e, q⟩ := h
  obtain ⟨u1, u2, rfl, r1, r2⟩ := vals2 r
  have e2 := k.eq r2
  subst e2
  obtain ⟨P, Z, p, hx⟩ := kit_ofE I r1 ty
  exact PySem.W.kia_one Z I.kIn p e hx fun tk => ⟨.bl b, H, I.tok tk, rfl, q⟩
theorem call_isET : CallR X (.builtin "isinstance") (rIsET X.K) := by
  intro pins s σ H xs us Q I r h
  obtain ⟨x, tp, cs, t, ws, b, rfl, hT, k, ty, e, q⟩ := h
  obtain ⟨u1, u2, rfl, r1, r2⟩ := vals2 r
  cases (show u2 = Value.ref tp from r2)
  obtain ⟨P, Z, p, hx⟩ := kit_ofE I r1 ty
  obtain ⟨_, its, rv, o, h1, h2, n, h3⟩ := (show ObjOk X.prog X.w H s.heap tp (.tup cs) from I.hok tp _ hT)
  have e3 := ClsV.all k rv
  subst e3
  obtain ⟨oc, od, dt, sl⟩ := o
  simp only at h2 h3
  subst h2 h3
  exact PySem.W.kia_tup Z I.kIn p h1 e hx fun tk => ⟨.bl b, H, I.tok tk, rfl, q⟩
/-- what isinstance says of None (s0), and of the exceptions by their classes' names -/
def isEW (s0 : Bool) (l : List (Str × Bool)) (w : W) (μ : M) (R : DQ) : Prop := match w with
  | .d .none => R (.d (.bool s0)) μ
  | .v (.ref a) => onS (μ a) fun m => match m with
    | .exc nm a' none => a' = a ∧ onS (l.lookup nm) fun b => R (.d (.bool b)) μ
    | _ => False
  | _ => False
def tIsE (s0 : Bool) (l : List (Str × Bool)) (te : DTE) : DTE := fun ρ μ R => te ρ μ fun w μ1 => isEW s0 l w μ1 R
theorem isEW_ok {K : PySem.W.Frag} {f : Value → Option Bool} {s0 : Bool} {l : List (Str × Bool)} (h0 : f (.type "NoneType") = some s0) (hl : CatOk K f l) (hx : ∀ nm C, nm ∈ l.map (·.1) → clsN K nm C → ExcC K C) {F H G : Hp} {μ : M} {w : W} {v : V} {R : DQ} (c : Cn K F H μ G) (r : Rw K F v w) (h : isEW s0 l w μ R) :
    ∃ t b, TyE K H v t ∧ f t = some b ∧ R (.d (.bool b)) μ := by
  unfold isEW at h
  split at h
  · cases (show v = .non from by cases (show Rp K F v .none from r); rfl)
    exact ⟨_, _, .ty (.base .non), h0, h⟩
  · rename_i a
    cases (show v = V.ref a from r)
    obtain ⟨m, em, h2⟩ := onS_ok h
    clear h
    split at h2
    · rename_i nm a'
      obtain ⟨ea, h3⟩ := h2
      subst ea
      obtain ⟨b, eb, h4⟩ := onS_ok h3
      clear h3
      obtain ⟨_, _, o, ho, C, hn, rfl⟩ := c.mu _ _ em
      have hm : nm ∈ l.map (·.1) := by
        clear hl hx h4 em hn ho
        induction l with
        | nil => cases eb
        | cons x l ih =>
          obtain ⟨y, z⟩ := x
          rw [List.lookup_cons] at eb
          cases e : nm == y with
          | true => have := eq_of_beq e; subst this; exact List.mem_cons_self
          | false => rw [e] at eb; exact List.mem_cons_of_mem _ (ih eb)
      exact ⟨_, b, .exc ho (hx nm C hm hn), hl nm b C eb hn, h4⟩
    · exact h2.elim
  · exact h.elim
theorem de_isE {x : Str} {p pos : Pos} {e ce : Expr} {te : DTE} {v : V} {u : Value} {s0 : Bool} {l : List (Str × Bool)} (h0 : PySem.W.kitOne X.K (.type "NoneType") u = some s0) (hl : CatOk X.K (fun t => PySem.W.kitOne X.K t u) l) (hx : ∀ nm C, nm ∈ l.map (·.1) → clsN X.K nm C → ExcC X.K C)
    (hg : Gl X x) (hm : X.mg x = none) (hv : bootBuiltins x = some (.builtin "isinstance")) (he : DE X e te) (hc : PE X ce (tC v)) (hk : ClsV v u)
    (hn : x ≠ "__name__") (hdb : (x == ("__debug__" : Str)) = false) (hs1 : starEach [e, ce] X.env = (false, eval e X.env) :: starEach [ce] X.env) (hs2 : starEach [ce] X.env = (false, eval ce X.env) :: starEach [] X.env) (hpl : (backTo pos (starEach [ce] X.env)).any (·.1) = false) :
    DE X (.Call (.Name x p) [e, ce] [] pos) (tIsE s0 l te) := by
  refine ⟨PE_mono (pe_callB call_isE1 hg hm hv (pa_cons he.pe (pa_cons hc pa_nil hs2) hs1) hn hdb hs1 hpl) fun σ H Q ⟨F, ρ, μ, G, R, c, rs, h, fin⟩ => ?_⟩
  refine lE_go c rs h fun wx μ1 F1 H1 x r1 s1 c1 q1 => ?_
  obtain ⟨t, b, ht, hb, r1⟩ := isEW_ok h0 hl hx c1 q1 r1
  exact ⟨x, v, t, u, b, rfl, hk, ht, hb, fin _ _ _ _ _ r1 s1 c1 (.bl b)⟩
theorem de_isET {x : Str} {p pos p2 : Pos} {n2 : Nat} {e : Expr} {es : List Expr} {te : DTE} {cs : List V} {us : List Value} {s0 : Bool} {l : List (Str × Bool)} (h0 : PySem.W.kitAny X.K (.type "NoneType") us = some s0) (hl : CatOk X.K (fun t => PySem.W.kitAny X.K t us) l) (hx : ∀ nm C, nm ∈ l.map (·.1) → clsN X.K nm C → ExcC X.K C)
    (hg : Gl X x) (hm : X.mg x = none) (hv : bootBuiltins x = some (.builtin "isinstance")) (he : DE X e te) (ht : PCs X es cs us) (hz : cs.length ≤ sizeLine)
    (hn : x ≠ "__name__") (hdb : (x == ("__debug__" : Str)) = false) (hs1 : starEach [e, .Tuple es n2 p2] X.env = (false, eval e X.env) :: starEach [.Tuple es n2 p2] X.env)
    (hs2 : starEach [.Tuple es n2 p2] X.env = (false, eval (.Tuple es n2 p2) X.env) :: starEach [] X.env) (hpl : (backTo pos (starEach [.Tuple es n2 p2] X.env)).any (·.1) = false) :
    DE X (.Call (.Name x p) [e, .Tuple es n2 p2] [] pos) (tIsE s0 l te) := by
  refine ⟨PE_mono (pe_callB call_isET hg hm hv (pa_cons he.pe (pa_cons (pe_tup ht.pa) pa_nil hs2) hs1) hn hdb hs1 hpl) fun σ H Q ⟨F, ρ, μ, G, R, c, rs, h, fin⟩ => ?_⟩
  refine lE_go c rs h fun wx μ1 F1 H1 x r1 s1 c1 q1 => ⟨hz, fun p hp => ?_⟩
  obtain ⟨s, c'⟩ := c1.lay hp (.tup cs)
  obtain ⟨t, b, ht', hb, r1⟩ := isEW_ok h0 hl hx c' (q1.mono s) r1
  exact ⟨x, p, cs, t, us, b, rfl, upd_same, ht.cl, ht', hb, fin _ _ _ _ _ r1 (s1.trans s) c' (.bl b)⟩
end
end DL

set_option Elab.async false
set_option linter.all false
set_option maxRecDepth 100000
set_option maxHeartbeats 2000000
/-! o.f += n -/
namespace DL
open PySem PySem.Spec PyProof.Rows L2
section
variable {X : Cx} {C : Addr} {o value : Expr} {f : Str} {tpos pos : Pos}
def sFldAugD (C : Addr) (f : Str) (to tv : DTE) : DTS := fun D ρ μ => to ρ μ fun o μ1 => insAt o μ1 C fun _ _ fs => onS (fs.lookup f) fun w => tv ρ μ1 fun u μ2 => match w, u with
  | .d (.int i), .d (.int j) => insAt o μ2 C fun a dx' fs' => fs'.length < 1000 ∧ D.nx ρ (mset μ2 a (.ins C dx' (putWf f (.d (.int (i + j))) fs')))
  | _, _ => False
theorem ds_fldaug {to tv : DTE} (cl : Cls X.K C) (n : NoAttr X.K C f) (ho : DE X o to) (hv : DE X value tv) : DS X (.AugAssign (.Attribute o f tpos) .Add value pos) (sFldAugD C f to tv) :=
  ⟨PS_mono (ps_fldaug ho.pe hv.pe in_add) fun D σ H ⟨F, ρ, μ, G, R, c, rs, h, fin⟩ => lE_go c rs h fun w μ1 F1 H1 x r1 s1 c1 q1 => by
    obtain ⟨a, dx, fs, rfl, em, h⟩ := insAt_ok r1
    obtain ⟨w, ew, h⟩ := onS_ok h
    cases (show x = .ref a from q1)
    obtain ⟨_, _, _, ho, vs, rfl, kv⟩ := c1.mu a _ em
    obtain ⟨v, ev, rv⟩ := kv_lookup kv ew
    refine ⟨a, C, dx, vs, v, rfl, ho, cl, n, ev, ?_⟩
    refine lE_go c1 (rs.mono s1) h fun u μ2 F2 H2 y r2 s2 c2 q2 => ?_
    split at r2
    · rename_i i j
      obtain ⟨a', dx', fs', e', em', hl, h⟩ := insAt_ok r2
      cases e'
      obtain ⟨_, _, _, ho', vs', rfl, kv'⟩ := c2.mu a _ em'
      cases (show v = .int i from by cases (show Rp X.K _ v (.int i) from rv); rfl)
      cases (show y = .int j from by cases (show Rp X.K _ y (.int j) from q2); rfl)
      exact ⟨i, j, rfl, rfl, dx', vs', ho', by rw [kv_len kv']; exact hl, fin.nx _ _ _ _ _ h (s1.trans s2) (c2.write em' ⟨_, rfl, kv_put (w := .d (.int (i + j))) (show Rp X.K F2 (.int (i + j)) (.int (i + j)) from .int _) kv'⟩) (rs.mono (s1.trans s2))⟩
    · exact r2.elim⟩
end
section
variable {X : Cx} {CX : CXT} {k : Nat} {f C : Addr} {fd : FuncData} {ps : List Str} {x : Str} {p pos : Pos}
/-- C() -/
theorem de_make0 {ds : DSp} (M : Mk X.K C f) (F : FG X.prog X.w X.K X.mg X.base CX0 k f fd ps (lSp X.K ds)) (hr : Room (k + 1) X.A) (hgd : X.A.guards = some []) (hg : Gl X x) (hm : X.mg x = some (.ref C)) (hb : L2.Binds X.K fd ps [])
    (hdb : (x == ("__debug__" : Str)) = false) : DE X (.Call (.Name x p) [] [] pos) (tMakeC C ds tNilD) :=
  ⟨⟨fun pins s σ H Q I h => by
    obtain ⟨F', ρ, μ, G, R, c, rs, h, fin⟩ := h
    refine wpAny_Call_Name_kw (ld_glob I hg hm ?_ hdb)
    refine PySem.W.callWith_K0 I.kIn M.kp (run_makeG (us := []) (vs := []) (dvs := []) (ds := []) (E := E0) M F hr hgd hb .nil pass0 I .nil fun x dx hx hdx hne => ?_)
    have c2 := c.hide hdx (.own x)
    have hx2 : upd H dx (.own x) x = none := by rw [upd_ne (Ne.symm hne)]; exact hx
    have c3 := c2.born (p := x) (o := .ins C dx []) (m := .ins C dx []) hx2 ⟨[], rfl, .nil⟩
    refine ⟨F', _, G, _, _, c3, .cons (show Rw X.K F' (V.ref x) (.v (.ref x)) from rfl) .nil, h x dx (c.noM hx), fun w μ' F2 H' v ⟨ew, h⟩ s c q => ?_⟩
    subst ew
    cases (show Rp X.K F2 v .none from q)
    exact ⟨rfl, fin _ _ _ _ _ h s c rfl⟩⟩⟩
end
/-! range with a step -/
def rangeCW (lo c : Int) (n : Nat) : List W := (List.range n).map fun (i : Nat) => W.d (.int (lo + (i : Int) * c))
def tItR3 (t : DTA) : DTI := fun ρ μ R => t ρ μ fun ws μ1 => match ws with
  | [.d (.int i), .d (.int j), .d (.int c)] => ∃ n, RgC i j c n ∧ R (rangeCW i c n) μ1
  | _ => False
theorem yl_rangeC {K : PySem.W.Frag} {F : Hp} {lo c : Int} {n : Nat} : Yields K F (Itc lo c n) (rangeCW lo c n) := by
  intro F' H μ G s c'
  refine ⟨fun i w ew => ?_, by show n ≤ _; simp [rangeCW]⟩
  unfold rangeCW at ew
  rw [List.getElem?_map] at ew
  by_cases hi : i < n
  · rw [List.getElem?_range hi] at ew
    cases ew
    refine ⟨hi, fun x H' hy => ?_⟩
    obtain ⟨rfl, rfl⟩ := hy
    exact ⟨F', Same.refl _, c', .int _⟩
  · rw [List.getElem?_eq_none (by simpa using hi)] at ew
    cases ew
section
variable {X : Cx} {tg : Expr}
theorem di_range3 {a b c : Expr} {ta : DTA} {p pos : Pos} (hg : Gl X "range") (hm : X.mg "range" = none) (ha : DA X [a, b, c] ta) (hs : starEach [a, b, c] X.env = (false, eval a X.env) :: starEach [b, c] X.env) (hpl : (backTo pos (starEach [b, c] X.env)).any (·.1) = false) : DI X tg (.Call (.Name "range" p) [a, b, c] [] pos) (tItR3 ta) :=
  ⟨PI_mono (pi_range3 hg hm ha.pa hs hpl) fun σ H Q ⟨F, ρ, μ, G, R, c, rs, h, fin⟩ => lA_go c rs h fun ws μ1 F1 H1 vs r1 s1 c1 q1 => by
    split at r1
    · obtain ⟨n, hr, r1⟩ := r1
      cases q1 with
      | cons r t => cases t with
        | cons r' t => cases t with
          | cons r'' t => cases t; cases r; cases r'; cases r''; exact ⟨_, _, _, n, rfl, hr, fin _ _ _ _ _ r1 s1 c1 yl_rangeC⟩
    · exact r1.elim⟩
end
end DL

set_option Elab.async false
set_option linter.all false
set_option maxRecDepth 100000
set_option maxHeartbeats 2000000
/-! repr of any data that holds no list, or holds no dict -/
namespace DL
open PySem PySem.Spec PyProof.Rows L2
mutual
def noL : PyData → Bool
  | .list _ => false
  | .tuple ds => noLs ds
  | .dict kvs => noLk kvs
  | _ => true
def noLs : List PyData → Bool
  | [] => true
  | d :: ds => noL d && noLs ds
def noLk : List (PyData × PyData) → Bool
  | [] => true
  | (k, v) :: r => (noL k && noL v) && noLk r
end
theorem key_reads {P : Program} {w : World} {K : PySem.W.Frag} {F : Hp} {h : Heap} {k : Key} {d : PyData} {u : Value} (r : Rp K F (kV k) d) (hi : (mixKind P w).is k u = true) : Reads h u d [] := by
  cases k with
  | inl i =>
    cases (show d = .int i from by cases (show Rp K F (.int i) d from r); rfl)
    rcases keyIs_shape (k := .inl i) (v := u) hi with ⟨j, t, e, rfl⟩ | ⟨x, t, e, rfl⟩
    · cases e; exact Reads.int _ _
    · cases e
  | inr x =>
    cases (show d = .str x from by cases (show Rp K F (.str x) d from r); rfl)
    rcases keyIs_shape (k := .inr x) (v := u) hi with ⟨j, t, e, rfl⟩ | ⟨y, t, e, rfl⟩
    · cases e
    · cases e; exact Reads.str _ _
section
variable {X : Cx} {pins : List (Addr × Obj)} {σ : L2.St} {F H : Hp} {s : Shared}
mutual
theorem Rp.readsD (I : Inv X pins σ H s) (e : Same F H) : ∀ (d : PyData) (v : V) (u : Value), noL d = true → Rp X.K F v d → RelV v u → ∃ as, Reads s.heap u d as ∧ sysModules ∉ as
  | .none, _, _, _, h, r => by cases h; cases r; exact ⟨_, Reads.none, by simp⟩
  | .bool b, _, _, _, h, r => by cases h; cases r; exact ⟨_, Reads.bool b, by simp⟩
  | .int i, _, _, _, h, r => by cases h; obtain ⟨t, rfl⟩ := r; exact ⟨_, Reads.int i t, by simp⟩
  | .str x, _, _, _, h, r => by cases h; obtain ⟨t, rfl⟩ := r; exact ⟨_, Reads.str x t, by simp⟩
  | .list ds, _, _, pl, h, r => by cases pl
  | .tuple ds, _, _, pl, h, r => by
    cases h with
    | tup hs ha =>
      cases r
      obtain ⟨its, rv, ⟨o, ho, hc, n, hd⟩, _⟩ := I.tuple (SqT_mono e hs)
      obtain ⟨as, hr, hn⟩ := Rp.readsDs I e ds _ its pl ha rv
      exact ⟨_, Reads.tuple ho hc hd hr, hn⟩
  | .dict kvs, _, _, pl, h, r => by
    cases h with
    | dct hs hk =>
      cases r
      obtain ⟨_, hsm, vs, kv, o, es, ep, h1, hx, h2, _, hp, _⟩ := dk_of I.hok (e _ _ hs)
      obtain ⟨as, bs, r1, r2, n1, n2⟩ := Rp.readsDk I e kvs _ vs es.toList pl hk kv hp
      refine ⟨_, Reads.dict h1 hx.1 h2 r1 r2, ?_⟩
      have := beq_eq_false_iff_ne.mp hsm
      simp only [List.cons_append, List.mem_cons, List.mem_append, not_or]
      exact ⟨fun z => this z.symm, n1, n2⟩
theorem Rp.readsDs (I : Inv X pins σ H s) (e : Same F H) : ∀ (ds : List PyData) (vs : List V) (us : List Value), noLs ds = true → RpAll X.K F vs ds → Vals vs us → ∃ as, ReadsAll s.heap us ds as ∧ sysModules ∉ as
  | [], _, _, _, h, r => by cases h; cases r; exact ⟨_, ReadsAll.nil, by simp⟩
  | d :: ds, _, _, pl, h, r => by
    cases h with
    | cons h1 h2 =>
      cases r with
      | cons r1 r2 =>
        simp only [noLs, Bool.and_eq_true] at pl
        obtain ⟨as, q1, n1⟩ := Rp.readsD I e d _ _ pl.1 h1 r1
        obtain ⟨bs, q2, n2⟩ := Rp.readsDs I e ds _ _ pl.2 h2 r2
        exact ⟨_, ReadsAll.cons q1 q2, by simp only [List.mem_append, not_or]; exact ⟨n1, n2⟩⟩
theorem Rp.readsDk (I : Inv X pins σ H s) (e : Same F H) : ∀ (kvs : List (PyData × PyData)) (ks : List (Key × V)) (vs : List (Key × Value)) (es : List DictEntry), noLk kvs = true → RpKv X.K F ks kvs → KV ks vs → Pairs (mixKind X.prog X.w) es vs →
    ∃ as bs, ReadsAll s.heap (es.map (·.key)) (kvs.map (·.1)) as ∧ ReadsAll s.heap (es.map (·.val)) (kvs.map (·.2)) bs ∧ sysModules ∉ as ∧ sysModules ∉ bs
  | [], _, _, _, _, h, r, p => by
    cases h; cases r; cases p
    exact ⟨_, _, ReadsAll.nil, ReadsAll.nil, by simp, by simp⟩
  | (k, d) :: kvs, _, _, _, pl, h, r, p => by
    cases h with
    | cons h1 h2 h3 =>
      cases r with
      | cons r1 r2 =>
        obtain ⟨e1, rv⟩ := r1
        cases p with
        | cons p1 p2 p3 =>
          simp only [noLk, Bool.and_eq_true] at pl
          have e1 := e1
          dsimp only at e1
          subst e1
          have k1 := key_reads (h := s.heap) h1 p1
          have rv2 := rv
          rw [← p2] at rv2
          obtain ⟨b1, q2, n2⟩ := Rp.readsD I e d _ _ pl.1.2 h2 rv2
          obtain ⟨as, bs, q3, q4, n3, n4⟩ := Rp.readsDk I e kvs _ _ _ pl.2 h3 r2 p3
          exact ⟨_, _, ReadsAll.cons k1 q3, ReadsAll.cons q2 q4, by simpa using n3, by simp only [List.mem_append, not_or]; exact ⟨n2, n4⟩⟩
end
end
def rReprY (K : PySem.W.Frag) : List V → Hp → VK → Prop := fun xs H Q => ∃ F p d, xs = [V.ref p] ∧ Same F H ∧ Rp K F (.ref p) d ∧ noL d = true ∧ d.showable = true ∧ d.depth ≤ 60 ∧ d.shown.length ≤ sizeLine ∧ Q (.str d.shown) H
section
variable {X : Cx}
theorem call_reprY (hu : X.A.units + 100 < cLine) (hg : X.A.guards = some []) : CallR X (.builtin "repr") (rReprY X.K) := by
  intro pins s σ H xs us Q I r ⟨F, p, d, e, sm, rp, pl, sh, dp, sz, q⟩
  subst e
  cases r with
  | cons r t =>
    cases t
    obtain ⟨as, rd, hn⟩ := Rp.readsD I sm d _ _ pl rp r
    cases r
    exact repr_of_reads' rd sh (fun _ => hn) hg (by omega) (fun _ _ z => z) (fun h' u tk k => ⟨.str _, H, I.kept k, ⟨_, rfl⟩, q⟩) sz
theorem call_reprB : CallR X (.builtin "repr") (fun xs H Q => ∃ b, xs = [V.bl b] ∧ Q (.str (PyData.shown (.bool b))) H) := by
  intro pins s σ H xs us Q I r ⟨b, e, q⟩
  subst e
  cases r with
  | cons r t =>
    cases t
    cases r
    cases b with
    | true => exact PySem.P.repr_of_bool ⟨.str (Str.ofString "True"), H, I.tok _, ⟨_, rfl⟩, q⟩
    | false => exact PySem.P.repr_of_bool ⟨.str (Str.ofString "False"), H, I.tok _, ⟨_, rfl⟩, q⟩
def rReprZ (K : PySem.W.Frag) : List V → Hp → VK → Prop := fun xs H Q => ((rReprA K xs H Q ∨ rReprY K xs H Q) ∨ ∃ b, xs = [V.bl b] ∧ Q (.str (PyData.shown (.bool b))) H) ∨ ∃ i : Int, xs = [V.int i] ∧ i.natAbs.log2 < 1920 ∧ Q (.str (toString i)) H
theorem call_reprZ (hu : X.A.units + 100 < cLine) (hg : X.A.guards = some []) : CallR X (.builtin "repr") (rReprZ X.K) := DL.CallR.or (DL.CallR.or (DL.CallR.or (call_reprA hu hg) (call_reprY hu hg)) call_reprB) SkE.call_repr_int
end
/-- what repr tells of a thing of any kind -/
def reprZ : DC := fun ws μ R => match ws with
  | [.d (.dict kvs)] => noLk kvs = true ∧ (PyData.dict kvs).showable = true ∧ (PyData.dict kvs).depth ≤ 60 ∧ (PyData.shown (.dict kvs)).length ≤ sizeLine ∧ R (.d (.str (PyData.shown (.dict kvs)))) μ
  | [.d (.tuple ds)] => (noLs ds = true ∧ (PyData.tuple ds).showable = true ∧ (PyData.tuple ds).depth ≤ 60 ∧ (PyData.shown (.tuple ds)).length ≤ sizeLine ∧ R (.d (.str (PyData.shown (.tuple ds)))) μ) ∨ reprX [.d (.tuple ds)] μ R
  | [.d (.bool b)] => R (.d (.str (PyData.shown (.bool b)))) μ
  | [.d (.int i)] => i.natAbs.log2 < 1920 ∧ R (.d (.str (Str.ofString (toString i)))) μ
  | ws => reprX ws μ R
section
variable {K : PySem.W.Frag}
theorem l_reprZ : LiftA K (rReprZ K) reprZ := by
  intro F H G μ vs ws R Q c rv h fin
  unfold reprZ at h
  split at h
  · rename_i kvs
    cases rv with
    | cons r t =>
      cases t
      cases r with
      | dct e k => exact .inl (.inl (.inr ⟨F, _, .dict kvs, rfl, c.sub, .dct e k, h.1, h.2.1, h.2.2.1, h.2.2.2.1, fin.flat c h.2.2.2.2 (.str _)⟩))
  · rename_i ds
    rcases h with h | h
    · cases rv with
      | cons r t =>
        cases t
        cases r with
        | tup e k => exact .inl (.inl (.inr ⟨F, _, .tuple ds, rfl, c.sub, .tup e k, h.1, h.2.1, h.2.2.1, h.2.2.2.1, fin.flat c h.2.2.2.2 (.str _)⟩))
    · exact .inl (.inl (.inl (l_reprX c rv h fin)))
  · rename_i b
    cases rv with
    | cons r t =>
      cases t
      cases (show Rp K F _ (.bool b) from r)
      exact .inl (.inr ⟨b, rfl, fin.flat c h (.str _)⟩)
  · rename_i i
    cases rv with
    | cons r t =>
      cases t
      cases (show Rp K F _ (.int i) from r)
      exact .inr ⟨i, rfl, h.1, fin.flat c h.2 (.str _)⟩
  · exact .inl (.inl (.inl (l_reprX c rv h fin)))
end
section
variable {μ : M} {R : DQ}
theorem q_reprZN : reprZ [.d .none] μ R = reprX [.d .none] μ R := rfl
theorem q_reprZS {z : Str} : reprZ [.d (.str z)] μ R = reprX [.d (.str z)] μ R := rfl
theorem q_reprZL {ds : List PyData} : reprZ [.d (.list ds)] μ R = reprX [.d (.list ds)] μ R := rfl
theorem q_reprZI {i : Int} : reprZ [.d (.int i)] μ R = (i.natAbs.log2 < 1920 ∧ R (.d (.str (Str.ofString (toString i)))) μ) := rfl
theorem q_reprZB {b : Bool} : reprZ [.d (.bool b)] μ R = R (.d (.str (PyData.shown (.bool b)))) μ := rfl
end
/-! a list == [] -/
def rEqL0 (K : PySem.W.Frag) : R2 := fun x y H Q => ∃ a b xs, x = .ref a ∧ y = .ref b ∧ SqL K H a xs ∧ SqL K H b [] ∧ Q (.bl xs.isEmpty) H
theorem op_eqL0 {X : Cx} (hu : X.A.units + 100 < cLine) : OpR X (compareOp .Eq) (rEqL0 X.K) := by
  intro pins s σ H x y v u Q I rx ry h
  obtain ⟨a, b, xs, rfl, rfl, ea, eb, q⟩ := h
  obtain rfl : v = Value.ref a := rx
  obtain rfl : u = Value.ref b := ry
  obtain ⟨its, r1, p1, _⟩ := I.list ea
  obtain ⟨its2, r2, p2, _⟩ := I.list eb
  cases r2
  cases xs with
  | nil =>
    cases r1
    exact PySem.SeqAt.eq_listAt (e := fun _ => true) p1.isList p2.isList rfl (by omega) (fun j h1 _ => by simp at h1) ⟨.bl true, H, I, rfl, q⟩
  | cons x xs =>
    cases r1 with
    | cons r1 r1' => exact PySem.SeqAt.eq_list_lengthsAt p1.isList p2.isList (by simp) (by omega) ⟨.bl false, H, I, rfl, q⟩
def eqL0 : D2 := fun x y μ R => match x, y with
  | .d (.list ds), .d (.list []) => R (.d (.bool ds.isEmpty)) μ
  | _, _ => False
theorem l_eqL0 {K : PySem.W.Frag} : Lift2 K (rEqL0 K) eqL0 := by
  intro F H G μ x y wx wy R Q c rx ry h fin
  unfold eqL0 at h
  split at h
  · rename_i ds
    cases rx with
    | lst e k =>
      cases ry with
      | lst e2 k2 =>
        cases k2
        refine ⟨_, _, _, rfl, rfl, .inl (.inl (c.sub _ _ e)), .inl (.inl (c.sub _ _ e2)), ?_⟩
        have : ∀ {vs : List V} {ds : List PyData}, RpAll K F vs ds → vs.isEmpty = ds.isEmpty := fun k => by cases k <;> rfl
        rw [this k]
        exact fin.flat c h (.bl _)
  · exact h.elim
theorem q_eqL0 {ds : List PyData} {μ : M} {R : DQ} : eqL0 (.d (.list ds)) (.d (.list [])) μ R = R (.d (.bool ds.isEmpty)) μ := rfl
end DL

set_option Elab.async false
set_option linter.all false
set_option maxRecDepth 100000
set_option maxHeartbeats 2000000
/-! a number and a truth: sums and products -/
namespace DL
open PySem PySem.Spec PyProof.Rows L2
def bIn (b : Bool) : Int := if b = true then 1 else 0
section
variable {X : Cx}
theorem op_addIB : OpR X (binaryOp .Add) (fun x y H Q => ∃ i b, x = V.int i ∧ y = V.bl b ∧ Q (.int (i + bIn b)) H) := by
  intro pins s σ H x y v u Q I rx ry ⟨i, b, e1, e2, q⟩
  subst e1; subst e2
  obtain ⟨t, rfl⟩ := rx
  cases ry
  exact PySem.add_int_bool ⟨.int _, H, I.tok _, ⟨_, rfl⟩, q⟩
theorem op_mulIB : OpR X (binaryOp .Mult) (fun x y H Q => ∃ i b, x = V.int i ∧ y = V.bl b ∧ Q (.int (i * bIn b)) H) := by
  intro pins s σ H x y v u Q I rx ry ⟨i, b, e1, e2, q⟩
  subst e1; subst e2
  obtain ⟨t, rfl⟩ := rx
  cases ry
  exact PySem.IntBool.mul_int_bool ⟨.int _, H, I.tok _, ⟨_, rfl⟩, q⟩
def addN : D2 := fun x y μ R => match x, y with
  | .d (.int i), .d (.bool b) => R (.d (.int (i + bIn b))) μ
  | .d (.int i), .d (.int j) => R (.d (.int (i + j))) μ
  | _, _ => False
def mulN : D2 := fun x y μ R => match x, y with
  | .d (.int i), .d (.bool b) => R (.d (.int (i * bIn b))) μ
  | .d (.int i), .d (.int j) => CMulW i j ∧ R (.d (.int (i * j))) μ
  | _, _ => False
def rAddN (K : PySem.W.Frag) : R2 := fun x y H Q => rAddAll K x y H Q ∨ ∃ i b, x = V.int i ∧ y = V.bl b ∧ Q (.int (i + bIn b)) H
def rMulN (K : PySem.W.Frag) : R2 := fun x y H Q => rMulZ K x y H Q ∨ ∃ i b, x = V.int i ∧ y = V.bl b ∧ Q (.int (i * bIn b)) H
theorem op_addTF : OpR X (binaryOp .Add) (rAddN X.K) := OpR.or op_addAll op_addIB
theorem op_mulTF : OpR X (binaryOp .Mult) (rMulN X.K) := OpR.or op_mulZ op_mulIB
theorem l_addTF {K : PySem.W.Frag} : Lift2 K (rAddN K) addN := by
  intro F H G μ x y wx wy R Q c rx ry h fin
  unfold addN at h
  split at h
  · cases rx; cases ry
    exact .inr ⟨_, _, rfl, rfl, fin.flat c h (.int _)⟩
  · refine .inl (l_add c rx ry (R := R) ?_ fin)
    exact h
  · exact h.elim
theorem l_mulTF {K : PySem.W.Frag} : Lift2 K (rMulN K) mulN := by
  intro F H G μ x y wx wy R Q c rx ry h fin
  unfold mulN at h
  split at h
  · cases rx; cases ry
    exact .inr ⟨_, _, rfl, rfl, fin.flat c h (.int _)⟩
  · refine .inl (l_mulZ c rx ry (R := R) ?_ fin)
    exact h
  · exact h.elim
end
section
variable {μ : M} {R : DQ} {i j : Int} {b : Bool}
theorem q_addNI : addN (.d (.int i)) (.d (.int j)) μ R = R (.d (.int (i + j))) μ := rfl
theorem q_addNB : addN (.d (.int i)) (.d (.bool b)) μ R = R (.d (.int (i + bIn b))) μ := rfl
theorem q_mulNI : mulN (.d (.int i)) (.d (.int j)) μ R = (CMulW i j ∧ R (.d (.int (i * j))) μ) := rfl
theorem q_mulNB : mulN (.d (.int i)) (.d (.bool b)) μ R = R (.d (.int (i * bIn b))) μ := rfl
end
end DL

set_option Elab.async false
set_option linter.all false
set_option maxRecDepth 100000
set_option maxHeartbeats 4000000
namespace K39
open PySem PySem.Spec PyProof.Rows L2 DL
local macro_rules | `(tactic| walk_at "dlsym") => `(tactic| (try simp only [startD_eq, tSeqD, tSetD, tRetD, tRetND, DL.tIfS, tDropD, tAsgD, gSetD, gNameD, tTru, tTst, tNotB, tAndB, tOrB, tVarD, tK, tOp2, tUn1, tAndD, tOrD, tNotD, tIfD, tChainD, tConsD, tNilD, tTupD, tLstD, tLstM, tCallB, tCallD, tMetD, tSlD, tNoD, tPartD, tYesD, tNextD, tFrz, tForD, tItL, tItT, tItS, tItR, tItR2, tCompG, cFrz, cMut, tDict0, tDict1, tAugD, wipeD, mset_same, mset_mset, List.getElem?_cons_zero, List.getElem?_cons_succ, List.set_cons_zero, List.set_cons_succ, List.map_cons, List.map_nil, List.length_cons, List.length_nil, List.append_nil, List.nil_append, List.cons_append, List.replicate_succ, List.replicate_zero, Nat.sub_self, Nat.reduceSub, Nat.reduceAdd, if_true, if_false, reduceCtorEq, Bool.false_eq_true, Nat.zero_add, true_and, Bool.not_true, Bool.not_false, Bool.false_xor, ↓reduceIte, q_addI, q_addS, q_addL, q_addT, q_sub, q_mulI, q_mulL, q_mulT, q_num, q_neg, q_cmpI, q_cmpS, q_eq, q_ne, q_isN, q_isB, q_inSc, q_inT, q_inL, q_inAS, q_inAN, q_inAB, q_inAI, q_inAL, q_inAT, q_inAD, q_ixL, q_ixT, q_ixS, q_ixM, q_onS, q_slL, q_slT, q_slS, q_slX, q_truN, q_truB, q_truI, q_truS, q_truL, q_truT, q_lenS, q_lenL, q_lenT, q_lenX, q_int2, q_abs, q_all, q_any, q_sum, q_isi, q_reprL, q_reprT, q_apd, q_ext, q_joinL, q_split, q_str1, q_tyS, q_tyL, q_tyM, q_asD, q_asD0, q_asDc, q_at0, q_at1, q_at2, q_n0, q_n1, q_n2, q_tyN, q_tyB, q_tyI, q_tyS2, q_tyL2, q_tyT2, q_tyD2, k_ss, k_ns, k_bs, k_is_, k_ls, k_ts, k_ds, k_nt, k_bt, k_it, k_st, k_lt, k_tt, k_dt, k_ni, k_bi, k_ii, k_si, k_li, k_ti, k_di, k_nb, k_bb, k_ib, k_sb, k_lb, k_tb, k_db, q_bools, q_strs, q_ints, q_bools0, q_strs0, q_ints0, q_asDd, sizeLit, Nat.reduceLeDiff, Nat.reduceLT, Int.reduceLE, Int.reduceLT, Int.reducePow, Int.reduceNeg, Nat.reducePow, Int.reduceToNat, Int.reduceSub, Int.reduceAdd, and_true, implies_true, PyData.plain, PyData.plainAll, PyData.showable, PyData.showableAll, PyData.depth, PyData.depthAll, Bool.and_self, Bool.and_true, Bool.true_and, Nat.max_self, Nat.min_self, Nat.reduceLeDiff, Nat.zero_le, q_mulXI, q_mulXS, q_mulXL, q_mulXT, q_str, q_int, q_step, tTab, tJsD, tFmtD, tRevD, q_revL, q_revM, tParD, q_joinS, q_reprGN, q_reprGT, q_reprGL, q_eqVv, q_neVv, q_vwd, q_vws, q_vws0, q_isiV, q_tyNd, q_tyNs, q_reprVN, q_reprVT, q_reprVL, tStarD, q_seqT, q_seqL, tCompP, tItET, tItEL, tTabD, q_pop0, q_pop, q_revMD, q_tupofL, q_tupofT, q_atc0, q_atc1, q_atc2, q_atc3, q_atc4, or_self, or_true, true_or, false_or, or_false, q_lenM, q_asDapp, q_gTup2, q_gTup3, kk_NoneType_list, kk_NoneType_dict, kk_bool_list, kk_bool_dict, kk_int_list, kk_int_dict, kk_str_list, kk_str_dict, kk_list_list, kk_list_dict, kk_tuple_list, kk_tuple_dict, kk_dict_list, kk_dict_dict, q_eqSS, q_eqII, q_mulYI, q_mulYS, q_mulYL, q_mulYT, q_tyNu, tTupM, tFrzE, q_frzd, q_extT, q_clr, q_intGb, q_intGi, q_intGs, tDGetD, tDictD, dvals, dzip, tRevT, q_eqDE, q_reprXN, tDGet0, q_addNI, q_addNB, q_mulNI, q_mulNB, q_reprZN, q_reprZS, q_reprZL, q_reprZI, q_reprZB, q_eqL0, tFldD, sFldD, tMethC, tMakeC, tDictM, tDGetM, tDInM, sDPutM, q_insAt, q_dctAt, q_keyI, q_keyS, q_lenMd, q_lenMs, q_lenMv, q_lenI, tRevA, q_mulGI, q_mulGS, q_mulGL, q_mulGT, q_eqXd, q_eqXi, q_eqXs, q_eqXb, q_eqXn, q_eqXl, q_eqXt, q_inXi, q_inXs, q_inXb, q_inXn, q_inXd, q_inXl, q_inXt, tNeverD, tItV, q_listML, q_listMT, q_listDL, q_listDT, q_ord, q_popAt, q_tupSL, q_tupST, q_tupSS, q_listSS, q_listSL, q_listST, q_reprXS, q_reprXT, q_reprXL, q_reprXs, q_joinAS, q_joinAL, q_joinAT, q_mulZI, q_mulZL, q_sindex, q_rmpre, tCallKD, tCallDf, tIsiT, q_strZS, q_strZI, kitBs]))
local macro_rules | `(tactic| walk_at "dlsimp") => `(tactic| (try simp only [startD_eq, tSeqD, tSetD, tRetD, tRetND, DL.tIfS, tDropD, tAsgD, gSetD, gNameD, tTru, tTst, tNotB, tAndB, tOrB, tVarD, tK, tOp2, tUn1, tAndD, tOrD, tNotD, tIfD, tChainD, tConsD, tNilD, tTupD, tLstD, tLstM, tCallB, tCallD, tMetD, tSlD, tNoD, tPartD, tYesD, tNextD, tFrz, tForD, tItL, tItT, tItS, tItR, tItR2, tCompG, cFrz, cMut, tDict0, tDict1, tAugD, wipeD, mset_same, mset_mset, List.getElem?_cons_zero, List.getElem?_cons_succ, List.set_cons_zero, List.set_cons_succ, List.map_cons, List.map_nil, List.length_cons, List.length_nil, List.append_nil, List.nil_append, List.cons_append, List.replicate_succ, List.replicate_zero, Nat.sub_self, Nat.reduceSub, Nat.reduceAdd, if_true, if_false, reduceCtorEq, Bool.false_eq_true, Nat.zero_add, true_and, Bool.not_true, Bool.not_false, Bool.false_xor, ↓reduceIte, q_addI, q_addS, q_addL, q_addT, q_sub, q_mulI, q_mulL, q_mulT, q_num, q_neg, q_cmpI, q_cmpS, q_eq, q_ne, q_isN, q_isB, q_inSc, q_inT, q_inL, q_inAS, q_inAN, q_inAB, q_inAI, q_inAL, q_inAT, q_inAD, q_ixL, q_ixT, q_ixS, q_ixM, q_onS, q_slL, q_slT, q_slS, q_slX, q_truN, q_truB, q_truI, q_truS, q_truL, q_truT, q_lenS, q_lenL, q_lenT, q_lenX, q_int2, q_abs, q_all, q_any, q_sum, q_isi, q_reprL, q_reprT, q_apd, q_ext, q_joinL, q_split, q_str1, q_tyS, q_tyL, q_tyM, q_asD, q_asD0, q_asDc, q_at0, q_at1, q_at2, q_n0, q_n1, q_n2, q_tyN, q_tyB, q_tyI, q_tyS2, q_tyL2, q_tyT2, q_tyD2, k_ss, k_ns, k_bs, k_is_, k_ls, k_ts, k_ds, k_nt, k_bt, k_it, k_st, k_lt, k_tt, k_dt, k_ni, k_bi, k_ii, k_si, k_li, k_ti, k_di, k_nb, k_bb, k_ib, k_sb, k_lb, k_tb, k_db, q_bools, q_strs, q_ints, q_bools0, q_strs0, q_ints0, q_asDd, sizeLit, Nat.reduceLeDiff, Nat.reduceLT, Int.reduceLE, Int.reduceLT, Int.reducePow, Int.reduceNeg, Nat.reducePow, Int.reduceToNat, Int.reduceSub, Int.reduceAdd, and_true, implies_true, PyData.plain, PyData.plainAll, PyData.showable, PyData.showableAll, PyData.depth, PyData.depthAll, Bool.and_self, Bool.and_true, Bool.true_and, Nat.max_self, Nat.min_self, Nat.reduceLeDiff, Nat.zero_le, q_mulXI, q_mulXS, q_mulXL, q_mulXT, q_str, q_int, q_step, tTab, tJsD, tFmtD, tRevD, q_revL, q_revM, tParD, q_joinS, q_reprGN, q_reprGT, q_reprGL, q_eqVv, q_neVv, q_vwd, q_vws, q_vws0, q_isiV, q_tyNd, q_tyNs, q_reprVN, q_reprVT, q_reprVL, tStarD, q_seqT, q_seqL, tCompP, tItET, tItEL, tTabD, q_pop0, q_pop, q_revMD, q_tupofL, q_tupofT, q_atc0, q_atc1, q_atc2, q_atc3, q_atc4, q_lenM, q_asDapp, q_gTup2, q_gTup3, kk_NoneType_list, kk_NoneType_dict, kk_bool_list, kk_bool_dict, kk_int_list, kk_int_dict, kk_str_list, kk_str_dict, kk_list_list, kk_list_dict, kk_tuple_list, kk_tuple_dict, kk_dict_list, kk_dict_dict, q_mulYI, q_mulYS, q_mulYL, q_mulYT, q_tyNu, tTupM, tFrzE, q_frzd, q_extT, q_clr, q_intGb, q_intGi, q_intGs, tDGetD, tDictD, dvals, dzip, tRevT, q_eqDE, q_reprXN, tDGet0, q_addNI, q_addNB, q_mulNI, q_mulNB, q_reprZN, q_reprZS, q_reprZL, q_reprZI, q_reprZB, q_eqL0, tFldD, sFldD, tMethC, tMakeC, tDictM, tDGetM, tDInM, sDPutM, q_insAt, q_dctAt, q_keyI, q_keyS, q_lenMd, q_lenMs, q_lenMv, q_lenI, tRevA, q_mulGI, q_mulGS, q_mulGL, q_mulGT, q_eqXd, q_eqXi, q_eqXs, q_eqXb, q_eqXn, q_eqXl, q_eqXt, q_inXi, q_inXs, q_inXb, q_inXn, q_inXd, q_inXl, q_inXt, tNeverD, tItV, q_listML, q_listMT, q_listDL, q_listDT, q_ord, q_popAt, q_tupSL, q_tupST, q_tupSS, q_listSS, q_listSL, q_listST, q_reprXS, q_reprXT, q_reprXL, q_reprXs, q_joinAS, q_joinAL, q_joinAT, q_mulZI, q_mulZL, q_sindex, q_rmpre, tCallKD, tCallDf, tIsiT, q_strZS, q_strZI, kitBs]))

def topS (i : Nat) : Stmt := PySem.Challenge.pw_doorkinds_k39_bent_of_anything.main.body.getD i (.Pass ⟨0, 0, 0, 0⟩)
def clsB : Stmt → List Stmt
  | .ClassDef _ _ _ body _ _ _ _ _ _ _ => body
  | _ => []
def clsS (i j : Nat) : Stmt := (clsB (topS i)).getD j (.Pass ⟨0, 0, 0, 0⟩)
abbrev s_d_is_whole : Stmt := topS 1
abbrev N_d_is_whole : List Str := ["thing"]
theorem sc_d_is_whole : FnScope N_d_is_whole ["thing"] (defScope s_d_is_whole) := ⟨rfl, rfl, rfl, by decide +kernel, rfl, by decide +kernel, by decide +kernel⟩
abbrev s_d_is_whole_within : Stmt := topS 2
abbrev N_d_is_whole_within : List Str := ["thing", "least", "most"]
theorem sc_d_is_whole_within : FnScope N_d_is_whole_within ["thing", "least", "most"] (defScope s_d_is_whole_within) := ⟨rfl, rfl, rfl, by decide +kernel, rfl, by decide +kernel, by decide +kernel⟩
abbrev s_d_is_whole_from : Stmt := topS 3
abbrev N_d_is_whole_from : List Str := ["thing", "least"]
theorem sc_d_is_whole_from : FnScope N_d_is_whole_from ["thing", "least"] (defScope s_d_is_whole_from) := ⟨rfl, rfl, rfl, by decide +kernel, rfl, by decide +kernel, by decide +kernel⟩
abbrev s_d_is_row_of_texts : Stmt := topS 5
abbrev N_d_is_row_of_texts : List Str := ["thing", "text"]
theorem sc_d_is_row_of_texts : FnScope N_d_is_row_of_texts ["thing"] (defScope s_d_is_row_of_texts) := ⟨rfl, rfl, rfl, by decide +kernel, rfl, by decide +kernel, by decide +kernel⟩
abbrev s_d_is_note : Stmt := topS 7
abbrev N_d_is_note : List Str := ["thing", "number"]
theorem sc_d_is_note : FnScope N_d_is_note ["thing"] (defScope s_d_is_note) := ⟨rfl, rfl, rfl, by decide +kernel, rfl, by decide +kernel, by decide +kernel⟩
abbrev s_d_is_row_of_notes : Stmt := topS 6
abbrev N_d_is_row_of_notes : List Str := ["thing", "note"]
theorem sc_d_is_row_of_notes : FnScope N_d_is_row_of_notes ["thing"] (defScope s_d_is_row_of_notes) := ⟨rfl, rfl, rfl, by decide +kernel, rfl, by decide +kernel, by decide +kernel⟩
abbrev s_d_number_of : Stmt := topS 11
abbrev N_d_number_of : List Str := ["sign", "number", "letter"]
theorem sc_d_number_of : FnScope N_d_number_of ["sign"] (defScope s_d_number_of) := ⟨rfl, rfl, rfl, by decide +kernel, rfl, by decide +kernel, by decide +kernel⟩
abbrev s_d_seal_of : Stmt := topS 10
abbrev N_d_seal_of : List Str := ["ticket", "number", "of", "signs", "seal", "told", "sign"]
theorem sc_d_seal_of : FnScope N_d_seal_of ["ticket", "number", "of", "signs"] (defScope s_d_seal_of) := ⟨rfl, rfl, rfl, by decide +kernel, rfl, by decide +kernel, by decide +kernel⟩
abbrev s_d_are_signs : Stmt := topS 14
abbrev N_d_are_signs : List Str := ["kind", "thing"]
theorem sc_d_are_signs : FnScope N_d_are_signs ["kind", "thing"] (defScope s_d_are_signs) := ⟨rfl, rfl, rfl, by decide +kernel, rfl, by decide +kernel, by decide +kernel⟩
abbrev s_d_is_piece : Stmt := topS 13
abbrev N_d_is_piece : List Str := ["kind", "thing", "ticket", "number", "of", "seal", "signs", "told"]
theorem sc_d_is_piece : FnScope N_d_is_piece ["kind", "thing"] (defScope s_d_is_piece) := ⟨rfl, rfl, rfl, by decide +kernel, rfl, by decide +kernel, by decide +kernel⟩
abbrev s_d_law_urn : Stmt := topS 16
abbrev N_d_law_urn : List Str := ["script", "k", "cell"]
theorem sc_d_law_urn : FnScope N_d_law_urn ["script", "k"] (defScope s_d_law_urn) := ⟨rfl, rfl, rfl, by decide +kernel, rfl, by decide +kernel, by decide +kernel⟩
abbrev s_d_law_take : Stmt := topS 17
abbrev N_d_law_take : List Str := ["urn", "many", "digit", "one", "two"]
theorem sc_d_law_take : FnScope N_d_law_take ["urn", "many"] (defScope s_d_law_take) := ⟨rfl, rfl, rfl, by decide +kernel, rfl, by decide +kernel, by decide +kernel⟩
abbrev s_d_law_signs : Stmt := topS 18
abbrev N_d_law_signs : List Str := ["urn", "kind", "many", "low", "pool", "few", "first", "found", "k", "size", "j"]
theorem sc_d_law_signs : FnScope N_d_law_signs ["urn", "kind", "many"] (defScope s_d_law_signs) := ⟨rfl, rfl, rfl, by decide +kernel, rfl, by decide +kernel, by decide +kernel⟩
abbrev s_d_law_seal : Stmt := topS 19
abbrev N_d_law_seal : List Str := ["ticket", "number", "of", "signs", "found", "numbers", "sign", "here", "one"]
theorem sc_d_law_seal : FnScope N_d_law_seal ["ticket", "number", "of", "signs"] (defScope s_d_law_seal) := ⟨rfl, rfl, rfl, by decide +kernel, rfl, by decide +kernel, by decide +kernel⟩
abbrev s_d_law_cut : Stmt := topS 20
abbrev N_d_law_cut : List Str := ["ticket", "signs", "wide", "of", "found", "number", "some"]
theorem sc_d_law_cut : FnScope N_d_law_cut ["ticket", "signs", "wide"] (defScope s_d_law_cut) := ⟨rfl, rfl, rfl, by decide +kernel, rfl, by decide +kernel, by decide +kernel⟩
abbrev s_d_law_ticket : Stmt := topS 21
abbrev N_d_law_ticket : List Str := ["urn", "way", "far"]
theorem sc_d_law_ticket : FnScope N_d_law_ticket ["urn"] (defScope s_d_law_ticket) := ⟨rfl, rfl, rfl, by decide +kernel, rfl, by decide +kernel, by decide +kernel⟩
abbrev s_d_law_is_piece : Stmt := topS 22
abbrev N_d_law_is_piece : List Str := ["kind", "thing", "note", "one"]
theorem sc_d_law_is_piece : FnScope N_d_law_is_piece ["kind", "thing"] (defScope s_d_law_is_piece) := ⟨rfl, rfl, rfl, by decide +kernel, rfl, by decide +kernel, by decide +kernel⟩
abbrev s_d_law_due : Stmt := topS 23
abbrev N_d_law_due : List Str := ["state", "kind", "ticket", "thing", "number", "of", "seal", "signs"]
theorem sc_d_law_due : FnScope N_d_law_due ["state", "kind", "ticket", "thing"] (defScope s_d_law_due) := ⟨rfl, rfl, rfl, by decide +kernel, rfl, by decide +kernel, by decide +kernel⟩
abbrev s_d_law_missing : Stmt := topS 24
abbrev N_d_law_missing : List Str := ["state", "number"]
theorem sc_d_law_missing : FnScope N_d_law_missing ["state"] (defScope s_d_law_missing) := ⟨rfl, rfl, rfl, by decide +kernel, rfl, by decide +kernel, by decide +kernel⟩
abbrev s_d_law_whole : Stmt := topS 25
abbrev N_d_law_whole : List Str := ["state", "kind", "found", "number"]
theorem sc_d_law_whole : FnScope N_d_law_whole ["state", "kind"] (defScope s_d_law_whole) := ⟨rfl, rfl, rfl, by decide +kernel, rfl, by decide +kernel, by decide +kernel⟩
abbrev s_d_law_sealed : Stmt := topS 26
abbrev N_d_law_sealed : List Str := ["ticket", "number", "of", "signs"]
theorem sc_d_law_sealed : FnScope N_d_law_sealed ["ticket", "number", "of", "signs"] (defScope s_d_law_sealed) := ⟨rfl, rfl, rfl, by decide +kernel, rfl, by decide +kernel, by decide +kernel⟩
abbrev s_d_law_odd_signs : Stmt := topS 27
abbrev N_d_law_odd_signs : List Str := ["urn", "kind", "signs", "some"]
theorem sc_d_law_odd_signs : FnScope N_d_law_odd_signs ["urn", "kind", "signs"] (defScope s_d_law_odd_signs) := ⟨rfl, rfl, rfl, by decide +kernel, rfl, by decide +kernel, by decide +kernel⟩
abbrev s_d_law_odd : Stmt := topS 28
abbrev N_d_law_odd : List Str := ["urn", "kind", "piece", "ticket", "number", "of", "seal", "signs", "way", "some"]
theorem sc_d_law_odd : FnScope N_d_law_odd ["urn", "kind", "piece"] (defScope s_d_law_odd) := ⟨rfl, rfl, rfl, by decide +kernel, rfl, by decide +kernel, by decide +kernel⟩
abbrev s_d_Joiner_init : Stmt := clsS 12 0
abbrev N_d_Joiner_init : List Str := ["self", "kind", "ticket"]
theorem sc_d_Joiner_init : FnScope N_d_Joiner_init ["self", "kind", "ticket"] (defScope s_d_Joiner_init) := ⟨rfl, rfl, rfl, by decide +kernel, rfl, by decide +kernel, by decide +kernel⟩
abbrev s_d_Joiner_fits : Stmt := clsS 12 2
abbrev N_d_Joiner_fits : List Str := ["self", "piece", "ticket", "number", "of", "seal", "signs"]
theorem sc_d_Joiner_fits : FnScope N_d_Joiner_fits ["self", "piece"] (defScope s_d_Joiner_fits) := ⟨rfl, rfl, rfl, by decide +kernel, rfl, by decide +kernel, by decide +kernel⟩
abbrev s_d_Joiner_take : Stmt := clsS 12 1
abbrev N_d_Joiner_take : List Str := ["self", "thing", "_", "number", "of", "signs"]
theorem sc_d_Joiner_take : FnScope N_d_Joiner_take ["self", "thing"] (defScope s_d_Joiner_take) := ⟨rfl, rfl, rfl, by decide +kernel, rfl, by decide +kernel, by decide +kernel⟩
abbrev s_d_Joiner_len : Stmt := clsS 12 5
abbrev N_d_Joiner_len : List Str := ["self"]
theorem sc_d_Joiner_len : FnScope N_d_Joiner_len ["self"] (defScope s_d_Joiner_len) := ⟨rfl, rfl, rfl, by decide +kernel, rfl, by decide +kernel, by decide +kernel⟩
abbrev s_d_Joiner_missing : Stmt := clsS 12 3
abbrev N_d_Joiner_missing : List Str := ["self", "number"]
theorem sc_d_Joiner_missing : FnScope N_d_Joiner_missing ["self"] (defScope s_d_Joiner_missing) := ⟨rfl, rfl, rfl, by decide +kernel, rfl, by decide +kernel, by decide +kernel⟩
abbrev s_d_Joiner_whole : Stmt := clsS 12 4
abbrev N_d_Joiner_whole : List Str := ["self", "rows", "joined", "signs", "number"]
theorem sc_d_Joiner_whole : FnScope N_d_Joiner_whole ["self"] (defScope s_d_Joiner_whole) := ⟨rfl, rfl, rfl, by decide +kernel, rfl, by decide +kernel, by decide +kernel⟩
abbrev s_d_law : Stmt := topS 29
abbrev N_d_law : List Str := ["script", "k", "urn", "kind", "ticket", "pieces", "joiner", "state", "turn", "piece", "thing", "kept"]
theorem sc_d_law : FnScope N_d_law ["script"] (defScope s_d_law) := ⟨rfl, rfl, rfl, by decide +kernel, rfl, by decide +kernel, by decide +kernel⟩
def w_MOST_PIECES : W := .d (.int 20000)
structure Tx (w : World) (K : PySem.W.Frag) (mg : Str → Option Value) where
  f_d_is_whole : Addr
  fd_d_is_whole : FuncData
  F_d_is_whole : Fun K "is_whole" "is_whole" s_d_is_whole f_d_is_whole fd_d_is_whole
  m_d_is_whole : mg "is_whole" = some (.ref f_d_is_whole)
  b_d_is_whole : L2.Binds K fd_d_is_whole ["thing"] []
  f_d_is_whole_within : Addr
  fd_d_is_whole_within : FuncData
  F_d_is_whole_within : Fun K "is_whole_within" "is_whole_within" s_d_is_whole_within f_d_is_whole_within fd_d_is_whole_within
  m_d_is_whole_within : mg "is_whole_within" = some (.ref f_d_is_whole_within)
  b_d_is_whole_within : L2.Binds K fd_d_is_whole_within ["thing", "least", "most"] []
  f_d_is_whole_from : Addr
  fd_d_is_whole_from : FuncData
  F_d_is_whole_from : Fun K "is_whole_from" "is_whole_from" s_d_is_whole_from f_d_is_whole_from fd_d_is_whole_from
  m_d_is_whole_from : mg "is_whole_from" = some (.ref f_d_is_whole_from)
  b_d_is_whole_from : L2.Binds K fd_d_is_whole_from ["thing", "least"] []
  f_d_is_row_of_texts : Addr
  fd_d_is_row_of_texts : FuncData
  F_d_is_row_of_texts : Fun K "is_row_of_texts" "is_row_of_texts" s_d_is_row_of_texts f_d_is_row_of_texts fd_d_is_row_of_texts
  m_d_is_row_of_texts : mg "is_row_of_texts" = some (.ref f_d_is_row_of_texts)
  b_d_is_row_of_texts : L2.Binds K fd_d_is_row_of_texts ["thing"] []
  f_d_is_note : Addr
  fd_d_is_note : FuncData
  F_d_is_note : Fun K "_is_note" "_is_note" s_d_is_note f_d_is_note fd_d_is_note
  m_d_is_note : mg "_is_note" = some (.ref f_d_is_note)
  b_d_is_note : L2.Binds K fd_d_is_note ["thing"] []
  f_d_is_row_of_notes : Addr
  fd_d_is_row_of_notes : FuncData
  F_d_is_row_of_notes : Fun K "is_row_of_notes" "is_row_of_notes" s_d_is_row_of_notes f_d_is_row_of_notes fd_d_is_row_of_notes
  m_d_is_row_of_notes : mg "is_row_of_notes" = some (.ref f_d_is_row_of_notes)
  b_d_is_row_of_notes : L2.Binds K fd_d_is_row_of_notes ["thing"] []
  f_d_number_of : Addr
  fd_d_number_of : FuncData
  F_d_number_of : Fun K "_number_of" "_number_of" s_d_number_of f_d_number_of fd_d_number_of
  m_d_number_of : mg "_number_of" = some (.ref f_d_number_of)
  b_d_number_of : L2.Binds K fd_d_number_of ["sign"] []
  f_d_seal_of : Addr
  fd_d_seal_of : FuncData
  F_d_seal_of : Fun K "seal_of" "seal_of" s_d_seal_of f_d_seal_of fd_d_seal_of
  m_d_seal_of : mg "seal_of" = some (.ref f_d_seal_of)
  b_d_seal_of : L2.Binds K fd_d_seal_of ["ticket", "number", "of", "signs"] []
  f_d_are_signs : Addr
  fd_d_are_signs : FuncData
  F_d_are_signs : Fun K "_are_signs" "_are_signs" s_d_are_signs f_d_are_signs fd_d_are_signs
  m_d_are_signs : mg "_are_signs" = some (.ref f_d_are_signs)
  b_d_are_signs : L2.Binds K fd_d_are_signs ["kind", "thing"] []
  f_d_is_piece : Addr
  fd_d_is_piece : FuncData
  F_d_is_piece : Fun K "_is_piece" "_is_piece" s_d_is_piece f_d_is_piece fd_d_is_piece
  m_d_is_piece : mg "_is_piece" = some (.ref f_d_is_piece)
  b_d_is_piece : L2.Binds K fd_d_is_piece ["kind", "thing"] []
  f_d_law_urn : Addr
  fd_d_law_urn : FuncData
  F_d_law_urn : Fun K "_law_urn" "_law_urn" s_d_law_urn f_d_law_urn fd_d_law_urn
  m_d_law_urn : mg "_law_urn" = some (.ref f_d_law_urn)
  b_d_law_urn : L2.Binds K fd_d_law_urn ["script", "k"] []
  f_d_law_take : Addr
  fd_d_law_take : FuncData
  F_d_law_take : Fun K "_law_take" "_law_take" s_d_law_take f_d_law_take fd_d_law_take
  m_d_law_take : mg "_law_take" = some (.ref f_d_law_take)
  b_d_law_take : L2.Binds K fd_d_law_take ["urn", "many"] []
  f_d_law_signs : Addr
  fd_d_law_signs : FuncData
  F_d_law_signs : Fun K "_law_signs" "_law_signs" s_d_law_signs f_d_law_signs fd_d_law_signs
  m_d_law_signs : mg "_law_signs" = some (.ref f_d_law_signs)
  b_d_law_signs : L2.Binds K fd_d_law_signs ["urn", "kind", "many"] []
  f_d_law_seal : Addr
  fd_d_law_seal : FuncData
  F_d_law_seal : Fun K "_law_seal" "_law_seal" s_d_law_seal f_d_law_seal fd_d_law_seal
  m_d_law_seal : mg "_law_seal" = some (.ref f_d_law_seal)
  b_d_law_seal : L2.Binds K fd_d_law_seal ["ticket", "number", "of", "signs"] []
  f_d_law_cut : Addr
  fd_d_law_cut : FuncData
  F_d_law_cut : Fun K "_law_cut" "_law_cut" s_d_law_cut f_d_law_cut fd_d_law_cut
  m_d_law_cut : mg "_law_cut" = some (.ref f_d_law_cut)
  b_d_law_cut : L2.Binds K fd_d_law_cut ["ticket", "signs", "wide"] []
  f_d_law_ticket : Addr
  fd_d_law_ticket : FuncData
  F_d_law_ticket : Fun K "_law_ticket" "_law_ticket" s_d_law_ticket f_d_law_ticket fd_d_law_ticket
  m_d_law_ticket : mg "_law_ticket" = some (.ref f_d_law_ticket)
  b_d_law_ticket : L2.Binds K fd_d_law_ticket ["urn"] []
  f_d_law_is_piece : Addr
  fd_d_law_is_piece : FuncData
  F_d_law_is_piece : Fun K "_law_is_piece" "_law_is_piece" s_d_law_is_piece f_d_law_is_piece fd_d_law_is_piece
  m_d_law_is_piece : mg "_law_is_piece" = some (.ref f_d_law_is_piece)
  b_d_law_is_piece : L2.Binds K fd_d_law_is_piece ["kind", "thing"] []
  f_d_law_due : Addr
  fd_d_law_due : FuncData
  F_d_law_due : Fun K "_law_due" "_law_due" s_d_law_due f_d_law_due fd_d_law_due
  m_d_law_due : mg "_law_due" = some (.ref f_d_law_due)
  b_d_law_due : L2.Binds K fd_d_law_due ["state", "kind", "ticket", "thing"] []
  f_d_law_missing : Addr
  fd_d_law_missing : FuncData
  F_d_law_missing : Fun K "_law_missing" "_law_missing" s_d_law_missing f_d_law_missing fd_d_law_missing
  m_d_law_missing : mg "_law_missing" = some (.ref f_d_law_missing)
  b_d_law_missing : L2.Binds K fd_d_law_missing ["state"] []
  f_d_law_whole : Addr
  fd_d_law_whole : FuncData
  F_d_law_whole : Fun K "_law_whole" "_law_whole" s_d_law_whole f_d_law_whole fd_d_law_whole
  m_d_law_whole : mg "_law_whole" = some (.ref f_d_law_whole)
  b_d_law_whole : L2.Binds K fd_d_law_whole ["state", "kind"] []
  f_d_law_sealed : Addr
  fd_d_law_sealed : FuncData
  F_d_law_sealed : Fun K "_law_sealed" "_law_sealed" s_d_law_sealed f_d_law_sealed fd_d_law_sealed
  m_d_law_sealed : mg "_law_sealed" = some (.ref f_d_law_sealed)
  b_d_law_sealed : L2.Binds K fd_d_law_sealed ["ticket", "number", "of", "signs"] []
  f_d_law_odd_signs : Addr
  fd_d_law_odd_signs : FuncData
  F_d_law_odd_signs : Fun K "_law_odd_signs" "_law_odd_signs" s_d_law_odd_signs f_d_law_odd_signs fd_d_law_odd_signs
  m_d_law_odd_signs : mg "_law_odd_signs" = some (.ref f_d_law_odd_signs)
  b_d_law_odd_signs : L2.Binds K fd_d_law_odd_signs ["urn", "kind", "signs"] []
  f_d_law_odd : Addr
  fd_d_law_odd : FuncData
  F_d_law_odd : Fun K "_law_odd" "_law_odd" s_d_law_odd f_d_law_odd fd_d_law_odd
  m_d_law_odd : mg "_law_odd" = some (.ref f_d_law_odd)
  b_d_law_odd : L2.Binds K fd_d_law_odd ["urn", "kind", "piece"] []
  f_d_Joiner_init : Addr
  fd_d_Joiner_init : FuncData
  F_d_Joiner_init : Fun K "__init__" "Joiner.__init__" s_d_Joiner_init f_d_Joiner_init fd_d_Joiner_init
  b_d_Joiner_init : L2.Binds K fd_d_Joiner_init ["self", "kind", "ticket"] []
  f_d_Joiner_fits : Addr
  fd_d_Joiner_fits : FuncData
  F_d_Joiner_fits : Fun K "_fits" "Joiner._fits" s_d_Joiner_fits f_d_Joiner_fits fd_d_Joiner_fits
  b_d_Joiner_fits : L2.Binds K fd_d_Joiner_fits ["self", "piece"] []
  f_d_Joiner_take : Addr
  fd_d_Joiner_take : FuncData
  F_d_Joiner_take : Fun K "take" "Joiner.take" s_d_Joiner_take f_d_Joiner_take fd_d_Joiner_take
  b_d_Joiner_take : L2.Binds K fd_d_Joiner_take ["self", "thing"] []
  f_d_Joiner_len : Addr
  fd_d_Joiner_len : FuncData
  F_d_Joiner_len : Fun K "__len__" "Joiner.__len__" s_d_Joiner_len f_d_Joiner_len fd_d_Joiner_len
  b_d_Joiner_len : L2.Binds K fd_d_Joiner_len ["self"] []
  f_d_Joiner_missing : Addr
  fd_d_Joiner_missing : FuncData
  F_d_Joiner_missing : Fun K "missing" "Joiner.missing" s_d_Joiner_missing f_d_Joiner_missing fd_d_Joiner_missing
  b_d_Joiner_missing : L2.Binds K fd_d_Joiner_missing ["self"] []
  f_d_Joiner_whole : Addr
  fd_d_Joiner_whole : FuncData
  F_d_Joiner_whole : Fun K "whole" "Joiner.whole" s_d_Joiner_whole f_d_Joiner_whole fd_d_Joiner_whole
  b_d_Joiner_whole : L2.Binds K fd_d_Joiner_whole ["self"] []
  f_d_law : Addr
  fd_d_law : FuncData
  F_d_law : Fun K "law" "law" s_d_law f_d_law fd_d_law
  m_d_law : mg "law" = some (.ref f_d_law)
  b_d_law : L2.Binds K fd_d_law ["script"] []
  z_all : mg "all" = none
  z_bool : mg "bool" = none
  z_int : mg "int" = none
  z_isinstance : mg "isinstance" = none
  z_len : mg "len" = none
  z_list : mg "list" = none
  z_max : mg "max" = none
  z_min : mg "min" = none
  z_ord : mg "ord" = none
  z_range : mg "range" = none
  z_repr : mg "repr" = none
  z_str : mg "str" = none
  z_tuple : mg "tuple" = none
  C_Joiner : Addr
  mc_Joiner : mg "Joiner" = some (.ref C_Joiner)
  cl_Joiner : Cls K C_Joiner
  mk_Joiner : Mk K C_Joiner f_d_Joiner_init
  me_d_Joiner_take : Meth K C_Joiner "take" f_d_Joiner_take
  me_d_Joiner_fits : Meth K C_Joiner "_fits" f_d_Joiner_fits
  me_d_Joiner_missing : Meth K C_Joiner "missing" f_d_Joiner_missing
  me_d_Joiner_whole : Meth K C_Joiner "whole" f_d_Joiner_whole
  me_d_Joiner_len : Meth K C_Joiner "__len__" f_d_Joiner_len
  no__kind : NoAttr K C_Joiner "_kind"
  no__ticket : NoAttr K C_Joiner "_ticket"
  no__of : NoAttr K C_Joiner "_of"
  no__kept : NoAttr K C_Joiner "_kept"
  c_MOST_PIECES : Const K mg "MOST_PIECES" w_MOST_PIECES
/-! the law's urn: what is left of a great cell, how many draws, the cell to be mixed -/
def IsUrn (n : Nat) (m : MO) : Prop := ∃ a b c : Int, m = .lst [.d (.int a), .d (.int b), .d (.int c)] ∧ 0 ≤ a ∧ 0 ≤ b ∧ b ≤ (n : Int) ∧ 0 ≤ c ∧ c < 2 ^ 200
theorem IsUrn.mono {n n' : Nat} {m : MO} (h : IsUrn n m) (l : n ≤ n') : IsUrn n' m := by
  obtain ⟨a, b, c, e, h1, h2, h3, h4, h5⟩ := h
  exact ⟨a, b, c, e, h1, h2, by omega, h4, h5⟩
theorem natAbs_lt {i : Int} {k : Nat} (h0 : 0 ≤ i) (h1 : i < 2 ^ k) : i.natAbs < 2 ^ k := by
  have : (i.natAbs : Int) = i := Int.natAbs_of_nonneg h0
  have h2 : ((2 ^ k : Nat) : Int) = 2 ^ k := by simp
  omega
theorem cdivW {i j : Int} (h0 : 0 < j) (h1 : j < 2 ^ 60) : CDivW i j := by
  refine ⟨h0, ?_⟩
  have := natAbs_lt (k := 60) (by omega) h1
  have := (Nat.log2_lt (n := j.natAbs) (by omega)).mpr this
  omega
theorem fmod_bd (i : Int) {j : Int} (h : 0 < j) : 0 ≤ i.fmod j ∧ i.fmod j < j := ⟨Int.fmod_nonneg_of_pos _ h, Int.fmod_lt_of_pos _ h⟩
/-! signs and seals -/
inductive Sgn where
  | tx (s : Str)
  | nt (i j : Int)
def Sgn.D : Sgn → PyData
  | .tx s => .str s
  | .nt i j => .tuple [.int i, .int j]
def hashL (l : List Nat) (h : Int) : Int := l.foldl (fun (h : Int) (c : Nat) => (131 * h + (c : Int)).fmod 999983) h
def numS (s : Str) : Int := if s.length = 1 then ((s.cps.getD 0 0 : Nat) : Int) else hashL (cd s) 7
def Sgn.num : Sgn → Int
  | .tx s => numS s
  | .nt i j => 10 * i + j
def Sgn.Ok : Sgn → Prop
  | .tx s => s.length ≤ 10000
  | .nt i j => 0 ≤ i ∧ i ≤ 9 ∧ 0 ≤ j ∧ j ≤ 9
def sealZ (t : Int) (l : List Int) : Int := l.foldl (fun s k => (131 * s + k + 7).fmod 999983) t
def SG (d : PyData) (l : List Sgn) : Prop := (∃ z : Str, d = .str z ∧ l = (cd z).map fun c => .tx ⟨#[c]⟩) ∨ d = .tuple (l.map Sgn.D)
def spSeal : DSp := fun ws μ R => match ws with
  | [.d (.int t), .d (.int n), .d (.int o), .d sg] => ∃ l, SG sg l ∧ (∀ g ∈ l, Sgn.Ok g) ∧ l.length ≤ 10000 ∧ 0 ≤ t ∧ t < 2 ^ 60 ∧ R (.d (.int (sealZ t (n :: o :: l.map Sgn.num)))) μ
  | _ => False
theorem spSeal_len {ws : List W} {μ : M} {R : DQ} (h : spSeal ws μ R) : ws.length = 4 := by
  unfold spSeal at h; split at h
  · rfl
  · exact h.elim
theorem joinL_nil : ∀ ys : List (List Nat), TL.joinL [] ys = ys.flatten
  | [] => rfl
  | [p] => by simp [TL.joinL]
  | p :: q :: r => by
    have ih := joinL_nil (q :: r)
    show p ++ ([] ++ TL.joinL [] (q :: r)) = _
    rw [ih]; simp
theorem join0 (cs : List Nat) : Txt.join (Str.ofString "") (cs.map fun c => ⟨#[c]⟩) = mk cs := by
  have e1 : Str.ofString "" = SX.S [] := by decide +kernel
  have e2 : (cs.map fun c => (⟨#[c]⟩ : Str)) = (cs.map fun c => [c]).map SX.S := by rw [List.map_map]; rfl
  rw [e1, e2, SX.join_S, joinL_nil]
  have e3 : (cs.map fun c => [c]).flatten = cs := by induction cs with
    | nil => rfl
    | cons x r ih => simpa using ih
  rw [e3]
theorem join0L (ls : List (List Nat)) : Txt.join (Str.ofString "") (ls.map mk) = mk ls.flatten := by
  have e1 : Str.ofString "" = SX.S [] := by decide +kernel
  have e2 : ls.map mk = ls.map SX.S := rfl
  rw [e1, e2, SX.join_S, joinL_nil]
theorem mul131 {h : Int} (h0 : 0 ≤ h) (h1 : h < 2 ^ 60) : CMulW 131 h := cmulW (a := 8) (b := 60) (by decide) (natAbs_lt h0 h1) (by decide)
theorem getD_one (c : Nat) : (((⟨#[c]⟩ : Str).cps.getD 0 0 : Nat) : Int) = (c : Int) := rfl
/-! what the law builds: a text, texts, notes -/
def ntD (x : Int × Int) : PyData := .tuple [.int x.1, .int x.2]
def stD (l : List Nat) : PyData := .str (mk l)
inductive SgT (n : Nat) : Bool → PyData → Prop
  | tx {s : List Nat} : s.length ≤ n → (∀ c ∈ s, c < 128) → SgT n false (.str (mk s))
  | tp {ts : List (List Nat)} : ts.length ≤ n → (∀ t ∈ ts, t.length ≤ 2000 ∧ ∀ c ∈ t, c < 128) → SgT n false (.tuple (ts.map stD))
  | nt {ns : List (Int × Int)} : ns.length ≤ n → (∀ x ∈ ns, 0 ≤ x.1 ∧ x.1 ≤ 9 ∧ 0 ≤ x.2 ∧ x.2 ≤ 9) → SgT n true (.tuple (ns.map ntD))
theorem one_strs (cs : List Nat) : strsD (cs.map fun c => PyData.str ⟨#[c]⟩) = some (cs.map fun c => ⟨#[c]⟩) := by
  have : (cs.map fun c => PyData.str ⟨#[c]⟩) = (cs.map fun c => (⟨#[c]⟩ : Str)).map .str := by rw [List.map_map]; rfl
  rw [this, strsD_map]
theorem one_sum (cs : List Nat) : ((cs.map fun c => (⟨#[c]⟩ : Str)).map (·.length)).sum = cs.length := by
  induction cs with
  | nil => rfl
  | cons c r ih => rw [List.map_cons, List.map_cons, List.sum_cons, ih, List.length_cons, one_len]; omega
theorem flat_one : ∀ ts : List (List Nat), (∀ t ∈ ts, t.length = 1) → ts.flatten.length = ts.length ∧ ((ts.map mk).map (·.length)).sum = ts.length
  | [], _ => ⟨rfl, rfl⟩
  | t :: r, h => by
    have h1 := h t List.mem_cons_self
    obtain ⟨h2, h3⟩ := flat_one r fun x hx => h x (List.mem_cons_of_mem _ hx)
    refine ⟨by rw [List.flatten_cons, List.length_append, h1, h2, List.length_cons]; omega, by rw [List.map_cons, List.map_cons, List.sum_cons, h3, len_mk, h1, List.length_cons]; omega⟩
theorem st_inj : ∀ {a b : List (List Nat)}, a.map stD = b.map stD → a = b
  | [], [], _ => rfl
  | [], _ :: _, h => by cases h
  | _ :: _, [], h => by cases h
  | x :: a, y :: b, h => by
    rw [List.map_cons, List.map_cons] at h
    injection h with h1 h2
    unfold stD at h1
    injection h1 with h1
    have := congrArg cd h1
    rw [cd_mk, cd_mk] at this
    rw [this, st_inj h2]
/-- it can be shown -/
def Shw (d : PyData) : Prop := d.plain = true ∧ d.showable = true ∧ d.depth ≤ 60 ∧ d.shown.length ≤ sizeLine
theorem okd_shw {d : PyData} {b dpt : Nat} (h : DOkD d b dpt) (hb : b ≤ 300000) (hd : dpt ≤ 60) : Shw d := ⟨h.plain, h.show_, Nat.le_trans h.depth hd, okd_shown h hb⟩
theorem oks_ts {ts : List (List Nat)} {w : Nat} (h : ∀ t ∈ ts, t.length ≤ w ∧ ∀ c ∈ t, c < 128) (dpt : Nat) : DOks (ts.map stD) (ts.length * (w + 1)) dpt := by
  induction ts with
  | nil => exact .nil
  | cons r rs ih =>
    have h1 := h r List.mem_cons_self
    refine DOks.mono (DOks.cons (okd_str h1.2 dpt) (ih fun x hx => h x (List.mem_cons_of_mem _ hx))) ?_ (Nat.le_refl _)
    rw [List.length_cons, Nat.add_mul]
    omega
theorem okd_nt {x : Int × Int} (h : 0 ≤ x.1 ∧ x.1 ≤ 9 ∧ 0 ≤ x.2 ∧ x.2 ≤ 9) : DOkD (ntD x) 2 1 :=
  (DOks.tup (.cons (okd_int (by omega) (by omega) 0) (.cons (okd_int (by omega) (by omega) 0) .nil (b' := 0)))).mono (by omega) (by omega)
theorem oks_ns {ns : List (Int × Int)} (h : ∀ x ∈ ns, 0 ≤ x.1 ∧ x.1 ≤ 9 ∧ 0 ≤ x.2 ∧ x.2 ≤ 9) : DOks (ns.map ntD) (ns.length * 3) 1 := by
  induction ns with
  | nil => exact .nil
  | cons r rs ih =>
    refine DOks.mono (DOks.cons (okd_nt (h r List.mem_cons_self)) (ih fun x hx => h x (List.mem_cons_of_mem _ hx))) ?_ (Nat.le_refl _)
    rw [List.length_cons, Nat.add_mul]
    omega
theorem SgT.ok {n : Nat} {b : Bool} {d : PyData} (h : SgT n b d) (hn : n ≤ 2000) (hz : ∀ ts : List (List Nat), d = .tuple (ts.map stD) → (∀ t ∈ ts, t.length ≤ 50) ∨ ts.length ≤ 50) : Shw d ∧ ∃ l, SG d l ∧ (∀ g ∈ l, Sgn.Ok g) ∧ l.length ≤ 10000 := by
  cases h with
  | @tx s hl hc =>
    refine ⟨okd_shw (okd_str hc 0) (by omega) (by omega), (cd (mk s)).map (fun c => .tx ⟨#[c]⟩), .inl ⟨mk s, rfl, rfl⟩, fun g hg => ?_, by rw [List.length_map, cd_mk]; omega⟩
    rw [List.mem_map] at hg
    obtain ⟨c, _, rfl⟩ := hg
    show (⟨#[c]⟩ : Str).length ≤ 10000
    rw [one_len]; decide
  | @tp ts hl hc =>
    have hb : ∃ w, (∀ t ∈ ts, t.length ≤ w ∧ ∀ c ∈ t, c < 128) ∧ ts.length * (w + 1) ≤ 300000 := by
      rcases hz ts rfl with z | z
      · exact ⟨50, fun t ht => ⟨z t ht, (hc t ht).2⟩, by have := Nat.mul_le_mul (Nat.le_trans hl hn) (Nat.le_refl (50 + 1)); omega⟩
      · exact ⟨2000, hc, by have := Nat.mul_le_mul z (Nat.le_refl (2000 + 1)); omega⟩
    obtain ⟨w, hw, hb⟩ := hb
    refine ⟨okd_shw (oks_ts hw 0).tup hb (by omega), ts.map (fun t => .tx (mk t)), .inr (by rw [List.map_map]; rfl), fun g hg => ?_, by rw [List.length_map]; omega⟩
    rw [List.mem_map] at hg
    obtain ⟨t, ht, rfl⟩ := hg
    show (mk t).length ≤ 10000
    rw [len_mk]
    have := (hc t ht).1
    omega
  | @nt ns hl hc =>
    refine ⟨okd_shw (oks_ns hc).tup (by omega) (by omega), ns.map (fun x => .nt x.1 x.2), .inr (by rw [List.map_map]; rfl), fun g hg => ?_, by rw [List.length_map]; omega⟩
    rw [List.mem_map] at hg
    obtain ⟨x, hx, rfl⟩ := hg
    exact hc x hx
theorem repr_shw {n : Nat} {b : Bool} {d : PyData} (h : SgT n b d) (hs : Shw d) {μ : M} {R : DQ} (q : R (.d (.str d.shown)) μ) : reprX [.d d] μ R := by
  obtain ⟨h1, h2, h3, h4⟩ := hs
  cases h with
  | tx _ _ => rw [q_reprXS]; exact ⟨h4, q⟩
  | tp _ _ => rw [q_reprXT]; exact ⟨by simpa [PyData.plain] using h1, h2, h3, h4, q⟩
  | nt _ _ => rw [q_reprXT]; exact ⟨by simpa [PyData.plain] using h1, h2, h3, h4, q⟩
/-! what is parted: signs as a text, texts, notes -/
inductive Sig where
  | tx (s : List Nat)
  | tp (ts : List (List Nat))
  | nt (ns : List (Int × Int))
def Sig.D : Sig → PyData
  | .tx s => .str (mk s)
  | .tp ts => .tuple (ts.map stD)
  | .nt ns => .tuple (ns.map ntD)
def Sig.len : Sig → Nat
  | .tx s => s.length
  | .tp ts => ts.length
  | .nt ns => ns.length
def Sig.cut (a n : Nat) : Sig → Sig
  | .tx s => .tx ((s.drop a).take n)
  | .tp ts => .tp ((ts.drop a).take n)
  | .nt ns => .nt ((ns.drop a).take n)
def Sig.L : Sig → List Sgn
  | .tx s => s.map fun c => .tx ⟨#[c]⟩
  | .tp ts => ts.map fun t => .tx (mk t)
  | .nt ns => ns.map fun x => .nt x.1 x.2
def Sig.Ok : Sig → Prop
  | .tx s => ∀ c ∈ s, c < 128
  | .tp ts => ∀ t ∈ ts, t.length ≤ 30 ∧ ∀ c ∈ t, c < 128
  | .nt ns => ∀ x ∈ ns, 0 ≤ x.1 ∧ x.1 ≤ 9 ∧ 0 ≤ x.2 ∧ x.2 ≤ 9
theorem Sig.sg (σ : Sig) : SG σ.D σ.L := by
  cases σ with
  | tx s => exact .inl ⟨mk s, rfl, by rw [cd_mk]; rfl⟩
  | tp ts => exact .inr (by unfold Sig.D Sig.L; rw [List.map_map]; rfl)
  | nt ns => exact .inr (by unfold Sig.D Sig.L; rw [List.map_map]; rfl)
theorem Sig.oks {σ : Sig} (h : σ.Ok) : ∀ g ∈ σ.L, Sgn.Ok g := by
  intro g hg
  cases σ with
  | tx s => obtain ⟨c, _, rfl⟩ := List.mem_map.mp hg; show (⟨#[c]⟩ : Str).length ≤ 10000; rw [one_len]; decide
  | tp ts => obtain ⟨t, ht, rfl⟩ := List.mem_map.mp hg; show (mk t).length ≤ 10000; rw [len_mk]; have := (h t ht).1; omega
  | nt ns => obtain ⟨x, hx, rfl⟩ := List.mem_map.mp hg; exact h x hx
theorem Sig.L_len (σ : Sig) : σ.L.length = σ.len := by cases σ <;> exact List.length_map ..
theorem Sig.cut_ok {σ : Sig} (h : σ.Ok) (a n : Nat) : (σ.cut a n).Ok := by
  cases σ <;> exact fun x hx => h x (List.mem_of_mem_drop (List.mem_of_mem_take hx))
theorem Sig.cut_len (σ : Sig) (a n : Nat) : (σ.cut a n).len ≤ n ∧ (σ.cut a n).len ≤ σ.len := by
  cases σ <;> simp only [Sig.cut, Sig.len, List.length_take, List.length_drop] <;> omega
theorem Sig.okd {σ : Sig} (h : σ.Ok) : DOkD σ.D (31 * σ.len) 2 := by
  cases σ with
  | tx s => exact (okd_str h 0).mono (by show s.length ≤ 31 * s.length; omega) (by omega)
  | tp ts => exact (oks_ts (w := 30) h 0).tup.mono (by show _ ≤ 31 * ts.length; omega) (by omega)
  | nt ns => exact (oks_ns h).tup.mono (by show _ ≤ 31 * ns.length; omega) (by omega)
theorem SgT.sig {n : Nat} {b : Bool} {d : PyData} (h : SgT n b d) (h3 : ∀ ts : List (List Nat), d = .tuple (ts.map stD) → ∀ t ∈ ts, t.length ≤ 30) : ∃ σ : Sig, d = σ.D ∧ σ.Ok ∧ σ.len ≤ n := by
  cases h with
  | @tx s hl hc => exact ⟨.tx s, rfl, hc, hl⟩
  | @tp ts hl hc => exact ⟨.tp ts, rfl, fun t ht => ⟨h3 ts rfl t ht, (hc t ht).2⟩, hl⟩
  | @nt ns hl hc => exact ⟨.nt ns, rfl, hc, hl⟩
theorem cutG_ab {α : Type} (xs : List α) (a b : Nat) (h : a ≤ b) : cutG xs (some (a : Int)) (some (b : Int)) = (xs.drop a).take (b - a) := by
  unfold cutG
  rw [HT.sIx_nat, HT.sIx_nat]
  by_cases h1 : a ≤ xs.length
  · rw [Nat.min_eq_left h1]
    by_cases h2 : b ≤ xs.length
    · rw [Nat.min_eq_left h2]
    · rw [Nat.min_eq_right (by omega), List.take_of_length_le (by rw [List.length_drop]; omega), List.take_of_length_le (by rw [List.length_drop]; omega)]
  · rw [Nat.min_eq_right (show xs.length ≤ a by omega), List.drop_of_length_le (Nat.le_refl _), List.drop_of_length_le (show xs.length ≤ a by omega)]
    simp
theorem cutS_mk (s : List Nat) (lo hi : Option Int) : cutS (mk s) lo hi = mk (cutG s lo hi) := by
  apply cd_inj
  rw [cd_mk]
  have := codes_cut (mk s) lo hi
  rw [show (mk s).cps.toList = s from cd_mk s] at this
  exact this
theorem len_sig {σ : Sig} {μ : M} {C : DQ} (hl : σ.len ≤ 2000) (q : C (.d (.int σ.len)) μ) : lenD [.d σ.D] μ C := by
  cases σ with
  | tx s => show lenD [.d (.str (mk s))] μ C; rw [q_lenS, len_mk]; exact ⟨by rw [sizeLit]; have : s.length ≤ 2000 := hl; omega, q⟩
  | tp ts => show lenD [.d (.tuple (ts.map stD))] μ C; rw [q_lenT, List.length_map]; exact q
  | nt ns => show lenD [.d (.tuple (ns.map ntD))] μ C; rw [q_lenT, List.length_map]; exact q
theorem sl_ab {σ : Sig} {a n : Nat} {μ : M} {C : DQ} (hl : σ.len ≤ 2000) (q : C (.d (σ.cut a n).D) μ) : slD (.d σ.D) (some (a : Int)) (some ((a + n : Nat) : Int)) μ C := by
  cases σ with
  | tx s =>
    show slD (.d (.str (mk s))) _ _ μ C
    rw [q_slS, cutS_mk, cutG_ab _ _ _ (by omega), Nat.add_sub_cancel_left]
    exact ⟨by rw [len_mk, sizeLit]; have : s.length ≤ 2000 := hl; omega, q⟩
  | tp ts =>
    show slD (.d (.tuple (ts.map stD))) _ _ μ C
    rw [q_slT, cut_map, cutG_ab _ _ _ (by omega), Nat.add_sub_cancel_left]
    exact q
  | nt ns =>
    show slD (.d (.tuple (ns.map ntD))) _ _ μ C
    rw [q_slT, cut_map, cutG_ab _ _ _ (by omega), Nat.add_sub_cancel_left]
    exact q
theorem sl_two {σ : Sig} {a n : Nat} {μ : M} {C : DQ} (hl : σ.len ≤ 2000) (q : C (.d (σ.cut a n).D) μ) : slD (.d σ.D) (some (a : Int)) none μ fun x μ1 => slD x none (some (n : Int)) μ1 C := by
  cases σ with
  | tx s =>
    have hs : s.length ≤ 2000 := hl
    show slD (.d (.str (mk s))) _ _ μ _
    rw [q_slS, cutS_mk, cutG_from]
    refine ⟨by rw [len_mk, sizeLit]; omega, ?_⟩
    rw [q_slS, cutS_mk, cutG_to]
    exact ⟨by rw [len_mk, sizeLit, List.length_drop]; omega, q⟩
  | tp ts =>
    show slD (.d (.tuple (ts.map stD))) _ _ μ _
    rw [q_slT, cut_map, cutG_from, q_slT, cut_map, cutG_to]
    exact q
  | nt ns =>
    show slD (.d (.tuple (ns.map ntD))) _ _ μ _
    rw [q_slT, cut_map, cutG_from, q_slT, cut_map, cutG_to]
    exact q
/-- the pieces -/
def pieceD (t : Int) (P w : Nat) (σ : Sig) (n : Nat) : PyData := .tuple [.int t, .int n, .int P, .int (sealZ t ((n : Int) :: (P : Int) :: (σ.cut (n * w) w).L.map Sgn.num)), (σ.cut (n * w) w).D]
def manyP (σ : Sig) (w : Nat) : Nat := max 1 ((σ.len + w - 1) / w)
def piecesD (t : Int) (w : Nat) (σ : Sig) : List PyData := (List.range (manyP σ w)).map (pieceD t (manyP σ w) w σ)
def PtOk (t : Int) (σ : Sig) (w : Nat) : Prop := 1 ≤ w ∧ w ≤ 200 ∧ σ.Ok ∧ σ.len ≤ 2000 ∧ 0 ≤ t ∧ t ≤ 1000000000
theorem many_mul (σ : Sig) {w : Nat} (h : 1 ≤ w) : manyP σ w * w ≤ σ.len + w := by
  unfold manyP
  have := Nat.div_mul_le_self (σ.len + w - 1) w
  rcases Nat.le_total ((σ.len + w - 1) / w) 1 with h1 | h1
  · rw [Nat.max_eq_left h1]; omega
  · rw [Nat.max_eq_right h1]; omega
theorem many_le (σ : Sig) {w : Nat} (h : 1 ≤ w) : manyP σ w ≤ σ.len + w := Nat.le_trans (Nat.le_mul_of_pos_right _ h) (many_mul σ h)
theorem many_int (σ : Sig) {w : Nat} (h : 1 ≤ w) : (if ((σ.len : Int) + (w : Int) - 1) / (w : Int) > 1 then ((σ.len : Int) + (w : Int) - 1) / (w : Int) else 1) = (manyP σ w : Int) := by
  have e : ((σ.len : Int) + (w : Int) - 1) / (w : Int) = (((σ.len + w - 1) / w : Nat) : Int) := by
    rw [show (σ.len : Int) + (w : Int) - 1 = ((σ.len + w - 1 : Nat) : Int) by omega, Int.natCast_ediv]
  rw [e]
  unfold manyP
  split <;> omega
theorem seal_bd : ∀ (l : List Int) (t : Int), l ≠ [] ∨ (0 ≤ t ∧ t < 999983) → 0 ≤ sealZ t l ∧ sealZ t l < 999983
  | [], t, h => by rcases h with h | h; · exact absurd rfl h
                   exact h
  | k :: l, t, _ => seal_bd l _ (.inr (fmod_bd _ (by decide)))
theorem piece_ok {t : Int} {P w n : Nat} {σ : Sig} (h : PtOk t σ w) (hP : P ≤ 2200) (hn : n ≤ 2200) : DOkD (pieceD t P w σ n) (31 * w + 5) 3 := by
  obtain ⟨w0, w1, so, sl, t0, t1⟩ := h
  have sb := seal_bd ((n : Int) :: (P : Int) :: (σ.cut (n * w) w).L.map Sgn.num) t (.inl (by simp))
  refine (DOks.tup (DOks.cons (okd_int (by omega) (by omega) 2) (DOks.cons (okd_int (by omega) (by omega) 2) (DOks.cons (okd_int (by omega) (by omega) 2) (DOks.cons (okd_int (by omega) (by omega) 2) (DOks.cons (Sig.okd (Sig.cut_ok so (n * w) w)) (DOks.nil (b := 0)))))))).mono ?_ (by omega)
  have := (σ.cut_len (n * w) w).1
  omega
theorem pcs_oks {t : Int} {P w : Nat} {σ : Sig} (h : PtOk t σ w) (hP : P ≤ 2200) : ∀ ns : List Nat, (∀ n ∈ ns, n ≤ 2200) → DOks (ns.map (pieceD t P w σ)) (ns.length * (31 * w + 6)) 3
  | [], _ => .nil
  | n :: ns, hn => by
    refine (DOks.cons (piece_ok h hP (hn n List.mem_cons_self)) (pcs_oks h hP ns fun x hx => hn x (List.mem_cons_of_mem _ hx))).mono ?_ (Nat.le_refl _)
    rw [List.length_cons, Nat.add_mul]
    omega
theorem pieces_shw {t : Int} {w : Nat} {σ : Sig} (h : PtOk t σ w) : Shw (.list (piecesD t w σ)) := by
  have h' := h
  obtain ⟨w0, w1, so, sl, t0, t1⟩ := h
  have m1 := many_mul σ w0
  have m2 := many_le σ w0
  have := (pcs_oks h' (P := manyP σ w) (by omega) (List.range (manyP σ w)) fun n hn => by rw [List.mem_range] at hn; omega).lst
  refine okd_shw this ?_ (by omega)
  rw [List.length_range, Nat.mul_add, show manyP σ w * (31 * w) = 31 * (manyP σ w * w) by rw [Nat.mul_left_comm]]
  omega
/-! a joiner: pieces, what it keeps -/
def intIn (a b : Int) : PyData → Bool
  | .int i => decide (a ≤ i) && decide (i ≤ b)
  | _ => false
def KS (kd : Str) (σ : Sig) : Prop := (kd = Str.ofString "letters" ∧ ∃ s, σ = .tx s) ∨ (kd = Str.ofString "sounds" ∧ ∃ ns, σ = .nt ns) ∨ ((kd = Str.ofString "calls" ∨ kd = Str.ofString "pages") ∧ ∃ ts, σ = .tp ts)
def pc (t n o s : Int) (σ : Sig) : PyData := .tuple [.int t, .int n, .int o, .int s, σ.D]
theorem q_gTup5 {i1 i2 i3 i4 i5 : Nat} {a1 a2 a3 a4 a5 : PyData} {ρ : Sl} {μ : M} {Q : Sl → M → Prop} : gTupD 5 (gConsD (gNameD i1) (gConsD (gNameD i2) (gConsD (gNameD i3) (gConsD (gNameD i4) (gConsD (gNameD i5) gNilD))))) (.d (.tuple [a1, a2, a3, a4, a5])) ρ μ Q = Q (((((ρ.set i1 (some (.d a1))).set i2 (some (.d a2))).set i3 (some (.d a3))).set i4 (some (.d a4))).set i5 (some (.d a5))) μ := propext ⟨fun h => h.2.2, fun h => ⟨rfl, rfl, h⟩⟩
theorem q_gTup4 {i1 i2 i3 i4 : Nat} {a1 a2 a3 a4 : PyData} {ρ : Sl} {μ : M} {Q : Sl → M → Prop} : gTupD 4 (gConsD (gNameD i1) (gConsD (gNameD i2) (gConsD (gNameD i3) (gConsD (gNameD i4) gNilD)))) (.d (.tuple [a1, a2, a3, a4])) ρ μ Q = Q ((((ρ.set i1 (some (.d a1))).set i2 (some (.d a2))).set i3 (some (.d a3))).set i4 (some (.d a4))) μ := propext ⟨fun h => h.2.2, fun h => ⟨rfl, rfl, h⟩⟩
theorem int_ne {i j : Int} (h : i ≠ j) : PyData.eqv (.int i) (.int j) = false := by rw [eqv_int, beq_eq_false_iff_ne]; exact h
theorem int_eq (i : Int) : PyData.eqv (.int i) (.int i) = true := by rw [eqv_int, beq_self_eq_true]
theorem eqv_dec (w a : Str) : PyData.eqv (.str w) (.str a) = decide (w = a) := by
  rw [eqv_str, Bool.eq_iff_iff]; simp
theorem asD_map {ds : List PyData} {P : List PyData → Prop} : asD (ds.map .d) P = P ds := by unfold asD; rw [dats_map]
theorem bF {j k : Int} {A C : DTS} {D ρ μ} (h : ρ[8]? = some (some (.d (.int j)))) (e : PyData.eqv (.int j) (.int k) = false) (g : C D ρ μ) : tSeqD (DL.tIfS (tTst (tOp2 DL.eqV (tVarD 8) (tK (.d (.int k))))) A tNextD) C D ρ μ := by
  simp only [tSeqD, DL.tIfS, tTst, tOp2, tVarD, tK, h]
  refine ⟨rfl, rfl, show min 0 0 ≤ 64 by decide, ?_⟩
  simp only [e]
  rw [if_neg Bool.false_ne_true]
  exact g
theorem bT {j k : Int} {A C : DTS} {D ρ μ} (h : ρ[8]? = some (some (.d (.int j)))) (e : PyData.eqv (.int j) (.int k) = true) (g : ∀ N, N = C D → A { nx := N, rt := D.rt, bk := D.bk, ct := D.ct } ρ μ) : tSeqD (DL.tIfS (tTst (tOp2 DL.eqV (tVarD 8) (tK (.d (.int k))))) A tNextD) C D ρ μ := by
  simp only [tSeqD, DL.tIfS, tTst, tOp2, tVarD, tK, h]
  refine ⟨rfl, rfl, show min 0 0 ≤ 64 by decide, ?_⟩
  simp only [e]
  exact g _ rfl
theorem cutG_map {α β : Type} (f : α → β) (xs : List α) (lo hi : Option Int) : cutG (xs.map f) lo hi = (cutG xs lo hi).map f := by
  unfold cutG
  rw [List.length_map, List.map_take, List.map_drop]
theorem cutG_mem {α : Type} {xs : List α} {lo hi : Option Int} {x : α} (h : x ∈ cutG xs lo hi) : x ∈ xs := List.mem_of_mem_drop (List.mem_of_mem_take h)
theorem cutG_one {α : Type} (xs : List α) : (cutG xs none (some 1)).length ≤ 1 := by
  have e := cutG_to xs 1
  rw [show ((1 : Nat) : Int) = 1 from rfl] at e
  rw [e, List.length_take]
  exact Nat.min_le_left _ _
theorem revS_mk (s : List Nat) : revS (mk s) = mk s.reverse := by simp [revS, mk]
def Sig.cutZ (lo hi : Option Int) : Sig → Sig
  | .tx s => .tx (cutG s lo hi)
  | .tp s => .tp (cutG s lo hi)
  | .nt s => .nt (cutG s lo hi)
def Sig.addZ : Sig → Sig
  | .tx s => .tx (s ++ cutG s none (some 1))
  | .tp s => .tp (s ++ cutG s none (some 1))
  | .nt s => .nt (s ++ cutG s none (some 1))
def Sig.revZ : Sig → Sig
  | .tx s => .tx s.reverse
  | .tp s => .tp s.reverse
  | .nt s => .nt s.reverse
theorem cutZ_ok {kd : Str} {σ : Sig} {lo hi : Option Int} (k : KS kd σ) (o : σ.Ok) : KS kd (σ.cutZ lo hi) ∧ (σ.cutZ lo hi).Ok ∧ (σ.cutZ lo hi).len ≤ σ.len := by
  refine ⟨?_, ?_, ?_⟩
  · rcases k with ⟨a, s, rfl⟩ | ⟨a, s, rfl⟩ | ⟨a, s, rfl⟩
    · exact .inl ⟨a, _, rfl⟩
    · exact .inr (.inl ⟨a, _, rfl⟩)
    · exact .inr (.inr ⟨a, _, rfl⟩)
  · cases σ <;> exact fun x h => o x (cutG_mem h)
  · cases σ <;> exact cutG_len _ _ _
theorem addZ_ok {kd : Str} {σ : Sig} (k : KS kd σ) (o : σ.Ok) : KS kd σ.addZ ∧ σ.addZ.Ok ∧ σ.addZ.len ≤ σ.len + 1 := by
  refine ⟨?_, ?_, ?_⟩
  · rcases k with ⟨a, s, rfl⟩ | ⟨a, s, rfl⟩ | ⟨a, s, rfl⟩
    · exact .inl ⟨a, _, rfl⟩
    · exact .inr (.inl ⟨a, _, rfl⟩)
    · exact .inr (.inr ⟨a, _, rfl⟩)
  · cases σ <;> exact fun x h => (List.mem_append.mp h).elim (fun h => o x h) fun h => o x (cutG_mem h)
  · cases σ <;> (simp only [Sig.addZ, Sig.len, List.length_append]; exact Nat.add_le_add_left (cutG_one _) _)
theorem revZ_ok {kd : Str} {σ : Sig} (k : KS kd σ) (o : σ.Ok) : KS kd σ.revZ ∧ σ.revZ.Ok ∧ σ.revZ.len ≤ σ.len := by
  refine ⟨?_, ?_, ?_⟩
  · rcases k with ⟨a, s, rfl⟩ | ⟨a, s, rfl⟩ | ⟨a, s, rfl⟩
    · exact .inl ⟨a, _, rfl⟩
    · exact .inr (.inl ⟨a, _, rfl⟩)
    · exact .inr (.inr ⟨a, _, rfl⟩)
  · cases σ <;> exact fun x h => o x (List.mem_reverse.mp h)
  · cases σ <;> exact Nat.le_of_eq List.length_reverse
structure POk (kd : Str) (t n o s : Int) (σ : Sig) : Prop where
  t0 : 0 ≤ t
  n0 : 0 ≤ n
  o0 : 0 ≤ o
  s0 : 0 ≤ s
  t1 : t < 2 ^ 59
  ks : KS kd σ
  ok : σ.Ok
  len : σ.len ≤ 2100
def sealS (t n o : Int) (σ : Sig) : Int := sealZ t (n :: o :: σ.L.map Sgn.num)
def inR (n o : Int) : Bool := decide (n + 1 ≤ o) && decide (o ≤ 20000)
def ofD : Option Int → PyData
  | none => .none
  | some o => .int o
def ofOk (f : Option Int) (o : Int) : Bool := match f with
  | none => true
  | some k => decide (k = o)
def jf (kd : Str) (tk : Int) (f : Option Int) (e : Addr) : List (Str × W) := [("_kind", .d (.str kd)), ("_ticket", .d (.int tk)), ("_of", .d (ofD f)), ("_kept", .v (.ref e))]
def keptW (l : List (Int × Sig)) : List (Key × W) := l.map fun x => (.inl x.1, .d x.2.D)
def kfind (l : List (Int × Sig)) (n : Int) : Option Sig := (l.find? fun x => decide (x.1 = n)).map (·.2)
theorem kept_val (n : Int) : ∀ l : List (Int × Sig), valW (keptW l) (.inl n) = (kfind l n).map fun σ => .d σ.D
  | [] => rfl
  | x :: l => by
    have ih := kept_val n l
    unfold valW keptW kfind at ih ⊢
    rw [List.map_cons, List.find?_cons, List.find?_cons]
    by_cases e : x.1 = n
    · rw [show decide ((Sum.inl x.1 : Key) = Sum.inl n) = true by rw [e]; simp, show decide (x.1 = n) = true from decide_eq_true e]; rfl
    · rw [show decide ((Sum.inl x.1 : Key) = Sum.inl n) = false by rw [decide_eq_false_iff_not]; intro z; injection z with z; exact e z, show decide (x.1 = n) = false from decide_eq_false e]; exact ih
theorem kept_put {l : List (Int × Sig)} {n : Int} (h : kfind l n = none) (σ : Sig) : putW (keptW l) (.inl n) (.d σ.D) = keptW (l ++ [(n, σ)]) := by
  have hn : ((keptW l).any fun kv => decide (kv.1 = .inl n)) = false := by
    have e := kept_val n l
    rw [h] at e
    unfold valW at e
    have e2 : (keptW l).find? (fun kv => decide (kv.1 = .inl n)) = none := by
      cases q : (keptW l).find? (fun kv => decide (kv.1 = .inl n)) with
      | none => rfl
      | some z => rw [q] at e; cases e
    rw [List.find?_eq_none] at e2
    rw [List.any_eq_false]
    exact e2
  unfold putW
  rw [hn, if_neg Bool.false_ne_true]
  unfold keptW
  rw [List.map_append]
  rfl
theorem jf_of (kd : Str) (tk : Int) (f : Option Int) (e : Addr) (o : Int) : putWf (Str.ofString "_of") (.d (.int o)) (jf kd tk f e) = jf kd tk (some o) e := by
  unfold jf
  show putWf (Str.ofString "_of") (.d (.int o)) [(Str.ofString "_kind", _), (Str.ofString "_ticket", _), (Str.ofString "_of", _), (Str.ofString "_kept", _)] = _
  unfold putWf
  rw [if_neg (by decide +kernel)]
  unfold putWf
  rw [if_neg (by decide +kernel)]
  unfold putWf
  rw [if_pos rfl]
  rfl
theorem kfind_mem {l : List (Int × Sig)} {n : Int} {σ : Sig} (h : kfind l n = some σ) : ∃ x ∈ l, x.2 = σ := by
  unfold kfind at h
  cases e : l.find? (fun x => decide (x.1 = n)) with
  | none => rw [e] at h; cases h
  | some x => rw [e] at h; cases h; exact ⟨x, List.mem_of_find?_eq_some e, rfl⟩
def ofI : Option Int → Int
  | none => 0
  | some k => k
def good (tk : Int) (f : Option Int) (t n o s : Int) (σ : Sig) : Bool := inR n o && (decide (t = tk) && ofOk f o && decide (s = sealS t n o σ))
theorem ks_of {kd : Str} {n : Nat} {sg : PyData} (hk : kd ∈ kindsL) (st : SgT n (kd == Str.ofString "sounds") sg) (s30 : ∀ ts : List (List Nat), sg = .tuple (ts.map stD) → ∀ t ∈ ts, t.length ≤ 30) (sl : kd = Str.ofString "letters" → ∃ s : List Nat, sg = .str (mk s)) (snl : kd ≠ Str.ofString "letters" → ∃ ds : List PyData, sg = .tuple ds) : ∃ σ : Sig, sg = σ.D ∧ KS kd σ ∧ σ.Ok ∧ σ.len ≤ n := by
  generalize hb : (kd == Str.ofString "sounds") = b at st
  cases st with
  | @tx s hl hc =>
    refine ⟨.tx s, rfl, .inl ⟨?_, s, rfl⟩, hc, hl⟩
    apply Classical.byContradiction
    intro z
    obtain ⟨ds, e⟩ := snl z
    cases e
  | @tp ts hl hc =>
    have h1 : kd ≠ Str.ofString "letters" := fun z => by obtain ⟨s, e⟩ := sl z; cases e
    have h2 : kd ≠ Str.ofString "sounds" := beq_eq_false_iff_ne.mp hb
    refine ⟨.tp ts, rfl, .inr (.inr ⟨?_, ts, rfl⟩), fun t ht => ⟨s30 ts rfl t ht, (hc t ht).2⟩, hl⟩
    simp only [kindsL, List.mem_cons, List.not_mem_nil, or_false] at hk
    rcases hk with h | h | h | h
    · exact absurd h h1
    · exact .inl h
    · exact .inr h
    · exact absurd h h2
  | @nt ns hl hc => exact ⟨.nt ns, rfl, .inr (.inl ⟨eq_of_beq hb, ns, rfl⟩), hc, hl⟩
theorem shown_int2 {n : Int} (h0 : -100000000000000 ≤ n) (h1 : n ≤ 100000000000000) : (PyData.int n).leavesShort 40 = true ∧ (PyData.int n).showable = true := by
  have hb : n.natAbs < 2 ^ 50 := by omega
  refine ⟨?_, ?_⟩
  · simp only [PyData.leavesShort, decide_eq_true_eq]
    have e1 := int_text_length_le10 (a := n) (k := 16) (by decide) (by omega)
    have e : (PyData.int n).shown.length = (toString n).length := by
      exact PySem.ofString_length _
    omega
  · simp only [PyData.showable, decide_eq_true_eq]
    by_cases hz : n.natAbs = 0
    · rw [hz]; decide
    · have := (Nat.log2_lt hz).2 hb
      omega
theorem okd_int2 {n : Int} (h0 : -100000000000000 ≤ n) (h1 : n ≤ 100000000000000) (dpt : Nat) : DOkD (.int n) 0 dpt := ⟨rfl, (shown_int2 h0 h1).2, (shown_int2 h0 h1).1, Nat.le_refl _, by simp [PyData.depth]⟩
theorem pc_shw {kd : Str} {t n o s : Int} {σ : Sig} (pk : POk kd t n o s σ) (ht : t ≤ 100000000000000) (hn : n ≤ 100000000000000) (ho : o ≤ 100000000000000) (hs : s ≤ 100000000000000) : Shw (pc t n o s σ) := by
  have := (DOks.tup (DOks.cons (okd_int2 (by have := pk.t0; omega) ht 2) (DOks.cons (okd_int2 (by have := pk.n0; omega) hn 2) (DOks.cons (okd_int2 (by have := pk.o0; omega) ho 2) (DOks.cons (okd_int2 (by have := pk.s0; omega) hs 2) (DOks.cons (Sig.okd pk.ok) (DOks.nil (b := 0))))))))
  exact okd_shw this (by have := pk.len; omega) (by omega)
theorem repr_pc {t n o s : Int} {σ : Sig} {μ : M} {C : DQ} (h : Shw (pc t n o s σ)) (q : C (.d (.str (pc t n o s σ).shown)) μ) : reprX [.d (pc t n o s σ)] μ C := by
  obtain ⟨h1, h2, h3, h4⟩ := h
  unfold pc at *
  rw [q_reprXT]
  exact ⟨by simpa [PyData.plain] using h1, h2, h3, h4, q⟩
/-- a joiner x and the law's own state st: they keep the same -/
structure Js (CJ : Addr) (kd : Str) (tk : Int) (x dx e st e2 : Addr) (n : Nat) (f : Option Int) (kept : List (Int × Sig)) (μ : M) : Prop where
  jx : μ x = some (.ins CJ dx (jf kd tk f e))
  je : μ e = some (.dct (keptW kept))
  js : μ st = some (.lst [.d (.int (ofI f)), .v (.ref e2)])
  j2 : μ e2 = some (.dct (keptW kept))
  ne : e ≠ e2
  pos : ∀ k, f = some k → 1 ≤ k ∧ k ≤ 20000
  num : kept.length ≤ n
  oks : ∀ y ∈ kept, KS kd y.2 ∧ Sig.Ok y.2 ∧ Sig.len y.2 ≤ 2100
  rng : ∀ y ∈ kept, 0 ≤ y.1 ∧ ∀ k, f = some k → y.1 < k
  nd : (kept.map (·.1)).Nodup
  ff : f = none ↔ kept = []
theorem kfind_none {l : List (Int × Sig)} {n : Int} (h : kfind l n = none) : n ∉ l.map (·.1) := by
  intro hm
  obtain ⟨x, hx, rfl⟩ := List.mem_map.mp hm
  unfold kfind at h
  rw [Option.map_eq_none_iff, List.find?_eq_none] at h
  exact h x hx (by simp)
theorem ofOk_iff {f : Option Int} {o : Int} (h : ofOk f o = true) : ∀ k, f = some k → k = o := by
  intro k e
  subst e
  exact of_decide_eq_true h
section
variable {CJ : Addr} {kd : Str} {tk : Int} {x dx e st e2 : Addr} {N : Nat} {f : Option Int} {kept : List (Int × Sig)} {μ : M}
theorem Js.at (J : Js CJ kd tk x dx e st e2 N f kept μ) {μ' : M} (hx : μ' x = μ x) (he : μ' e = μ e) (hs : μ' st = μ st) (h2 : μ' e2 = μ e2) : Js CJ kd tk x dx e st e2 N f kept μ' := ⟨hx.trans J.jx, he.trans J.je, hs.trans J.js, h2.trans J.j2, J.ne, J.pos, J.num, J.oks, J.rng, J.nd, J.ff⟩
end
theorem piece_pc {kd : Str} {t : Int} {w : Nat} {σ : Sig} (h : PtOk t σ w) (ks : KS kd σ) {d : PyData} (hd : d ∈ piecesD t w σ) : ∃ (n : Nat) (s : Int) (σ' : Sig), d = pc t n (manyP σ w : Nat) s σ' ∧ POk kd t n (manyP σ w : Nat) s σ' ∧ σ'.len ≤ 2000 ∧ n ≤ 2200 ∧ s ≤ 1000000 ∧ manyP σ w ≤ 2200 := by
  obtain ⟨w0, w1, so, sl, t0, t1⟩ := h
  have m2 := many_le σ w0
  unfold piecesD at hd
  obtain ⟨n, hn, rfl⟩ := List.mem_map.mp hd
  rw [List.mem_range] at hn
  have sb := seal_bd ((n : Int) :: (manyP σ w : Int) :: (σ.cut (n * w) w).L.map Sgn.num) t (.inl (by simp))
  have cl := σ.cut_len (n * w) w
  refine ⟨n, _, σ.cut (n * w) w, rfl, ⟨t0, by omega, by omega, sb.1, by omega, ?_, Sig.cut_ok so _ _, by omega⟩, by omega, by omega, by omega, by omega⟩
  rcases ks with ⟨a, z, rfl⟩ | ⟨a, z, rfl⟩ | ⟨a, z, rfl⟩
  · exact .inl ⟨a, _, rfl⟩
  · exact .inr (.inl ⟨a, _, rfl⟩)
  · exact .inr (.inr ⟨a, _, rfl⟩)
/-! what is missing, the whole -/
def ofZ : Option Int → Nat
  | none => 0
  | some k => k.toNat
def missD (f : Option Int) (kept : List (Int × Sig)) : List PyData := ((List.range (ofZ f)).filter fun i : Nat => (kfind kept (i : Int)).isNone).map fun i : Nat => .int (i : Int)
def Sig.chars : Sig → List Nat
  | .tx s => s
  | _ => []
def Sig.items : Sig → List PyData
  | .tx _ => []
  | .tp ts => ts.map stD
  | .nt ns => ns.map ntD
def selK (kept : List (Int × Sig)) (k : Nat) : List Sig := (List.range k).filterMap fun i : Nat => kfind kept (i : Int)
def catD (kd : Str) (l : List Sig) : PyData := if kd = Str.ofString "letters" then .str (mk (l.map Sig.chars).flatten) else .tuple (l.map Sig.items).flatten
def wholeD (kd : Str) (f : Option Int) (kept : List (Int × Sig)) : PyData := match f with
  | none => .none
  | some k => if kept.length = k.toNat then catD kd (selK kept k.toNat) else .none
structure Kp (kd : Str) (f : Option Int) (kept : List (Int × Sig)) : Prop where
  pos : ∀ k, f = some k → 1 ≤ k ∧ k ≤ 20000
  num : kept.length ≤ 2000
  oks : ∀ y ∈ kept, KS kd y.2 ∧ Sig.Ok y.2 ∧ Sig.len y.2 ≤ 2100
  rng : ∀ y ∈ kept, 0 ≤ y.1 ∧ ∀ k, f = some k → y.1 < k
  nd : (kept.map (·.1)).Nodup
  ff : f = none ↔ kept = []
theorem nodup_le {α : Type} [BEq α] [LawfulBEq α] : ∀ {l m : List α}, l.Nodup → (∀ x ∈ l, x ∈ m) → l.length ≤ m.length
  | [], _, _, _ => Nat.zero_le _
  | a :: l, m, h, s => by
    rw [List.nodup_cons] at h
    have ha : a ∈ m := s a List.mem_cons_self
    have ih := nodup_le (m := m.erase a) h.2 fun x hx => by
      refine (List.mem_erase_of_ne ?_).mpr (s x (List.mem_cons_of_mem _ hx))
      intro e; subst e; exact h.1 hx
    rw [List.length_erase_of_mem ha] at ih
    have : 0 < m.length := List.length_pos_of_mem ha
    rw [List.length_cons]
    omega
theorem kfind_some {l : List (Int × Sig)} {n : Int} (h : n ∈ l.map (·.1)) : ∃ σ, kfind l n = some σ := by
  cases e : kfind l n with
  | some σ => exact ⟨σ, rfl⟩
  | none =>
    obtain ⟨x, hx, rfl⟩ := List.mem_map.mp h
    unfold kfind at e
    rw [Option.map_eq_none_iff, List.find?_eq_none] at e
    exact absurd (by simp) (e x hx)
theorem kfind_in {l : List (Int × Sig)} {n : Int} {σ : Sig} (h : kfind l n = some σ) : (n, σ) ∈ l := by
  unfold kfind at h
  cases e : l.find? (fun x => decide (x.1 = n)) with
  | none => rw [e] at h; cases h
  | some x =>
    rw [e] at h
    cases h
    have h1 := List.find?_some e
    have h2 := List.mem_of_find?_eq_some e
    obtain ⟨a, b⟩ := x
    simp only [decide_eq_true_eq] at h1
    subst h1
    exact h2
theorem Kp.len {kd : Str} {k : Int} {kept : List (Int × Sig)} (h : Kp kd (some k) kept) : kept.length ≤ k.toNat := by
  have := nodup_le (l := kept.map (·.1)) (m := (List.range k.toNat).map fun i : Nat => (i : Int)) h.nd fun x hx => by
    obtain ⟨y, hy, rfl⟩ := List.mem_map.mp hx
    have := h.rng y hy
    have h2 := this.2 k rfl
    refine List.mem_map.mpr ⟨y.1.toNat, List.mem_range.mpr (by omega), by omega⟩
  simpa using this
theorem Kp.all {kd : Str} {k : Int} {kept : List (Int × Sig)} (h : Kp kd (some k) kept) (e : kept.length = k.toNat) (i : Nat) (hi : i < k.toNat) : ∃ σ, kfind kept (i : Int) = some σ := by
  apply kfind_some
  apply Classical.byContradiction
  intro hn
  have := nodup_le (l := (i : Int) :: kept.map (·.1)) (m := (List.range k.toNat).map fun i : Nat => (i : Int)) (List.nodup_cons.mpr ⟨hn, h.nd⟩) fun x hx => by
    rcases List.mem_cons.mp hx with rfl | hx
    · exact List.mem_map.mpr ⟨i, List.mem_range.mpr hi, rfl⟩
    obtain ⟨y, hy, rfl⟩ := List.mem_map.mp hx
    have := h.rng y hy
    have h2 := this.2 k rfl
    refine List.mem_map.mpr ⟨y.1.toNat, List.mem_range.mpr (by omega), by omega⟩
  simp at this
  omega
theorem sel_ok {kd : Str} {f : Option Int} {kept : List (Int × Sig)} (h : Kp kd f kept) (k : Nat) : ∀ σ ∈ selK kept k, KS kd σ ∧ Sig.Ok σ ∧ Sig.len σ ≤ 2100 ∧ ∃ n, (n, σ) ∈ kept := by
  intro σ hσ
  unfold selK at hσ
  obtain ⟨i, _, e⟩ := List.mem_filterMap.mp hσ
  have := kfind_in e
  exact ⟨(h.oks _ this).1, (h.oks _ this).2.1, (h.oks _ this).2.2, _, this⟩
theorem sel_succ {kept : List (Int × Sig)} {k : Nat} {σ : Sig} (h : kfind kept (k : Int) = some σ) : selK kept (k + 1) = selK kept k ++ [σ] := by
  unfold selK
  rw [List.range_succ, List.filterMap_append, List.filterMap_cons, h]
  rfl
theorem sel_len (kept : List (Int × Sig)) (k : Nat) : (selK kept k).length ≤ k := by
  have := List.length_filterMap_le (fun i : Nat => kfind kept (i : Int)) (List.range k)
  rw [List.length_range] at this
  exact this
theorem ks_tx {kd : Str} {σ : Sig} (k : KS kd σ) (e : kd = Str.ofString "letters") : σ = .tx σ.chars := by
  subst e
  rcases k with ⟨_, s, rfl⟩ | ⟨a, s, rfl⟩ | ⟨a | a, s, rfl⟩
  · rfl
  · exact absurd a (by decide +kernel)
  · exact absurd a (by decide +kernel)
  · exact absurd a (by decide +kernel)
theorem ks_tp {kd : Str} {σ : Sig} (k : KS kd σ) (e : kd ≠ Str.ofString "letters") : σ.D = .tuple σ.items ∧ σ.items.length = σ.len := by
  rcases k with ⟨a, s, rfl⟩ | ⟨a, s, rfl⟩ | ⟨a, s, rfl⟩
  · exact absurd a e
  · exact ⟨rfl, List.length_map ..⟩
  · exact ⟨rfl, List.length_map ..⟩
theorem flat_le {α β : Type} (g : α → List β) (L : Nat) : ∀ l : List α, (∀ x ∈ l, (g x).length ≤ L) → (l.map g).flatten.length ≤ l.length * L
  | [], _ => Nat.zero_le _
  | x :: l, h => by
    have := flat_le g L l fun y hy => h y (List.mem_cons_of_mem _ hy)
    have h1 := h x List.mem_cons_self
    rw [List.map_cons, List.flatten_cons, List.length_append, List.length_cons, Nat.add_mul]
    omega
theorem rangeN (k : Int) : rangeW 0 k.toNat = (List.range k.toNat).map fun i : Nat => W.d (.int (i : Int)) := by unfold rangeW; simp
theorem ofI_bd {f : Option Int} (hf : ∀ k, f = some k → 1 ≤ k ∧ k ≤ 20000) : 0 ≤ ofI f ∧ ofI f ≤ 20000 ∧ (ofI f).toNat = ofZ f := by
  cases f with
  | none => exact ⟨by decide, by decide, rfl⟩
  | some k => obtain ⟨h1, h2⟩ := hf k rfl; exact ⟨by show 0 ≤ k; omega, h2, rfl⟩
theorem Js.kp {CJ : Addr} {kd : Str} {tk : Int} {x dx e st e2 : Addr} {N : Nat} {f : Option Int} {kept : List (Int × Sig)} {μ : M} (J : Js CJ kd tk x dx e st e2 N f kept μ) (h : N ≤ 2000) : Kp kd f kept := ⟨J.pos, Nat.le_trans J.num h, J.oks, J.rng, J.nd, J.ff⟩
theorem depth_ints {α : Type} (g : α → Int) : ∀ l : List α, PyData.depthAll (l.map fun i => PyData.int (g i)) = 0
  | [] => rfl
  | x :: l => by rw [List.map_cons]; simp only [PyData.depthAll, depth_ints g l, PyData.depth, Nat.max_self]
theorem miss_plain (f : Option Int) (kept : List (Int × Sig)) : PyData.plainAll (missD f kept) = true := plainAll_map _ (fun _ => rfl) _
theorem miss_depth (f : Option Int) (kept : List (Int × Sig)) : PyData.depthAll (missD f kept) = 0 := depth_ints (fun i : Nat => (i : Int)) _
theorem miss_self (f : Option Int) (kept : List (Int × Sig)) : PyData.eqv (.list (missD f kept)) (.list (missD f kept)) = true := eqv_self (by simpa [PyData.plain] using miss_plain f kept)
theorem oks_all {b dpt : Nat} : ∀ {ds : List PyData}, (∀ d ∈ ds, DOkD d b dpt) → DOks ds (ds.length * (b + 1)) dpt
  | [], _ => .nil
  | d :: ds, h => by
    refine DOks.mono (DOks.cons (h d List.mem_cons_self) (oks_all fun x hx => h x (List.mem_cons_of_mem _ hx))) ?_ (Nat.le_refl _)
    rw [List.length_cons, Nat.add_mul]
    omega
theorem items_ok {σ : Sig} (o : σ.Ok) : ∀ d ∈ σ.items, DOkD d 30 1 := by
  intro d hd
  cases σ with
  | tx s => cases hd
  | tp ts =>
    obtain ⟨t, ht, rfl⟩ := List.mem_map.mp hd
    exact (okd_str (o t ht).2 1).mono (o t ht).1 (Nat.le_refl _)
  | nt ns =>
    obtain ⟨t, ht, rfl⟩ := List.mem_map.mp hd
    exact (okd_nt (o t ht)).mono (by omega) (Nat.le_refl _)
theorem cat_ok {kd : Str} {sel : List Sig} {L : Nat} (so : ∀ σ ∈ sel, KS kd σ ∧ σ.Ok ∧ σ.len ≤ L) : DOkD (catD kd sel) (sel.length * L * 31) 2 := by
  unfold catD
  by_cases el : kd = Str.ofString "letters"
  · rw [if_pos el]
    refine (okd_str (l := (sel.map Sig.chars).flatten) (fun c hc => ?_) 2).mono ?_ (Nat.le_refl _)
    · obtain ⟨cs, hcs, hc⟩ := List.mem_flatten.mp hc
      obtain ⟨σ, hσ, rfl⟩ := List.mem_map.mp hcs
      have h1 := ks_tx (so σ hσ).1 el
      have h2 := (so σ hσ).2.1
      rw [h1] at h2
      exact h2 c hc
    · have := flat_le Sig.chars L sel fun σ hσ => by
        have h1 := ks_tx (so σ hσ).1 el
        have h2 := (so σ hσ).2.2
        rw [h1] at h2
        exact h2
      omega
  · rw [if_neg el]
    have h : ∀ d ∈ (sel.map Sig.items).flatten, DOkD d 30 1 := fun d hd => by
      obtain ⟨cs, hcs, hc⟩ := List.mem_flatten.mp hd
      obtain ⟨σ, hσ, rfl⟩ := List.mem_map.mp hcs
      exact items_ok (so σ hσ).2.1 d hc
    have := flat_le Sig.items L sel fun σ hσ => by
      rw [(ks_tp (so σ hσ).1 el).2]
      exact (so σ hσ).2.2
    exact (oks_all h).tup.mono (Nat.mul_le_mul_right _ this) (Nat.le_refl _)
theorem repr_shwD {d : PyData} (h : Shw d) (hd : (∃ z, d = .str z) ∨ (∃ xs, d = .tuple xs) ∨ ∃ xs, d = .list xs) {μ : M} {C : DQ} (q : C (.d (.str d.shown)) μ) : reprX [.d d] μ C := by
  obtain ⟨h1, h2, h3, h4⟩ := h
  rcases hd with ⟨z, rfl⟩ | ⟨xs, rfl⟩ | ⟨xs, rfl⟩
  · rw [q_reprXS]; exact ⟨h4, q⟩
  · rw [q_reprXT]; exact ⟨by simpa [PyData.plain] using h1, h2, h3, h4, q⟩
  · rw [q_reprXL]; exact ⟨by simpa [PyData.plain] using h1, h2, h3, h4, q⟩
theorem repr_whole {kd : Str} {f : Option Int} {kept : List (Int × Sig)} {L : Nat} (kp : Kp kd f kept) (hL : ∀ y ∈ kept, y.2.len ≤ L) (hb : kept.length * L * 31 ≤ 300000) : ∃ w : Str, ∀ (μ : M) (C : DQ), C (.d (.str w)) μ → reprX [.d (wholeD kd f kept)] μ C := by
  have none : ∃ w : Str, ∀ (μ : M) (C : DQ), C (.d (.str w)) μ → reprX [.d .none] μ C := ⟨_, fun μ C q => by rw [q_reprXN]; exact q⟩
  unfold wholeD
  cases f with
  | none => exact none
  | some k =>
    dsimp only
    by_cases ec : kept.length = k.toNat
    · rw [if_pos ec]
      refine ⟨_, fun μ C q => repr_shwD (okd_shw (cat_ok (L := L) (fun σ hσ => ?_)) ?_ (by decide)) ?_ q⟩
      · have := sel_ok kp _ σ hσ
        obtain ⟨n, hn⟩ := this.2.2.2
        exact ⟨this.1, this.2.1, hL _ hn⟩
      · have sl := sel_len kept k.toNat
        exact Nat.le_trans (Nat.mul_le_mul_right _ (Nat.mul_le_mul_right _ (by omega))) hb
      · unfold catD
        split
        · exact .inl ⟨_, rfl⟩
        · exact .inr (.inl ⟨_, rfl⟩)
    · rw [if_neg ec]; exact none
/-! what is a piece: of anything -/
def strB : PyData → Bool
  | .str _ => true
  | _ => false
def noteB : PyData → Bool
  | .tuple [a, b] => intIn 0 9 a && intIn 0 9 b
  | _ => false
def rowT : PyData → Bool
  | .tuple ds => ds.all strB
  | _ => false
def rowN : PyData → Bool
  | .tuple ds => ds.all noteB
  | _ => false
def signsB (kd : Str) (x : PyData) : Bool := if kd = Str.ofString "letters" then strB x else if kd = Str.ofString "sounds" then rowN x else rowT x
def fromB : PyData → Bool
  | .int i => decide (0 ≤ i)
  | _ => false
def inRD : PyData → PyData → Bool
  | .int n, .int o => inR n o
  | _, _ => false
def pieceB (kd : Str) : PyData → Bool
  | .tuple [a, b, c, d, e] => ([a, b, c, d].all fromB && inRD b c) && signsB kd e
  | _ => false
abbrev Fit (x : PyData) : Prop := DOkD x 300000 50
theorem oks_mem {b d : Nat} : ∀ {ds : List PyData}, DOks ds b d → ds.length ≤ b ∧ ∀ e ∈ ds, DOkD e b d
  | [], _ => ⟨Nat.zero_le _, fun e h => by cases h⟩
  | x :: ds, h => by
    obtain ⟨h1, h2, h3, h4, h5⟩ := h
    simp only [PyData.plainAll, PyData.showableAll, PyData.leavesShortAll, PyData.bulkAll, PyData.depthAll, Bool.and_eq_true] at h1 h2 h3 h4 h5
    obtain ⟨i1, i2⟩ := oks_mem (b := b - x.bulk - 1) (d := d) (ds := ds) ⟨h1.2, h2.2, h3.2, by omega, by omega⟩
    refine ⟨by rw [List.length_cons]; omega, fun e he => ?_⟩
    rcases List.mem_cons.mp he with rfl | he
    · exact ⟨h1.1, h2.1, h3.1, by omega, by omega⟩
    · exact (i2 e he).mono (by omega) (Nat.le_refl _)
theorem okd_tup {ds : List PyData} {b d : Nat} (h : DOkD (.tuple ds) b d) : DOks ds b d := by
  obtain ⟨h1, h2, h3, h4, h5⟩ := h
  simp only [PyData.plain, PyData.showable, PyData.leavesShort, PyData.bulk, PyData.depth] at h1 h2 h3 h4 h5
  exact ⟨h1, h2, h3, h4, by omega⟩
theorem okd_lst {ds : List PyData} {b d : Nat} (h : DOkD (.list ds) b d) : DOks ds b d := by
  obtain ⟨h1, h2, h3, h4, h5⟩ := h
  simp only [PyData.plain, PyData.showable, PyData.leavesShort, PyData.bulk, PyData.depth] at h1 h2 h3 h4 h5
  exact ⟨h1, h2, h3, h4, by omega⟩
theorem all_bools {α : Type} (p : α → Bool) : ∀ l : List α, (l.map p).all id = l.all p
  | [] => rfl
  | x :: l => by rw [List.map_cons, List.all_cons, List.all_cons, all_bools p l]; rfl
theorem strB_st (ts : List (List Nat)) : (ts.map stD).all strB = true := by
  rw [List.all_map]; exact List.all_eq_true.mpr fun _ _ => rfl
theorem noteB_nt {y : Int × Int} (h : 0 ≤ y.1 ∧ y.1 ≤ 9 ∧ 0 ≤ y.2 ∧ y.2 ≤ 9) : noteB (ntD y) = true := by
  obtain ⟨h1, h2, h3, h4⟩ := h
  show (decide (0 ≤ y.1) && decide (y.1 ≤ 9) && (decide (0 ≤ y.2) && decide (y.2 ≤ 9))) = true
  rw [decide_eq_true h1, decide_eq_true h2, decide_eq_true h3, decide_eq_true h4]; rfl
theorem noteB_ns {ns : List (Int × Int)} (h : ∀ y ∈ ns, 0 ≤ y.1 ∧ y.1 ≤ 9 ∧ 0 ≤ y.2 ∧ y.2 ≤ 9) : (ns.map ntD).all noteB = true := by
  rw [List.all_map]; exact List.all_eq_true.mpr fun y hy => noteB_nt (h y hy)
theorem signsB_ks {kd : Str} {σ : Sig} (k : KS kd σ) (o : σ.Ok) : signsB kd σ.D = true := by
  unfold signsB
  rcases k with ⟨rfl, s, rfl⟩ | ⟨rfl, s, rfl⟩ | ⟨a, s, rfl⟩
  · rw [if_pos rfl]; rfl
  · rw [if_neg (by decide +kernel), if_pos rfl]; exact noteB_ns o
  · have e : kd ≠ Str.ofString "letters" ∧ kd ≠ Str.ofString "sounds" := by rcases a with rfl | rfl <;> decide +kernel
    rw [if_neg e.1, if_neg e.2]; exact strB_st s
theorem pieceB_pc {kd : Str} {t n o s : Int} {σ : Sig} (pk : POk kd t n o s σ) : pieceB kd (pc t n o s σ) = inR n o := by
  show ((decide (0 ≤ t) && (decide (0 ≤ n) && (decide (0 ≤ o) && (decide (0 ≤ s) && true)))) && inR n o && signsB kd σ.D) = inR n o
  rw [decide_eq_true pk.t0, decide_eq_true pk.n0, decide_eq_true pk.o0, decide_eq_true pk.s0, signsB_ks pk.ks pk.ok, Bool.and_true]; rfl
theorem pc_fit {kd : Str} {t n o s : Int} {σ : Sig} (pk : POk kd t n o s σ) (ht : t ≤ 100000000000000) (hn : n ≤ 100000000000000) (ho : o ≤ 100000000000000) (hs : s ≤ 100000000000000) : Fit (pc t n o s σ) := by
  have := (DOks.tup (DOks.cons (okd_int2 (by have := pk.t0; omega) ht 2) (DOks.cons (okd_int2 (by have := pk.n0; omega) hn 2) (DOks.cons (okd_int2 (by have := pk.o0; omega) ho 2) (DOks.cons (okd_int2 (by have := pk.s0; omega) hs 2) (DOks.cons (Sig.okd pk.ok) (DOks.nil (b := 0))))))))
  exact this.mono (by have := pk.len; omega) (by omega)
theorem pieceB_5 (kd : Str) (a b c d e : PyData) : pieceB kd (.tuple [a, b, c, d, e]) = (([a, b, c, d].all fromB && inRD b c) && signsB kd e) := rfl
theorem pieceB_n {kd : Str} {ds : List PyData} (h : ds.length ≠ 5) : pieceB kd (.tuple ds) = false := by
  match ds, h with
  | [], _ => rfl
  | [a], _ => rfl
  | [a, b], _ => rfl
  | [a, b, c], _ => rfl
  | [a, b, c, d], _ => rfl
  | a :: b :: c :: d :: e :: f :: r, _ => rfl
  | [a, b, c, d, e], h => exact absurd rfl h
theorem five {ds : List PyData} (h : ds.length = 5) : ∃ a b c d e, ds = [a, b, c, d, e] := by
  match ds, h with
  | [a, b, c, d, e], _ => exact ⟨a, b, c, d, e, rfl⟩
theorem filter_no {α : Type} : ∀ l : List α, (l.filter fun _ => false) = []
  | [] => rfl
  | x :: r => by rw [List.filter_cons_of_neg (by simp), filter_no r]
theorem plain_mem : ∀ {ds : List PyData}, (∀ d ∈ ds, d.plain = true) → PyData.plainAll ds = true
  | [], _ => rfl
  | d :: ds, h => by
    show (d.plain && PyData.plainAll ds) = true
    rw [h d List.mem_cons_self, plain_mem fun x hx => h x (List.mem_cons_of_mem _ hx)]; rfl
theorem flt_empty {α : Type} (p : α → Bool) (l : List α) : (l.filter fun x => !p x).isEmpty = l.all p := by
  induction l with
  | nil => rfl
  | cons x l ih =>
    rw [List.all_cons, ← ih]
    cases e : p x with
    | true => rw [List.filter_cons_of_neg (by rw [e]; decide)]; rfl
    | false => rw [List.filter_cons_of_pos (by rw [e]; rfl)]; rfl
theorem bools_eq {α : Type} (p : α → Bool) (l : List α) : l.map (fun x => PyData.bool (p x)) = (l.map p).map .bool := by rw [List.map_map]; rfl
abbrev Fit2 (x : PyData) : Prop := ∀ ds : List PyData, x = .tuple ds → Fit x
theorem Fit.two {x : PyData} (h : Fit x) : Fit2 x := fun _ _ => h
def NumB (d : PyData) : Prop := (∃ i : Int, d = .int i ∧ -100000000000000 ≤ i ∧ i ≤ 100000000000000) ∨ ∃ b, d = .bool b
def NumT (d : PyData) : Prop := (∃ i : Int, d = .int i ∧ -100 ≤ i ∧ i ≤ 100) ∨ ∃ b, d = .bool b
inductive It : PyData → Prop
  | tx (s : Str) : s.length ≤ 10000 → (∀ c ∈ cd s, c < 128) → It (.str s)
  | tp {a b : PyData} : NumT a → NumT b → It (.tuple [a, b])
  | ls {a b : PyData} : NumT a → NumT b → It (.list [a, b])
inductive OddSg : PyData → Prop
  | tx (s : Str) : s.length ≤ 10000 → (∀ c ∈ cd s, c < 128) → OddSg (.str s)
  | tp (ds : List PyData) : ds.length ≤ 10000 → (∀ d ∈ ds, It d) → OddSg (.tuple ds)
  | ls (ds : List PyData) : ds.length ≤ 10000 → (∀ d ∈ ds, It d) → OddSg (.list ds)
theorem bIn_bd (b : Bool) : 0 ≤ bIn b ∧ bIn b ≤ 1 := by cases b <;> decide
theorem ord_lt {s : Str} (h : ∀ c ∈ cd s, c < 128) : s.cps.getD 0 0 < 128 := by
  by_cases e : 0 < s.cps.size
  · have : s.cps.getD 0 0 = s.cps[0] := by simp [Array.getD, e]
    rw [this]
    exact h _ (by show _ ∈ s.cps.toList; simp)
  · have : s.cps.getD 0 0 = 0 := by simp [Array.getD, e]
    rw [this]; decide
theorem okd_bool (b : Bool) (dpt : Nat) : DOkD (.bool b) 0 dpt := ⟨rfl, rfl, by cases b <;> decide +kernel, Nat.le_refl _, Nat.zero_le _⟩
theorem okd_none (dpt : Nat) : DOkD .none 0 dpt := ⟨rfl, rfl, by decide +kernel, Nat.le_refl _, Nat.zero_le _⟩
theorem NumB.okd {d : PyData} (h : NumB d) (dpt : Nat) : DOkD d 0 dpt := by
  rcases h with ⟨i, rfl, h0, h1⟩ | ⟨b, rfl⟩
  · exact okd_int2 h0 h1 dpt
  · exact okd_bool b dpt
theorem NumB.i {i : Int} (h0 : -100000000000000 ≤ i) (h1 : i ≤ 100000000000000) : NumB (.int i) := .inl ⟨i, rfl, h0, h1⟩
theorem NumB.b (b : Bool) : NumB (.bool b) := .inr ⟨b, rfl⟩
/-- what is no piece of the kind: it can be shown, and it can be handed in -/
structure Odd (kd : Str) (x : PyData) : Prop where
  no : pieceB kd x = false
  ft : Fit2 x
  rp : ∃ w : Str, ∀ (μ : M) (C : DQ), C (.d (.str w)) μ → reprZ [.d x] μ C
theorem Odd.tup {kd : Str} {ds : List PyData} (h : DOkD (.tuple ds) 200000 45) (n : pieceB kd (.tuple ds) = false) : Odd kd (.tuple ds) :=
  ⟨n, fun es e => (by injection e with e; subst e; exact h.mono (by decide) (by decide)), _, fun μ C q => .inr (repr_shwD (okd_shw h (by decide) (by decide)) (.inr (.inl ⟨_, rfl⟩)) q)⟩
theorem Odd.lst {kd : Str} {ds : List PyData} (h : DOkD (.list ds) 200000 45) : Odd kd (.list ds) :=
  ⟨rfl, fun es e => (by cases e), _, fun μ C q => repr_shwD (okd_shw h (by decide) (by decide)) (.inr (.inr ⟨_, rfl⟩)) q⟩
theorem okd5 {a b c d e : PyData} (ha : DOkD a 0 40) (hb : DOkD b 0 40) (hc : DOkD c 10 40) (hd : DOkD d 40 40) (he : DOkD e 20000 40) : DOks [a, b, c, d, e] 20100 40 :=
  (DOks.cons ha (DOks.cons hb (DOks.cons hc (DOks.cons hd (DOks.cons he (DOks.nil (b := 0))))))).mono (by decide) (Nat.le_refl _)
theorem Odd.five {kd : Str} {a b c d e : PyData} (ha : DOkD a 0 40) (hb : DOkD b 0 40) (hc : DOkD c 10 40) (hd : DOkD d 40 40) (he : DOkD e 20000 40) (n : (([a, b, c, d].all fromB && inRD b c) && signsB kd e) = false) : Odd kd (.tuple [a, b, c, d, e]) :=
  .tup ((okd5 ha hb hc hd he).tup.mono (by decide) (by decide)) n
/-- what are no signs of the kind -/
structure OddX (kd : Str) (x : PyData) : Prop where
  sg : OddSg x
  no : signsB kd x = false
  ok : DOkD x 20000 40
theorem it_items {σ : Sig} (o : σ.Ok) : ∀ d ∈ σ.items, It d := by
  intro d hd
  cases σ with
  | tx s => cases hd
  | tp ts =>
    obtain ⟨t, ht, rfl⟩ := List.mem_map.mp hd
    exact .tx _ (by rw [len_mk]; have := (o t ht).1; omega) (by rw [cd_mk]; exact (o t ht).2)
  | nt ns =>
    obtain ⟨x, hx, rfl⟩ := List.mem_map.mp hd
    obtain ⟨a, b, c, d⟩ := o x hx
    exact .tp (.inl ⟨_, rfl, by omega, by omega⟩) (.inl ⟨_, rfl, by omega, by omega⟩)
theorem items_okd {σ : Sig} (o : σ.Ok) (l : σ.items.length ≤ 60) : DOks σ.items 2000 3 := (oks_all (items_ok o)).mono (by omega) (by decide)
theorem oks_app {as bs : List PyData} {x y d : Nat} (h : DOks as x d) (g : DOks bs y d) : DOks (as ++ bs) (x + y) d := by
  induction as generalizing x with
  | nil => exact g.mono (by omega) (Nat.le_refl _)
  | cons a as ih =>
    obtain ⟨h1, h2, h3, h4, h5⟩ := h
    simp only [PyData.plainAll, PyData.showableAll, PyData.leavesShortAll, PyData.bulkAll, PyData.depthAll, Bool.and_eq_true] at h1 h2 h3 h4 h5
    have := ih (x := x - a.bulk - 1) ⟨h1.2, h2.2, h3.2, by omega, by omega⟩
    refine ⟨?_, ?_, ?_, ?_, ?_⟩
    · simp only [List.cons_append, PyData.plainAll, h1.1, this.plain, Bool.and_self]
    · simp only [List.cons_append, PyData.showableAll, h2.1, this.show_, Bool.and_self]
    · simp only [List.cons_append, PyData.leavesShortAll, h3.1, this.short, Bool.and_self]
    · have := this.bulk; simp only [List.cons_append, PyData.bulkAll]; omega
    · have := this.depth; simp only [List.cons_append, PyData.depthAll]; omega
theorem signsB_lst (kd : Str) (ds : List PyData) : signsB kd (.list ds) = false := by
  unfold signsB
  split
  · rfl
  · split <;> rfl
theorem signsB_txt {kd s : Str} (h : kd ≠ Str.ofString "letters") : signsB kd (.str s) = false := by
  unfold signsB
  rw [if_neg h]
  split <;> rfl
theorem signsB_tup {ds : List PyData} : signsB (Str.ofString "letters") (.tuple ds) = false := by
  unfold signsB
  rw [if_pos rfl]; rfl
theorem OddX.lst {kd : Str} {σ : Sig} (o : σ.Ok) (l : σ.items.length ≤ 60) : OddX kd (.list σ.items) :=
  ⟨.ls _ (by omega) (it_items o), signsB_lst _ _, (items_okd o l).lst.mono (by decide) (by decide)⟩
theorem OddX.txt {kd s : Str} (h : kd ≠ Str.ofString "letters") (e : s.cps.toList.all (· < 128) = true) (l : s.length ≤ 100) : OddX kd (.str s) :=
  ⟨.tx _ (by omega) (fun c hc => by have := List.all_eq_true.mp e c hc; simpa using this), signsB_txt h, (okd_lit e 40).mono (by omega) (Nat.le_refl _)⟩
theorem rows_no {kd : Str} {ds : List PyData} {d : PyData} (h : kd ≠ Str.ofString "letters") (hd : d ∈ ds) (n : (if kd = Str.ofString "sounds" then noteB d else strB d) = false) : signsB kd (.tuple ds) = false := by
  unfold signsB
  rw [if_neg h]
  by_cases e : kd = Str.ofString "sounds"
  · rw [if_pos e] at n ⊢
    show ds.all noteB = false
    rw [List.all_eq_false]
    exact ⟨d, hd, by rw [n]; decide⟩
  · rw [if_neg e] at n ⊢
    show ds.all strB = false
    rw [List.all_eq_false]
    exact ⟨d, hd, by rw [n]; decide⟩
theorem OddX.add {kd : Str} {σ : Sig} {d : PyData} (h : kd ≠ Str.ofString "letters") (o : σ.Ok) (l : σ.items.length ≤ 60) (it : It d) (ok : DOkD d 30 3) (n : (if kd = Str.ofString "sounds" then noteB d else strB d) = false) : OddX kd (.tuple (σ.items ++ [d])) :=
  ⟨.tp _ (by simp; omega) (fun e he => by
    rcases List.mem_append.mp he with z | z
    · exact it_items o e z
    · rw [List.mem_singleton.mp z]; exact it), rows_no h (by simp) n, (oks_app (items_okd o l) (DOks.cons ok (DOks.nil (b := 0)))).tup.mono (by decide) (by decide)⟩
theorem OddX.pre {kd : Str} {σ : Sig} {d : PyData} (h : kd ≠ Str.ofString "letters") (o : σ.Ok) (l : σ.items.length ≤ 60) (it : It d) (ok : DOkD d 30 3) (n : (if kd = Str.ofString "sounds" then noteB d else strB d) = false) : OddX kd (.tuple (d :: σ.items)) :=
  ⟨.tp _ (by simp; omega) (fun e he => by
    rcases List.mem_cons.mp he with z | z
    · rw [z]; exact it
    · exact it_items o e z), rows_no h (by simp) n, (DOks.cons ok (items_okd o l)).tup.mono (by decide) (by decide)⟩
theorem okd2 {a b : PyData} (ha : DOkD a 0 2) (hb : DOkD b 0 2) : DOks [a, b] 10 2 := (DOks.cons ha (DOks.cons hb (DOks.nil (b := 0)))).mono (by decide) (Nat.le_refl _)
theorem stepX {i : Nat} {te : DTE} {rest : DTS} {D : DEnds} {ρ : Sl} {μ : M} (P : List PyData → Prop) (h1 : ∀ C : DQ, (∀ L : List PyData, P L → C (.d (.list L)) μ) → te ρ μ C) (h2 : ∀ L : List PyData, P L → rest D (ρ.set i (some (.d (.list L)))) μ) : tSeqD (tSetD i te) rest D ρ μ := h1 _ fun L a => h2 L a
theorem ifSF {i : Nat} {s k : Str} {A C : DTS} {D : DEnds} {ρ : Sl} {μ : M} (h : ρ[i]? = some (some (.d (.str s)))) (e : PyData.eqv (.str s) (.str k) = false) (g : C D ρ μ) : tSeqD (DL.tIfS (tTst (tOp2 DL.eqV (tVarD i) (tK (.d (.str k))))) A tNextD) C D ρ μ := by
  simp only [tSeqD, DL.tIfS, tTst, tOp2, tVarD, tK, h]
  refine ⟨rfl, rfl, show min 0 0 ≤ 64 by decide, ?_⟩
  simp only [e]
  rw [if_neg Bool.false_ne_true]
  exact g
theorem ifST {i : Nat} {s k : Str} {A C : DTS} {D : DEnds} {ρ : Sl} {μ : M} (h : ρ[i]? = some (some (.d (.str s)))) (e : PyData.eqv (.str s) (.str k) = true) (g : ∀ N, N = C D → A { nx := N, rt := D.rt, bk := D.bk, ct := D.ct } ρ μ) : tSeqD (DL.tIfS (tTst (tOp2 DL.eqV (tVarD i) (tK (.d (.str k))))) A tNextD) C D ρ μ := by
  simp only [tSeqD, DL.tIfS, tTst, tOp2, tVarD, tK, h]
  refine ⟨rfl, rfl, show min 0 0 ≤ 64 by decide, ?_⟩
  simp only [e]
  exact g _ rfl
theorem ifNF {i : Nat} {s k : Str} {A C : DTS} {D : DEnds} {ρ : Sl} {μ : M} (h : ρ[i]? = some (some (.d (.str s)))) (e : PyData.eqv (.str s) (.str k) = true) (g : C D ρ μ) : tSeqD (DL.tIfS (tTst (tOp2 DL.neV (tVarD i) (tK (.d (.str k))))) A tNextD) C D ρ μ := by
  simp only [tSeqD, DL.tIfS, tTst, tOp2, tVarD, tK, h]
  refine ⟨rfl, rfl, show min 0 0 ≤ 64 by decide, ?_⟩
  simp only [e]
  rw [if_neg (by decide)]
  exact g
theorem ifNT {i : Nat} {s k : Str} {A C : DTS} {D : DEnds} {ρ : Sl} {μ : M} (h : ρ[i]? = some (some (.d (.str s)))) (e : PyData.eqv (.str s) (.str k) = false) (g : ∀ N, N = C D → A { nx := N, rt := D.rt, bk := D.bk, ct := D.ct } ρ μ) : tSeqD (DL.tIfS (tTst (tOp2 DL.neV (tVarD i) (tK (.d (.str k))))) A tNextD) C D ρ μ := by
  simp only [tSeqD, DL.tIfS, tTst, tOp2, tVarD, tK, h]
  refine ⟨rfl, rfl, show min 0 0 ≤ 64 by decide, ?_⟩
  simp only [e]
  exact g _ rfl
theorem Js.new {CJ : Addr} {kd : Str} {tk : Int} {x dx e st e2 : Addr} {N : Nat} {f : Option Int} {kept : List (Int × Sig)} {μ : M} (J : Js CJ kd tk x dx e st e2 N f kept μ) {p : Addr} (hp : μ p = none) (m : MO) : Js CJ kd tk x dx e st e2 N f kept (mset μ p m) :=
  J.at (mset_ne fun z => by have := J.jx; rw [z, hp] at this; cases this) (mset_ne fun z => by have := J.je; rw [z, hp] at this; cases this) (mset_ne fun z => by have := J.js; rw [z, hp] at this; cases this) (mset_ne fun z => by have := J.j2; rw [z, hp] at this; cases this)
theorem repr_wholeZ {kd : Str} {f : Option Int} {kept : List (Int × Sig)} {L : Nat} (kp : Kp kd f kept) (hL : ∀ y ∈ kept, y.2.len ≤ L) (hb : kept.length * L * 31 ≤ 300000) : ∃ w : Str, ∀ (μ : M) (C : DQ), C (.d (.str w)) μ → reprZ [.d (wholeD kd f kept)] μ C := by
  obtain ⟨w, hw⟩ := repr_whole kp hL hb
  have sh : wholeD kd f kept = .none ∨ (∃ s, wholeD kd f kept = .str s) ∨ ∃ ds, wholeD kd f kept = .tuple ds := by
    unfold wholeD
    cases f with
    | none => exact .inl rfl
    | some k =>
      dsimp only
      split
      · unfold catD
        split
        · exact .inr (.inl ⟨_, rfl⟩)
        · exact .inr (.inr ⟨_, rfl⟩)
      · exact .inl rfl
  rcases sh with e | ⟨s, e⟩ | ⟨ds, e⟩
  · rw [e] at hw ⊢; exact ⟨w, hw⟩
  · rw [e] at hw ⊢; exact ⟨w, hw⟩
  · rw [e] at hw ⊢; exact ⟨w, fun μ C q => .inr (hw μ C q)⟩
theorem seq2 {A B C : DTS} {D : DEnds} {ρ : Sl} {μ : M} (P : Sl → M → Prop) (h2 : ∀ ρ μ, P ρ μ → C D ρ μ) (h1 : ∀ K : Sl → M → Prop, (∀ ρ μ, P ρ μ → K ρ μ) → tSeqD A B { nx := K, rt := D.rt, bk := D.bk, ct := D.ct } ρ μ) : tSeqD A (tSeqD B C) D ρ μ := h1 (C D) h2
theorem piece_20 {kd : Str} {t : Int} {w : Nat} {σ : Sig} (h : PtOk t σ w) (ks : KS kd σ) (h20 : σ.len ≤ 20) {d : PyData} (hd : d ∈ piecesD t w σ) : ∃ (n : Nat) (s : Int) (σ' : Sig), d = pc t n (manyP σ w : Nat) s σ' ∧ POk kd t n (manyP σ w : Nat) s σ' ∧ σ'.len ≤ 20 ∧ n ≤ 2200 ∧ s ≤ 1000000 := by
  obtain ⟨w0, w1, so, sl, t0, t1⟩ := h
  have m2 := many_le σ w0
  unfold piecesD at hd
  obtain ⟨n, hn, rfl⟩ := List.mem_map.mp hd
  rw [List.mem_range] at hn
  have sb := seal_bd ((n : Int) :: (manyP σ w : Int) :: (σ.cut (n * w) w).L.map Sgn.num) t (.inl (by simp))
  have cl := σ.cut_len (n * w) w
  refine ⟨n, _, σ.cut (n * w) w, rfl, ⟨t0, by omega, by omega, sb.1, by omega, ?_, Sig.cut_ok so _ _, by omega⟩, by omega, by omega, by omega⟩
  rcases ks with ⟨a, z, rfl⟩ | ⟨a, z, rfl⟩ | ⟨a, z, rfl⟩
  · exact .inl ⟨a, _, rfl⟩
  · exact .inr (.inl ⟨a, _, rfl⟩)
  · exact .inr (.inr ⟨a, _, rfl⟩)

def sp_d_is_whole : DSp := fun ws μ R => match ws with
  | [.d x] => R (.d (.bool (match x with | .int _ => true | _ => false))) μ
  | _ => False
theorem ar_d_is_whole {ws : List W} {μ : M} {R : DQ} (h : sp_d_is_whole ws μ R) : ws.length = 1 := by
  unfold sp_d_is_whole at h; split at h
  · rfl
  · exact h.elim

def body_d_is_whole : DTS := (tRetD (tAndD (tCallB isiV (tConsD (tVarD 0) (tConsD (tK (.v (.ty "int"))) tNilD))) (tNotD (tCallB isiV (tConsD (tVarD 0) (tConsD (tK (.v (.ty "bool"))) tNilD))))))
theorem rd_d_is_whole {ws : List W} {μ : M} {R : DQ} (h : sp_d_is_whole ws μ R) : body_d_is_whole { nx := fun _ μ' => R (.d .none) μ', rt := R } (startD N_d_is_whole.length ws) μ := by
  unfold sp_d_is_whole at h
  split at h
  · rename_i x
    unfold body_d_is_whole
    cases x <;> (walk_at "dlsym"; exact h)
  · exact h.elim

theorem ok_d_is_whole {P : Program} {w : World} {K : PySem.W.Frag} {mg : Str → Option Value} {base : Heap} (T : Tx w K mg) : FG P w K mg base CX0 1 T.f_d_is_whole T.fd_d_is_whole ["thing"] (lSp K sp_d_is_whole) := by
  refine fg_data T.F_d_is_whole sc_d_is_whole (fun ws μ R h => ar_d_is_whole h) body_d_is_whole (fun cdv A outer s H E hr hgd => ?_) (fun ws μ R h => rd_d_is_whole h)
  have nd := sc_d_is_whole.nd
  exact (dss_one (ds_ret (de_and (de_callB call_isi l_isiV (by rfl) T.z_isinstance (by decide +kernel) (da_cons (de_var 0 (pv 0)) (da_cons (de_ty (T := "int") (by rfl) T.z_int (by decide +kernel) (by decide) (by decide)) da_nil (by rfl)) (by rfl)) (by decide) (by decide) (by rfl) (by rfl)) (de_one (de_not (de_callB call_isi l_isiV (by rfl) T.z_isinstance (by decide +kernel) (da_cons (de_var 0 (pv 0)) (da_cons (de_ty (T := "bool") (by rfl) T.z_bool (by decide +kernel) (by decide) (by decide)) da_nil (by rfl)) (by rfl)) (by decide) (by decide) (by rfl) (by rfl)))))))
def sp_d_is_whole_within : DSp := fun ws μ R => match ws with
  | [.d x, .d (.int a), .d (.int b)] => R (.d (.bool (intIn a b x))) μ
  | _ => False
theorem ar_d_is_whole_within {ws : List W} {μ : M} {R : DQ} (h : sp_d_is_whole_within ws μ R) : ws.length = 3 := by
  unfold sp_d_is_whole_within at h; split at h
  · rfl
  · exact h.elim

def body_d_is_whole_within : DTS := (tRetD (tAndD (tCallD sp_d_is_whole (tConsD (tVarD 0) tNilD)) (tChainD leD leD (tVarD 1) (tVarD 0) (tVarD 2))))
theorem rd_d_is_whole_within {ws : List W} {μ : M} {R : DQ} (h : sp_d_is_whole_within ws μ R) : body_d_is_whole_within { nx := fun _ μ' => R (.d .none) μ', rt := R } (startD N_d_is_whole_within.length ws) μ := by
  unfold sp_d_is_whole_within at h
  split at h
  · rename_i x a b
    unfold body_d_is_whole_within
    cases x with
    | int i =>
      walk_at "dlsym"
      unfold sp_d_is_whole
      walk_at "dlsym"
      have h : R (.d (.bool (decide (a ≤ i) && decide (i ≤ b)))) μ := h
      by_cases e : a ≤ i
      · rw [if_pos (decide_eq_true e)]
        rw [decide_eq_true e, Bool.true_and] at h
        exact h
      · rw [if_neg (by rw [decide_eq_false e]; exact Bool.false_ne_true)]
        rw [decide_eq_false e, Bool.false_and] at h
        exact h
    | _ =>
      walk_at "dlsym"
      unfold sp_d_is_whole
      walk_at "dlsym"
      exact h
  · exact h.elim

theorem ok_d_is_whole_within {P : Program} {w : World} {K : PySem.W.Frag} {mg : Str → Option Value} {base : Heap} (T : Tx w K mg) : FG P w K mg base CX0 2 T.f_d_is_whole_within T.fd_d_is_whole_within ["thing", "least", "most"] (lSp K sp_d_is_whole_within) := by
  refine fg_data T.F_d_is_whole_within sc_d_is_whole_within (fun ws μ R h => ar_d_is_whole_within h) body_d_is_whole_within (fun cdv A outer s H E hr hgd => ?_) (fun ws μ R h => rd_d_is_whole_within h)
  have nd := sc_d_is_whole_within.nd
  exact (dss_one (ds_ret (de_and (de_call (ok_d_is_whole T) (hr.mono (by first | decide | omega)) hgd (by rfl) T.m_d_is_whole T.F_d_is_whole.kp T.b_d_is_whole (da_cons (de_var 0 (pv 0)) da_nil (by rfl)) (by decide) (by rfl) (by rfl)) (de_one (de_chain op_leA op_leA l_cmp l_cmp (de_var 1 (pv 1)) (de_var 0 (pv 0)) (de_var 2 (pv 2)) rfl)))))
def sp_d_is_whole_from : DSp := fun ws μ R => match ws with
  | [.d x, .d (.int a)] => R (.d (.bool (match x with | .int i => decide (a ≤ i) | _ => false))) μ
  | _ => False
theorem ar_d_is_whole_from {ws : List W} {μ : M} {R : DQ} (h : sp_d_is_whole_from ws μ R) : ws.length = 2 := by
  unfold sp_d_is_whole_from at h; split at h
  · rfl
  · exact h.elim

def body_d_is_whole_from : DTS := (tRetD (tAndD (tCallD sp_d_is_whole (tConsD (tVarD 0) tNilD)) (tOp2 leD (tVarD 1) (tVarD 0))))
theorem rd_d_is_whole_from {ws : List W} {μ : M} {R : DQ} (h : sp_d_is_whole_from ws μ R) : body_d_is_whole_from { nx := fun _ μ' => R (.d .none) μ', rt := R } (startD N_d_is_whole_from.length ws) μ := by
  unfold sp_d_is_whole_from at h
  split at h
  · rename_i x a
    unfold body_d_is_whole_from
    cases x <;> (walk_at "dlsym"; unfold sp_d_is_whole; walk_at "dlsym"; exact h)
  · exact h.elim

theorem ok_d_is_whole_from {P : Program} {w : World} {K : PySem.W.Frag} {mg : Str → Option Value} {base : Heap} (T : Tx w K mg) : FG P w K mg base CX0 2 T.f_d_is_whole_from T.fd_d_is_whole_from ["thing", "least"] (lSp K sp_d_is_whole_from) := by
  refine fg_data T.F_d_is_whole_from sc_d_is_whole_from (fun ws μ R h => ar_d_is_whole_from h) body_d_is_whole_from (fun cdv A outer s H E hr hgd => ?_) (fun ws μ R h => rd_d_is_whole_from h)
  have nd := sc_d_is_whole_from.nd
  exact (dss_one (ds_ret (de_and (de_call (ok_d_is_whole T) (hr.mono (by first | decide | omega)) hgd (by rfl) T.m_d_is_whole T.F_d_is_whole.kp T.b_d_is_whole (da_cons (de_var 0 (pv 0)) da_nil (by rfl)) (by decide) (by rfl) (by rfl)) (de_one (de_cmp op_leA l_cmp (de_var 1 (pv 1)) (de_var 0 (pv 0)) (nomark _))))))
def sp_d_is_row_of_texts : DSp := fun ws μ R => match ws with
  | [.d x] => Fit x ∧ R (.d (.bool (rowT x))) μ
  | _ => False
theorem ar_d_is_row_of_texts {ws : List W} {μ : M} {R : DQ} (h : sp_d_is_row_of_texts ws μ R) : ws.length = 1 := by
  unfold sp_d_is_row_of_texts at h; split at h
  · rfl
  · exact h.elim

def ce1_d_is_row_of_texts : DTE := (tCallB isiV (tConsD (tVarD 1) (tConsD (tK (.v (.ty "str"))) tNilD)))
def body_d_is_row_of_texts : DTS := (tRetD (tAndD (tCallB isiV (tConsD (tVarD 0) (tConsD (tK (.v (.ty "tuple"))) tNilD))) (tCallB allD (tConsD (tCompG (tItT (tVarD 0)) 1 tYesD ce1_d_is_row_of_texts [1] cFrz) tNilD))))
theorem rd_d_is_row_of_texts {ws : List W} {μ : M} {R : DQ} (h : sp_d_is_row_of_texts ws μ R) : body_d_is_row_of_texts { nx := fun _ μ' => R (.d .none) μ', rt := R } (startD N_d_is_row_of_texts.length ws) μ := by
  unfold sp_d_is_row_of_texts at h
  split at h
  · rename_i x
    obtain ⟨ft, q⟩ := h
    unfold body_d_is_row_of_texts
    cases x with
    | tuple ds =>
      have hl := (oks_mem (okd_tup ft)).1
      walk_at "dlsym"
      refine compL_map W.d ds (fun _ => true) (fun x => .bool (strB x)) (fun x _ Z h => h) (fun x _ _ Z h => ?_) (by rw [List.length_nil, sizeLit]; omega) ?_
      · unfold ce1_d_is_row_of_texts
        cases x <;> (walk_at "dlsym"; exact h)
      rw [filter_yes, List.nil_append, asD_map, q_bools]
      show R (.d (.bool ((ds.map strB).all id))) μ
      rw [all_bools]
      exact q
    | _ =>
      walk_at "dlsym"
      exact q
  · exact h.elim

theorem ok_d_is_row_of_texts {P : Program} {w : World} {K : PySem.W.Frag} {mg : Str → Option Value} {base : Heap} (T : Tx w K mg) : FG P w K mg base CX0 1 T.f_d_is_row_of_texts T.fd_d_is_row_of_texts ["thing"] (lSp K sp_d_is_row_of_texts) := by
  refine fg_data T.F_d_is_row_of_texts sc_d_is_row_of_texts (fun ws μ R h => ar_d_is_row_of_texts h) body_d_is_row_of_texts (fun cdv A outer s H E hr hgd => ?_) (fun ws μ R h => rd_d_is_row_of_texts h)
  have nd := sc_d_is_row_of_texts.nd
  exact (dss_one (ds_ret (de_and (de_callB call_isi l_isiV (by rfl) T.z_isinstance (by decide +kernel) (da_cons (de_var 0 (pv 0)) (da_cons (de_ty (T := "tuple") (by rfl) T.z_tuple (by decide +kernel) (by decide) (by decide)) da_nil (by rfl)) (by rfl)) (by decide) (by decide) (by rfl) (by rfl)) (de_one (de_callB (cr_all rfl) l_all (by rfl) T.z_all (by decide +kernel) (da_cons (de_lc (pe_lc (own := [("text", 1)]) (g := gName 1) (by rfl) nd (di_tup (de_var 0 (pv 0))).pi (blkOk_by (own := [("text", 1)]) (N := N_d_is_row_of_texts) (sc := defScope s_d_is_row_of_texts) (by decide +kernel)) (fun _ _ _ _ _ => pg_name (i := 1) nd rfl (by first | exact Or.inl rfl | exact Or.inr rfl)) (fun _ _ _ _ _ => (dts_nil : DTs _ _ tYesD).pts) (fun _ _ _ _ _ => ((de_callB call_isi l_isiV (by rfl) T.z_isinstance (by decide +kernel) (da_cons (de_var 1 (pv 1)) (da_cons (de_ty (T := "str") (by rfl) T.z_str (by decide +kernel) (by decide) (by decide)) da_nil (by rfl)) (by rfl)) (by decide) (by decide) (by rfl) (by rfl)) : DE _ _ ce1_d_is_row_of_texts).pe)) cFrz_ok (by decide)) da_nil (by rfl)) (by decide) (by decide) (by rfl) (by rfl))))))
def sp_d_is_note : DSp := fun ws μ R => match ws with
  | [.d x] => Fit x ∧ R (.d (.bool (noteB x))) μ
  | _ => False
theorem ar_d_is_note {ws : List W} {μ : M} {R : DQ} (h : sp_d_is_note ws μ R) : ws.length = 1 := by
  unfold sp_d_is_note at h; split at h
  · rfl
  · exact h.elim

def ce1_d_is_note : DTE := (tCallD sp_d_is_whole_within (tConsD (tVarD 1) (tConsD (tK (.d (.int 0))) (tConsD (tK (.d (.int 9))) tNilD))))
def body_d_is_note : DTS := (tRetD (tAndD (tCallB isiV (tConsD (tVarD 0) (tConsD (tK (.v (.ty "tuple"))) tNilD))) (tAndD (tOp2 eqV (tCallB lenD (tConsD (tVarD 0) tNilD)) (tK (.d (.int 2)))) (tCallB allD (tConsD (tCompG (tItT (tVarD 0)) 1 tYesD ce1_d_is_note [1] cFrz) tNilD)))))
theorem rd_d_is_note {ws : List W} {μ : M} {R : DQ} (h : sp_d_is_note ws μ R) : body_d_is_note { nx := fun _ μ' => R (.d .none) μ', rt := R } (startD N_d_is_note.length ws) μ := by
  unfold sp_d_is_note at h
  split at h
  · rename_i x
    obtain ⟨ft, q⟩ := h
    unfold body_d_is_note
    cases x with
    | tuple ds =>
      have hl := (oks_mem (okd_tup ft)).1
      walk_at "dlsym"
      by_cases e : ds.length = 2
      · match ds, e with
        | [a, b], _ =>
          rw [show PyData.eqv (.int (([a, b].length : Nat) : Int)) (.int 2) = true from int_eq 2, if_pos rfl]
          refine compL_map W.d [a, b] (fun _ => true) (fun x => .bool (intIn 0 9 x)) (fun x _ Z h => h) (fun x hx _ Z h => ?_) (by show 0 + 2 ≤ sizeLine; rw [sizeLit]; omega) ?_
          · unfold ce1_d_is_note
            walk_at "dlsym"
            exact h
          rw [filter_yes, List.nil_append, asD_map, q_bools]
          show R (.d (.bool (([a, b].map (intIn 0 9)).all id))) μ
          rw [all_bools]
          have e2 : [a, b].all (intIn 0 9) = noteB (.tuple [a, b]) := by
            show (intIn 0 9 a && (intIn 0 9 b && true)) = (intIn 0 9 a && intIn 0 9 b)
            rw [Bool.and_true]
          rw [e2]
          exact q
      · rw [int_ne (by omega), if_neg (by decide)]
        have : noteB (.tuple ds) = false := by
          match ds, e with
          | [], _ => rfl
          | [a], _ => rfl
          | a :: b :: c :: r, _ => rfl
          | [a, b], e => exact absurd rfl e
        rw [this] at q
        exact q
    | _ =>
      walk_at "dlsym"
      exact q
  · exact h.elim

theorem ok_d_is_note {P : Program} {w : World} {K : PySem.W.Frag} {mg : Str → Option Value} {base : Heap} (T : Tx w K mg) : FG P w K mg base CX0 3 T.f_d_is_note T.fd_d_is_note ["thing"] (lSp K sp_d_is_note) := by
  refine fg_data T.F_d_is_note sc_d_is_note (fun ws μ R h => ar_d_is_note h) body_d_is_note (fun cdv A outer s H E hr hgd => ?_) (fun ws μ R h => rd_d_is_note h)
  have nd := sc_d_is_note.nd
  exact (dss_one (ds_ret (de_and (de_callB call_isi l_isiV (by rfl) T.z_isinstance (by decide +kernel) (da_cons (de_var 0 (pv 0)) (da_cons (de_ty (T := "tuple") (by rfl) T.z_tuple (by decide +kernel) (by decide) (by decide)) da_nil (by rfl)) (by rfl)) (by decide) (by decide) (by rfl) (by rfl)) (de_and (de_cmp (op_eqP (u100 hr)) l_eqV (de_callB call_len l_len (by rfl) T.z_len (by decide +kernel) (da_cons (de_var 0 (pv 0)) da_nil (by rfl)) (by decide) (by decide) (by rfl) (by rfl)) de_int (nomark _)) (de_one (de_callB (cr_all rfl) l_all (by rfl) T.z_all (by decide +kernel) (da_cons (de_lc (pe_lc (own := [("number", 1)]) (g := gName 1) (by rfl) nd (di_tup (de_var 0 (pv 0))).pi (blkOk_by (own := [("number", 1)]) (N := N_d_is_note) (sc := defScope s_d_is_note) (by decide +kernel)) (fun _ _ _ _ _ => pg_name (i := 1) nd rfl (by first | exact Or.inl rfl | exact Or.inr rfl)) (fun _ _ _ _ _ => (dts_nil : DTs _ _ tYesD).pts) (fun _ _ _ _ _ => ((de_call (ok_d_is_whole_within T) (hr.mono (by first | decide | omega)) hgd (by rfl) T.m_d_is_whole_within T.F_d_is_whole_within.kp T.b_d_is_whole_within (da_cons (de_var 1 (pv 1)) (da_cons de_int (da_cons de_int da_nil (by rfl)) (by rfl)) (by rfl)) (by decide) (by rfl) (by rfl)) : DE _ _ ce1_d_is_note).pe)) cFrz_ok (by decide)) da_nil (by rfl)) (by decide) (by decide) (by rfl) (by rfl)))))))
def sp_d_is_row_of_notes : DSp := fun ws μ R => match ws with
  | [.d x] => Fit x ∧ R (.d (.bool (rowN x))) μ
  | _ => False
theorem ar_d_is_row_of_notes {ws : List W} {μ : M} {R : DQ} (h : sp_d_is_row_of_notes ws μ R) : ws.length = 1 := by
  unfold sp_d_is_row_of_notes at h; split at h
  · rfl
  · exact h.elim

def ce1_d_is_row_of_notes : DTE := (tCallD sp_d_is_note (tConsD (tVarD 1) tNilD))
def body_d_is_row_of_notes : DTS := (tRetD (tAndD (tCallB isiV (tConsD (tVarD 0) (tConsD (tK (.v (.ty "tuple"))) tNilD))) (tCallB allD (tConsD (tCompG (tItT (tVarD 0)) 1 tYesD ce1_d_is_row_of_notes [1] cFrz) tNilD))))
theorem rd_d_is_row_of_notes {ws : List W} {μ : M} {R : DQ} (h : sp_d_is_row_of_notes ws μ R) : body_d_is_row_of_notes { nx := fun _ μ' => R (.d .none) μ', rt := R } (startD N_d_is_row_of_notes.length ws) μ := by
  unfold sp_d_is_row_of_notes at h
  split at h
  · rename_i x
    obtain ⟨ft, q⟩ := h
    unfold body_d_is_row_of_notes
    cases x with
    | tuple ds =>
      obtain ⟨hl, hm⟩ := oks_mem (okd_tup ft)
      walk_at "dlsym"
      refine compL_map W.d ds (fun _ => true) (fun x => .bool (noteB x)) (fun x _ Z h => h) (fun x hx _ Z h => ?_) (by rw [List.length_nil, sizeLit]; omega) ?_
      · unfold ce1_d_is_row_of_notes
        walk_at "dlsym"
        exact ⟨hm x hx, h⟩
      rw [filter_yes, List.nil_append, asD_map, q_bools]
      show R (.d (.bool ((ds.map noteB).all id))) μ
      rw [all_bools]
      exact q
    | _ =>
      walk_at "dlsym"
      exact q
  · exact h.elim

theorem ok_d_is_row_of_notes {P : Program} {w : World} {K : PySem.W.Frag} {mg : Str → Option Value} {base : Heap} (T : Tx w K mg) : FG P w K mg base CX0 4 T.f_d_is_row_of_notes T.fd_d_is_row_of_notes ["thing"] (lSp K sp_d_is_row_of_notes) := by
  refine fg_data T.F_d_is_row_of_notes sc_d_is_row_of_notes (fun ws μ R h => ar_d_is_row_of_notes h) body_d_is_row_of_notes (fun cdv A outer s H E hr hgd => ?_) (fun ws μ R h => rd_d_is_row_of_notes h)
  have nd := sc_d_is_row_of_notes.nd
  exact (dss_one (ds_ret (de_and (de_callB call_isi l_isiV (by rfl) T.z_isinstance (by decide +kernel) (da_cons (de_var 0 (pv 0)) (da_cons (de_ty (T := "tuple") (by rfl) T.z_tuple (by decide +kernel) (by decide) (by decide)) da_nil (by rfl)) (by rfl)) (by decide) (by decide) (by rfl) (by rfl)) (de_one (de_callB (cr_all rfl) l_all (by rfl) T.z_all (by decide +kernel) (da_cons (de_lc (pe_lc (own := [("note", 1)]) (g := gName 1) (by rfl) nd (di_tup (de_var 0 (pv 0))).pi (blkOk_by (own := [("note", 1)]) (N := N_d_is_row_of_notes) (sc := defScope s_d_is_row_of_notes) (by decide +kernel)) (fun _ _ _ _ _ => pg_name (i := 1) nd rfl (by first | exact Or.inl rfl | exact Or.inr rfl)) (fun _ _ _ _ _ => (dts_nil : DTs _ _ tYesD).pts) (fun _ _ _ _ _ => ((de_call (ok_d_is_note T) (hr.mono (by first | decide | omega)) hgd (by rfl) T.m_d_is_note T.F_d_is_note.kp T.b_d_is_note (da_cons (de_var 1 (pv 1)) da_nil (by rfl)) (by decide) (by rfl) (by rfl)) : DE _ _ ce1_d_is_row_of_notes).pe)) cFrz_ok (by decide)) da_nil (by rfl)) (by decide) (by decide) (by rfl) (by rfl))))))
def sp_d_number_of : DSp := fun ws μ R => match ws with
  | [.d d] => ∃ g : Sgn, d = g.D ∧ Sgn.Ok g ∧ R (.d (.int g.num)) μ
  | _ => False
theorem ar_d_number_of {ws : List W} {μ : M} {R : DQ} (h : sp_d_number_of ws μ R) : ws.length = 1 := by
  unfold sp_d_number_of at h; split at h
  · rfl
  · exact h.elim

def lp1_d_number_of : DTS := (tSetD 1 (tOp2 modD (tOp2 addD (tOp2 mulZ (tK (.d (.int 131))) (tVarD 1)) (tCallB ordD (tConsD (tVarD 2) tNilD))) (tK (.d (.int 999983)))))
def body_d_number_of : DTS := (tSeqD (DL.tIfS (tTru (tCallB isiV (tConsD (tVarD 0) (tConsD (tK (.v (.ty "tuple"))) tNilD)))) (tRetD (tOp2 addD (tOp2 mulZ (tK (.d (.int 10))) (tOp2 ixD (tVarD 0) (tK (.d (.int 0))))) (tOp2 ixD (tVarD 0) (tK (.d (.int 1)))))) tNextD)
  (tSeqD (DL.tIfS (tTst (tOp2 eqV (tCallB lenD (tConsD (tVarD 0) tNilD)) (tK (.d (.int 1))))) (tRetD (tCallB ordD (tConsD (tVarD 0) tNilD))) tNextD)
  (tSeqD (tSetD 1 (tK (.d (.int 7))))
  (tSeqD (tForD (tItS (tVarD 0)) (gNameD 2) lp1_d_number_of)
  (tRetD (tVarD 1))))))
theorem rd_d_number_of {ws : List W} {μ : M} {R : DQ} (h : sp_d_number_of ws μ R) : body_d_number_of { nx := fun _ μ' => R (.d .none) μ', rt := R } (startD N_d_number_of.length ws) μ := by
  unfold sp_d_number_of at h
  split at h
  · obtain ⟨g, rfl, gok, q⟩ := h
    unfold body_d_number_of
    cases g with
    | nt i j =>
      obtain ⟨i0, i9, j0, j9⟩ := gok
      simp only [Sgn.D]
      walk_at "dlsym"
      exact ⟨cmulW (a := 8) (b := 8) (by decide) (natAbs_lt i0 (by omega)) (by decide), q⟩
    | tx s =>
      have hl : s.length ≤ 10000 := gok
      simp only [Sgn.D]
      walk_at "dlsym"
      rw [eqv_int]
      have qn : R (.d (.int (numS s))) μ := q
      unfold numS at qn
      by_cases e : s.length = 1
      · rw [if_pos e] at qn
        rw [if_pos (by rw [e]; rfl)]
        walk_at "dlsym"
        exact ⟨by omega, e, qn⟩
      · rw [if_neg e] at qn
        rw [if_neg (by rw [beq_iff_eq]; omega)]
        walk_at "dlsym"
        rw [signs_eq]
        refine ⟨by omega, ?_⟩
        refine loopD_inv (fun r ρ μ' => μ' = μ ∧ ∃ (cs : List Nat) (x : Int) (t : Option W), r = cs.map (fun c => W.d (.str ⟨#[c]⟩)) ∧ ρ = [some (.d (.str s)), some (.d (.int x)), t] ∧ 0 ≤ x ∧ x < 2 ^ 60 ∧ hashL cs x = hashL (cd s) 7) ?_ ?_ ?_
        · exact ⟨rfl, _, 7, none, rfl, rfl, by decide, by decide, rfl⟩
        · rintro w r ρ μ1 Z ⟨rfl, cs, x, t, e1, rfl, x0, x1, eq⟩ hZ
          cases cs with
          | nil => cases e1
          | cons c cs =>
            rw [List.map_cons] at e1
            injection e1 with e1 e2
            subst e1
            unfold lp1_d_number_of
            walk_at "dlsym"
            have f := fmod_bd (131 * x + (c : Int)) (j := 999983) (by decide)
            refine ⟨mul131 x0 x1, one_len c, by decide, ?_⟩
            exact hZ _ _ ⟨rfl, cs, _, _, e2, rfl, f.1, by have := f.2; show (131 * x + (c : Int)).fmod 999983 < _; omega, eq⟩
        · rintro ρ μ1 ⟨rfl, cs, x, t, e1, rfl, x0, x1, eq⟩
          cases cs with
          | cons c cs => cases e1
          | nil =>
            have : x = hashL (cd s) 7 := eq
            subst this
            walk_at "dlsym"
            exact qn
  · exact h.elim

theorem ok_d_number_of {P : Program} {w : World} {K : PySem.W.Frag} {mg : Str → Option Value} {base : Heap} (T : Tx w K mg) : FG P w K mg base CX0 1 T.f_d_number_of T.fd_d_number_of ["sign"] (lSp K sp_d_number_of) := by
  refine fg_data T.F_d_number_of sc_d_number_of (fun ws μ R h => ar_d_number_of h) body_d_number_of (fun cdv A outer s H E hr hgd => ?_) (fun ws μ R h => rd_d_number_of h)
  have nd := sc_d_number_of.nd
  exact (dss_cons (ds_if (dt_of (de_callB call_isi l_isiV (by rfl) T.z_isinstance (by decide +kernel) (da_cons (de_var 0 (pv 0)) (da_cons (de_ty (T := "tuple") (by rfl) T.z_tuple (by decide +kernel) (by decide) (by decide)) da_nil (by rfl)) (by rfl)) (by decide) (by decide) (by rfl) (by rfl)) (fun _ => rfl)) (dss_one (ds_ret (de_add (de_op op_mulZ l_mulZ de_int (de_ix (de_var 0 (pv 0)) de_int (fun _ _ => rfl))) (de_ix (de_var 0 (pv 0)) de_int (fun _ _ => rfl))))) dss_nil)
  (dss_cons (ds_if (dt_cmp (op_eqP (u100 hr)) l_eqV (de_callB call_len l_len (by rfl) T.z_len (by decide +kernel) (da_cons (de_var 0 (pv 0)) da_nil (by rfl)) (by decide) (by decide) (by rfl) (by rfl)) de_int (nomark _)) (dss_one (ds_ret (de_callB call_ord l_ord (by rfl) T.z_ord (by decide +kernel) (da_cons (de_var 0 (pv 0)) da_nil (by rfl)) (by decide) (by decide) (by rfl) (by rfl)))) dss_nil)
  (dss_cons (ds_set (ps_set (i := 1) nd rfl (by first | exact Or.inl rfl | exact Or.inr rfl) de_int.pe))
  (dss_cons (ds_for (ps_for PassesOwn.never rfl (di_str (de_var 0 (pv 0))).pi (dg_name (pg_name (i := 2) nd rfl (by first | exact Or.inl rfl | exact Or.inr rfl))).pg ((dss_one (ds_set (ps_set (i := 1) nd rfl (by first | exact Or.inl rfl | exact Or.inr rfl) (de_op op_modN l_num (de_add (de_op op_mulZ l_mulZ de_int (de_var 1 (pv 1))) (de_callB call_ord l_ord (by rfl) T.z_ord (by decide +kernel) (da_cons (de_var 2 (pv 2)) da_nil (by rfl)) (by decide) (by decide) (by rfl) (by rfl))) de_int).pe))) : DSs _ _ lp1_d_number_of).pss))
  (dss_one (ds_ret (de_var 1 (pv 1))))))))
abbrev sp_d_seal_of : DSp := spSeal
theorem ar_d_seal_of {ws : List W} {μ : M} {R : DQ} (h : sp_d_seal_of ws μ R) : ws.length = 4 := spSeal_len h

def ce1_d_seal_of : DTE := (tCallD sp_d_number_of (tConsD (tVarD 6) tNilD))
def lp1_d_seal_of : DTS := (tSetD 4 (tOp2 modD (tOp2 addD (tOp2 addD (tOp2 mulZ (tK (.d (.int 131))) (tVarD 4)) (tVarD 5)) (tK (.d (.int 7)))) (tK (.d (.int 999983)))))
def body_d_seal_of : DTS := (tSeqD (tSetD 4 (tVarD 0))
  (tSeqD (tForD (tItL (tLstD (tConsD (tVarD 1) (tConsD (tVarD 2) (tStarD (tCompG (tItV 3) 6 tYesD ce1_d_seal_of [6] cFrz) tNilD))))) (gNameD 5) lp1_d_seal_of)
  (tRetD (tVarD 4))))
theorem rd_d_seal_of {ws : List W} {μ : M} {R : DQ} (h : sp_d_seal_of ws μ R) : body_d_seal_of { nx := fun _ μ' => R (.d .none) μ', rt := R } (startD N_d_seal_of.length ws) μ := by
  change spSeal ws μ R at h
  unfold spSeal at h
  split at h
  · rename_i t n o sg
    obtain ⟨l, hs, gok, hl, t0, t1, q⟩ := h
    unfold body_d_seal_of
    have hs2 : ∃ ws : List W, ws = l.map (fun g => W.d g.D) ∧ ((∃ z : Str, sg = .str z ∧ ws = DL.signs z) ∨ ∃ ds, sg = .tuple ds ∧ ws = ds.map .d) := by
      refine ⟨_, rfl, ?_⟩
      rcases hs with ⟨z, rfl, rfl⟩ | rfl
      · exact .inl ⟨z, rfl, by rw [signs_eq, List.map_map]; rfl⟩
      · exact .inr ⟨_, rfl, by rw [List.map_map]; rfl⟩
    obtain ⟨ws, ew, hs2⟩ := hs2
    rcases hs2 with ⟨z, rfl, ez⟩ | ⟨ds, rfl, ez⟩
    all_goals
      walk_at "dlsym"
      rw [← ez, ew]
      refine compL_map (fun g : Sgn => W.d g.D) l (fun _ => true) (fun g => .int g.num) ?_ ?_ ?_ ?_
      · intro g _ Z h
        exact h
      · intro g hg _ Z h
        unfold ce1_d_seal_of
        walk_at "dlsym"
        exact ⟨g, rfl, gok g hg, h⟩
      · rw [List.length_nil, Nat.zero_add, sizeLit]; omega
      · rw [filter_yes]
        walk_at "dlsym"
        have e3 : l.map (fun g => PyData.int g.num) = (l.map Sgn.num).map .int := by rw [List.map_map]; rfl
        rw [e3]
        walk_at "dlsym"
        refine ⟨by simp only [List.length_map]; omega, ?_⟩
        have e4 : (W.d (PyData.int n) :: W.d (PyData.int o) :: List.map W.d (List.map PyData.int (List.map Sgn.num l))) = (n :: o :: l.map Sgn.num).map (fun k => W.d (.int k)) := by
          rw [List.map_cons, List.map_cons, List.map_map (g := W.d)]; rfl
        rw [e4]
        refine loopD_inv (fun r ρ μ' => μ' = μ ∧ ∃ (ks : List Int) (x : Int) (a b c d e f : Option W), r = ks.map (fun k => W.d (.int k)) ∧ ρ = [a, b, c, d, some (.d (.int x)), e, f] ∧ 0 ≤ x ∧ x < 2 ^ 60 ∧ sealZ x ks = sealZ t (n :: o :: l.map Sgn.num)) ?_ ?_ ?_
        · exact ⟨rfl, _, t, _, _, _, _, _, _, rfl, rfl, t0, t1, rfl⟩
        · rintro w r ρ μ1 Z ⟨rfl, ks, x, a, b, c, d, e, f, e1, rfl, x0, x1, eq⟩ hZ
          cases ks with
          | nil => cases e1
          | cons k ks =>
            rw [List.map_cons] at e1
            injection e1 with e1 e2
            subst e1
            unfold lp1_d_seal_of
            walk_at "dlsym"
            have fb := fmod_bd (131 * x + k + 7) (j := 999983) (by decide)
            refine ⟨mul131 x0 x1, by decide, ?_⟩
            exact hZ _ _ ⟨rfl, ks, _, _, _, _, _, _, _, e2, rfl, fb.1, by have := fb.2; show (131 * x + k + 7).fmod 999983 < _; omega, eq⟩
        · rintro ρ μ1 ⟨rfl, ks, x, a, b, c, d, e, f, e1, rfl, x0, x1, eq⟩
          cases ks with
          | cons k ks => cases e1
          | nil =>
            have : x = sealZ t (n :: o :: l.map Sgn.num) := eq
            rw [this]
            walk_at "dlsym"
            exact q
  · exact h.elim

theorem ok_d_seal_of {P : Program} {w : World} {K : PySem.W.Frag} {mg : Str → Option Value} {base : Heap} (T : Tx w K mg) : FG P w K mg base CX0 2 T.f_d_seal_of T.fd_d_seal_of ["ticket", "number", "of", "signs"] (lSp K sp_d_seal_of) := by
  refine fg_data T.F_d_seal_of sc_d_seal_of (fun ws μ R h => ar_d_seal_of h) body_d_seal_of (fun cdv A outer s H E hr hgd => ?_) (fun ws μ R h => rd_d_seal_of h)
  have nd := sc_d_seal_of.nd
  exact (dss_cons (ds_set (ps_set (i := 4) nd rfl (by first | exact Or.inl rfl | exact Or.inr rfl) (de_var 0 (pv 0)).pe))
  (dss_cons (ds_for (ps_for PassesOwn.never rfl (di_list (de_lst (da_cons (de_var 1 (pv 1)) (da_cons (de_var 2 (pv 2)) (da_star (de_lc (pe_lc (own := [("sign", 6)]) (g := gName 6) (by rfl) nd (di_any (de_var 3 (pv 3))).pi (blkOk_by (own := [("sign", 6)]) (N := N_d_seal_of) (sc := defScope s_d_seal_of) (by decide +kernel)) (fun _ _ _ _ _ => pg_name (i := 6) nd rfl (by first | exact Or.inl rfl | exact Or.inr rfl)) (fun _ _ _ _ _ => (dts_nil : DTs _ _ tYesD).pts) (fun _ _ _ _ _ => ((de_call (ok_d_number_of T) (hr.mono (by first | decide | omega)) hgd (by rfl) T.m_d_number_of T.F_d_number_of.kp T.b_d_number_of (da_cons (de_var 6 (pv 6)) da_nil (by rfl)) (by decide) (by rfl) (by rfl)) : DE _ _ ce1_d_seal_of).pe)) cFrz_ok (by decide)) da_nil (by rfl)) (by rfl)) (by rfl)))).pi (dg_name (pg_name (i := 5) nd rfl (by first | exact Or.inl rfl | exact Or.inr rfl))).pg ((dss_one (ds_set (ps_set (i := 4) nd rfl (by first | exact Or.inl rfl | exact Or.inr rfl) (de_op op_modN l_num (de_add (de_add (de_op op_mulZ l_mulZ de_int (de_var 4 (pv 4))) (de_var 5 (pv 5))) de_int) de_int).pe))) : DSs _ _ lp1_d_seal_of).pss))
  (dss_one (ds_ret (de_var 4 (pv 4))))))
def sp_d_are_signs : DSp := fun ws μ R => match ws with
  | [.d (.str kd), .d x] => Fit x ∧ R (.d (.bool (signsB kd x))) μ
  | _ => False
theorem ar_d_are_signs {ws : List W} {μ : M} {R : DQ} (h : sp_d_are_signs ws μ R) : ws.length = 2 := by
  unfold sp_d_are_signs at h; split at h
  · rfl
  · exact h.elim

def body_d_are_signs : DTS := (tSeqD (DL.tIfS (tTst (tOp2 eqV (tVarD 0) (tK (.d (.str "letters"))))) (tRetD (tCallB isiV (tConsD (tVarD 1) (tConsD (tK (.v (.ty "str"))) tNilD)))) tNextD)
  (tSeqD (DL.tIfS (tTst (tOp2 eqV (tVarD 0) (tK (.d (.str "sounds"))))) (tRetD (tCallD sp_d_is_row_of_notes (tConsD (tVarD 1) tNilD))) tNextD)
  (tRetD (tCallD sp_d_is_row_of_texts (tConsD (tVarD 1) tNilD)))))
theorem rd_d_are_signs {ws : List W} {μ : M} {R : DQ} (h : sp_d_are_signs ws μ R) : body_d_are_signs { nx := fun _ μ' => R (.d .none) μ', rt := R } (startD N_d_are_signs.length ws) μ := by
  unfold sp_d_are_signs at h
  split at h
  · rename_i kd x
    obtain ⟨ft, q⟩ := h
    unfold body_d_are_signs
    unfold signsB at q
    walk_at "dlsym"
    rw [eqv_dec]
    by_cases e1 : kd = Str.ofString "letters"
    · rw [if_pos e1] at q
      rw [decide_eq_true e1, if_pos rfl]
      cases x <;> (walk_at "dlsym"; exact q)
    · rw [if_neg e1] at q
      rw [decide_eq_false e1, if_neg (by decide)]
      walk_at "dlsym"
      rw [eqv_dec]
      by_cases e2 : kd = Str.ofString "sounds"
      · rw [if_pos e2] at q
        rw [decide_eq_true e2, if_pos rfl]
        exact ⟨ft, q⟩
      · rw [if_neg e2] at q
        rw [decide_eq_false e2, if_neg (by decide)]
        exact ⟨ft, q⟩
  · exact h.elim

theorem ok_d_are_signs {P : Program} {w : World} {K : PySem.W.Frag} {mg : Str → Option Value} {base : Heap} (T : Tx w K mg) : FG P w K mg base CX0 5 T.f_d_are_signs T.fd_d_are_signs ["kind", "thing"] (lSp K sp_d_are_signs) := by
  refine fg_data T.F_d_are_signs sc_d_are_signs (fun ws μ R h => ar_d_are_signs h) body_d_are_signs (fun cdv A outer s H E hr hgd => ?_) (fun ws μ R h => rd_d_are_signs h)
  have nd := sc_d_are_signs.nd
  exact (dss_cons (ds_if (dt_cmp (op_eqP (u100 hr)) l_eqV (de_var 0 (pv 0)) de_str (nomark _)) (dss_one (ds_ret (de_callB call_isi l_isiV (by rfl) T.z_isinstance (by decide +kernel) (da_cons (de_var 1 (pv 1)) (da_cons (de_ty (T := "str") (by rfl) T.z_str (by decide +kernel) (by decide) (by decide)) da_nil (by rfl)) (by rfl)) (by decide) (by decide) (by rfl) (by rfl)))) dss_nil)
  (dss_cons (ds_if (dt_cmp (op_eqP (u100 hr)) l_eqV (de_var 0 (pv 0)) de_str (nomark _)) (dss_one (ds_ret (de_call (ok_d_is_row_of_notes T) (hr.mono (by first | decide | omega)) hgd (by rfl) T.m_d_is_row_of_notes T.F_d_is_row_of_notes.kp T.b_d_is_row_of_notes (da_cons (de_var 1 (pv 1)) da_nil (by rfl)) (by decide) (by rfl) (by rfl)))) dss_nil)
  (dss_one (ds_ret (de_call (ok_d_is_row_of_texts T) (hr.mono (by first | decide | omega)) hgd (by rfl) T.m_d_is_row_of_texts T.F_d_is_row_of_texts.kp T.b_d_is_row_of_texts (da_cons (de_var 1 (pv 1)) da_nil (by rfl)) (by decide) (by rfl) (by rfl))))))
def sp_d_is_piece : DSp := fun ws μ R => match ws with
  | [.d (.str kd), .d x] => Fit2 x ∧ R (.d (.bool (pieceB kd x))) μ
  | _ => False
theorem ar_d_is_piece {ws : List W} {μ : M} {R : DQ} (h : sp_d_is_piece ws μ R) : ws.length = 2 := by
  unfold sp_d_is_piece at h; split at h
  · rfl
  · exact h.elim

def ce1_d_is_piece : DTE := (tCallD sp_d_is_whole_from (tConsD (tVarD 7) (tConsD (tK (.d (.int 0))) tNilD)))
def body_d_is_piece : DTS := (tSeqD (DL.tIfS (tOrB (tNotB (tTru (tCallB isiV (tConsD (tVarD 1) (tConsD (tK (.v (.ty "tuple"))) tNilD))))) (tTst (tOp2 neV (tCallB lenD (tConsD (tVarD 1) tNilD)) (tK (.d (.int 5)))))) (tRetD (tK (.d (.bool false)))) tNextD)
  (tSeqD (tAsgD (tVarD 1) (gTupD 5 (gConsD (gNameD 2) (gConsD (gNameD 3) (gConsD (gNameD 4) (gConsD (gNameD 5) (gConsD (gNameD 6) gNilD)))))))
  (tSeqD (DL.tIfS (tNotB (tTru (tCallB allD (tConsD (tCompG (tItT (tTupD (tConsD (tVarD 2) (tConsD (tVarD 3) (tConsD (tVarD 4) (tConsD (tVarD 5) tNilD)))))) 7 tYesD ce1_d_is_piece [7] cFrz) tNilD)))) (tRetD (tK (.d (.bool false)))) tNextD)
  (tRetD (tAndD (tCallD sp_d_is_whole_within (tConsD (tVarD 4) (tConsD (tOp2 addD (tVarD 3) (tK (.d (.int 1)))) (tConsD (tK w_MOST_PIECES) tNilD)))) (tCallD sp_d_are_signs (tConsD (tVarD 0) (tConsD (tVarD 6) tNilD))))))))
theorem rd_d_is_piece {ws : List W} {μ : M} {R : DQ} (h : sp_d_is_piece ws μ R) : body_d_is_piece { nx := fun _ μ' => R (.d .none) μ', rt := R } (startD N_d_is_piece.length ws) μ := by
  unfold sp_d_is_piece at h
  split at h
  · rename_i kd x
    obtain ⟨ft, q⟩ := h
    unfold body_d_is_piece
    cases x with
    | tuple ds =>
      obtain ⟨hl, hm⟩ := oks_mem (okd_tup (ft ds rfl))
      walk_at "dlsym"
      by_cases e5 : ds.length = 5
      · obtain ⟨a, b, c, d, e, rfl⟩ := five e5
        rw [show PyData.eqv (.int (([a, b, c, d, e].length : Nat) : Int)) (.int 5) = true from int_eq 5, if_neg (by decide)]
        rw [q_gTup5]
        walk_at "dlsym"
        refine compL_map W.d [a, b, c, d] (fun _ => true) (fun x => .bool (fromB x)) (fun x _ Z h => h) (fun x hx _ Z h => ?_) (by show 0 + 4 ≤ sizeLine; rw [sizeLit]; omega) ?_
        · unfold ce1_d_is_piece
          cases x <;> (walk_at "dlsym"; exact h)
        rw [filter_yes, List.nil_append, asD_map, q_bools]
        show (if (!([a, b, c, d].map fromB).all id) = true then _ else _)
        rw [all_bools]
        rw [pieceB_5] at q
        have hw : w_MOST_PIECES = W.d (.int 20000) := rfl
        cases ef : [a, b, c, d].all fromB with
        | false =>
          rw [ef, Bool.false_and, Bool.false_and] at q
          exact q
        | true =>
          rw [ef, Bool.true_and] at q
          simp only [List.all_cons, List.all_nil, Bool.and_true, Bool.and_eq_true] at ef
          obtain ⟨f1, f2, f3, f4⟩ := ef
          rw [if_neg (by decide)]
          cases b with
          | int n =>
            cases c with
            | int o =>
              (try simp only [startD_eq, tSeqD, tSetD, tRetD, tRetND, DL.tIfS, tDropD, tAsgD, gSetD, gNameD, tTru, tTst, tNotB, tAndB, tOrB, tVarD, tK, tOp2, tUn1, tAndD, tOrD, tNotD, tIfD, tChainD, tConsD, tNilD, tTupD, tLstD, tLstM, tCallB, tCallD, tMetD, tSlD, tNoD, tPartD, tYesD, tNextD, tFrz, tForD, tItL, tItT, tItS, tItR, tItR2, tCompG, cFrz, cMut, tDict0, tDict1, tAugD, wipeD, mset_same, mset_mset, List.getElem?_cons_zero, List.getElem?_cons_succ, List.set_cons_zero, List.set_cons_succ, List.map_cons, List.map_nil, List.length_cons, List.length_nil, List.append_nil, List.nil_append, List.cons_append, List.replicate_succ, List.replicate_zero, Nat.sub_self, Nat.reduceSub, Nat.reduceAdd, if_true, if_false, reduceCtorEq, Bool.false_eq_true, Nat.zero_add, true_and, Bool.not_true, Bool.not_false, Bool.false_xor, ↓reduceIte, q_addI, q_addS, q_addL, q_addT, q_sub, q_mulI, q_mulL, q_mulT, q_num, q_neg, q_cmpI, q_cmpS, q_eq, q_ne, q_isN, q_isB, q_inSc, q_inT, q_inL, q_inAS, q_inAN, q_inAB, q_inAI, q_inAL, q_inAT, q_inAD, q_ixL, q_ixT, q_ixS, q_ixM, q_onS, q_slL, q_slT, q_slS, q_slX, q_truN, q_truB, q_truI, q_truS, q_truL, q_truT, q_lenS, q_lenL, q_lenT, q_lenX, q_int2, q_abs, q_all, q_any, q_sum, q_isi, q_reprL, q_reprT, q_apd, q_ext, q_joinL, q_split, q_str1, q_tyS, q_tyL, q_tyM, q_asD, q_asD0, q_asDc, q_at0, q_at1, q_at2, q_n0, q_n1, q_n2, q_tyN, q_tyB, q_tyI, q_tyS2, q_tyL2, q_tyT2, q_tyD2, k_ss, k_ns, k_bs, k_is_, k_ls, k_ts, k_ds, k_nt, k_bt, k_it, k_st, k_lt, k_tt, k_dt, k_ni, k_bi, k_ii, k_si, k_li, k_ti, k_di, k_nb, k_bb, k_ib, k_sb, k_lb, k_tb, k_db, q_bools, q_strs, q_ints, q_bools0, q_strs0, q_ints0, q_asDd, sizeLit, Nat.reduceLeDiff, Nat.reduceLT, Int.reduceLE, Int.reduceLT, Int.reducePow, Int.reduceNeg, Nat.reducePow, Int.reduceToNat, Int.reduceSub, Int.reduceAdd, and_true, implies_true, PyData.plain, PyData.plainAll, PyData.showable, PyData.showableAll, PyData.depth, PyData.depthAll, Bool.and_self, Bool.and_true, Bool.true_and, Nat.max_self, Nat.min_self, Nat.reduceLeDiff, Nat.zero_le, q_mulXI, q_mulXS, q_mulXL, q_mulXT, q_str, q_int, q_step, tTab, tJsD, tFmtD, tRevD, q_revL, q_revM, tParD, q_joinS, q_reprGN, q_reprGT, q_reprGL, q_eqVv, q_neVv, q_vwd, q_vws, q_vws0, q_isiV, q_tyNd, q_tyNs, q_reprVN, q_reprVT, q_reprVL, tStarD, q_seqT, q_seqL, tCompP, tItET, tItEL, tTabD, q_pop0, q_pop, q_revMD, q_tupofL, q_tupofT, q_atc0, q_atc1, q_atc2, q_atc3, q_atc4, or_self, or_true, true_or, false_or, or_false, q_lenM, q_asDapp, q_gTup2, q_gTup3, kk_NoneType_list, kk_NoneType_dict, kk_bool_list, kk_bool_dict, kk_int_list, kk_int_dict, kk_str_list, kk_str_dict, kk_list_list, kk_list_dict, kk_tuple_list, kk_tuple_dict, kk_dict_list, kk_dict_dict, q_eqSS, q_eqII, q_mulYI, q_mulYS, q_mulYL, q_mulYT, q_tyNu, tTupM, tFrzE, q_frzd, q_extT, q_clr, q_intGb, q_intGi, q_intGs, tDGetD, tDictD, dvals, dzip, tRevT, q_eqDE, q_reprXN, tDGet0, q_addNI, q_addNB, q_mulNI, q_mulNB, q_reprZN, q_reprZS, q_reprZL, q_reprZI, q_reprZB, q_eqL0, tFldD, sFldD, tMethC, tMakeC, tDictM, tDGetM, tDInM, sDPutM, q_insAt, q_dctAt, q_keyI, q_keyS, q_lenMd, q_lenMs, q_lenMv, q_lenI, tRevA, q_mulGI, q_mulGS, q_mulGL, q_mulGT, q_eqXd, q_eqXi, q_eqXs, q_eqXb, q_eqXn, q_eqXl, q_eqXt, q_inXi, q_inXs, q_inXb, q_inXn, q_inXd, q_inXl, q_inXt, tNeverD, tItV, q_listML, q_listMT, q_listDL, q_listDT, q_ord, q_popAt, q_tupSL, q_tupST, q_tupSS, q_listSS, q_listSL, q_listST, q_reprXS, q_reprXT, q_reprXL, q_reprXs, q_joinAS, q_joinAL, q_joinAT, q_mulZI, q_mulZL, q_sindex, q_rmpre, tCallKD, tCallDf, tIsiT, q_strZS, q_strZI, kitBs, hw])
              unfold sp_d_is_whole_within
              dsimp only
              have q : R (.d (.bool (inR n o && signsB kd e))) μ := q
              have e0 : intIn (n + 1) 20000 (.int o) = inR n o := rfl
              rw [e0]
              cases er : inR n o with
              | false =>
                rw [er] at q
                walk_at "dlsym"
                exact q
              | true =>
                rw [er, Bool.true_and] at q
                walk_at "dlsym"
                exact ⟨hm e (by simp), q⟩
            | _ => cases f3
          | _ => cases f2
      · rw [int_ne (by omega), if_pos (by decide)]
        rw [pieceB_n e5] at q
        exact q
    | _ =>
      walk_at "dlsym"
      exact q
  · exact h.elim

theorem ok_d_is_piece {P : Program} {w : World} {K : PySem.W.Frag} {mg : Str → Option Value} {base : Heap} (T : Tx w K mg) : FG P w K mg base CX0 6 T.f_d_is_piece T.fd_d_is_piece ["kind", "thing"] (lSp K sp_d_is_piece) := by
  refine fg_data T.F_d_is_piece sc_d_is_piece (fun ws μ R h => ar_d_is_piece h) body_d_is_piece (fun cdv A outer s H E hr hgd => ?_) (fun ws μ R h => rd_d_is_piece h)
  have nd := sc_d_is_piece.nd
  exact (dss_cons (ds_if (dt_w (dw_or (dt_not (dt_of (de_callB call_isi l_isiV (by rfl) T.z_isinstance (by decide +kernel) (da_cons (de_var 1 (pv 1)) (da_cons (de_ty (T := "tuple") (by rfl) T.z_tuple (by decide +kernel) (by decide) (by decide)) da_nil (by rfl)) (by rfl)) (by decide) (by decide) (by rfl) (by rfl)) (fun _ => rfl))) (dw_or1 (dt_cmp (op_neP (u100 hr)) l_neV (de_callB call_len l_len (by rfl) T.z_len (by decide +kernel) (da_cons (de_var 1 (pv 1)) da_nil (by rfl)) (by decide) (by decide) (by rfl) (by rfl)) de_int (nomark _))))) (dss_one (ds_ret de_bl)) dss_nil)
  (dss_cons (ds_asg (ps_asg (de_var 1 (pv 1)).pe (dg_tup rfl (dgs_cons (dg_name (pg_name (i := 2) nd rfl (by first | exact Or.inl rfl | exact Or.inr rfl))) (dgs_cons (dg_name (pg_name (i := 3) nd rfl (by first | exact Or.inl rfl | exact Or.inr rfl))) (dgs_cons (dg_name (pg_name (i := 4) nd rfl (by first | exact Or.inl rfl | exact Or.inr rfl))) (dgs_cons (dg_name (pg_name (i := 5) nd rfl (by first | exact Or.inl rfl | exact Or.inr rfl))) (dgs_cons (dg_name (pg_name (i := 6) nd rfl (by first | exact Or.inl rfl | exact Or.inr rfl))) dgs_nil (by rfl)) (by rfl)) (by rfl)) (by rfl)) (by rfl)) (by rfl) (by rfl)).pg))
  (dss_cons (ds_if (dt_not (dt_of (de_callB (cr_all rfl) l_all (by rfl) T.z_all (by decide +kernel) (da_cons (de_lc (pe_lc (own := [("told", 7)]) (g := gName 7) (by rfl) nd (di_tup (de_tup (da_cons (de_var 2 (pv 2)) (da_cons (de_var 3 (pv 3)) (da_cons (de_var 4 (pv 4)) (da_cons (de_var 5 (pv 5)) da_nil (by rfl)) (by rfl)) (by rfl)) (by rfl)))).pi (blkOk_by (own := [("told", 7)]) (N := N_d_is_piece) (sc := defScope s_d_is_piece) (by decide +kernel)) (fun _ _ _ _ _ => pg_name (i := 7) nd rfl (by first | exact Or.inl rfl | exact Or.inr rfl)) (fun _ _ _ _ _ => (dts_nil : DTs _ _ tYesD).pts) (fun _ _ _ _ _ => ((de_call (ok_d_is_whole_from T) (hr.mono (by first | decide | omega)) hgd (by rfl) T.m_d_is_whole_from T.F_d_is_whole_from.kp T.b_d_is_whole_from (da_cons (de_var 7 (pv 7)) (da_cons de_int da_nil (by rfl)) (by rfl)) (by decide) (by rfl) (by rfl)) : DE _ _ ce1_d_is_piece).pe)) cFrz_ok (by decide)) da_nil (by rfl)) (by decide) (by decide) (by rfl) (by rfl)) (fun _ => rfl))) (dss_one (ds_ret de_bl)) dss_nil)
  (dss_one (ds_ret (de_and (de_call (ok_d_is_whole_within T) (hr.mono (by first | decide | omega)) hgd (by rfl) T.m_d_is_whole_within T.F_d_is_whole_within.kp T.b_d_is_whole_within (da_cons (de_var 4 (pv 4)) (da_cons (de_add (de_var 3 (pv 3)) de_int) (da_cons (T.c_MOST_PIECES.de (by rfl)) da_nil (by rfl)) (by rfl)) (by rfl)) (by decide) (by rfl) (by rfl)) (de_one (de_call (ok_d_are_signs T) (hr.mono (by first | decide | omega)) hgd (by rfl) T.m_d_are_signs T.F_d_are_signs.kp T.b_d_are_signs (da_cons (de_var 0 (pv 0)) (da_cons (de_var 6 (pv 6)) da_nil (by rfl)) (by rfl)) (by decide) (by rfl) (by rfl)))))))))
def sp_d_law_urn : DSp := fun ws μ R => match ws with
  | [.s ns, .d (.int k)] => 0 ≤ k ∧ k ≤ 300 ∧ ns.length ≤ 1000 ∧ ∀ p m, μ p = none → IsUrn 0 m → R (.v (.ref p)) (mset μ p m)
  | _ => False
theorem ar_d_law_urn {ws : List W} {μ : M} {R : DQ} (h : sp_d_law_urn ws μ R) : ws.length = 2 := by
  unfold sp_d_law_urn at h; split at h
  · rfl
  · exact h.elim

def body_d_law_urn : DTS := (tSeqD (tSetD 2 (tK (.d (.int 0))))
  (tSeqD (DL.tIfS (tTst (tOp2 ltD (tVarD 1) (tCallB lenD (tConsD (tVarD 0) tNilD)))) (tSetD 2 (tOp2 ixD (tVarD 0) (tVarD 1))) tNextD)
  (tRetD (tLstM (tConsD (tCallB max2D (tConsD (tK (.d (.int 0))) (tConsD (tOp2 subD (tVarD 2) (tOp2 powD (tK (.d (.int 10))) (tK (.d (.int 18))))) tNilD))) (tConsD (tK (.d (.int 0))) (tConsD (tOp2 addD (tOp2 modD (tVarD 2) (tOp2 powD (tK (.d (.int 10))) (tK (.d (.int 50))))) (tOp2 mulZ (tK (.d (.int 29))) (tVarD 1))) tNilD)))))))
theorem rd_d_law_urn {ws : List W} {μ : M} {R : DQ} (h : sp_d_law_urn ws μ R) : body_d_law_urn { nx := fun _ μ' => R (.d .none) μ', rt := R } (startD N_d_law_urn.length ws) μ := by
  unfold sp_d_law_urn at h
  split at h
  · rename_i ns k
    obtain ⟨k0, k1, hl, q⟩ := h
    unfold body_d_law_urn
    walk_at "dlsym"
    have fin : ∀ (c x : Int) (p : Addr), 0 ≤ x → μ p = none → R (.v (.ref p)) (mset μ p (.lst [.d (.int x), .d (.int 0), .d (.int (c.fmod 100000000000000000000000000000000000000000000000000 + 29 * k))])) := fun c x p hx hp => by
      have hm := fmod_bd c (j := 100000000000000000000000000000000000000000000000000) (by decide)
      exact q p _ hp ⟨_, _, _, rfl, hx, by omega, by omega, by omega, by omega⟩
    have hm : CMulW 29 k := cmulW (a := 5) (b := 10) (by decide) (natAbs_lt k0 (by omega)) (by decide)
    split
    · rename_i hk
      refine onS_at k0 (by simpa using hk) fun c _ => ?_
      walk_at "dlsym"
      exact ⟨⟨by decide, by decide, by decide⟩, ⟨by decide, by decide, by decide⟩, by decide, hm, fun p hp => fin _ _ p (by split <;> omega) hp⟩
    · exact ⟨⟨by decide, by decide, by decide⟩, ⟨by decide, by decide, by decide⟩, by decide, hm, fun p hp => fin _ _ p (by split <;> omega) hp⟩
  · exact h.elim

theorem ok_d_law_urn {P : Program} {w : World} {K : PySem.W.Frag} {mg : Str → Option Value} {base : Heap} (T : Tx w K mg) : FG P w K mg base CX0 1 T.f_d_law_urn T.fd_d_law_urn ["script", "k"] (lSp K sp_d_law_urn) := by
  refine fg_data T.F_d_law_urn sc_d_law_urn (fun ws μ R h => ar_d_law_urn h) body_d_law_urn (fun cdv A outer s H E hr hgd => ?_) (fun ws μ R h => rd_d_law_urn h)
  have nd := sc_d_law_urn.nd
  exact (dss_cons (ds_set (ps_set (i := 2) nd rfl (by first | exact Or.inl rfl | exact Or.inr rfl) de_int.pe))
  (dss_cons (ds_if (dt_cmp op_ltA l_cmp (de_var 1 (pv 1)) (de_callB call_len l_len (by rfl) T.z_len (by decide +kernel) (da_cons (de_var 0 (pv 0)) da_nil (by rfl)) (by decide) (by decide) (by rfl) (by rfl)) (nomark _)) (dss_one (ds_set (ps_set (i := 2) nd rfl (by first | exact Or.inl rfl | exact Or.inr rfl) (de_ix (de_var 0 (pv 0)) (de_var 1 (pv 1)) (fun _ _ => rfl)).pe))) dss_nil)
  (dss_one (ds_ret (de_lstM (da_cons (de_callB (call_max2 rfl) l_int2 (by rfl) T.z_max (by decide +kernel) (da_cons de_int (da_cons (de_op op_sub l_sub (de_var 2 (pv 2)) (de_op op_pow l_num de_int de_int)) da_nil (by rfl)) (by rfl)) (by decide) (by decide) (by rfl) (by rfl)) (da_cons de_int (da_cons (de_add (de_op op_modN l_num (de_var 2 (pv 2)) (de_op op_pow l_num de_int de_int)) (de_op op_mulZ l_mulZ de_int (de_var 1 (pv 1)))) da_nil (by rfl)) (by rfl)) (by rfl)))))))
def sp_d_law_take : DSp := fun ws μ R => match ws with
  | [.v (.ref a), .d (.int k)] => ∃ n m, μ a = some m ∧ IsUrn n m ∧ n ≤ 2 ^ 60 ∧ 0 < k ∧ k < 2 ^ 60 ∧ ∀ j m', 0 ≤ j → j < k → IsUrn (n + 1) m' → R (.d (.int j)) (mset μ a m')
  | _ => False
theorem ar_d_law_take {ws : List W} {μ : M} {R : DQ} (h : sp_d_law_take ws μ R) : ws.length = 2 := by
  unfold sp_d_law_take at h; split at h
  · rfl
  · exact h.elim

def body_d_law_take : DTS := (tSeqD (tAsgD (tOp2 addD (tOp2 ixD (tVarD 0) (tK (.d (.int 1)))) (tK (.d (.int 1)))) (gSetD (tVarD 0) (tK (.d (.int 1)))))
  (tSeqD (DL.tIfS (tTst (tOp2 gtD (tOp2 ixD (tVarD 0) (tK (.d (.int 0)))) (tK (.d (.int 1))))) (tSeqD (tSetD 2 (tOp2 modD (tOp2 ixD (tVarD 0) (tK (.d (.int 0)))) (tVarD 1)))
  (tSeqD (tAsgD (tOp2 divD (tOp2 ixD (tVarD 0) (tK (.d (.int 0)))) (tVarD 1)) (gSetD (tVarD 0) (tK (.d (.int 0)))))
  (tRetD (tVarD 2)))) tNextD)
  (tSeqD (tSetD 3 (tOp2 addD (tOp2 ixD (tVarD 0) (tK (.d (.int 2)))) (tK (.d (.int 314159265358979323846)))))
  (tSeqD (tSetD 3 (tOp2 mulZ (tVarD 3) (tOp2 addD (tOp2 addD (tOp2 mulZ (tOp2 ixD (tVarD 0) (tK (.d (.int 1)))) (tOp2 ixD (tVarD 0) (tK (.d (.int 1))))) (tOp2 mulZ (tK (.d (.int 57))) (tOp2 ixD (tVarD 0) (tK (.d (.int 1)))))) (tK (.d (.int 3))))))
  (tSeqD (tSetD 3 (tOp2 modD (tVarD 3) (tK (.d (.int 618970019642690137449562111)))))
  (tSeqD (tSetD 4 (tOp2 modD (tOp2 addD (tOp2 addD (tOp2 mulZ (tVarD 3) (tVarD 3)) (tOp2 ixD (tVarD 0) (tK (.d (.int 2))))) (tOp2 ixD (tVarD 0) (tK (.d (.int 1))))) (tK (.d (.int 162259276829213363391578010288127)))))
  (tRetD (tOp2 modD (tOp2 divD (tVarD 4) (tK (.d (.int 1009)))) (tVarD 1)))))))))
theorem rd_d_law_take {ws : List W} {μ : M} {R : DQ} (h : sp_d_law_take ws μ R) : body_d_law_take { nx := fun _ μ' => R (.d .none) μ', rt := R } (startD N_d_law_take.length ws) μ := by
  unfold sp_d_law_take at h
  split at h
  · rename_i p k
    obtain ⟨n, m, em, ⟨a, b, c, rfl, ha, hb, hbn, hc, hc2⟩, hn, hk, hk2, q⟩ := h
    unfold body_d_law_take
    (try simp only [startD_eq, tSeqD, tSetD, tRetD, tRetND, DL.tIfS, tDropD, tAsgD, gSetD, gNameD, tTru, tTst, tNotB, tAndB, tOrB, tVarD, tK, tOp2, tUn1, tAndD, tOrD, tNotD, tIfD, tChainD, tConsD, tNilD, tTupD, tLstD, tLstM, tCallB, tCallD, tMetD, tSlD, tNoD, tPartD, tYesD, tNextD, tFrz, tForD, tItL, tItT, tItS, tItR, tItR2, tCompG, cFrz, cMut, tDict0, tDict1, tAugD, wipeD, mset_same, mset_mset, List.getElem?_cons_zero, List.getElem?_cons_succ, List.set_cons_zero, List.set_cons_succ, List.map_cons, List.map_nil, List.length_cons, List.length_nil, List.append_nil, List.nil_append, List.cons_append, List.replicate_succ, List.replicate_zero, Nat.sub_self, Nat.reduceSub, Nat.reduceAdd, if_true, if_false, reduceCtorEq, Bool.false_eq_true, Nat.zero_add, true_and, Bool.not_true, Bool.not_false, Bool.false_xor, ↓reduceIte, q_addI, q_addS, q_addL, q_addT, q_sub, q_mulI, q_mulL, q_mulT, q_num, q_neg, q_cmpI, q_cmpS, q_eq, q_ne, q_isN, q_isB, q_inSc, q_inT, q_inL, q_inAS, q_inAN, q_inAB, q_inAI, q_inAL, q_inAT, q_inAD, q_ixL, q_ixT, q_ixS, q_ixM, q_onS, q_slL, q_slT, q_slS, q_slX, q_truN, q_truB, q_truI, q_truS, q_truL, q_truT, q_lenS, q_lenL, q_lenT, q_lenX, q_int2, q_abs, q_all, q_any, q_sum, q_isi, q_reprL, q_reprT, q_apd, q_ext, q_joinL, q_split, q_str1, q_tyS, q_tyL, q_tyM, q_asD, q_asD0, q_asDc, q_at0, q_at1, q_at2, q_n0, q_n1, q_n2, q_tyN, q_tyB, q_tyI, q_tyS2, q_tyL2, q_tyT2, q_tyD2, k_ss, k_ns, k_bs, k_is_, k_ls, k_ts, k_ds, k_nt, k_bt, k_it, k_st, k_lt, k_tt, k_dt, k_ni, k_bi, k_ii, k_si, k_li, k_ti, k_di, k_nb, k_bb, k_ib, k_sb, k_lb, k_tb, k_db, q_bools, q_strs, q_ints, q_bools0, q_strs0, q_ints0, q_asDd, sizeLit, Nat.reduceLeDiff, Nat.reduceLT, Int.reduceLE, Int.reduceLT, Int.reducePow, Int.reduceNeg, Nat.reducePow, Int.reduceToNat, Int.reduceSub, Int.reduceAdd, and_true, implies_true, PyData.plain, PyData.plainAll, PyData.showable, PyData.showableAll, PyData.depth, PyData.depthAll, Bool.and_self, Bool.and_true, Bool.true_and, Nat.max_self, Nat.min_self, Nat.reduceLeDiff, Nat.zero_le, q_mulXI, q_mulXS, q_mulXL, q_mulXT, q_str, q_int, q_step, tTab, tJsD, tFmtD, tRevD, q_revL, q_revM, tParD, q_joinS, q_reprGN, q_reprGT, q_reprGL, q_eqVv, q_neVv, q_vwd, q_vws, q_vws0, q_isiV, q_tyNd, q_tyNs, q_reprVN, q_reprVT, q_reprVL, tStarD, q_seqT, q_seqL, tCompP, tItET, tItEL, tTabD, q_pop0, q_pop, q_revMD, q_tupofL, q_tupofT, q_atc0, q_atc1, q_atc2, q_atc3, q_atc4, or_self, or_true, true_or, false_or, or_false, q_lenM, q_asDapp, q_gTup2, q_gTup3, kk_NoneType_list, kk_NoneType_dict, kk_bool_list, kk_bool_dict, kk_int_list, kk_int_dict, kk_str_list, kk_str_dict, kk_list_list, kk_list_dict, kk_tuple_list, kk_tuple_dict, kk_dict_list, kk_dict_dict, q_eqSS, q_eqII, q_mulYI, q_mulYS, q_mulYL, q_mulYT, q_tyNu, tTupM, tFrzE, q_frzd, q_extT, q_clr, q_intGb, q_intGi, q_intGs, tDGetD, tDictD, dvals, dzip, tRevT, q_eqDE, q_reprXN, tDGet0, q_addNI, q_addNB, q_mulNI, q_mulNB, q_reprZN, q_reprZS, q_reprZL, q_reprZI, q_reprZB, q_eqL0, tFldD, sFldD, tMethC, tMakeC, tDictM, tDGetM, tDInM, sDPutM, q_insAt, q_dctAt, q_keyI, q_keyS, q_lenMd, q_lenMs, q_lenMv, q_lenI, tRevA, q_mulGI, q_mulGS, q_mulGL, q_mulGT, q_eqXd, q_eqXi, q_eqXs, q_eqXb, q_eqXn, q_eqXl, q_eqXt, q_inXi, q_inXs, q_inXb, q_inXn, q_inXd, q_inXl, q_inXt, tNeverD, tItV, q_listML, q_listMT, q_listDL, q_listDT, q_ord, q_popAt, q_tupSL, q_tupST, q_tupSS, q_listSS, q_listSL, q_listST, q_reprXS, q_reprXT, q_reprXL, q_reprXs, q_joinAS, q_joinAL, q_joinAT, q_mulZI, q_mulZL, q_sindex, q_rmpre, tCallKD, tCallDf, tIsiT, q_strZS, q_strZI, kitBs, em])
    have hd : ∀ x, CDivW x k := fun x => cdivW hk hk2
    split
    · exact ⟨by omega, hd _, q _ _ (fmod_bd a hk).1 (fmod_bd a hk).2 ⟨_, _, _, rfl, Int.ediv_nonneg ha (by omega), by omega, by omega, hc, hc2⟩⟩
    · have b1 : b + 1 ≤ 2 ^ 61 := by omega
      have bb : (b + 1) * (b + 1) ≤ 2 ^ 61 * 2 ^ 61 := Int.mul_le_mul b1 b1 (by omega) (by decide)
      have bb0 : 0 ≤ (b + 1) * (b + 1) := Int.mul_nonneg (by omega) (by omega)
      generalize (b + 1) * (b + 1) = bq at bb bb0 ⊢
      have nb : (b + 1).natAbs < 2 ^ 62 := natAbs_lt (by omega) (by omega)
      have nb2 : (bq + 57 * (b + 1) + 3).natAbs < 2 ^ 140 := natAbs_lt (by omega) (by omega)
      generalize bq + 57 * (b + 1) + 3 = bs at nb2 ⊢
      have f1 := fmod_bd ((c + 314159265358979323846) * bs) (j := 618970019642690137449562111) (by decide)
      generalize ((c + 314159265358979323846) * bs).fmod 618970019642690137449562111 = f at f1 ⊢
      have nf : f.natAbs < 2 ^ 90 := natAbs_lt f1.1 (by omega)
      refine ⟨cmulW nb nb (by decide), cmulW (a := 6) (by decide) nb (by decide), cmulW (a := 201) (natAbs_lt (by omega) (by omega)) nb2 (by decide), by decide, cmulW nf nf (by decide), by decide, cdivW (by decide) (by decide), by omega, ?_⟩
      exact q _ _ (fmod_bd _ hk).1 (fmod_bd _ hk).2 ⟨_, _, _, rfl, ha, by omega, by omega, hc, hc2⟩
  · exact h.elim

theorem ok_d_law_take {P : Program} {w : World} {K : PySem.W.Frag} {mg : Str → Option Value} {base : Heap} (T : Tx w K mg) : FG P w K mg base CX0 1 T.f_d_law_take T.fd_d_law_take ["urn", "many"] (lSp K sp_d_law_take) := by
  refine fg_data T.F_d_law_take sc_d_law_take (fun ws μ R h => ar_d_law_take h) body_d_law_take (fun cdv A outer s H E hr hgd => ?_) (fun ws μ R h => rd_d_law_take h)
  have nd := sc_d_law_take.nd
  exact (dss_cons (ds_asg (ps_asg (de_add (de_ix (de_var 0 (pv 0)) de_int (fun _ _ => rfl)) de_int).pe (dg_sub (de_var 0 (pv 0)) de_int (fun _ => rfl)).pg))
  (dss_cons (ds_if (dt_cmp op_gtA l_cmp (de_ix (de_var 0 (pv 0)) de_int (fun _ _ => rfl)) de_int (nomark _)) (dss_cons (ds_set (ps_set (i := 2) nd rfl (by first | exact Or.inl rfl | exact Or.inr rfl) (de_op op_modN l_num (de_ix (de_var 0 (pv 0)) de_int (fun _ _ => rfl)) (de_var 1 (pv 1))).pe))
  (dss_cons (ds_asg (ps_asg (de_op op_fdivW l_num (de_ix (de_var 0 (pv 0)) de_int (fun _ _ => rfl)) (de_var 1 (pv 1))).pe (dg_sub (de_var 0 (pv 0)) de_int (fun _ => rfl)).pg))
  (dss_one (ds_ret (de_var 2 (pv 2)))))) dss_nil)
  (dss_cons (ds_set (ps_set (i := 3) nd rfl (by first | exact Or.inl rfl | exact Or.inr rfl) (de_add (de_ix (de_var 0 (pv 0)) de_int (fun _ _ => rfl)) de_int).pe))
  (dss_cons (ds_set (ps_set (i := 3) nd rfl (by first | exact Or.inl rfl | exact Or.inr rfl) (de_op op_mulZ l_mulZ (de_var 3 (pv 3)) (de_add (de_add (de_op op_mulZ l_mulZ (de_ix (de_var 0 (pv 0)) de_int (fun _ _ => rfl)) (de_ix (de_var 0 (pv 0)) de_int (fun _ _ => rfl))) (de_op op_mulZ l_mulZ de_int (de_ix (de_var 0 (pv 0)) de_int (fun _ _ => rfl)))) de_int)).pe))
  (dss_cons (ds_set (ps_set (i := 3) nd rfl (by first | exact Or.inl rfl | exact Or.inr rfl) (de_op op_modN l_num (de_var 3 (pv 3)) de_int).pe))
  (dss_cons (ds_set (ps_set (i := 4) nd rfl (by first | exact Or.inl rfl | exact Or.inr rfl) (de_op op_modN l_num (de_add (de_add (de_op op_mulZ l_mulZ (de_var 3 (pv 3)) (de_var 3 (pv 3))) (de_ix (de_var 0 (pv 0)) de_int (fun _ _ => rfl))) (de_ix (de_var 0 (pv 0)) de_int (fun _ _ => rfl))) de_int).pe))
  (dss_one (ds_ret (de_op op_modN l_num (de_op op_fdivW l_num (de_var 4 (pv 4)) de_int) (de_var 1 (pv 1)))))))))))
def sp_d_law_signs : DSp := fun ws μ R => match ws with
  | [.v (.ref a), .d (.str kd), .d (.int k)] => kd ∈ kindsL ∧ 0 ≤ k ∧ k ≤ 2000 ∧ ∃ n m, μ a = some m ∧ IsUrn n m ∧ n ≤ 2 ^ 50 ∧ ∀ sg m', SgT k.toNat (kd == Str.ofString "sounds") sg → (∀ ts : List (List Nat), sg = .tuple (ts.map stD) → ∀ t ∈ ts, t.length ≤ 30) → (kd = Str.ofString "letters" → ∃ s : List Nat, sg = .str (mk s)) → (kd ≠ Str.ofString "letters" → ∃ ds : List PyData, sg = .tuple ds) → IsUrn (n + 2 ^ 20) m' → R (.d sg) (mset μ a m')
  | _ => False
theorem ar_d_law_signs {ws : List W} {μ : M} {R : DQ} (h : sp_d_law_signs ws μ R) : ws.length = 3 := by
  unfold sp_d_law_signs at h; split at h
  · rfl
  · exact h.elim

def ce1_d_law_signs : DTE := (tOp2 ixD (tVarD 4) (tOp2 modD (tOp2 addD (tVarD 6) (tCallD sp_d_law_take (tConsD (tVarD 0) (tConsD (tVarD 5) tNilD)))) (tK (.d (.int 95)))))
def lp1_d_law_signs : DTS := (DL.tIfS (tTst (tOp2 eqV (tVarD 1) (tK (.d (.str "sounds"))))) (tDropD (tMetD "list" apdD (tVarD 7) (tConsD (tTupD (tConsD (tCallD sp_d_law_take (tConsD (tVarD 0) (tConsD (tK (.d (.int 10))) tNilD))) (tConsD (tCallD sp_d_law_take (tConsD (tVarD 0) (tConsD (tK (.d (.int 10))) tNilD))) tNilD))) tNilD))) (tSeqD (tSetD 9 (tK (.d (.int 1))))
  (tSeqD (DL.tIfS (tTst (tOp2 neV (tVarD 1) (tK (.d (.str "letters"))))) (tSetD 9 (tCallD sp_d_law_take (tConsD (tVarD 0) (tConsD (tOp2 ixD (tLstD (tConsD (tK (.d (.int 2))) (tConsD (tK (.d (.int 4))) (tConsD (tK (.d (.int 9))) (tConsD (tK (.d (.int 30))) tNilD))))) (tCallD sp_d_law_take (tConsD (tVarD 0) (tConsD (tK (.d (.int 4))) tNilD)))) tNilD)))) tNextD)
  (tDropD (tMetD "list" apdD (tVarD 7) (tConsD (tMetD "str" joinAD (tK (.d (.str ""))) (tConsD (tCompG (tItR (tConsD (tVarD 9) tNilD)) 10 tYesD ce1_d_law_signs [10] cFrz) tNilD)) tNilD))))))
def body_d_law_signs : DTS := (tSeqD (tSetD 3 (tK (.d (.str "\n !\"#$&'()*+,-./0123456789:;<=>?@ABCDEFGHIJKLMNOPQRSTUVWXYZ[\\]^_`"))))
  (tSeqD (tSetD 4 (tOp2 addD (tVarD 3) (tK (.d (.str "abcdefghijklmnopqrstuvwxyz{|}~")))))
  (tSeqD (tSetD 5 (tOp2 ixD (tLstD (tConsD (tK (.d (.int 1))) (tConsD (tK (.d (.int 2))) (tConsD (tK (.d (.int 5))) (tConsD (tK (.d (.int 95))) tNilD))))) (tCallD sp_d_law_take (tConsD (tVarD 0) (tConsD (tK (.d (.int 4))) tNilD)))))
  (tSeqD (tSetD 6 (tCallD sp_d_law_take (tConsD (tVarD 0) (tConsD (tK (.d (.int 95))) tNilD))))
  (tSeqD (tSetD 7 (tLstM tNilD))
  (tSeqD (tForD (tItR (tConsD (tVarD 2) tNilD)) (gNameD 8) lp1_d_law_signs)
  (tFrz 7 (tRetD (tIfD (tTst (tOp2 eqV (tVarD 1) (tK (.d (.str "letters"))))) (tMetD "str" joinAD (tK (.d (.str ""))) (tConsD (tVarD 7) tNilD)) (tCallB tupofSD (tConsD (tVarD 7) tNilD)))))))))))
def poolL : List Nat := cd (Str.ofString "\n !\"#$&'()*+,-./0123456789:;<=>?@ABCDEFGHIJKLMNOPQRSTUVWXYZ[\\]^_`" ++ Str.ofString "abcdefghijklmnopqrstuvwxyz{|}~")
theorem pool_len : poolL.length = 95 := by decide +kernel
theorem pool_lt : ∀ c ∈ poolL, c < 128 := by decide +kernel
theorem chars_comp {a : Addr} {μ : M} {m0 : MO} {n0 N : Nat} {few first : Int} {x1 x2 x3 x7 x8 x9 : Option W} {C : List W → M → Prop} (hu : IsUrn n0 m0) (hn : n0 + N ≤ 2 ^ 59) (hN : N ≤ 100) (f0 : 0 < few) (f1 : few ≤ 95) (g0 : 0 ≤ first)
    (hC : ∀ (cs : List Nat) (m' : MO), cs.length = N → (∀ c ∈ cs, c < 128) → IsUrn (n0 + N) m' → C (cs.map (fun c => W.d (.str ⟨#[c]⟩))) (mset μ a m')) :
    compL 10 tYesD ce1_d_law_signs [some (.v (.ref a)), x1, x2, x3, some (.d (.str (Str.ofString "\n !\"#$&'()*+,-./0123456789:;<=>?@ABCDEFGHIJKLMNOPQRSTUVWXYZ[\\]^_`" ++ Str.ofString "abcdefghijklmnopqrstuvwxyz{|}~"))), some (.d (.int few)), some (.d (.int first)), x7, x8, x9, none] (rangeW 0 N) [] (mset μ a m0) C := by
  refine compL_inv (fun r acc μ' => ∃ (m : MO) (cs : List Nat), IsUrn (n0 + cs.length) m ∧ μ' = mset μ a m ∧ acc = cs.map (fun c => W.d (.str ⟨#[c]⟩)) ∧ (∀ c ∈ cs, c < 128) ∧ cs.length + r.length = N) ?_ ?_ ?_
  · exact ⟨m0, [], hu, rfl, rfl, fun c h => (by cases h), by rw [rangeW_len]; simp⟩
  · rintro x r acc _ Z ⟨m, cs, hm, rfl, rfl, hc, hl⟩ hZ
    rw [List.length_cons] at hl
    show tYesD _ _ _
    unfold ce1_d_law_signs
    walk_at "dlsym"
    refine ⟨_, m, mset_same, hm, by omega, f0, by omega, fun j m' j0 j1 hu' => ?_⟩
    rw [mset_mset]
    walk_at "dlsym"
    have fb := fmod_bd (first + j) (j := 95) (by decide)
    refine ⟨by decide, by decide +kernel, ?_⟩
    have e : ((Str.ofString "\n !\"#$&'()*+,-./0123456789:;<=>?@ABCDEFGHIJKLMNOPQRSTUVWXYZ[\\]^_`" ++ Str.ofString "abcdefghijklmnopqrstuvwxyz{|}~").cps.toList) = poolL := rfl
    rw [e]
    refine onS_at fb.1 (by rw [pool_len]; exact fb.2) fun c hcp => ?_
    refine ⟨by rw [List.length_map]; omega, hZ _ _ ⟨m', cs ++ [c], ?_, rfl, by simp, fun d hd => ?_, by rw [List.length_append, List.length_singleton]; omega⟩⟩
    · rw [List.length_append, List.length_singleton]; exact hu'.mono (by omega)
    · rcases List.mem_append.mp hd with hd | hd
      · exact hc d hd
      · rw [List.mem_singleton.mp hd]; exact pool_lt c hcp
  · rintro acc _ ⟨m, cs, hm, rfl, rfl, hc, hl⟩
    have : cs.length = N := by simpa using hl
    subst this
    exact hC cs m rfl hc hm
def AccOk (kd : Str) (acc : List PyData) : Prop :=
  (kd = Str.ofString "sounds" ∧ ∃ ns : List (Int × Int), acc = ns.map ntD ∧ ∀ x ∈ ns, 0 ≤ x.1 ∧ x.1 ≤ 9 ∧ 0 ≤ x.2 ∧ x.2 ≤ 9) ∨
  (kd ≠ Str.ofString "sounds" ∧ ∃ ts : List (List Nat), acc = ts.map stD ∧ ∀ t ∈ ts, t.length ≤ 30 ∧ (∀ c ∈ t, c < 128) ∧ (kd = Str.ofString "letters" → t.length = 1))
theorem mdel_two {μ : M} {a p : Addr} {X m : MO} (hp : μ p = none) (h : a ≠ p) : mdel (mset (mset μ p X) a m) p = mset μ a m := by
  funext b
  unfold mdel mset
  by_cases e : b = p
  · rw [if_pos e, if_neg (by rw [e]; exact Ne.symm h), e, hp]
  · simp only [if_neg e]
theorem rd_d_law_signs {ws : List W} {μ : M} {R : DQ} (h : sp_d_law_signs ws μ R) : body_d_law_signs { nx := fun _ μ' => R (.d .none) μ', rt := R } (startD N_d_law_signs.length ws) μ := by
  unfold sp_d_law_signs at h
  split at h
  · rename_i a kd k
    obtain ⟨hk, k0, k1, n, m, em, hu, hn, q⟩ := h
    unfold body_d_law_signs
    walk_at "dlsym"
    refine ⟨by decide +kernel, n, m, em, hu, by omega, by decide, by decide, fun j m1 j0 j1 hu1 => ?_⟩
    walk_at "dlsym"
    refine onS_at j0 (by simpa using j1) fun c hc => ?_
    obtain ⟨few, rfl, f0, f1⟩ : ∃ j : Int, c = .int j ∧ 0 < j ∧ j ≤ 95 := by
      simp only [List.mem_cons, List.not_mem_nil, or_false] at hc
      rcases hc with rfl | rfl | rfl | rfl <;> exact ⟨_, rfl, by decide, by decide⟩
    walk_at "dlsym"
    refine ⟨_, m1, mset_same, hu1, by omega, by decide, by decide, fun first m2 g0 g1 hu2 => ?_⟩
    rw [mset_mset]
    walk_at "dlsym"
    intro p hp
    have hpa : a ≠ p := fun z => by rw [← z, mset_same] at hp; cases hp
    rw [mset_ne (Ne.symm hpa)] at hp
    refine ⟨by omega, by omega, ?_⟩
    refine loopD_inv (fun r ρ μ' => ∃ (acc : List PyData) (m3 : MO) (x8 x9 x10 : Option W), IsUrn (n + 2 + 40 * acc.length) m3 ∧ acc.length + r.length = k.toNat ∧ AccOk kd acc ∧ μ' = mset (mset μ p (.lst (acc.map .d))) a m3 ∧
      ρ = [some (.v (.ref a)), some (.d (.str kd)), some (.d (.int k)), some (.d (.str (Str.ofString "\n !\"#$&'()*+,-./0123456789:;<=>?@ABCDEFGHIJKLMNOPQRSTUVWXYZ[\\]^_`"))), some (.d (.str (Str.ofString "\n !\"#$&'()*+,-./0123456789:;<=>?@ABCDEFGHIJKLMNOPQRSTUVWXYZ[\\]^_`" ++ Str.ofString "abcdefghijklmnopqrstuvwxyz{|}~"))), some (.d (.int few)), some (.d (.int first)), some (.v (.ref p)), x8, x9, x10]) ?_ ?_ ?_
    · refine ⟨[], m2, _, _, _, hu2.mono (by omega), by rw [rangeW_len]; simp, ?_, ?_, rfl⟩
      · by_cases e : kd = Str.ofString "sounds"
        · exact .inl ⟨e, [], rfl, fun x h => (by cases h)⟩
        · exact .inr ⟨e, [], rfl, fun x h => (by cases h)⟩
      · funext b
        unfold mset
        by_cases e : b = p
        · rw [if_pos e, if_neg (by rw [e]; exact Ne.symm hpa), if_pos e]; rfl
        · simp only [if_neg e]
    · rintro w r ρ _ Z ⟨acc, m3, x8, x9, x10, hu3, hl, ha, rfl, rfl⟩ hZ
      rw [List.length_cons] at hl
      have em3 : ∀ m', mset (mset μ p (.lst (acc.map .d))) a m' p = some (.lst (acc.map .d)) := fun m' => (mset_ne (Ne.symm hpa)).trans mset_same
      have hk2 : k.toNat ≤ 2000 := by omega
      have put : ∀ (d : PyData) (m' : MO), mset (mset (mset μ p (.lst (acc.map .d))) a m') p (.lst (acc.map .d ++ [.d d])) = mset (mset μ p (.lst ((acc ++ [d]).map .d))) a m' := fun d m' => by
        funext b
        unfold mset
        by_cases e : b = p
        · rw [if_pos e, if_neg (by rw [e]; exact Ne.symm hpa), if_pos e, List.map_append]; rfl
        · simp only [if_neg e]
      unfold lp1_d_law_signs
      walk_at "dlsym"
      rw [eqv_str]
      rcases ha with ⟨rfl, ns, rfl, hns⟩ | ⟨hne, ts, rfl, hts⟩
      · rw [if_pos (by decide +kernel)]
        (try simp only [startD_eq, tSeqD, tSetD, tRetD, tRetND, DL.tIfS, tDropD, tAsgD, gSetD, gNameD, tTru, tTst, tNotB, tAndB, tOrB, tVarD, tK, tOp2, tUn1, tAndD, tOrD, tNotD, tIfD, tChainD, tConsD, tNilD, tTupD, tLstD, tLstM, tCallB, tCallD, tMetD, tSlD, tNoD, tPartD, tYesD, tNextD, tFrz, tForD, tItL, tItT, tItS, tItR, tItR2, tCompG, cFrz, cMut, tDict0, tDict1, tAugD, wipeD, mset_same, mset_mset, List.getElem?_cons_zero, List.getElem?_cons_succ, List.set_cons_zero, List.set_cons_succ, List.map_cons, List.map_nil, List.length_cons, List.length_nil, List.append_nil, List.nil_append, List.cons_append, List.replicate_succ, List.replicate_zero, Nat.sub_self, Nat.reduceSub, Nat.reduceAdd, if_true, if_false, reduceCtorEq, Bool.false_eq_true, Nat.zero_add, true_and, Bool.not_true, Bool.not_false, Bool.false_xor, ↓reduceIte, q_addI, q_addS, q_addL, q_addT, q_sub, q_mulI, q_mulL, q_mulT, q_num, q_neg, q_cmpI, q_cmpS, q_eq, q_ne, q_isN, q_isB, q_inSc, q_inT, q_inL, q_inAS, q_inAN, q_inAB, q_inAI, q_inAL, q_inAT, q_inAD, q_ixL, q_ixT, q_ixS, q_ixM, q_onS, q_slL, q_slT, q_slS, q_slX, q_truN, q_truB, q_truI, q_truS, q_truL, q_truT, q_lenS, q_lenL, q_lenT, q_lenX, q_int2, q_abs, q_all, q_any, q_sum, q_isi, q_reprL, q_reprT, q_apd, q_ext, q_joinL, q_split, q_str1, q_tyS, q_tyL, q_tyM, q_asD, q_asD0, q_asDc, q_at0, q_at1, q_at2, q_n0, q_n1, q_n2, q_tyN, q_tyB, q_tyI, q_tyS2, q_tyL2, q_tyT2, q_tyD2, k_ss, k_ns, k_bs, k_is_, k_ls, k_ts, k_ds, k_nt, k_bt, k_it, k_st, k_lt, k_tt, k_dt, k_ni, k_bi, k_ii, k_si, k_li, k_ti, k_di, k_nb, k_bb, k_ib, k_sb, k_lb, k_tb, k_db, q_bools, q_strs, q_ints, q_bools0, q_strs0, q_ints0, q_asDd, sizeLit, Nat.reduceLeDiff, Nat.reduceLT, Int.reduceLE, Int.reduceLT, Int.reducePow, Int.reduceNeg, Nat.reducePow, Int.reduceToNat, Int.reduceSub, Int.reduceAdd, and_true, implies_true, PyData.plain, PyData.plainAll, PyData.showable, PyData.showableAll, PyData.depth, PyData.depthAll, Bool.and_self, Bool.and_true, Bool.true_and, Nat.max_self, Nat.min_self, Nat.reduceLeDiff, Nat.zero_le, q_mulXI, q_mulXS, q_mulXL, q_mulXT, q_str, q_int, q_step, tTab, tJsD, tFmtD, tRevD, q_revL, q_revM, tParD, q_joinS, q_reprGN, q_reprGT, q_reprGL, q_eqVv, q_neVv, q_vwd, q_vws, q_vws0, q_isiV, q_tyNd, q_tyNs, q_reprVN, q_reprVT, q_reprVL, tStarD, q_seqT, q_seqL, tCompP, tItET, tItEL, tTabD, q_pop0, q_pop, q_revMD, q_tupofL, q_tupofT, q_atc0, q_atc1, q_atc2, q_atc3, q_atc4, or_self, or_true, true_or, false_or, or_false, q_lenM, q_asDapp, q_gTup2, q_gTup3, kk_NoneType_list, kk_NoneType_dict, kk_bool_list, kk_bool_dict, kk_int_list, kk_int_dict, kk_str_list, kk_str_dict, kk_list_list, kk_list_dict, kk_tuple_list, kk_tuple_dict, kk_dict_list, kk_dict_dict, q_eqSS, q_eqII, q_mulYI, q_mulYS, q_mulYL, q_mulYT, q_tyNu, tTupM, tFrzE, q_frzd, q_extT, q_clr, q_intGb, q_intGi, q_intGs, tDGetD, tDictD, dvals, dzip, tRevT, q_eqDE, q_reprXN, tDGet0, q_addNI, q_addNB, q_mulNI, q_mulNB, q_reprZN, q_reprZS, q_reprZL, q_reprZI, q_reprZB, q_eqL0, tFldD, sFldD, tMethC, tMakeC, tDictM, tDGetM, tDInM, sDPutM, q_insAt, q_dctAt, q_keyI, q_keyS, q_lenMd, q_lenMs, q_lenMv, q_lenI, tRevA, q_mulGI, q_mulGS, q_mulGL, q_mulGT, q_eqXd, q_eqXi, q_eqXs, q_eqXb, q_eqXn, q_eqXl, q_eqXt, q_inXi, q_inXs, q_inXb, q_inXn, q_inXd, q_inXl, q_inXt, tNeverD, tItV, q_listML, q_listMT, q_listDL, q_listDT, q_ord, q_popAt, q_tupSL, q_tupST, q_tupSS, q_listSS, q_listSL, q_listST, q_reprXS, q_reprXT, q_reprXL, q_reprXs, q_joinAS, q_joinAL, q_joinAT, q_mulZI, q_mulZL, q_sindex, q_rmpre, tCallKD, tCallDf, tIsiT, q_strZS, q_strZI, kitBs, em3])
        refine ⟨_, m3, mset_same, hu3, by omega, by decide, by decide, fun x m4 x0 x1 hu4 => ?_⟩
        rw [mset_mset]
        walk_at "dlsym"
        refine ⟨_, m4, mset_same, hu4, by omega, by decide, by decide, fun y m5 y0 y1 hu5 => ?_⟩
        rw [mset_mset]
        (try simp only [startD_eq, tSeqD, tSetD, tRetD, tRetND, DL.tIfS, tDropD, tAsgD, gSetD, gNameD, tTru, tTst, tNotB, tAndB, tOrB, tVarD, tK, tOp2, tUn1, tAndD, tOrD, tNotD, tIfD, tChainD, tConsD, tNilD, tTupD, tLstD, tLstM, tCallB, tCallD, tMetD, tSlD, tNoD, tPartD, tYesD, tNextD, tFrz, tForD, tItL, tItT, tItS, tItR, tItR2, tCompG, cFrz, cMut, tDict0, tDict1, tAugD, wipeD, mset_same, mset_mset, List.getElem?_cons_zero, List.getElem?_cons_succ, List.set_cons_zero, List.set_cons_succ, List.map_cons, List.map_nil, List.length_cons, List.length_nil, List.append_nil, List.nil_append, List.cons_append, List.replicate_succ, List.replicate_zero, Nat.sub_self, Nat.reduceSub, Nat.reduceAdd, if_true, if_false, reduceCtorEq, Bool.false_eq_true, Nat.zero_add, true_and, Bool.not_true, Bool.not_false, Bool.false_xor, ↓reduceIte, q_addI, q_addS, q_addL, q_addT, q_sub, q_mulI, q_mulL, q_mulT, q_num, q_neg, q_cmpI, q_cmpS, q_eq, q_ne, q_isN, q_isB, q_inSc, q_inT, q_inL, q_inAS, q_inAN, q_inAB, q_inAI, q_inAL, q_inAT, q_inAD, q_ixL, q_ixT, q_ixS, q_ixM, q_onS, q_slL, q_slT, q_slS, q_slX, q_truN, q_truB, q_truI, q_truS, q_truL, q_truT, q_lenS, q_lenL, q_lenT, q_lenX, q_int2, q_abs, q_all, q_any, q_sum, q_isi, q_reprL, q_reprT, q_apd, q_ext, q_joinL, q_split, q_str1, q_tyS, q_tyL, q_tyM, q_asD, q_asD0, q_asDc, q_at0, q_at1, q_at2, q_n0, q_n1, q_n2, q_tyN, q_tyB, q_tyI, q_tyS2, q_tyL2, q_tyT2, q_tyD2, k_ss, k_ns, k_bs, k_is_, k_ls, k_ts, k_ds, k_nt, k_bt, k_it, k_st, k_lt, k_tt, k_dt, k_ni, k_bi, k_ii, k_si, k_li, k_ti, k_di, k_nb, k_bb, k_ib, k_sb, k_lb, k_tb, k_db, q_bools, q_strs, q_ints, q_bools0, q_strs0, q_ints0, q_asDd, sizeLit, Nat.reduceLeDiff, Nat.reduceLT, Int.reduceLE, Int.reduceLT, Int.reducePow, Int.reduceNeg, Nat.reducePow, Int.reduceToNat, Int.reduceSub, Int.reduceAdd, and_true, implies_true, PyData.plain, PyData.plainAll, PyData.showable, PyData.showableAll, PyData.depth, PyData.depthAll, Bool.and_self, Bool.and_true, Bool.true_and, Nat.max_self, Nat.min_self, Nat.reduceLeDiff, Nat.zero_le, q_mulXI, q_mulXS, q_mulXL, q_mulXT, q_str, q_int, q_step, tTab, tJsD, tFmtD, tRevD, q_revL, q_revM, tParD, q_joinS, q_reprGN, q_reprGT, q_reprGL, q_eqVv, q_neVv, q_vwd, q_vws, q_vws0, q_isiV, q_tyNd, q_tyNs, q_reprVN, q_reprVT, q_reprVL, tStarD, q_seqT, q_seqL, tCompP, tItET, tItEL, tTabD, q_pop0, q_pop, q_revMD, q_tupofL, q_tupofT, q_atc0, q_atc1, q_atc2, q_atc3, q_atc4, or_self, or_true, true_or, false_or, or_false, q_lenM, q_asDapp, q_gTup2, q_gTup3, kk_NoneType_list, kk_NoneType_dict, kk_bool_list, kk_bool_dict, kk_int_list, kk_int_dict, kk_str_list, kk_str_dict, kk_list_list, kk_list_dict, kk_tuple_list, kk_tuple_dict, kk_dict_list, kk_dict_dict, q_eqSS, q_eqII, q_mulYI, q_mulYS, q_mulYL, q_mulYT, q_tyNu, tTupM, tFrzE, q_frzd, q_extT, q_clr, q_intGb, q_intGi, q_intGs, tDGetD, tDictD, dvals, dzip, tRevT, q_eqDE, q_reprXN, tDGet0, q_addNI, q_addNB, q_mulNI, q_mulNB, q_reprZN, q_reprZS, q_reprZL, q_reprZI, q_reprZB, q_eqL0, tFldD, sFldD, tMethC, tMakeC, tDictM, tDGetM, tDInM, sDPutM, q_insAt, q_dctAt, q_keyI, q_keyS, q_lenMd, q_lenMs, q_lenMv, q_lenI, tRevA, q_mulGI, q_mulGS, q_mulGL, q_mulGT, q_eqXd, q_eqXi, q_eqXs, q_eqXb, q_eqXn, q_eqXl, q_eqXt, q_inXi, q_inXs, q_inXb, q_inXn, q_inXd, q_inXl, q_inXt, tNeverD, tItV, q_listML, q_listMT, q_listDL, q_listDT, q_ord, q_popAt, q_tupSL, q_tupST, q_tupSS, q_listSS, q_listSL, q_listST, q_reprXS, q_reprXT, q_reprXL, q_reprXs, q_joinAS, q_joinAL, q_joinAT, q_mulZI, q_mulZL, q_sindex, q_rmpre, tCallKD, tCallDf, tIsiT, q_strZS, q_strZI, kitBs, em3])
        refine ⟨by simp only [List.length_map] at hl ⊢; omega, ?_⟩
        rw [put (.tuple [.int x, .int y]) m5]
        refine hZ _ _ ⟨ns.map ntD ++ [ntD (x, y)], m5, _, _, _, hu5.mono (by simp; omega), by simp only [List.length_append, List.length_singleton]; omega, .inl ⟨rfl, ns ++ [(x, y)], by simp, fun z hz => ?_⟩, rfl, rfl⟩
        rcases List.mem_append.mp hz with hz | hz
        · exact hns z hz
        · rw [List.mem_singleton.mp hz]; exact ⟨x0, by show x ≤ 9; omega, y0, by show y ≤ 9; omega⟩
      · rw [if_neg (by rw [beq_iff_eq]; exact hne)]
        have fin : ∀ (cs : List Nat) (m' : MO) (x8 x9 x10 : Option W), cs.length ≤ 30 → (∀ c ∈ cs, c < 128) → (kd = Str.ofString "letters" → cs.length = 1) → IsUrn (n + 2 + 40 * (ts.map stD).length + 40) m' →
            Z [some (.v (.ref a)), some (.d (.str kd)), some (.d (.int k)), some (.d (.str (Str.ofString "\n !\"#$&'()*+,-./0123456789:;<=>?@ABCDEFGHIJKLMNOPQRSTUVWXYZ[\\]^_`"))), some (.d (.str (Str.ofString "\n !\"#$&'()*+,-./0123456789:;<=>?@ABCDEFGHIJKLMNOPQRSTUVWXYZ[\\]^_`" ++ Str.ofString "abcdefghijklmnopqrstuvwxyz{|}~"))), some (.d (.int few)), some (.d (.int first)), some (.v (.ref p)), x8, x9, x10] (mset (mset (mset μ p (.lst ((ts.map stD).map .d))) a m') p (.lst ((ts.map stD).map .d ++ [.d (.str (mk cs))]))) := fun cs m' x8 x9 x10 h1 h2 h3 h4 => by
          rw [put (.str (mk cs)) m']
          refine hZ _ _ ⟨ts.map stD ++ [stD cs], m', _, _, _, h4.mono (by simp; omega), by simp only [List.length_append, List.length_singleton]; omega, .inr ⟨hne, ts ++ [cs], by simp, fun t ht => ?_⟩, rfl, rfl⟩
          rcases List.mem_append.mp ht with ht | ht
          · exact hts t ht
          · rw [List.mem_singleton.mp ht]; exact ⟨h1, h2, h3⟩
        walk_at "dlsym"
        rw [eqv_str]
        by_cases e : kd = Str.ofString "letters"
        · rw [if_neg (by rw [e]; decide +kernel)]
          (try simp only [startD_eq, tSeqD, tSetD, tRetD, tRetND, DL.tIfS, tDropD, tAsgD, gSetD, gNameD, tTru, tTst, tNotB, tAndB, tOrB, tVarD, tK, tOp2, tUn1, tAndD, tOrD, tNotD, tIfD, tChainD, tConsD, tNilD, tTupD, tLstD, tLstM, tCallB, tCallD, tMetD, tSlD, tNoD, tPartD, tYesD, tNextD, tFrz, tForD, tItL, tItT, tItS, tItR, tItR2, tCompG, cFrz, cMut, tDict0, tDict1, tAugD, wipeD, mset_same, mset_mset, List.getElem?_cons_zero, List.getElem?_cons_succ, List.set_cons_zero, List.set_cons_succ, List.map_cons, List.map_nil, List.length_cons, List.length_nil, List.append_nil, List.nil_append, List.cons_append, List.replicate_succ, List.replicate_zero, Nat.sub_self, Nat.reduceSub, Nat.reduceAdd, if_true, if_false, reduceCtorEq, Bool.false_eq_true, Nat.zero_add, true_and, Bool.not_true, Bool.not_false, Bool.false_xor, ↓reduceIte, q_addI, q_addS, q_addL, q_addT, q_sub, q_mulI, q_mulL, q_mulT, q_num, q_neg, q_cmpI, q_cmpS, q_eq, q_ne, q_isN, q_isB, q_inSc, q_inT, q_inL, q_inAS, q_inAN, q_inAB, q_inAI, q_inAL, q_inAT, q_inAD, q_ixL, q_ixT, q_ixS, q_ixM, q_onS, q_slL, q_slT, q_slS, q_slX, q_truN, q_truB, q_truI, q_truS, q_truL, q_truT, q_lenS, q_lenL, q_lenT, q_lenX, q_int2, q_abs, q_all, q_any, q_sum, q_isi, q_reprL, q_reprT, q_apd, q_ext, q_joinL, q_split, q_str1, q_tyS, q_tyL, q_tyM, q_asD, q_asD0, q_asDc, q_at0, q_at1, q_at2, q_n0, q_n1, q_n2, q_tyN, q_tyB, q_tyI, q_tyS2, q_tyL2, q_tyT2, q_tyD2, k_ss, k_ns, k_bs, k_is_, k_ls, k_ts, k_ds, k_nt, k_bt, k_it, k_st, k_lt, k_tt, k_dt, k_ni, k_bi, k_ii, k_si, k_li, k_ti, k_di, k_nb, k_bb, k_ib, k_sb, k_lb, k_tb, k_db, q_bools, q_strs, q_ints, q_bools0, q_strs0, q_ints0, q_asDd, sizeLit, Nat.reduceLeDiff, Nat.reduceLT, Int.reduceLE, Int.reduceLT, Int.reducePow, Int.reduceNeg, Nat.reducePow, Int.reduceToNat, Int.reduceSub, Int.reduceAdd, and_true, implies_true, PyData.plain, PyData.plainAll, PyData.showable, PyData.showableAll, PyData.depth, PyData.depthAll, Bool.and_self, Bool.and_true, Bool.true_and, Nat.max_self, Nat.min_self, Nat.reduceLeDiff, Nat.zero_le, q_mulXI, q_mulXS, q_mulXL, q_mulXT, q_str, q_int, q_step, tTab, tJsD, tFmtD, tRevD, q_revL, q_revM, tParD, q_joinS, q_reprGN, q_reprGT, q_reprGL, q_eqVv, q_neVv, q_vwd, q_vws, q_vws0, q_isiV, q_tyNd, q_tyNs, q_reprVN, q_reprVT, q_reprVL, tStarD, q_seqT, q_seqL, tCompP, tItET, tItEL, tTabD, q_pop0, q_pop, q_revMD, q_tupofL, q_tupofT, q_atc0, q_atc1, q_atc2, q_atc3, q_atc4, or_self, or_true, true_or, false_or, or_false, q_lenM, q_asDapp, q_gTup2, q_gTup3, kk_NoneType_list, kk_NoneType_dict, kk_bool_list, kk_bool_dict, kk_int_list, kk_int_dict, kk_str_list, kk_str_dict, kk_list_list, kk_list_dict, kk_tuple_list, kk_tuple_dict, kk_dict_list, kk_dict_dict, q_eqSS, q_eqII, q_mulYI, q_mulYS, q_mulYL, q_mulYT, q_tyNu, tTupM, tFrzE, q_frzd, q_extT, q_clr, q_intGb, q_intGi, q_intGs, tDGetD, tDictD, dvals, dzip, tRevT, q_eqDE, q_reprXN, tDGet0, q_addNI, q_addNB, q_mulNI, q_mulNB, q_reprZN, q_reprZS, q_reprZL, q_reprZI, q_reprZB, q_eqL0, tFldD, sFldD, tMethC, tMakeC, tDictM, tDGetM, tDInM, sDPutM, q_insAt, q_dctAt, q_keyI, q_keyS, q_lenMd, q_lenMs, q_lenMv, q_lenI, tRevA, q_mulGI, q_mulGS, q_mulGL, q_mulGT, q_eqXd, q_eqXi, q_eqXs, q_eqXb, q_eqXn, q_eqXl, q_eqXt, q_inXi, q_inXs, q_inXb, q_inXn, q_inXd, q_inXl, q_inXt, tNeverD, tItV, q_listML, q_listMT, q_listDL, q_listDT, q_ord, q_popAt, q_tupSL, q_tupST, q_tupSS, q_listSS, q_listSL, q_listST, q_reprXS, q_reprXT, q_reprXL, q_reprXs, q_joinAS, q_joinAL, q_joinAT, q_mulZI, q_mulZL, q_sindex, q_rmpre, tCallKD, tCallDf, tIsiT, q_strZS, q_strZI, kitBs, em3])
          refine chars_comp (N := 1) hu3 (by omega) (by omega) f0 f1 g0 fun cs m' h1 h2 h3 => ?_
          have e9 : (cs.map fun c => W.d (.str ⟨#[c]⟩)) = (cs.map fun c => PyData.str ⟨#[c]⟩).map .d := by rw [List.map_map]; rfl
          rw [e9]
          walk_at "dlsym"
          refine ⟨by rw [one_sum, show (Str.ofString "").length = 0 from rfl, Nat.mul_zero]; omega, ?_⟩
          rw [join0]
          (try simp only [startD_eq, tSeqD, tSetD, tRetD, tRetND, DL.tIfS, tDropD, tAsgD, gSetD, gNameD, tTru, tTst, tNotB, tAndB, tOrB, tVarD, tK, tOp2, tUn1, tAndD, tOrD, tNotD, tIfD, tChainD, tConsD, tNilD, tTupD, tLstD, tLstM, tCallB, tCallD, tMetD, tSlD, tNoD, tPartD, tYesD, tNextD, tFrz, tForD, tItL, tItT, tItS, tItR, tItR2, tCompG, cFrz, cMut, tDict0, tDict1, tAugD, wipeD, mset_same, mset_mset, List.getElem?_cons_zero, List.getElem?_cons_succ, List.set_cons_zero, List.set_cons_succ, List.map_cons, List.map_nil, List.length_cons, List.length_nil, List.append_nil, List.nil_append, List.cons_append, List.replicate_succ, List.replicate_zero, Nat.sub_self, Nat.reduceSub, Nat.reduceAdd, if_true, if_false, reduceCtorEq, Bool.false_eq_true, Nat.zero_add, true_and, Bool.not_true, Bool.not_false, Bool.false_xor, ↓reduceIte, q_addI, q_addS, q_addL, q_addT, q_sub, q_mulI, q_mulL, q_mulT, q_num, q_neg, q_cmpI, q_cmpS, q_eq, q_ne, q_isN, q_isB, q_inSc, q_inT, q_inL, q_inAS, q_inAN, q_inAB, q_inAI, q_inAL, q_inAT, q_inAD, q_ixL, q_ixT, q_ixS, q_ixM, q_onS, q_slL, q_slT, q_slS, q_slX, q_truN, q_truB, q_truI, q_truS, q_truL, q_truT, q_lenS, q_lenL, q_lenT, q_lenX, q_int2, q_abs, q_all, q_any, q_sum, q_isi, q_reprL, q_reprT, q_apd, q_ext, q_joinL, q_split, q_str1, q_tyS, q_tyL, q_tyM, q_asD, q_asD0, q_asDc, q_at0, q_at1, q_at2, q_n0, q_n1, q_n2, q_tyN, q_tyB, q_tyI, q_tyS2, q_tyL2, q_tyT2, q_tyD2, k_ss, k_ns, k_bs, k_is_, k_ls, k_ts, k_ds, k_nt, k_bt, k_it, k_st, k_lt, k_tt, k_dt, k_ni, k_bi, k_ii, k_si, k_li, k_ti, k_di, k_nb, k_bb, k_ib, k_sb, k_lb, k_tb, k_db, q_bools, q_strs, q_ints, q_bools0, q_strs0, q_ints0, q_asDd, sizeLit, Nat.reduceLeDiff, Nat.reduceLT, Int.reduceLE, Int.reduceLT, Int.reducePow, Int.reduceNeg, Nat.reducePow, Int.reduceToNat, Int.reduceSub, Int.reduceAdd, and_true, implies_true, PyData.plain, PyData.plainAll, PyData.showable, PyData.showableAll, PyData.depth, PyData.depthAll, Bool.and_self, Bool.and_true, Bool.true_and, Nat.max_self, Nat.min_self, Nat.reduceLeDiff, Nat.zero_le, q_mulXI, q_mulXS, q_mulXL, q_mulXT, q_str, q_int, q_step, tTab, tJsD, tFmtD, tRevD, q_revL, q_revM, tParD, q_joinS, q_reprGN, q_reprGT, q_reprGL, q_eqVv, q_neVv, q_vwd, q_vws, q_vws0, q_isiV, q_tyNd, q_tyNs, q_reprVN, q_reprVT, q_reprVL, tStarD, q_seqT, q_seqL, tCompP, tItET, tItEL, tTabD, q_pop0, q_pop, q_revMD, q_tupofL, q_tupofT, q_atc0, q_atc1, q_atc2, q_atc3, q_atc4, or_self, or_true, true_or, false_or, or_false, q_lenM, q_asDapp, q_gTup2, q_gTup3, kk_NoneType_list, kk_NoneType_dict, kk_bool_list, kk_bool_dict, kk_int_list, kk_int_dict, kk_str_list, kk_str_dict, kk_list_list, kk_list_dict, kk_tuple_list, kk_tuple_dict, kk_dict_list, kk_dict_dict, q_eqSS, q_eqII, q_mulYI, q_mulYS, q_mulYL, q_mulYT, q_tyNu, tTupM, tFrzE, q_frzd, q_extT, q_clr, q_intGb, q_intGi, q_intGs, tDGetD, tDictD, dvals, dzip, tRevT, q_eqDE, q_reprXN, tDGet0, q_addNI, q_addNB, q_mulNI, q_mulNB, q_reprZN, q_reprZS, q_reprZL, q_reprZI, q_reprZB, q_eqL0, tFldD, sFldD, tMethC, tMakeC, tDictM, tDGetM, tDInM, sDPutM, q_insAt, q_dctAt, q_keyI, q_keyS, q_lenMd, q_lenMs, q_lenMv, q_lenI, tRevA, q_mulGI, q_mulGS, q_mulGL, q_mulGT, q_eqXd, q_eqXi, q_eqXs, q_eqXb, q_eqXn, q_eqXl, q_eqXt, q_inXi, q_inXs, q_inXb, q_inXn, q_inXd, q_inXl, q_inXt, tNeverD, tItV, q_listML, q_listMT, q_listDL, q_listDT, q_ord, q_popAt, q_tupSL, q_tupST, q_tupSS, q_listSS, q_listSL, q_listST, q_reprXS, q_reprXT, q_reprXL, q_reprXs, q_joinAS, q_joinAL, q_joinAT, q_mulZI, q_mulZL, q_sindex, q_rmpre, tCallKD, tCallDf, tIsiT, q_strZS, q_strZI, kitBs, em3])
          exact ⟨by simp only [List.length_map] at hl ⊢; omega, fin cs m' _ _ _ (by omega) h2 (fun _ => h1) (h3.mono (by omega))⟩
        · rw [if_pos (by rw [beq_eq_false_iff_ne.mpr e]; rfl)]
          refine ⟨_, m3, mset_same, hu3, by omega, by decide, by decide, fun x m4 x0 x1 hu4 => ?_⟩
          rw [mset_mset]
          walk_at "dlsym"
          refine onS_at x0 (by simpa using x1) fun c hc => ?_
          obtain ⟨z, rfl, z0, z1⟩ : ∃ j : Int, c = .int j ∧ 0 < j ∧ j ≤ 30 := by
            simp only [List.mem_cons, List.not_mem_nil, or_false] at hc
            rcases hc with rfl | rfl | rfl | rfl <;> exact ⟨_, rfl, by decide, by decide⟩
          refine ⟨_, m4, mset_same, hu4, by omega, z0, by omega, fun y m5 y0 y1 hu5 => ?_⟩
          rw [mset_mset]
          (try simp only [startD_eq, tSeqD, tSetD, tRetD, tRetND, DL.tIfS, tDropD, tAsgD, gSetD, gNameD, tTru, tTst, tNotB, tAndB, tOrB, tVarD, tK, tOp2, tUn1, tAndD, tOrD, tNotD, tIfD, tChainD, tConsD, tNilD, tTupD, tLstD, tLstM, tCallB, tCallD, tMetD, tSlD, tNoD, tPartD, tYesD, tNextD, tFrz, tForD, tItL, tItT, tItS, tItR, tItR2, tCompG, cFrz, cMut, tDict0, tDict1, tAugD, wipeD, mset_same, mset_mset, List.getElem?_cons_zero, List.getElem?_cons_succ, List.set_cons_zero, List.set_cons_succ, List.map_cons, List.map_nil, List.length_cons, List.length_nil, List.append_nil, List.nil_append, List.cons_append, List.replicate_succ, List.replicate_zero, Nat.sub_self, Nat.reduceSub, Nat.reduceAdd, if_true, if_false, reduceCtorEq, Bool.false_eq_true, Nat.zero_add, true_and, Bool.not_true, Bool.not_false, Bool.false_xor, ↓reduceIte, q_addI, q_addS, q_addL, q_addT, q_sub, q_mulI, q_mulL, q_mulT, q_num, q_neg, q_cmpI, q_cmpS, q_eq, q_ne, q_isN, q_isB, q_inSc, q_inT, q_inL, q_inAS, q_inAN, q_inAB, q_inAI, q_inAL, q_inAT, q_inAD, q_ixL, q_ixT, q_ixS, q_ixM, q_onS, q_slL, q_slT, q_slS, q_slX, q_truN, q_truB, q_truI, q_truS, q_truL, q_truT, q_lenS, q_lenL, q_lenT, q_lenX, q_int2, q_abs, q_all, q_any, q_sum, q_isi, q_reprL, q_reprT, q_apd, q_ext, q_joinL, q_split, q_str1, q_tyS, q_tyL, q_tyM, q_asD, q_asD0, q_asDc, q_at0, q_at1, q_at2, q_n0, q_n1, q_n2, q_tyN, q_tyB, q_tyI, q_tyS2, q_tyL2, q_tyT2, q_tyD2, k_ss, k_ns, k_bs, k_is_, k_ls, k_ts, k_ds, k_nt, k_bt, k_it, k_st, k_lt, k_tt, k_dt, k_ni, k_bi, k_ii, k_si, k_li, k_ti, k_di, k_nb, k_bb, k_ib, k_sb, k_lb, k_tb, k_db, q_bools, q_strs, q_ints, q_bools0, q_strs0, q_ints0, q_asDd, sizeLit, Nat.reduceLeDiff, Nat.reduceLT, Int.reduceLE, Int.reduceLT, Int.reducePow, Int.reduceNeg, Nat.reducePow, Int.reduceToNat, Int.reduceSub, Int.reduceAdd, and_true, implies_true, PyData.plain, PyData.plainAll, PyData.showable, PyData.showableAll, PyData.depth, PyData.depthAll, Bool.and_self, Bool.and_true, Bool.true_and, Nat.max_self, Nat.min_self, Nat.reduceLeDiff, Nat.zero_le, q_mulXI, q_mulXS, q_mulXL, q_mulXT, q_str, q_int, q_step, tTab, tJsD, tFmtD, tRevD, q_revL, q_revM, tParD, q_joinS, q_reprGN, q_reprGT, q_reprGL, q_eqVv, q_neVv, q_vwd, q_vws, q_vws0, q_isiV, q_tyNd, q_tyNs, q_reprVN, q_reprVT, q_reprVL, tStarD, q_seqT, q_seqL, tCompP, tItET, tItEL, tTabD, q_pop0, q_pop, q_revMD, q_tupofL, q_tupofT, q_atc0, q_atc1, q_atc2, q_atc3, q_atc4, or_self, or_true, true_or, false_or, or_false, q_lenM, q_asDapp, q_gTup2, q_gTup3, kk_NoneType_list, kk_NoneType_dict, kk_bool_list, kk_bool_dict, kk_int_list, kk_int_dict, kk_str_list, kk_str_dict, kk_list_list, kk_list_dict, kk_tuple_list, kk_tuple_dict, kk_dict_list, kk_dict_dict, q_eqSS, q_eqII, q_mulYI, q_mulYS, q_mulYL, q_mulYT, q_tyNu, tTupM, tFrzE, q_frzd, q_extT, q_clr, q_intGb, q_intGi, q_intGs, tDGetD, tDictD, dvals, dzip, tRevT, q_eqDE, q_reprXN, tDGet0, q_addNI, q_addNB, q_mulNI, q_mulNB, q_reprZN, q_reprZS, q_reprZL, q_reprZI, q_reprZB, q_eqL0, tFldD, sFldD, tMethC, tMakeC, tDictM, tDGetM, tDInM, sDPutM, q_insAt, q_dctAt, q_keyI, q_keyS, q_lenMd, q_lenMs, q_lenMv, q_lenI, tRevA, q_mulGI, q_mulGS, q_mulGL, q_mulGT, q_eqXd, q_eqXi, q_eqXs, q_eqXb, q_eqXn, q_eqXl, q_eqXt, q_inXi, q_inXs, q_inXb, q_inXn, q_inXd, q_inXl, q_inXt, tNeverD, tItV, q_listML, q_listMT, q_listDL, q_listDT, q_ord, q_popAt, q_tupSL, q_tupST, q_tupSS, q_listSS, q_listSL, q_listST, q_reprXS, q_reprXT, q_reprXL, q_reprXs, q_joinAS, q_joinAL, q_joinAT, q_mulZI, q_mulZL, q_sindex, q_rmpre, tCallKD, tCallDf, tIsiT, q_strZS, q_strZI, kitBs, em3])
          refine ⟨by omega, by omega, ?_⟩
          refine chars_comp (N := y.toNat) hu5 (by omega) (by omega) f0 f1 g0 fun cs m' h1 h2 h3 => ?_
          have e9 : (cs.map fun c => W.d (.str ⟨#[c]⟩)) = (cs.map fun c => PyData.str ⟨#[c]⟩).map .d := by rw [List.map_map]; rfl
          rw [e9]
          walk_at "dlsym"
          refine ⟨by rw [one_sum, show (Str.ofString "").length = 0 from rfl, Nat.mul_zero]; omega, ?_⟩
          rw [join0]
          (try simp only [startD_eq, tSeqD, tSetD, tRetD, tRetND, DL.tIfS, tDropD, tAsgD, gSetD, gNameD, tTru, tTst, tNotB, tAndB, tOrB, tVarD, tK, tOp2, tUn1, tAndD, tOrD, tNotD, tIfD, tChainD, tConsD, tNilD, tTupD, tLstD, tLstM, tCallB, tCallD, tMetD, tSlD, tNoD, tPartD, tYesD, tNextD, tFrz, tForD, tItL, tItT, tItS, tItR, tItR2, tCompG, cFrz, cMut, tDict0, tDict1, tAugD, wipeD, mset_same, mset_mset, List.getElem?_cons_zero, List.getElem?_cons_succ, List.set_cons_zero, List.set_cons_succ, List.map_cons, List.map_nil, List.length_cons, List.length_nil, List.append_nil, List.nil_append, List.cons_append, List.replicate_succ, List.replicate_zero, Nat.sub_self, Nat.reduceSub, Nat.reduceAdd, if_true, if_false, reduceCtorEq, Bool.false_eq_true, Nat.zero_add, true_and, Bool.not_true, Bool.not_false, Bool.false_xor, ↓reduceIte, q_addI, q_addS, q_addL, q_addT, q_sub, q_mulI, q_mulL, q_mulT, q_num, q_neg, q_cmpI, q_cmpS, q_eq, q_ne, q_isN, q_isB, q_inSc, q_inT, q_inL, q_inAS, q_inAN, q_inAB, q_inAI, q_inAL, q_inAT, q_inAD, q_ixL, q_ixT, q_ixS, q_ixM, q_onS, q_slL, q_slT, q_slS, q_slX, q_truN, q_truB, q_truI, q_truS, q_truL, q_truT, q_lenS, q_lenL, q_lenT, q_lenX, q_int2, q_abs, q_all, q_any, q_sum, q_isi, q_reprL, q_reprT, q_apd, q_ext, q_joinL, q_split, q_str1, q_tyS, q_tyL, q_tyM, q_asD, q_asD0, q_asDc, q_at0, q_at1, q_at2, q_n0, q_n1, q_n2, q_tyN, q_tyB, q_tyI, q_tyS2, q_tyL2, q_tyT2, q_tyD2, k_ss, k_ns, k_bs, k_is_, k_ls, k_ts, k_ds, k_nt, k_bt, k_it, k_st, k_lt, k_tt, k_dt, k_ni, k_bi, k_ii, k_si, k_li, k_ti, k_di, k_nb, k_bb, k_ib, k_sb, k_lb, k_tb, k_db, q_bools, q_strs, q_ints, q_bools0, q_strs0, q_ints0, q_asDd, sizeLit, Nat.reduceLeDiff, Nat.reduceLT, Int.reduceLE, Int.reduceLT, Int.reducePow, Int.reduceNeg, Nat.reducePow, Int.reduceToNat, Int.reduceSub, Int.reduceAdd, and_true, implies_true, PyData.plain, PyData.plainAll, PyData.showable, PyData.showableAll, PyData.depth, PyData.depthAll, Bool.and_self, Bool.and_true, Bool.true_and, Nat.max_self, Nat.min_self, Nat.reduceLeDiff, Nat.zero_le, q_mulXI, q_mulXS, q_mulXL, q_mulXT, q_str, q_int, q_step, tTab, tJsD, tFmtD, tRevD, q_revL, q_revM, tParD, q_joinS, q_reprGN, q_reprGT, q_reprGL, q_eqVv, q_neVv, q_vwd, q_vws, q_vws0, q_isiV, q_tyNd, q_tyNs, q_reprVN, q_reprVT, q_reprVL, tStarD, q_seqT, q_seqL, tCompP, tItET, tItEL, tTabD, q_pop0, q_pop, q_revMD, q_tupofL, q_tupofT, q_atc0, q_atc1, q_atc2, q_atc3, q_atc4, or_self, or_true, true_or, false_or, or_false, q_lenM, q_asDapp, q_gTup2, q_gTup3, kk_NoneType_list, kk_NoneType_dict, kk_bool_list, kk_bool_dict, kk_int_list, kk_int_dict, kk_str_list, kk_str_dict, kk_list_list, kk_list_dict, kk_tuple_list, kk_tuple_dict, kk_dict_list, kk_dict_dict, q_eqSS, q_eqII, q_mulYI, q_mulYS, q_mulYL, q_mulYT, q_tyNu, tTupM, tFrzE, q_frzd, q_extT, q_clr, q_intGb, q_intGi, q_intGs, tDGetD, tDictD, dvals, dzip, tRevT, q_eqDE, q_reprXN, tDGet0, q_addNI, q_addNB, q_mulNI, q_mulNB, q_reprZN, q_reprZS, q_reprZL, q_reprZI, q_reprZB, q_eqL0, tFldD, sFldD, tMethC, tMakeC, tDictM, tDGetM, tDInM, sDPutM, q_insAt, q_dctAt, q_keyI, q_keyS, q_lenMd, q_lenMs, q_lenMv, q_lenI, tRevA, q_mulGI, q_mulGS, q_mulGL, q_mulGT, q_eqXd, q_eqXi, q_eqXs, q_eqXb, q_eqXn, q_eqXl, q_eqXt, q_inXi, q_inXs, q_inXb, q_inXn, q_inXd, q_inXl, q_inXt, tNeverD, tItV, q_listML, q_listMT, q_listDL, q_listDT, q_ord, q_popAt, q_tupSL, q_tupST, q_tupSS, q_listSS, q_listSL, q_listST, q_reprXS, q_reprXT, q_reprXL, q_reprXs, q_joinAS, q_joinAL, q_joinAT, q_mulZI, q_mulZL, q_sindex, q_rmpre, tCallKD, tCallDf, tIsiT, q_strZS, q_strZI, kitBs, em3])
          exact ⟨by simp only [List.length_map] at hl ⊢; omega, fin cs m' _ _ _ (by omega) h2 (fun z => absurd z e) (h3.mono (by omega))⟩
    · rintro ρ _ ⟨acc, m3, x8, x9, x10, hu3, hl, ha, rfl, rfl⟩
      have hl : acc.length = k.toNat := by simpa using hl
      have em3 : mset (mset μ p (.lst (acc.map .d))) a m3 p = some (.lst (acc.map .d)) := (mset_ne (Ne.symm hpa)).trans mset_same
      have ed := dats_map acc
      simp only [tFrz, List.getElem?_cons_zero, List.getElem?_cons_succ, em3, ed]
      rw [mdel_two hp hpa]
      walk_at "dlsym"
      rw [eqv_str]
      have hu4 : IsUrn (n + 2 ^ 20) m3 := hu3.mono (by omega)
      rcases ha with ⟨rfl, ns, rfl, hns⟩ | ⟨hne, ts, rfl, hts⟩
      · rw [if_neg (by decide +kernel)]
        walk_at "dlsym"
        refine q _ m3 (.nt (by rw [List.length_map] at hl; omega) hns) (fun ts e t ht => ?_) (fun z => absurd z (by decide +kernel)) (fun _ => ⟨_, rfl⟩) hu4
        exfalso
        injection e with e
        have : stD t ∈ ns.map ntD := by rw [e]; exact List.mem_map_of_mem ht
        rw [List.mem_map] at this
        obtain ⟨x, _, e⟩ := this
        cases e
      · rw [List.length_map] at hl
        have eb : (kd == Str.ofString "sounds") = false := beq_eq_false_iff_ne.mpr hne
        rw [eb] at q
        by_cases e : kd = Str.ofString "letters"
        · rw [if_pos (by rw [e]; decide +kernel)]
          obtain ⟨l1, l2⟩ := flat_one ts fun t ht => (hts t ht).2.2 e
          have es : ts.map stD = (ts.map mk).map .str := by rw [List.map_map]; rfl
          rw [es]
          walk_at "dlsym"
          refine ⟨by rw [l2, show (Str.ofString "").length = 0 from rfl, Nat.mul_zero]; omega, ?_⟩
          rw [join0L]
          refine q _ m3 (.tx (by omega) fun c hc => ?_) (fun ts e => by cases e) (fun _ => ⟨_, rfl⟩) (fun z => absurd e z) hu4
          rw [List.mem_flatten] at hc
          obtain ⟨t, ht, hc⟩ := hc
          exact (hts t ht).2.1 c hc
        · rw [if_neg (by rw [beq_iff_eq]; exact e)]
          walk_at "dlsym"
          refine q _ m3 (.tp (by omega) fun t ht => ⟨by have := (hts t ht).1; omega, (hts t ht).2.1⟩) (fun ts' e t ht => ?_) (fun z => absurd z e) (fun _ => ⟨_, rfl⟩) hu4
          injection e with e
          rw [← st_inj e] at ht
          exact (hts t ht).1
  · exact h.elim

theorem ok_d_law_signs {P : Program} {w : World} {K : PySem.W.Frag} {mg : Str → Option Value} {base : Heap} (T : Tx w K mg) : FG P w K mg base CX0 2 T.f_d_law_signs T.fd_d_law_signs ["urn", "kind", "many"] (lSp K sp_d_law_signs) := by
  refine fg_data T.F_d_law_signs sc_d_law_signs (fun ws μ R h => ar_d_law_signs h) body_d_law_signs (fun cdv A outer s H E hr hgd => ?_) (fun ws μ R h => rd_d_law_signs h)
  have nd := sc_d_law_signs.nd
  exact (dss_cons (ds_set (ps_set (i := 3) nd rfl (by first | exact Or.inl rfl | exact Or.inr rfl) de_str.pe))
  (dss_cons (ds_set (ps_set (i := 4) nd rfl (by first | exact Or.inl rfl | exact Or.inr rfl) (de_add (de_var 3 (pv 3)) de_str).pe))
  (dss_cons (ds_set (ps_set (i := 5) nd rfl (by first | exact Or.inl rfl | exact Or.inr rfl) (de_ix (de_lst (da_cons de_int (da_cons de_int (da_cons de_int (da_cons de_int da_nil (by rfl)) (by rfl)) (by rfl)) (by rfl))) (de_call (ok_d_law_take T) (hr.mono (by first | decide | omega)) hgd (by rfl) T.m_d_law_take T.F_d_law_take.kp T.b_d_law_take (da_cons (de_var 0 (pv 0)) (da_cons de_int da_nil (by rfl)) (by rfl)) (by decide) (by rfl) (by rfl)) (fun _ _ => rfl)).pe))
  (dss_cons (ds_set (ps_set (i := 6) nd rfl (by first | exact Or.inl rfl | exact Or.inr rfl) (de_call (ok_d_law_take T) (hr.mono (by first | decide | omega)) hgd (by rfl) T.m_d_law_take T.F_d_law_take.kp T.b_d_law_take (da_cons (de_var 0 (pv 0)) (da_cons de_int da_nil (by rfl)) (by rfl)) (by decide) (by rfl) (by rfl)).pe))
  (dss_cons (ds_set (ps_set (i := 7) nd rfl (by first | exact Or.inl rfl | exact Or.inr rfl) (de_lstM da_nil).pe))
  (dss_cons (ds_for (ps_for PassesOwn.never rfl (di_range1 (by rfl) T.z_range (da_cons (de_var 2 (pv 2)) da_nil (by rfl)) (by rfl)).pi (dg_name (pg_name (i := 8) nd rfl (by first | exact Or.inl rfl | exact Or.inr rfl))).pg ((dss_one (ds_if (dt_cmp (op_eqP (u100 hr)) l_eqV (de_var 1 (pv 1)) de_str (nomark _)) (dss_one (ds_expr (ps_expr (de_bm F.plainAttrs_list F.slot_list_append F.type_list_append mt_append l_apd (de_var 7 (pv 7)) (da_cons (de_tup (da_cons (de_call (ok_d_law_take T) (hr.mono (by first | decide | omega)) hgd (by rfl) T.m_d_law_take T.F_d_law_take.kp T.b_d_law_take (da_cons (de_var 0 (pv 0)) (da_cons de_int da_nil (by rfl)) (by rfl)) (by decide) (by rfl) (by rfl)) (da_cons (de_call (ok_d_law_take T) (hr.mono (by first | decide | omega)) hgd (by rfl) T.m_d_law_take T.F_d_law_take.kp T.b_d_law_take (da_cons (de_var 0 (pv 0)) (da_cons de_int da_nil (by rfl)) (by rfl)) (by decide) (by rfl) (by rfl)) da_nil (by rfl)) (by rfl))) da_nil (by rfl)) rfl rfl rfl rfl rfl).pe))) (dss_cons (ds_set (ps_set (i := 9) nd rfl (by first | exact Or.inl rfl | exact Or.inr rfl) de_int.pe))
  (dss_cons (ds_if (dt_cmp (op_neP (u100 hr)) l_neV (de_var 1 (pv 1)) de_str (nomark _)) (dss_one (ds_set (ps_set (i := 9) nd rfl (by first | exact Or.inl rfl | exact Or.inr rfl) (de_call (ok_d_law_take T) (hr.mono (by first | decide | omega)) hgd (by rfl) T.m_d_law_take T.F_d_law_take.kp T.b_d_law_take (da_cons (de_var 0 (pv 0)) (da_cons (de_ix (de_lst (da_cons de_int (da_cons de_int (da_cons de_int (da_cons de_int da_nil (by rfl)) (by rfl)) (by rfl)) (by rfl))) (de_call (ok_d_law_take T) (hr.mono (by first | decide | omega)) hgd (by rfl) T.m_d_law_take T.F_d_law_take.kp T.b_d_law_take (da_cons (de_var 0 (pv 0)) (da_cons de_int da_nil (by rfl)) (by rfl)) (by decide) (by rfl) (by rfl)) (fun _ _ => rfl)) da_nil (by rfl)) (by rfl)) (by decide) (by rfl) (by rfl)).pe))) dss_nil)
  (dss_one (ds_expr (ps_expr (de_bm F.plainAttrs_list F.slot_list_append F.type_list_append mt_append l_apd (de_var 7 (pv 7)) (da_cons (de_bm F.plainAttrs_str F.slot_str_join F.type_str_join (mt_joinA rfl) l_joinA de_str (da_cons (de_lc (pe_lc (own := [("j", 10)]) (g := gName 10) (by rfl) nd (di_range1 (by rfl) T.z_range (da_cons (de_var 9 (pv 9)) da_nil (by rfl)) (by rfl)).pi (blkOk_by (own := [("j", 10)]) (N := N_d_law_signs) (sc := defScope s_d_law_signs) (by decide +kernel)) (fun _ _ _ _ _ => pg_name (i := 10) nd rfl (by first | exact Or.inl rfl | exact Or.inr rfl)) (fun _ _ _ _ _ => (dts_nil : DTs _ _ tYesD).pts) (fun _ _ _ _ _ => ((de_ix (de_var 4 (pv 4)) (de_op op_modN l_num (de_add (de_var 6 (pv 6)) (de_call (ok_d_law_take T) (hr.mono (by first | decide | omega)) hgd (by rfl) T.m_d_law_take T.F_d_law_take.kp T.b_d_law_take (da_cons (de_var 0 (pv 0)) (da_cons (de_var 5 (pv 5)) da_nil (by rfl)) (by rfl)) (by decide) (by rfl) (by rfl))) de_int) (fun _ _ => rfl)) : DE _ _ ce1_d_law_signs).pe)) cFrz_ok (by decide)) da_nil (by rfl)) rfl rfl rfl rfl rfl) da_nil (by rfl)) rfl rfl rfl rfl rfl).pe))))))) : DSs _ _ lp1_d_law_signs).pss))
  (dss_frz 7 (dss_one (ds_ret (de_if (dt_cmp (op_eqP (u100 hr)) l_eqV (de_var 1 (pv 1)) de_str (nomark _)) (de_bm F.plainAttrs_str F.slot_str_join F.type_str_join (mt_joinA rfl) l_joinA de_str (da_cons (de_var 7 (pv 7)) da_nil (by rfl)) rfl rfl rfl rfl rfl) (de_callT (call_tupA rfl) l_tupofS (by rfl) T.z_tuple (by decide +kernel) (da_cons (de_var 7 (pv 7)) da_nil (by rfl)) (by decide) (by decide) (by rfl) (by rfl))))))))))))
def sp_d_law_seal : DSp := fun ws μ R => spSeal ws μ R ∨ match ws with
  | [.d t, .d n, .d o, .d sg] => NumB t ∧ NumB n ∧ NumB o ∧ OddSg sg ∧ ∀ v : Int, 0 ≤ v → v < 999983 → R (.d (.int v)) μ
  | _ => False
theorem ar_d_law_seal {ws : List W} {μ : M} {R : DQ} (h : sp_d_law_seal ws μ R) : ws.length = 4 := by
  rcases h with h | h
  · exact spSeal_len h
  · split at h
    · rfl
    · exact h.elim

def lp1_d_law_seal : DTS := (tSetD 7 (tOp2 modD (tOp2 addN (tOp2 mulN (tK (.d (.int 131))) (tVarD 7)) (tCallB ordD (tConsD (tVarD 8) tNilD))) (tK (.d (.int 999983)))))
def lp2_d_law_seal : DTS := (tSeqD (tSetD 7 (tK (.d (.int 7))))
  (tSeqD (DL.tIfS (tTru (tIsiT ["tuple", "list"] (tVarD 6))) (tSetD 7 (tOp2 addN (tOp2 mulN (tK (.d (.int 10))) (tOp2 ixD (tVarD 6) (tK (.d (.int 0))))) (tOp2 ixD (tVarD 6) (tK (.d (.int 1)))))) (DL.tIfS (tTst (tOp2 eqV (tCallB lenD (tConsD (tVarD 6) tNilD)) (tK (.d (.int 1))))) (tSetD 7 (tCallB ordD (tConsD (tVarD 6) tNilD))) (tForD (tItS (tVarD 6)) (gNameD 8) lp1_d_law_seal)))
  (tDropD (tMetD "list" apdD (tVarD 5) (tConsD (tVarD 7) tNilD)))))
def lp3_d_law_seal : DTS := (tSetD 4 (tOp2 modD (tOp2 addN (tOp2 addN (tOp2 mulN (tK (.d (.int 131))) (tVarD 4)) (tVarD 8)) (tK (.d (.int 7)))) (tK (.d (.int 999983)))))
def body_d_law_seal : DTS := (tSeqD (tSetD 4 (tVarD 0))
  (tSeqD (tSetD 5 (tLstM (tConsD (tVarD 1) (tConsD (tVarD 2) tNilD))))
  (tSeqD (tForD (tItV 3) (gNameD 6) lp2_d_law_seal)
  (tFrz 5 (tSeqD (tForD (tItL (tVarD 5)) (gNameD 8) lp3_d_law_seal)
  (tRetD (tVarD 4)))))))
theorem seal_old {ws : List W} {μ : M} {R : DQ} (h : spSeal ws μ R) : body_d_law_seal { nx := fun _ μ' => R (.d .none) μ', rt := R } (startD N_d_law_seal.length ws) μ := by
  change spSeal ws μ R at h
  unfold spSeal at h
  split at h
  · rename_i t n o sg
    obtain ⟨l, hs, gok, hl, t0, t1, q⟩ := h
    unfold body_d_law_seal
    have hs2 : ∃ ws : List W, ws = l.map (fun g => W.d g.D) ∧ ((∃ z : Str, sg = .str z ∧ ws = DL.signs z) ∨ ∃ ds, sg = .tuple ds ∧ ws = ds.map .d) := by
      refine ⟨_, rfl, ?_⟩
      rcases hs with ⟨z, rfl, rfl⟩ | rfl
      · exact .inl ⟨z, rfl, by rw [signs_eq, List.map_map]; rfl⟩
      · exact .inr ⟨_, rfl, by rw [List.map_map]; rfl⟩
    obtain ⟨ws, ew, hs2⟩ := hs2
    rcases hs2 with ⟨z, rfl, ez⟩ | ⟨ds, rfl, ez⟩
    all_goals
      walk_at "dlsym"
      intro p hp
      rw [← ez, ew]
      refine loopD_inv (fun r ρ μ' => ∃ (done rest : List Sgn) (x1 x2 x3 x6 x7 x8 : Option W), l = done ++ rest ∧ r = rest.map (fun g => W.d g.D) ∧ ρ = [some (.d (.int t)), x1, x2, x3, some (.d (.int t)), some (.v (.ref p)), x6, x7, x8] ∧ μ' = mset μ p (.lst ((n :: o :: done.map Sgn.num).map fun k => W.d (.int k)))) ?_ ?_ ?_
      · exact ⟨[], l, _, _, _, _, _, _, rfl, rfl, rfl, rfl⟩
      · rintro w r ρ _ Z ⟨done, rest, x1, x2, x3, x6, x7, x8, el, e1, rfl, rfl⟩ hZ
        cases rest with
        | nil => cases e1
        | cons g rest =>
          rw [List.map_cons] at e1
          injection e1 with e1 e2
          subst e1
          have hg := gok g (by rw [el]; simp)
          have hlen : done.length + 2 < 16777216 := by rw [el, List.length_append] at hl; omega
          have fin : ∀ x6 x7 x8 : Option W, Z [some (.d (.int t)), x1, x2, x3, some (.d (.int t)), some (.v (.ref p)), x6, x7, x8] (mset μ p (.lst (((n :: o :: done.map Sgn.num).map fun k => W.d (.int k)) ++ [W.d (.int g.num)]))) := fun x6 x7 x8 =>
            hZ _ _ ⟨done ++ [g], rest, _, _, _, _, _, _, by rw [el]; simp, e2, rfl, by simp⟩
          unfold lp2_d_law_seal
          cases g with
          | nt i j =>
            obtain ⟨i0, i9, j0, j9⟩ := hg
            simp only [Sgn.D]
            walk_at "dlsym"
            refine ⟨cmulW (a := 8) (b := 8) (by decide) (natAbs_lt i0 (by omega)) (by decide), by simp; omega, fin _ _ _⟩
          | tx s =>
            have hs : s.length ≤ 10000 := hg
            have fin : ∀ x6 x7 x8 : Option W, Z [some (.d (.int t)), x1, x2, x3, some (.d (.int t)), some (.v (.ref p)), x6, x7, x8] (mset μ p (.lst (((n :: o :: done.map Sgn.num).map fun k => W.d (.int k)) ++ [W.d (.int (numS s))]))) := fin
            unfold numS at fin
            simp only [Sgn.D]
            walk_at "dlsym"
            rw [eqv_int]
            by_cases e : s.length = 1
            · rw [if_pos e] at fin
              rw [if_pos (by rw [e]; rfl)]
              walk_at "dlsym"
              exact ⟨by omega, e, by simp; omega, fin _ _ _⟩
            · rw [if_neg e] at fin
              rw [if_neg (by rw [beq_iff_eq]; omega)]
              walk_at "dlsym"
              rw [signs_eq]
              refine ⟨by omega, ?_⟩
              refine loopD_inv (fun r ρ μ' => μ' = mset μ p (.lst ((n :: o :: done.map Sgn.num).map fun k => W.d (.int k))) ∧ ∃ (cs : List Nat) (x : Int) (x6 x8 : Option W), r = cs.map (fun c => W.d (.str ⟨#[c]⟩)) ∧ ρ = [some (.d (.int t)), x1, x2, x3, some (.d (.int t)), some (.v (.ref p)), x6, some (.d (.int x)), x8] ∧ 0 ≤ x ∧ x < 2 ^ 60 ∧ hashL cs x = hashL (cd s) 7) ?_ ?_ ?_
              · exact ⟨rfl, _, 7, _, _, rfl, rfl, by decide, by decide, rfl⟩
              · rintro w r ρ μ1 Z2 ⟨rfl, cs, x, x6, x8, e1, rfl, x0, x1', eq⟩ hZ2
                cases cs with
                | nil => cases e1
                | cons c cs =>
                  rw [List.map_cons] at e1
                  injection e1 with e1 e3
                  subst e1
                  unfold lp1_d_law_seal
                  walk_at "dlsym"
                  have f := fmod_bd (131 * x + (c : Int)) (j := 999983) (by decide)
                  refine ⟨mul131 x0 x1', one_len c, by decide, ?_⟩
                  exact hZ2 _ _ ⟨rfl, cs, _, _, _, e3, rfl, f.1, by have := f.2; show (131 * x + (c : Int)).fmod 999983 < _; omega, eq⟩
              · rintro ρ μ1 ⟨rfl, cs, x, x6, x8, e1, rfl, x0, x1', eq⟩
                cases cs with
                | cons c cs => cases e1
                | nil =>
                  have : x = hashL (cd s) 7 := eq
                  rw [this]
                  walk_at "dlsym"
                  exact ⟨by simp; omega, fin _ _ _⟩
      · rintro ρ _ ⟨done, rest, x1, x2, x3, x6, x7, x8, el, e1, rfl, rfl⟩
        cases rest with
        | cons g rest => cases e1
        | nil =>
          rw [List.append_nil] at el
          subst el
          have e5 : ((n :: o :: l.map Sgn.num).map fun k => W.d (.int k)) = ((n :: o :: l.map Sgn.num).map PyData.int).map .d := by rw [List.map_map]; rfl
          rw [e5]
          have ed := dats_map ((n :: o :: l.map Sgn.num).map PyData.int)
          have em : mset μ p (.lst (((n :: o :: l.map Sgn.num).map PyData.int).map .d)) p = _ := mset_same
          simp only [tFrz, List.getElem?_cons_zero, List.getElem?_cons_succ, em, ed]
          rw [mdel_mset hp]
          simp only [tSeqD, tForD, tItL, tVarD, List.getElem?_cons_zero, List.getElem?_cons_succ, List.set_cons_zero, List.set_cons_succ]
          unfold asD
          simp only [ed]
          rw [← e5]
          refine loopD_inv (fun r ρ μ' => μ' = μ ∧ ∃ (ks : List Int) (x : Int) (a b c d f g h i : Option W), r = ks.map (fun k => W.d (.int k)) ∧ ρ = [a, b, c, d, some (.d (.int x)), f, g, h, i] ∧ 0 ≤ x ∧ x < 2 ^ 60 ∧ sealZ x ks = sealZ t (n :: o :: l.map Sgn.num)) ?_ ?_ ?_
          · exact ⟨rfl, _, t, _, _, _, _, _, _, _, _, rfl, rfl, t0, t1, rfl⟩
          · rintro w r ρ μ1 Z ⟨rfl, ks, x, a, b, c, d, f, g, h, i, e1, rfl, x0, x1, eq⟩ hZ
            cases ks with
            | nil => cases e1
            | cons k ks =>
              rw [List.map_cons] at e1
              injection e1 with e1 e2
              subst e1
              unfold lp3_d_law_seal
              walk_at "dlsym"
              have fb := fmod_bd (131 * x + k + 7) (j := 999983) (by decide)
              refine ⟨mul131 x0 x1, by decide, ?_⟩
              exact hZ _ _ ⟨rfl, ks, _, _, _, _, _, _, _, _, _, e2, rfl, fb.1, by have := fb.2; show (131 * x + k + 7).fmod 999983 < _; omega, eq⟩
          · rintro ρ μ1 ⟨rfl, ks, x, a, b, c, d, f, g, h, i, e1, rfl, x0, x1, eq⟩
            cases ks with
            | cons k ks => cases e1
            | nil =>
              have : x = sealZ t (n :: o :: l.map Sgn.num) := eq
              rw [this]
              walk_at "dlsym"
              exact q
  · exact h.elim
theorem mul131b {i : Int} (h0 : -100000000000000 ≤ i) (h1 : i ≤ 100000000000000) : CMulW 131 i := cmulW (a := 8) (b := 60) (by decide) (by omega) (by decide)
theorem seal_odd {t n o sg : PyData} {μ : M} {R : DQ} (ht : NumB t) (hn : NumB n) (ho : NumB o) (hs : OddSg sg) (q : ∀ v : Int, 0 ≤ v → v < 999983 → R (.d (.int v)) μ) : body_d_law_seal { nx := fun _ μ' => R (.d .none) μ', rt := R } (startD N_d_law_seal.length [.d t, .d n, .d o, .d sg]) μ := by
  have hs2 : ∃ ds : List PyData, ds.length ≤ 10000 ∧ (∀ d ∈ ds, It d) ∧ ((∃ z : Str, sg = .str z ∧ ds.map W.d = DL.signs z) ∨ sg = .tuple ds ∨ sg = .list ds) := by
    cases hs with
    | tx s h h2 =>
      refine ⟨(cd s).map fun c => .str ⟨#[c]⟩, by rw [List.length_map]; exact h, fun d hd => ?_, .inl ⟨s, rfl, by rw [signs_eq, List.map_map]; rfl⟩⟩
      obtain ⟨c, hc, rfl⟩ := List.mem_map.mp hd
      exact .tx _ (by rw [one_len]; decide) (fun c' hc' => by
        have : c' = c := by simpa [cd] using hc'
        rw [this]; exact h2 c hc)
    | tp ds h h2 => exact ⟨ds, h, h2, .inr (.inl rfl)⟩
    | ls ds h h2 => exact ⟨ds, h, h2, .inr (.inr rfl)⟩
  obtain ⟨ds, hl, hi, hs2⟩ := hs2
  unfold body_d_law_seal
  rcases hs2 with ⟨z, rfl, ez⟩ | rfl | rfl
  all_goals
    walk_at "dlsym"
    intro p hp
    (try rw [← ez])
    refine loopD_inv (fun r ρ μ' => ∃ (acc rest : List PyData) (x1 x2 x3 x6 x7 x8 : Option W), r = rest.map W.d ∧ (∀ d ∈ rest, It d) ∧ (∀ d ∈ acc, NumB d) ∧ acc ≠ [] ∧ acc.length + rest.length ≤ 10002 ∧ ρ = [some (.d t), x1, x2, x3, some (.d t), some (.v (.ref p)), x6, x7, x8] ∧ μ' = mset μ p (.lst (acc.map .d))) ?_ ?_ ?_
    · exact ⟨[n, o], ds, _, _, _, _, _, _, rfl, hi, fun d hd => by
        simp only [List.mem_cons, List.not_mem_nil, or_false] at hd
        rcases hd with rfl | rfl
        · exact hn
        · exact ho, by simp, by simp; omega, rfl, rfl⟩
    · rintro w r ρ _ Z ⟨acc, rest, x1, x2, x3, x6, x7, x8, e1, hr, ha, hne, hlen, rfl, rfl⟩ hZ
      cases rest with
      | nil => cases e1
      | cons d rest =>
        rw [List.map_cons] at e1
        injection e1 with e1 e2
        subst e1
        rw [List.length_cons] at hlen
        have fin : ∀ (y : Int) (x6 x7 x8 : Option W), -100000000000000 ≤ y → y ≤ 100000000000000 → Z [some (.d t), x1, x2, x3, some (.d t), some (.v (.ref p)), x6, x7, x8] (mset μ p (.lst (acc.map .d ++ [.d (.int y)]))) := fun y x6 x7 x8 y0 y1 =>
          hZ _ _ ⟨acc ++ [.int y], rest, _, _, _, _, _, _, e2, fun d hd => hr d (List.mem_cons_of_mem _ hd), fun d hd => by
            rcases List.mem_append.mp hd with h | h
            · exact ha d h
            · rw [List.mem_singleton.mp h]; exact .inl ⟨y, rfl, y0, y1⟩, by simp, by rw [List.length_append, List.length_singleton]; omega, rfl, by simp⟩
        have hd := hr d List.mem_cons_self
        clear hZ
        unfold lp2_d_law_seal
        have c10 : ∀ i : Int, -100 ≤ i → i ≤ 100 → CMulW 10 i := fun i h0 h1 => cmulW (a := 8) (b := 8) (by decide) (by omega) (by decide)
        cases hd with
        | tx s hs h2 =>
          walk_at "dlsym"
          rw [eqv_int]
          by_cases e : s.length = 1
          · rw [if_pos (by rw [e]; rfl)]
            walk_at "dlsym"
            refine ⟨by omega, e, by rw [List.length_map]; omega, fin _ _ _ _ ?_ ?_⟩
            · exact Int.le_trans (by decide) (Int.natCast_nonneg _)
            · have := ord_lt h2
              omega
          · rw [if_neg (by rw [beq_iff_eq]; omega)]
            walk_at "dlsym"
            rw [signs_eq]
            refine ⟨by omega, ?_⟩
            refine loopD_inv (fun r ρ μ' => μ' = mset μ p (.lst (acc.map .d)) ∧ ∃ (cs : List Nat) (x : Int) (x6 x8 : Option W), r = cs.map (fun c => W.d (.str ⟨#[c]⟩)) ∧ ρ = [some (.d t), x1, x2, x3, some (.d t), some (.v (.ref p)), x6, some (.d (.int x)), x8] ∧ 0 ≤ x ∧ x < 1000000) ?_ ?_ ?_
            · exact ⟨rfl, _, 7, _, _, rfl, rfl, by decide, by decide⟩
            · rintro w r ρ μ1 Z2 ⟨rfl, cs, x, x6, x8, e1, rfl, x0, x1'⟩ hZ2
              cases cs with
              | nil => cases e1
              | cons c cs =>
                rw [List.map_cons] at e1
                injection e1 with e1 e3
                subst e1
                unfold lp1_d_law_seal
                walk_at "dlsym"
                have f := fmod_bd (131 * x + (c : Int)) (j := 999983) (by decide)
                refine ⟨mul131b (by omega) (by omega), one_len c, by decide, ?_⟩
                exact hZ2 _ _ ⟨rfl, cs, _, _, _, e3, rfl, f.1, by have := f.2; show (131 * x + (c : Int)).fmod 999983 < _; omega⟩
            · rintro ρ μ1 ⟨rfl, cs, x, x6, x8, e1, rfl, x0, x1'⟩
              cases cs with
              | cons c cs => cases e1
              | nil =>
                walk_at "dlsym"
                exact ⟨by rw [List.length_map]; omega, fin _ _ _ _ (by omega) (by omega)⟩
        | tp ha hb =>
          rcases ha with ⟨i, rfl, i0, i1⟩ | ⟨a, rfl⟩ <;> rcases hb with ⟨j, rfl, j0, j1⟩ | ⟨b, rfl⟩
          · walk_at "dlsym"
            exact ⟨c10 i i0 i1, by rw [List.length_map]; omega, fin _ _ _ _ (by omega) (by omega)⟩
          · have := bIn_bd b
            walk_at "dlsym"
            exact ⟨c10 i i0 i1, by rw [List.length_map]; omega, fin _ _ _ _ (by omega) (by omega)⟩
          · have := bIn_bd a
            walk_at "dlsym"
            exact ⟨by rw [List.length_map]; omega, fin _ _ _ _ (by omega) (by omega)⟩
          · have := bIn_bd a
            have := bIn_bd b
            walk_at "dlsym"
            exact ⟨by rw [List.length_map]; omega, fin _ _ _ _ (by omega) (by omega)⟩
        | ls ha hb =>
          rcases ha with ⟨i, rfl, i0, i1⟩ | ⟨a, rfl⟩ <;> rcases hb with ⟨j, rfl, j0, j1⟩ | ⟨b, rfl⟩
          · walk_at "dlsym"
            exact ⟨c10 i i0 i1, by rw [List.length_map]; omega, fin _ _ _ _ (by omega) (by omega)⟩
          · have := bIn_bd b
            walk_at "dlsym"
            exact ⟨c10 i i0 i1, by rw [List.length_map]; omega, fin _ _ _ _ (by omega) (by omega)⟩
          · have := bIn_bd a
            walk_at "dlsym"
            exact ⟨by rw [List.length_map]; omega, fin _ _ _ _ (by omega) (by omega)⟩
          · have := bIn_bd a
            have := bIn_bd b
            walk_at "dlsym"
            exact ⟨by rw [List.length_map]; omega, fin _ _ _ _ (by omega) (by omega)⟩
    · rintro ρ _ ⟨acc, rest, x1, x2, x3, x6, x7, x8, e1, hr, ha, hne, hlen, rfl, rfl⟩
      have ed := dats_map acc
      have em : mset μ p (.lst (acc.map .d)) p = _ := mset_same
      simp only [tFrz, List.getElem?_cons_zero, List.getElem?_cons_succ, em, ed]
      rw [mdel_mset hp]
      simp only [tSeqD, tForD, tItL, tVarD, List.getElem?_cons_zero, List.getElem?_cons_succ, List.set_cons_zero, List.set_cons_succ]
      unfold asD
      simp only [ed]
      refine loopD_inv (fun r ρ μ' => μ' = μ ∧ ∃ (ks : List PyData) (x : PyData) (a b c d f g h i : Option W), r = ks.map W.d ∧ (∀ k ∈ ks, NumB k) ∧ ρ = [a, b, c, d, some (.d x), f, g, h, i] ∧ NumB x ∧ (ks = [] → ∃ v : Int, x = .int v ∧ 0 ≤ v ∧ v < 999983)) ?_ ?_ ?_
      · exact ⟨rfl, acc, t, _, _, _, _, _, _, _, _, rfl, ha, rfl, ht, fun z => absurd z hne⟩
      · rintro w r ρ μ1 Z ⟨rfl, ks, x, a, b, c, d, f, g, h, i, e1, hk, rfl, hx, _⟩ hZ
        cases ks with
        | nil => cases e1
        | cons k ks =>
          rw [List.map_cons] at e1
          injection e1 with e1 e2
          subst e1
          have fin : ∀ y : Int, 0 ≤ y → y < 999983 → ∀ f g h i, Z [a, b, c, d, some (.d (.int y)), f, g, h, i] μ1 := fun y y0 y1 f g h i => hZ _ _ ⟨rfl, ks, .int y, _, _, _, _, _, _, _, _, e2, fun z hz => hk z (List.mem_cons_of_mem _ hz), rfl, .inl ⟨y, rfl, by omega, by omega⟩, fun _ => ⟨y, rfl, y0, y1⟩⟩
          have fb := fun z : Int => fmod_bd z (j := 999983) (by decide)
          unfold lp3_d_law_seal
          rcases hx with ⟨i', rfl, i0, i1⟩ | ⟨a', rfl⟩ <;> rcases hk k List.mem_cons_self with ⟨j, rfl, j0, j1⟩ | ⟨b', rfl⟩
          · walk_at "dlsym"
            exact ⟨mul131b i0 i1, by decide, fin _ (fb _).1 (fb _).2 _ _ _ _⟩
          · walk_at "dlsym"
            exact ⟨mul131b i0 i1, by decide, fin _ (fb _).1 (fb _).2 _ _ _ _⟩
          · walk_at "dlsym"
            exact ⟨by decide, fin _ (fb _).1 (fb _).2 _ _ _ _⟩
          · walk_at "dlsym"
            exact ⟨by decide, fin _ (fb _).1 (fb _).2 _ _ _ _⟩
      · rintro ρ μ1 ⟨rfl, ks, x, a, b, c, d, f, g, h, i, e1, hk, rfl, hx, hv⟩
        cases ks with
        | cons k ks => cases e1
        | nil =>
          obtain ⟨v, rfl, v0, v1⟩ := hv rfl
          walk_at "dlsym"
          exact q v v0 v1
theorem rd_d_law_seal {ws : List W} {μ : M} {R : DQ} (h : sp_d_law_seal ws μ R) : body_d_law_seal { nx := fun _ μ' => R (.d .none) μ', rt := R } (startD N_d_law_seal.length ws) μ := by
  rcases h with h | h
  · exact seal_old h
  · split at h
    · obtain ⟨ht, hn, ho, hs, q⟩ := h
      exact seal_odd ht hn ho hs q
    · exact h.elim

theorem ok_d_law_seal {P : Program} {w : World} {K : PySem.W.Frag} {mg : Str → Option Value} {base : Heap} (T : Tx w K mg) : FG P w K mg base CX0 1 T.f_d_law_seal T.fd_d_law_seal ["ticket", "number", "of", "signs"] (lSp K sp_d_law_seal) := by
  refine fg_data T.F_d_law_seal sc_d_law_seal (fun ws μ R h => ar_d_law_seal h) body_d_law_seal (fun cdv A outer s H E hr hgd => ?_) (fun ws μ R h => rd_d_law_seal h)
  have nd := sc_d_law_seal.nd
  exact (dss_cons (ds_set (ps_set (i := 4) nd rfl (by first | exact Or.inl rfl | exact Or.inr rfl) (de_var 0 (pv 0)).pe))
  (dss_cons (ds_set (ps_set (i := 5) nd rfl (by first | exact Or.inl rfl | exact Or.inr rfl) (de_lstM (da_cons (de_var 1 (pv 1)) (da_cons (de_var 2 (pv 2)) da_nil (by rfl)) (by rfl))).pe))
  (dss_cons (ds_for (ps_for PassesOwn.never rfl (di_any (de_var 3 (pv 3))).pi (dg_name (pg_name (i := 6) nd rfl (by first | exact Or.inl rfl | exact Or.inr rfl))).pg ((dss_cons (ds_set (ps_set (i := 7) nd rfl (by first | exact Or.inl rfl | exact Or.inr rfl) de_int.pe))
  (dss_cons (ds_if (dt_of (de_isiT (Ts := ["tuple", "list"]) (by rfl) T.z_isinstance (by decide +kernel) (de_var 6 (pv 6)) (da_cons (de_ty (T := "tuple") (by rfl) T.z_tuple (by decide +kernel) (by decide) (by decide)) (da_cons (de_ty (T := "list") (by rfl) T.z_list (by decide +kernel) (by decide) (by decide)) da_nil (by rfl)) (by rfl)) (by decide) (by decide) (by decide) (by rfl) (by rfl) (by rfl)) (fun _ => rfl)) (dss_one (ds_set (ps_set (i := 7) nd rfl (by first | exact Or.inl rfl | exact Or.inr rfl) (de_op op_addTF l_addTF (de_op op_mulTF l_mulTF de_int (de_ix (de_var 6 (pv 6)) de_int (fun _ _ => rfl))) (de_ix (de_var 6 (pv 6)) de_int (fun _ _ => rfl))).pe))) (dss_one (ds_if (dt_cmp (op_eqP (u100 hr)) l_eqV (de_callB call_len l_len (by rfl) T.z_len (by decide +kernel) (da_cons (de_var 6 (pv 6)) da_nil (by rfl)) (by decide) (by decide) (by rfl) (by rfl)) de_int (nomark _)) (dss_one (ds_set (ps_set (i := 7) nd rfl (by first | exact Or.inl rfl | exact Or.inr rfl) (de_callB call_ord l_ord (by rfl) T.z_ord (by decide +kernel) (da_cons (de_var 6 (pv 6)) da_nil (by rfl)) (by decide) (by decide) (by rfl) (by rfl)).pe))) (dss_one (ds_for (ps_for PassesOwn.never rfl (di_str (de_var 6 (pv 6))).pi (dg_name (pg_name (i := 8) nd rfl (by first | exact Or.inl rfl | exact Or.inr rfl))).pg ((dss_one (ds_set (ps_set (i := 7) nd rfl (by first | exact Or.inl rfl | exact Or.inr rfl) (de_op op_modN l_num (de_op op_addTF l_addTF (de_op op_mulTF l_mulTF de_int (de_var 7 (pv 7))) (de_callB call_ord l_ord (by rfl) T.z_ord (by decide +kernel) (da_cons (de_var 8 (pv 8)) da_nil (by rfl)) (by decide) (by decide) (by rfl) (by rfl))) de_int).pe))) : DSs _ _ lp1_d_law_seal).pss))))))
  (dss_one (ds_expr (ps_expr (de_bm F.plainAttrs_list F.slot_list_append F.type_list_append mt_append l_apd (de_var 5 (pv 5)) (da_cons (de_var 7 (pv 7)) da_nil (by rfl)) rfl rfl rfl rfl rfl).pe))))) : DSs _ _ lp2_d_law_seal).pss))
  (dss_frz 5 (dss_cons (ds_for (ps_for PassesOwn.never rfl (di_list (de_var 5 (pv 5))).pi (dg_name (pg_name (i := 8) nd rfl (by first | exact Or.inl rfl | exact Or.inr rfl))).pg ((dss_one (ds_set (ps_set (i := 4) nd rfl (by first | exact Or.inl rfl | exact Or.inr rfl) (de_op op_modN l_num (de_op op_addTF l_addTF (de_op op_addTF l_addTF (de_op op_mulTF l_mulTF de_int (de_var 4 (pv 4))) (de_var 8 (pv 8))) de_int) de_int).pe))) : DSs _ _ lp3_d_law_seal).pss))
  (dss_one (ds_ret (de_var 4 (pv 4)))))))))
def sp_d_law_cut : DSp := fun ws μ R => match ws with
  | [.d (.int t), .d d, .d (.int w)] => ∃ (σ : Sig) (n : Nat), d = σ.D ∧ w = (n : Int) ∧ PtOk t σ n ∧ R (.d (.list (piecesD t n σ))) μ
  | _ => False
theorem ar_d_law_cut {ws : List W} {μ : M} {R : DQ} (h : sp_d_law_cut ws μ R) : ws.length = 3 := by
  unfold sp_d_law_cut at h; split at h
  · rfl
  · exact h.elim

def lp1_d_law_cut : DTS := (tSeqD (tSetD 6 (tSlD (tSlD (tVarD 1) (tPartD (tOp2 mulZ (tVarD 5) (tVarD 2))) tNoD) tNoD (tPartD (tVarD 2))))
  (tDropD (tMetD "list" apdD (tVarD 4) (tConsD (tTupD (tConsD (tVarD 0) (tConsD (tVarD 5) (tConsD (tVarD 3) (tConsD (tCallD sp_d_law_seal (tConsD (tVarD 0) (tConsD (tVarD 5) (tConsD (tVarD 3) (tConsD (tVarD 6) tNilD))))) (tConsD (tVarD 6) tNilD)))))) tNilD))))
def body_d_law_cut : DTS := (tSeqD (tSetD 3 (tCallB max2D (tConsD (tK (.d (.int 1))) (tConsD (tOp2 divD (tOp2 subD (tOp2 addD (tCallB lenD (tConsD (tVarD 1) tNilD)) (tVarD 2)) (tK (.d (.int 1)))) (tVarD 2)) tNilD))))
  (tSeqD (tSetD 4 (tLstM tNilD))
  (tSeqD (tForD (tItR (tConsD (tVarD 3) tNilD)) (gNameD 5) lp1_d_law_cut)
  (tFrz 4 (tRetD (tVarD 4))))))
theorem rd_d_law_cut {ws : List W} {μ : M} {R : DQ} (h : sp_d_law_cut ws μ R) : body_d_law_cut { nx := fun _ μ' => R (.d .none) μ', rt := R } (startD N_d_law_cut.length ws) μ := by
  unfold sp_d_law_cut at h
  split at h
  · rename_i t d w
    obtain ⟨σ, w, rfl, rfl, ok, q⟩ := h
    have ok' := ok
    obtain ⟨w0, w1, so, sl, t0, t1⟩ := ok'
    have m1 := many_mul σ w0
    have m2 := many_le σ w0
    unfold body_d_law_cut
    walk_at "dlsym"
    refine len_sig sl ?_
    walk_at "dlsym"
    rw [many_int σ w0]
    refine ⟨cdivW (by omega) (by omega), fun p hp => ⟨by omega, by omega, ?_⟩⟩
    rw [show rangeW 0 (manyP σ w : Int).toNat = (List.range (manyP σ w)).map (fun i : Nat => W.d (.int (i : Int))) by unfold rangeW; simp]
    refine loopD_inv (fun r ρ μ' => ∃ (done rest : List Nat) (x5 x6 : Option W), List.range (manyP σ w) = done ++ rest ∧ r = rest.map (fun i : Nat => W.d (.int (i : Int))) ∧ ρ = [some (.d (.int t)), some (.d σ.D), some (.d (.int w)), some (.d (.int (manyP σ w))), some (.v (.ref p)), x5, x6] ∧ μ' = mset μ p (.lst ((done.map (pieceD t (manyP σ w) w σ)).map .d))) ?_ ?_ ?_
    · exact ⟨[], _, _, _, rfl, rfl, rfl, rfl⟩
    · rintro x r ρ _ Z ⟨done, rest, x5, x6, el, e1, rfl, rfl⟩ hZ
      cases rest with
      | nil => cases e1
      | cons i rest =>
        rw [List.map_cons] at e1
        injection e1 with e1 e2
        subst e1
        have hi : i < manyP σ w := List.mem_range.mp (by rw [el]; simp)
        have hd : done.length ≤ manyP σ w := by have := congrArg List.length el; rw [List.length_range, List.length_append] at this; omega
        have cl := σ.cut_len (i * w) w
        unfold lp1_d_law_cut
        walk_at "dlsym"
        refine ⟨cmulW (a := 13) (b := 8) (natAbs_lt (by omega) (by omega)) (natAbs_lt (by omega) (by omega)) (by decide), ?_⟩
        rw [show (i : Int) * (w : Int) = ((i * w : Nat) : Int) from (Int.natCast_mul i w).symm]
        refine sl_two sl ?_
        walk_at "dlsym"
        refine .inl ⟨(σ.cut (i * w) w).L, Sig.sg _, Sig.oks (Sig.cut_ok so _ _), by rw [Sig.L_len]; omega, t0, by omega, ?_⟩
        walk_at "dlsym"
        refine ⟨by simp only [List.length_map]; omega, hZ _ _ ⟨done ++ [i], rest, _, _, by rw [el]; simp, e2, rfl, ?_⟩⟩
        rw [List.map_append, List.map_append]
        rfl
    · rintro ρ _ ⟨done, rest, x5, x6, el, e1, rfl, rfl⟩
      cases rest with
      | cons g rest => cases e1
      | nil =>
        rw [List.append_nil] at el
        have ed := dats_map ((done.map (pieceD t (manyP σ w) w σ)))
        have em : mset μ p (.lst ((done.map (pieceD t (manyP σ w) w σ)).map .d)) p = _ := mset_same
        simp only [tFrz, List.getElem?_cons_zero, List.getElem?_cons_succ, em, ed]
        rw [mdel_mset hp]
        walk_at "dlsym"
        rw [← el]
        exact q
  · exact h.elim

theorem ok_d_law_cut {P : Program} {w : World} {K : PySem.W.Frag} {mg : Str → Option Value} {base : Heap} (T : Tx w K mg) : FG P w K mg base CX0 2 T.f_d_law_cut T.fd_d_law_cut ["ticket", "signs", "wide"] (lSp K sp_d_law_cut) := by
  refine fg_data T.F_d_law_cut sc_d_law_cut (fun ws μ R h => ar_d_law_cut h) body_d_law_cut (fun cdv A outer s H E hr hgd => ?_) (fun ws μ R h => rd_d_law_cut h)
  have nd := sc_d_law_cut.nd
  exact (dss_cons (ds_set (ps_set (i := 3) nd rfl (by first | exact Or.inl rfl | exact Or.inr rfl) (de_callB (call_max2 rfl) l_int2 (by rfl) T.z_max (by decide +kernel) (da_cons de_int (da_cons (de_op op_fdivW l_num (de_op op_sub l_sub (de_add (de_callB call_len l_len (by rfl) T.z_len (by decide +kernel) (da_cons (de_var 1 (pv 1)) da_nil (by rfl)) (by decide) (by decide) (by rfl) (by rfl)) (de_var 2 (pv 2))) de_int) (de_var 2 (pv 2))) da_nil (by rfl)) (by rfl)) (by decide) (by decide) (by rfl) (by rfl)).pe))
  (dss_cons (ds_set (ps_set (i := 4) nd rfl (by first | exact Or.inl rfl | exact Or.inr rfl) (de_lstM da_nil).pe))
  (dss_cons (ds_for (ps_for PassesOwn.never rfl (di_range1 (by rfl) T.z_range (da_cons (de_var 3 (pv 3)) da_nil (by rfl)) (by rfl)).pi (dg_name (pg_name (i := 5) nd rfl (by first | exact Or.inl rfl | exact Or.inr rfl))).pg ((dss_cons (ds_set (ps_set (i := 6) nd rfl (by first | exact Or.inl rfl | exact Or.inr rfl) (de_sl (de_sl (de_var 1 (pv 1)) (do_some (de_op op_mulZ l_mulZ (de_var 5 (pv 5)) (de_var 2 (pv 2)))) do_none) do_none (do_some (de_var 2 (pv 2)))).pe))
  (dss_one (ds_expr (ps_expr (de_bm F.plainAttrs_list F.slot_list_append F.type_list_append mt_append l_apd (de_var 4 (pv 4)) (da_cons (de_tup (da_cons (de_var 0 (pv 0)) (da_cons (de_var 5 (pv 5)) (da_cons (de_var 3 (pv 3)) (da_cons (de_call (ok_d_law_seal T) (hr.mono (by first | decide | omega)) hgd (by rfl) T.m_d_law_seal T.F_d_law_seal.kp T.b_d_law_seal (da_cons (de_var 0 (pv 0)) (da_cons (de_var 5 (pv 5)) (da_cons (de_var 3 (pv 3)) (da_cons (de_var 6 (pv 6)) da_nil (by rfl)) (by rfl)) (by rfl)) (by rfl)) (by decide) (by rfl) (by rfl)) (da_cons (de_var 6 (pv 6)) da_nil (by rfl)) (by rfl)) (by rfl)) (by rfl)) (by rfl))) da_nil (by rfl)) rfl rfl rfl rfl rfl).pe)))) : DSs _ _ lp1_d_law_cut).pss))
  (dss_frz 4 (dss_one (ds_ret (de_var 4 (pv 4))))))))
def sp_d_law_ticket : DSp := fun ws μ R => match ws with
  | [.v (.ref a)] => ∃ n m, μ a = some m ∧ IsUrn n m ∧ n ≤ 2 ^ 50 ∧ ∀ t m', 0 ≤ t → t ≤ 1000000000 → IsUrn (n + 10) m' → R (.d (.int t)) (mset μ a m')
  | _ => False
theorem ar_d_law_ticket {ws : List W} {μ : M} {R : DQ} (h : sp_d_law_ticket ws μ R) : ws.length = 1 := by
  unfold sp_d_law_ticket at h; split at h
  · rfl
  · exact h.elim

def body_d_law_ticket : DTS := (tSeqD (tSetD 1 (tCallD sp_d_law_take (tConsD (tVarD 0) (tConsD (tK (.d (.int 4))) tNilD))))
  (tSeqD (tSetD 2 (tOp2 addD (tOp2 mulZ (tCallD sp_d_law_take (tConsD (tVarD 0) (tConsD (tOp2 powD (tK (.d (.int 10))) (tK (.d (.int 5)))) tNilD))) (tOp2 powD (tK (.d (.int 10))) (tK (.d (.int 4))))) (tCallD sp_d_law_take (tConsD (tVarD 0) (tConsD (tOp2 powD (tK (.d (.int 10))) (tK (.d (.int 4)))) tNilD)))))
  (tRetD (tOp2 ixD (tLstD (tConsD (tCallD sp_d_law_take (tConsD (tVarD 0) (tConsD (tK (.d (.int 3))) tNilD))) (tConsD (tVarD 2) (tConsD (tOp2 powD (tK (.d (.int 10))) (tK (.d (.int 9)))) (tConsD (tCallD sp_d_law_take (tConsD (tVarD 0) (tConsD (tK (.d (.int 1000))) tNilD))) tNilD))))) (tVarD 1)))))
theorem rd_d_law_ticket {ws : List W} {μ : M} {R : DQ} (h : sp_d_law_ticket ws μ R) : body_d_law_ticket { nx := fun _ μ' => R (.d .none) μ', rt := R } (startD N_d_law_ticket.length ws) μ := by
  unfold sp_d_law_ticket at h
  split at h
  · rename_i a
    obtain ⟨n, m, em, hu, hn, q⟩ := h
    unfold body_d_law_ticket
    walk_at "dlsym"
    refine ⟨n, m, em, hu, by omega, by decide, by decide, fun w m1 w0 w1 hu1 => ?_⟩
    walk_at "dlsym"
    refine ⟨⟨by decide, by decide, by decide⟩, _, m1, mset_same, hu1, by omega, by decide, by decide, fun x m2 x0 x1 hu2 => ?_⟩
    rw [mset_mset]
    walk_at "dlsym"
    refine ⟨⟨by decide, by decide, by decide⟩, cmulW (a := 20) (b := 20) (natAbs_lt x0 (by omega)) (by decide) (by decide), ⟨by decide, by decide, by decide⟩, _, m2, mset_same, hu2, by omega, by decide, by decide, fun y m3 y0 y1 hu3 => ?_⟩
    rw [mset_mset]
    walk_at "dlsym"
    refine ⟨_, m3, mset_same, hu3, by omega, by decide, by decide, fun z m4 z0 z1 hu4 => ?_⟩
    rw [mset_mset]
    walk_at "dlsym"
    refine ⟨⟨by decide, by decide, by decide⟩, _, m4, mset_same, hu4, by omega, by decide, by decide, fun u m5 u0 u1 hu5 => ?_⟩
    rw [mset_mset]
    walk_at "dlsym"
    refine onS_at w0 (by simpa using w1) fun c hc => ?_
    simp only [List.mem_cons, List.not_mem_nil, or_false] at hc
    rcases hc with rfl | rfl | rfl | rfl <;> exact q _ _ (by omega) (by omega) (hu5.mono (by omega))
  · exact h.elim

theorem ok_d_law_ticket {P : Program} {w : World} {K : PySem.W.Frag} {mg : Str → Option Value} {base : Heap} (T : Tx w K mg) : FG P w K mg base CX0 2 T.f_d_law_ticket T.fd_d_law_ticket ["urn"] (lSp K sp_d_law_ticket) := by
  refine fg_data T.F_d_law_ticket sc_d_law_ticket (fun ws μ R h => ar_d_law_ticket h) body_d_law_ticket (fun cdv A outer s H E hr hgd => ?_) (fun ws μ R h => rd_d_law_ticket h)
  have nd := sc_d_law_ticket.nd
  exact (dss_cons (ds_set (ps_set (i := 1) nd rfl (by first | exact Or.inl rfl | exact Or.inr rfl) (de_call (ok_d_law_take T) (hr.mono (by first | decide | omega)) hgd (by rfl) T.m_d_law_take T.F_d_law_take.kp T.b_d_law_take (da_cons (de_var 0 (pv 0)) (da_cons de_int da_nil (by rfl)) (by rfl)) (by decide) (by rfl) (by rfl)).pe))
  (dss_cons (ds_set (ps_set (i := 2) nd rfl (by first | exact Or.inl rfl | exact Or.inr rfl) (de_add (de_op op_mulZ l_mulZ (de_call (ok_d_law_take T) (hr.mono (by first | decide | omega)) hgd (by rfl) T.m_d_law_take T.F_d_law_take.kp T.b_d_law_take (da_cons (de_var 0 (pv 0)) (da_cons (de_op op_pow l_num de_int de_int) da_nil (by rfl)) (by rfl)) (by decide) (by rfl) (by rfl)) (de_op op_pow l_num de_int de_int)) (de_call (ok_d_law_take T) (hr.mono (by first | decide | omega)) hgd (by rfl) T.m_d_law_take T.F_d_law_take.kp T.b_d_law_take (da_cons (de_var 0 (pv 0)) (da_cons (de_op op_pow l_num de_int de_int) da_nil (by rfl)) (by rfl)) (by decide) (by rfl) (by rfl))).pe))
  (dss_one (ds_ret (de_ix (de_lst (da_cons (de_call (ok_d_law_take T) (hr.mono (by first | decide | omega)) hgd (by rfl) T.m_d_law_take T.F_d_law_take.kp T.b_d_law_take (da_cons (de_var 0 (pv 0)) (da_cons de_int da_nil (by rfl)) (by rfl)) (by decide) (by rfl) (by rfl)) (da_cons (de_var 2 (pv 2)) (da_cons (de_op op_pow l_num de_int de_int) (da_cons (de_call (ok_d_law_take T) (hr.mono (by first | decide | omega)) hgd (by rfl) T.m_d_law_take T.F_d_law_take.kp T.b_d_law_take (da_cons (de_var 0 (pv 0)) (da_cons de_int da_nil (by rfl)) (by rfl)) (by decide) (by rfl) (by rfl)) da_nil (by rfl)) (by rfl)) (by rfl)) (by rfl))) (de_var 1 (pv 1)) (fun _ _ => rfl))))))
def sp_d_law_is_piece : DSp := fun ws μ R => match ws with
  | [.d (.str kd), .d x] => Fit2 x ∧ R (.d (.bool (pieceB kd x))) μ
  | _ => False
theorem ar_d_law_is_piece {ws : List W} {μ : M} {R : DQ} (h : sp_d_law_is_piece ws μ R) : ws.length = 2 := by
  unfold sp_d_law_is_piece at h; split at h
  · rfl
  · exact h.elim

def ct1_d_law_is_piece : DTT := (tOrB (tNotB (tTru (tCallB isiV (tConsD (tVarD 3) (tConsD (tK (.v (.ty "int"))) tNilD))))) (tOrB (tTru (tCallB isiV (tConsD (tVarD 3) (tConsD (tK (.v (.ty "bool"))) tNilD)))) (tTst (tOp2 ltD (tVarD 3) (tK (.d (.int 0)))))))
def ct2_d_law_is_piece : DTT := (tOrB (tNotB (tTru (tCallB isiV (tConsD (tVarD 3) (tConsD (tK (.v (.ty "int"))) tNilD))))) (tOrB (tTru (tCallB isiV (tConsD (tVarD 3) (tConsD (tK (.v (.ty "bool"))) tNilD)))) (tTst (tOp2 ltD (tVarD 3) (tK (.d (.int 0)))))))
def ct3_d_law_is_piece : DTT := (tOrB (tNotB (tTru (tCallB isiV (tConsD (tVarD 3) (tConsD (tK (.v (.ty "int"))) tNilD))))) (tOrB (tTru (tCallB isiV (tConsD (tVarD 3) (tConsD (tK (.v (.ty "bool"))) tNilD)))) (tTst (tOp2 ltD (tVarD 3) (tK (.d (.int 0)))))))
def ct4_d_law_is_piece : DTT := (tNotB (tTru (tCallB isiV (tConsD (tVarD 3) (tConsD (tK (.v (.ty "str"))) tNilD)))))
def ct5_d_law_is_piece : DTT := (tOrB (tNotB (tTru (tCallB isiV (tConsD (tVarD 3) (tConsD (tK (.v (.ty "int"))) tNilD))))) (tOrB (tTru (tCallB isiV (tConsD (tVarD 3) (tConsD (tK (.v (.ty "bool"))) tNilD)))) (tNotB (tTst (tChainD leD leD (tK (.d (.int 0))) (tVarD 3) (tK (.d (.int 9))))))))
def ct6_d_law_is_piece : DTT := (tOrB (tNotB (tTru (tCallB isiV (tConsD (tVarD 3) (tConsD (tK (.v (.ty "int"))) tNilD))))) (tOrB (tTru (tCallB isiV (tConsD (tVarD 3) (tConsD (tK (.v (.ty "bool"))) tNilD)))) (tNotB (tTst (tChainD leD leD (tK (.d (.int 0))) (tVarD 3) (tK (.d (.int 9))))))))
def ct7_d_law_is_piece : DTT := (tOrB (tNotB (tTru (tCallB isiV (tConsD (tVarD 3) (tConsD (tK (.v (.ty "int"))) tNilD))))) (tOrB (tTru (tCallB isiV (tConsD (tVarD 3) (tConsD (tK (.v (.ty "bool"))) tNilD)))) (tNotB (tTst (tChainD leD leD (tK (.d (.int 0))) (tVarD 3) (tK (.d (.int 9))))))))
def lp1_d_law_is_piece : DTS := (tSeqD (DL.tIfS (tOrB (tNotB (tTru (tCallB isiV (tConsD (tVarD 2) (tConsD (tK (.v (.ty "tuple"))) tNilD))))) (tTst (tOp2 neV (tCallB lenD (tConsD (tVarD 2) tNilD)) (tK (.d (.int 2)))))) (tRetD (tK (.d (.bool false)))) tNextD)
  (DL.tIfS (tTst (tOp2 neV (tCompG (tItT (tVarD 2)) 3 ct7_d_law_is_piece (tVarD 3) [3] cFrz) (tLstD tNilD))) (tRetD (tK (.d (.bool false)))) tNextD))
def body_d_law_is_piece : DTS := (tSeqD (DL.tIfS (tOrB (tNotB (tTru (tCallB isiV (tConsD (tVarD 1) (tConsD (tK (.v (.ty "tuple"))) tNilD))))) (tTst (tOp2 neV (tCallB lenD (tConsD (tVarD 1) tNilD)) (tK (.d (.int 5)))))) (tRetD (tK (.d (.bool false)))) tNextD)
  (tSeqD (DL.tIfS (tTst (tOp2 neV (tCompG (tItT (tSlD (tVarD 1) tNoD (tPartD (tK (.d (.int 4)))))) 3 ct3_d_law_is_piece (tVarD 3) [3] cFrz) (tLstD tNilD))) (tRetD (tK (.d (.bool false)))) tNextD)
  (tSeqD (DL.tIfS (tOrB (tNotB (tTst (tChainD leD leD (tK (.d (.int 1))) (tOp2 ixD (tVarD 1) (tK (.d (.int 2)))) (tK (.d (.int 20000)))))) (tTst (tOp2 geD (tOp2 ixD (tVarD 1) (tK (.d (.int 1)))) (tOp2 ixD (tVarD 1) (tK (.d (.int 2))))))) (tRetD (tK (.d (.bool false)))) tNextD)
  (tSeqD (DL.tIfS (tTst (tOp2 eqV (tVarD 0) (tK (.d (.str "letters"))))) (tRetD (tCallB isiV (tConsD (tOp2 ixD (tVarD 1) (tK (.d (.int 4)))) (tConsD (tK (.v (.ty "str"))) tNilD)))) tNextD)
  (tSeqD (DL.tIfS (tNotB (tTru (tCallB isiV (tConsD (tOp2 ixD (tVarD 1) (tK (.d (.int 4)))) (tConsD (tK (.v (.ty "tuple"))) tNilD))))) (tRetD (tK (.d (.bool false)))) tNextD)
  (tSeqD (DL.tIfS (tTst (tOp2 neV (tVarD 0) (tK (.d (.str "sounds"))))) (tRetD (tOp2 eqV (tCompG (tItT (tOp2 ixD (tVarD 1) (tK (.d (.int 4))))) 3 ct4_d_law_is_piece (tVarD 3) [3] cFrz) (tLstD tNilD))) tNextD)
  (tSeqD (tForD (tItT (tOp2 ixD (tVarD 1) (tK (.d (.int 4))))) (gNameD 2) lp1_d_law_is_piece)
  (tRetD (tK (.d (.bool true)))))))))))
theorem rd_d_law_is_piece {ws : List W} {μ : M} {R : DQ} (h : sp_d_law_is_piece ws μ R) : body_d_law_is_piece { nx := fun _ μ' => R (.d .none) μ', rt := R } (startD N_d_law_is_piece.length ws) μ := by
  unfold sp_d_law_is_piece at h
  split at h
  · rename_i kd x
    obtain ⟨ft, q⟩ := h
    unfold body_d_law_is_piece
    cases x with
    | tuple ds =>
      obtain ⟨hl, hm⟩ := oks_mem (okd_tup (ft ds rfl))
      walk_at "dlsym"
      by_cases e5 : ds.length = 5
      · obtain ⟨a, b, c, d, e, rfl⟩ := five e5
        rw [show PyData.eqv (.int (([a, b, c, d, e].length : Nat) : Int)) (.int 5) = true from int_eq 5, if_neg (by decide)]
        rw [show cutG [a, b, c, d, e] none (some 4) = [a, b, c, d] from rfl]
        refine compL_map W.d [a, b, c, d] (fun x => !fromB x) (fun x => x) (fun x hx Z h => ?_) (fun x _ _ Z h => h) (by show 0 + 4 ≤ sizeLine; rw [sizeLit]; omega) ?_
        · unfold ct3_d_law_is_piece
          cases x with
          | int i =>
            walk_at "dlsym"
            have eb : (!fromB (.int i)) = decide (i < 0) := by
              show (!decide (0 ≤ i)) = _
              by_cases z : 0 ≤ i
              · rw [decide_eq_true z, decide_eq_false (by omega)]; rfl
              · rw [decide_eq_false z, decide_eq_true (by omega)]; rfl
            rw [eb] at h
            exact h
          | _ => walk_at "dlsym"; exact h
        rw [List.nil_append, List.map_id', asD_map]
        have hp : PyData.plainAll (([a, b, c, d]).filter fun x => !fromB x) = true := plain_mem fun y hy => (hm y (by
          have := (List.mem_filter.mp hy).1
          simp only [List.mem_cons, List.not_mem_nil, or_false] at this ⊢
          rcases this with rfl | rfl | rfl | rfl <;> simp)).plain
        rw [pieceB_5] at q
        walk_at "dlsym"
        rw [eqv_nil, flt_empty]
        refine ⟨hp, by omega, ?_⟩
        cases ef : [a, b, c, d].all fromB with
        | false =>
          rw [ef, Bool.false_and, Bool.false_and] at q
          exact q
        | true =>
          rw [ef, Bool.true_and] at q
          simp only [List.all_cons, List.all_nil, Bool.and_true, Bool.and_eq_true] at ef
          obtain ⟨f1, f2, f3, f4⟩ := ef
          rw [if_neg (by decide)]
          cases b with
          | int n =>
            cases c with
            | int o =>
              have n0 : 0 ≤ n := of_decide_eq_true f2
              have q : R (.d (.bool (inR n o && signsB kd e))) μ := q
              have fe := hm e (by simp)
              walk_at "dlsym"
              by_cases c1 : 1 ≤ o
              · rw [if_pos (decide_eq_true c1)]
                by_cases c2 : o ≤ 20000
                · rw [if_neg (by rw [decide_eq_true c2]; decide)]
                  skip
                  walk_at "dlsym"
                  by_cases c3 : o ≤ n
                  · rw [if_pos (decide_eq_true c3)]
                    rw [show inR n o = false by unfold inR; rw [decide_eq_false (by omega)]; rfl] at q
                    exact q
                  · rw [if_neg (by rw [decide_eq_false c3]; exact Bool.false_ne_true)]
                    rw [show inR n o = true by unfold inR; rw [decide_eq_true (by omega), decide_eq_true c2]; rfl, Bool.true_and] at q
                    unfold signsB at q
                    rw [eqv_dec]
                    by_cases k1 : kd = Str.ofString "letters"
                    · rw [if_pos k1] at q
                      rw [decide_eq_true k1, if_pos rfl]
                      cases e <;> (walk_at "dlsym"; exact q)
                    · rw [if_neg k1] at q
                      rw [decide_eq_false k1, if_neg (by decide)]
                      cases e with
                      | tuple es =>
                        obtain ⟨hl2, hm2⟩ := oks_mem (okd_tup fe)
                        walk_at "dlsym"
                        rw [eqv_dec]
                        by_cases k2 : kd = Str.ofString "sounds"
                        · rw [if_pos k2] at q
                          rw [decide_eq_true k2, if_neg (by decide)]
                          walk_at "dlsym"
                          refine loopD_inv (fun r ρ μ' => ∃ (rest : List PyData) (t2 t3 : Option W), r = rest.map W.d ∧ (∀ y ∈ rest, DOkD y 300000 50) ∧ rest.all noteB = es.all noteB ∧ μ' = μ ∧ ρ = [some (.d (.str kd)), some (.d (.tuple [a, .int n, .int o, d, .tuple es])), t2, t3]) ?_ ?_ ?_
                          · exact ⟨es, _, _, rfl, hm2, rfl, rfl, rfl⟩
                          · rintro w r ρ μ' Z ⟨rest, t2, t3, e1, hr, ea, rfl, rfl⟩ hZ
                            cases rest with
                            | nil => cases e1
                            | cons y rest =>
                              rw [List.map_cons] at e1
                              injection e1 with e1 e2
                              subst e1
                              rw [List.all_cons] at ea
                              have hy := hr y List.mem_cons_self
                              have bad : noteB y = false → R (.d (.bool false)) μ' := fun z => by
                                have q : R (.d (.bool (es.all noteB))) μ' := q
                                rw [← ea, z, Bool.false_and] at q
                                exact q
                              have good : noteB y = true → ∀ t3, Z [some (.d (.str kd)), some (.d (.tuple [a, .int n, .int o, d, .tuple es])), some (.d y), t3] μ' := fun z t3 => by
                                rw [z, Bool.true_and] at ea
                                exact hZ _ _ ⟨rest, _, _, e2, fun x hx => hr x (List.mem_cons_of_mem _ hx), ea, rfl, rfl⟩
                              unfold lp1_d_law_is_piece
                              cases y with
                              | tuple ys =>
                                obtain ⟨hl3, hm3⟩ := oks_mem (okd_tup hy)
                                walk_at "dlsym"
                                by_cases e2' : ys.length = 2
                                · match ys, e2' with
                                  | [u, v], _ =>
                                    rw [show PyData.eqv (.int (([u, v].length : Nat) : Int)) (.int 2) = true from int_eq 2, if_neg (by decide)]
                                    refine compL_map W.d [u, v] (fun x => !intIn 0 9 x) (fun x => x) (fun x hx Z h => ?_) (fun x _ _ Z h => h) (by show 0 + 2 ≤ sizeLine; rw [sizeLit]; omega) ?_
                                    · unfold ct7_d_law_is_piece
                                      cases x with
                                      | int i =>
                                        walk_at "dlsym"
                                        have h : Z (!(decide (0 ≤ i) && decide (i ≤ 9))) μ' := h
                                        by_cases z : 0 ≤ i
                                        · rw [if_pos (decide_eq_true z)]
                                          rw [decide_eq_true z, Bool.true_and] at h
                                          exact h
                                        · rw [if_neg (by rw [decide_eq_false z]; exact Bool.false_ne_true)]
                                          rw [decide_eq_false z, Bool.false_and] at h
                                          exact h
                                      | _ => walk_at "dlsym"; exact h
                                    rw [List.nil_append, List.map_id', asD_map]
                                    have hp2 : PyData.plainAll (([u, v]).filter fun x => !intIn 0 9 x) = true := plain_mem fun y hy => (hm3 y (List.mem_filter.mp hy).1).plain
                                    walk_at "dlsym"
                                    rw [eqv_nil, flt_empty]
                                    refine ⟨hp2, by omega, ?_⟩
                                    have en : [u, v].all (intIn 0 9) = noteB (.tuple [u, v]) := by
                                      show (intIn 0 9 u && (intIn 0 9 v && true)) = (intIn 0 9 u && intIn 0 9 v)
                                      rw [Bool.and_true]
                                    rw [en]
                                    cases z : noteB (.tuple [u, v]) with
                                    | true => rw [if_neg (by decide)]; exact good z _
                                    | false => rw [if_pos (by decide)]; exact bad z
                                · rw [int_ne (by omega), if_pos (by decide)]
                                  refine bad ?_
                                  match ys, e2' with
                                  | [], _ => rfl
                                  | [a], _ => rfl
                                  | a :: b :: c :: r, _ => rfl
                                  | [a, b], e => exact absurd rfl e
                              | _ =>
                                walk_at "dlsym"
                                exact bad rfl
                          · rintro ρ μ' ⟨rest, t2, t3, e1, hr, ea, rfl, rfl⟩
                            cases rest with
                            | cons y rest => cases e1
                            | nil =>
                              walk_at "dlsym"
                              have q : R (.d (.bool (es.all noteB))) μ' := q
                              rw [← ea] at q
                              exact q
                        · rw [if_neg k2] at q
                          rw [decide_eq_false k2, if_pos (by decide)]
                          walk_at "dlsym"
                          refine compL_map W.d es (fun x => !strB x) (fun x => x) (fun x hx Z h => ?_) (fun x _ _ Z h => h) (by rw [List.length_nil, sizeLit]; omega) ?_
                          · unfold ct4_d_law_is_piece
                            cases x <;> (walk_at "dlsym"; exact h)
                          rw [List.nil_append, List.map_id', asD_map]
                          have hp2 : PyData.plainAll (es.filter fun x => !strB x) = true := plain_mem fun y hy => (hm2 y (List.mem_filter.mp hy).1).plain
                          walk_at "dlsym"
                          rw [eqv_nil, flt_empty]
                          exact ⟨hp2, by omega, q⟩
                      | _ =>
                        walk_at "dlsym"
                        by_cases k2 : kd = Str.ofString "sounds"
                        · rw [if_pos k2] at q; exact q
                        · rw [if_neg k2] at q; exact q
                · rw [if_pos (by rw [decide_eq_false c2]; rfl)]
                  rw [show inR n o = false by unfold inR; rw [decide_eq_false c2, Bool.and_false]] at q
                  exact q
              · rw [if_neg (by rw [decide_eq_false c1]; exact Bool.false_ne_true)]
                rw [show inR n o = false by unfold inR; rw [decide_eq_false (by omega)]; rfl] at q
                exact q
            | _ => cases f3
          | _ => cases f2
      · rw [int_ne (by omega), if_pos (by decide)]
        rw [pieceB_n e5] at q
        exact q
    | _ =>
      walk_at "dlsym"
      exact q
  · exact h.elim

theorem ok_d_law_is_piece {P : Program} {w : World} {K : PySem.W.Frag} {mg : Str → Option Value} {base : Heap} (T : Tx w K mg) : FG P w K mg base CX0 1 T.f_d_law_is_piece T.fd_d_law_is_piece ["kind", "thing"] (lSp K sp_d_law_is_piece) := by
  refine fg_data T.F_d_law_is_piece sc_d_law_is_piece (fun ws μ R h => ar_d_law_is_piece h) body_d_law_is_piece (fun cdv A outer s H E hr hgd => ?_) (fun ws μ R h => rd_d_law_is_piece h)
  have nd := sc_d_law_is_piece.nd
  exact (dss_cons (ds_if (dt_w (dw_or (dt_not (dt_of (de_callB call_isi l_isiV (by rfl) T.z_isinstance (by decide +kernel) (da_cons (de_var 1 (pv 1)) (da_cons (de_ty (T := "tuple") (by rfl) T.z_tuple (by decide +kernel) (by decide) (by decide)) da_nil (by rfl)) (by rfl)) (by decide) (by decide) (by rfl) (by rfl)) (fun _ => rfl))) (dw_or1 (dt_cmp (op_neP (u100 hr)) l_neV (de_callB call_len l_len (by rfl) T.z_len (by decide +kernel) (da_cons (de_var 1 (pv 1)) da_nil (by rfl)) (by decide) (by decide) (by rfl) (by rfl)) de_int (nomark _))))) (dss_one (ds_ret de_bl)) dss_nil)
  (dss_cons (ds_if (dt_cmp (op_neP (u100 hr)) l_neV (de_lc (pe_lc (own := [("one", 3)]) (g := gName 3) (by rfl) nd (di_tup (de_sl (de_var 1 (pv 1)) do_none (do_some de_int))).pi (blkOk_by (own := [("one", 3)]) (N := N_d_law_is_piece) (sc := defScope s_d_law_is_piece) (by decide +kernel)) (fun _ _ _ _ _ => pg_name (i := 3) nd rfl (by first | exact Or.inl rfl | exact Or.inr rfl)) (fun _ _ _ _ _ => ((dts_one (dt_w (dw_or (dt_not (dt_of (de_callB call_isi l_isiV (by rfl) T.z_isinstance (by decide +kernel) (da_cons (de_var 3 (pv 3)) (da_cons (de_ty (T := "int") (by rfl) T.z_int (by decide +kernel) (by decide) (by decide)) da_nil (by rfl)) (by rfl)) (by decide) (by decide) (by rfl) (by rfl)) (fun _ => rfl))) (dw_or (dt_of (de_callB call_isi l_isiV (by rfl) T.z_isinstance (by decide +kernel) (da_cons (de_var 3 (pv 3)) (da_cons (de_ty (T := "bool") (by rfl) T.z_bool (by decide +kernel) (by decide) (by decide)) da_nil (by rfl)) (by rfl)) (by decide) (by decide) (by rfl) (by rfl)) (fun _ => rfl)) (dw_or1 (dt_cmp op_ltA l_cmp (de_var 3 (pv 3)) de_int (nomark _))))))) : DTs _ _ ct3_d_law_is_piece).pts) (fun _ _ _ _ _ => ((de_var 3 (pv 3)) : DE _ _ (tVarD 3)).pe)) cFrz_ok (by decide)) (de_lst da_nil) (nomark _)) (dss_one (ds_ret de_bl)) dss_nil)
  (dss_cons (ds_if (dt_w (dw_or (dt_not (dt_chain op_leA op_leA l_cmp l_cmp de_int (de_ix (de_var 1 (pv 1)) de_int (fun _ _ => rfl)) de_int rfl)) (dw_or1 (dt_cmp op_geA l_cmp (de_ix (de_var 1 (pv 1)) de_int (fun _ _ => rfl)) (de_ix (de_var 1 (pv 1)) de_int (fun _ _ => rfl)) (nomark _))))) (dss_one (ds_ret de_bl)) dss_nil)
  (dss_cons (ds_if (dt_cmp (op_eqP (u100 hr)) l_eqV (de_var 0 (pv 0)) de_str (nomark _)) (dss_one (ds_ret (de_callB call_isi l_isiV (by rfl) T.z_isinstance (by decide +kernel) (da_cons (de_ix (de_var 1 (pv 1)) de_int (fun _ _ => rfl)) (da_cons (de_ty (T := "str") (by rfl) T.z_str (by decide +kernel) (by decide) (by decide)) da_nil (by rfl)) (by rfl)) (by decide) (by decide) (by rfl) (by rfl)))) dss_nil)
  (dss_cons (ds_if (dt_not (dt_of (de_callB call_isi l_isiV (by rfl) T.z_isinstance (by decide +kernel) (da_cons (de_ix (de_var 1 (pv 1)) de_int (fun _ _ => rfl)) (da_cons (de_ty (T := "tuple") (by rfl) T.z_tuple (by decide +kernel) (by decide) (by decide)) da_nil (by rfl)) (by rfl)) (by decide) (by decide) (by rfl) (by rfl)) (fun _ => rfl))) (dss_one (ds_ret de_bl)) dss_nil)
  (dss_cons (ds_if (dt_cmp (op_neP (u100 hr)) l_neV (de_var 0 (pv 0)) de_str (nomark _)) (dss_one (ds_ret (de_cmp (op_eqP (u100 hr)) l_eqV (de_lc (pe_lc (own := [("one", 3)]) (g := gName 3) (by rfl) nd (di_tup (de_ix (de_var 1 (pv 1)) de_int (fun _ _ => rfl))).pi (blkOk_by (own := [("one", 3)]) (N := N_d_law_is_piece) (sc := defScope s_d_law_is_piece) (by decide +kernel)) (fun _ _ _ _ _ => pg_name (i := 3) nd rfl (by first | exact Or.inl rfl | exact Or.inr rfl)) (fun _ _ _ _ _ => ((dts_one (dt_not (dt_of (de_callB call_isi l_isiV (by rfl) T.z_isinstance (by decide +kernel) (da_cons (de_var 3 (pv 3)) (da_cons (de_ty (T := "str") (by rfl) T.z_str (by decide +kernel) (by decide) (by decide)) da_nil (by rfl)) (by rfl)) (by decide) (by decide) (by rfl) (by rfl)) (fun _ => rfl)))) : DTs _ _ ct4_d_law_is_piece).pts) (fun _ _ _ _ _ => ((de_var 3 (pv 3)) : DE _ _ (tVarD 3)).pe)) cFrz_ok (by decide)) (de_lst da_nil) (nomark _)))) dss_nil)
  (dss_cons (ds_for (ps_for PassesOwn.never rfl (di_tup (de_ix (de_var 1 (pv 1)) de_int (fun _ _ => rfl))).pi (dg_name (pg_name (i := 2) nd rfl (by first | exact Or.inl rfl | exact Or.inr rfl))).pg ((dss_cons (ds_if (dt_w (dw_or (dt_not (dt_of (de_callB call_isi l_isiV (by rfl) T.z_isinstance (by decide +kernel) (da_cons (de_var 2 (pv 2)) (da_cons (de_ty (T := "tuple") (by rfl) T.z_tuple (by decide +kernel) (by decide) (by decide)) da_nil (by rfl)) (by rfl)) (by decide) (by decide) (by rfl) (by rfl)) (fun _ => rfl))) (dw_or1 (dt_cmp (op_neP (u100 hr)) l_neV (de_callB call_len l_len (by rfl) T.z_len (by decide +kernel) (da_cons (de_var 2 (pv 2)) da_nil (by rfl)) (by decide) (by decide) (by rfl) (by rfl)) de_int (nomark _))))) (dss_one (ds_ret de_bl)) dss_nil)
  (dss_one (ds_if (dt_cmp (op_neP (u100 hr)) l_neV (de_lc (pe_lc (own := [("one", 3)]) (g := gName 3) (by rfl) nd (di_tup (de_var 2 (pv 2))).pi (blkOk_by (own := [("one", 3)]) (N := N_d_law_is_piece) (sc := defScope s_d_law_is_piece) (by decide +kernel)) (fun _ _ _ _ _ => pg_name (i := 3) nd rfl (by first | exact Or.inl rfl | exact Or.inr rfl)) (fun _ _ _ _ _ => ((dts_one (dt_w (dw_or (dt_not (dt_of (de_callB call_isi l_isiV (by rfl) T.z_isinstance (by decide +kernel) (da_cons (de_var 3 (pv 3)) (da_cons (de_ty (T := "int") (by rfl) T.z_int (by decide +kernel) (by decide) (by decide)) da_nil (by rfl)) (by rfl)) (by decide) (by decide) (by rfl) (by rfl)) (fun _ => rfl))) (dw_or (dt_of (de_callB call_isi l_isiV (by rfl) T.z_isinstance (by decide +kernel) (da_cons (de_var 3 (pv 3)) (da_cons (de_ty (T := "bool") (by rfl) T.z_bool (by decide +kernel) (by decide) (by decide)) da_nil (by rfl)) (by rfl)) (by decide) (by decide) (by rfl) (by rfl)) (fun _ => rfl)) (dw_or1 (dt_not (dt_chain op_leA op_leA l_cmp l_cmp de_int (de_var 3 (pv 3)) de_int rfl))))))) : DTs _ _ ct7_d_law_is_piece).pts) (fun _ _ _ _ _ => ((de_var 3 (pv 3)) : DE _ _ (tVarD 3)).pe)) cFrz_ok (by decide)) (de_lst da_nil) (nomark _)) (dss_one (ds_ret de_bl)) dss_nil))) : DSs _ _ lp1_d_law_is_piece).pss))
  (dss_one (ds_ret de_bl)))))))))
def sp_d_law_due : DSp := fun ws μ R => match ws with
  | [.v (.ref a), .d (.str kd), .d (.int tk), .d x] => (Fit2 x ∧ pieceB kd x = false ∧ R (.d (.str (Str.ofString "bent"))) μ) ∨ ∃ f e kept t n o s σ, Fit x ∧ μ a = some (.lst [.d (.int (ofI f)), .v (.ref e)]) ∧ (∀ k, f = some k → 1 ≤ k) ∧ μ e = some (.dct (keptW kept)) ∧ x = pc t n o s σ ∧ POk kd t n o s σ ∧ kept.length ≤ 100000 ∧ (∀ y ∈ kept, KS kd y.2 ∧ Sig.Ok y.2 ∧ Sig.len y.2 ≤ 2100) ∧
    (if good tk f t n o s σ = true then match kfind kept n with
      | some σ' => R (.d (.str (if PyData.eqv σ'.D σ.D = true then Str.ofString "known" else Str.ofString "bent"))) μ
      | none => R (.d (.str (Str.ofString "new"))) (mset (mset μ a (.lst [.d (.int o), .v (.ref e)])) e (.dct (keptW (kept ++ [(n, σ)]))))
    else R (.d (.str (Str.ofString "bent"))) μ)
  | _ => False
theorem ar_d_law_due {ws : List W} {μ : M} {R : DQ} (h : sp_d_law_due ws μ R) : ws.length = 4 := by
  unfold sp_d_law_due at h; split at h
  · rfl
  · exact h.elim

def body_d_law_due : DTS := (tSeqD (DL.tIfS (tOrB (tNotB (tTru (tCallD sp_d_law_is_piece (tConsD (tVarD 1) (tConsD (tVarD 3) tNilD))))) (tTst (tOp2 neV (tOp2 ixD (tVarD 3) (tK (.d (.int 0)))) (tVarD 2)))) (tRetD (tK (.d (.str "bent")))) tNextD)
  (tSeqD (tAsgD (tSlD (tVarD 3) (tPartD (tK (.d (.int 1)))) tNoD) (gTupD 4 (gConsD (gNameD 4) (gConsD (gNameD 5) (gConsD (gNameD 6) (gConsD (gNameD 7) gNilD))))))
  (tSeqD (DL.tIfS (tOrB (tTst (tOp2 neV (tVarD 6) (tCallD sp_d_law_seal (tConsD (tVarD 2) (tConsD (tVarD 4) (tConsD (tVarD 5) (tConsD (tVarD 7) tNilD))))))) (tTst (tOp2 (inD true) (tOp2 ixD (tVarD 0) (tK (.d (.int 0)))) (tLstD (tConsD (tK (.d (.int 0))) (tConsD (tVarD 5) tNilD)))))) (tRetD (tK (.d (.str "bent")))) tNextD)
  (tSeqD (DL.tIfS (tTst (tDInM false (tVarD 4) (tOp2 ixD (tVarD 0) (tK (.d (.int 1)))))) (tRetD (tIfD (tTst (tOp2 eqV (tDGetM (tOp2 ixD (tVarD 0) (tK (.d (.int 1)))) (tVarD 4)) (tVarD 7))) (tK (.d (.str "known"))) (tK (.d (.str "bent"))))) tNextD)
  (tSeqD (tAsgD (tVarD 5) (gSetD (tVarD 0) (tK (.d (.int 0)))))
  (tSeqD (sDPutM (tOp2 ixD (tVarD 0) (tK (.d (.int 1)))) (tVarD 4) (tVarD 7))
  (tRetD (tK (.d (.str "new"))))))))))
theorem rd_d_law_due {ws : List W} {μ : M} {R : DQ} (h : sp_d_law_due ws μ R) : body_d_law_due { nx := fun _ μ' => R (.d .none) μ', rt := R } (startD N_d_law_due.length ws) μ := by
  unfold sp_d_law_due at h
  split at h
  · rename_i a kd tk x
    unfold body_d_law_due
    rcases h with ⟨ft, hb, q⟩ | h
    · walk_at "dlsym"
      refine ⟨ft, ?_⟩
      walk_at "dlsym"
      rw [hb, if_pos (show (!false) = true from rfl)]
      exact q
    obtain ⟨f, e, kept, t, n, o, s, σ, ft, em, hf, ek, rfl, pk, hkl, hks, q⟩ := h
    walk_at "dlsym"
    refine ⟨ft.two, ?_⟩
    rw [pieceB_pc pk]
    walk_at "dlsym"
    have eg : good tk f t n o s σ = (inR n o && (decide (t = tk) && ofOk f o && decide (s = sealS t n o σ))) := rfl
    cases e1 : inR n o with
    | false =>
      rw [eg, e1, Bool.false_and, if_neg Bool.false_ne_true] at q
      rw [if_pos (show (!false) = true from rfl)]
      exact q
    | true =>
      rw [e1, Bool.true_and] at eg
      rw [if_neg (show ¬ (!true) = true by decide)]
      unfold pc
      walk_at "dlsym"
      by_cases h1 : t = tk
      · subst h1
        rw [decide_eq_true rfl, Bool.true_and] at eg
        rw [int_eq, if_neg (by decide)]
        rw [show cutG [PyData.int t, PyData.int n, PyData.int o, PyData.int s, σ.D] (some 1) none = [.int n, .int o, .int s, σ.D] from rfl, q_gTup4]
        walk_at "dlsym"
        refine .inl ⟨σ.L, σ.sg, Sig.oks pk.ok, by rw [Sig.L_len]; have := pk.len; omega, pk.t0, by have := pk.t1; omega, ?_⟩
        walk_at "dlsym"
        rw [show PyData.eqv (.int s) (.int (sealZ t (n :: o :: List.map Sgn.num σ.L))) = decide (s = sealS t n o σ) by rw [eqv_int, Bool.eq_iff_iff, beq_iff_eq, decide_eq_true_eq]; exact Iff.rfl]
        by_cases h2 : s = sealS t n o σ
        · rw [decide_eq_true h2, Bool.and_true] at eg
          rw [decide_eq_true h2, if_neg (by decide)]
          refine onS_of em ?_
          dsimp only
          refine onS_of (x := W.d (.int (ofI f))) rfl ?_
          have ea : ([PyData.int 0, PyData.int o].any fun z => PyData.eqv z (.int (ofI f))) = ofOk f o := by
            rw [List.any_cons, List.any_cons, List.any_nil, eqv_int, eqv_int, Bool.or_false]
            cases f with
            | none => rfl
            | some k =>
              have := hf k rfl
              show ((0 : Int) == k || o == k) = decide (k = o)
              rw [show ((0 : Int) == k) = false by rw [beq_eq_false_iff_ne]; omega, Bool.false_or, Bool.eq_iff_iff, beq_iff_eq, decide_eq_true_eq]
              exact eq_comm
          walk_at "dlsym"
          rw [ea, ← eg]
          cases e2 : good t f t n o s σ with
          | false =>
            rw [e2, if_neg Bool.false_ne_true] at q
            rw [if_pos (show (true ^^ false) = true from rfl)]
            exact q
          | true =>
            rw [e2, if_pos rfl] at q
            rw [if_neg (show ¬ (true ^^ true) = true by decide)]
            refine onS_of em ?_
            dsimp only
            refine onS_of (x := W.v (.ref e)) rfl (onS_of ek ?_)
            dsimp only
            have hae : a ≠ e := fun z => by rw [z, ek] at em; cases em
            have kv := kept_val n kept
            have sp := (Sig.okd pk.ok).plain
            have sd := (Sig.okd pk.ok).depth
            cases e3 : kfind kept n with
            | none =>
              rw [e3] at q kv
              rw [kv]
              rw [if_neg (show ¬ ((Option.map (fun σ : Sig => W.d σ.D) none).isSome) = true by simp)]
              refine onS_of em ?_
              dsimp only
              refine onS_of (x := 0) rfl (onS_of (x := W.v (.ref e)) rfl (onS_of ((mset_ne (Ne.symm hae)).trans ek) ⟨by unfold keptW; rw [List.length_map]; omega, ?_⟩))
              rw [kept_put e3]
              exact q
            | some σ' =>
              rw [e3] at q kv
              obtain ⟨y, hy, ey⟩ := kfind_mem e3
              obtain ⟨_, ok', ln'⟩ := hks y hy
              rw [ey] at ok' ln'
              have sp' := (Sig.okd ok').plain
              have sd' := (Sig.okd ok').depth
              rw [kv]
              rw [if_pos (show ((Option.map (fun σ : Sig => W.d σ.D) (some σ')).isSome) = true from rfl)]
              refine onS_of em ?_
              dsimp only
              refine onS_of (x := W.v (.ref e)) rfl (onS_of ek ?_)
              dsimp only
              refine onS_of kv ?_
              walk_at "dlsym"
              refine ⟨sp', sp, by omega, ?_⟩
              have q : R (.d (.str (if PyData.eqv σ'.D σ.D = true then Str.ofString "known" else Str.ofString "bent"))) μ := q
              cases e4 : PyData.eqv σ'.D σ.D with
              | true => rw [e4, if_pos rfl] at q; exact q
              | false => rw [e4, if_neg Bool.false_ne_true] at q; exact q
        · rw [eg, decide_eq_false h2, Bool.and_false, if_neg Bool.false_ne_true] at q
          rw [decide_eq_false h2, if_pos (show (!false) = true from rfl)]
          exact q
      · rw [eg, decide_eq_false h1, Bool.false_and, Bool.false_and, if_neg Bool.false_ne_true] at q
        rw [int_ne h1, if_pos (show (!false) = true from rfl)]
        exact q
  · exact h.elim

theorem ok_d_law_due {P : Program} {w : World} {K : PySem.W.Frag} {mg : Str → Option Value} {base : Heap} (T : Tx w K mg) : FG P w K mg base CX0 2 T.f_d_law_due T.fd_d_law_due ["state", "kind", "ticket", "thing"] (lSp K sp_d_law_due) := by
  refine fg_data T.F_d_law_due sc_d_law_due (fun ws μ R h => ar_d_law_due h) body_d_law_due (fun cdv A outer s H E hr hgd => ?_) (fun ws μ R h => rd_d_law_due h)
  have nd := sc_d_law_due.nd
  exact (dss_cons (ds_if (dt_w (dw_or (dt_not (dt_of (de_call (ok_d_law_is_piece T) (hr.mono (by first | decide | omega)) hgd (by rfl) T.m_d_law_is_piece T.F_d_law_is_piece.kp T.b_d_law_is_piece (da_cons (de_var 1 (pv 1)) (da_cons (de_var 3 (pv 3)) da_nil (by rfl)) (by rfl)) (by decide) (by rfl) (by rfl)) (fun _ => rfl))) (dw_or1 (dt_cmp (op_neP (u100 hr)) l_neV (de_ix (de_var 3 (pv 3)) de_int (fun _ _ => rfl)) (de_var 2 (pv 2)) (nomark _))))) (dss_one (ds_ret de_str)) dss_nil)
  (dss_cons (ds_asg (ps_asg (de_sl (de_var 3 (pv 3)) (do_some de_int) do_none).pe (dg_tup rfl (dgs_cons (dg_name (pg_name (i := 4) nd rfl (by first | exact Or.inl rfl | exact Or.inr rfl))) (dgs_cons (dg_name (pg_name (i := 5) nd rfl (by first | exact Or.inl rfl | exact Or.inr rfl))) (dgs_cons (dg_name (pg_name (i := 6) nd rfl (by first | exact Or.inl rfl | exact Or.inr rfl))) (dgs_cons (dg_name (pg_name (i := 7) nd rfl (by first | exact Or.inl rfl | exact Or.inr rfl))) dgs_nil (by rfl)) (by rfl)) (by rfl)) (by rfl)) (by rfl) (by rfl)).pg))
  (dss_cons (ds_if (dt_w (dw_or (dt_cmp (op_neP (u100 hr)) l_neV (de_var 6 (pv 6)) (de_call (ok_d_law_seal T) (hr.mono (by first | decide | omega)) hgd (by rfl) T.m_d_law_seal T.F_d_law_seal.kp T.b_d_law_seal (da_cons (de_var 2 (pv 2)) (da_cons (de_var 4 (pv 4)) (da_cons (de_var 5 (pv 5)) (da_cons (de_var 7 (pv 7)) da_nil (by rfl)) (by rfl)) (by rfl)) (by rfl)) (by decide) (by rfl) (by rfl)) (nomark _)) (dw_or1 (dt_cmp (op_notInP (u100 hr)) l_in (de_ix (de_var 0 (pv 0)) de_int (fun _ _ => rfl)) (de_lst (da_cons de_int (da_cons (de_var 5 (pv 5)) da_nil (by rfl)) (by rfl))) rfl)))) (dss_one (ds_ret de_str)) dss_nil)
  (dss_cons (ds_if (dt_dinM (u1 (u100 hr)) (de_var 4 (pv 4)) (de_ix (de_var 0 (pv 0)) de_int (fun _ _ => rfl)) (by rfl)) (dss_one (ds_ret (de_if (dt_cmp (op_eqP (u100 hr)) l_eqV (de_dgetM (u1 (u100 hr)) (de_ix (de_var 0 (pv 0)) de_int (fun _ _ => rfl)) (de_var 4 (pv 4)) (fun _ _ => rfl)) (de_var 7 (pv 7)) (nomark _)) de_str de_str))) dss_nil)
  (dss_cons (ds_asg (ps_asg (de_var 5 (pv 5)).pe (dg_sub (de_var 0 (pv 0)) de_int (fun _ => rfl)).pg))
  (dss_cons (ds_dputM (u1 (u100 hr)) (de_ix (de_var 0 (pv 0)) de_int (fun _ _ => rfl)) (de_var 4 (pv 4)) (de_var 7 (pv 7)) (by rfl))
  (dss_one (ds_ret de_str))))))))
def sp_d_law_missing : DSp := fun ws μ R => match ws with
  | [.v (.ref a)] => ∃ f e kept, μ a = some (.lst [.d (.int (ofI f)), .v (.ref e)]) ∧ μ e = some (.dct (keptW kept)) ∧ (∀ k, f = some k → 1 ≤ k ∧ k ≤ 20000) ∧ R (.d (.list (missD f kept))) μ
  | _ => False
theorem ar_d_law_missing {ws : List W} {μ : M} {R : DQ} (h : sp_d_law_missing ws μ R) : ws.length = 1 := by
  unfold sp_d_law_missing at h; split at h
  · rfl
  · exact h.elim

def ct1_d_law_missing : DTT := (tTst (tDInM true (tVarD 1) (tOp2 ixD (tVarD 0) (tK (.d (.int 1))))))
def body_d_law_missing : DTS := (tRetD (tCompG (tItR (tConsD (tOp2 ixD (tVarD 0) (tK (.d (.int 0)))) tNilD)) 1 ct1_d_law_missing (tVarD 1) [1] cFrz))
theorem rd_d_law_missing {ws : List W} {μ : M} {R : DQ} (h : sp_d_law_missing ws μ R) : body_d_law_missing { nx := fun _ μ' => R (.d .none) μ', rt := R } (startD N_d_law_missing.length ws) μ := by
  unfold sp_d_law_missing at h
  split at h
  · rename_i a
    obtain ⟨f, e, kept, em, ek, hf, q⟩ := h
    obtain ⟨b1, b2, b3⟩ := ofI_bd hf
    unfold body_d_law_missing
    walk_at "dlsym"
    refine onS_of em ?_
    dsimp only
    refine onS_of (x := W.d (.int (ofI f))) rfl ?_
    dsimp only
    refine ⟨by omega, by omega, ?_⟩
    rw [rangeN, b3]
    refine compL_map (fun i : Nat => W.d (.int (i : Int))) (List.range (ofZ f)) (fun i => (kfind kept (i : Int)).isNone) (fun i => .int (i : Int)) (fun i _ Z h => ?_) (fun i _ _ Z h => ?_) (by rw [List.length_nil, List.length_range, sizeLit]; omega) ?_
    · unfold ct1_d_law_missing
      walk_at "dlsym"
      refine onS_of em ?_
      dsimp only
      refine onS_of (x := W.v (.ref e)) rfl ?_
      rw [q_dctAt]
      refine onS_of ek ?_
      dsimp only
      rw [kept_val]
      rw [show (true ^^ (Option.map (fun σ : Sig => W.d σ.D) (kfind kept (i : Int))).isSome) = (kfind kept (i : Int)).isNone by cases kfind kept (i : Int) <;> rfl]
      walk_at "dlsym"
      exact h
    · walk_at "dlsym"
      exact h
    rw [List.nil_append, asD_map]
    exact q
  · exact h.elim

theorem ok_d_law_missing {P : Program} {w : World} {K : PySem.W.Frag} {mg : Str → Option Value} {base : Heap} (T : Tx w K mg) : FG P w K mg base CX0 1 T.f_d_law_missing T.fd_d_law_missing ["state"] (lSp K sp_d_law_missing) := by
  refine fg_data T.F_d_law_missing sc_d_law_missing (fun ws μ R h => ar_d_law_missing h) body_d_law_missing (fun cdv A outer s H E hr hgd => ?_) (fun ws μ R h => rd_d_law_missing h)
  have nd := sc_d_law_missing.nd
  exact (dss_one (ds_ret (de_lc (pe_lc (own := [("number", 1)]) (g := gName 1) (by rfl) nd (di_range1 (by rfl) T.z_range (da_cons (de_ix (de_var 0 (pv 0)) de_int (fun _ _ => rfl)) da_nil (by rfl)) (by rfl)).pi (blkOk_by (own := [("number", 1)]) (N := N_d_law_missing) (sc := defScope s_d_law_missing) (by decide +kernel)) (fun _ _ _ _ _ => pg_name (i := 1) nd rfl (by first | exact Or.inl rfl | exact Or.inr rfl)) (fun _ _ _ _ _ => ((dts_one (dt_dnotinM (u1 (u100 hr)) (de_var 1 (pv 1)) (de_ix (de_var 0 (pv 0)) de_int (fun _ _ => rfl)) (by rfl))) : DTs _ _ ct1_d_law_missing).pts) (fun _ _ _ _ _ => ((de_var 1 (pv 1)) : DE _ _ (tVarD 1)).pe)) cFrz_ok (by decide))))
def sp_d_law_whole : DSp := fun ws μ R => match ws with
  | [.v (.ref a), .d (.str kd)] => ∃ f e kept, μ a = some (.lst [.d (.int (ofI f)), .v (.ref e)]) ∧ μ e = some (.dct (keptW kept)) ∧ Kp kd f kept ∧ R (.d (wholeD kd f kept)) μ
  | _ => False
theorem ar_d_law_whole {ws : List W} {μ : M} {R : DQ} (h : sp_d_law_whole ws μ R) : ws.length = 2 := by
  unfold sp_d_law_whole at h; split at h
  · rfl
  · exact h.elim

def lp1_d_law_whole : DTS := (tSetD 2 (tOp2 addD (tVarD 2) (tDGetM (tOp2 ixD (tVarD 0) (tK (.d (.int 1)))) (tVarD 3))))
def body_d_law_whole : DTS := (tSeqD (DL.tIfS (tOrB (tTst (tOp2 eqDE (tOp2 ixD (tVarD 0) (tK (.d (.int 1)))) tDictM)) (tTst (tOp2 ltD (tCallB lenM (tConsD (tOp2 ixD (tVarD 0) (tK (.d (.int 1)))) tNilD)) (tOp2 ixD (tVarD 0) (tK (.d (.int 0))))))) (tRetD (tK (.d .none))) tNextD)
  (tSeqD (tSetD 2 (tOp2 ixD (tLstD (tConsD (tK (.d (.str ""))) (tConsD (tTupD tNilD) tNilD))) (tCallB intG (tConsD (tOp2 neV (tVarD 1) (tK (.d (.str "letters")))) tNilD))))
  (tSeqD (tForD (tItR (tConsD (tOp2 ixD (tVarD 0) (tK (.d (.int 0)))) tNilD)) (gNameD 3) lp1_d_law_whole)
  (tRetD (tVarD 2)))))
theorem rd_d_law_whole {ws : List W} {μ : M} {R : DQ} (h : sp_d_law_whole ws μ R) : body_d_law_whole { nx := fun _ μ' => (Fgt R) (.d .none) μ', rt := Fgt R } (startD N_d_law_whole.length ws) μ := by
  unfold sp_d_law_whole at h
  split at h
  · rename_i a kd
    obtain ⟨f, e, kept, em, ek, kp, q⟩ := h
    obtain ⟨b1, b2, b3⟩ := ofI_bd kp.pos
    have kl : (keptW kept).length = kept.length := List.length_map ..
    unfold body_d_law_whole
    walk_at "dlsym"
    refine onS_of em ?_
    dsimp only
    refine onS_of (x := W.v (.ref e)) rfl ?_
    intro p hp
    have hpe : e ≠ p := fun z => by rw [z, hp] at ek; cases ek
    have hpa : a ≠ p := fun z => by rw [z, hp] at em; cases em
    have em2 : mset μ p (.dct []) a = _ := (mset_ne hpa).trans em
    have ek2 : mset μ p (.dct []) e = _ := (mset_ne hpe).trans ek
    have q2 : ∀ d, d = wholeD kd f kept → Fgt R (.d d) (mset μ p (.dct [])) := fun d ed => ⟨μ, fun b m hb => by
      have : b ≠ p := fun z => by rw [z, hp] at hb; cases hb
      rw [mset_ne this]; exact hb, by rw [ed]; exact q⟩
    have ep : mset μ p (.dct []) p = some (.dct []) := mset_same
    generalize mset μ p (.dct []) = ν at em2 ek2 q2 ep ⊢
    rw [q_eqDE]
    refine onS_of ek2 ?_
    refine ⟨ep, ?_⟩
    rw [kl]
    walk_at "dlsym"
    cases f with
    | none =>
      have e0 := kp.ff.mp rfl
      subst e0
      exact q2 _ rfl
    | some k =>
      obtain ⟨hk1, hk2⟩ := kp.pos k rfl
      have kle := kp.len
      have hne : kept ≠ [] := fun z => by have := kp.ff.mpr z; cases this
      have hl0 : kept.length ≠ 0 := fun z => hne (List.length_eq_zero_iff.mp z)
      rw [if_neg (by rw [beq_iff_eq]; exact hl0)]
      refine onS_of em2 ?_
      dsimp only
      refine onS_of (x := W.v (.ref e)) rfl ?_
      rw [q_lenMv]
      refine onS_of ek2 ?_
      dsimp only
      refine onS_of em2 ?_
      dsimp only
      refine onS_of (x := W.d (.int k)) rfl ?_
      walk_at "dlsym"
      rw [kl]
      by_cases ec : kept.length = k.toNat
      · rw [if_neg (by rw [decide_eq_true_eq]; omega)]
        have so := sel_ok kp
        have nm := kp.num
        have q3 := q2 (catD kd (selK kept k.toNat)) (by unfold wholeD; dsimp only; rw [if_pos ec])
        rw [eqv_dec]
        by_cases el : kd = Str.ofString "letters"
        · rw [decide_eq_true el]
          walk_at "dlsym"
          refine onS_of em2 ?_
          dsimp only
          refine onS_of (x := W.d (.int k)) rfl ⟨by omega, by omega, ?_⟩
          rw [rangeN]
          refine loopD_inv (fun r ρ μ' => ∃ (i : Nat) (t3 : Option W), i ≤ k.toNat ∧ r = ((List.range k.toNat).drop i).map (fun i : Nat => W.d (.int (i : Int))) ∧ ρ = [some (.v (.ref a)), some (.d (.str kd)), some (.d (.str (mk ((selK kept i).map Sig.chars).flatten))), t3] ∧ μ' = ν) ?_ ?_ ?_
          · exact ⟨0, none, Nat.zero_le _, rfl, by rw [show Str.ofString "" = mk [] by decide +kernel]; rfl, rfl⟩
          · rintro x r ρ μ' Z ⟨i, t3, hi, e1, rfl, rfl⟩ hZ
            by_cases hlt : i < k.toNat
            · rw [List.drop_eq_getElem_cons (by simpa using hlt), List.map_cons, List.getElem_range] at e1
              injection e1 with e1 e2
              subst e1
              obtain ⟨σ, eσ⟩ := kp.all ec i hlt
              have hσ := so (i + 1) σ (by rw [sel_succ eσ]; simp)
              have ex := ks_tx hσ.1 el
              have sl := sel_len kept i
              have hl2 := hσ.2.2.1
              have fl := flat_le Sig.chars 2100 (selK kept i) fun τ hτ => by
                have h1 := ks_tx (so i τ hτ).1 el
                have h2 := (so i τ hτ).2.2.1
                rw [h1] at h2
                exact h2
              unfold lp1_d_law_whole
              walk_at "dlsym"
              refine onS_of em2 ?_
              dsimp only
              refine onS_of (x := W.v (.ref e)) rfl ?_
              rw [q_dctAt]
              refine onS_of ek2 ?_
              dsimp only
              rw [kept_val, eσ]
              refine onS_of rfl ?_
              rw [ex]
              simp only [Sig.D]
              walk_at "dlsym"
              rw [ex] at hl2
              have hl3 : σ.chars.length ≤ 2100 := hl2
              refine ⟨by rw [len_mk, len_mk]; omega, ?_⟩
              rw [mk_app]
              refine hZ _ _ ⟨i + 1, some (.d (.int (i : Int))), hlt, e2, ?_, rfl⟩
              rw [sel_succ eσ, List.map_append, List.flatten_append]
              simp
            · rw [List.drop_of_length_le (by simp; omega)] at e1
              cases e1
          · rintro ρ μ' ⟨i, t3, hi, e1, rfl, rfl⟩
            have : i = k.toNat := by
              have := congrArg List.length e1
              simp at this
              omega
            subst this
            walk_at "dlsym"
            unfold catD at q3
            rw [if_pos el] at q3
            exact q3
        · rw [decide_eq_false el]
          walk_at "dlsym"
          refine onS_of em2 ?_
          dsimp only
          refine onS_of (x := W.d (.int k)) rfl ⟨by omega, by omega, ?_⟩
          rw [rangeN]
          refine loopD_inv (fun r ρ μ' => ∃ (i : Nat) (t3 : Option W), i ≤ k.toNat ∧ r = ((List.range k.toNat).drop i).map (fun i : Nat => W.d (.int (i : Int))) ∧ ρ = [some (.v (.ref a)), some (.d (.str kd)), some (.d (.tuple ((selK kept i).map Sig.items).flatten)), t3] ∧ μ' = ν) ?_ ?_ ?_
          · exact ⟨0, none, Nat.zero_le _, rfl, rfl, rfl⟩
          · rintro x r ρ μ' Z ⟨i, t3, hi, e1, rfl, rfl⟩ hZ
            by_cases hlt : i < k.toNat
            · rw [List.drop_eq_getElem_cons (by simpa using hlt), List.map_cons, List.getElem_range] at e1
              injection e1 with e1 e2
              subst e1
              obtain ⟨σ, eσ⟩ := kp.all ec i hlt
              have hσ := so (i + 1) σ (by rw [sel_succ eσ]; simp)
              obtain ⟨ex, eL⟩ := ks_tp hσ.1 el
              have sl := sel_len kept i
              have hl2 := hσ.2.2.1
              have fl := flat_le Sig.items 2100 (selK kept i) fun τ hτ => by
                have h1 := so i τ hτ
                rw [(ks_tp h1.1 el).2]
                exact h1.2.2.1
              unfold lp1_d_law_whole
              walk_at "dlsym"
              refine onS_of em2 ?_
              dsimp only
              refine onS_of (x := W.v (.ref e)) rfl ?_
              rw [q_dctAt]
              refine onS_of ek2 ?_
              dsimp only
              rw [kept_val, eσ]
              refine onS_of rfl ?_
              dsimp only
              rw [ex]
              walk_at "dlsym"
              refine ⟨by omega, ?_⟩
              refine hZ _ _ ⟨i + 1, some (.d (.int (i : Int))), hlt, e2, ?_, rfl⟩
              rw [sel_succ eσ, List.map_append, List.flatten_append]
              simp
            · rw [List.drop_of_length_le (by simp; omega)] at e1
              cases e1
          · rintro ρ μ' ⟨i, t3, hi, e1, rfl, rfl⟩
            have : i = k.toNat := by
              have := congrArg List.length e1
              simp at this
              omega
            subst this
            walk_at "dlsym"
            unfold catD at q3
            rw [if_neg el] at q3
            exact q3
      · rw [if_pos (by rw [decide_eq_true_eq]; omega)]
        exact q2 _ (by unfold wholeD; dsimp only; rw [if_neg ec])
  · exact h.elim

theorem ok_d_law_whole {P : Program} {w : World} {K : PySem.W.Frag} {mg : Str → Option Value} {base : Heap} (T : Tx w K mg) : FG P w K mg base CX0 1 T.f_d_law_whole T.fd_d_law_whole ["state", "kind"] (lSp K sp_d_law_whole) := by
  refine fg_dataF T.F_d_law_whole sc_d_law_whole (fun ws μ R h => ar_d_law_whole h) body_d_law_whole (fun cdv A outer s H E hr hgd => ?_) (fun ws μ R h => rd_d_law_whole h)
  have nd := sc_d_law_whole.nd
  exact (dss_cons (ds_if (dt_w (dw_or (dt_cmp (op_eqDE (u100 hr)) l_eqDE (de_ix (de_var 0 (pv 0)) de_int (fun _ _ => rfl)) de_dictM (nomark _)) (dw_or1 (dt_cmp op_ltA l_cmp (de_callB call_lenA l_lenM (by rfl) T.z_len (by decide +kernel) (da_cons (de_ix (de_var 0 (pv 0)) de_int (fun _ _ => rfl)) da_nil (by rfl)) (by decide) (by decide) (by rfl) (by rfl)) (de_ix (de_var 0 (pv 0)) de_int (fun _ _ => rfl)) (nomark _))))) (dss_one (ds_ret de_non)) dss_nil)
  (dss_cons (ds_set (ps_set (i := 2) nd rfl (by first | exact Or.inl rfl | exact Or.inr rfl) (de_ix (de_lst (da_cons de_str (da_cons (de_tup da_nil) da_nil (by rfl)) (by rfl))) (de_callT (DL.CallR.or call_int1 call_int_str) l_intG (by rfl) T.z_int (by decide +kernel) (da_cons (de_cmp (op_neP (u100 hr)) l_neV (de_var 1 (pv 1)) de_str (nomark _)) da_nil (by rfl)) (by decide) (by decide) (by rfl) (by rfl)) (fun _ _ => rfl)).pe))
  (dss_cons (ds_for (ps_for PassesOwn.never rfl (di_range1 (by rfl) T.z_range (da_cons (de_ix (de_var 0 (pv 0)) de_int (fun _ _ => rfl)) da_nil (by rfl)) (by rfl)).pi (dg_name (pg_name (i := 3) nd rfl (by first | exact Or.inl rfl | exact Or.inr rfl))).pg ((dss_one (ds_set (ps_set (i := 2) nd rfl (by first | exact Or.inl rfl | exact Or.inr rfl) (de_add (de_var 2 (pv 2)) (de_dgetM (u1 (u100 hr)) (de_ix (de_var 0 (pv 0)) de_int (fun _ _ => rfl)) (de_var 3 (pv 3)) (fun _ _ => rfl))).pe))) : DSs _ _ lp1_d_law_whole).pss))
  (dss_one (ds_ret (de_var 2 (pv 2)))))))
def sp_d_law_sealed : DSp := fun ws μ R => match ws with
  | [.d t, .d n, .d o, .d sg] => NumB t ∧ NumB n ∧ NumB o ∧ OddSg sg ∧ ∀ v : Int, 0 ≤ v → v < 999983 → R (.d (.tuple [t, n, o, .int v, sg])) μ
  | _ => False
theorem ar_d_law_sealed {ws : List W} {μ : M} {R : DQ} (h : sp_d_law_sealed ws μ R) : ws.length = 4 := by
  unfold sp_d_law_sealed at h; split at h
  · rfl
  · exact h.elim

def body_d_law_sealed : DTS := (tRetD (tTupD (tConsD (tVarD 0) (tConsD (tVarD 1) (tConsD (tVarD 2) (tConsD (tCallD sp_d_law_seal (tConsD (tVarD 0) (tConsD (tVarD 1) (tConsD (tVarD 2) (tConsD (tVarD 3) tNilD))))) (tConsD (tVarD 3) tNilD)))))))
theorem rd_d_law_sealed {ws : List W} {μ : M} {R : DQ} (h : sp_d_law_sealed ws μ R) : body_d_law_sealed { nx := fun _ μ' => R (.d .none) μ', rt := R } (startD N_d_law_sealed.length ws) μ := by
  unfold sp_d_law_sealed at h
  split at h
  · obtain ⟨h1, h2, h3, h4, q⟩ := h
    unfold body_d_law_sealed
    walk_at "dlsym"
    refine .inr ⟨h1, h2, h3, h4, fun v v0 v1 => ?_⟩
    walk_at "dlsym"
    exact q v v0 v1
  · exact h.elim

theorem ok_d_law_sealed {P : Program} {w : World} {K : PySem.W.Frag} {mg : Str → Option Value} {base : Heap} (T : Tx w K mg) : FG P w K mg base CX0 2 T.f_d_law_sealed T.fd_d_law_sealed ["ticket", "number", "of", "signs"] (lSp K sp_d_law_sealed) := by
  refine fg_data T.F_d_law_sealed sc_d_law_sealed (fun ws μ R h => ar_d_law_sealed h) body_d_law_sealed (fun cdv A outer s H E hr hgd => ?_) (fun ws μ R h => rd_d_law_sealed h)
  have nd := sc_d_law_sealed.nd
  exact (dss_one (ds_ret (de_tup (da_cons (de_var 0 (pv 0)) (da_cons (de_var 1 (pv 1)) (da_cons (de_var 2 (pv 2)) (da_cons (de_call (ok_d_law_seal T) (hr.mono (by first | decide | omega)) hgd (by rfl) T.m_d_law_seal T.F_d_law_seal.kp T.b_d_law_seal (da_cons (de_var 0 (pv 0)) (da_cons (de_var 1 (pv 1)) (da_cons (de_var 2 (pv 2)) (da_cons (de_var 3 (pv 3)) da_nil (by rfl)) (by rfl)) (by rfl)) (by rfl)) (by decide) (by rfl) (by rfl)) (da_cons (de_var 3 (pv 3)) da_nil (by rfl)) (by rfl)) (by rfl)) (by rfl)) (by rfl)))))
def sp_d_law_odd_signs : DSp := fun ws μ R => match ws with
  | [.v (.ref a), .d (.str kd), .d x] => ∃ n m σ, μ a = some m ∧ IsUrn n m ∧ n ≤ 2 ^ 59 ∧ x = σ.D ∧ KS kd σ ∧ σ.Ok ∧ σ.len ≤ 60 ∧ ∀ y m', OddX kd y → IsUrn (n + 1) m' → R (.d y) (mset μ a m')
  | _ => False
theorem ar_d_law_odd_signs {ws : List W} {μ : M} {R : DQ} (h : sp_d_law_odd_signs ws μ R) : ws.length = 3 := by
  unfold sp_d_law_odd_signs at h; split at h
  · rfl
  · exact h.elim

def body_d_law_odd_signs : DTS := (tSeqD (DL.tIfS (tTst (tOp2 eqV (tVarD 1) (tK (.d (.str "letters"))))) (tRetD (tOp2 ixD (tLstD (tConsD (tCallB tupofSD (tConsD (tVarD 2) tNilD)) (tConsD (tOp2 addD (tCallB listSD (tConsD (tVarD 2) tNilD)) (tLstD (tConsD (tK (.d (.str "a"))) tNilD))) (tConsD (tTupD (tConsD (tK (.d (.str "a"))) (tConsD (tK (.d (.str "b"))) tNilD))) tNilD)))) (tCallD sp_d_law_take (tConsD (tVarD 0) (tConsD (tK (.d (.int 3))) tNilD))))) tNextD)
  (tSeqD (tSetD 3 (tLstD (tConsD (tCallB listSD (tConsD (tVarD 2) tNilD)) (tConsD (tK (.d (.str "abc"))) (tConsD (tK (.d (.str ""))) (tConsD (tOp2 addD (tVarD 2) (tTupD (tConsD (tLstD (tConsD (tK (.d (.int 1))) (tConsD (tK (.d (.int 2))) tNilD))) tNilD))) (tConsD (tOp2 addD (tVarD 2) (tTupD (tConsD (tTupD (tConsD (tK (.d (.int 10))) (tConsD (tK (.d (.int 1))) tNilD))) tNilD))) (tConsD (tOp2 addD (tVarD 2) (tTupD (tConsD (tTupD (tConsD (tK (.d (.int 1))) (tConsD (tOp2 subD (tK (.d (.int 0))) (tK (.d (.int 1)))) tNilD))) tNilD))) (tConsD (tOp2 addD (tVarD 2) (tTupD (tConsD (tTupD (tConsD (tK (.d (.bool true))) (tConsD (tK (.d (.int 1))) tNilD))) tNilD))) tNilD)))))))))
  (tSeqD (DL.tIfS (tTst (tOp2 neV (tVarD 1) (tK (.d (.str "sounds"))))) (tRetD (tOp2 ixD (tOp2 addD (tSlD (tVarD 3) tNoD (tPartD (tK (.d (.int 3))))) (tLstD (tConsD (tOp2 addD (tVarD 2) (tTupD (tConsD (tTupD (tConsD (tK (.d (.int 1))) (tConsD (tK (.d (.int 1))) tNilD))) tNilD))) tNilD))) (tCallD sp_d_law_take (tConsD (tVarD 0) (tConsD (tK (.d (.int 4))) tNilD))))) tNextD)
  (tSeqD (tSetD 3 (tOp2 addD (tVarD 3) (tLstD (tConsD (tOp2 addD (tVarD 2) (tTupD (tConsD (tTupD (tConsD (tK (.d (.int 1))) (tConsD (tK (.d (.int 10))) tNilD))) tNilD))) (tConsD (tOp2 addD (tVarD 2) (tTupD (tConsD (tK (.d (.str "a"))) tNilD))) (tConsD (tOp2 addD (tVarD 2) (tTupD (tConsD (tK (.d (.str ""))) tNilD))) (tConsD (tOp2 addD (tTupD (tConsD (tK (.d (.str "abc"))) tNilD)) (tVarD 2)) (tConsD (tOp2 addD (tVarD 2) (tTupD (tConsD (tTupD (tConsD (tK (.d (.int 1))) (tConsD (tK (.d (.bool false))) tNilD))) tNilD))) tNilD))))))))
  (tRetD (tOp2 ixD (tVarD 3) (tCallD sp_d_law_take (tConsD (tVarD 0) (tConsD (tK (.d (.int 12))) tNilD)))))))))
theorem rd_d_law_odd_signs {ws : List W} {μ : M} {R : DQ} (h : sp_d_law_odd_signs ws μ R) : body_d_law_odd_signs { nx := fun _ μ' => R (.d .none) μ', rt := R } (startD N_d_law_odd_signs.length ws) μ := by
  unfold sp_d_law_odd_signs at h
  split at h
  · rename_i a kd x
    obtain ⟨n, m, σ, em, hu, hn, rfl, ks, o, sl, q⟩ := h
    unfold body_d_law_odd_signs
    by_cases k1 : kd = Str.ofString "letters"
    · subst k1
      rcases ks with ⟨_, s, rfl⟩ | ⟨b, s, rfl⟩ | ⟨b, s, rfl⟩
      · have sl : s.length ≤ 60 := sl
        have ln : (mk s).length ≤ 60 := by rw [len_mk]; exact sl
        have es : signD (mk s) = s.map fun c => .str ⟨#[c]⟩ := rfl
        have ln2 : (signD (mk s)).length ≤ 60 := by rw [es, List.length_map]; exact sl
        have one : ∀ c : Nat, c < 128 → It (.str ⟨#[c]⟩) ∧ DOkD (.str ⟨#[c]⟩) 1 3 := fun c hc => ⟨.tx _ (by rw [one_len]; decide) (fun d hd => by
            have : d = c := by simpa [cd] using hd
            rw [this]; exact hc), okd_str (l := [c]) (fun d hd => by rw [List.mem_singleton.mp hd]; exact hc) 3⟩
        have it : ∀ d ∈ signD (mk s), It d ∧ DOkD d 1 3 := fun d hd => by
          rw [es] at hd
          obtain ⟨c, hc, rfl⟩ := List.mem_map.mp hd
          exact one c (o c hc)
        have ok : DOks (signD (mk s)) 2000 3 := (oks_all fun d hd => (it d hd).2).mono (by omega) (Nat.le_refl _)
        have ia := one 97 (by decide)
        have ib := one 98 (by decide)
        have ea : PyData.str (Str.ofString "a") = .str ⟨#[97]⟩ := congrArg PyData.str (by decide +kernel)
        have eb : PyData.str (Str.ofString "b") = .str ⟨#[98]⟩ := congrArg PyData.str (by decide +kernel)
        refine ifST (i := 1) (s := Str.ofString "letters") rfl (by rw [eqv_str, beq_self_eq_true]) fun N _ => ?_
        simp only [Sig.D]
        walk_at "dlsym"
        refine ⟨by omega, by omega, by omega, n, m, em, hu, by omega, by decide, by decide, fun j m' j0 j1 hu' => ?_⟩
        refine onS_at j0 (by simpa using j1) fun y hy => q y m' ?_ hu'
        rw [ea, eb] at hy
        simp only [List.mem_cons, List.not_mem_nil, or_false] at hy
        rcases hy with rfl | rfl | rfl
        · exact ⟨.tp _ (by omega) (fun d hd => (it d hd).1), signsB_tup, ok.tup.mono (by decide) (by decide)⟩
        · refine ⟨.ls _ (by simp; omega) (fun d hd => ?_), signsB_lst _ _, (oks_app ok (DOks.cons ia.2 (DOks.nil (b := 0)))).lst.mono (by decide) (by decide)⟩
          rcases List.mem_append.mp hd with z | z
          · exact (it d z).1
          · rw [List.mem_singleton.mp z]; exact ia.1
        · refine ⟨.tp _ (by decide) (fun d hd => ?_), signsB_tup, (DOks.cons ia.2 (DOks.cons ib.2 (DOks.nil (b := 0)))).tup.mono (by decide) (by decide)⟩
          simp only [List.mem_cons, List.not_mem_nil, or_false] at hd
          rcases hd with rfl | rfl
          · exact ia.1
          · exact ib.1
      · exact absurd b (by decide +kernel)
      · rcases b with b | b <;> exact absurd b (by decide +kernel)
    · obtain ⟨ed, el⟩ := ks_tp ks k1
      have l : σ.items.length ≤ 60 := by rw [el]; exact sl
      have nt : ∀ i : Int, -100 ≤ i → i ≤ 100 → NumT (.int i) := fun i h0 h1 => .inl ⟨i, rfl, h0, h1⟩
      have oi : ∀ i : Int, -100 ≤ i → i ≤ 100 → DOkD (.int i) 0 2 := fun i h0 h1 => okd_int (by omega) (by omega) 2
      rw [ed]
      refine ifSF (i := 1) (s := kd) rfl (by rw [eqv_dec, decide_eq_false k1]) ?_
      refine stepX (fun L => L.length = 7 ∧ (kd = Str.ofString "sounds" → ∀ y ∈ L, OddX kd y) ∧ ∀ y ∈ L.take 3, OddX kd y) (fun C hC => ?_) fun L hL => ?_
      · walk_at "dlsym"
        repeat (refine And.intro (by omega) ?_)
        refine hC _ ⟨rfl, fun k2 y hy => ?_, fun y hy => ?_⟩
        · simp only [List.mem_cons, List.not_mem_nil, or_false] at hy
          rcases hy with rfl | rfl | rfl | rfl | rfl | rfl | rfl
          · exact .lst o l
          · exact .txt k1 (by decide +kernel) (by decide +kernel)
          · exact .txt k1 (by decide +kernel) (by decide +kernel)
          · exact .add k1 o l (.ls (nt 1 (by decide) (by decide)) (nt 2 (by decide) (by decide))) ((okd2 (oi 1 (by decide) (by decide)) (oi 2 (by decide) (by decide))).lst.mono (by decide) (by decide)) (by rw [if_pos k2]; rfl)
          · exact .add k1 o l (.tp (nt 10 (by decide) (by decide)) (nt 1 (by decide) (by decide))) ((okd2 (oi 10 (by decide) (by decide)) (oi 1 (by decide) (by decide))).tup.mono (by decide) (by decide)) (by rw [if_pos k2]; rfl)
          · exact .add k1 o l (.tp (nt 1 (by decide) (by decide)) (nt (-1) (by decide) (by decide))) ((okd2 (oi 1 (by decide) (by decide)) (oi (-1) (by decide) (by decide))).tup.mono (by decide) (by decide)) (by rw [if_pos k2]; rfl)
          · exact .add k1 o l (.tp (.inr ⟨true, rfl⟩) (nt 1 (by decide) (by decide))) ((okd2 (okd_bool true 2) (oi 1 (by decide) (by decide))).tup.mono (by decide) (by decide)) (by rw [if_pos k2]; rfl)
        · simp only [List.take_succ_cons, List.take_zero, List.mem_cons, List.not_mem_nil, or_false] at hy
          rcases hy with rfl | rfl | rfl
          · exact .lst o l
          · exact .txt k1 (by decide +kernel) (by decide +kernel)
          · exact .txt k1 (by decide +kernel) (by decide +kernel)
      obtain ⟨L7, Ls, Lt⟩ := hL
      by_cases k2 : kd = Str.ofString "sounds"
      · refine ifNF (i := 1) (s := kd) rfl (by rw [eqv_dec, decide_eq_true k2]) ?_
        have Ls := Ls k2
        clear Lt
        refine stepX (fun L => L.length = 12 ∧ ∀ y ∈ L, OddX kd y) (fun C hC => ?_) fun L2 hL2 => ?_
        · walk_at "dlsym"
          repeat (refine And.intro (by first | omega | (simp only [List.length_cons, List.length_nil]; omega)) ?_)
          refine hC _ ⟨by rw [List.length_append, L7]; rfl, fun y hy => ?_⟩
          rcases List.mem_append.mp hy with hy | hy
          · exact Ls y hy
          · simp only [List.mem_cons, List.not_mem_nil, or_false] at hy
            rcases hy with rfl | rfl | rfl | rfl | rfl
            · exact .add k1 o l (.tp (nt 1 (by decide) (by decide)) (nt 10 (by decide) (by decide))) ((okd2 (oi 1 (by decide) (by decide)) (oi 10 (by decide) (by decide))).tup.mono (by decide) (by decide)) (by rw [if_pos k2]; rfl)
            · exact .add k1 o l (.tx _ (by decide +kernel) (by decide +kernel)) ((okd_lit (w := Str.ofString "a") (by decide +kernel) 3).mono (by decide +kernel) (Nat.le_refl _)) (by rw [if_pos k2]; rfl)
            · exact .add k1 o l (.tx _ (by decide +kernel) (by decide +kernel)) ((okd_lit (w := Str.ofString "") (by decide +kernel) 3).mono (by decide +kernel) (Nat.le_refl _)) (by rw [if_pos k2]; rfl)
            · exact .pre k1 o l (.tx _ (by decide +kernel) (by decide +kernel)) ((okd_lit (w := Str.ofString "abc") (by decide +kernel) 3).mono (by decide +kernel) (Nat.le_refl _)) (by rw [if_pos k2]; rfl)
            · exact .add k1 o l (.tp (nt 1 (by decide) (by decide)) (.inr ⟨false, rfl⟩)) ((okd2 (oi 1 (by decide) (by decide)) (okd_bool false 2)).tup.mono (by decide) (by decide)) (by rw [if_pos k2]; rfl)
        obtain ⟨L12, Lo⟩ := hL2
        walk_at "dlsym"
        refine ⟨n, m, em, hu, by omega, by decide, by decide, fun j m' j0 j1 hu' => ?_⟩
        exact onS_at j0 (by rw [L12]; exact j1) fun y hy => q y m' (Lo y hy) hu'
      · refine ifNT (i := 1) (s := kd) rfl (by rw [eqv_dec, decide_eq_false k2]) fun N _ => ?_
        clear Ls
        have ec : cutG L none (some 3) = L.take 3 := by
          match L, L7 with
          | [x1, x2, x3, x4, x5, x6, x7], _ => rfl
        have l3 : (L.take 3).length = 3 := by rw [List.length_take, L7]; rfl
        walk_at "dlsym"
        rw [ec]
        refine ⟨by omega, by omega, n, m, em, hu, by omega, by decide, by decide, fun j m' j0 j1 hu' => ?_⟩
        refine onS_at j0 (by rw [List.length_append, l3]; exact j1) fun y hy => q y m' ?_ hu'
        rcases List.mem_append.mp hy with hy | hy
        · exact Lt y hy
        · rw [List.mem_singleton.mp hy]
          exact .add k1 o l (.tp (nt 1 (by decide) (by decide)) (nt 1 (by decide) (by decide))) ((okd2 (oi 1 (by decide) (by decide)) (oi 1 (by decide) (by decide))).tup.mono (by decide) (by decide)) (by rw [if_neg k2]; rfl)
  · exact h.elim

theorem ok_d_law_odd_signs {P : Program} {w : World} {K : PySem.W.Frag} {mg : Str → Option Value} {base : Heap} (T : Tx w K mg) : FG P w K mg base CX0 2 T.f_d_law_odd_signs T.fd_d_law_odd_signs ["urn", "kind", "signs"] (lSp K sp_d_law_odd_signs) := by
  refine fg_data T.F_d_law_odd_signs sc_d_law_odd_signs (fun ws μ R h => ar_d_law_odd_signs h) body_d_law_odd_signs (fun cdv A outer s H E hr hgd => ?_) (fun ws μ R h => rd_d_law_odd_signs h)
  have nd := sc_d_law_odd_signs.nd
  exact (dss_cons (ds_if (dt_cmp (op_eqP (u100 hr)) l_eqV (de_var 1 (pv 1)) de_str (nomark _)) (dss_one (ds_ret (de_ix (de_lst (da_cons (de_callT (call_tupA rfl) l_tupofS (by rfl) T.z_tuple (by decide +kernel) (da_cons (de_var 2 (pv 2)) da_nil (by rfl)) (by decide) (by decide) (by rfl) (by rfl)) (da_cons (de_add (de_callT (call_lstA rfl) l_listS (by rfl) T.z_list (by decide +kernel) (da_cons (de_var 2 (pv 2)) da_nil (by rfl)) (by decide) (by decide) (by rfl) (by rfl)) (de_lst (da_cons de_str da_nil (by rfl)))) (da_cons (de_tup (da_cons de_str (da_cons de_str da_nil (by rfl)) (by rfl))) da_nil (by rfl)) (by rfl)) (by rfl))) (de_call (ok_d_law_take T) (hr.mono (by first | decide | omega)) hgd (by rfl) T.m_d_law_take T.F_d_law_take.kp T.b_d_law_take (da_cons (de_var 0 (pv 0)) (da_cons de_int da_nil (by rfl)) (by rfl)) (by decide) (by rfl) (by rfl)) (fun _ _ => rfl)))) dss_nil)
  (dss_cons (ds_set (ps_set (i := 3) nd rfl (by first | exact Or.inl rfl | exact Or.inr rfl) (de_lst (da_cons (de_callT (call_lstA rfl) l_listS (by rfl) T.z_list (by decide +kernel) (da_cons (de_var 2 (pv 2)) da_nil (by rfl)) (by decide) (by decide) (by rfl) (by rfl)) (da_cons de_str (da_cons de_str (da_cons (de_add (de_var 2 (pv 2)) (de_tup (da_cons (de_lst (da_cons de_int (da_cons de_int da_nil (by rfl)) (by rfl))) da_nil (by rfl)))) (da_cons (de_add (de_var 2 (pv 2)) (de_tup (da_cons (de_tup (da_cons de_int (da_cons de_int da_nil (by rfl)) (by rfl))) da_nil (by rfl)))) (da_cons (de_add (de_var 2 (pv 2)) (de_tup (da_cons (de_tup (da_cons de_int (da_cons (de_op op_sub l_sub de_int de_int) da_nil (by rfl)) (by rfl))) da_nil (by rfl)))) (da_cons (de_add (de_var 2 (pv 2)) (de_tup (da_cons (de_tup (da_cons de_bl (da_cons de_int da_nil (by rfl)) (by rfl))) da_nil (by rfl)))) da_nil (by rfl)) (by rfl)) (by rfl)) (by rfl)) (by rfl)) (by rfl)) (by rfl))).pe))
  (dss_cons (ds_if (dt_cmp (op_neP (u100 hr)) l_neV (de_var 1 (pv 1)) de_str (nomark _)) (dss_one (ds_ret (de_ix (de_add (de_sl (de_var 3 (pv 3)) do_none (do_some de_int)) (de_lst (da_cons (de_add (de_var 2 (pv 2)) (de_tup (da_cons (de_tup (da_cons de_int (da_cons de_int da_nil (by rfl)) (by rfl))) da_nil (by rfl)))) da_nil (by rfl)))) (de_call (ok_d_law_take T) (hr.mono (by first | decide | omega)) hgd (by rfl) T.m_d_law_take T.F_d_law_take.kp T.b_d_law_take (da_cons (de_var 0 (pv 0)) (da_cons de_int da_nil (by rfl)) (by rfl)) (by decide) (by rfl) (by rfl)) (fun _ _ => rfl)))) dss_nil)
  (dss_cons (ds_set (ps_set (i := 3) nd rfl (by first | exact Or.inl rfl | exact Or.inr rfl) (de_add (de_var 3 (pv 3)) (de_lst (da_cons (de_add (de_var 2 (pv 2)) (de_tup (da_cons (de_tup (da_cons de_int (da_cons de_int da_nil (by rfl)) (by rfl))) da_nil (by rfl)))) (da_cons (de_add (de_var 2 (pv 2)) (de_tup (da_cons de_str da_nil (by rfl)))) (da_cons (de_add (de_var 2 (pv 2)) (de_tup (da_cons de_str da_nil (by rfl)))) (da_cons (de_add (de_tup (da_cons de_str da_nil (by rfl))) (de_var 2 (pv 2))) (da_cons (de_add (de_var 2 (pv 2)) (de_tup (da_cons (de_tup (da_cons de_int (da_cons de_bl da_nil (by rfl)) (by rfl))) da_nil (by rfl)))) da_nil (by rfl)) (by rfl)) (by rfl)) (by rfl)) (by rfl)))).pe))
  (dss_one (ds_ret (de_ix (de_var 3 (pv 3)) (de_call (ok_d_law_take T) (hr.mono (by first | decide | omega)) hgd (by rfl) T.m_d_law_take T.F_d_law_take.kp T.b_d_law_take (da_cons (de_var 0 (pv 0)) (da_cons de_int da_nil (by rfl)) (by rfl)) (by decide) (by rfl) (by rfl)) (fun _ _ => rfl))))))))
def sp_d_law_odd : DSp := fun ws μ R => match ws with
  | [.v (.ref a), .d (.str kd), .d x] => ∃ t n o s σ z m, x = pc t n o s σ ∧ POk kd t n o s σ ∧ t ≤ 1000000000 ∧ n ≤ 20000 ∧ o ≤ 20000 ∧ s ≤ 1000000 ∧ σ.len ≤ 60 ∧ μ a = some m ∧ IsUrn z m ∧ z ≤ 2 ^ 58 ∧ ∀ y m', Odd kd y → IsUrn (z + 10) m' → R (.d y) (mset μ a m')
  | _ => False
theorem ar_d_law_odd {ws : List W} {μ : M} {R : DQ} (h : sp_d_law_odd ws μ R) : ws.length = 3 := by
  unfold sp_d_law_odd at h; split at h
  · rfl
  · exact h.elim

def body_d_law_odd : DTS := (tSeqD (tAsgD (tVarD 2) (gTupD 5 (gConsD (gNameD 3) (gConsD (gNameD 4) (gConsD (gNameD 5) (gConsD (gNameD 6) (gConsD (gNameD 7) gNilD)))))))
  (tSeqD (tSetD 8 (tCallD sp_d_law_take (tConsD (tVarD 0) (tConsD (tK (.d (.int 8))) tNilD))))
  (tSeqD (DL.tIfS (tTst (tOp2 eqV (tVarD 8) (tK (.d (.int 0))))) (tRetD (tOp2 ixD (tLstD (tConsD (tK (.d .none)) (tConsD (tK (.d (.int 5))) (tConsD (tK (.d (.str "piece"))) (tConsD (tLstD tNilD) (tConsD (tTupD tNilD) (tConsD tDict0 (tConsD (tK (.d (.bool true))) (tConsD (tTupD (tConsD (tK (.d (.str "bent"))) tNilD)) (tConsD (tLstD (tConsD (tVarD 2) tNilD)) (tConsD (tTupD (tConsD (tVarD 2) tNilD)) tNilD))))))))))) (tCallD sp_d_law_take (tConsD (tVarD 0) (tConsD (tK (.d (.int 10))) tNilD))))) tNextD)
  (tSeqD (DL.tIfS (tTst (tOp2 eqV (tVarD 8) (tK (.d (.int 1))))) (tRetD (tOp2 ixD (tLstD (tConsD (tCallB listSD (tConsD (tVarD 2) tNilD)) (tConsD (tOp2 addD (tVarD 2) (tTupD (tConsD (tK (.d (.int 0))) tNilD))) (tConsD (tSlD (tVarD 2) tNoD (tPartD (tK (.d (.int 4))))) (tConsD (tSlD (tVarD 2) (tPartD (tK (.d (.int 1)))) tNoD) (tConsD (tTupD (tConsD (tSlD (tVarD 2) tNoD (tPartD (tK (.d (.int 4))))) (tConsD (tVarD 7) tNilD))) tNilD)))))) (tCallD sp_d_law_take (tConsD (tVarD 0) (tConsD (tK (.d (.int 5))) tNilD))))) tNextD)
  (tSeqD (DL.tIfS (tTst (tOp2 eqV (tVarD 8) (tK (.d (.int 2))))) (tRetD (tCallD sp_d_law_sealed (tConsD (tVarD 3) (tConsD (tVarD 4) (tConsD (tVarD 5) (tConsD (tCallD sp_d_law_odd_signs (tConsD (tVarD 0) (tConsD (tVarD 1) (tConsD (tVarD 7) tNilD)))) tNilD)))))) tNextD)
  (tSeqD (DL.tIfS (tTst (tOp2 eqV (tVarD 8) (tK (.d (.int 3))))) (tRetD (tOp2 ixD (tLstD (tConsD (tCallD sp_d_law_sealed (tConsD (tVarD 3) (tConsD (tOp2 subD (tK (.d (.int 0))) (tK (.d (.int 1)))) (tConsD (tVarD 5) (tConsD (tVarD 7) tNilD))))) (tConsD (tCallD sp_d_law_sealed (tConsD (tOp2 subD (tK (.d (.int 0))) (tK (.d (.int 1)))) (tConsD (tVarD 4) (tConsD (tVarD 5) (tConsD (tVarD 7) tNilD))))) tNilD))) (tCallD sp_d_law_take (tConsD (tVarD 0) (tConsD (tK (.d (.int 2))) tNilD))))) tNextD)
  (tSeqD (DL.tIfS (tTst (tOp2 eqV (tVarD 8) (tK (.d (.int 4))))) (tSeqD (tSetD 9 (tLstD (tConsD (tK (.d (.int 0))) (tConsD (tVarD 4) (tConsD (tK (.d (.int 20001))) (tConsD (tOp2 powD (tK (.d (.int 10))) (tK (.d (.int 9)))) (tConsD (tOp2 subD (tK (.d (.int 0))) (tK (.d (.int 1)))) tNilD)))))))
  (tRetD (tCallD sp_d_law_sealed (tConsD (tVarD 3) (tConsD (tVarD 4) (tConsD (tOp2 ixD (tVarD 9) (tCallD sp_d_law_take (tConsD (tVarD 0) (tConsD (tK (.d (.int 5))) tNilD)))) (tConsD (tVarD 7) tNilD))))))) tNextD)
  (tSeqD (DL.tIfS (tTst (tOp2 eqV (tVarD 8) (tK (.d (.int 5))))) (tRetD (tOp2 ixD (tLstD (tConsD (tCallD sp_d_law_sealed (tConsD (tVarD 3) (tConsD (tK (.d (.bool false))) (tConsD (tVarD 5) (tConsD (tVarD 7) tNilD))))) (tConsD (tCallD sp_d_law_sealed (tConsD (tVarD 3) (tConsD (tVarD 4) (tConsD (tK (.d (.bool true))) (tConsD (tVarD 7) tNilD))))) (tConsD (tCallD sp_d_law_sealed (tConsD (tK (.d (.bool true))) (tConsD (tVarD 4) (tConsD (tVarD 5) (tConsD (tVarD 7) tNilD))))) tNilD)))) (tCallD sp_d_law_take (tConsD (tVarD 0) (tConsD (tK (.d (.int 3))) tNilD))))) tNextD)
  (tSeqD (DL.tIfS (tTst (tOp2 eqV (tVarD 8) (tK (.d (.int 6))))) (tRetD (tTupD (tConsD (tVarD 3) (tConsD (tVarD 4) (tConsD (tVarD 5) (tConsD (tOp2 ixD (tLstD (tConsD (tCallB strD (tConsD (tVarD 6) tNilD)) (tConsD (tK (.d .none)) (tConsD (tK (.d (.bool true))) (tConsD (tOp2 subD (tOp2 subD (tK (.d (.int 0))) (tVarD 6)) (tK (.d (.int 1)))) tNilD))))) (tCallD sp_d_law_take (tConsD (tVarD 0) (tConsD (tK (.d (.int 4))) tNilD)))) (tConsD (tVarD 7) tNilD))))))) tNextD)
  (tSeqD (tSetD 9 (tLstD (tConsD (tOp2 addD (tTupD (tConsD (tCallB strD (tConsD (tVarD 3) tNilD)) tNilD)) (tSlD (tVarD 2) (tPartD (tK (.d (.int 1)))) tNoD)) (tConsD (tOp2 addD (tTupD (tConsD (tVarD 3) (tConsD (tK (.d .none)) tNilD))) (tSlD (tVarD 2) (tPartD (tK (.d (.int 2)))) tNoD)) (tConsD (tOp2 addD (tTupD (tConsD (tVarD 3) (tConsD (tVarD 4) (tConsD (tLstD (tConsD (tVarD 5) tNilD)) tNilD)))) (tSlD (tVarD 2) (tPartD (tK (.d (.int 3)))) tNoD)) tNilD)))))
  (tRetD (tOp2 ixD (tVarD 9) (tCallD sp_d_law_take (tConsD (tVarD 0) (tConsD (tK (.d (.int 3))) tNilD)))))))))))))))
theorem sg_odd {kd : Str} {σ : Sig} (k : KS kd σ) (o : σ.Ok) (l : σ.len ≤ 60) : OddSg σ.D := by
  rcases k with ⟨_, s, rfl⟩ | ⟨a, s, rfl⟩ | ⟨a, s, rfl⟩
  · exact .tx _ (by rw [len_mk]; have l : s.length ≤ 60 := l; omega) (by rw [cd_mk]; exact o)
  · exact .tp _ (by rw [List.length_map]; have l : s.length ≤ 60 := l; omega) (it_items o)
  · exact .tp _ (by rw [List.length_map]; have l : s.length ≤ 60 := l; omega) (it_items o)
theorem eqIB {i j : Int} {b : Bool} {μ : M} {R : DQ} (e : PyData.eqv (.int i) (.int j) = b) (g : R (.d (.bool b)) μ) : eqD (vw (.d (.int i)) μ) (.d (.int j)) μ R := by
  subst e
  exact ⟨rfl, rfl, show min 0 0 ≤ 64 by decide, g⟩
theorem figs_dg {n : Int} (h0 : 0 ≤ n) : ∀ c ∈ cd (Str.ofString (toString n)), dg c = true := by
  obtain ⟨k, rfl⟩ := Int.eq_ofNat_of_zero_le h0
  intro c hc
  have hc : c ∈ (Str.ofString (toString (k : Int))).cps.toList := hc
  rw [PyProof.Rows.signs_ofString] at hc
  rw [List.mem_map] at hc
  obtain ⟨ch, hm, rfl⟩ := hc
  have hm : ch ∈ (Nat.toDigits 10 k) := by
    have e : toString (k : Int) = Nat.repr k := rfl
    rw [e] at hm
    unfold Nat.repr at hm
    simpa using hm
  have := Nat.isDigit_of_mem_toDigits (by decide) (by decide) hm
  simp only [Char.isDigit, Bool.and_eq_true, decide_eq_true_eq, ge_iff_le] at this
  simp only [dg, Bool.and_eq_true, decide_eq_true_eq]
  obtain ⟨a, b⟩ := this
  exact ⟨by simpa [UInt32.le_iff_toNat_le] using a, by simpa [UInt32.le_iff_toNat_le] using b⟩
theorem log_small {n : Int} (h0 : 0 ≤ n) (h1 : n ≤ 1000000000) : n.natAbs.log2 < 1920 := by
  rcases Nat.eq_zero_or_pos n.natAbs with z | z
  · rw [z]; decide
  · have : n.natAbs < 2 ^ 30 := by omega
    have := (Nat.log2_lt (n := n.natAbs) (by omega)).mpr this
    omega
theorem strI_okd {i : Int} (h0 : 0 ≤ i) (h1 : i ≤ 1000000000) : DOkD (.str (Str.ofString (toString i))) 40 40 := by
  have hl : (Str.ofString (toString i)).length ≤ 10 := PyProof.Rows.toString_length_le h0 (by decide) (by omega)
  refine (okd_lit (w := Str.ofString (toString i)) ?_ 40).mono (by omega) (Nat.le_refl _)
  rw [List.all_eq_true]
  intro c hc
  have := figs_dg h0 c hc
  simp only [dg, Bool.and_eq_true, decide_eq_true_eq] at this
  exact decide_eq_true (by omega)
theorem rd_d_law_odd {ws : List W} {μ : M} {R : DQ} (h : sp_d_law_odd ws μ R) : body_d_law_odd { nx := fun _ μ' => R (.d .none) μ', rt := R } (startD N_d_law_odd.length ws) μ := by
  unfold sp_d_law_odd at h
  split at h
  · rename_i a kd x
    obtain ⟨t, n, o, s, σ, z, m, rfl, pk, t1, n1, o1, s1, sl, em, hu, hz, q⟩ := h
    have t0 := pk.t0
    have n0 := pk.n0
    have o0 := pk.o0
    have s0 := pk.s0
    have so := sg_odd pk.ks pk.ok sl
    have nt : NumB (.int t) := .i (by omega) (by omega)
    have nn : NumB (.int n) := .i (by omega) (by omega)
    have no : NumB (.int o) := .i (by omega) (by omega)
    have kt := nt.okd 40
    have kn := nn.okd 40
    have ko := (no.okd 40).mono (show 0 ≤ 10 by decide) (Nat.le_refl _)
    have ks : DOkD (.int s) 40 40 := (okd_int2 (n := s) (by omega) (by omega) 40).mono (by decide) (Nat.le_refl _)
    have kσ : DOkD σ.D 20000 40 := (Sig.okd pk.ok).mono (by omega) (by decide)
    have kv : ∀ v : Int, 0 ≤ v → v < 999983 → DOkD (.int v) 40 40 := fun v v0 v1 => (okd_int (n := v) (by omega) (by omega) 40).mono (by decide) (Nat.le_refl _)
    have ft : ∀ i : Int, 0 ≤ i → fromB (.int i) = true := fun i h => decide_eq_true h
    have ff : ∀ i : Int, i < 0 → fromB (.int i) = false := fun i h => decide_eq_false (by omega)
    unfold body_d_law_odd pc
    walk_at "dlsym"
    rw [q_gTup5]
    walk_at "dlsym"
    refine ⟨z, m, em, hu, by omega, by decide, by decide, fun way m1 w0 w1 hu1 => ?_⟩
    have cases8 : way = 0 ∨ way = 1 ∨ way = 2 ∨ way = 3 ∨ way = 4 ∨ way = 5 ∨ way = 6 ∨ way = 7 := by omega
    rcases cases8 with rfl | rfl | rfl | rfl | rfl | rfl | rfl | rfl
    · have c0 : PyData.eqv (.int 0) (.int 0) = true := by rw [eqv_int]; rfl
      have c1 : PyData.eqv (.int 0) (.int 1) = false := by rw [eqv_int]; rfl
      have c2 : PyData.eqv (.int 0) (.int 2) = false := by rw [eqv_int]; rfl
      have c3 : PyData.eqv (.int 0) (.int 3) = false := by rw [eqv_int]; rfl
      have c4 : PyData.eqv (.int 0) (.int 4) = false := by rw [eqv_int]; rfl
      have c5 : PyData.eqv (.int 0) (.int 5) = false := by rw [eqv_int]; rfl
      have c6 : PyData.eqv (.int 0) (.int 6) = false := by rw [eqv_int]; rfl
      refine eqIB c0 ?_
      dsimp only
      rw [if_pos rfl]
      walk_at "dlsym"
      refine ⟨z + 1, m1, mset_same, hu1, by omega, by decide, by decide, fun j m2 j0 j1 hu2 => ?_⟩
      rw [mset_mset]
      walk_at "dlsym"
      refine onS_at j0 (by simpa using j1) fun y hy => q y m2 ?_ (hu2.mono (by omega))
      simp only [List.mem_cons, List.not_mem_nil, or_false] at hy
      rcases hy with rfl | rfl | rfl | rfl | rfl | rfl | rfl | rfl | rfl | rfl
      · exact ⟨rfl, fun _ e => (by cases e), _, fun μ C q => q⟩
      · exact ⟨rfl, fun _ e => (by cases e), _, fun μ C q => ⟨by decide +kernel, q⟩⟩
      · exact ⟨rfl, fun _ e => (by cases e), _, fun μ C q => ⟨by decide +kernel, q⟩⟩
      · exact .lst ((DOks.nil (b := 0) (dpt := 40)).lst.mono (by decide) (by decide))
      · exact .tup ((DOks.nil (b := 0) (dpt := 40)).tup.mono (by decide) (by decide)) rfl
      · exact ⟨rfl, fun _ e => (by cases e), _, fun μ C q => ⟨rfl, rfl, by decide, by decide +kernel, q⟩⟩
      · exact ⟨rfl, fun _ e => (by cases e), _, fun μ C q => q⟩
      · exact .tup ((DOks.cons (okd_lit (w := Str.ofString "bent") (by decide +kernel) 3) (DOks.nil (b := 0))).tup.mono (by decide +kernel) (by decide)) rfl
      · exact .lst ((DOks.cons (okd5 kt kn ko ks kσ).tup (DOks.nil (b := 0))).lst.mono (by decide) (by decide))
      · exact .tup ((DOks.cons (okd5 kt kn ko ks kσ).tup (DOks.nil (b := 0))).tup.mono (by decide) (by decide)) rfl
    · have c0 : PyData.eqv (.int 1) (.int 0) = false := by rw [eqv_int]; rfl
      have c1 : PyData.eqv (.int 1) (.int 1) = true := by rw [eqv_int]; rfl
      have c2 : PyData.eqv (.int 1) (.int 2) = false := by rw [eqv_int]; rfl
      have c3 : PyData.eqv (.int 1) (.int 3) = false := by rw [eqv_int]; rfl
      have c4 : PyData.eqv (.int 1) (.int 4) = false := by rw [eqv_int]; rfl
      have c5 : PyData.eqv (.int 1) (.int 5) = false := by rw [eqv_int]; rfl
      have c6 : PyData.eqv (.int 1) (.int 6) = false := by rw [eqv_int]; rfl
      refine eqIB c0 ?_
      dsimp only
      rw [if_neg (by decide)]
      refine eqIB c1 ?_
      dsimp only
      rw [if_pos rfl]
      walk_at "dlsym"
      rw [show cutG [PyData.int t, .int n, .int o, .int s, σ.D] none (some 4) = [.int t, .int n, .int o, .int s] from rfl, show cutG [PyData.int t, .int n, .int o, .int s, σ.D] (some 1) none = [.int n, .int o, .int s, σ.D] from rfl]
      repeat (refine And.intro (by decide) ?_)
      refine ⟨z + 1, m1, mset_same, hu1, by omega, by decide, by decide, fun j m2 j0 j1 hu2 => ?_⟩
      rw [mset_mset]
      walk_at "dlsym"
      refine onS_at j0 (by simpa using j1) fun y hy => q y m2 ?_ (hu2.mono (by omega))
      simp only [List.mem_cons, List.not_mem_nil, or_false] at hy
      have k4 : DOks [PyData.int t, .int n, .int o, .int s] 200 40 := (DOks.cons kt (DOks.cons kn (DOks.cons ko (DOks.cons ks (DOks.nil (b := 0)))))).mono (by decide) (Nat.le_refl _)
      rcases hy with rfl | rfl | rfl | rfl | rfl
      · exact .lst ((okd5 kt kn ko ks kσ).lst.mono (by decide) (by decide))
      · exact .tup ((oks_app (okd5 kt kn ko ks kσ) (DOks.cons (okd_int (n := 0) (by decide) (by decide) 40) (DOks.nil (b := 0)))).tup.mono (by decide) (by decide)) rfl
      · exact .tup (k4.tup.mono (by decide) (by decide)) rfl
      · exact .tup ((DOks.cons kn (DOks.cons ko (DOks.cons ks (DOks.cons kσ (DOks.nil (b := 0)))))).tup.mono (by decide) (by decide)) rfl
      · exact .tup ((DOks.cons k4.tup (DOks.cons (kσ.mono (Nat.le_refl _) (show 40 ≤ 41 by decide)) (DOks.nil (b := 0)))).tup.mono (by decide) (by decide)) rfl
    · have c0 : PyData.eqv (.int 2) (.int 0) = false := by rw [eqv_int]; rfl
      have c1 : PyData.eqv (.int 2) (.int 1) = false := by rw [eqv_int]; rfl
      have c2 : PyData.eqv (.int 2) (.int 2) = true := by rw [eqv_int]; rfl
      have c3 : PyData.eqv (.int 2) (.int 3) = false := by rw [eqv_int]; rfl
      have c4 : PyData.eqv (.int 2) (.int 4) = false := by rw [eqv_int]; rfl
      have c5 : PyData.eqv (.int 2) (.int 5) = false := by rw [eqv_int]; rfl
      have c6 : PyData.eqv (.int 2) (.int 6) = false := by rw [eqv_int]; rfl
      refine eqIB c0 ?_
      dsimp only
      rw [if_neg (by decide)]
      refine eqIB c1 ?_
      dsimp only
      rw [if_neg (by decide)]
      refine eqIB c2 ?_
      dsimp only
      rw [if_pos rfl]
      walk_at "dlsym"
      refine ⟨z + 1, m1, σ, mset_same, hu1, by omega, rfl, pk.ks, pk.ok, sl, fun y m2 hy hu2 => ?_⟩
      rw [mset_mset]
      walk_at "dlsym"
      refine ⟨nt, nn, no, hy.sg, fun v v0 v1 => ?_⟩
      walk_at "dlsym"
      refine q _ m2 (.five kt kn ko (kv v v0 v1) hy.ok ?_) (hu2.mono (by omega))
      rw [hy.no, Bool.and_false]
    · have c0 : PyData.eqv (.int 3) (.int 0) = false := by rw [eqv_int]; rfl
      have c1 : PyData.eqv (.int 3) (.int 1) = false := by rw [eqv_int]; rfl
      have c2 : PyData.eqv (.int 3) (.int 2) = false := by rw [eqv_int]; rfl
      have c3 : PyData.eqv (.int 3) (.int 3) = true := by rw [eqv_int]; rfl
      have c4 : PyData.eqv (.int 3) (.int 4) = false := by rw [eqv_int]; rfl
      have c5 : PyData.eqv (.int 3) (.int 5) = false := by rw [eqv_int]; rfl
      have c6 : PyData.eqv (.int 3) (.int 6) = false := by rw [eqv_int]; rfl
      refine eqIB c0 ?_
      dsimp only
      rw [if_neg (by decide)]
      refine eqIB c1 ?_
      dsimp only
      rw [if_neg (by decide)]
      refine eqIB c2 ?_
      dsimp only
      rw [if_neg (by decide)]
      refine eqIB c3 ?_
      dsimp only
      rw [if_pos rfl]
      walk_at "dlsym"
      refine ⟨nt, .i (by decide) (by decide), no, so, fun v v0 v1 => ?_⟩
      walk_at "dlsym"
      refine ⟨.i (by decide) (by decide), nn, no, so, fun v2 v20 v21 => ?_⟩
      walk_at "dlsym"
      refine ⟨z + 1, m1, mset_same, hu1, by omega, by decide, by decide, fun j m2 j0 j1 hu2 => ?_⟩
      rw [mset_mset]
      walk_at "dlsym"
      refine onS_at j0 (by simpa using j1) fun y hy => q y m2 ?_ (hu2.mono (by omega))
      simp only [List.mem_cons, List.not_mem_nil, or_false] at hy
      have k1 : DOkD (.int (-1)) 0 40 := okd_int (by decide) (by decide) 40
      rcases hy with rfl | rfl
      · exact .five kt k1 ko (kv v v0 v1) kσ (by simp [ff])
      · exact .five k1 kn ko (kv v2 v20 v21) kσ (by simp [ff])
    · have c0 : PyData.eqv (.int 4) (.int 0) = false := by rw [eqv_int]; rfl
      have c1 : PyData.eqv (.int 4) (.int 1) = false := by rw [eqv_int]; rfl
      have c2 : PyData.eqv (.int 4) (.int 2) = false := by rw [eqv_int]; rfl
      have c3 : PyData.eqv (.int 4) (.int 3) = false := by rw [eqv_int]; rfl
      have c4 : PyData.eqv (.int 4) (.int 4) = true := by rw [eqv_int]; rfl
      have c5 : PyData.eqv (.int 4) (.int 5) = false := by rw [eqv_int]; rfl
      have c6 : PyData.eqv (.int 4) (.int 6) = false := by rw [eqv_int]; rfl
      refine eqIB c0 ?_
      dsimp only
      rw [if_neg (by decide)]
      refine eqIB c1 ?_
      dsimp only
      rw [if_neg (by decide)]
      refine eqIB c2 ?_
      dsimp only
      rw [if_neg (by decide)]
      refine eqIB c3 ?_
      dsimp only
      rw [if_neg (by decide)]
      refine eqIB c4 ?_
      dsimp only
      rw [if_pos rfl]
      walk_at "dlsym"
      refine ⟨⟨by decide, by decide, by decide⟩, ?_⟩
      refine ⟨z + 1, m1, mset_same, hu1, by omega, by decide, by decide, fun j m2 j0 j1 hu2 => ?_⟩
      rw [mset_mset]
      walk_at "dlsym"
      refine onS_at j0 (by simpa using j1) fun y hy => ?_
      simp only [List.mem_cons, List.not_mem_nil, or_false] at hy
      have hy2 : ∃ i : Int, y = .int i ∧ -100000000000000 ≤ i ∧ i ≤ 100000000000000 ∧ inR n i = false := by
        rcases hy with rfl | rfl | rfl | rfl | rfl
        · exact ⟨0, rfl, by decide, by decide, by unfold inR; rw [decide_eq_false (by omega)]; rfl⟩
        · exact ⟨n, rfl, by omega, by omega, by unfold inR; rw [decide_eq_false (by omega)]; rfl⟩
        · exact ⟨20001, rfl, by decide, by decide, by unfold inR; rw [decide_eq_false (show ¬ (20001 : Int) ≤ 20000 by decide), Bool.and_false]⟩
        · exact ⟨_, rfl, by decide, by decide, by unfold inR; rw [decide_eq_false (show ¬ ((1000000000 : Int)) ≤ 20000 by decide), Bool.and_false]⟩
        · exact ⟨_, rfl, by decide, by decide, by unfold inR; rw [decide_eq_false (by omega)]; rfl⟩
      obtain ⟨i, rfl, i0, i1, hi⟩ := hy2
      refine ⟨nt, nn, .i i0 i1, so, fun v v0 v1 => ?_⟩
      walk_at "dlsym"
      refine q _ m2 (.five kt kn ((okd_int2 i0 i1 40).mono (by decide) (Nat.le_refl _)) (kv v v0 v1) kσ ?_) (hu2.mono (by omega))
      rw [show inRD (.int n) (.int i) = inR n i from rfl, hi, Bool.and_false, Bool.false_and]
    · have c0 : PyData.eqv (.int 5) (.int 0) = false := by rw [eqv_int]; rfl
      have c1 : PyData.eqv (.int 5) (.int 1) = false := by rw [eqv_int]; rfl
      have c2 : PyData.eqv (.int 5) (.int 2) = false := by rw [eqv_int]; rfl
      have c3 : PyData.eqv (.int 5) (.int 3) = false := by rw [eqv_int]; rfl
      have c4 : PyData.eqv (.int 5) (.int 4) = false := by rw [eqv_int]; rfl
      have c5 : PyData.eqv (.int 5) (.int 5) = true := by rw [eqv_int]; rfl
      have c6 : PyData.eqv (.int 5) (.int 6) = false := by rw [eqv_int]; rfl
      refine eqIB c0 ?_
      dsimp only
      rw [if_neg (by decide)]
      refine eqIB c1 ?_
      dsimp only
      rw [if_neg (by decide)]
      refine eqIB c2 ?_
      dsimp only
      rw [if_neg (by decide)]
      refine eqIB c3 ?_
      dsimp only
      rw [if_neg (by decide)]
      refine eqIB c4 ?_
      dsimp only
      rw [if_neg (by decide)]
      refine eqIB c5 ?_
      dsimp only
      rw [if_pos rfl]
      walk_at "dlsym"
      refine ⟨nt, .b _, no, so, fun v v0 v1 => ?_⟩
      walk_at "dlsym"
      refine ⟨nt, nn, .b _, so, fun v2 v20 v21 => ?_⟩
      walk_at "dlsym"
      refine ⟨.b _, nn, no, so, fun v3 v30 v31 => ?_⟩
      walk_at "dlsym"
      refine ⟨z + 1, m1, mset_same, hu1, by omega, by decide, by decide, fun j m2 j0 j1 hu2 => ?_⟩
      rw [mset_mset]
      walk_at "dlsym"
      refine onS_at j0 (by simpa using j1) fun y hy => q y m2 ?_ (hu2.mono (by omega))
      simp only [List.mem_cons, List.not_mem_nil, or_false] at hy
      rcases hy with rfl | rfl | rfl
      · exact .five kt (okd_bool _ 40) ko (kv v v0 v1) kσ (by simp [fromB])
      · exact .five kt kn ((okd_bool _ 40).mono (by decide) (Nat.le_refl _)) (kv v2 v20 v21) kσ (by simp [fromB])
      · exact .five (okd_bool _ 40) kn ko (kv v3 v30 v31) kσ (by simp [fromB])
    · have c0 : PyData.eqv (.int 6) (.int 0) = false := by rw [eqv_int]; rfl
      have c1 : PyData.eqv (.int 6) (.int 1) = false := by rw [eqv_int]; rfl
      have c2 : PyData.eqv (.int 6) (.int 2) = false := by rw [eqv_int]; rfl
      have c3 : PyData.eqv (.int 6) (.int 3) = false := by rw [eqv_int]; rfl
      have c4 : PyData.eqv (.int 6) (.int 4) = false := by rw [eqv_int]; rfl
      have c5 : PyData.eqv (.int 6) (.int 5) = false := by rw [eqv_int]; rfl
      have c6 : PyData.eqv (.int 6) (.int 6) = true := by rw [eqv_int]; rfl
      refine eqIB c0 ?_
      dsimp only
      rw [if_neg (by decide)]
      refine eqIB c1 ?_
      dsimp only
      rw [if_neg (by decide)]
      refine eqIB c2 ?_
      dsimp only
      rw [if_neg (by decide)]
      refine eqIB c3 ?_
      dsimp only
      rw [if_neg (by decide)]
      refine eqIB c4 ?_
      dsimp only
      rw [if_neg (by decide)]
      refine eqIB c5 ?_
      dsimp only
      rw [if_neg (by decide)]
      refine eqIB c6 ?_
      dsimp only
      rw [if_pos rfl]
      walk_at "dlsym"
      refine ⟨log_small s0 (by omega), ?_⟩
      refine ⟨z + 1, m1, mset_same, hu1, by omega, by decide, by decide, fun j m2 j0 j1 hu2 => ?_⟩
      rw [mset_mset]
      walk_at "dlsym"
      refine onS_at j0 (by simpa using j1) fun y hy => ?_
      simp only [List.mem_cons, List.not_mem_nil, or_false] at hy
      have hy2 : DOkD y 40 40 ∧ fromB y = false := by
        rcases hy with rfl | rfl | rfl | rfl
        · exact ⟨strI_okd s0 (by omega), rfl⟩
        · exact ⟨(okd_none 40).mono (by decide) (Nat.le_refl _), rfl⟩
        · exact ⟨(okd_bool _ 40).mono (by decide) (Nat.le_refl _), rfl⟩
        · exact ⟨(okd_int2 (by omega) (by omega) 40).mono (by decide) (Nat.le_refl _), ff _ (by omega)⟩
      refine q _ m2 (.five kt kn ko hy2.1 kσ ?_) (hu2.mono (by omega))
      simp [hy2.2]
    · have c0 : PyData.eqv (.int 7) (.int 0) = false := by rw [eqv_int]; rfl
      have c1 : PyData.eqv (.int 7) (.int 1) = false := by rw [eqv_int]; rfl
      have c2 : PyData.eqv (.int 7) (.int 2) = false := by rw [eqv_int]; rfl
      have c3 : PyData.eqv (.int 7) (.int 3) = false := by rw [eqv_int]; rfl
      have c4 : PyData.eqv (.int 7) (.int 4) = false := by rw [eqv_int]; rfl
      have c5 : PyData.eqv (.int 7) (.int 5) = false := by rw [eqv_int]; rfl
      have c6 : PyData.eqv (.int 7) (.int 6) = false := by rw [eqv_int]; rfl
      refine eqIB c0 ?_
      dsimp only
      rw [if_neg (by decide)]
      refine eqIB c1 ?_
      dsimp only
      rw [if_neg (by decide)]
      refine eqIB c2 ?_
      dsimp only
      rw [if_neg (by decide)]
      refine eqIB c3 ?_
      dsimp only
      rw [if_neg (by decide)]
      refine eqIB c4 ?_
      dsimp only
      rw [if_neg (by decide)]
      refine eqIB c5 ?_
      dsimp only
      rw [if_neg (by decide)]
      refine eqIB c6 ?_
      dsimp only
      rw [if_neg (by decide)]
      walk_at "dlsym"
      rw [show cutG [PyData.int t, .int n, .int o, .int s, σ.D] (some 1) none = [.int n, .int o, .int s, σ.D] from rfl, show cutG [PyData.int t, .int n, .int o, .int s, σ.D] (some 2) none = [.int o, .int s, σ.D] from rfl, show cutG [PyData.int t, .int n, .int o, .int s, σ.D] (some 3) none = [.int s, σ.D] from rfl]
      refine ⟨log_small t0 t1, ?_⟩
      repeat (refine And.intro (by simp only [List.length_cons, List.length_nil]; omega) ?_)
      refine ⟨z + 1, m1, mset_same, hu1, by omega, by decide, by decide, fun j m2 j0 j1 hu2 => ?_⟩
      rw [mset_mset]
      walk_at "dlsym"
      refine onS_at j0 (by simpa using j1) fun y hy => q y m2 ?_ (hu2.mono (by omega))
      simp only [List.mem_cons, List.not_mem_nil, or_false] at hy
      rcases hy with rfl | rfl | rfl
      · refine .tup ((DOks.cons (strI_okd t0 t1) (DOks.cons kn (DOks.cons ko (DOks.cons ks (DOks.cons kσ (DOks.nil (b := 0))))))).tup.mono (by decide) (by decide)) ?_
        simp [pieceB, fromB]
      · exact .five kt (okd_none 40) ko ks kσ (by simp [fromB])
      · exact .five kt kn ((DOks.cons (no.okd 30) (DOks.nil (b := 0))).lst.mono (by decide) (by decide)) ks kσ (by simp [fromB])
  · exact h.elim

theorem ok_d_law_odd {P : Program} {w : World} {K : PySem.W.Frag} {mg : Str → Option Value} {base : Heap} (T : Tx w K mg) : FG P w K mg base CX0 3 T.f_d_law_odd T.fd_d_law_odd ["urn", "kind", "piece"] (lSp K sp_d_law_odd) := by
  refine fg_data T.F_d_law_odd sc_d_law_odd (fun ws μ R h => ar_d_law_odd h) body_d_law_odd (fun cdv A outer s H E hr hgd => ?_) (fun ws μ R h => rd_d_law_odd h)
  have nd := sc_d_law_odd.nd
  exact (dss_cons (ds_asg (ps_asg (de_var 2 (pv 2)).pe (dg_tup rfl (dgs_cons (dg_name (pg_name (i := 3) nd rfl (by first | exact Or.inl rfl | exact Or.inr rfl))) (dgs_cons (dg_name (pg_name (i := 4) nd rfl (by first | exact Or.inl rfl | exact Or.inr rfl))) (dgs_cons (dg_name (pg_name (i := 5) nd rfl (by first | exact Or.inl rfl | exact Or.inr rfl))) (dgs_cons (dg_name (pg_name (i := 6) nd rfl (by first | exact Or.inl rfl | exact Or.inr rfl))) (dgs_cons (dg_name (pg_name (i := 7) nd rfl (by first | exact Or.inl rfl | exact Or.inr rfl))) dgs_nil (by rfl)) (by rfl)) (by rfl)) (by rfl)) (by rfl)) (by rfl) (by rfl)).pg))
  (dss_cons (ds_set (ps_set (i := 8) nd rfl (by first | exact Or.inl rfl | exact Or.inr rfl) (de_call (ok_d_law_take T) (hr.mono (by first | decide | omega)) hgd (by rfl) T.m_d_law_take T.F_d_law_take.kp T.b_d_law_take (da_cons (de_var 0 (pv 0)) (da_cons de_int da_nil (by rfl)) (by rfl)) (by decide) (by rfl) (by rfl)).pe))
  (dss_cons (ds_if (dt_cmp (op_eqP (u100 hr)) l_eqV (de_var 8 (pv 8)) de_int (nomark _)) (dss_one (ds_ret (de_ix (de_lst (da_cons de_non (da_cons de_int (da_cons de_str (da_cons (de_lst da_nil) (da_cons (de_tup da_nil) (da_cons de_dict0 (da_cons de_bl (da_cons (de_tup (da_cons de_str da_nil (by rfl))) (da_cons (de_lst (da_cons (de_var 2 (pv 2)) da_nil (by rfl))) (da_cons (de_tup (da_cons (de_var 2 (pv 2)) da_nil (by rfl))) da_nil (by rfl)) (by rfl)) (by rfl)) (by rfl)) (by rfl)) (by rfl)) (by rfl)) (by rfl)) (by rfl)) (by rfl))) (de_call (ok_d_law_take T) (hr.mono (by first | decide | omega)) hgd (by rfl) T.m_d_law_take T.F_d_law_take.kp T.b_d_law_take (da_cons (de_var 0 (pv 0)) (da_cons de_int da_nil (by rfl)) (by rfl)) (by decide) (by rfl) (by rfl)) (fun _ _ => rfl)))) dss_nil)
  (dss_cons (ds_if (dt_cmp (op_eqP (u100 hr)) l_eqV (de_var 8 (pv 8)) de_int (nomark _)) (dss_one (ds_ret (de_ix (de_lst (da_cons (de_callT (call_lstA rfl) l_listS (by rfl) T.z_list (by decide +kernel) (da_cons (de_var 2 (pv 2)) da_nil (by rfl)) (by decide) (by decide) (by rfl) (by rfl)) (da_cons (de_add (de_var 2 (pv 2)) (de_tup (da_cons de_int da_nil (by rfl)))) (da_cons (de_sl (de_var 2 (pv 2)) do_none (do_some de_int)) (da_cons (de_sl (de_var 2 (pv 2)) (do_some de_int) do_none) (da_cons (de_tup (da_cons (de_sl (de_var 2 (pv 2)) do_none (do_some de_int)) (da_cons (de_var 7 (pv 7)) da_nil (by rfl)) (by rfl))) da_nil (by rfl)) (by rfl)) (by rfl)) (by rfl)) (by rfl))) (de_call (ok_d_law_take T) (hr.mono (by first | decide | omega)) hgd (by rfl) T.m_d_law_take T.F_d_law_take.kp T.b_d_law_take (da_cons (de_var 0 (pv 0)) (da_cons de_int da_nil (by rfl)) (by rfl)) (by decide) (by rfl) (by rfl)) (fun _ _ => rfl)))) dss_nil)
  (dss_cons (ds_if (dt_cmp (op_eqP (u100 hr)) l_eqV (de_var 8 (pv 8)) de_int (nomark _)) (dss_one (ds_ret (de_call (ok_d_law_sealed T) (hr.mono (by first | decide | omega)) hgd (by rfl) T.m_d_law_sealed T.F_d_law_sealed.kp T.b_d_law_sealed (da_cons (de_var 3 (pv 3)) (da_cons (de_var 4 (pv 4)) (da_cons (de_var 5 (pv 5)) (da_cons (de_call (ok_d_law_odd_signs T) (hr.mono (by first | decide | omega)) hgd (by rfl) T.m_d_law_odd_signs T.F_d_law_odd_signs.kp T.b_d_law_odd_signs (da_cons (de_var 0 (pv 0)) (da_cons (de_var 1 (pv 1)) (da_cons (de_var 7 (pv 7)) da_nil (by rfl)) (by rfl)) (by rfl)) (by decide) (by rfl) (by rfl)) da_nil (by rfl)) (by rfl)) (by rfl)) (by rfl)) (by decide) (by rfl) (by rfl)))) dss_nil)
  (dss_cons (ds_if (dt_cmp (op_eqP (u100 hr)) l_eqV (de_var 8 (pv 8)) de_int (nomark _)) (dss_one (ds_ret (de_ix (de_lst (da_cons (de_call (ok_d_law_sealed T) (hr.mono (by first | decide | omega)) hgd (by rfl) T.m_d_law_sealed T.F_d_law_sealed.kp T.b_d_law_sealed (da_cons (de_var 3 (pv 3)) (da_cons (de_op op_sub l_sub de_int de_int) (da_cons (de_var 5 (pv 5)) (da_cons (de_var 7 (pv 7)) da_nil (by rfl)) (by rfl)) (by rfl)) (by rfl)) (by decide) (by rfl) (by rfl)) (da_cons (de_call (ok_d_law_sealed T) (hr.mono (by first | decide | omega)) hgd (by rfl) T.m_d_law_sealed T.F_d_law_sealed.kp T.b_d_law_sealed (da_cons (de_op op_sub l_sub de_int de_int) (da_cons (de_var 4 (pv 4)) (da_cons (de_var 5 (pv 5)) (da_cons (de_var 7 (pv 7)) da_nil (by rfl)) (by rfl)) (by rfl)) (by rfl)) (by decide) (by rfl) (by rfl)) da_nil (by rfl)) (by rfl))) (de_call (ok_d_law_take T) (hr.mono (by first | decide | omega)) hgd (by rfl) T.m_d_law_take T.F_d_law_take.kp T.b_d_law_take (da_cons (de_var 0 (pv 0)) (da_cons de_int da_nil (by rfl)) (by rfl)) (by decide) (by rfl) (by rfl)) (fun _ _ => rfl)))) dss_nil)
  (dss_cons (ds_if (dt_cmp (op_eqP (u100 hr)) l_eqV (de_var 8 (pv 8)) de_int (nomark _)) (dss_cons (ds_set (ps_set (i := 9) nd rfl (by first | exact Or.inl rfl | exact Or.inr rfl) (de_lst (da_cons de_int (da_cons (de_var 4 (pv 4)) (da_cons de_int (da_cons (de_op op_pow l_num de_int de_int) (da_cons (de_op op_sub l_sub de_int de_int) da_nil (by rfl)) (by rfl)) (by rfl)) (by rfl)) (by rfl))).pe))
  (dss_one (ds_ret (de_call (ok_d_law_sealed T) (hr.mono (by first | decide | omega)) hgd (by rfl) T.m_d_law_sealed T.F_d_law_sealed.kp T.b_d_law_sealed (da_cons (de_var 3 (pv 3)) (da_cons (de_var 4 (pv 4)) (da_cons (de_ix (de_var 9 (pv 9)) (de_call (ok_d_law_take T) (hr.mono (by first | decide | omega)) hgd (by rfl) T.m_d_law_take T.F_d_law_take.kp T.b_d_law_take (da_cons (de_var 0 (pv 0)) (da_cons de_int da_nil (by rfl)) (by rfl)) (by decide) (by rfl) (by rfl)) (fun _ _ => rfl)) (da_cons (de_var 7 (pv 7)) da_nil (by rfl)) (by rfl)) (by rfl)) (by rfl)) (by decide) (by rfl) (by rfl))))) dss_nil)
  (dss_cons (ds_if (dt_cmp (op_eqP (u100 hr)) l_eqV (de_var 8 (pv 8)) de_int (nomark _)) (dss_one (ds_ret (de_ix (de_lst (da_cons (de_call (ok_d_law_sealed T) (hr.mono (by first | decide | omega)) hgd (by rfl) T.m_d_law_sealed T.F_d_law_sealed.kp T.b_d_law_sealed (da_cons (de_var 3 (pv 3)) (da_cons de_bl (da_cons (de_var 5 (pv 5)) (da_cons (de_var 7 (pv 7)) da_nil (by rfl)) (by rfl)) (by rfl)) (by rfl)) (by decide) (by rfl) (by rfl)) (da_cons (de_call (ok_d_law_sealed T) (hr.mono (by first | decide | omega)) hgd (by rfl) T.m_d_law_sealed T.F_d_law_sealed.kp T.b_d_law_sealed (da_cons (de_var 3 (pv 3)) (da_cons (de_var 4 (pv 4)) (da_cons de_bl (da_cons (de_var 7 (pv 7)) da_nil (by rfl)) (by rfl)) (by rfl)) (by rfl)) (by decide) (by rfl) (by rfl)) (da_cons (de_call (ok_d_law_sealed T) (hr.mono (by first | decide | omega)) hgd (by rfl) T.m_d_law_sealed T.F_d_law_sealed.kp T.b_d_law_sealed (da_cons de_bl (da_cons (de_var 4 (pv 4)) (da_cons (de_var 5 (pv 5)) (da_cons (de_var 7 (pv 7)) da_nil (by rfl)) (by rfl)) (by rfl)) (by rfl)) (by decide) (by rfl) (by rfl)) da_nil (by rfl)) (by rfl)) (by rfl))) (de_call (ok_d_law_take T) (hr.mono (by first | decide | omega)) hgd (by rfl) T.m_d_law_take T.F_d_law_take.kp T.b_d_law_take (da_cons (de_var 0 (pv 0)) (da_cons de_int da_nil (by rfl)) (by rfl)) (by decide) (by rfl) (by rfl)) (fun _ _ => rfl)))) dss_nil)
  (dss_cons (ds_if (dt_cmp (op_eqP (u100 hr)) l_eqV (de_var 8 (pv 8)) de_int (nomark _)) (dss_one (ds_ret (de_tup (da_cons (de_var 3 (pv 3)) (da_cons (de_var 4 (pv 4)) (da_cons (de_var 5 (pv 5)) (da_cons (de_ix (de_lst (da_cons (de_callT call_str_int l_str (by rfl) T.z_str (by decide +kernel) (da_cons (de_var 6 (pv 6)) da_nil (by rfl)) (by decide) (by decide) (by rfl) (by rfl)) (da_cons de_non (da_cons de_bl (da_cons (de_op op_sub l_sub (de_op op_sub l_sub de_int (de_var 6 (pv 6))) de_int) da_nil (by rfl)) (by rfl)) (by rfl)) (by rfl))) (de_call (ok_d_law_take T) (hr.mono (by first | decide | omega)) hgd (by rfl) T.m_d_law_take T.F_d_law_take.kp T.b_d_law_take (da_cons (de_var 0 (pv 0)) (da_cons de_int da_nil (by rfl)) (by rfl)) (by decide) (by rfl) (by rfl)) (fun _ _ => rfl)) (da_cons (de_var 7 (pv 7)) da_nil (by rfl)) (by rfl)) (by rfl)) (by rfl)) (by rfl))))) dss_nil)
  (dss_cons (ds_set (ps_set (i := 9) nd rfl (by first | exact Or.inl rfl | exact Or.inr rfl) (de_lst (da_cons (de_add (de_tup (da_cons (de_callT call_str_int l_str (by rfl) T.z_str (by decide +kernel) (da_cons (de_var 3 (pv 3)) da_nil (by rfl)) (by decide) (by decide) (by rfl) (by rfl)) da_nil (by rfl))) (de_sl (de_var 2 (pv 2)) (do_some de_int) do_none)) (da_cons (de_add (de_tup (da_cons (de_var 3 (pv 3)) (da_cons de_non da_nil (by rfl)) (by rfl))) (de_sl (de_var 2 (pv 2)) (do_some de_int) do_none)) (da_cons (de_add (de_tup (da_cons (de_var 3 (pv 3)) (da_cons (de_var 4 (pv 4)) (da_cons (de_lst (da_cons (de_var 5 (pv 5)) da_nil (by rfl))) da_nil (by rfl)) (by rfl)) (by rfl))) (de_sl (de_var 2 (pv 2)) (do_some de_int) do_none)) da_nil (by rfl)) (by rfl)) (by rfl))).pe))
  (dss_one (ds_ret (de_ix (de_var 9 (pv 9)) (de_call (ok_d_law_take T) (hr.mono (by first | decide | omega)) hgd (by rfl) T.m_d_law_take T.F_d_law_take.kp T.b_d_law_take (da_cons (de_var 0 (pv 0)) (da_cons de_int da_nil (by rfl)) (by rfl)) (by decide) (by rfl) (by rfl)) (fun _ _ => rfl))))))))))))))
def sp_d_Joiner_init (CJ : Addr) : DSp := fun ws μ R => match ws with
  | [.v (.ref a), .d (.str kd), .d (.int t)] => ∃ dx, μ a = some (.ins CJ dx []) ∧ ∀ e, μ e = none → R (.d .none) (mset (mset μ a (.ins CJ dx (jf kd t none e))) e (.dct []))
  | _ => False
theorem ar_d_Joiner_init (CJ : Addr) {ws : List W} {μ : M} {R : DQ} (h : sp_d_Joiner_init CJ ws μ R) : ws.length = 3 := by
  unfold sp_d_Joiner_init at h; split at h
  · rfl
  · exact h.elim

def body_d_Joiner_init (CJ : Addr) : DTS := (tSeqD (sFldD CJ "_kind" (tVarD 0) (tVarD 1))
  (tSeqD (sFldD CJ "_ticket" (tVarD 0) (tVarD 2))
  (tSeqD (sFldD CJ "_of" (tVarD 0) (tK (.d .none)))
  (sFldD CJ "_kept" (tVarD 0) tDictM))))
theorem rd_d_Joiner_init (CJ : Addr) {ws : List W} {μ : M} {R : DQ} (h : sp_d_Joiner_init CJ ws μ R) : body_d_Joiner_init CJ { nx := fun _ μ' => R (.d .none) μ', rt := R } (startD N_d_Joiner_init.length ws) μ := by
  unfold sp_d_Joiner_init at h
  split at h
  · rename_i a kd t
    obtain ⟨dx, em, q⟩ := h
    unfold body_d_Joiner_init
    walk_at "dlsym"
    refine onS_of em ?_
    have e2 : putWf (Str.ofString "_ticket") (W.d (.int t)) [((Str.ofString "_kind"), W.d (.str kd))] = [((Str.ofString "_kind"), W.d (.str kd)), ((Str.ofString "_ticket"), W.d (.int t))] := by unfold putWf; rw [if_neg (by decide +kernel)]; rfl
    have e3 : putWf (Str.ofString "_of") (W.d .none) [((Str.ofString "_kind"), W.d (.str kd)), ((Str.ofString "_ticket"), W.d (.int t))] = [((Str.ofString "_kind"), W.d (.str kd)), ((Str.ofString "_ticket"), W.d (.int t)), ((Str.ofString "_of"), W.d .none)] := by unfold putWf; rw [if_neg (by decide +kernel)]; unfold putWf; rw [if_neg (by decide +kernel)]; rfl
    have e4 : ∀ p : Addr, putWf (Str.ofString "_kept") (W.v (.ref p)) [((Str.ofString "_kind"), W.d (.str kd)), ((Str.ofString "_ticket"), W.d (.int t)), ((Str.ofString "_of"), W.d .none)] = jf kd t none p := fun p => by unfold putWf; rw [if_neg (by decide +kernel)]; unfold putWf; rw [if_neg (by decide +kernel)]; unfold putWf; rw [if_neg (by decide +kernel)]; rfl
    have e1 : putWf (Str.ofString "_kind") (W.d (.str kd)) [] = [((Str.ofString "_kind"), W.d (.str kd))] := rfl
    refine ⟨rfl, by simp, ?_⟩
    rw [e1, e2, e3]
    refine ⟨by simp, by simp, fun p hp => ?_⟩
    have hpa : a ≠ p := fun e => by rw [e, mset_same] at hp; cases hp
    refine onS_of ((mset_ne hpa).trans mset_same) ⟨rfl, by simp, ?_⟩
    rw [e4, mset_in hpa]
    exact q p (by rwa [mset_ne (Ne.symm hpa)] at hp)
  · exact h.elim

theorem ok_d_Joiner_init {P : Program} {w : World} {K : PySem.W.Frag} {mg : Str → Option Value} {base : Heap} (T : Tx w K mg) : FG P w K mg base CX0 1 T.f_d_Joiner_init T.fd_d_Joiner_init ["self", "kind", "ticket"] (lSp K (sp_d_Joiner_init T.C_Joiner)) := by
  refine fg_data T.F_d_Joiner_init sc_d_Joiner_init (fun ws μ R h => ar_d_Joiner_init T.C_Joiner h) (body_d_Joiner_init T.C_Joiner) (fun cdv A outer s H E hr hgd => ?_) (fun ws μ R h => rd_d_Joiner_init T.C_Joiner h)
  have nd := sc_d_Joiner_init.nd
  exact (dss_cons (ds_fld T.cl_Joiner T.no__kind (de_var 0 (pv 0)) (de_var 1 (pv 1)) (by rfl))
  (dss_cons (ds_fld T.cl_Joiner T.no__ticket (de_var 0 (pv 0)) (de_var 2 (pv 2)) (by rfl))
  (dss_cons (ds_fld T.cl_Joiner T.no__of (de_var 0 (pv 0)) de_non (by rfl))
  (dss_one (ds_fld T.cl_Joiner T.no__kept (de_var 0 (pv 0)) de_dictM (by rfl))))))
def sp_d_Joiner_fits (CJ : Addr) : DSp := fun ws μ R => match ws with
  | [.v (.ref a), .d x] => ∃ dx kd tk f e t n o s σ, μ a = some (.ins CJ dx (jf kd tk f e)) ∧ x = pc t n o s σ ∧ POk kd t n o s σ ∧ R (.d (.bool (decide (t = tk) && ofOk f o && decide (s = sealS t n o σ)))) μ
  | _ => False
theorem ar_d_Joiner_fits (CJ : Addr) {ws : List W} {μ : M} {R : DQ} (h : sp_d_Joiner_fits CJ ws μ R) : ws.length = 2 := by
  unfold sp_d_Joiner_fits at h; split at h
  · rfl
  · exact h.elim

def body_d_Joiner_fits (CJ : Addr) : DTS := (tSeqD (tAsgD (tVarD 1) (gTupD 5 (gConsD (gNameD 2) (gConsD (gNameD 3) (gConsD (gNameD 4) (gConsD (gNameD 5) (gConsD (gNameD 6) gNilD)))))))
  (tSeqD (DL.tIfS (tOrB (tTst (tOp2 neV (tVarD 2) (tFldD CJ "_ticket" (tVarD 0)))) (tTst (tOp2 (inD true) (tFldD CJ "_of" (tVarD 0)) (tTupD (tConsD (tK (.d .none)) (tConsD (tVarD 4) tNilD)))))) (tRetD (tK (.d (.bool false)))) tNextD)
  (tRetD (tOp2 eqV (tVarD 5) (tCallD sp_d_seal_of (tConsD (tVarD 2) (tConsD (tVarD 3) (tConsD (tVarD 4) (tConsD (tVarD 6) tNilD)))))))))
theorem rd_d_Joiner_fits (CJ : Addr) {ws : List W} {μ : M} {R : DQ} (h : sp_d_Joiner_fits CJ ws μ R) : body_d_Joiner_fits CJ { nx := fun _ μ' => R (.d .none) μ', rt := R } (startD N_d_Joiner_fits.length ws) μ := by
  unfold sp_d_Joiner_fits at h
  split at h
  · obtain ⟨dx, kd, tk, f, e, t, n, o, s, σ, em, rfl, pk, q⟩ := h
    unfold body_d_Joiner_fits pc
    have l1 : (jf kd tk f e).lookup (Str.ofString "_ticket") = some (.d (.int tk)) := rfl
    have l2 : (jf kd tk f e).lookup (Str.ofString "_of") = some (.d (ofD f)) := rfl
    walk_at "dlsym"
    rw [q_gTup5]
    walk_at "dlsym"
    refine onS_of em ⟨rfl, onS_of l1 ?_⟩
    walk_at "dlsym"
    by_cases h1 : t = tk
    · rw [decide_eq_true h1, Bool.true_and] at q
      rw [show PyData.eqv (.int t) (.int tk) = true by rw [h1]; exact int_eq tk, if_neg (by decide)]
      refine onS_of em ⟨rfl, onS_of l2 ?_⟩
      have fin : ofOk f o = true → sp_d_seal_of [W.d (PyData.int t), W.d (PyData.int n), W.d (PyData.int o), W.d σ.D] μ fun y μ2 => eqD (W.d (PyData.int s)) (vw y μ2) μ2 R := fun hf => by
        rw [hf, Bool.true_and] at q
        refine ⟨σ.L, σ.sg, Sig.oks pk.ok, by rw [Sig.L_len]; have := pk.len; omega, pk.t0, by have := pk.t1; omega, ?_⟩
        walk_at "dlsym"
        rw [eqv_int, show (s == sealZ t (n :: o :: List.map Sgn.num σ.L)) = decide (s = sealS t n o σ) by rw [Bool.eq_iff_iff, beq_iff_eq, decide_eq_true_eq]; exact Iff.rfl]
        exact q
      cases f with
      | none =>
        show inD true (.d .none) _ μ _
        walk_at "dlsym"
        exact fin rfl
      | some k =>
        show inD true (.d (.int k)) _ μ _
        walk_at "dlsym"
        have ea : ([PyData.none, PyData.int o].any fun z => z.eqv (.int k)) = decide (k = o) := by
          rw [List.any_cons, List.any_cons, List.any_nil, eqv_int, Bool.or_false, show PyData.eqv .none (.int k) = false by simp [PyData.eqv], Bool.false_or, Bool.eq_iff_iff, beq_iff_eq, decide_eq_true_eq]
          exact eq_comm
        rw [ea]
        by_cases h2 : k = o
        · rw [decide_eq_true h2]
          exact fin (decide_eq_true h2)
        · rw [decide_eq_false h2]
          rw [show ofOk (some k) o = false from decide_eq_false h2, Bool.false_and] at q
          exact q
    · rw [decide_eq_false h1, Bool.false_and, Bool.false_and] at q
      rw [int_ne h1, if_pos (show (!false) = true from rfl)]
      exact q
  · exact h.elim

theorem ok_d_Joiner_fits {P : Program} {w : World} {K : PySem.W.Frag} {mg : Str → Option Value} {base : Heap} (T : Tx w K mg) : FG P w K mg base CX0 3 T.f_d_Joiner_fits T.fd_d_Joiner_fits ["self", "piece"] (lSp K (sp_d_Joiner_fits T.C_Joiner)) := by
  refine fg_data T.F_d_Joiner_fits sc_d_Joiner_fits (fun ws μ R h => ar_d_Joiner_fits T.C_Joiner h) (body_d_Joiner_fits T.C_Joiner) (fun cdv A outer s H E hr hgd => ?_) (fun ws μ R h => rd_d_Joiner_fits T.C_Joiner h)
  have nd := sc_d_Joiner_fits.nd
  exact (dss_cons (ds_asg (ps_asg (de_var 1 (pv 1)).pe (dg_tup rfl (dgs_cons (dg_name (pg_name (i := 2) nd rfl (by first | exact Or.inl rfl | exact Or.inr rfl))) (dgs_cons (dg_name (pg_name (i := 3) nd rfl (by first | exact Or.inl rfl | exact Or.inr rfl))) (dgs_cons (dg_name (pg_name (i := 4) nd rfl (by first | exact Or.inl rfl | exact Or.inr rfl))) (dgs_cons (dg_name (pg_name (i := 5) nd rfl (by first | exact Or.inl rfl | exact Or.inr rfl))) (dgs_cons (dg_name (pg_name (i := 6) nd rfl (by first | exact Or.inl rfl | exact Or.inr rfl))) dgs_nil (by rfl)) (by rfl)) (by rfl)) (by rfl)) (by rfl)) (by rfl) (by rfl)).pg))
  (dss_cons (ds_if (dt_w (dw_or (dt_cmp (op_neP (u100 hr)) l_neV (de_var 2 (pv 2)) (de_fld T.cl_Joiner T.no__ticket (de_var 0 (pv 0)) (by rfl)) (nomark _)) (dw_or1 (dt_cmp (op_notInP (u100 hr)) l_in (de_fld T.cl_Joiner T.no__of (de_var 0 (pv 0)) (by rfl)) (de_tup (da_cons de_non (da_cons (de_var 4 (pv 4)) da_nil (by rfl)) (by rfl))) rfl)))) (dss_one (ds_ret de_bl)) dss_nil)
  (dss_one (ds_ret (de_cmp (op_eqP (u100 hr)) l_eqV (de_var 5 (pv 5)) (de_call (ok_d_seal_of T) (hr.mono (by first | decide | omega)) hgd (by rfl) T.m_d_seal_of T.F_d_seal_of.kp T.b_d_seal_of (da_cons (de_var 2 (pv 2)) (da_cons (de_var 3 (pv 3)) (da_cons (de_var 4 (pv 4)) (da_cons (de_var 6 (pv 6)) da_nil (by rfl)) (by rfl)) (by rfl)) (by rfl)) (by decide) (by rfl) (by rfl)) (nomark _))))))
def sp_d_Joiner_take (CJ : Addr) : DSp := fun ws μ R => match ws with
  | [.v (.ref a), .d x] => (∃ dx kd tk f e, μ a = some (.ins CJ dx (jf kd tk f e)) ∧ Fit2 x ∧ pieceB kd x = false ∧ R (.d (.str (Str.ofString "bent"))) μ) ∨ ∃ dx kd tk f e kept t n o s σ, Fit x ∧ μ a = some (.ins CJ dx (jf kd tk f e)) ∧ μ e = some (.dct (keptW kept)) ∧ x = pc t n o s σ ∧ POk kd t n o s σ ∧ kept.length ≤ 100000 ∧ (∀ y ∈ kept, KS kd y.2 ∧ Sig.Ok y.2 ∧ Sig.len y.2 ≤ 2100) ∧
    (if good tk f t n o s σ = true then match kfind kept n with
      | some σ' => R (.d (.str (if PyData.eqv σ'.D σ.D = true then Str.ofString "known" else Str.ofString "bent"))) μ
      | none => R (.d (.str (Str.ofString "new"))) (mset (mset μ a (.ins CJ dx (jf kd tk (some o) e))) e (.dct (keptW (kept ++ [(n, σ)]))))
    else R (.d (.str (Str.ofString "bent"))) μ)
  | _ => False
theorem ar_d_Joiner_take (CJ : Addr) {ws : List W} {μ : M} {R : DQ} (h : sp_d_Joiner_take CJ ws μ R) : ws.length = 2 := by
  unfold sp_d_Joiner_take at h; split at h
  · rfl
  · exact h.elim

def body_d_Joiner_take (CJ : Addr) : DTS := (tSeqD (DL.tIfS (tOrB (tNotB (tTru (tCallD sp_d_is_piece (tConsD (tFldD CJ "_kind" (tVarD 0)) (tConsD (tVarD 1) tNilD))))) (tNotB (tTru (tMethC CJ "_fits" (sp_d_Joiner_fits CJ) (tVarD 0) (tConsD (tVarD 1) tNilD))))) (tRetD (tK (.d (.str "bent")))) tNextD)
  (tSeqD (tAsgD (tVarD 1) (gTupD 5 (gConsD (gNameD 2) (gConsD (gNameD 3) (gConsD (gNameD 4) (gConsD (gNameD 2) (gConsD (gNameD 5) gNilD)))))))
  (tSeqD (DL.tIfS (tTst (tDInM true (tVarD 3) (tFldD CJ "_kept" (tVarD 0)))) (tSeqD (sFldD CJ "_of" (tVarD 0) (tVarD 4))
  (tSeqD (sDPutM (tFldD CJ "_kept" (tVarD 0)) (tVarD 3) (tVarD 5))
  (tRetD (tK (.d (.str "new")))))) tNextD)
  (tSeqD (DL.tIfS (tTst (tOp2 neV (tDGetM (tFldD CJ "_kept" (tVarD 0)) (tVarD 3)) (tVarD 5))) (tRetD (tK (.d (.str "bent")))) tNextD)
  (tRetD (tK (.d (.str "known"))))))))
theorem rd_d_Joiner_take (CJ : Addr) {ws : List W} {μ : M} {R : DQ} (h : sp_d_Joiner_take CJ ws μ R) : body_d_Joiner_take CJ { nx := fun _ μ' => R (.d .none) μ', rt := R } (startD N_d_Joiner_take.length ws) μ := by
  unfold sp_d_Joiner_take at h
  split at h
  · rename_i a x
    unfold body_d_Joiner_take
    rcases h with ⟨dx, kd, tk, f, e, em, ft, hb, q⟩ | h
    · have l0 : (jf kd tk f e).lookup (Str.ofString "_kind") = some (.d (.str kd)) := rfl
      walk_at "dlsym"
      refine onS_of em ⟨rfl, onS_of l0 ⟨ft, ?_⟩⟩
      walk_at "dlsym"
      rw [hb, if_pos (show (!false) = true from rfl)]
      exact q
    obtain ⟨dx, kd, tk, f, e, kept, t, n, o, s, σ, ft, em, ek, rfl, pk, hkl, hks, q⟩ := h
    have l0 : (jf kd tk f e).lookup (Str.ofString "_kind") = some (.d (.str kd)) := rfl
    have l3 : (jf kd tk f e).lookup (Str.ofString "_kept") = some (.v (.ref e)) := rfl
    have lf : (jf kd tk f e).lookup (Str.ofString "_fits") = none := rfl
    walk_at "dlsym"
    refine onS_of em ⟨rfl, onS_of l0 ?_⟩
    refine ⟨ft.two, ?_⟩
    rw [pieceB_pc pk]
    walk_at "dlsym"
    have eg : good tk f t n o s σ = (inR n o && (decide (t = tk) && ofOk f o && decide (s = sealS t n o σ))) := rfl
    cases e1 : inR n o with
    | false =>
      rw [eg, e1, Bool.false_and, if_neg Bool.false_ne_true] at q
      rw [if_pos (show (!false) = true from rfl)]
      exact q
    | true =>
      rw [if_neg (show ¬ (!true) = true by decide)]
      refine onS_of em ⟨rfl, lf, dx, kd, tk, f, e, t, n, o, s, σ, em, rfl, pk, ?_⟩
      walk_at "dlsym"
      rw [e1, Bool.true_and] at eg
      rw [← eg]
      cases e2 : good tk f t n o s σ with
      | false =>
        rw [e2, if_neg Bool.false_ne_true] at q
        rw [if_pos (show (!false) = true from rfl)]
        exact q
      | true =>
        rw [e2, if_pos rfl] at q
        rw [if_neg (show ¬ (!true) = true by decide)]
        unfold pc
        rw [q_gTup5]
        walk_at "dlsym"
        refine onS_of em ⟨rfl, onS_of l3 ?_⟩
        walk_at "dlsym"
        refine onS_of ek ?_
        dsimp only
        have hae : a ≠ e := fun z => by rw [z, ek] at em; cases em
        have kv := kept_val n kept
        have sp := (Sig.okd pk.ok).plain
        have sd := (Sig.okd pk.ok).depth
        cases e3 : kfind kept n with
        | none =>
          rw [e3] at q kv
          rw [kv]
          rw [if_pos (show (true ^^ (Option.map (fun σ : Sig => W.d σ.D) none).isSome) = true from rfl)]
          have pf := jf_of kd tk f e o
          have l4 : (jf kd tk (some o) e).lookup (Str.ofString "_kept") = some (.v (.ref e)) := rfl
          refine onS_of em ⟨rfl, by show 4 < 1000; decide, ?_⟩
          rw [pf]
          refine onS_of l4 (onS_of ((mset_ne (Ne.symm hae)).trans ek) ⟨by unfold keptW; rw [List.length_map]; omega, ?_⟩)
          rw [kept_put e3]
          exact q
        | some σ' =>
          rw [e3] at q kv
          obtain ⟨y, hy, ey⟩ := kfind_mem e3
          obtain ⟨_, ok', ln'⟩ := hks y hy
          rw [ey] at ok' ln'
          have sp' := (Sig.okd ok').plain
          have sd' := (Sig.okd ok').depth
          rw [kv]
          rw [if_neg (show ¬ (true ^^ (Option.map (fun σ : Sig => W.d σ.D) (some σ')).isSome) = true by simp)]
          refine onS_of em ⟨rfl, onS_of l3 (onS_of ek ?_)⟩
          dsimp only
          refine onS_of kv ?_
          walk_at "dlsym"
          refine ⟨sp', sp, by omega, ?_⟩
          have q : R (.d (.str (if PyData.eqv σ'.D σ.D = true then Str.ofString "known" else Str.ofString "bent"))) μ := q
          cases e4 : PyData.eqv σ'.D σ.D with
          | true => rw [e4, if_pos rfl] at q; exact q
          | false => rw [e4, if_neg Bool.false_ne_true] at q; exact q
  · exact h.elim

theorem ok_d_Joiner_take {P : Program} {w : World} {K : PySem.W.Frag} {mg : Str → Option Value} {base : Heap} (T : Tx w K mg) : FG P w K mg base CX0 7 T.f_d_Joiner_take T.fd_d_Joiner_take ["self", "thing"] (lSp K (sp_d_Joiner_take T.C_Joiner)) := by
  refine fg_data T.F_d_Joiner_take sc_d_Joiner_take (fun ws μ R h => ar_d_Joiner_take T.C_Joiner h) (body_d_Joiner_take T.C_Joiner) (fun cdv A outer s H E hr hgd => ?_) (fun ws μ R h => rd_d_Joiner_take T.C_Joiner h)
  have nd := sc_d_Joiner_take.nd
  exact (dss_cons (ds_if (dt_w (dw_or (dt_not (dt_of (de_call (ok_d_is_piece T) (hr.mono (by first | decide | omega)) hgd (by rfl) T.m_d_is_piece T.F_d_is_piece.kp T.b_d_is_piece (da_cons (de_fld T.cl_Joiner T.no__kind (de_var 0 (pv 0)) (by rfl)) (da_cons (de_var 1 (pv 1)) da_nil (by rfl)) (by rfl)) (by decide) (by rfl) (by rfl)) (fun _ => rfl))) (dw_or1 (dt_not (dt_of (de_meth (de_var 0 (pv 0)) T.cl_Joiner T.me_d_Joiner_fits (ok_d_Joiner_fits T) (hr.mono (by first | decide | omega)) hgd T.b_d_Joiner_fits (da_cons (de_var 1 (pv 1)) da_nil (by rfl)) (by rfl) (by rfl) (by rfl)) (fun _ => rfl)))))) (dss_one (ds_ret de_str)) dss_nil)
  (dss_cons (ds_asg (ps_asg (de_var 1 (pv 1)).pe (dg_tup rfl (dgs_cons (dg_name (pg_name (i := 2) nd rfl (by first | exact Or.inl rfl | exact Or.inr rfl))) (dgs_cons (dg_name (pg_name (i := 3) nd rfl (by first | exact Or.inl rfl | exact Or.inr rfl))) (dgs_cons (dg_name (pg_name (i := 4) nd rfl (by first | exact Or.inl rfl | exact Or.inr rfl))) (dgs_cons (dg_name (pg_name (i := 2) nd rfl (by first | exact Or.inl rfl | exact Or.inr rfl))) (dgs_cons (dg_name (pg_name (i := 5) nd rfl (by first | exact Or.inl rfl | exact Or.inr rfl))) dgs_nil (by rfl)) (by rfl)) (by rfl)) (by rfl)) (by rfl)) (by rfl) (by rfl)).pg))
  (dss_cons (ds_if (dt_dnotinM (u1 (u100 hr)) (de_var 3 (pv 3)) (de_fld T.cl_Joiner T.no__kept (de_var 0 (pv 0)) (by rfl)) (by rfl)) (dss_cons (ds_fld T.cl_Joiner T.no__of (de_var 0 (pv 0)) (de_var 4 (pv 4)) (by rfl))
  (dss_cons (ds_dputM (u1 (u100 hr)) (de_fld T.cl_Joiner T.no__kept (de_var 0 (pv 0)) (by rfl)) (de_var 3 (pv 3)) (de_var 5 (pv 5)) (by rfl))
  (dss_one (ds_ret de_str)))) dss_nil)
  (dss_cons (ds_if (dt_cmp (op_neP (u100 hr)) l_neV (de_dgetM (u1 (u100 hr)) (de_fld T.cl_Joiner T.no__kept (de_var 0 (pv 0)) (by rfl)) (de_var 3 (pv 3)) (fun _ _ => rfl)) (de_var 5 (pv 5)) (nomark _)) (dss_one (ds_ret de_str)) dss_nil)
  (dss_one (ds_ret de_str))))))
def sp_d_Joiner_len (CJ : Addr) : DSp := fun ws μ R => match ws with
  | [.v (.ref a)] => ∃ dx kd tk f e kvs, μ a = some (.ins CJ dx (jf kd tk f e)) ∧ μ e = some (.dct kvs) ∧ R (.d (.int kvs.length)) μ
  | _ => False
theorem ar_d_Joiner_len (CJ : Addr) {ws : List W} {μ : M} {R : DQ} (h : sp_d_Joiner_len CJ ws μ R) : ws.length = 1 := by
  unfold sp_d_Joiner_len at h; split at h
  · rfl
  · exact h.elim

def body_d_Joiner_len (CJ : Addr) : DTS := (tRetD (tCallB lenM (tConsD (tFldD CJ "_kept" (tVarD 0)) tNilD)))
theorem rd_d_Joiner_len (CJ : Addr) {ws : List W} {μ : M} {R : DQ} (h : sp_d_Joiner_len CJ ws μ R) : body_d_Joiner_len CJ { nx := fun _ μ' => R (.d .none) μ', rt := R } (startD N_d_Joiner_len.length ws) μ := by
  unfold sp_d_Joiner_len at h
  split at h
  · obtain ⟨dx, kd, tk, f, e, kvs, em, ek, q⟩ := h
    unfold body_d_Joiner_len
    walk_at "dlsym"
    refine onS_of em ⟨rfl, onS_of (x := .v (.ref e)) rfl ?_⟩
    walk_at "dlsym"
    exact onS_of ek q
  · exact h.elim

theorem ok_d_Joiner_len {P : Program} {w : World} {K : PySem.W.Frag} {mg : Str → Option Value} {base : Heap} (T : Tx w K mg) : FG P w K mg base CX0 1 T.f_d_Joiner_len T.fd_d_Joiner_len ["self"] (lSp K (sp_d_Joiner_len T.C_Joiner)) := by
  refine fg_data T.F_d_Joiner_len sc_d_Joiner_len (fun ws μ R h => ar_d_Joiner_len T.C_Joiner h) (body_d_Joiner_len T.C_Joiner) (fun cdv A outer s H E hr hgd => ?_) (fun ws μ R h => rd_d_Joiner_len T.C_Joiner h)
  have nd := sc_d_Joiner_len.nd
  exact (dss_one (ds_ret (de_callB call_lenA l_lenM (by rfl) T.z_len (by decide +kernel) (da_cons (de_fld T.cl_Joiner T.no__kept (de_var 0 (pv 0)) (by rfl)) da_nil (by rfl)) (by decide) (by decide) (by rfl) (by rfl))))
def sp_d_Joiner_missing (CJ : Addr) : DSp := fun ws μ R => match ws with
  | [.v (.ref a)] => ∃ dx kd tk f e kept, μ a = some (.ins CJ dx (jf kd tk f e)) ∧ μ e = some (.dct (keptW kept)) ∧ (∀ k, f = some k → 1 ≤ k ∧ k ≤ 20000) ∧ ∀ p, μ p = none → R (.v (.ref p)) (mset μ p (.lst ((missD f kept).map .d)))
  | _ => False
theorem ar_d_Joiner_missing (CJ : Addr) {ws : List W} {μ : M} {R : DQ} (h : sp_d_Joiner_missing CJ ws μ R) : ws.length = 1 := by
  unfold sp_d_Joiner_missing at h; split at h
  · rfl
  · exact h.elim

def ct1_d_Joiner_missing (CJ : Addr) : DTT := (tTst (tDInM true (tVarD 1) (tFldD CJ "_kept" (tVarD 0))))
def body_d_Joiner_missing (CJ : Addr) : DTS := (tSeqD (DL.tIfS (tTst (tOp2 (isD false) (tFldD CJ "_of" (tVarD 0)) (tK (.d .none)))) (tRetD (tLstM tNilD)) tNextD)
  (tRetD (tCompG (tItR (tConsD (tFldD CJ "_of" (tVarD 0)) tNilD)) 1 (ct1_d_Joiner_missing CJ) (tVarD 1) [1] cMut)))
theorem rd_d_Joiner_missing (CJ : Addr) {ws : List W} {μ : M} {R : DQ} (h : sp_d_Joiner_missing CJ ws μ R) : body_d_Joiner_missing CJ { nx := fun _ μ' => R (.d .none) μ', rt := R } (startD N_d_Joiner_missing.length ws) μ := by
  unfold sp_d_Joiner_missing at h
  split at h
  · rename_i a
    obtain ⟨dx, kd, tk, f, e, kept, em, ek, hf, q⟩ := h
    unfold body_d_Joiner_missing
    have l2 : (jf kd tk f e).lookup (Str.ofString "_of") = some (.d (ofD f)) := rfl
    have l3 : (jf kd tk f e).lookup (Str.ofString "_kept") = some (.v (.ref e)) := rfl
    walk_at "dlsym"
    refine onS_of em ⟨rfl, onS_of l2 ?_⟩
    cases f with
    | none =>
      simp only [ofD]
      walk_at "dlsym"
      rw [if_pos (show DL.isNon PyData.none = true from rfl)]
      exact fun p hp => q p hp
    | some k =>
      obtain ⟨hk1, hk2⟩ := hf k rfl
      simp only [ofD]
      walk_at "dlsym"
      rw [if_neg (show ¬ DL.isNon (PyData.int k) = true by simp [DL.isNon])]
      refine onS_of em ⟨rfl, onS_of l2 ?_⟩
      simp only [ofD]
      refine ⟨by omega, by omega, ?_⟩
      rw [rangeN]
      refine compL_map (fun i : Nat => W.d (.int (i : Int))) (List.range k.toNat) (fun i => (kfind kept (i : Int)).isNone) (fun i => .int (i : Int)) (fun i _ Z h => ?_) (fun i _ _ Z h => ?_) (by rw [List.length_nil, List.length_range, sizeLit]; omega) ?_
      · unfold ct1_d_Joiner_missing
        walk_at "dlsym"
        refine onS_of em ⟨rfl, onS_of l3 ?_⟩
        walk_at "dlsym"
        refine onS_of ek ?_
        dsimp only
        rw [kept_val]
        rw [show (true ^^ (Option.map (fun σ : Sig => W.d σ.D) (kfind kept (i : Int))).isSome) = (kfind kept (i : Int)).isNone by cases kfind kept (i : Int) <;> rfl]
        exact h
      · walk_at "dlsym"
        exact h
      rw [List.nil_append]
      exact fun p hp => q p hp
  · exact h.elim

theorem ok_d_Joiner_missing {P : Program} {w : World} {K : PySem.W.Frag} {mg : Str → Option Value} {base : Heap} (T : Tx w K mg) : FG P w K mg base CX0 1 T.f_d_Joiner_missing T.fd_d_Joiner_missing ["self"] (lSp K (sp_d_Joiner_missing T.C_Joiner)) := by
  refine fg_data T.F_d_Joiner_missing sc_d_Joiner_missing (fun ws μ R h => ar_d_Joiner_missing T.C_Joiner h) (body_d_Joiner_missing T.C_Joiner) (fun cdv A outer s H E hr hgd => ?_) (fun ws μ R h => rd_d_Joiner_missing T.C_Joiner h)
  have nd := sc_d_Joiner_missing.nd
  exact (dss_cons (ds_if (dt_cmp op_isA l_is (de_fld T.cl_Joiner T.no__of (de_var 0 (pv 0)) (by rfl)) de_non (nomark _)) (dss_one (ds_ret (de_lstM da_nil))) dss_nil)
  (dss_one (ds_ret (de_lc (pe_lc (own := [("number", 1)]) (g := gName 1) (by rfl) nd (di_range1 (by rfl) T.z_range (da_cons (de_fld T.cl_Joiner T.no__of (de_var 0 (pv 0)) (by rfl)) da_nil (by rfl)) (by rfl)).pi (blkOk_by (own := [("number", 1)]) (N := N_d_Joiner_missing) (sc := defScope s_d_Joiner_missing) (by decide +kernel)) (fun _ _ _ _ _ => pg_name (i := 1) nd rfl (by first | exact Or.inl rfl | exact Or.inr rfl)) (fun _ _ _ _ _ => ((dts_one (dt_dnotinM (u1 (u100 hr)) (de_var 1 (pv 1)) (de_fld T.cl_Joiner T.no__kept (de_var 0 (pv 0)) (by rfl)) (by rfl))) : DTs _ _ (ct1_d_Joiner_missing T.C_Joiner)).pts) (fun _ _ _ _ _ => ((de_var 1 (pv 1)) : DE _ _ (tVarD 1)).pe)) cMut_ok (by decide)))))
def sp_d_Joiner_whole (CJ : Addr) : DSp := fun ws μ R => match ws with
  | [.v (.ref a)] => ∃ dx kd tk f e kept, μ a = some (.ins CJ dx (jf kd tk f e)) ∧ μ e = some (.dct (keptW kept)) ∧ Kp kd f kept ∧ R (.d (wholeD kd f kept)) μ
  | _ => False
theorem ar_d_Joiner_whole (CJ : Addr) {ws : List W} {μ : M} {R : DQ} (h : sp_d_Joiner_whole CJ ws μ R) : ws.length = 1 := by
  unfold sp_d_Joiner_whole at h; split at h
  · rfl
  · exact h.elim

def ce1_d_Joiner_whole (CJ : Addr) : DTE := (tDGetM (tFldD CJ "_kept" (tVarD 0)) (tVarD 4))
def lp1_d_Joiner_whole (CJ : Addr) : DTS := (tDropD (tMetD "list" extT (tVarD 2) (tConsD (tVarD 3) tNilD)))
def body_d_Joiner_whole (CJ : Addr) : DTS := (tSeqD (DL.tIfS (tTst (tOp2 neV (tCallB lenM (tConsD (tFldD CJ "_kept" (tVarD 0)) tNilD)) (tFldD CJ "_of" (tVarD 0)))) (tRetD (tK (.d .none))) tNextD)
  (tSeqD (tSetD 1 (tCompG (tItR (tConsD (tFldD CJ "_of" (tVarD 0)) tNilD)) 4 tYesD (ce1_d_Joiner_whole CJ) [4] cFrz))
  (tSeqD (DL.tIfS (tTst (tOp2 eqV (tFldD CJ "_kind" (tVarD 0)) (tK (.d (.str "letters"))))) (tRetD (tMetD "str" joinAD (tK (.d (.str ""))) (tConsD (tVarD 1) tNilD))) tNextD)
  (tSeqD (tSetD 2 (tLstM tNilD))
  (tSeqD (tForD (tItL (tVarD 1)) (gNameD 3) (lp1_d_Joiner_whole CJ))
  (tFrz 2 (tRetD (tCallB tupofSD (tConsD (tVarD 2) tNilD)))))))))
theorem tx_strs {kd : Str} {l : List Sig} (h : ∀ σ ∈ l, KS kd σ) (e : kd = Str.ofString "letters") : strsD (l.map Sig.D) = some ((l.map Sig.chars).map mk) := by
  have : l.map Sig.D = ((l.map Sig.chars).map mk).map .str := by
    rw [List.map_map, List.map_map]
    refine List.map_congr_left fun σ hσ => ?_
    have := ks_tx (h σ hσ) e
    rw [this]
    rfl
  rw [this, strsD_map]
theorem sum_mk (ls : List (List Nat)) : ((ls.map mk).map (·.length)).sum = ls.flatten.length := by
  rw [List.map_map, List.length_flatten]
  exact congrArg List.sum (List.map_congr_left fun x _ => len_mk x)
theorem rd_d_Joiner_whole (CJ : Addr) {ws : List W} {μ : M} {R : DQ} (h : sp_d_Joiner_whole CJ ws μ R) : body_d_Joiner_whole CJ { nx := fun _ μ' => R (.d .none) μ', rt := R } (startD N_d_Joiner_whole.length ws) μ := by
  unfold sp_d_Joiner_whole at h
  split at h
  · rename_i a
    obtain ⟨dx, kd, tk, f, e, kept, em, ek, kp, q⟩ := h
    unfold body_d_Joiner_whole
    have l0 : (jf kd tk f e).lookup (Str.ofString "_kind") = some (.d (.str kd)) := rfl
    have l2 : (jf kd tk f e).lookup (Str.ofString "_of") = some (.d (ofD f)) := rfl
    have l3 : (jf kd tk f e).lookup (Str.ofString "_kept") = some (.v (.ref e)) := rfl
    have kl : (keptW kept).length = kept.length := List.length_map ..
    walk_at "dlsym"
    refine onS_of em ⟨rfl, onS_of l3 ?_⟩
    walk_at "dlsym"
    refine onS_of ek ?_
    dsimp only
    refine onS_of em ⟨rfl, onS_of l2 ?_⟩
    rw [kl]
    cases f with
    | none =>
      simp only [ofD]
      walk_at "dlsym"
      rw [show PyData.eqv (.int (kept.length : Int)) .none = false by simp [PyData.eqv], if_pos (by decide)]
      exact q
    | some k =>
      obtain ⟨hk1, hk2⟩ := kp.pos k rfl
      have kle := kp.len
      simp only [ofD]
      walk_at "dlsym"
      unfold wholeD at q
      dsimp only at q
      by_cases ec : kept.length = k.toNat
      · rw [if_pos ec] at q
        rw [show (PyData.int (kept.length : Int)).eqv (.int k) = true by rw [eqv_int, beq_iff_eq]; omega, if_neg (by decide)]
        refine onS_of em ⟨rfl, onS_of l2 ⟨by omega, by omega, ?_⟩⟩
        rw [rangeN]
        refine compL_map (fun i : Nat => W.d (.int (i : Int))) (List.range k.toNat) (fun i => true) (fun i => ((kfind kept (i : Int)).getD (.tx [])).D) (fun i _ Z h => h) (fun i hi _ Z h => ?_) (by rw [List.length_nil, List.length_range, sizeLit]; omega) ?_
        · obtain ⟨σ, eσ⟩ := kp.all ec i (List.mem_range.mp hi)
          unfold ce1_d_Joiner_whole
          walk_at "dlsym"
          refine onS_of em ⟨rfl, onS_of l3 ?_⟩
          walk_at "dlsym"
          refine onS_of ek ?_
          dsimp only
          rw [kept_val, eσ]
          rw [eσ] at h
          exact onS_of rfl h
        rw [List.nil_append, asD_map, filter_yes]
        have er : (List.range k.toNat).map (fun i : Nat => ((kfind kept (i : Int)).getD (.tx [])).D) = (selK kept k.toNat).map Sig.D := by
          unfold selK
          have key : ∀ l : List Nat, (∀ i ∈ l, i < k.toNat) → l.map (fun i : Nat => ((kfind kept (i : Int)).getD (.tx [])).D) = (l.filterMap fun i : Nat => kfind kept (i : Int)).map Sig.D := by
            intro l
            induction l with
            | nil => intro _; rfl
            | cons i l ih =>
              intro hl
              obtain ⟨σ, eσ⟩ := kp.all ec i (hl i List.mem_cons_self)
              rw [List.map_cons, List.filterMap_cons, eσ, ih fun j hj => hl j (List.mem_cons_of_mem _ hj)]
              rfl
          exact key _ fun i hi => List.mem_range.mp hi
        rw [er]
        have so := sel_ok kp k.toNat
        have sn := sel_len kept k.toNat
        have nm := kp.num
        generalize selK kept k.toNat = sel at so sn q ⊢
        refine onS_of em ⟨rfl, onS_of l0 ?_⟩
        walk_at "dlsym"
        unfold catD at q
        by_cases el : kd = Str.ofString "letters"
        · rw [if_pos el] at q
          rw [show PyData.eqv (.str kd) (.str (Str.ofString "letters")) = true by rw [el, eqv_str, beq_self_eq_true], if_pos rfl]
          refine onS_of (tx_strs (fun σ hσ => (so σ hσ).1) el) ⟨?_, ?_⟩
          · rw [sum_mk]
            have := flat_le Sig.chars 2100 sel fun σ hσ => by
              have h1 := ks_tx (so σ hσ).1 el
              have h2 := (so σ hσ).2.2.1
              rw [h1] at h2
              exact h2
            rw [show (Str.ofString "").length = 0 by decide +kernel]
            omega
          · rw [join0L]
            exact q
        · rw [if_neg el] at q
          rw [show PyData.eqv (.str kd) (.str (Str.ofString "letters")) = false by rw [eqv_dec, decide_eq_false el], if_neg (by decide)]
          intro p hp
          refine loopD_inv (fun r ρ μ' => ∃ (done rest : List Sig) (t4 : Option W) (t5 : Option W), sel = done ++ rest ∧ r = rest.map (fun σ => W.d σ.D) ∧ ρ = [some (.v (.ref a)), some (.d (.list (sel.map Sig.D))), some (.v (.ref p)), t4, t5] ∧ μ' = mset μ p (.lst (((done.map Sig.items).flatten).map .d))) ?_ ?_ ?_
          · exact ⟨[], sel, _, _, rfl, by rw [List.map_map]; rfl, rfl, rfl⟩
          · rintro x r ρ μ' Z ⟨done, rest, t4, t5, es, e1, rfl, rfl⟩ hZ
            cases rest with
            | nil => cases e1
            | cons σ rest =>
              rw [List.map_cons] at e1
              injection e1 with e1 e2
              subst e1
              have hσ := so σ (by rw [es]; simp)
              obtain ⟨eD, eL⟩ := ks_tp hσ.1 el
              have fl := flat_le Sig.items 2100 done fun τ hτ => by
                have := so τ (by rw [es]; exact List.mem_append_left _ hτ)
                rw [(ks_tp this.1 el).2]
                exact this.2.2.1
              have dl : done.length ≤ 2000 := by
                have := congrArg List.length es
                rw [List.length_append] at this
                omega
              have hl2 := hσ.2.2.1
              unfold lp1_d_Joiner_whole
              rw [eD]
              walk_at "dlsym"
              refine ⟨by rw [List.length_map]; omega, ?_⟩
              refine hZ _ _ ⟨done ++ [σ], rest, _, _, by rw [es]; simp, e2, rfl, ?_⟩
              rw [List.map_append, List.flatten_append, List.map_append]
              simp
          · rintro ρ μ' ⟨done, rest, t4, t5, es, e1, rfl, rfl⟩
            cases rest with
            | cons σ rest => cases e1
            | nil =>
              rw [List.append_nil] at es
              subst es
              have ed := dats_map ((sel.map Sig.items).flatten)
              have emm : mset μ p (.lst (((sel.map Sig.items).flatten).map .d)) p = _ := mset_same
              simp only [tFrz, List.getElem?_cons_zero, List.getElem?_cons_succ, emm, ed]
              rw [mdel_mset hp]
              walk_at "dlsym"
              exact q
      · rw [if_neg ec] at q
        rw [show (PyData.int (kept.length : Int)).eqv (.int k) = false by rw [eqv_int, beq_eq_false_iff_ne]; omega, if_pos (by decide)]
        exact q
  · exact h.elim

theorem ok_d_Joiner_whole {P : Program} {w : World} {K : PySem.W.Frag} {mg : Str → Option Value} {base : Heap} (T : Tx w K mg) : FG P w K mg base CX0 1 T.f_d_Joiner_whole T.fd_d_Joiner_whole ["self"] (lSp K (sp_d_Joiner_whole T.C_Joiner)) := by
  refine fg_data T.F_d_Joiner_whole sc_d_Joiner_whole (fun ws μ R h => ar_d_Joiner_whole T.C_Joiner h) (body_d_Joiner_whole T.C_Joiner) (fun cdv A outer s H E hr hgd => ?_) (fun ws μ R h => rd_d_Joiner_whole T.C_Joiner h)
  have nd := sc_d_Joiner_whole.nd
  exact (dss_cons (ds_if (dt_cmp (op_neP (u100 hr)) l_neV (de_callB call_lenA l_lenM (by rfl) T.z_len (by decide +kernel) (da_cons (de_fld T.cl_Joiner T.no__kept (de_var 0 (pv 0)) (by rfl)) da_nil (by rfl)) (by decide) (by decide) (by rfl) (by rfl)) (de_fld T.cl_Joiner T.no__of (de_var 0 (pv 0)) (by rfl)) (nomark _)) (dss_one (ds_ret de_non)) dss_nil)
  (dss_cons (ds_setLc (ps_setLc (i := 1) (own := [("number", 4)]) (g := gName 4) (by rfl) nd rfl rfl (sw_true rfl rfl rfl (by decide +kernel)) (di_range1 (by rfl) T.z_range (da_cons (de_fld T.cl_Joiner T.no__of (de_var 0 (pv 0)) (by rfl)) da_nil (by rfl)) (by rfl)).pi (blkOk_by (own := [("number", 4)]) (N := N_d_Joiner_whole) (sc := defScope s_d_Joiner_whole) (by decide +kernel)) (fun _ _ _ _ _ => pg_name (i := 4) nd rfl (by first | exact Or.inl rfl | exact Or.inr rfl)) (fun _ _ _ _ _ => (dts_nil : DTs _ _ tYesD).pts) (fun _ _ _ _ _ => ((de_dgetM (u1 (u100 hr)) (de_fld T.cl_Joiner T.no__kept (de_var 0 (pv 0)) (by rfl)) (de_var 4 (pv 4)) (fun _ _ => rfl)) : DE _ _ (ce1_d_Joiner_whole T.C_Joiner)).pe)) cFrz_ok (by decide))
  (dss_cons (ds_if (dt_cmp (op_eqP (u100 hr)) l_eqV (de_fld T.cl_Joiner T.no__kind (de_var 0 (pv 0)) (by rfl)) de_str (nomark _)) (dss_one (ds_ret (de_bm F.plainAttrs_str F.slot_str_join F.type_str_join (mt_joinA rfl) l_joinA de_str (da_cons (de_var 1 (pv 1)) da_nil (by rfl)) rfl rfl rfl rfl rfl))) dss_nil)
  (dss_cons (ds_set (ps_set (i := 2) nd rfl (by first | exact Or.inl rfl | exact Or.inr rfl) (de_lstM da_nil).pe))
  (dss_cons (ds_for (ps_for PassesOwn.never rfl (di_list (de_var 1 (pv 1))).pi (dg_name (pg_name (i := 3) nd rfl (by first | exact Or.inl rfl | exact Or.inr rfl))).pg ((dss_one (ds_expr (ps_expr (de_bm F.plainAttrs_list F.slot_list_extend F.type_list_extend mt_extendT l_extT (de_var 2 (pv 2)) (da_cons (de_var 3 (pv 3)) da_nil (by rfl)) rfl rfl rfl rfl rfl).pe))) : DSs _ _ (lp1_d_Joiner_whole T.C_Joiner)).pss))
  (dss_frz 2 (dss_one (ds_ret (de_callT (call_tupA rfl) l_tupofS (by rfl) T.z_tuple (by decide +kernel) (da_cons (de_var 2 (pv 2)) da_nil (by rfl)) (by decide) (by decide) (by rfl) (by rfl))))))))))
abbrev sp_d_law : DSp := spLaw
theorem ar_d_law {ws : List W} {μ : M} {R : DQ} (h : sp_d_law ws μ R) : ws.length = 1 := spLaw_len ws μ R h

def lp1_d_law (CJ : Addr) : DTS := (tSeqD (tSetD 9 (tOp2 ixD (tVarD 5) (tCallD sp_d_law_take (tConsD (tVarD 2) (tConsD (tCallB lenM (tConsD (tVarD 5) tNilD)) tNilD)))))
  (tSeqD (DL.tIfS (tTst (tOp2 eqV (tCallD sp_d_law_take (tConsD (tVarD 2) (tConsD (tK (.d (.int 3))) tNilD))) (tK (.d (.int 0))))) (DL.tIfS (tTst (tOp2 neV (tMethC CJ "take" (sp_d_Joiner_take CJ) (tVarD 6) (tConsD (tVarD 9) tNilD)) (tCallD sp_d_law_due (tConsD (tVarD 7) (tConsD (tVarD 3) (tConsD (tVarD 4) (tConsD (tVarD 9) tNilD))))))) (tRetD (tK (.d (.bool false)))) tNextD) tNextD)
  (tSeqD (tSetD 10 (tCallD sp_d_law_odd (tConsD (tVarD 2) (tConsD (tVarD 3) (tConsD (tVarD 9) tNilD)))))
  (tSeqD (tSetD 11 (tCallB reprZ (tConsD (tVarD 10) tNilD)))
  (tSeqD (DL.tIfS (tOrB (tTst (tOp2 neV (tMethC CJ "take" (sp_d_Joiner_take CJ) (tVarD 6) (tConsD (tVarD 10) tNilD)) (tK (.d (.str "bent"))))) (tOrB (tTst (tOp2 neV (tCallB reprZ (tConsD (tVarD 10) tNilD)) (tVarD 11))) (tTru (tCallD sp_d_law_is_piece (tConsD (tVarD 3) (tConsD (tVarD 10) tNilD)))))) (tRetD (tK (.d (.bool false)))) tNextD)
  (tSeqD (DL.tIfS (tOrB (tTst (tOp2 neV (tCallB (lenID CJ (sp_d_Joiner_len CJ)) (tConsD (tVarD 6) tNilD)) (tCallB lenM (tConsD (tOp2 ixD (tVarD 7) (tK (.d (.int 1)))) tNilD)))) (tTst (tOp2 neV (tMethC CJ "missing" (sp_d_Joiner_missing CJ) (tVarD 6) tNilD) (tCallD sp_d_law_missing (tConsD (tVarD 7) tNilD))))) (tRetD (tK (.d (.bool false)))) tNextD)
  (DL.tIfS (tTst (tOp2 neV (tCallB reprZ (tConsD (tMethC CJ "whole" (sp_d_Joiner_whole CJ) (tVarD 6) tNilD) tNilD)) (tCallB reprZ (tConsD (tCallD sp_d_law_whole (tConsD (tVarD 7) (tConsD (tVarD 3) tNilD))) tNilD)))) (tRetD (tK (.d (.bool false)))) tNextD)))))))
def lp2_d_law (CJ : Addr) : DTS := (tSeqD (tSetD 2 (tCallD sp_d_law_urn (tConsD (tVarD 0) (tConsD (tVarD 1) tNilD))))
  (tSeqD (tSetD 3 (tOp2 ixD (tLstD (tConsD (tK (.d (.str "letters"))) (tConsD (tK (.d (.str "calls"))) (tConsD (tK (.d (.str "pages"))) (tConsD (tK (.d (.str "sounds"))) tNilD))))) (tCallD sp_d_law_take (tConsD (tVarD 2) (tConsD (tK (.d (.int 4))) tNilD)))))
  (tSeqD (tSetD 4 (tOp2 ixD (tLstD (tConsD (tK (.d (.int 1))) (tConsD (tCallD sp_d_law_ticket (tConsD (tVarD 2) tNilD)) tNilD))) (tCallD sp_d_law_take (tConsD (tVarD 2) (tConsD (tK (.d (.int 2))) tNilD)))))
  (tSeqD (tSetD 5 (tCallD sp_d_law_cut (tConsD (tVarD 4) (tConsD (tCallD sp_d_law_signs (tConsD (tVarD 2) (tConsD (tVarD 3) (tConsD (tOp2 addD (tK (.d (.int 1))) (tCallD sp_d_law_take (tConsD (tVarD 2) (tConsD (tK (.d (.int 20))) tNilD)))) tNilD)))) (tConsD (tOp2 addD (tK (.d (.int 1))) (tCallD sp_d_law_take (tConsD (tVarD 2) (tConsD (tK (.d (.int 9))) tNilD)))) tNilD)))))
  (tSeqD (tSetD 6 (tMakeC CJ (sp_d_Joiner_init CJ) (tConsD (tVarD 3) (tConsD (tVarD 4) tNilD))))
  (tSeqD (tSetD 7 (tLstM (tConsD (tK (.d (.int 0))) (tConsD tDictM tNilD))))
  (tForD (tItR (tConsD (tK (.d (.int 12))) tNilD)) (gNameD 8) (lp1_d_law CJ))))))))
def body_d_law (CJ : Addr) : DTS := (tSeqD (tForD (tItR (tConsD (tCallB max2D (tConsD (tK (.d (.int 1))) (tConsD (tCallB min2D (tConsD (tK (.d (.int 8))) (tConsD (tCallB lenM (tConsD (tVarD 0) tNilD)) tNilD))) tNilD))) tNilD)) (gNameD 1) (lp2_d_law CJ))
  (tRetD (tK (.d (.bool true)))))
section
variable {CJ : Addr} {kd : Str} {tk : Int} {x dx e st e2 : Addr} {N : Nat} {f : Option Int} {kept : List (Int × Sig)} {μ : M} {t n o s : Int} {σ : Sig}
theorem Js.add (J : Js CJ kd tk x dx e st e2 N f kept μ) (pk : POk kd t n o s σ) (hg : good tk f t n o s σ = true) (hk : kfind kept n = none) {μ' : M} (hx : μ' x = some (.ins CJ dx (jf kd tk (some o) e))) (he : μ' e = some (.dct (keptW (kept ++ [(n, σ)])))) (hs : μ' st = some (.lst [.d (.int o), .v (.ref e2)])) (h2 : μ' e2 = some (.dct (keptW (kept ++ [(n, σ)])))) : Js CJ kd tk x dx e st e2 (N + 1) (some o) (kept ++ [(n, σ)]) μ' := by
  unfold good at hg
  simp only [Bool.and_eq_true] at hg
  obtain ⟨hg1, ⟨hg2, hg3⟩, _⟩ := hg
  unfold inR at hg1
  simp only [Bool.and_eq_true, decide_eq_true_eq] at hg1
  have ho := ofOk_iff hg3
  refine ⟨hx, he, hs, h2, J.ne, ?_, ?_, ?_, ?_, ?_, ?_⟩
  · intro k ek; cases ek; have := pk.n0; omega
  · rw [List.length_append]; have := J.num; simp; omega
  · intro y hy
    rcases List.mem_append.mp hy with h | h
    · exact J.oks y h
    · rw [List.mem_singleton] at h; subst h; exact ⟨pk.ks, pk.ok, pk.len⟩
  · intro y hy
    rcases List.mem_append.mp hy with h | h
    · refine ⟨(J.rng y h).1, fun k ek => ?_⟩
      cases ek
      cases ef : f with
      | none => rw [J.ff.mp ef] at h; cases h
      | some k => have := ho k ef; subst this; exact (J.rng y h).2 _ ef
    · rw [List.mem_singleton] at h; subst h; exact ⟨pk.n0, fun k ek => by cases ek; show n < o; omega⟩
  · rw [List.map_append]
    refine List.nodup_append.mpr ⟨J.nd, by simp, ?_⟩
    intro a ha b hb
    simp only [List.map_cons, List.map_nil, List.mem_singleton] at hb
    subst hb
    intro z
    subst z
    exact kfind_none hk ha
  · constructor
    · intro z; cases z
    · intro z; simp at z
theorem Js.up (J : Js CJ kd tk x dx e st e2 N f kept μ) : Js CJ kd tk x dx e st e2 (N + 1) f kept μ := ⟨J.jx, J.je, J.js, J.j2, J.ne, J.pos, Nat.le_succ_of_le J.num, J.oks, J.rng, J.nd, J.ff⟩
/-- what is due, then what the joiner tells -/
theorem Js.due (J : Js CJ kd tk x dx e st e2 N f kept μ) (pk : POk kd t n o s σ) (ft : Fit (pc t n o s σ)) (hN : N ≤ 90000) {C : W → M → Prop}
    (h : ∀ w μ1, μ1 x = μ x → (∀ R : DQ, (∀ f' kept' μ', Js CJ kd tk x dx e st e2 (N + 1) f' kept' μ' → (f' = f ∧ kept' = kept ∨ f' = some o ∧ good tk f t n o s σ = true ∧ kfind kept n = none ∧ kept' = kept ++ [(n, σ)]) → (∀ q, q ≠ x → q ≠ e → q ≠ st → q ≠ e2 → μ' q = μ q) → R (.d (.str w)) μ') → sp_d_Joiner_take CJ [.v (.ref x), .d (pc t n o s σ)] μ1 R) → C (.d (.str w)) μ1) :
    sp_d_law_due [.v (.ref st), .d (.str kd), .d (.int tk), .d (pc t n o s σ)] μ C := by
  have d1 : x ≠ e := fun z => by have := J.jx; rw [z, J.je] at this; cases this
  have d2 : x ≠ e2 := fun z => by have := J.jx; rw [z, J.j2] at this; cases this
  have d3 : x ≠ st := fun z => by have := J.jx; rw [z, J.js] at this; cases this
  have d4 : st ≠ e := fun z => by have := J.js; rw [z, J.je] at this; cases this
  have d5 : st ≠ e2 := fun z => by have := J.js; rw [z, J.j2] at this; cases this
  have hl := J.num
  refine .inr ⟨f, e2, kept, t, n, o, s, σ, ft, J.js, fun k ek => (J.pos k ek).1, J.j2, rfl, pk, by omega, J.oks, ?_⟩
  by_cases hg : good tk f t n o s σ = true
  · rw [if_pos hg]
    cases hk : kfind kept n with
    | some σ' =>
      refine h _ _ rfl fun R hR => ?_
      refine .inr ⟨dx, kd, tk, f, e, kept, t, n, o, s, σ, ft, J.jx, J.je, rfl, pk, by omega, J.oks, ?_⟩
      rw [if_pos hg, hk]
      exact hR f kept μ J.up (.inl ⟨rfl, rfl⟩) fun _ _ _ _ _ => rfl
    | none =>
      refine h _ _ ?_ fun R hR => ?_
      · rw [mset_ne d2, mset_ne d3]
      refine .inr ⟨dx, kd, tk, f, e, kept, t, n, o, s, σ, ft, ?_, ?_, rfl, pk, by omega, J.oks, ?_⟩
      · rw [mset_ne d2, mset_ne d3]; exact J.jx
      · rw [mset_ne J.ne, mset_ne (Ne.symm d4)]; exact J.je
      rw [if_pos hg, hk]
      refine hR (some o) _ _ (J.add pk hg hk (by rw [mset_ne d1, mset_same]) mset_same (by rw [mset_ne d4, mset_ne (Ne.symm d3), mset_ne d5, mset_same]) (by rw [mset_ne (Ne.symm J.ne), mset_ne (Ne.symm d2), mset_same])) (.inr ⟨rfl, hg, hk, rfl⟩) fun q q1 q2 q3 q4 => ?_
      rw [mset_ne q2, mset_ne q1, mset_ne q4, mset_ne q3]
  · rw [if_neg hg]
    refine h _ _ rfl fun R hR => ?_
    refine .inr ⟨dx, kd, tk, f, e, kept, t, n, o, s, σ, ft, J.jx, J.je, rfl, pk, by omega, J.oks, ?_⟩
    rw [if_neg hg]
    exact hR f kept μ J.up (.inl ⟨rfl, rfl⟩) fun _ _ _ _ _ => rfl
/-- what the joiner tells, then what is due -/
theorem Js.took (J : Js CJ kd tk x dx e st e2 N f kept μ) (pk : POk kd t n o s σ) (ft : Fit (pc t n o s σ)) (hN : N ≤ 90000) {C : W → M → Prop}
    (h : ∀ w μ1, (∀ q, q ≠ x → q ≠ e → μ1 q = μ q) → (∀ R : DQ, (∀ f' kept' μ', Js CJ kd tk x dx e st e2 (N + 1) f' kept' μ' → (f' = f ∧ kept' = kept ∨ f' = some o ∧ good tk f t n o s σ = true ∧ kfind kept n = none ∧ kept' = kept ++ [(n, σ)]) → (∀ q, q ≠ x → q ≠ e → q ≠ st → q ≠ e2 → μ' q = μ q) → R (.d (.str w)) μ') → sp_d_law_due [.v (.ref st), .d (.str kd), .d (.int tk), .d (pc t n o s σ)] μ1 R) → C (.d (.str w)) μ1) :
    sp_d_Joiner_take CJ [.v (.ref x), .d (pc t n o s σ)] μ C := by
  have d1 : x ≠ e := fun z => by have := J.jx; rw [z, J.je] at this; cases this
  have d2 : x ≠ e2 := fun z => by have := J.jx; rw [z, J.j2] at this; cases this
  have d3 : x ≠ st := fun z => by have := J.jx; rw [z, J.js] at this; cases this
  have d4 : st ≠ e := fun z => by have := J.js; rw [z, J.je] at this; cases this
  have d5 : st ≠ e2 := fun z => by have := J.js; rw [z, J.j2] at this; cases this
  have hl := J.num
  refine .inr ⟨dx, kd, tk, f, e, kept, t, n, o, s, σ, ft, J.jx, J.je, rfl, pk, by omega, J.oks, ?_⟩
  by_cases hg : good tk f t n o s σ = true
  · rw [if_pos hg]
    cases hk : kfind kept n with
    | some σ' =>
      refine h _ _ (fun _ _ _ => rfl) fun R hR => ?_
      refine .inr ⟨f, e2, kept, t, n, o, s, σ, ft, J.js, fun k ek => (J.pos k ek).1, J.j2, rfl, pk, by omega, J.oks, ?_⟩
      rw [if_pos hg, hk]
      exact hR f kept μ J.up (.inl ⟨rfl, rfl⟩) fun _ _ _ _ _ => rfl
    | none =>
      refine h _ _ (fun q q1 q2 => by rw [mset_ne q2, mset_ne q1]) fun R hR => ?_
      refine .inr ⟨f, e2, kept, t, n, o, s, σ, ft, ?_, fun k ek => (J.pos k ek).1, ?_, rfl, pk, by omega, J.oks, ?_⟩
      · rw [mset_ne d4, mset_ne (Ne.symm d3)]; exact J.js
      · rw [mset_ne (Ne.symm J.ne), mset_ne (Ne.symm d2)]; exact J.j2
      rw [if_pos hg, hk]
      refine hR (some o) _ _ (J.add pk hg hk (by rw [mset_ne d2, mset_ne d3, mset_ne d1, mset_same]) (by rw [mset_ne J.ne, mset_ne (Ne.symm d4), mset_same]) (by rw [mset_ne d5, mset_same]) mset_same) (.inr ⟨rfl, hg, hk, rfl⟩) fun q q1 q2 q3 q4 => ?_
      rw [mset_ne q4, mset_ne q3, mset_ne q2, mset_ne q1]
  · rw [if_neg hg]
    refine h _ _ (fun _ _ _ => rfl) fun R hR => ?_
    refine .inr ⟨f, e2, kept, t, n, o, s, σ, ft, J.js, fun k ek => (J.pos k ek).1, J.j2, rfl, pk, by omega, J.oks, ?_⟩
    rw [if_neg hg]
    exact hR f kept μ J.up (.inl ⟨rfl, rfl⟩) fun _ _ _ _ _ => rfl
end
theorem rd_d_law (CJ : Addr) {ws : List W} {μ : M} {R : DQ} (h : sp_d_law ws μ R) : body_d_law CJ { nx := fun _ μ' => R (.d .none) μ', rt := R } (startD N_d_law.length ws) μ := by
  obtain ⟨ns, rfl, hl, q⟩ := h
  unfold body_d_law
  walk_at "dlsym"
  generalize hx : (if (if (ns.length : Int) < 8 then (ns.length : Int) else 8) > 1 then (if (ns.length : Int) < 8 then (ns.length : Int) else 8) else 1) = x
  have hx2 : 1 ≤ x ∧ x ≤ 8 := by subst hx; split <;> (try split) <;> omega
  refine ⟨by omega, by omega, ?_⟩
  refine loopD_inv (fun r ρ _ => (∀ w ∈ r, ∃ k : Int, w = .d (.int k) ∧ 0 ≤ k ∧ k ≤ 300) ∧ ∃ t1 t2 t3 t4 t5 t6 t7 t8 t9 t10 t11, ρ = [some (.s ns), t1, t2, t3, t4, t5, t6, t7, t8, t9, t10, t11]) ?_ ?_ ?_
  · refine ⟨fun w hw => ?_, _, _, _, _, _, _, _, _, _, _, _, rfl⟩
    unfold rangeW at hw
    rw [List.mem_map] at hw
    obtain ⟨i, hi, rfl⟩ := hw
    rw [List.mem_range] at hi
    exact ⟨_, rfl, by omega, by omega⟩
  · rintro w r ρ μ1 Z ⟨hr, t1, t2, t3, t4, t5, t6, t7, t8, t9, t10, t11, rfl⟩ hZ
    obtain ⟨k, rfl, k0, k1⟩ := hr w List.mem_cons_self
    unfold lp2_d_law
    walk_at "dlsym"
    refine ⟨k0, k1, by omega, fun p m hp hu => ?_⟩
    walk_at "dlsym"
    refine ⟨_, m, mset_same, hu, by omega, by decide, by decide, fun j m2 j0 j1 hu2 => ?_⟩
    rw [mset_mset]
    walk_at "dlsym"
    refine onS_at j0 (by simpa using j1) fun kd hkd => ?_
    obtain ⟨kd, rfl, hk⟩ : ∃ s : Str, kd = .str s ∧ s ∈ kindsL := by
      simp only [List.mem_cons, List.not_mem_nil, or_false] at hkd
      rcases hkd with rfl | rfl | rfl | rfl <;> exact ⟨_, rfl, by simp [kindsL]⟩
    walk_at "dlsym"
    refine ⟨_, m2, mset_same, hu2, by omega, fun tk0' m3 tk0 tk1 hu3 => ?_⟩
    rw [mset_mset]
    walk_at "dlsym"
    refine ⟨_, m3, mset_same, hu3, by omega, by decide, by decide, fun j3 m4 j30 j31 hu4 => ?_⟩
    rw [mset_mset]
    walk_at "dlsym"
    refine onS_at j30 (by simpa using j31) fun tkd htk => ?_
    obtain ⟨tk, rfl, tk0, tk1⟩ : ∃ t : Int, tkd = .int t ∧ 0 ≤ t ∧ t ≤ 1000000000 := by
      simp only [List.mem_cons, List.not_mem_nil, or_false] at htk
      rcases htk with rfl | rfl
      · exact ⟨1, rfl, by decide, by decide⟩
      · exact ⟨_, rfl, tk0, tk1⟩
    walk_at "dlsym"
    refine ⟨_, m4, mset_same, hu4, by omega, by decide, by decide, fun j5 m5 j50 j51 hu5 => ?_⟩
    rw [mset_mset]
    walk_at "dlsym"
    refine ⟨hk, by omega, by omega, _, m5, mset_same, hu5, by omega, fun sg m6 st s30 slt snl hu6 => ?_⟩
    rw [mset_mset]
    obtain ⟨σ, rfl, ks, so, sl⟩ := ks_of hk st s30 slt snl
    walk_at "dlsym"
    refine ⟨_, m6, mset_same, hu6, by omega, by decide, by decide, fun j7 m7 j70 j71 hu7 => ?_⟩
    rw [mset_mset]
    walk_at "dlsym"
    obtain ⟨wn, ew⟩ : ∃ n : Nat, (1 + j7 : Int) = (n : Int) := ⟨((1 + j7 : Int)).toNat, by omega⟩
    have ok : PtOk tk σ wn := ⟨by omega, by omega, so, by omega, tk0, tk1⟩
    have sl20 : σ.len ≤ 20 := by omega
    have mP1 : 1 ≤ manyP σ wn := by unfold manyP; omega
    have mle := many_le σ ok.1
    refine ⟨σ, wn, rfl, ew, ok, fun x dx hx => ?_⟩
    refine ⟨dx, mset_same, fun e he => ⟨rfl, fun e2 he2 st hst => ?_⟩⟩
    rw [mset_mset] at he2 hst ⊢
    have n1 : x ≠ p := fun z => by rw [z, mset_same] at hx; cases hx
    have n2 : e ≠ x := fun z => by rw [z, mset_same] at he; cases he
    have n3 : e ≠ p := fun z => by rw [z, mset_ne (Ne.symm n1), mset_same] at he; cases he
    have n4 : e2 ≠ e := fun z => by rw [z, mset_same] at he2; cases he2
    have n5 : e2 ≠ x := fun z => by rw [z, mset_ne (Ne.symm n2), mset_same] at he2; cases he2
    have n6 : e2 ≠ p := fun z => by rw [z, mset_ne (Ne.symm n3), mset_ne (Ne.symm n1), mset_same] at he2; cases he2
    have n7 : st ≠ e2 := fun z => by rw [z, mset_same] at hst; cases hst
    have n8 : st ≠ e := fun z => by rw [z, mset_ne (Ne.symm n4), mset_same] at hst; cases hst
    have n9 : st ≠ x := fun z => by rw [z, mset_ne (Ne.symm n5), mset_ne (Ne.symm n2), mset_same] at hst; cases hst
    have n10 : st ≠ p := fun z => by rw [z, mset_ne (Ne.symm n6), mset_ne (Ne.symm n3), mset_ne (Ne.symm n1), mset_same] at hst; cases hst
    generalize hm : mset (mset (mset (mset (mset μ1 p m7) x (MO.ins CJ dx (jf kd tk none e))) e (MO.dct [])) e2 (MO.dct [])) st (MO.lst [W.d (PyData.int 0), W.v (V.ref e2)]) = ν
    have hνp7 : ν p = some m7 := by rw [← hm, mset_ne (Ne.symm n10), mset_ne (Ne.symm n6), mset_ne (Ne.symm n3), mset_ne (Ne.symm n1), mset_same]
    have J7 : Js CJ kd tk x dx e st e2 0 none [] ν := by
      refine ⟨?_, ?_, ?_, ?_, Ne.symm n4, (fun k z => by cases z), Nat.le_refl _, (fun y hy => by cases hy), (fun y hy => by cases hy), by simp, by simp⟩
      · rw [← hm, mset_ne (Ne.symm n9), mset_ne (Ne.symm n5), mset_ne (Ne.symm n2), mset_same]
      · rw [← hm, mset_ne (Ne.symm n8), mset_ne (Ne.symm n4), mset_same]; rfl
      · rw [← hm, mset_same]; rfl
      · rw [← hm, mset_ne (Ne.symm n7), mset_same]; rfl
    clear hm he he2 hst hx
    have hall : ∀ d ∈ piecesD tk wn σ, ∃ n s σ', d = pc tk n (manyP σ wn : Nat) s σ' ∧ POk kd tk n (manyP σ wn : Nat) s σ' ∧ Fit (pc tk n (manyP σ wn : Nat) s σ') ∧ σ'.len ≤ 20 ∧ n ≤ 20000 ∧ s ≤ 1000000 := by
      intro d hd
      obtain ⟨n, s, σ', e, pk, l', n', s'⟩ := piece_20 ok ks sl20 hd
      exact ⟨n, s, σ', e, pk, pc_fit pk (by omega) (by omega) (by omega) (by omega), l', by omega, by omega⟩
    have hpl : (piecesD tk wn σ).length = manyP σ wn := by unfold piecesD; rw [List.length_map, List.length_range]
    generalize piecesD tk wn σ = pcs at hall hpl ⊢
    refine loopD_inv (fun r ρ μ' => ∃ (N : Nat) (f : Option Int) (kept : List (Int × Sig)) (m' : MO) (t8 t9 t10 t11 : Option W), N + r.length = 12 ∧ Js CJ kd tk x dx e st e2 N f kept μ' ∧ (∀ y ∈ kept, y.2.len ≤ 20) ∧ μ' p = some m' ∧ IsUrn (2 ^ 22 + 20 * N) m' ∧ ρ = [some (.s ns), some (.d (.int k)), some (.v (.ref p)), some (.d (.str kd)), some (.d (.int tk)), some (.d (.list pcs)), some (.v (.ref x)), some (.v (.ref st)), t8, t9, t10, t11]) ?_ ?_ ?_
    · exact ⟨0, none, [], m7, _, _, _, _, rfl, J7, (fun y hy => by cases hy), hνp7, hu7.mono (by omega), rfl⟩
    · rintro w r2 ρ μ' Z2 ⟨N, f, kept, m', t8, t9, t10, t11, hN, J, hs, hp', hu', rfl⟩ hZ2
      rw [List.length_cons] at hN
      unfold lp1_d_law
      refine seq2 (fun ρ μa => ∃ (f' : Option Int) (kept' : List (Int × Sig)) (m'' : MO) (n s : Int) (σ' : Sig) (t8 t10 t11 : Option W), Js CJ kd tk x dx e st e2 (N + 1) f' kept' μa ∧ (∀ y ∈ kept', y.2.len ≤ 20) ∧ μa p = some m'' ∧ IsUrn (2 ^ 22 + 20 * N + 2) m'' ∧ POk kd tk n (manyP σ wn : Nat) s σ' ∧ σ'.len ≤ 20 ∧ n ≤ 20000 ∧ s ≤ 1000000 ∧ ρ = [some (.s ns), some (.d (.int k)), some (.v (.ref p)), some (.d (.str kd)), some (.d (.int tk)), some (.d (.list pcs)), some (.v (.ref x)), some (.v (.ref st)), t8, some (.d (pc tk n (manyP σ wn : Nat) s σ')), t10, t11]) ?_ ?_
      · rintro ρ μa ⟨f', kept', m'', n, s, σ', t8, t10, t11, J4, hs4, hp4, hu4', pk, l', n', s', rfl⟩
        have J4 := J4
        obtain ⟨ww, hww⟩ := repr_wholeZ (J4.kp (by omega)) hs4 (Nat.le_trans (Nat.mul_le_mul_right _ (Nat.mul_le_mul_right _ (show kept'.length ≤ 12 by have := J4.num; omega))) (by decide))
        have kp := J4.kp (by omega)
        walk_at "dlsym"
        refine ⟨tk, n, _, s, σ', _, m'', rfl, pk, by omega, by omega, by omega, by omega, by omega, hp4, hu4', by omega, fun y m9 hy hu9 => ?_⟩
        walk_at "dlsym"
        obtain ⟨w, hw⟩ := hy.rp
        have J5 := J4.at (μ' := mset μa p m9) (mset_ne n1) (mset_ne n3) (mset_ne n10) (mset_ne n6)
        have hp5 : mset μa p m9 p = some m9 := mset_same
        generalize mset μa p m9 = ν5 at J5 hp5 ⊢
        refine hw _ _ ?_
        walk_at "dlsym"
        refine onS_of J5.jx ⟨rfl, rfl, .inl ⟨dx, kd, tk, f', e, J5.jx, hy.ft, hy.no, ?_⟩⟩
        walk_at "dlsym"
        refine hw _ _ ?_
        walk_at "dlsym"
        refine ⟨hy.ft, ?_⟩
        rw [hy.no]
        walk_at "dlsym"
        have hk5 := J5.num
        refine onS_of J5.jx ⟨rfl, dx, kd, tk, f', e, _, J5.jx, J5.je, _, rfl, by omega, ?_, ?_⟩
        · unfold keptW; rw [List.length_map]; omega
        refine onS_of J5.js ?_
        dsimp only
        refine onS_of (x := W.v (.ref e2)) rfl ?_
        walk_at "dlsym"
        refine onS_of J5.j2 ?_
        walk_at "dlsym"
        refine onS_of J5.jx ⟨rfl, rfl, ⟨dx, kd, tk, f', e, kept', J5.jx, J5.je, J5.pos, fun pm hpm => ?_⟩⟩
        walk_at "dlsym"
        have hpp : p ≠ pm := fun z => by rw [z, hpm] at hp5; cases hp5
        have J6 := J5.new hpm (.lst ((missD f' kept').map .d))
        have hp6 : mset ν5 pm (.lst ((missD f' kept').map .d)) p = some m9 := (mset_ne hpp).trans hp5
        refine ⟨f', e2, kept', J6.js, J6.j2, J6.pos, ?_⟩
        walk_at "dlsym"
        refine ⟨miss_plain _ _, miss_plain _ _, by rw [miss_depth]; decide, ?_⟩
        rw [miss_self, if_neg (by decide)]
        generalize mset ν5 pm (.lst ((missD f' kept').map .d)) = ν6 at J6 hp6 ⊢
        refine onS_of J6.jx ⟨rfl, rfl, ⟨dx, kd, tk, f', e, kept', J6.jx, J6.je, kp, ?_⟩⟩
        refine hww _ _ ?_
        refine ⟨f', e2, kept', J6.js, J6.j2, kp, ?_⟩
        refine hww _ _ ?_
        walk_at "dlsym"
        exact hZ2 _ _ ⟨N + 1, f', kept', m9, _, _, _, _, by omega, J6, hs4, hp6, hu9.mono (by omega), rfl⟩
      · intro K hK
        walk_at "dlsym"
        refine ⟨_, m', hp', hu', by omega, by omega, by omega, fun j8 m8 j80 j81 hu8 => ?_⟩
        walk_at "dlsym"
        refine onS_at j80 j81 fun d hd => ?_
        obtain ⟨n, s, σ', rfl, pk, ft, l', n', s'⟩ := hall d hd
        refine ⟨_, m8, mset_same, hu8, by omega, by decide, by decide, fun j9 m9 j90 j91 hu9 => ?_⟩
        rw [mset_mset]
        walk_at "dlsym"
        have J5 := J.at (μ' := mset μ' p m9) (mset_ne n1) (mset_ne n3) (mset_ne n10) (mset_ne n6)
        have hp5 : mset μ' p m9 p = some m9 := mset_same
        generalize mset μ' p m9 = ν5 at J5 hp5 ⊢
        rw [eqv_int]
        refine if2 (fun e0 => ?_) fun e0 => ?_
        · refine onS_of J5.jx ⟨rfl, rfl, J5.took pk ft (by omega) fun w μ6 fr6 hd6 => hd6 _ fun f' kept' μ7 J8 ch fr => ?_⟩
          have hs8 : ∀ y ∈ kept', y.2.len ≤ 20 := by
            rcases ch with ⟨_, rfl⟩ | ⟨_, _, _, rfl⟩
            · exact hs
            · intro y hy
              rcases List.mem_append.mp hy with h | h
              · exact hs y h
              · rw [List.mem_singleton] at h; subst h; exact l'
          have hp8 : μ7 p = some m9 := (fr p (Ne.symm n1) (Ne.symm n3) (Ne.symm n10) (Ne.symm n6)).trans hp5
          walk_at "dlsym"
          exact hK _ _ ⟨f', kept', m9, n, s, σ', _, _, _, J8, hs8, hp8, hu9.mono (by omega), pk, l', n', s', rfl⟩
        · exact hK _ _ ⟨f, kept, m9, n, s, σ', _, _, _, J5.up, hs, hp5, hu9.mono (by omega), pk, l', n', s', rfl⟩
    · rintro ρ μ' ⟨N, f, kept, m', t8, t9, t10, t11, hN, J, hs, hp', hu', rfl⟩
      exact hZ _ _ ⟨fun x hx => hr x (List.mem_cons_of_mem _ hx), _, _, _, _, _, _, _, _, _, _, _, rfl⟩
  · rintro ρ μ1 ⟨_, t1, t2, t3, t4, t5, t6, t7, t8, t9, t10, t11, rfl⟩
    walk_at "dlsym"
    exact q _

theorem ok_d_law {P : Program} {w : World} {K : PySem.W.Frag} {mg : Str → Option Value} {base : Heap} (T : Tx w K mg) : FG P w K mg base CX0 8 T.f_d_law T.fd_d_law ["script"] (lSp K sp_d_law) := by
  refine fg_data T.F_d_law sc_d_law (fun ws μ R h => ar_d_law h) (body_d_law T.C_Joiner) (fun cdv A outer s H E hr hgd => ?_) (fun ws μ R h => rd_d_law T.C_Joiner h)
  have nd := sc_d_law.nd
  exact (dss_cons (ds_for (ps_for PassesOwn.never rfl (di_range1 (by rfl) T.z_range (da_cons (de_callB (call_max2 rfl) l_int2 (by rfl) T.z_max (by decide +kernel) (da_cons de_int (da_cons (de_callB (call_min2 rfl) l_int2 (by rfl) T.z_min (by decide +kernel) (da_cons de_int (da_cons (de_callB call_lenA l_lenM (by rfl) T.z_len (by decide +kernel) (da_cons (de_var 0 (pv 0)) da_nil (by rfl)) (by decide) (by decide) (by rfl) (by rfl)) da_nil (by rfl)) (by rfl)) (by decide) (by decide) (by rfl) (by rfl)) da_nil (by rfl)) (by rfl)) (by decide) (by decide) (by rfl) (by rfl)) da_nil (by rfl)) (by rfl)).pi (dg_name (pg_name (i := 1) nd rfl (by first | exact Or.inl rfl | exact Or.inr rfl))).pg ((dss_cons (ds_set (ps_set (i := 2) nd rfl (by first | exact Or.inl rfl | exact Or.inr rfl) (de_call (ok_d_law_urn T) (hr.mono (by first | decide | omega)) hgd (by rfl) T.m_d_law_urn T.F_d_law_urn.kp T.b_d_law_urn (da_cons (de_var 0 (pv 0)) (da_cons (de_var 1 (pv 1)) da_nil (by rfl)) (by rfl)) (by decide) (by rfl) (by rfl)).pe))
  (dss_cons (ds_set (ps_set (i := 3) nd rfl (by first | exact Or.inl rfl | exact Or.inr rfl) (de_ix (de_lst (da_cons de_str (da_cons de_str (da_cons de_str (da_cons de_str da_nil (by rfl)) (by rfl)) (by rfl)) (by rfl))) (de_call (ok_d_law_take T) (hr.mono (by first | decide | omega)) hgd (by rfl) T.m_d_law_take T.F_d_law_take.kp T.b_d_law_take (da_cons (de_var 2 (pv 2)) (da_cons de_int da_nil (by rfl)) (by rfl)) (by decide) (by rfl) (by rfl)) (fun _ _ => rfl)).pe))
  (dss_cons (ds_set (ps_set (i := 4) nd rfl (by first | exact Or.inl rfl | exact Or.inr rfl) (de_ix (de_lst (da_cons de_int (da_cons (de_call (ok_d_law_ticket T) (hr.mono (by first | decide | omega)) hgd (by rfl) T.m_d_law_ticket T.F_d_law_ticket.kp T.b_d_law_ticket (da_cons (de_var 2 (pv 2)) da_nil (by rfl)) (by decide) (by rfl) (by rfl)) da_nil (by rfl)) (by rfl))) (de_call (ok_d_law_take T) (hr.mono (by first | decide | omega)) hgd (by rfl) T.m_d_law_take T.F_d_law_take.kp T.b_d_law_take (da_cons (de_var 2 (pv 2)) (da_cons de_int da_nil (by rfl)) (by rfl)) (by decide) (by rfl) (by rfl)) (fun _ _ => rfl)).pe))
  (dss_cons (ds_set (ps_set (i := 5) nd rfl (by first | exact Or.inl rfl | exact Or.inr rfl) (de_call (ok_d_law_cut T) (hr.mono (by first | decide | omega)) hgd (by rfl) T.m_d_law_cut T.F_d_law_cut.kp T.b_d_law_cut (da_cons (de_var 4 (pv 4)) (da_cons (de_call (ok_d_law_signs T) (hr.mono (by first | decide | omega)) hgd (by rfl) T.m_d_law_signs T.F_d_law_signs.kp T.b_d_law_signs (da_cons (de_var 2 (pv 2)) (da_cons (de_var 3 (pv 3)) (da_cons (de_add de_int (de_call (ok_d_law_take T) (hr.mono (by first | decide | omega)) hgd (by rfl) T.m_d_law_take T.F_d_law_take.kp T.b_d_law_take (da_cons (de_var 2 (pv 2)) (da_cons de_int da_nil (by rfl)) (by rfl)) (by decide) (by rfl) (by rfl))) da_nil (by rfl)) (by rfl)) (by rfl)) (by decide) (by rfl) (by rfl)) (da_cons (de_add de_int (de_call (ok_d_law_take T) (hr.mono (by first | decide | omega)) hgd (by rfl) T.m_d_law_take T.F_d_law_take.kp T.b_d_law_take (da_cons (de_var 2 (pv 2)) (da_cons de_int da_nil (by rfl)) (by rfl)) (by decide) (by rfl) (by rfl))) da_nil (by rfl)) (by rfl)) (by rfl)) (by decide) (by rfl) (by rfl)).pe))
  (dss_cons (ds_set (ps_set (i := 6) nd rfl (by first | exact Or.inl rfl | exact Or.inr rfl) (de_make T.mk_Joiner (ok_d_Joiner_init T) (hr.mono (by first | decide | omega)) hgd (by rfl) T.mc_Joiner T.b_d_Joiner_init (da_cons (de_var 3 (pv 3)) (da_cons (de_var 4 (pv 4)) da_nil (by rfl)) (by rfl)) (by decide) (by rfl) (by rfl)).pe))
  (dss_cons (ds_set (ps_set (i := 7) nd rfl (by first | exact Or.inl rfl | exact Or.inr rfl) (de_lstM (da_cons de_int (da_cons de_dictM da_nil (by rfl)) (by rfl))).pe))
  (dss_one (ds_for (ps_for PassesOwn.never rfl (di_range1 (by rfl) T.z_range (da_cons de_int da_nil (by rfl)) (by rfl)).pi (dg_name (pg_name (i := 8) nd rfl (by first | exact Or.inl rfl | exact Or.inr rfl))).pg ((dss_cons (ds_set (ps_set (i := 9) nd rfl (by first | exact Or.inl rfl | exact Or.inr rfl) (de_ix (de_var 5 (pv 5)) (de_call (ok_d_law_take T) (hr.mono (by first | decide | omega)) hgd (by rfl) T.m_d_law_take T.F_d_law_take.kp T.b_d_law_take (da_cons (de_var 2 (pv 2)) (da_cons (de_callB call_lenA l_lenM (by rfl) T.z_len (by decide +kernel) (da_cons (de_var 5 (pv 5)) da_nil (by rfl)) (by decide) (by decide) (by rfl) (by rfl)) da_nil (by rfl)) (by rfl)) (by decide) (by rfl) (by rfl)) (fun _ _ => rfl)).pe))
  (dss_cons (ds_if (dt_cmp (op_eqP (u100 hr)) l_eqV (de_call (ok_d_law_take T) (hr.mono (by first | decide | omega)) hgd (by rfl) T.m_d_law_take T.F_d_law_take.kp T.b_d_law_take (da_cons (de_var 2 (pv 2)) (da_cons de_int da_nil (by rfl)) (by rfl)) (by decide) (by rfl) (by rfl)) de_int (nomark _)) (dss_one (ds_if (dt_cmp (op_neP (u100 hr)) l_neV (de_meth (de_var 6 (pv 6)) T.cl_Joiner T.me_d_Joiner_take (ok_d_Joiner_take T) (hr.mono (by first | decide | omega)) hgd T.b_d_Joiner_take (da_cons (de_var 9 (pv 9)) da_nil (by rfl)) (by rfl) (by rfl) (by rfl)) (de_call (ok_d_law_due T) (hr.mono (by first | decide | omega)) hgd (by rfl) T.m_d_law_due T.F_d_law_due.kp T.b_d_law_due (da_cons (de_var 7 (pv 7)) (da_cons (de_var 3 (pv 3)) (da_cons (de_var 4 (pv 4)) (da_cons (de_var 9 (pv 9)) da_nil (by rfl)) (by rfl)) (by rfl)) (by rfl)) (by decide) (by rfl) (by rfl)) (nomark _)) (dss_one (ds_ret de_bl)) dss_nil)) dss_nil)
  (dss_cons (ds_set (ps_set (i := 10) nd rfl (by first | exact Or.inl rfl | exact Or.inr rfl) (de_call (ok_d_law_odd T) (hr.mono (by first | decide | omega)) hgd (by rfl) T.m_d_law_odd T.F_d_law_odd.kp T.b_d_law_odd (da_cons (de_var 2 (pv 2)) (da_cons (de_var 3 (pv 3)) (da_cons (de_var 9 (pv 9)) da_nil (by rfl)) (by rfl)) (by rfl)) (by decide) (by rfl) (by rfl)).pe))
  (dss_cons (ds_set (ps_set (i := 11) nd rfl (by first | exact Or.inl rfl | exact Or.inr rfl) (de_callB (call_reprZ (u100 hr) hgd) l_reprZ (by rfl) T.z_repr (by decide +kernel) (da_cons (de_var 10 (pv 10)) da_nil (by rfl)) (by decide) (by decide) (by rfl) (by rfl)).pe))
  (dss_cons (ds_if (dt_w (dw_or (dt_cmp (op_neP (u100 hr)) l_neV (de_meth (de_var 6 (pv 6)) T.cl_Joiner T.me_d_Joiner_take (ok_d_Joiner_take T) (hr.mono (by first | decide | omega)) hgd T.b_d_Joiner_take (da_cons (de_var 10 (pv 10)) da_nil (by rfl)) (by rfl) (by rfl) (by rfl)) de_str (nomark _)) (dw_or (dt_cmp (op_neP (u100 hr)) l_neV (de_callB (call_reprZ (u100 hr) hgd) l_reprZ (by rfl) T.z_repr (by decide +kernel) (da_cons (de_var 10 (pv 10)) da_nil (by rfl)) (by decide) (by decide) (by rfl) (by rfl)) (de_var 11 (pv 11)) (nomark _)) (dw_or1 (dt_of (de_call (ok_d_law_is_piece T) (hr.mono (by first | decide | omega)) hgd (by rfl) T.m_d_law_is_piece T.F_d_law_is_piece.kp T.b_d_law_is_piece (da_cons (de_var 3 (pv 3)) (da_cons (de_var 10 (pv 10)) da_nil (by rfl)) (by rfl)) (by decide) (by rfl) (by rfl)) (fun _ => rfl)))))) (dss_one (ds_ret de_bl)) dss_nil)
  (dss_cons (ds_if (dt_w (dw_or (dt_cmp (op_neP (u100 hr)) l_neV (de_callB (call_lenI T.me_d_Joiner_len (ok_d_Joiner_len T) (hr.mono (by first | decide | omega)) hgd T.b_d_Joiner_len pass0) l_lenI (by rfl) T.z_len (by decide +kernel) (da_cons (de_var 6 (pv 6)) da_nil (by rfl)) (by decide) (by decide) (by rfl) (by rfl)) (de_callB call_lenA l_lenM (by rfl) T.z_len (by decide +kernel) (da_cons (de_ix (de_var 7 (pv 7)) de_int (fun _ _ => rfl)) da_nil (by rfl)) (by decide) (by decide) (by rfl) (by rfl)) (nomark _)) (dw_or1 (dt_cmp (op_neP (u100 hr)) l_neV (de_meth0 (de_var 6 (pv 6)) T.cl_Joiner T.me_d_Joiner_missing (ok_d_Joiner_missing T) (hr.mono (by first | decide | omega)) hgd T.b_d_Joiner_missing (by rfl)) (de_call (ok_d_law_missing T) (hr.mono (by first | decide | omega)) hgd (by rfl) T.m_d_law_missing T.F_d_law_missing.kp T.b_d_law_missing (da_cons (de_var 7 (pv 7)) da_nil (by rfl)) (by decide) (by rfl) (by rfl)) (nomark _))))) (dss_one (ds_ret de_bl)) dss_nil)
  (dss_one (ds_if (dt_cmp (op_neP (u100 hr)) l_neV (de_callB (call_reprZ (u100 hr) hgd) l_reprZ (by rfl) T.z_repr (by decide +kernel) (da_cons (de_meth0 (de_var 6 (pv 6)) T.cl_Joiner T.me_d_Joiner_whole (ok_d_Joiner_whole T) (hr.mono (by first | decide | omega)) hgd T.b_d_Joiner_whole (by rfl)) da_nil (by rfl)) (by decide) (by decide) (by rfl) (by rfl)) (de_callB (call_reprZ (u100 hr) hgd) l_reprZ (by rfl) T.z_repr (by decide +kernel) (da_cons (de_call (ok_d_law_whole T) (hr.mono (by first | decide | omega)) hgd (by rfl) T.m_d_law_whole T.F_d_law_whole.kp T.b_d_law_whole (da_cons (de_var 7 (pv 7)) (da_cons (de_var 3 (pv 3)) da_nil (by rfl)) (by rfl)) (by decide) (by rfl) (by rfl)) da_nil (by rfl)) (by decide) (by decide) (by rfl) (by rfl)) (nomark _)) (dss_one (ds_ret de_bl)) dss_nil)))))))) : DSs _ _ (lp1_d_law T.C_Joiner)).pss))))))))) : DSs _ _ (lp2_d_law T.C_Joiner)).pss))
  (dss_one (ds_ret de_bl)))
theorem all_mk {l : PySem.W.OpenLaw} {w : World} {K : PySem.W.Frag} {h : Heap} {mg : Str → Option Value} {fa : Addr} (X : K.In h) (G : h.Ns mainGlobals mg) (hfa : mg "law" = some (.ref fa))
    {C_Joiner : Addr} {f_d_is_whole : Addr} {oc_d_is_whole kV_d_is_whole dc_d_is_whole pm_d_is_whole cd_d_is_whole ct_d_is_whole : Value} {od_d_is_whole an_d_is_whole : Option Addr} {sl_d_is_whole : Array (Option Value)} {f_d_is_whole_within : Addr} {oc_d_is_whole_within kV_d_is_whole_within dc_d_is_whole_within pm_d_is_whole_within cd_d_is_whole_within ct_d_is_whole_within : Value} {od_d_is_whole_within an_d_is_whole_within : Option Addr} {sl_d_is_whole_within : Array (Option Value)} {f_d_is_whole_from : Addr} {oc_d_is_whole_from kV_d_is_whole_from dc_d_is_whole_from pm_d_is_whole_from cd_d_is_whole_from ct_d_is_whole_from : Value} {od_d_is_whole_from an_d_is_whole_from : Option Addr} {sl_d_is_whole_from : Array (Option Value)} {f_d_is_row_of_texts : Addr} {oc_d_is_row_of_texts kV_d_is_row_of_texts dc_d_is_row_of_texts pm_d_is_row_of_texts cd_d_is_row_of_texts ct_d_is_row_of_texts : Value} {od_d_is_row_of_texts an_d_is_row_of_texts : Option Addr} {sl_d_is_row_of_texts : Array (Option Value)} {f_d_is_note : Addr} {oc_d_is_note kV_d_is_note dc_d_is_note pm_d_is_note cd_d_is_note ct_d_is_note : Value} {od_d_is_note an_d_is_note : Option Addr} {sl_d_is_note : Array (Option Value)} {f_d_is_row_of_notes : Addr} {oc_d_is_row_of_notes kV_d_is_row_of_notes dc_d_is_row_of_notes pm_d_is_row_of_notes cd_d_is_row_of_notes ct_d_is_row_of_notes : Value} {od_d_is_row_of_notes an_d_is_row_of_notes : Option Addr} {sl_d_is_row_of_notes : Array (Option Value)} {f_d_number_of : Addr} {oc_d_number_of kV_d_number_of dc_d_number_of pm_d_number_of cd_d_number_of ct_d_number_of : Value} {od_d_number_of an_d_number_of : Option Addr} {sl_d_number_of : Array (Option Value)} {f_d_seal_of : Addr} {oc_d_seal_of kV_d_seal_of dc_d_seal_of pm_d_seal_of cd_d_seal_of ct_d_seal_of : Value} {od_d_seal_of an_d_seal_of : Option Addr} {sl_d_seal_of : Array (Option Value)} {f_d_are_signs : Addr} {oc_d_are_signs kV_d_are_signs dc_d_are_signs pm_d_are_signs cd_d_are_signs ct_d_are_signs : Value} {od_d_are_signs an_d_are_signs : Option Addr} {sl_d_are_signs : Array (Option Value)} {f_d_is_piece : Addr} {oc_d_is_piece kV_d_is_piece dc_d_is_piece pm_d_is_piece cd_d_is_piece ct_d_is_piece : Value} {od_d_is_piece an_d_is_piece : Option Addr} {sl_d_is_piece : Array (Option Value)} {f_d_law_urn : Addr} {oc_d_law_urn kV_d_law_urn dc_d_law_urn pm_d_law_urn cd_d_law_urn ct_d_law_urn : Value} {od_d_law_urn an_d_law_urn : Option Addr} {sl_d_law_urn : Array (Option Value)} {f_d_law_take : Addr} {oc_d_law_take kV_d_law_take dc_d_law_take pm_d_law_take cd_d_law_take ct_d_law_take : Value} {od_d_law_take an_d_law_take : Option Addr} {sl_d_law_take : Array (Option Value)} {f_d_law_signs : Addr} {oc_d_law_signs kV_d_law_signs dc_d_law_signs pm_d_law_signs cd_d_law_signs ct_d_law_signs : Value} {od_d_law_signs an_d_law_signs : Option Addr} {sl_d_law_signs : Array (Option Value)} {f_d_law_seal : Addr} {oc_d_law_seal kV_d_law_seal dc_d_law_seal pm_d_law_seal cd_d_law_seal ct_d_law_seal : Value} {od_d_law_seal an_d_law_seal : Option Addr} {sl_d_law_seal : Array (Option Value)} {f_d_law_cut : Addr} {oc_d_law_cut kV_d_law_cut dc_d_law_cut pm_d_law_cut cd_d_law_cut ct_d_law_cut : Value} {od_d_law_cut an_d_law_cut : Option Addr} {sl_d_law_cut : Array (Option Value)} {f_d_law_ticket : Addr} {oc_d_law_ticket kV_d_law_ticket dc_d_law_ticket pm_d_law_ticket cd_d_law_ticket ct_d_law_ticket : Value} {od_d_law_ticket an_d_law_ticket : Option Addr} {sl_d_law_ticket : Array (Option Value)} {f_d_law_is_piece : Addr} {oc_d_law_is_piece kV_d_law_is_piece dc_d_law_is_piece pm_d_law_is_piece cd_d_law_is_piece ct_d_law_is_piece : Value} {od_d_law_is_piece an_d_law_is_piece : Option Addr} {sl_d_law_is_piece : Array (Option Value)} {f_d_law_due : Addr} {oc_d_law_due kV_d_law_due dc_d_law_due pm_d_law_due cd_d_law_due ct_d_law_due : Value} {od_d_law_due an_d_law_due : Option Addr} {sl_d_law_due : Array (Option Value)} {f_d_law_missing : Addr} {oc_d_law_missing kV_d_law_missing dc_d_law_missing pm_d_law_missing cd_d_law_missing ct_d_law_missing : Value} {od_d_law_missing an_d_law_missing : Option Addr} {sl_d_law_missing : Array (Option Value)} {f_d_law_whole : Addr} {oc_d_law_whole kV_d_law_whole dc_d_law_whole pm_d_law_whole cd_d_law_whole ct_d_law_whole : Value} {od_d_law_whole an_d_law_whole : Option Addr} {sl_d_law_whole : Array (Option Value)} {f_d_law_sealed : Addr} {oc_d_law_sealed kV_d_law_sealed dc_d_law_sealed pm_d_law_sealed cd_d_law_sealed ct_d_law_sealed : Value} {od_d_law_sealed an_d_law_sealed : Option Addr} {sl_d_law_sealed : Array (Option Value)} {f_d_law_odd_signs : Addr} {oc_d_law_odd_signs kV_d_law_odd_signs dc_d_law_odd_signs pm_d_law_odd_signs cd_d_law_odd_signs ct_d_law_odd_signs : Value} {od_d_law_odd_signs an_d_law_odd_signs : Option Addr} {sl_d_law_odd_signs : Array (Option Value)} {f_d_law_odd : Addr} {oc_d_law_odd kV_d_law_odd dc_d_law_odd pm_d_law_odd cd_d_law_odd ct_d_law_odd : Value} {od_d_law_odd an_d_law_odd : Option Addr} {sl_d_law_odd : Array (Option Value)} {f_d_Joiner_init : Addr} {oc_d_Joiner_init kV_d_Joiner_init dc_d_Joiner_init pm_d_Joiner_init cd_d_Joiner_init ct_d_Joiner_init : Value} {od_d_Joiner_init an_d_Joiner_init : Option Addr} {sl_d_Joiner_init : Array (Option Value)} {f_d_Joiner_fits : Addr} {oc_d_Joiner_fits kV_d_Joiner_fits dc_d_Joiner_fits pm_d_Joiner_fits cd_d_Joiner_fits ct_d_Joiner_fits : Value} {od_d_Joiner_fits an_d_Joiner_fits : Option Addr} {sl_d_Joiner_fits : Array (Option Value)} {f_d_Joiner_take : Addr} {oc_d_Joiner_take kV_d_Joiner_take dc_d_Joiner_take pm_d_Joiner_take cd_d_Joiner_take ct_d_Joiner_take : Value} {od_d_Joiner_take an_d_Joiner_take : Option Addr} {sl_d_Joiner_take : Array (Option Value)} {f_d_Joiner_len : Addr} {oc_d_Joiner_len kV_d_Joiner_len dc_d_Joiner_len pm_d_Joiner_len cd_d_Joiner_len ct_d_Joiner_len : Value} {od_d_Joiner_len an_d_Joiner_len : Option Addr} {sl_d_Joiner_len : Array (Option Value)} {f_d_Joiner_missing : Addr} {oc_d_Joiner_missing kV_d_Joiner_missing dc_d_Joiner_missing pm_d_Joiner_missing cd_d_Joiner_missing ct_d_Joiner_missing : Value} {od_d_Joiner_missing an_d_Joiner_missing : Option Addr} {sl_d_Joiner_missing : Array (Option Value)} {f_d_Joiner_whole : Addr} {oc_d_Joiner_whole kV_d_Joiner_whole dc_d_Joiner_whole pm_d_Joiner_whole cd_d_Joiner_whole ct_d_Joiner_whole : Value} {od_d_Joiner_whole an_d_Joiner_whole : Option Addr} {sl_d_Joiner_whole : Array (Option Value)} {f_d_law : Addr} {oc_d_law kV_d_law dc_d_law pm_d_law cd_d_law ct_d_law : Value} {od_d_law an_d_law : Option Addr} {sl_d_law : Array (Option Value)} {t_MOST_PIECES : Tok}
    (ca_Joiner : PySem.W.nsIn K mainGlobals "Joiner" = some (some (.ref C_Joiner)))
    (cpg_Joiner : PySem.W.plainGet K C_Joiner Str.empty = true)
    (chd_Joiner : PySem.W.hasDictIn K C_Joiner = true)
    (cpo_Joiner : PySem.W.plainOver K C_Joiner = true)
    (csa_Joiner : PySem.W.findIn K (.ref C_Joiner) "__setattr__" = some (some (.builtin "object.__setattr__")))
    (cf_d_Joiner_init : PySem.W.findIn K (.ref C_Joiner) "__init__" = some (some (.ref f_d_Joiner_init)))
    (cn_d_Joiner_init : PySem.W.isFn K (.ref f_d_Joiner_init) = true)
    (cmk_Joiner : PySem.W.makesIn K C_Joiner = true)
    (ckp_Joiner : PySem.W.keepIn K (.ref C_Joiner) = true)
    (cf_d_Joiner_take : PySem.W.findIn K (.ref C_Joiner) "take" = some (some (.ref f_d_Joiner_take)))
    (cn_d_Joiner_take : PySem.W.isFn K (.ref f_d_Joiner_take) = true)
    (cf_d_Joiner_fits : PySem.W.findIn K (.ref C_Joiner) "_fits" = some (some (.ref f_d_Joiner_fits)))
    (cn_d_Joiner_fits : PySem.W.isFn K (.ref f_d_Joiner_fits) = true)
    (cf_d_Joiner_missing : PySem.W.findIn K (.ref C_Joiner) "missing" = some (some (.ref f_d_Joiner_missing)))
    (cn_d_Joiner_missing : PySem.W.isFn K (.ref f_d_Joiner_missing) = true)
    (cf_d_Joiner_whole : PySem.W.findIn K (.ref C_Joiner) "whole" = some (some (.ref f_d_Joiner_whole)))
    (cn_d_Joiner_whole : PySem.W.isFn K (.ref f_d_Joiner_whole) = true)
    (cf_d_Joiner_len : PySem.W.findIn K (.ref C_Joiner) "__len__" = some (some (.ref f_d_Joiner_len)))
    (cn_d_Joiner_len : PySem.W.isFn K (.ref f_d_Joiner_len) = true)
    (cno__kind : PySem.W.findIn K (.ref C_Joiner) "_kind" = some none)
    (cno__ticket : PySem.W.findIn K (.ref C_Joiner) "_ticket" = some none)
    (cno__of : PySem.W.findIn K (.ref C_Joiner) "_of" = some none)
    (cno__kept : PySem.W.findIn K (.ref C_Joiner) "_kept" = some none)
    (a_d_is_whole : PySem.W.nsIn K mainGlobals "is_whole" = some (some (.ref f_d_is_whole)))
    (l_d_is_whole : K.lookup f_d_is_whole = some ⟨oc_d_is_whole, od_d_is_whole, .func (PySem.W.fnOf "is_whole" "is_whole" (defArgs s_d_is_whole) (defBody s_d_is_whole) (defScope s_d_is_whole) .none kV_d_is_whole dc_d_is_whole pm_d_is_whole an_d_is_whole cd_d_is_whole ct_d_is_whole), sl_d_is_whole⟩)
    (c_d_is_whole : PySem.W.codeIn K cd_d_is_whole "is_whole" = true)
    (k_d_is_whole : PySem.W.keepIn K (.ref f_d_is_whole) = true)
    (a_d_is_whole_within : PySem.W.nsIn K mainGlobals "is_whole_within" = some (some (.ref f_d_is_whole_within)))
    (l_d_is_whole_within : K.lookup f_d_is_whole_within = some ⟨oc_d_is_whole_within, od_d_is_whole_within, .func (PySem.W.fnOf "is_whole_within" "is_whole_within" (defArgs s_d_is_whole_within) (defBody s_d_is_whole_within) (defScope s_d_is_whole_within) .none kV_d_is_whole_within dc_d_is_whole_within pm_d_is_whole_within an_d_is_whole_within cd_d_is_whole_within ct_d_is_whole_within), sl_d_is_whole_within⟩)
    (c_d_is_whole_within : PySem.W.codeIn K cd_d_is_whole_within "is_whole_within" = true)
    (k_d_is_whole_within : PySem.W.keepIn K (.ref f_d_is_whole_within) = true)
    (a_d_is_whole_from : PySem.W.nsIn K mainGlobals "is_whole_from" = some (some (.ref f_d_is_whole_from)))
    (l_d_is_whole_from : K.lookup f_d_is_whole_from = some ⟨oc_d_is_whole_from, od_d_is_whole_from, .func (PySem.W.fnOf "is_whole_from" "is_whole_from" (defArgs s_d_is_whole_from) (defBody s_d_is_whole_from) (defScope s_d_is_whole_from) .none kV_d_is_whole_from dc_d_is_whole_from pm_d_is_whole_from an_d_is_whole_from cd_d_is_whole_from ct_d_is_whole_from), sl_d_is_whole_from⟩)
    (c_d_is_whole_from : PySem.W.codeIn K cd_d_is_whole_from "is_whole_from" = true)
    (k_d_is_whole_from : PySem.W.keepIn K (.ref f_d_is_whole_from) = true)
    (a_d_is_row_of_texts : PySem.W.nsIn K mainGlobals "is_row_of_texts" = some (some (.ref f_d_is_row_of_texts)))
    (l_d_is_row_of_texts : K.lookup f_d_is_row_of_texts = some ⟨oc_d_is_row_of_texts, od_d_is_row_of_texts, .func (PySem.W.fnOf "is_row_of_texts" "is_row_of_texts" (defArgs s_d_is_row_of_texts) (defBody s_d_is_row_of_texts) (defScope s_d_is_row_of_texts) .none kV_d_is_row_of_texts dc_d_is_row_of_texts pm_d_is_row_of_texts an_d_is_row_of_texts cd_d_is_row_of_texts ct_d_is_row_of_texts), sl_d_is_row_of_texts⟩)
    (c_d_is_row_of_texts : PySem.W.codeIn K cd_d_is_row_of_texts "is_row_of_texts" = true)
    (k_d_is_row_of_texts : PySem.W.keepIn K (.ref f_d_is_row_of_texts) = true)
    (a_d_is_note : PySem.W.nsIn K mainGlobals "_is_note" = some (some (.ref f_d_is_note)))
    (l_d_is_note : K.lookup f_d_is_note = some ⟨oc_d_is_note, od_d_is_note, .func (PySem.W.fnOf "_is_note" "_is_note" (defArgs s_d_is_note) (defBody s_d_is_note) (defScope s_d_is_note) .none kV_d_is_note dc_d_is_note pm_d_is_note an_d_is_note cd_d_is_note ct_d_is_note), sl_d_is_note⟩)
    (c_d_is_note : PySem.W.codeIn K cd_d_is_note "_is_note" = true)
    (k_d_is_note : PySem.W.keepIn K (.ref f_d_is_note) = true)
    (a_d_is_row_of_notes : PySem.W.nsIn K mainGlobals "is_row_of_notes" = some (some (.ref f_d_is_row_of_notes)))
    (l_d_is_row_of_notes : K.lookup f_d_is_row_of_notes = some ⟨oc_d_is_row_of_notes, od_d_is_row_of_notes, .func (PySem.W.fnOf "is_row_of_notes" "is_row_of_notes" (defArgs s_d_is_row_of_notes) (defBody s_d_is_row_of_notes) (defScope s_d_is_row_of_notes) .none kV_d_is_row_of_notes dc_d_is_row_of_notes pm_d_is_row_of_notes an_d_is_row_of_notes cd_d_is_row_of_notes ct_d_is_row_of_notes), sl_d_is_row_of_notes⟩)
    (c_d_is_row_of_notes : PySem.W.codeIn K cd_d_is_row_of_notes "is_row_of_notes" = true)
    (k_d_is_row_of_notes : PySem.W.keepIn K (.ref f_d_is_row_of_notes) = true)
    (a_d_number_of : PySem.W.nsIn K mainGlobals "_number_of" = some (some (.ref f_d_number_of)))
    (l_d_number_of : K.lookup f_d_number_of = some ⟨oc_d_number_of, od_d_number_of, .func (PySem.W.fnOf "_number_of" "_number_of" (defArgs s_d_number_of) (defBody s_d_number_of) (defScope s_d_number_of) .none kV_d_number_of dc_d_number_of pm_d_number_of an_d_number_of cd_d_number_of ct_d_number_of), sl_d_number_of⟩)
    (c_d_number_of : PySem.W.codeIn K cd_d_number_of "_number_of" = true)
    (k_d_number_of : PySem.W.keepIn K (.ref f_d_number_of) = true)
    (a_d_seal_of : PySem.W.nsIn K mainGlobals "seal_of" = some (some (.ref f_d_seal_of)))
    (l_d_seal_of : K.lookup f_d_seal_of = some ⟨oc_d_seal_of, od_d_seal_of, .func (PySem.W.fnOf "seal_of" "seal_of" (defArgs s_d_seal_of) (defBody s_d_seal_of) (defScope s_d_seal_of) .none kV_d_seal_of dc_d_seal_of pm_d_seal_of an_d_seal_of cd_d_seal_of ct_d_seal_of), sl_d_seal_of⟩)
    (c_d_seal_of : PySem.W.codeIn K cd_d_seal_of "seal_of" = true)
    (k_d_seal_of : PySem.W.keepIn K (.ref f_d_seal_of) = true)
    (a_d_are_signs : PySem.W.nsIn K mainGlobals "_are_signs" = some (some (.ref f_d_are_signs)))
    (l_d_are_signs : K.lookup f_d_are_signs = some ⟨oc_d_are_signs, od_d_are_signs, .func (PySem.W.fnOf "_are_signs" "_are_signs" (defArgs s_d_are_signs) (defBody s_d_are_signs) (defScope s_d_are_signs) .none kV_d_are_signs dc_d_are_signs pm_d_are_signs an_d_are_signs cd_d_are_signs ct_d_are_signs), sl_d_are_signs⟩)
    (c_d_are_signs : PySem.W.codeIn K cd_d_are_signs "_are_signs" = true)
    (k_d_are_signs : PySem.W.keepIn K (.ref f_d_are_signs) = true)
    (a_d_is_piece : PySem.W.nsIn K mainGlobals "_is_piece" = some (some (.ref f_d_is_piece)))
    (l_d_is_piece : K.lookup f_d_is_piece = some ⟨oc_d_is_piece, od_d_is_piece, .func (PySem.W.fnOf "_is_piece" "_is_piece" (defArgs s_d_is_piece) (defBody s_d_is_piece) (defScope s_d_is_piece) .none kV_d_is_piece dc_d_is_piece pm_d_is_piece an_d_is_piece cd_d_is_piece ct_d_is_piece), sl_d_is_piece⟩)
    (c_d_is_piece : PySem.W.codeIn K cd_d_is_piece "_is_piece" = true)
    (k_d_is_piece : PySem.W.keepIn K (.ref f_d_is_piece) = true)
    (a_d_law_urn : PySem.W.nsIn K mainGlobals "_law_urn" = some (some (.ref f_d_law_urn)))
    (l_d_law_urn : K.lookup f_d_law_urn = some ⟨oc_d_law_urn, od_d_law_urn, .func (PySem.W.fnOf "_law_urn" "_law_urn" (defArgs s_d_law_urn) (defBody s_d_law_urn) (defScope s_d_law_urn) .none kV_d_law_urn dc_d_law_urn pm_d_law_urn an_d_law_urn cd_d_law_urn ct_d_law_urn), sl_d_law_urn⟩)
    (c_d_law_urn : PySem.W.codeIn K cd_d_law_urn "_law_urn" = true)
    (k_d_law_urn : PySem.W.keepIn K (.ref f_d_law_urn) = true)
    (a_d_law_take : PySem.W.nsIn K mainGlobals "_law_take" = some (some (.ref f_d_law_take)))
    (l_d_law_take : K.lookup f_d_law_take = some ⟨oc_d_law_take, od_d_law_take, .func (PySem.W.fnOf "_law_take" "_law_take" (defArgs s_d_law_take) (defBody s_d_law_take) (defScope s_d_law_take) .none kV_d_law_take dc_d_law_take pm_d_law_take an_d_law_take cd_d_law_take ct_d_law_take), sl_d_law_take⟩)
    (c_d_law_take : PySem.W.codeIn K cd_d_law_take "_law_take" = true)
    (k_d_law_take : PySem.W.keepIn K (.ref f_d_law_take) = true)
    (a_d_law_signs : PySem.W.nsIn K mainGlobals "_law_signs" = some (some (.ref f_d_law_signs)))
    (l_d_law_signs : K.lookup f_d_law_signs = some ⟨oc_d_law_signs, od_d_law_signs, .func (PySem.W.fnOf "_law_signs" "_law_signs" (defArgs s_d_law_signs) (defBody s_d_law_signs) (defScope s_d_law_signs) .none kV_d_law_signs dc_d_law_signs pm_d_law_signs an_d_law_signs cd_d_law_signs ct_d_law_signs), sl_d_law_signs⟩)
    (c_d_law_signs : PySem.W.codeIn K cd_d_law_signs "_law_signs" = true)
    (k_d_law_signs : PySem.W.keepIn K (.ref f_d_law_signs) = true)
    (a_d_law_seal : PySem.W.nsIn K mainGlobals "_law_seal" = some (some (.ref f_d_law_seal)))
    (l_d_law_seal : K.lookup f_d_law_seal = some ⟨oc_d_law_seal, od_d_law_seal, .func (PySem.W.fnOf "_law_seal" "_law_seal" (defArgs s_d_law_seal) (defBody s_d_law_seal) (defScope s_d_law_seal) .none kV_d_law_seal dc_d_law_seal pm_d_law_seal an_d_law_seal cd_d_law_seal ct_d_law_seal), sl_d_law_seal⟩)
    (c_d_law_seal : PySem.W.codeIn K cd_d_law_seal "_law_seal" = true)
    (k_d_law_seal : PySem.W.keepIn K (.ref f_d_law_seal) = true)
    (a_d_law_cut : PySem.W.nsIn K mainGlobals "_law_cut" = some (some (.ref f_d_law_cut)))
    (l_d_law_cut : K.lookup f_d_law_cut = some ⟨oc_d_law_cut, od_d_law_cut, .func (PySem.W.fnOf "_law_cut" "_law_cut" (defArgs s_d_law_cut) (defBody s_d_law_cut) (defScope s_d_law_cut) .none kV_d_law_cut dc_d_law_cut pm_d_law_cut an_d_law_cut cd_d_law_cut ct_d_law_cut), sl_d_law_cut⟩)
    (c_d_law_cut : PySem.W.codeIn K cd_d_law_cut "_law_cut" = true)
    (k_d_law_cut : PySem.W.keepIn K (.ref f_d_law_cut) = true)
    (a_d_law_ticket : PySem.W.nsIn K mainGlobals "_law_ticket" = some (some (.ref f_d_law_ticket)))
    (l_d_law_ticket : K.lookup f_d_law_ticket = some ⟨oc_d_law_ticket, od_d_law_ticket, .func (PySem.W.fnOf "_law_ticket" "_law_ticket" (defArgs s_d_law_ticket) (defBody s_d_law_ticket) (defScope s_d_law_ticket) .none kV_d_law_ticket dc_d_law_ticket pm_d_law_ticket an_d_law_ticket cd_d_law_ticket ct_d_law_ticket), sl_d_law_ticket⟩)
    (c_d_law_ticket : PySem.W.codeIn K cd_d_law_ticket "_law_ticket" = true)
    (k_d_law_ticket : PySem.W.keepIn K (.ref f_d_law_ticket) = true)
    (a_d_law_is_piece : PySem.W.nsIn K mainGlobals "_law_is_piece" = some (some (.ref f_d_law_is_piece)))
    (l_d_law_is_piece : K.lookup f_d_law_is_piece = some ⟨oc_d_law_is_piece, od_d_law_is_piece, .func (PySem.W.fnOf "_law_is_piece" "_law_is_piece" (defArgs s_d_law_is_piece) (defBody s_d_law_is_piece) (defScope s_d_law_is_piece) .none kV_d_law_is_piece dc_d_law_is_piece pm_d_law_is_piece an_d_law_is_piece cd_d_law_is_piece ct_d_law_is_piece), sl_d_law_is_piece⟩)
    (c_d_law_is_piece : PySem.W.codeIn K cd_d_law_is_piece "_law_is_piece" = true)
    (k_d_law_is_piece : PySem.W.keepIn K (.ref f_d_law_is_piece) = true)
    (a_d_law_due : PySem.W.nsIn K mainGlobals "_law_due" = some (some (.ref f_d_law_due)))
    (l_d_law_due : K.lookup f_d_law_due = some ⟨oc_d_law_due, od_d_law_due, .func (PySem.W.fnOf "_law_due" "_law_due" (defArgs s_d_law_due) (defBody s_d_law_due) (defScope s_d_law_due) .none kV_d_law_due dc_d_law_due pm_d_law_due an_d_law_due cd_d_law_due ct_d_law_due), sl_d_law_due⟩)
    (c_d_law_due : PySem.W.codeIn K cd_d_law_due "_law_due" = true)
    (k_d_law_due : PySem.W.keepIn K (.ref f_d_law_due) = true)
    (a_d_law_missing : PySem.W.nsIn K mainGlobals "_law_missing" = some (some (.ref f_d_law_missing)))
    (l_d_law_missing : K.lookup f_d_law_missing = some ⟨oc_d_law_missing, od_d_law_missing, .func (PySem.W.fnOf "_law_missing" "_law_missing" (defArgs s_d_law_missing) (defBody s_d_law_missing) (defScope s_d_law_missing) .none kV_d_law_missing dc_d_law_missing pm_d_law_missing an_d_law_missing cd_d_law_missing ct_d_law_missing), sl_d_law_missing⟩)
    (c_d_law_missing : PySem.W.codeIn K cd_d_law_missing "_law_missing" = true)
    (k_d_law_missing : PySem.W.keepIn K (.ref f_d_law_missing) = true)
    (a_d_law_whole : PySem.W.nsIn K mainGlobals "_law_whole" = some (some (.ref f_d_law_whole)))
    (l_d_law_whole : K.lookup f_d_law_whole = some ⟨oc_d_law_whole, od_d_law_whole, .func (PySem.W.fnOf "_law_whole" "_law_whole" (defArgs s_d_law_whole) (defBody s_d_law_whole) (defScope s_d_law_whole) .none kV_d_law_whole dc_d_law_whole pm_d_law_whole an_d_law_whole cd_d_law_whole ct_d_law_whole), sl_d_law_whole⟩)
    (c_d_law_whole : PySem.W.codeIn K cd_d_law_whole "_law_whole" = true)
    (k_d_law_whole : PySem.W.keepIn K (.ref f_d_law_whole) = true)
    (a_d_law_sealed : PySem.W.nsIn K mainGlobals "_law_sealed" = some (some (.ref f_d_law_sealed)))
    (l_d_law_sealed : K.lookup f_d_law_sealed = some ⟨oc_d_law_sealed, od_d_law_sealed, .func (PySem.W.fnOf "_law_sealed" "_law_sealed" (defArgs s_d_law_sealed) (defBody s_d_law_sealed) (defScope s_d_law_sealed) .none kV_d_law_sealed dc_d_law_sealed pm_d_law_sealed an_d_law_sealed cd_d_law_sealed ct_d_law_sealed), sl_d_law_sealed⟩)
    (c_d_law_sealed : PySem.W.codeIn K cd_d_law_sealed "_law_sealed" = true)
    (k_d_law_sealed : PySem.W.keepIn K (.ref f_d_law_sealed) = true)
    (a_d_law_odd_signs : PySem.W.nsIn K mainGlobals "_law_odd_signs" = some (some (.ref f_d_law_odd_signs)))
    (l_d_law_odd_signs : K.lookup f_d_law_odd_signs = some ⟨oc_d_law_odd_signs, od_d_law_odd_signs, .func (PySem.W.fnOf "_law_odd_signs" "_law_odd_signs" (defArgs s_d_law_odd_signs) (defBody s_d_law_odd_signs) (defScope s_d_law_odd_signs) .none kV_d_law_odd_signs dc_d_law_odd_signs pm_d_law_odd_signs an_d_law_odd_signs cd_d_law_odd_signs ct_d_law_odd_signs), sl_d_law_odd_signs⟩)
    (c_d_law_odd_signs : PySem.W.codeIn K cd_d_law_odd_signs "_law_odd_signs" = true)
    (k_d_law_odd_signs : PySem.W.keepIn K (.ref f_d_law_odd_signs) = true)
    (a_d_law_odd : PySem.W.nsIn K mainGlobals "_law_odd" = some (some (.ref f_d_law_odd)))
    (l_d_law_odd : K.lookup f_d_law_odd = some ⟨oc_d_law_odd, od_d_law_odd, .func (PySem.W.fnOf "_law_odd" "_law_odd" (defArgs s_d_law_odd) (defBody s_d_law_odd) (defScope s_d_law_odd) .none kV_d_law_odd dc_d_law_odd pm_d_law_odd an_d_law_odd cd_d_law_odd ct_d_law_odd), sl_d_law_odd⟩)
    (c_d_law_odd : PySem.W.codeIn K cd_d_law_odd "_law_odd" = true)
    (k_d_law_odd : PySem.W.keepIn K (.ref f_d_law_odd) = true)
    (l_d_Joiner_init : K.lookup f_d_Joiner_init = some ⟨oc_d_Joiner_init, od_d_Joiner_init, .func (PySem.W.fnOf "__init__" "Joiner.__init__" (defArgs s_d_Joiner_init) (defBody s_d_Joiner_init) (defScope s_d_Joiner_init) .none kV_d_Joiner_init dc_d_Joiner_init pm_d_Joiner_init an_d_Joiner_init cd_d_Joiner_init ct_d_Joiner_init), sl_d_Joiner_init⟩)
    (c_d_Joiner_init : PySem.W.codeIn K cd_d_Joiner_init "Joiner.__init__" = true)
    (k_d_Joiner_init : PySem.W.keepIn K (.ref f_d_Joiner_init) = true)
    (l_d_Joiner_fits : K.lookup f_d_Joiner_fits = some ⟨oc_d_Joiner_fits, od_d_Joiner_fits, .func (PySem.W.fnOf "_fits" "Joiner._fits" (defArgs s_d_Joiner_fits) (defBody s_d_Joiner_fits) (defScope s_d_Joiner_fits) .none kV_d_Joiner_fits dc_d_Joiner_fits pm_d_Joiner_fits an_d_Joiner_fits cd_d_Joiner_fits ct_d_Joiner_fits), sl_d_Joiner_fits⟩)
    (c_d_Joiner_fits : PySem.W.codeIn K cd_d_Joiner_fits "Joiner._fits" = true)
    (k_d_Joiner_fits : PySem.W.keepIn K (.ref f_d_Joiner_fits) = true)
    (l_d_Joiner_take : K.lookup f_d_Joiner_take = some ⟨oc_d_Joiner_take, od_d_Joiner_take, .func (PySem.W.fnOf "take" "Joiner.take" (defArgs s_d_Joiner_take) (defBody s_d_Joiner_take) (defScope s_d_Joiner_take) .none kV_d_Joiner_take dc_d_Joiner_take pm_d_Joiner_take an_d_Joiner_take cd_d_Joiner_take ct_d_Joiner_take), sl_d_Joiner_take⟩)
    (c_d_Joiner_take : PySem.W.codeIn K cd_d_Joiner_take "Joiner.take" = true)
    (k_d_Joiner_take : PySem.W.keepIn K (.ref f_d_Joiner_take) = true)
    (l_d_Joiner_len : K.lookup f_d_Joiner_len = some ⟨oc_d_Joiner_len, od_d_Joiner_len, .func (PySem.W.fnOf "__len__" "Joiner.__len__" (defArgs s_d_Joiner_len) (defBody s_d_Joiner_len) (defScope s_d_Joiner_len) .none kV_d_Joiner_len dc_d_Joiner_len pm_d_Joiner_len an_d_Joiner_len cd_d_Joiner_len ct_d_Joiner_len), sl_d_Joiner_len⟩)
    (c_d_Joiner_len : PySem.W.codeIn K cd_d_Joiner_len "Joiner.__len__" = true)
    (k_d_Joiner_len : PySem.W.keepIn K (.ref f_d_Joiner_len) = true)
    (l_d_Joiner_missing : K.lookup f_d_Joiner_missing = some ⟨oc_d_Joiner_missing, od_d_Joiner_missing, .func (PySem.W.fnOf "missing" "Joiner.missing" (defArgs s_d_Joiner_missing) (defBody s_d_Joiner_missing) (defScope s_d_Joiner_missing) .none kV_d_Joiner_missing dc_d_Joiner_missing pm_d_Joiner_missing an_d_Joiner_missing cd_d_Joiner_missing ct_d_Joiner_missing), sl_d_Joiner_missing⟩)
    (c_d_Joiner_missing : PySem.W.codeIn K cd_d_Joiner_missing "Joiner.missing" = true)
    (k_d_Joiner_missing : PySem.W.keepIn K (.ref f_d_Joiner_missing) = true)
    (l_d_Joiner_whole : K.lookup f_d_Joiner_whole = some ⟨oc_d_Joiner_whole, od_d_Joiner_whole, .func (PySem.W.fnOf "whole" "Joiner.whole" (defArgs s_d_Joiner_whole) (defBody s_d_Joiner_whole) (defScope s_d_Joiner_whole) .none kV_d_Joiner_whole dc_d_Joiner_whole pm_d_Joiner_whole an_d_Joiner_whole cd_d_Joiner_whole ct_d_Joiner_whole), sl_d_Joiner_whole⟩)
    (c_d_Joiner_whole : PySem.W.codeIn K cd_d_Joiner_whole "Joiner.whole" = true)
    (k_d_Joiner_whole : PySem.W.keepIn K (.ref f_d_Joiner_whole) = true)
    (a_d_law : PySem.W.nsIn K mainGlobals "law" = some (some (.ref f_d_law)))
    (l_d_law : K.lookup f_d_law = some ⟨oc_d_law, od_d_law, .func (PySem.W.fnOf "law" "law" (defArgs s_d_law) (defBody s_d_law) (defScope s_d_law) .none kV_d_law dc_d_law pm_d_law an_d_law cd_d_law ct_d_law), sl_d_law⟩)
    (c_d_law : PySem.W.codeIn K cd_d_law "law" = true)
    (k_d_law : PySem.W.keepIn K (.ref f_d_law) = true)
    (z_all : PySem.W.nsIn K mainGlobals "all" = some none)
    (z_bool : PySem.W.nsIn K mainGlobals "bool" = some none)
    (z_int : PySem.W.nsIn K mainGlobals "int" = some none)
    (z_isinstance : PySem.W.nsIn K mainGlobals "isinstance" = some none)
    (z_len : PySem.W.nsIn K mainGlobals "len" = some none)
    (z_list : PySem.W.nsIn K mainGlobals "list" = some none)
    (z_max : PySem.W.nsIn K mainGlobals "max" = some none)
    (z_min : PySem.W.nsIn K mainGlobals "min" = some none)
    (z_ord : PySem.W.nsIn K mainGlobals "ord" = some none)
    (z_range : PySem.W.nsIn K mainGlobals "range" = some none)
    (z_repr : PySem.W.nsIn K mainGlobals "repr" = some none)
    (z_str : PySem.W.nsIn K mainGlobals "str" = some none)
    (z_tuple : PySem.W.nsIn K mainGlobals "tuple" = some none)
    (v_MOST_PIECES : PySem.W.nsIn K mainGlobals "MOST_PIECES" = some (some (.int 20000 t_MOST_PIECES))) :
    ∃ fd : FuncData, (∀ (s : Shared) (v : Value), BindsTo s fd ⟨[v], []⟩ [("script", v)]) ∧ ∀ base : Heap, K.In base → base.Ns mainGlobals mg → FG l.prog w K mg base CX0 8 fa fd ["script"] (lSp K spLaw) := by
  have e := hfa.symm.trans (PySem.W.mg_of X G a_d_law)
  cases e
  have F_d_is_whole := fun_mk (st := s_d_is_whole) l_d_is_whole c_d_is_whole k_d_is_whole
  have F_d_is_whole_within := fun_mk (st := s_d_is_whole_within) l_d_is_whole_within c_d_is_whole_within k_d_is_whole_within
  have F_d_is_whole_from := fun_mk (st := s_d_is_whole_from) l_d_is_whole_from c_d_is_whole_from k_d_is_whole_from
  have F_d_is_row_of_texts := fun_mk (st := s_d_is_row_of_texts) l_d_is_row_of_texts c_d_is_row_of_texts k_d_is_row_of_texts
  have F_d_is_note := fun_mk (st := s_d_is_note) l_d_is_note c_d_is_note k_d_is_note
  have F_d_is_row_of_notes := fun_mk (st := s_d_is_row_of_notes) l_d_is_row_of_notes c_d_is_row_of_notes k_d_is_row_of_notes
  have F_d_number_of := fun_mk (st := s_d_number_of) l_d_number_of c_d_number_of k_d_number_of
  have F_d_seal_of := fun_mk (st := s_d_seal_of) l_d_seal_of c_d_seal_of k_d_seal_of
  have F_d_are_signs := fun_mk (st := s_d_are_signs) l_d_are_signs c_d_are_signs k_d_are_signs
  have F_d_is_piece := fun_mk (st := s_d_is_piece) l_d_is_piece c_d_is_piece k_d_is_piece
  have F_d_law_urn := fun_mk (st := s_d_law_urn) l_d_law_urn c_d_law_urn k_d_law_urn
  have F_d_law_take := fun_mk (st := s_d_law_take) l_d_law_take c_d_law_take k_d_law_take
  have F_d_law_signs := fun_mk (st := s_d_law_signs) l_d_law_signs c_d_law_signs k_d_law_signs
  have F_d_law_seal := fun_mk (st := s_d_law_seal) l_d_law_seal c_d_law_seal k_d_law_seal
  have F_d_law_cut := fun_mk (st := s_d_law_cut) l_d_law_cut c_d_law_cut k_d_law_cut
  have F_d_law_ticket := fun_mk (st := s_d_law_ticket) l_d_law_ticket c_d_law_ticket k_d_law_ticket
  have F_d_law_is_piece := fun_mk (st := s_d_law_is_piece) l_d_law_is_piece c_d_law_is_piece k_d_law_is_piece
  have F_d_law_due := fun_mk (st := s_d_law_due) l_d_law_due c_d_law_due k_d_law_due
  have F_d_law_missing := fun_mk (st := s_d_law_missing) l_d_law_missing c_d_law_missing k_d_law_missing
  have F_d_law_whole := fun_mk (st := s_d_law_whole) l_d_law_whole c_d_law_whole k_d_law_whole
  have F_d_law_sealed := fun_mk (st := s_d_law_sealed) l_d_law_sealed c_d_law_sealed k_d_law_sealed
  have F_d_law_odd_signs := fun_mk (st := s_d_law_odd_signs) l_d_law_odd_signs c_d_law_odd_signs k_d_law_odd_signs
  have F_d_law_odd := fun_mk (st := s_d_law_odd) l_d_law_odd c_d_law_odd k_d_law_odd
  have F_d_Joiner_init := fun_mk (st := s_d_Joiner_init) l_d_Joiner_init c_d_Joiner_init k_d_Joiner_init
  have F_d_Joiner_fits := fun_mk (st := s_d_Joiner_fits) l_d_Joiner_fits c_d_Joiner_fits k_d_Joiner_fits
  have F_d_Joiner_take := fun_mk (st := s_d_Joiner_take) l_d_Joiner_take c_d_Joiner_take k_d_Joiner_take
  have F_d_Joiner_len := fun_mk (st := s_d_Joiner_len) l_d_Joiner_len c_d_Joiner_len k_d_Joiner_len
  have F_d_Joiner_missing := fun_mk (st := s_d_Joiner_missing) l_d_Joiner_missing c_d_Joiner_missing k_d_Joiner_missing
  have F_d_Joiner_whole := fun_mk (st := s_d_Joiner_whole) l_d_Joiner_whole c_d_Joiner_whole k_d_Joiner_whole
  have F_d_law := fun_mk (st := s_d_law) l_d_law c_d_law k_d_law
  let T : Tx w K mg := {
    f_d_is_whole := f_d_is_whole, fd_d_is_whole := _, F_d_is_whole := F_d_is_whole, m_d_is_whole := PySem.W.mg_of X G a_d_is_whole, b_d_is_whole := F_d_is_whole.binds fun _ _ _ _ _ _ us hl => match us, hl with | [_], _ => rfl,
    f_d_is_whole_within := f_d_is_whole_within, fd_d_is_whole_within := _, F_d_is_whole_within := F_d_is_whole_within, m_d_is_whole_within := PySem.W.mg_of X G a_d_is_whole_within, b_d_is_whole_within := F_d_is_whole_within.binds fun _ _ _ _ _ _ us hl => match us, hl with | [_, _, _], _ => rfl,
    f_d_is_whole_from := f_d_is_whole_from, fd_d_is_whole_from := _, F_d_is_whole_from := F_d_is_whole_from, m_d_is_whole_from := PySem.W.mg_of X G a_d_is_whole_from, b_d_is_whole_from := F_d_is_whole_from.binds fun _ _ _ _ _ _ us hl => match us, hl with | [_, _], _ => rfl,
    f_d_is_row_of_texts := f_d_is_row_of_texts, fd_d_is_row_of_texts := _, F_d_is_row_of_texts := F_d_is_row_of_texts, m_d_is_row_of_texts := PySem.W.mg_of X G a_d_is_row_of_texts, b_d_is_row_of_texts := F_d_is_row_of_texts.binds fun _ _ _ _ _ _ us hl => match us, hl with | [_], _ => rfl,
    f_d_is_note := f_d_is_note, fd_d_is_note := _, F_d_is_note := F_d_is_note, m_d_is_note := PySem.W.mg_of X G a_d_is_note, b_d_is_note := F_d_is_note.binds fun _ _ _ _ _ _ us hl => match us, hl with | [_], _ => rfl,
    f_d_is_row_of_notes := f_d_is_row_of_notes, fd_d_is_row_of_notes := _, F_d_is_row_of_notes := F_d_is_row_of_notes, m_d_is_row_of_notes := PySem.W.mg_of X G a_d_is_row_of_notes, b_d_is_row_of_notes := F_d_is_row_of_notes.binds fun _ _ _ _ _ _ us hl => match us, hl with | [_], _ => rfl,
    f_d_number_of := f_d_number_of, fd_d_number_of := _, F_d_number_of := F_d_number_of, m_d_number_of := PySem.W.mg_of X G a_d_number_of, b_d_number_of := F_d_number_of.binds fun _ _ _ _ _ _ us hl => match us, hl with | [_], _ => rfl,
    f_d_seal_of := f_d_seal_of, fd_d_seal_of := _, F_d_seal_of := F_d_seal_of, m_d_seal_of := PySem.W.mg_of X G a_d_seal_of, b_d_seal_of := F_d_seal_of.binds fun _ _ _ _ _ _ us hl => match us, hl with | [_, _, _, _], _ => rfl,
    f_d_are_signs := f_d_are_signs, fd_d_are_signs := _, F_d_are_signs := F_d_are_signs, m_d_are_signs := PySem.W.mg_of X G a_d_are_signs, b_d_are_signs := F_d_are_signs.binds fun _ _ _ _ _ _ us hl => match us, hl with | [_, _], _ => rfl,
    f_d_is_piece := f_d_is_piece, fd_d_is_piece := _, F_d_is_piece := F_d_is_piece, m_d_is_piece := PySem.W.mg_of X G a_d_is_piece, b_d_is_piece := F_d_is_piece.binds fun _ _ _ _ _ _ us hl => match us, hl with | [_, _], _ => rfl,
    f_d_law_urn := f_d_law_urn, fd_d_law_urn := _, F_d_law_urn := F_d_law_urn, m_d_law_urn := PySem.W.mg_of X G a_d_law_urn, b_d_law_urn := F_d_law_urn.binds fun _ _ _ _ _ _ us hl => match us, hl with | [_, _], _ => rfl,
    f_d_law_take := f_d_law_take, fd_d_law_take := _, F_d_law_take := F_d_law_take, m_d_law_take := PySem.W.mg_of X G a_d_law_take, b_d_law_take := F_d_law_take.binds fun _ _ _ _ _ _ us hl => match us, hl with | [_, _], _ => rfl,
    f_d_law_signs := f_d_law_signs, fd_d_law_signs := _, F_d_law_signs := F_d_law_signs, m_d_law_signs := PySem.W.mg_of X G a_d_law_signs, b_d_law_signs := F_d_law_signs.binds fun _ _ _ _ _ _ us hl => match us, hl with | [_, _, _], _ => rfl,
    f_d_law_seal := f_d_law_seal, fd_d_law_seal := _, F_d_law_seal := F_d_law_seal, m_d_law_seal := PySem.W.mg_of X G a_d_law_seal, b_d_law_seal := F_d_law_seal.binds fun _ _ _ _ _ _ us hl => match us, hl with | [_, _, _, _], _ => rfl,
    f_d_law_cut := f_d_law_cut, fd_d_law_cut := _, F_d_law_cut := F_d_law_cut, m_d_law_cut := PySem.W.mg_of X G a_d_law_cut, b_d_law_cut := F_d_law_cut.binds fun _ _ _ _ _ _ us hl => match us, hl with | [_, _, _], _ => rfl,
    f_d_law_ticket := f_d_law_ticket, fd_d_law_ticket := _, F_d_law_ticket := F_d_law_ticket, m_d_law_ticket := PySem.W.mg_of X G a_d_law_ticket, b_d_law_ticket := F_d_law_ticket.binds fun _ _ _ _ _ _ us hl => match us, hl with | [_], _ => rfl,
    f_d_law_is_piece := f_d_law_is_piece, fd_d_law_is_piece := _, F_d_law_is_piece := F_d_law_is_piece, m_d_law_is_piece := PySem.W.mg_of X G a_d_law_is_piece, b_d_law_is_piece := F_d_law_is_piece.binds fun _ _ _ _ _ _ us hl => match us, hl with | [_, _], _ => rfl,
    f_d_law_due := f_d_law_due, fd_d_law_due := _, F_d_law_due := F_d_law_due, m_d_law_due := PySem.W.mg_of X G a_d_law_due, b_d_law_due := F_d_law_due.binds fun _ _ _ _ _ _ us hl => match us, hl with | [_, _, _, _], _ => rfl,
    f_d_law_missing := f_d_law_missing, fd_d_law_missing := _, F_d_law_missing := F_d_law_missing, m_d_law_missing := PySem.W.mg_of X G a_d_law_missing, b_d_law_missing := F_d_law_missing.binds fun _ _ _ _ _ _ us hl => match us, hl with | [_], _ => rfl,
    f_d_law_whole := f_d_law_whole, fd_d_law_whole := _, F_d_law_whole := F_d_law_whole, m_d_law_whole := PySem.W.mg_of X G a_d_law_whole, b_d_law_whole := F_d_law_whole.binds fun _ _ _ _ _ _ us hl => match us, hl with | [_, _], _ => rfl,
    f_d_law_sealed := f_d_law_sealed, fd_d_law_sealed := _, F_d_law_sealed := F_d_law_sealed, m_d_law_sealed := PySem.W.mg_of X G a_d_law_sealed, b_d_law_sealed := F_d_law_sealed.binds fun _ _ _ _ _ _ us hl => match us, hl with | [_, _, _, _], _ => rfl,
    f_d_law_odd_signs := f_d_law_odd_signs, fd_d_law_odd_signs := _, F_d_law_odd_signs := F_d_law_odd_signs, m_d_law_odd_signs := PySem.W.mg_of X G a_d_law_odd_signs, b_d_law_odd_signs := F_d_law_odd_signs.binds fun _ _ _ _ _ _ us hl => match us, hl with | [_, _, _], _ => rfl,
    f_d_law_odd := f_d_law_odd, fd_d_law_odd := _, F_d_law_odd := F_d_law_odd, m_d_law_odd := PySem.W.mg_of X G a_d_law_odd, b_d_law_odd := F_d_law_odd.binds fun _ _ _ _ _ _ us hl => match us, hl with | [_, _, _], _ => rfl,
    f_d_Joiner_init := f_d_Joiner_init, fd_d_Joiner_init := _, F_d_Joiner_init := F_d_Joiner_init, b_d_Joiner_init := F_d_Joiner_init.binds fun _ _ _ _ _ _ us hl => match us, hl with | [_, _, _], _ => rfl,
    f_d_Joiner_fits := f_d_Joiner_fits, fd_d_Joiner_fits := _, F_d_Joiner_fits := F_d_Joiner_fits, b_d_Joiner_fits := F_d_Joiner_fits.binds fun _ _ _ _ _ _ us hl => match us, hl with | [_, _], _ => rfl,
    f_d_Joiner_take := f_d_Joiner_take, fd_d_Joiner_take := _, F_d_Joiner_take := F_d_Joiner_take, b_d_Joiner_take := F_d_Joiner_take.binds fun _ _ _ _ _ _ us hl => match us, hl with | [_, _], _ => rfl,
    f_d_Joiner_len := f_d_Joiner_len, fd_d_Joiner_len := _, F_d_Joiner_len := F_d_Joiner_len, b_d_Joiner_len := F_d_Joiner_len.binds fun _ _ _ _ _ _ us hl => match us, hl with | [_], _ => rfl,
    f_d_Joiner_missing := f_d_Joiner_missing, fd_d_Joiner_missing := _, F_d_Joiner_missing := F_d_Joiner_missing, b_d_Joiner_missing := F_d_Joiner_missing.binds fun _ _ _ _ _ _ us hl => match us, hl with | [_], _ => rfl,
    f_d_Joiner_whole := f_d_Joiner_whole, fd_d_Joiner_whole := _, F_d_Joiner_whole := F_d_Joiner_whole, b_d_Joiner_whole := F_d_Joiner_whole.binds fun _ _ _ _ _ _ us hl => match us, hl with | [_], _ => rfl,
    f_d_law := fa, fd_d_law := _, F_d_law := F_d_law, m_d_law := PySem.W.mg_of X G a_d_law, b_d_law := F_d_law.binds fun _ _ _ _ _ _ us hl => match us, hl with | [_], _ => rfl,
    z_all := PySem.W.mg_none_of X G z_all,
    z_bool := PySem.W.mg_none_of X G z_bool,
    z_int := PySem.W.mg_none_of X G z_int,
    z_isinstance := PySem.W.mg_none_of X G z_isinstance,
    z_len := PySem.W.mg_none_of X G z_len,
    z_list := PySem.W.mg_none_of X G z_list,
    z_max := PySem.W.mg_none_of X G z_max,
    z_min := PySem.W.mg_none_of X G z_min,
    z_ord := PySem.W.mg_none_of X G z_ord,
    z_range := PySem.W.mg_none_of X G z_range,
    z_repr := PySem.W.mg_none_of X G z_repr,
    z_str := PySem.W.mg_none_of X G z_str,
    z_tuple := PySem.W.mg_none_of X G z_tuple,
    C_Joiner := C_Joiner,
    mc_Joiner := PySem.W.mg_of X G ca_Joiner,
    cl_Joiner := ⟨cpg_Joiner, chd_Joiner, cpo_Joiner, csa_Joiner⟩,
    mk_Joiner := ⟨cmk_Joiner, cf_d_Joiner_init, cn_d_Joiner_init, ckp_Joiner⟩,
    me_d_Joiner_take := ⟨cf_d_Joiner_take, cn_d_Joiner_take, k_d_Joiner_take⟩,
    me_d_Joiner_fits := ⟨cf_d_Joiner_fits, cn_d_Joiner_fits, k_d_Joiner_fits⟩,
    me_d_Joiner_missing := ⟨cf_d_Joiner_missing, cn_d_Joiner_missing, k_d_Joiner_missing⟩,
    me_d_Joiner_whole := ⟨cf_d_Joiner_whole, cn_d_Joiner_whole, k_d_Joiner_whole⟩,
    me_d_Joiner_len := ⟨cf_d_Joiner_len, cn_d_Joiner_len, k_d_Joiner_len⟩,
    no__kind := cno__kind,
    no__ticket := cno__ticket,
    no__of := cno__of,
    no__kept := cno__kept,
    c_MOST_PIECES := .int (PySem.W.mg_of X G v_MOST_PIECES) }
  exact ⟨_, fun s v => .of_eq rfl, fun base _ _ => ok_d_law T⟩
end K39
open PySem PySem.W PyProof.Rows
set_option maxHeartbeats 0 in
theorem PySem.Challenge.cw_doorkinds_k39_bent_of_anything_holds : PySem.Challenge.rw_doorkinds_k39_bent_of_anything.Holds := by
  w_on; o_law; k_head; (case hw => w_witness2)
  k_fill
  refine DL.walk_ofG (l := PySem.Challenge.rw_doorkinds_k39_bent_of_anything) (k := 8) (x := "script") rfl rfl ⟨rfl, by decide, by decide⟩ (fun w h Y => PySem.W.kIn_of Y) ?F
  case F =>
    intro w mg fa h KX G hmg
    refine' K39.all_mk KX G hmg ?ca_Joiner ?cpg_Joiner ?chd_Joiner ?cpo_Joiner ?csa_Joiner ?cf_d_Joiner_init ?cn_d_Joiner_init ?cmk_Joiner ?ckp_Joiner ?cf_d_Joiner_take ?cn_d_Joiner_take ?cf_d_Joiner_fits ?cn_d_Joiner_fits ?cf_d_Joiner_missing ?cn_d_Joiner_missing ?cf_d_Joiner_whole ?cn_d_Joiner_whole ?cf_d_Joiner_len ?cn_d_Joiner_len ?cno__kind ?cno__ticket ?cno__of ?cno__kept ?a_d_is_whole ?l_d_is_whole ?c_d_is_whole ?k_d_is_whole ?a_d_is_whole_within ?l_d_is_whole_within ?c_d_is_whole_within ?k_d_is_whole_within ?a_d_is_whole_from ?l_d_is_whole_from ?c_d_is_whole_from ?k_d_is_whole_from ?a_d_is_row_of_texts ?l_d_is_row_of_texts ?c_d_is_row_of_texts ?k_d_is_row_of_texts ?a_d_is_note ?l_d_is_note ?c_d_is_note ?k_d_is_note ?a_d_is_row_of_notes ?l_d_is_row_of_notes ?c_d_is_row_of_notes ?k_d_is_row_of_notes ?a_d_number_of ?l_d_number_of ?c_d_number_of ?k_d_number_of ?a_d_seal_of ?l_d_seal_of ?c_d_seal_of ?k_d_seal_of ?a_d_are_signs ?l_d_are_signs ?c_d_are_signs ?k_d_are_signs ?a_d_is_piece ?l_d_is_piece ?c_d_is_piece ?k_d_is_piece ?a_d_law_urn ?l_d_law_urn ?c_d_law_urn ?k_d_law_urn ?a_d_law_take ?l_d_law_take ?c_d_law_take ?k_d_law_take ?a_d_law_signs ?l_d_law_signs ?c_d_law_signs ?k_d_law_signs ?a_d_law_seal ?l_d_law_seal ?c_d_law_seal ?k_d_law_seal ?a_d_law_cut ?l_d_law_cut ?c_d_law_cut ?k_d_law_cut ?a_d_law_ticket ?l_d_law_ticket ?c_d_law_ticket ?k_d_law_ticket ?a_d_law_is_piece ?l_d_law_is_piece ?c_d_law_is_piece ?k_d_law_is_piece ?a_d_law_due ?l_d_law_due ?c_d_law_due ?k_d_law_due ?a_d_law_missing ?l_d_law_missing ?c_d_law_missing ?k_d_law_missing ?a_d_law_whole ?l_d_law_whole ?c_d_law_whole ?k_d_law_whole ?a_d_law_sealed ?l_d_law_sealed ?c_d_law_sealed ?k_d_law_sealed ?a_d_law_odd_signs ?l_d_law_odd_signs ?c_d_law_odd_signs ?k_d_law_odd_signs ?a_d_law_odd ?l_d_law_odd ?c_d_law_odd ?k_d_law_odd ?l_d_Joiner_init ?c_d_Joiner_init ?k_d_Joiner_init ?l_d_Joiner_fits ?c_d_Joiner_fits ?k_d_Joiner_fits ?l_d_Joiner_take ?c_d_Joiner_take ?k_d_Joiner_take ?l_d_Joiner_len ?c_d_Joiner_len ?k_d_Joiner_len ?l_d_Joiner_missing ?c_d_Joiner_missing ?k_d_Joiner_missing ?l_d_Joiner_whole ?c_d_Joiner_whole ?k_d_Joiner_whole ?a_d_law ?l_d_law ?c_d_law ?k_d_law ?z_all ?z_bool ?z_int ?z_isinstance ?z_len ?z_list ?z_max ?z_min ?z_ord ?z_range ?z_repr ?z_str ?z_tuple ?v_MOST_PIECES
    (case ca_Joiner => k_is); (case cpg_Joiner => k_is); (case chd_Joiner => k_is); (case cpo_Joiner => k_is); (case csa_Joiner => k_is); (case cf_d_Joiner_init => k_is); (case cn_d_Joiner_init => k_is); (case cmk_Joiner => k_is); (case ckp_Joiner => k_is); (case cf_d_Joiner_take => k_is); (case cn_d_Joiner_take => k_is); (case cf_d_Joiner_fits => k_is); (case cn_d_Joiner_fits => k_is); (case cf_d_Joiner_missing => k_is); (case cn_d_Joiner_missing => k_is); (case cf_d_Joiner_whole => k_is); (case cn_d_Joiner_whole => k_is); (case cf_d_Joiner_len => k_is); (case cn_d_Joiner_len => k_is); (case cno__kind => k_is); (case cno__ticket => k_is); (case cno__of => k_is); (case cno__kept => k_is); (case a_d_is_whole => k_is); (case l_d_is_whole => k_is); (case c_d_is_whole => k_is); (case k_d_is_whole => k_is); (case a_d_is_whole_within => k_is); (case l_d_is_whole_within => k_is); (case c_d_is_whole_within => k_is); (case k_d_is_whole_within => k_is); (case a_d_is_whole_from => k_is); (case l_d_is_whole_from => k_is); (case c_d_is_whole_from => k_is); (case k_d_is_whole_from => k_is); (case a_d_is_row_of_texts => k_is); (case l_d_is_row_of_texts => k_is); (case c_d_is_row_of_texts => k_is); (case k_d_is_row_of_texts => k_is); (case a_d_is_note => k_is); (case l_d_is_note => k_is); (case c_d_is_note => k_is); (case k_d_is_note => k_is); (case a_d_is_row_of_notes => k_is); (case l_d_is_row_of_notes => k_is); (case c_d_is_row_of_notes => k_is); (case k_d_is_row_of_notes => k_is); (case a_d_number_of => k_is); (case l_d_number_of => k_is); (case c_d_number_of => k_is); (case k_d_number_of => k_is); (case a_d_seal_of => k_is); (case l_d_seal_of => k_is); (case c_d_seal_of => k_is); (case k_d_seal_of => k_is); (case a_d_are_signs => k_is); (case l_d_are_signs => k_is); (case c_d_are_signs => k_is); (case k_d_are_signs => k_is); (case a_d_is_piece => k_is); (case l_d_is_piece => k_is); (case c_d_is_piece => k_is); (case k_d_is_piece => k_is); (case a_d_law_urn => k_is); (case l_d_law_urn => k_is); (case c_d_law_urn => k_is); (case k_d_law_urn => k_is); (case a_d_law_take => k_is); (case l_d_law_take => k_is); (case c_d_law_take => k_is); (case k_d_law_take => k_is); (case a_d_law_signs => k_is); (case l_d_law_signs => k_is); (case c_d_law_signs => k_is); (case k_d_law_signs => k_is); (case a_d_law_seal => k_is); (case l_d_law_seal => k_is); (case c_d_law_seal => k_is); (case k_d_law_seal => k_is); (case a_d_law_cut => k_is); (case l_d_law_cut => k_is); (case c_d_law_cut => k_is); (case k_d_law_cut => k_is); (case a_d_law_ticket => k_is); (case l_d_law_ticket => k_is); (case c_d_law_ticket => k_is); (case k_d_law_ticket => k_is); (case a_d_law_is_piece => k_is); (case l_d_law_is_piece => k_is); (case c_d_law_is_piece => k_is); (case k_d_law_is_piece => k_is); (case a_d_law_due => k_is); (case l_d_law_due => k_is); (case c_d_law_due => k_is); (case k_d_law_due => k_is); (case a_d_law_missing => k_is); (case l_d_law_missing => k_is); (case c_d_law_missing => k_is); (case k_d_law_missing => k_is); (case a_d_law_whole => k_is); (case l_d_law_whole => k_is); (case c_d_law_whole => k_is); (case k_d_law_whole => k_is); (case a_d_law_sealed => k_is); (case l_d_law_sealed => k_is); (case c_d_law_sealed => k_is); (case k_d_law_sealed => k_is); (case a_d_law_odd_signs => k_is); (case l_d_law_odd_signs => k_is); (case c_d_law_odd_signs => k_is); (case k_d_law_odd_signs => k_is); (case a_d_law_odd => k_is); (case l_d_law_odd => k_is); (case c_d_law_odd => k_is); (case k_d_law_odd => k_is); (case l_d_Joiner_init => k_is); (case c_d_Joiner_init => k_is); (case k_d_Joiner_init => k_is); (case l_d_Joiner_fits => k_is); (case c_d_Joiner_fits => k_is); (case k_d_Joiner_fits => k_is); (case l_d_Joiner_take => k_is); (case c_d_Joiner_take => k_is); (case k_d_Joiner_take => k_is); (case l_d_Joiner_len => k_is); (case c_d_Joiner_len => k_is); (case k_d_Joiner_len => k_is); (case l_d_Joiner_missing => k_is); (case c_d_Joiner_missing => k_is); (case k_d_Joiner_missing => k_is); (case l_d_Joiner_whole => k_is); (case c_d_Joiner_whole => k_is); (case k_d_Joiner_whole => k_is); (case a_d_law => k_is); (case l_d_law => k_is); (case c_d_law => k_is); (case k_d_law => k_is); (case z_all => k_is); (case z_bool => k_is); (case z_int => k_is); (case z_isinstance => k_is); (case z_len => k_is); (case z_list => k_is); (case z_max => k_is); (case z_min => k_is); (case z_ord => k_is); (case z_range => k_is); (case z_repr => k_is); (case z_str => k_is); (case z_tuple => k_is); (case v_MOST_PIECES => k_is)

