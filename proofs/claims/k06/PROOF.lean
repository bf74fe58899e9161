import PyProof.Rows.All
import Wide.All
import OpenK.AllK
import Wide.FinOn
import HandS.ForMost
import HandS.ForExc
import HandS.Wide
import HandS.Gcd
import HandS.IsInst
import HandS.Zip
import HandS.StrMore
import HandS.FStr
import HandS.Conv
import HandS.Flow
import HandS.Lambda
import HandS.Walk
import HandS.NoneIn
import KE.GoesEnumKw
import HandS.Style
import HandS.TupAny
import HandS.ListItems
import HandS.OwnEq
import HandS.More
import PyProof.InstNe
import KE.GoesEnum
import KE.GoesMore
import HandS.Deep
import HandS.NamedTupGet
import KE.KDictZip
import HandS.MapObj
import KE.DataMinMax
import HandS.ExcInit
import HandS.WordsExc
import KE.KExcIs
import HandS.HeadWalk
import HandS.ExcIs
import PySem.Challenge.RW_cornerdrifts_k06_whole_home_exactly_by_s
set_option Elab.async false
set_option linter.all false
set_option maxRecDepth 100000
set_option maxHeartbeats 2000000
/-! An abstract state over the hand layer: what stands in the slots and in the objects that may change, told by plain data. -/
namespace A
open PySem PySem.Spec PyProof.Rows L2

/-- a described value: plain data, one very value, an instance that stands still -/
inductive DV where
  | dat (d : PyData)
  | raw (v : V)
  | obj (C : Addr) (fs : List (Str × PyData))
  | sem (R : PySem.W.Frag → Hp → V → Prop) (h : ∀ K G G' v, Same G G' → R K G v → R K G' v)

mutual
theorem dp_mono {K : PySem.W.Frag} {H H' : Hp} (e : Same H H') : ∀ {v : V} {d : PyData}, Dp K H v d → Dp K H' v d
  | _, _, .non => .non
  | _, _, .bl b => .bl b
  | _, _, .int i => .int i
  | _, _, .str x => .str x
  | _, _, .lst h hs => .lst (e.seq h) (dpAll_mono e hs)
  | _, _, .tup h hs => .tup (by
      rcases h with (h | ⟨o, h⟩) | h
      · exact .inl (.inl (e _ _ h))
      · exact .inl (.inr ⟨o, e _ _ h⟩)
      · exact .inr h) (dpAll_mono e hs)
theorem dpAll_mono {K : PySem.W.Frag} {H H' : Hp} (e : Same H H') : ∀ {vs : List V} {ds : List PyData}, DpAll K H vs ds → DpAll K H' vs ds
  | _, _, .nil => .nil
  | _, _, .cons h hs => .cons (dp_mono e h) (dpAll_mono e hs)
end

def Is (K : PySem.W.Frag) (G : Hp) (v : V) : DV → Prop
  | .dat d => Dp K G v d
  | .raw u => v = u
  | .sem R _ => R K G v
  | .obj C fs => ∃ a dx vs, v = .ref a ∧ G a = some (.ins C dx vs) ∧ Paired (fun (p : Str × V) (q : Str × PyData) => p.1 = q.1 ∧ Dp K G p.2 q.2) vs fs
theorem isd {K : PySem.W.Frag} {G : Hp} {v : V} {d : PyData} (h : Dp K G v d) : Is K G v (.dat d) := h
theorem Is.mono {K : PySem.W.Frag} {G G' : Hp} (e : Same G G') {v : V} : ∀ {d : DV}, Is K G v d → Is K G' v d
  | .dat _, h => dp_mono e h
  | .raw _, h => h
  | .sem _ m, h => m _ _ _ _ e h
  | .obj _ _, ⟨a, dx, vs, h1, h2, h3⟩ => ⟨a, dx, vs, h1, e _ _ h2, Paired.mapP h3 fun _ _ q => ⟨q.1, dp_mono e q.2⟩⟩
def IsAll (K : PySem.W.Frag) (G : Hp) : List V → List DV → Prop := Paired (Is K G)
theorem IsAll.mono {K : PySem.W.Frag} {G G' : Hp} (e : Same G G') {vs : List V} {ds : List DV} (h : IsAll K G vs ds) : IsAll K G' vs ds := Paired.mapP h fun _ _ q => q.mono e
theorem IsAll.dat {K : PySem.W.Frag} {G : Hp} : ∀ {vs : List V} {ds : List PyData}, IsAll K G vs (ds.map DV.dat) → DpAll K G vs ds
  | _, [], .nil => .nil
  | _, _ :: _, .cons h t => .cons h (IsAll.dat t)
theorem IsAll.of {K : PySem.W.Frag} {G : Hp} : ∀ {vs : List V} {ds : List PyData}, DpAll K G vs ds → IsAll K G vs (ds.map DV.dat)
  | _, _, .nil => .nil
  | _, _, .cons h t => .cons h (IsAll.of t)

/-- an object that may change -/
inductive MO where
  | lst (xs : List DV)
  | dK (kvs : List (Key × DV))
  | ins (C : Addr) (fs : List (Str × DV))
  | tab (q : Str)
  | sem (R : PySem.W.Frag → Hp → Hp → Addr → Prop) (hs : ∀ K G H a, R K G H a → ∃ o, H a = some o ∧ (∀ ps, o ≠ .tbl ps) ∧ ∀ φ, o ≠ .ext φ) (hm : ∀ K G G' H H' a, Same G G' → H' a = H a → R K G H a → R K G' H' a)
abbrev MS := Addr → Option MO
def upM (M : MS) (a : Addr) (m : MO) : MS := fun b => if b = a then some m else M b
theorem upM_same {M : MS} {a : Addr} {m : MO} : upM M a m a = some m := by unfold upM; rw [if_pos rfl]
theorem upM_ne {M : MS} {a b : Addr} {m : MO} (h : b ≠ a) : upM M a m b = M b := by unfold upM; rw [if_neg h]
theorem upM_upM {M : MS} {a : Addr} {m n : MO} : upM (upM M a m) a n = upM M a n := by
  funext b; unfold upM; split <;> rfl
theorem upM_self {M : MS} {a : Addr} {m : MO} (h : M a = some m) : upM M a m = M := by
  funext b; unfold upM; split
  · next e => rw [e, h]
  · rfl
def HasO (K : PySem.W.Frag) (G H : Hp) (a : Addr) : MO → Prop
  | .lst xs => ∃ vs, H a = some (.lst vs) ∧ IsAll K G vs xs
  | .dK kvs => ∃ ws, H a = some (.dK ws) ∧ Paired (fun (p : Key × V) (q : Key × DV) => p.1 = q.1 ∧ Is K G p.2 q.2) ws kvs
  | .tab q => ∃ ps : Array Value, H a = some (.tbl ps) ∧ TriplesOk ps.toList ∧ ∀ (pos : Pos) (cv : Value), codeAmong pos ps.toList = some cv → ∃ c, cv = .ref c ∧ G c = some (LamX.CodeO c q)
  | .sem R _ _ => R K G H a
  | .ins C fs => ∃ dx ws, H a = some (.ins C dx ws) ∧ Paired (fun (p : Str × V) (q : Str × DV) => p.1 = q.1 ∧ Is K G p.2 q.2) ws fs
theorem HasO.some {K : PySem.W.Frag} {G H : Hp} {a : Addr} : ∀ {m : MO}, HasO K G H a m → ∃ o, H a = some o
  | .lst _, ⟨_, h, _⟩ => ⟨_, h⟩
  | .dK _, ⟨_, h, _⟩ => ⟨_, h⟩
  | .ins _ _, ⟨_, _, h, _⟩ => ⟨_, h⟩
  | .tab _, ⟨_, h, _⟩ => ⟨_, h⟩
  | .sem _ s _, h => (s _ _ _ _ h).imp fun _ q => q.1
theorem HasO.mono {K : PySem.W.Frag} {G G' H H' : Hp} {a : Addr} (e : Same G G') (eh : H' a = H a) : ∀ {m : MO}, HasO K G H a m → HasO K G' H' a m
  | .lst _, ⟨vs, h, r⟩ => ⟨vs, eh.trans h, r.mono e⟩
  | .dK _, ⟨vs, h, r⟩ => ⟨vs, eh.trans h, Paired.mapP r fun _ _ q => ⟨q.1, q.2.mono e⟩⟩
  | .tab _, ⟨ps, h, t, z⟩ => ⟨ps, eh.trans h, t, fun pos cv hc => (z pos cv hc).imp fun _ q => ⟨q.1, e _ _ q.2⟩⟩
  | .sem _ _ m, h => m _ _ _ _ _ _ e eh h
  | .ins _ _, ⟨dx, vs, h, r⟩ => ⟨dx, vs, eh.trans h, Paired.mapP r fun _ _ q => ⟨q.1, q.2.mono e⟩⟩

/-- G: what stands still; M: what may change -/
structure Ok (K : PySem.W.Frag) (G : Hp) (M : MS) (H : Hp) : Prop where
  sub : ∀ a o, G a = some o → H a = some o
  chg : ∀ a m, M a = some m → G a = none ∧ HasO K G H a m
  tb : ∀ a ps, G a ≠ some (.tbl ps)
section
variable {K : PySem.W.Frag} {G G' H : Hp} {M : MS}
theorem Ok.same (o : Ok K G M H) : Same G H := o.sub
theorem Ok.fresh (o : Ok K G M H) {p : Addr} (h : H p = none) : G p = none ∧ M p = none := by
  refine ⟨?_, ?_⟩
  · cases e : G p with
    | none => rfl
    | some x => rw [o.sub p x e] at h; cases h
  · cases e : M p with
    | none => rfl
    | some m =>
      obtain ⟨x, q⟩ := (o.chg p m e).2.some
      rw [q] at h; cases h
/-- a new object that stands still -/
theorem Ok.still (o : Ok K G M H) {p : Addr} (h : H p = none) (x : HO) (ht : ∀ ps, x ≠ .tbl ps := by intro _ z; cases z) : Ok K (upd G p x) M (upd H p x) ∧ Same G (upd G p x) := by
  obtain ⟨hg, hm⟩ := o.fresh h
  have e : Same G (upd G p x) := fun a y q => by
    rw [upd_ne (ne_of_none q hg)]; exact q
  refine ⟨⟨fun a y q => ?_, fun a m q => ?_, fun a ps q => ?_⟩, e⟩
  · by_cases ha : a = p
    · subst ha; rw [upd_same] at q ⊢; exact q
    · rw [upd_ne ha] at q ⊢; exact o.sub a y q
  · have ha : a ≠ p := fun z => by rw [z, hm] at q; cases q
    obtain ⟨h1, h2⟩ := o.chg a m q
    exact ⟨by rw [upd_ne ha]; exact h1, h2.mono e (upd_ne ha)⟩
  · by_cases ha : a = p
    · subst ha; rw [upd_same] at q; exact ht ps (Option.some.inj q)
    · rw [upd_ne ha] at q; exact o.tb a ps q
/-- a new object that may change, or one of these changed -/
theorem Ok.put (o : Ok K G M H) {p : Addr} (hg : G p = none) {x : HO} {m : MO} (hx : HasO K G (upd H p x) p m) : Ok K G (upM M p m) (upd H p x) := by
  refine ⟨fun a y q => ?_, fun a n q => ?_, o.tb⟩
  · rw [upd_ne (ne_of_none q hg)]; exact o.sub a y q
  · by_cases ha : a = p
    · subst ha; rw [upM_same] at q; cases q; exact ⟨hg, hx⟩
    · rw [upM_ne ha] at q
      obtain ⟨h1, h2⟩ := o.chg a n q
      exact ⟨h1, h2.mono (Same.refl _) (upd_ne ha)⟩
/-- less is known -/
theorem Ok.less (o : Ok K G M H) {N : MS} (h : ∀ a m, N a = some m → M a = some m) : Ok K G N H := ⟨o.sub, fun a m q => o.chg a m (h a m q), o.tb⟩
end
/-- N is M without some -/
def Le (N M : MS) : Prop := ∀ a m, N a = some m → M a = some m
theorem Le.refl (M : MS) : Le M M := fun _ _ h => h
theorem Le.trans {A B C : MS} (h : Le A B) (g : Le B C) : Le A C := fun a m q => g a m (h a m q)
theorem Le.up {N M : MS} {p : Addr} {m : MO} (h : Le N M) (hp : N p = none) : Le N (upM M p m) := fun a n q => by
  rw [upM_ne (fun z => by rw [z, hp] at q; cases q)]; exact h a n q

/-! ### the slots -/
abbrev DS := List (Option DV)
def EnvOk (K : PySem.W.Frag) (G : Hp) : L2.St → DS → Prop := Paired fun s d => ∀ x, d = some x → ∃ v, s = some v ∧ Is K G v x
theorem EnvOk.mono {K : PySem.W.Frag} {G G' : Hp} (e : Same G G') {σ : L2.St} {ds : DS} (h : EnvOk K G σ ds) : EnvOk K G' σ ds := Paired.mapP h fun _ _ q x hx => by
  obtain ⟨v, h1, h2⟩ := q x hx
  exact ⟨v, h1, h2.mono e⟩
theorem EnvOk.get {K : PySem.W.Frag} {G : Hp} : ∀ {σ : L2.St} {ds : DS} {i : Nat} {x : DV}, EnvOk K G σ ds → ds[i]? = some (some x) → ∃ v, σ[i]? = some (some v) ∧ Is K G v x
  | _, _, 0, _, .cons h _, e => by
    simp at e
    obtain ⟨v, h1, h2⟩ := h _ e
    exact ⟨v, by simp [h1], h2⟩
  | _, _, i + 1, _, .cons _ t, e => by
    obtain ⟨v, h1, h2⟩ := EnvOk.get (i := i) t (by simpa using e)
    exact ⟨v, by simpa using h1, h2⟩
  | _, _, _, _, .nil, e => by simp at e
theorem EnvOk.set {K : PySem.W.Frag} {G : Hp} {v : V} {x : DV} (hv : Is K G v x) : ∀ {σ : L2.St} {ds : DS} (i : Nat), EnvOk K G σ ds → EnvOk K G (σ.set i (some v)) (ds.set i (some x))
  | _, _, _, .nil => .nil
  | _, _, 0, .cons _ t => .cons (fun y hy => by cases hy; exact ⟨v, rfl, hv⟩) t
  | _, _, i + 1, .cons q t => .cons q (EnvOk.set hv i t)
theorem EnvOk.none {K : PySem.W.Frag} {G : Hp} {s : Option V} : ∀ {σ : L2.St} {ds : DS} (i : Nat), EnvOk K G σ ds → EnvOk K G (σ.set i s) (ds.set i none)
  | _, _, _, .nil => .nil
  | _, _, 0, .cons _ t => .cons (fun y hy => by cases hy) t
  | _, _, i + 1, .cons q t => .cons q (EnvOk.none i t)
/-- less is known of the slots -/
theorem EnvOk.less {K : PySem.W.Frag} {G : Hp} : ∀ {σ : L2.St} {ds es : DS}, EnvOk K G σ ds → Paired (fun d e => e = Option.none ∨ e = d) ds es → EnvOk K G σ es
  | _, _, _, .nil, .nil => .nil
  | _, _, _, .cons q t, .cons h s => .cons (fun x hx => by
      rcases h with h | h
      · rw [h] at hx; cases hx
      · rw [h] at hx; exact q x hx) (EnvOk.less t s)
theorem EnvOk.len {K : PySem.W.Frag} {G : Hp} {σ : L2.St} {ds : DS} (h : EnvOk K G σ ds) : σ.length = ds.length := Paired.length h

/-! ### the judgements -/
structure AEnds where
  nx : DS → MS → Prop
  rt : DV → MS → Prop
  bk : DS → MS → Prop := fun _ _ => False
  ct : DS → MS → Prop := fun _ _ => False
structure EndsOk (K : PySem.W.Frag) (G : Hp) (A : AEnds) (D : Ends) : Prop where
  nx : ∀ σ ds G' M H, Same G G' → EnvOk K G' σ ds → Ok K G' M H → A.nx ds M → D.nx σ H
  rt : ∀ v d G' M H, Same G G' → Ok K G' M H → Is K G' v d → A.rt d M → D.rt v H
  bk : ∀ σ ds G' M H, Same G G' → EnvOk K G' σ ds → Ok K G' M H → A.bk ds M → D.bk σ H
  ct : ∀ σ ds G' M H, Same G G' → EnvOk K G' σ ds → Ok K G' M H → A.ct ds M → D.ct σ H
theorem EndsOk.mono {K : PySem.W.Frag} {G G' : Hp} {A : AEnds} {D : Ends} (e : Same G G') (h : EndsOk K G A D) : EndsOk K G' A D :=
  ⟨fun σ ds G2 M H q => h.nx σ ds G2 M H (e.trans q), fun v d G2 M H q => h.rt v d G2 M H (e.trans q), fun σ ds G2 M H q => h.bk σ ds G2 M H (e.trans q), fun σ ds G2 M H q => h.ct σ ds G2 M H (e.trans q)⟩

structure SemE (X : Cx) (e : Expr) (σ : L2.St) (H : Hp) (Q : VK) : Prop where
  run : ∀ pins s, Inv X pins σ H s → wpAny (model X.prog X.w) X.A (eval e X.env) (EP X pins σ Q) X.xe s
structure SemT (X : Cx) (e : Expr) (σ : L2.St) (H : Hp) (Q : Bool → Hp → Prop) : Prop where
  run : ∀ pins s, Inv X pins σ H s → wpAny (model X.prog X.w) X.A (isTrue e X.env (eval e X.env)) (TP X pins σ Q) X.xe s
structure SemA (X : Cx) (es : List Expr) (σ : L2.St) (H : Hp) (Q : List V → Hp → Prop) : Prop where
  run : ∀ pos pins s, Inv X pins σ H s → wpAny (model X.prog X.w) X.A (spliced (backTo pos (starEach es X.env))) (AP X pins σ Q) X.xe s
structure SemS (X : Cx) (st : Stmt) (D : Ends) (σ : L2.St) (H : Hp) : Prop where
  run : ∀ pins s, Inv X pins σ H s → wpAny (model X.prog X.w) X.A (exec st X.env) (SP X pins D) X.xe s
structure SemSs (X : Cx) (st : List Stmt) (D : Ends) (σ : L2.St) (H : Hp) : Prop where
  run : ∀ pins s, Inv X pins σ H s → wpAny (model X.prog X.w) X.A (execs st X.env) (SP X pins D) X.xe s
section
variable {X : Cx} {e : Expr} {es : List Expr} {st : Stmt} {sts : List Stmt}
theorem semE : PE X e (SemE X e) := ⟨fun pins s σ H Q I h => h.run pins s I⟩
theorem semT : PT X e (SemT X e) := ⟨fun pins s σ H Q I h => h.run pins s I⟩
theorem semA : PA X es (SemA X es) := ⟨fun pos pins s σ H Q I h => h.run pos pins s I⟩
theorem semS : PS X st (SemS X st) := ⟨fun pins s σ H Q I h => h.run pins s I⟩
theorem semSs : PSs X sts (SemSs X sts) := ⟨fun pins s σ H Q I h => h.run pins s I⟩
theorem ofE {t : TE} {σ : L2.St} {H : Hp} {Q : VK} (h : PE X e t) (q : t σ H Q) : SemE X e σ H Q := ⟨fun pins s I => h.run pins s σ H Q I q⟩
theorem ofT {t : TT} {σ : L2.St} {H : Hp} {Q : Bool → Hp → Prop} (h : PT X e t) (q : t σ H Q) : SemT X e σ H Q := ⟨fun pins s I => h.run pins s σ H Q I q⟩
theorem ofA {t : TA} {σ : L2.St} {H : Hp} {Q : List V → Hp → Prop} (h : PA X es t) (q : t σ H Q) : SemA X es σ H Q := ⟨fun pos pins s I => h.run pos pins s σ H Q I q⟩
theorem ofS {t : TS} {σ : L2.St} {H : Hp} {D : Ends} (h : PS X st t) (q : t D σ H) : SemS X st D σ H := ⟨fun pins s I => h.run pins s σ H D I q⟩
theorem ofSs {t : TS} {σ : L2.St} {H : Hp} {D : Ends} (h : PSs X sts t) (q : t D σ H) : SemSs X sts D σ H := ⟨fun pins s I => h.run pins s σ H D I q⟩
end

def AE (X : Cx) (e : Expr) (ds : DS) (M : MS) (k : DV → MS → Prop) : Prop :=
  ∀ σ G H Q, EnvOk X.K G σ ds → Ok X.K G M H → (∀ v d G2 M2 H2, Same G G2 → Ok X.K G2 M2 H2 → Is X.K G2 v d → k d M2 → Q v H2) → SemE X e σ H Q
def AT (X : Cx) (e : Expr) (ds : DS) (M : MS) (k : Bool → MS → Prop) : Prop :=
  ∀ σ G H Q, EnvOk X.K G σ ds → Ok X.K G M H → (∀ b G2 M2 H2, Same G G2 → Ok X.K G2 M2 H2 → k b M2 → Q b H2) → SemT X e σ H Q
def AA (X : Cx) (es : List Expr) (ds : DS) (M : MS) (k : List DV → MS → Prop) : Prop :=
  ∀ σ G H Q, EnvOk X.K G σ ds → Ok X.K G M H → (∀ vs d G2 M2 H2, Same G G2 → Ok X.K G2 M2 H2 → IsAll X.K G2 vs d → k d M2 → Q vs H2) → SemA X es σ H Q
def AS (X : Cx) (st : Stmt) (ds : DS) (M : MS) (A : AEnds) : Prop :=
  ∀ σ G H D, EnvOk X.K G σ ds → Ok X.K G M H → EndsOk X.K G A D → SemS X st D σ H
def ASs (X : Cx) (sts : List Stmt) (ds : DS) (M : MS) (A : AEnds) : Prop :=
  ∀ σ G H D, EnvOk X.K G σ ds → Ok X.K G M H → EndsOk X.K G A D → SemSs X sts D σ H

section
variable {X : Cx} {ds : DS} {M : MS} {k k' : DV → MS → Prop} {e a b c : Expr} {es : List Expr} {pos : Pos}
theorem AE.imp (h : AE X e ds M k) (g : ∀ d M', k d M' → k' d M') : AE X e ds M k' := fun σ G H Q he ho q => h σ G H Q he ho fun v d G2 M2 H2 s2 o2 i2 k2 => q v d G2 M2 H2 s2 o2 i2 (g d M2 k2)
/-- less is known -/
theorem AE.forget {N : MS} (hN : Le N M) (h : AE X e ds N k) : AE X e ds M k := fun σ G H Q he ho q => h σ G H Q he (ho.less hN) q

/-! ### names, constants -/
theorem ae_name (i : Nat) {x : Str} {d : DV} (hd : ds[i]? = some (some d)) (q : k d M) (hN : X.N[i]? = some x := by rfl) (hv : Vis X.env.scope x := by first | exact Or.inl rfl | exact Or.inr (Or.inl rfl) | exact Or.inr (Or.inr rfl))
    (hdb : (x == ("__debug__" : Str)) = false := by decide) (hcd : (x == ("__classdict__" : Str)) = false := by decide) : AE X (.Name x pos) ds M k := fun σ G H Q he ho kk => by
  obtain ⟨v, h1, h2⟩ := he.get hd
  exact ofE (pe_var hN hv hdb hcd) ⟨v, h1, kk v d G M H (Same.refl _) ho h2 q⟩
theorem ae_int {n : Int} {j} (q : k (.dat (.int n)) M) : AE X (.Constant (.int n) j pos) ds M k := fun σ G H Q he ho kk => ofE pe_int (kk _ _ G M H (Same.refl _) ho (isd (Dp.int n)) q)
theorem ae_bl {n : Bool} {j} (q : k (.dat (.bool n)) M) : AE X (.Constant (.bool n) j pos) ds M k := fun σ G H Q he ho kk => ofE pe_bl (kk _ _ G M H (Same.refl _) ho (isd (Dp.bl n)) q)
theorem ae_non {j} (q : k (.dat .none) M) : AE X (.Constant .none j pos) ds M k := fun σ G H Q he ho kk => ofE pe_non (kk _ _ G M H (Same.refl _) ho (isd Dp.non) q)
theorem ae_str {n : Str} {j} (q : k (.dat (.str n)) M) : AE X (.Constant (.str n) j pos) ds M k := fun σ G H Q he ho kk => ofE pe_str (kk _ _ G M H (Same.refl _) ho (isd (Dp.str n)) q)
/-- a module's constant: scalars -/
theorem ae_glob {x : Str} {d : PyData} {v : V} {u : Value} (hm : X.mg x = some u) (r : RelV v u) (hd : ∀ G, Dp X.K G v d) (q : k (.dat d) M) (hg : Gl X x := by rfl) (hdb : (x == ("__debug__" : Str)) = false := by decide) : AE X (.Name x pos) ds M k :=
  fun σ G H Q he ho kk => ofE (pe_glob hg hm r hdb) (kk _ _ G M H (Same.refl _) ho (isd (hd G)) q)

/-! ### two operands -/
theorem dp_int_inv {K : PySem.W.Frag} {G : Hp} {v : V} {i : Int} (h : Dp K G v (.int i)) : v = .int i := by cases h; rfl
theorem dp_bl_inv {K : PySem.W.Frag} {G : Hp} {v : V} {i : Bool} (h : Dp K G v (.bool i)) : v = .bl i := by cases h; rfl
theorem dp_str_inv {K : PySem.W.Frag} {G : Hp} {v : V} {i : Str} (h : Dp K G v (.str i)) : v = .str i := by cases h; rfl
theorem dp_non_inv {K : PySem.W.Frag} {G : Hp} {v : V} (h : Dp K G v .none) : v = .non := by cases h; rfl
/-- an operation of values, at the abstract state -/
def AR (K : PySem.W.Frag) (r : R2) (x y : DV) (M : MS) (k : DV → MS → Prop) : Prop :=
  ∀ v w G H Q, Ok K G M H → Is K G v x → Is K G w y → (∀ u d G2 M2 H2, Same G G2 → Ok K G2 M2 H2 → Is K G2 u d → k d M2 → Q u H2) → r v w H Q
theorem ae_op {op : Operator} {r : R2} (ho : OpR X (binaryOp op) r) (h : AE X a ds M fun x M1 => AE X b ds M1 fun y M2 => AR X.K r x y M2 k) : AE X (.BinOp a op b pos) ds M k := fun σ G H Q he hok kk =>
  ofE (pe_op ho semE semE) (h σ G H _ he hok fun v x G1 M1 H1 s1 o1 i1 k1 => k1 σ G1 H1 _ (he.mono s1) o1 fun w y G2 M2 H2 s2 o2 i2 k2 =>
    k2 v w G2 H2 Q o2 (i1.mono s2) i2 fun u d G3 M3 H3 s3 o3 i3 k3 => kk u d G3 M3 H3 (s1.trans (s2.trans s3)) o3 i3 k3)
theorem ae_cmp {op : CmpOp} {r : R2} (ho : OpR X (compareOp op) r) (h : AE X a ds M fun x M1 => AE X b ds M1 fun y M2 => AR X.K r x y M2 k) (hm : behindInMarks op b = false) : AE X (.Compare a [op] [b] pos) ds M k := fun σ G H Q he hok kk =>
  ofE (pe_cmpR ho semE semE hm) (h σ G H _ he hok fun v x G1 M1 H1 s1 o1 i1 k1 => k1 σ G1 H1 _ (he.mono s1) o1 fun w y G2 M2 H2 s2 o2 i2 k2 =>
    k2 v w G2 H2 Q o2 (i1.mono s2) i2 fun u d G3 M3 H3 s3 o3 i3 k3 => kk u d G3 M3 H3 (s1.trans (s2.trans s3)) o3 i3 k3)
theorem ar_I0 {K : PySem.W.Frag} {g : Int → Int → Int} {i j : Int} (q : k (.dat (.int (g i j))) M) : AR K (rI0 fun i j => .int (g i j)) (.dat (.int i)) (.dat (.int j)) M k := fun v w G H Q ho iv iw kk =>
  ⟨i, j, dp_int_inv iv, dp_int_inv iw, kk _ _ G M H (Same.refl _) ho (isd (Dp.int _)) q⟩
theorem ar_B0 {K : PySem.W.Frag} {g : Int → Int → Bool} {i j : Int} (q : k (.dat (.bool (g i j))) M) : AR K (rI0 fun i j => .bl (g i j)) (.dat (.int i)) (.dat (.int j)) M k := fun v w G H Q ho iv iw kk =>
  ⟨i, j, dp_int_inv iv, dp_int_inv iw, kk _ _ G M H (Same.refl _) ho (isd (Dp.bl _)) q⟩
theorem ar_I {K : PySem.W.Frag} {C : Int → Int → Prop} {g : Int → Int → Int} {i j : Int} (hc : C i j) (q : k (.dat (.int (g i j))) M) : AR K (rI C fun i j => .int (g i j)) (.dat (.int i)) (.dat (.int j)) M k := fun v w G H Q ho iv iw kk =>
  ⟨i, j, dp_int_inv iv, dp_int_inv iw, hc, kk _ _ G M H (Same.refl _) ho (isd (Dp.int _)) q⟩
theorem ae_add (h : AE X a ds M fun x M1 => AE X b ds M1 fun y M2 => ∃ i j, x = .dat (.int i) ∧ y = .dat (.int j) ∧ k (.dat (.int (i + j))) M2) : AE X (.BinOp a .Add b pos) ds M k :=
  ae_op op_add (h.imp fun x M1 h1 => h1.imp fun y M2 ⟨i, j, e1, e2, q⟩ => by subst e1 e2; exact ar_I0 q)
theorem ae_sub (h : AE X a ds M fun x M1 => AE X b ds M1 fun y M2 => ∃ i j, x = .dat (.int i) ∧ y = .dat (.int j) ∧ k (.dat (.int (i - j))) M2) : AE X (.BinOp a .Sub b pos) ds M k :=
  ae_op op_sub (h.imp fun x M1 h1 => h1.imp fun y M2 ⟨i, j, e1, e2, q⟩ => by subst e1 e2; exact ar_I0 q)
theorem ae_mul (h : AE X a ds M fun x M1 => AE X b ds M1 fun y M2 => ∃ i j, x = .dat (.int i) ∧ y = .dat (.int j) ∧ CMulW i j ∧ k (.dat (.int (i * j))) M2) : AE X (.BinOp a .Mult b pos) ds M k :=
  ae_op op_mulW (h.imp fun x M1 h1 => h1.imp fun y M2 ⟨i, j, e1, e2, hc, q⟩ => by subst e1 e2; exact ar_I hc q)
theorem ae_fdiv (h : AE X a ds M fun x M1 => AE X b ds M1 fun y M2 => ∃ i j, x = .dat (.int i) ∧ y = .dat (.int j) ∧ CDivW i j ∧ k (.dat (.int (i / j))) M2) : AE X (.BinOp a .FloorDiv b pos) ds M k :=
  ae_op op_fdivW (h.imp fun x M1 h1 => h1.imp fun y M2 ⟨i, j, e1, e2, hc, q⟩ => by subst e1 e2; exact ar_I hc q)
theorem ae_mod (h : AE X a ds M fun x M1 => AE X b ds M1 fun y M2 => ∃ i j, x = .dat (.int i) ∧ y = .dat (.int j) ∧ 0 < j ∧ k (.dat (.int (i % j))) M2) : AE X (.BinOp a .Mod b pos) ds M k :=
  ae_op op_mod (h.imp fun x M1 h1 => h1.imp fun y M2 ⟨i, j, e1, e2, hc, q⟩ => by subst e1 e2; exact ar_I (C := fun _ j => 0 < j) hc q)
theorem ae_pow (h : AE X a ds M fun x M1 => AE X b ds M1 fun y M2 => ∃ i j, x = .dat (.int i) ∧ y = .dat (.int j) ∧ CPow i j ∧ k (.dat (.int (i ^ j.toNat))) M2) : AE X (.BinOp a .Pow b pos) ds M k :=
  ae_op op_pow (h.imp fun x M1 h1 => h1.imp fun y M2 ⟨i, j, e1, e2, hc, q⟩ => by subst e1 e2; exact ar_I hc q)
theorem ae_lt (h : AE X a ds M fun x M1 => AE X b ds M1 fun y M2 => ∃ i j, x = .dat (.int i) ∧ y = .dat (.int j) ∧ k (.dat (.bool (decide (i < j)))) M2) : AE X (.Compare a [.Lt] [b] pos) ds M k :=
  ae_cmp op_lt (h.imp fun x M1 h1 => h1.imp fun y M2 ⟨i, j, e1, e2, q⟩ => by subst e1 e2; exact ar_B0 q) (nomark _)
theorem ae_le (h : AE X a ds M fun x M1 => AE X b ds M1 fun y M2 => ∃ i j, x = .dat (.int i) ∧ y = .dat (.int j) ∧ k (.dat (.bool (decide (i ≤ j)))) M2) : AE X (.Compare a [.LtE] [b] pos) ds M k :=
  ae_cmp op_le (h.imp fun x M1 h1 => h1.imp fun y M2 ⟨i, j, e1, e2, q⟩ => by subst e1 e2; exact ar_B0 q) (nomark _)
theorem ae_gt (h : AE X a ds M fun x M1 => AE X b ds M1 fun y M2 => ∃ i j, x = .dat (.int i) ∧ y = .dat (.int j) ∧ k (.dat (.bool (decide (j < i)))) M2) : AE X (.Compare a [.Gt] [b] pos) ds M k :=
  ae_cmp op_gt (h.imp fun x M1 h1 => h1.imp fun y M2 ⟨i, j, e1, e2, q⟩ => by subst e1 e2; exact ar_B0 q) (nomark _)
theorem ae_ge (h : AE X a ds M fun x M1 => AE X b ds M1 fun y M2 => ∃ i j, x = .dat (.int i) ∧ y = .dat (.int j) ∧ k (.dat (.bool (decide (j ≤ i)))) M2) : AE X (.Compare a [.GtE] [b] pos) ds M k :=
  ae_cmp op_ge (h.imp fun x M1 h1 => h1.imp fun y M2 ⟨i, j, e1, e2, q⟩ => by subst e1 e2; exact ar_B0 q) (nomark _)
/-- == of data -/
theorem ae_eq (hu : X.A.units + 64 < cLine) (h : AE X a ds M fun x M1 => AE X b ds M1 fun y M2 => ∃ d e, x = .dat d ∧ y = .dat e ∧ SeqAt.shaped d = true ∧ SeqAt.shaped e = true ∧ k (.dat (.bool (PyData.eqv d e))) M2) : AE X (.Compare a [.Eq] [b] pos) ds M k :=
  ae_cmp (op_eqD hu) (h.imp fun x M1 h1 => h1.imp fun y M2 ⟨d, e, e1, e2, s1, s2, q⟩ => by
    subst e1 e2
    exact fun v w G H Q ho iv iw kk => ⟨d, e, dp_mono ho.same iv, dp_mono ho.same iw, s1, s2, kk _ _ G M2 H (Same.refl _) ho (isd (Dp.bl _)) q⟩) (nomark _)
theorem ae_ne (hu : X.A.units + 64 < cLine) (h : AE X a ds M fun x M1 => AE X b ds M1 fun y M2 => ∃ d e, x = .dat d ∧ y = .dat e ∧ SeqAt.shaped d = true ∧ SeqAt.shaped e = true ∧ k (.dat (.bool (!PyData.eqv d e))) M2) : AE X (.Compare a [.NotEq] [b] pos) ds M k :=
  ae_cmp (op_neD hu) (h.imp fun x M1 h1 => h1.imp fun y M2 ⟨d, e, e1, e2, s1, s2, q⟩ => by
    subst e1 e2
    exact fun v w G H Q ho iv iw kk => ⟨d, e, dp_mono ho.same iv, dp_mono ho.same iw, s1, s2, kk _ _ G M2 H (Same.refl _) ho (isd (Dp.bl _)) q⟩) (nomark _)
end
end A

set_option Elab.async false
set_option linter.all false
set_option maxRecDepth 100000
set_option maxHeartbeats 2000000
namespace A
open PySem PySem.Spec PyProof.Rows L2
/-! ### lists of described data -/
def allDat : List DV → Option (List PyData)
  | [] => some []
  | .dat d :: r => (allDat r).map (d :: ·)
  | _ :: _ => none
theorem IsAll.len {K : PySem.W.Frag} {G : Hp} {vs : List V} {ds : List DV} (h : IsAll K G vs ds) : vs.length = ds.length := Paired.length h
theorem IsAll.get {K : PySem.W.Frag} {G : Hp} : ∀ {vs : List V} {ds : List DV} {i : Nat} {d : DV}, IsAll K G vs ds → ds[i]? = some d → ∃ v, vs[i]? = some v ∧ Is K G v d
  | _, _, 0, _, .cons h _, e => by
    simp at e; subst e; exact ⟨_, rfl, h⟩
  | _, _, i + 1, _, .cons _ t, e => by
    obtain ⟨v, h1, h2⟩ := IsAll.get (i := i) t (by simpa using e)
    exact ⟨v, by simpa using h1, h2⟩
  | _, _, _, _, .nil, e => by simp at e
theorem IsAll.get' {K : PySem.W.Frag} {G : Hp} : ∀ {vs : List V} {ds : List DV} {i : Nat} {v : V}, IsAll K G vs ds → vs[i]? = some v → ∃ d, ds[i]? = some d ∧ Is K G v d
  | _, _, 0, _, .cons h _, e => by
    simp at e; subst e; exact ⟨_, rfl, h⟩
  | _, _, i + 1, _, .cons _ t, e => by
    obtain ⟨v, h1, h2⟩ := IsAll.get' (i := i) t (by simpa using e)
    exact ⟨v, by simpa using h1, h2⟩
  | _, _, _, _, .nil, e => by simp at e
theorem IsAll.snoc {K : PySem.W.Frag} {G : Hp} {vs : List V} {ds : List DV} {v : V} {d : DV} (h : IsAll K G vs ds) (hv : Is K G v d) : IsAll K G (vs ++ [v]) (ds ++ [d]) := Paired.snoc h hv
theorem IsAll.app {K : PySem.W.Frag} {G : Hp} : ∀ {vs ws : List V} {ds es : List DV}, IsAll K G vs ds → IsAll K G ws es → IsAll K G (vs ++ ws) (ds ++ es)
  | _, _, _, _, .nil, h => h
  | _, _, _, _, .cons h t, g => .cons h (IsAll.app t g)
theorem dpAll_len {K : PySem.W.Frag} {H : Hp} : ∀ {vs : List V} {ds : List PyData}, DpAll K H vs ds → vs.length = ds.length
  | _, _, .nil => rfl
  | _, _, .cons _ t => by simp [dpAll_len t]
theorem dpAll_get {K : PySem.W.Frag} {H : Hp} : ∀ {vs : List V} {ds : List PyData} {i : Nat} {v : V}, DpAll K H vs ds → vs[i]? = some v → ∃ d, ds[i]? = some d ∧ Dp K H v d
  | _, _, 0, _, .cons h _, e => by
    simp at e; subst e; exact ⟨_, rfl, h⟩
  | _, _, i + 1, _, .cons _ t, e => by
    obtain ⟨v, h1, h2⟩ := dpAll_get (i := i) t (by simpa using e)
    exact ⟨v, by simpa using h1, h2⟩
  | _, _, _, _, .nil, e => by simp at e
theorem dpAll_get2 {K : PySem.W.Frag} {H : Hp} : ∀ {vs : List V} {ds : List PyData} {i : Nat} {d : PyData}, DpAll K H vs ds → ds[i]? = some d → ∃ v, vs[i]? = some v ∧ Dp K H v d
  | _, _, 0, _, .cons h _, e => by
    simp at e; subst e; exact ⟨_, rfl, h⟩
  | _, _, i + 1, _, .cons _ t, e => by
    obtain ⟨v, h1, h2⟩ := dpAll_get2 (i := i) t (by simpa using e)
    exact ⟨v, by simpa using h1, h2⟩
  | _, _, _, _, .nil, e => by simp at e
theorem dpAll_app {K : PySem.W.Frag} {H : Hp} : ∀ {vs ws : List V} {ds es : List PyData}, DpAll K H vs ds → DpAll K H ws es → DpAll K H (vs ++ ws) (ds ++ es)
  | _, _, _, _, .nil, h => h
  | _, _, _, _, .cons h t, g => .cons h (dpAll_app t g)
theorem dp_tup_inv {K : PySem.W.Frag} {G : Hp} {v : V} {ds : List PyData} (h : Dp K G v (.tuple ds)) : ∃ a xs, v = .ref a ∧ SqT K G a xs ∧ DpAll K G xs ds := by
  cases h with
  | tup h hs => exact ⟨_, _, rfl, h, hs⟩
theorem dp_lst_inv {K : PySem.W.Frag} {G : Hp} {v : V} {ds : List PyData} (h : Dp K G v (.list ds)) : ∃ a xs, v = .ref a ∧ SqL K G a xs ∧ DpAll K G xs ds := by
  cases h with
  | lst h hs => exact ⟨_, _, rfl, h, hs⟩
theorem sqT_mono {K : PySem.W.Frag} {H H' : Hp} {a : Addr} {xs : List V} (e : Same H H') (h : SqT K H a xs) : SqT K H' a xs := by
  rcases h with (h | ⟨o, h⟩) | h
  · exact .inl (.inl (e _ _ h))
  · exact .inl (.inr ⟨o, e _ _ h⟩)
  · exact .inr h
theorem sz1000 {n : Nat} (h : n ≤ 1000) : n ≤ sizeLine := Nat.le_trans h (by decide)
theorem atI_map {α β : Type} {f : α → β} {xs : List α} {i : Int} {x : α} (h : atI xs i = some x) : atI (xs.map f) i = some (f x) := by
  unfold atI at h ⊢
  rw [List.length_map]
  cases e : ixN xs.length i with
  | none => rw [e] at h; cases h
  | some j =>
    rw [e] at h
    show (xs.map f)[j]? = _
    rw [List.getElem?_map]
    have h' : xs[j]? = some x := h
    rw [h']; rfl
theorem atI_dp {K : PySem.W.Frag} {H : Hp} {vs : List V} {ds : List PyData} {i : Int} {d : PyData} (h : DpAll K H vs ds) (e : atI ds i = some d) : ∃ v, atI vs i = some v ∧ Dp K H v d := by
  unfold atI at e ⊢
  rw [dpAll_len h]
  cases q : ixN ds.length i with
  | none => rw [q] at e; cases e
  | some j =>
    rw [q] at e
    exact dpAll_get2 h e
theorem atI_is {K : PySem.W.Frag} {H : Hp} {vs : List V} {ds : List DV} {i : Int} {d : DV} (h : IsAll K H vs ds) (e : atI ds i = some d) : ∃ v, atI vs i = some v ∧ Is K H v d := by
  unfold atI at e ⊢
  rw [IsAll.len h]
  cases q : ixN ds.length i with
  | none => rw [q] at e; cases e
  | some j =>
    rw [q] at e
    exact IsAll.get h e

section
variable {X : Cx} {ds : DS} {M : MS} {k k' : DV → MS → Prop} {e a b c : Expr} {es rest : List Expr} {pos : Pos}
/-! ### arguments, displays -/
theorem aa_nil {k : List DV → MS → Prop} (q : k [] M) : AA X [] ds M k := fun σ G H Q he ho kk => ofA pa_nil (kk [] [] G M H (Same.refl _) ho .nil q)
theorem aa_cons {k : List DV → MS → Prop} (h : AE X e ds M fun d M1 => AA X es ds M1 fun r M2 => k (d :: r) M2) (hs : starEach (e :: es) X.env = (false, eval e X.env) :: starEach es X.env := by rfl) : AA X (e :: es) ds M k := fun σ G H Q he ho kk =>
  ofA (pa_cons semE semA hs) (h σ G H _ he ho fun v d G1 M1 H1 s1 o1 i1 k1 => k1 σ G1 H1 _ (he.mono s1) o1 fun vs r G2 M2 H2 s2 o2 i2 k2 => kk (v :: vs) (d :: r) G2 M2 H2 (s1.trans s2) o2 (.cons (i1.mono s2) i2) k2)
theorem ae_tup {n} (h : AA X es ds M fun vs M1 => ∃ xs : List PyData, vs = xs.map DV.dat ∧ xs.length ≤ 1000 ∧ k (.dat (.tuple xs)) M1) : AE X (.Tuple es n pos) ds M k := fun σ G H Q he ho kk =>
  ofE (pe_tup semA) (h σ G H _ he ho fun vs d G1 M1 H1 s1 o1 i1 k1 => by
    obtain ⟨xs, rfl, hl, q⟩ := k1
    refine ⟨sz1000 (by rw [i1.len, List.length_map]; exact hl), fun p hp => ?_⟩
    obtain ⟨o2, s2⟩ := o1.still hp (.tup vs)
    exact kk _ _ _ M1 _ (s1.trans s2) o2 (isd (.tup (.inl (.inl upd_same)) (dpAll_mono s2 i1.dat))) q)
theorem ae_lstD (h : AA X es ds M fun vs M1 => ∃ xs : List PyData, vs = xs.map DV.dat ∧ xs.length ≤ 1000 ∧ k (.dat (.list xs)) M1) : AE X (.List es pos) ds M k := fun σ G H Q he ho kk =>
  ofE (pe_lst semA) (h σ G H _ he ho fun vs d G1 M1 H1 s1 o1 i1 k1 => by
    obtain ⟨xs, rfl, hl, q⟩ := k1
    refine ⟨sz1000 (by rw [i1.len, List.length_map]; exact hl), fun p hp => ?_⟩
    obtain ⟨o2, s2⟩ := o1.still hp (.lst vs)
    exact kk _ _ _ M1 _ (s1.trans s2) o2 (isd (.lst (.inl (.inl upd_same)) (dpAll_mono s2 i1.dat))) q)
/-- a list that may change -/
theorem ae_lst (h : AA X es ds M fun vs M1 => vs.length ≤ 1000 ∧ ∀ p, M1 p = none → k (.raw (.ref p)) (upM M1 p (.lst vs))) : AE X (.List es pos) ds M k := fun σ G H Q he ho kk =>
  ofE (pe_lst semA) (h σ G H _ he ho fun vs d G1 M1 H1 s1 o1 i1 k1 => by
    obtain ⟨hl, q⟩ := k1
    refine ⟨sz1000 (by rw [i1.len]; exact hl), fun p hp => ?_⟩
    obtain ⟨hg, hm⟩ := o1.fresh hp
    exact kk _ _ _ _ _ s1 (o1.put hg (x := .lst vs) (m := .lst d) ⟨vs, upd_same, i1⟩) (show Is X.K G1 (.ref p) (.raw (.ref p)) from rfl) (q p hm))

/-! ### subscripts -/
theorem ae_ixT (h : AE X a ds M fun x M1 => AE X b ds M1 fun y M2 => ∃ xs i d, x = .dat (.tuple xs) ∧ y = .dat (.int i) ∧ atI xs i = some d ∧ k (.dat d) M2) (hs : PlainIx b := by exact fun _ _ => rfl) : AE X (.Subscript a b pos) ds M k := fun σ G H Q he hok kk =>
  ofE (pe_ix ix_tup semE semE hs) (h σ G H _ he hok fun v x G1 M1 H1 s1 o1 i1 k1 => k1 σ G1 H1 _ (he.mono s1) o1 fun w y G2 M2 H2 s2 o2 i2 k2 => by
    obtain ⟨xs, i, d, rfl, rfl, e, q⟩ := k2
    obtain ⟨p, ys, rfl, h1, h2⟩ := dp_tup_inv (show Dp X.K G1 v (.tuple xs) from i1)
    obtain ⟨z, e2, h3⟩ := atI_dp h2 e
    exact ⟨p, ys, i, z, rfl, dp_int_inv i2, sqT_mono (s2.trans o2.same) h1, e2, kk _ _ G2 M2 H2 (s1.trans s2) o2 (isd (dp_mono s2 h3)) q⟩)
theorem ae_ixL (h : AE X a ds M fun x M1 => AE X b ds M1 fun y M2 => ∃ xs i d, x = .dat (.list xs) ∧ y = .dat (.int i) ∧ atI xs i = some d ∧ k (.dat d) M2) (hs : PlainIx b := by exact fun _ _ => rfl) : AE X (.Subscript a b pos) ds M k := fun σ G H Q he hok kk =>
  ofE (pe_ix ix_list semE semE hs) (h σ G H _ he hok fun v x G1 M1 H1 s1 o1 i1 k1 => k1 σ G1 H1 _ (he.mono s1) o1 fun w y G2 M2 H2 s2 o2 i2 k2 => by
    obtain ⟨xs, i, d, rfl, rfl, e, q⟩ := k2
    obtain ⟨p, ys, rfl, h1, h2⟩ := dp_lst_inv (show Dp X.K G1 v (.list xs) from i1)
    obtain ⟨z, e2, h3⟩ := atI_dp h2 e
    exact ⟨p, ys, i, z, rfl, dp_int_inv i2, (s2.trans o2.same).seq h1, e2, kk _ _ G2 M2 H2 (s1.trans s2) o2 (isd (dp_mono s2 h3)) q⟩)
/-- of a list that may change -/
theorem ae_ixM (h : AE X a ds M fun x M1 => AE X b ds M1 fun y M2 => ∃ p xs i d, x = .raw (.ref p) ∧ y = .dat (.int i) ∧ M2 p = some (.lst xs) ∧ atI xs i = some d ∧ k d M2) (hs : PlainIx b := by exact fun _ _ => rfl) : AE X (.Subscript a b pos) ds M k := fun σ G H Q he hok kk =>
  ofE (pe_ix ix_list semE semE hs) (h σ G H _ he hok fun v x G1 M1 H1 s1 o1 i1 k1 => k1 σ G1 H1 _ (he.mono s1) o1 fun w y G2 M2 H2 s2 o2 i2 k2 => by
    obtain ⟨p, xs, i, d, rfl, rfl, hm, e, q⟩ := k2
    obtain ⟨vs, h1, h2⟩ := (o2.chg p _ hm).2
    obtain ⟨z, e2, h3⟩ := atI_is h2 e
    exact ⟨p, vs, i, z, i1, dp_int_inv i2, SqL.of h1, e2, kk _ _ G2 M2 H2 (s1.trans s2) o2 h3 q⟩)
/-! ### dicts -/
def valD (kvs : List (Key × DV)) (x : Key) : Option DV := (kvs.find? fun kv => decide (kv.1 = x)).map (·.2)
def putD (kvs : List (Key × DV)) (x : Key) (v : DV) : List (Key × DV) :=
  if (kvs.any fun kv => decide (kv.1 = x)) = true then kvs.map (fun kv => if kv.1 = x then (kv.1, v) else kv) else kvs ++ [(x, v)]
abbrev KvIs (K : PySem.W.Frag) (G : Hp) : List (Key × V) → List (Key × DV) → Prop := Paired (fun (p : Key × V) (q : Key × DV) => p.1 = q.1 ∧ Is K G p.2 q.2)
theorem valV_is {K : PySem.W.Frag} {G : Hp} : ∀ {ws : List (Key × V)} {kvs : List (Key × DV)} {x : Key} {d : DV}, KvIs K G ws kvs → valD kvs x = some d → ∃ v, valV ws x = some v ∧ Is K G v d
  | _, _, _, _, .nil, e => by cases e
  | (y, v) :: ws, (y', d') :: kvs, x, d, .cons ⟨h1, h2⟩ t, e => by
    have h1' : y = y' := h1
    subst h1'
    by_cases q : y = x
    · have e2 : valD ((y, d') :: kvs) x = some d' := by simp [valD, q]
      rw [e2] at e; cases e
      exact ⟨v, valV_pos q, h2⟩
    · have e2 : valD ((y, d') :: kvs) x = valD kvs x := by simp [valD, q]
      rw [e2] at e
      rw [valV_neg (p := (y, v)) q]
      exact valV_is t e
theorem any_is {K : PySem.W.Frag} {G : Hp} {x : Key} : ∀ {ws : List (Key × V)} {kvs : List (Key × DV)}, KvIs K G ws kvs → (ws.any fun kv => decide (kv.1 = x)) = (kvs.any fun kv => decide (kv.1 = x))
  | _, _, .nil => rfl
  | (y, v) :: ws, (y', d') :: kvs, .cons ⟨h1, h2⟩ t => by
    have h1' : y = y' := h1
    subst h1'
    simp only [List.any_cons, any_is t]
theorem mapput_is {K : PySem.W.Frag} {G : Hp} {x : Key} {v : V} {d : DV} (hv : Is K G v d) : ∀ {ws : List (Key × V)} {kvs : List (Key × DV)}, KvIs K G ws kvs →
    KvIs K G (ws.map (fun kv => if kv.1 = x then (kv.1, v) else kv)) (kvs.map (fun kv => if kv.1 = x then (kv.1, d) else kv))
  | _, _, .nil => .nil
  | (y, v') :: ws, (y', d') :: kvs, .cons ⟨h1, h2⟩ t => by
    have h1' : y = y' := h1
    subst h1'
    refine .cons ?_ (mapput_is hv t)
    by_cases q : y = x
    · simp [q]; exact hv
    · simp [q]; exact h2
theorem putK_is {K : PySem.W.Frag} {G : Hp} {x : Key} {v : V} {d : DV} (hv : Is K G v d) {ws : List (Key × V)} {kvs : List (Key × DV)} (h : KvIs K G ws kvs) : KvIs K G (putK ws x v) (putD kvs x d) := by
  unfold putK putD
  rw [any_is h]
  split
  · exact mapput_is hv h
  · exact Paired.snoc h ⟨rfl, hv⟩
theorem ae_dget (hu : X.A.units + 1 < cLine) (h : AE X a ds M fun x M1 => AE X b ds M1 fun y M2 => ∃ p kvs z d, x = .raw (.ref p) ∧ y = .dat (.str z) ∧ M2 p = some (.dK kvs) ∧ valD kvs (.inr z) = some d ∧ k d M2) (hs : NoSl b := by exact fun _ _ => rfl) : AE X (.Subscript a b pos) ds M k := fun σ G H Q he hok kk =>
  ofE (pe_dget hu semE semE hs) (h σ G H _ he hok fun v x G1 M1 H1 s1 o1 i1 k1 => k1 σ G1 H1 _ (he.mono s1) o1 fun w y G2 M2 H2 s2 o2 i2 k2 => by
    obtain ⟨p, kvs, z, d, rfl, rfl, hm, e, q⟩ := k2
    obtain ⟨ws, h1, h2⟩ := (o2.chg p _ hm).2
    obtain ⟨u, e2, h3⟩ := valV_is h2 e
    have ew : w = .str z := dp_str_inv i2
    subst ew
    refine ⟨p, u, i1, ?_, kk _ _ G2 M2 H2 (s1.trans s2) o2 h3 q⟩
    rw [← e2]
    exact DGet.k (k := .inr z) h1)
end
end A

set_option Elab.async false
set_option linter.all false
set_option maxRecDepth 100000
set_option maxHeartbeats 2000000
namespace A
open PySem PySem.Spec PyProof.Rows L2
section
variable {X : Cx} {ds : DS} {M : MS} {k k' : DV → MS → Prop} {e a b c o : Expr} {es rest : List Expr} {pos p : Pos} {x name : Str}
/-! ### built-in functions -/
def ARC (K : PySem.W.Frag) (r : List V → Hp → VK → Prop) (xs : List DV) (M : MS) (k : DV → MS → Prop) : Prop :=
  ∀ vs G H Q, Ok K G M H → IsAll K G vs xs → (∀ u d G2 M2 H2, Same G G2 → Ok K G2 M2 H2 → Is K G2 u d → k d M2 → Q u H2) → r vs H Q
theorem ae_callB {id : String} {r : List V → Hp → VK → Prop} (hc : CallR X (.builtin id) r) (hm : X.mg x = none) (hv : bootBuiltins x = some (.builtin id)) (h : AA X (e :: es) ds M fun xs M1 => ARC X.K r xs M1 k) (hg : Gl X x := by rfl)
    (hn : x ≠ "__name__" := by decide) (hdb : (x == ("__debug__" : Str)) = false := by decide)
    (hs : starEach (e :: es) X.env = (false, eval e X.env) :: starEach es X.env := by rfl) (hpl : (backTo pos (starEach es X.env)).any (·.1) = false := by rfl) : AE X (.Call (.Name x p) (e :: es) [] pos) ds M k := fun σ G H Q he ho kk =>
  ofE (pe_callB hc hg hm hv semA hn hdb hs hpl) (h σ G H _ he ho fun vs xs G1 M1 H1 s1 o1 i1 k1 => k1 vs G1 H1 Q o1 i1 fun u d G2 M2 H2 s2 o2 i2 k2 => kk u d G2 M2 H2 (s1.trans s2) o2 i2 k2)
theorem ae_callTy {T : String} {r : List V → Hp → VK → Prop} (hc : CallR X (.type T) r) (hm : X.mg x = none) (hv : bootBuiltins x = some (.type T)) (h : AA X (e :: es) ds M fun xs M1 => ARC X.K r xs M1 k) (hg : Gl X x := by rfl)
    (hn : x ≠ "__name__" := by decide) (hdb : (x == ("__debug__" : Str)) = false := by decide)
    (hs : starEach (e :: es) X.env = (false, eval e X.env) :: starEach es X.env := by rfl) (hpl : (backTo pos (starEach es X.env)).any (·.1) = false := by rfl) : AE X (.Call (.Name x p) (e :: es) [] pos) ds M k := fun σ G H Q he ho kk =>
  ofE (pe_callTy hc hg hm hv semA hn hdb hs hpl) (h σ G H _ he ho fun vs xs G1 M1 H1 s1 o1 i1 k1 => k1 vs G1 H1 Q o1 i1 fun u d G2 M2 H2 s2 o2 i2 k2 => kk u d G2 M2 H2 (s1.trans s2) o2 i2 k2)
theorem AA.imp {k k' : List DV → MS → Prop} (h : AA X es ds M k) (g : ∀ d M', k d M' → k' d M') : AA X es ds M k' := fun σ G H Q he ho q => h σ G H Q he ho fun v d G2 M2 H2 s2 o2 i2 k2 => q v d G2 M2 H2 s2 o2 i2 (g d M2 k2)
theorem is1 {K : PySem.W.Frag} {G : Hp} {vs : List V} {d : DV} (h : IsAll K G vs [d]) : ∃ v, vs = [v] ∧ Is K G v d := by
  cases h with
  | cons h t => cases t; exact ⟨_, rfl, h⟩
theorem is2 {K : PySem.W.Frag} {G : Hp} {vs : List V} {d e : DV} (h : IsAll K G vs [d, e]) : ∃ v w, vs = [v, w] ∧ Is K G v d ∧ Is K G w e := by
  cases h with
  | cons h t => cases t with
    | cons h2 t => cases t; exact ⟨_, _, rfl, h, h2⟩
theorem ae_abs (hm : X.mg "abs" = none) (h : AA X [a] ds M fun xs M1 => ∃ i, xs = [.dat (.int i)] ∧ k (.dat (.int (if i < 0 then -i else i))) M1) (hg : Gl X "abs" := by rfl)
    (hs : starEach [a] X.env = (false, eval a X.env) :: starEach [] X.env := by rfl) (hpl : (backTo pos (starEach [] X.env)).any (·.1) = false := by rfl) : AE X (.Call (.Name "abs" p) [a] [] pos) ds M k :=
  ae_callB call_abs hm (by decide +kernel) (h.imp fun xs M1 ⟨i, e, q⟩ => by
    subst e
    intro vs G H Q ho iv kk
    obtain ⟨v, rfl, h1⟩ := is1 iv
    exact ⟨i, by rw [dp_int_inv h1], kk _ _ G M1 H (Same.refl _) ho (isd (Dp.int _)) q⟩) hg (by decide) (by decide) hs hpl
theorem ae_min2 (hcalm : X.calm = true) (hm : X.mg "min" = none) (h : AA X [a, b] ds M fun xs M1 => ∃ i j, xs = [.dat (.int i), .dat (.int j)] ∧ k (.dat (.int (if j < i then j else i))) M1) (hg : Gl X "min" := by rfl)
    (hs : starEach [a, b] X.env = (false, eval a X.env) :: starEach [b] X.env := by rfl) (hpl : (backTo pos (starEach [b] X.env)).any (·.1) = false := by rfl) : AE X (.Call (.Name "min" p) [a, b] [] pos) ds M k :=
  ae_callB (call_min2 hcalm) hm (by decide +kernel) (h.imp fun xs M1 ⟨i, j, e, q⟩ => by
    subst e
    intro vs G H Q ho iv kk
    obtain ⟨v, w, rfl, h1, h2⟩ := is2 iv
    exact ⟨i, j, by rw [dp_int_inv h1, dp_int_inv h2], kk _ _ G M1 H (Same.refl _) ho (isd (Dp.int _)) q⟩) hg (by decide) (by decide) hs hpl
theorem ae_max2 (hcalm : X.calm = true) (hm : X.mg "max" = none) (h : AA X [a, b] ds M fun xs M1 => ∃ i j, xs = [.dat (.int i), .dat (.int j)] ∧ k (.dat (.int (if j > i then j else i))) M1) (hg : Gl X "max" := by rfl)
    (hs : starEach [a, b] X.env = (false, eval a X.env) :: starEach [b] X.env := by rfl) (hpl : (backTo pos (starEach [b] X.env)).any (·.1) = false := by rfl) : AE X (.Call (.Name "max" p) [a, b] [] pos) ds M k :=
  ae_callB (call_max2 hcalm) hm (by decide +kernel) (h.imp fun xs M1 ⟨i, j, e, q⟩ => by
    subst e
    intro vs G H Q ho iv kk
    obtain ⟨v, w, rfl, h1, h2⟩ := is2 iv
    exact ⟨i, j, by rw [dp_int_inv h1, dp_int_inv h2], kk _ _ G M1 H (Same.refl _) ho (isd (Dp.int _)) q⟩) hg (by decide) (by decide) hs hpl
theorem ae_gcd (hm : X.mg x = some (.builtin "math.gcd")) (h : AA X [a, b] ds M fun xs M1 => ∃ i j : Int, xs = [.dat (.int i), .dat (.int j)] ∧ k (.dat (.int ((Nat.gcd i.natAbs j.natAbs : Nat) : Int))) M1) (hg : Gl X x := by rfl) (hdb : (x == ("__debug__" : Str)) = false := by decide)
    (hs : starEach [a, b] X.env = (false, eval a X.env) :: starEach [b] X.env := by rfl) (hpl : (backTo pos (starEach [b] X.env)).any (·.1) = false := by rfl) : AE X (.Call (.Name x p) [a, b] [] pos) ds M k := fun σ G H Q he ho kk =>
  ofE (pe_callBfun cr_gcd hg hm semA hdb hs hpl) (h σ G H _ he ho fun vs xs G1 M1 H1 s1 o1 i1 k1 => by
    obtain ⟨i, j, rfl, q⟩ := k1
    obtain ⟨v, w, rfl, h1, h2⟩ := is2 i1
    exact ⟨i, j, by rw [dp_int_inv h1, dp_int_inv h2], kk _ _ G1 M1 H1 s1 o1 (isd (Dp.int _)) q⟩)
/-- int of an int or a bool -/
theorem ae_intI (hm : X.mg "int" = none) (h : AA X [a] ds M fun xs M1 => (∃ i, xs = [.dat (.int i)] ∧ k (.dat (.int i)) M1) ∨ ∃ c, xs = [.dat (.bool c)] ∧ k (.dat (.int (if c then 1 else 0))) M1) (hg : Gl X "int" := by rfl)
    (hs : starEach [a] X.env = (false, eval a X.env) :: starEach [] X.env := by rfl) (hpl : (backTo pos (starEach [] X.env)).any (·.1) = false := by rfl) : AE X (.Call (.Name "int" p) [a] [] pos) ds M k :=
  ae_callTy call_int1 hm (by decide +kernel) (h.imp fun xs M1 q => by
    intro vs G H Q ho iv kk
    rcases q with ⟨i, rfl, q⟩ | ⟨i, rfl, q⟩
    · obtain ⟨v, rfl, h1⟩ := is1 iv
      exact .inl ⟨i, by rw [dp_int_inv h1], kk _ _ G M1 H (Same.refl _) ho (isd (Dp.int _)) q⟩
    · obtain ⟨v, rfl, h1⟩ := is1 iv
      exact .inr ⟨i, by rw [dp_bl_inv h1], kk _ _ G M1 H (Same.refl _) ho (isd (Dp.int _)) q⟩) hg (by decide) (by decide) hs hpl
theorem ae_intS (hm : X.mg "int" = none) (h : AA X [a] ds M fun xs M1 => ∃ z n, xs = [.dat (.str z)] ∧ PySem.intText? z = some n ∧ z.length ≤ 640 ∧ k (.dat (.int n)) M1) (hg : Gl X "int" := by rfl)
    (hs : starEach [a] X.env = (false, eval a X.env) :: starEach [] X.env := by rfl) (hpl : (backTo pos (starEach [] X.env)).any (·.1) = false := by rfl) : AE X (.Call (.Name "int" p) [a] [] pos) ds M k :=
  ae_callTy call_int_str hm (by decide +kernel) (h.imp fun xs M1 ⟨z, n, e, h1, h2, q⟩ => by
    subst e
    intro vs G H Q ho iv kk
    obtain ⟨v, rfl, h3⟩ := is1 iv
    exact ⟨z, n, by rw [dp_str_inv h3], h1, h2, kk _ _ G M1 H (Same.refl _) ho (isd (Dp.int _)) q⟩) hg (by decide) (by decide) hs hpl
theorem ae_strI (hm : X.mg "str" = none) (h : AA X [a] ds M fun xs M1 => ∃ i : Int, xs = [.dat (.int i)] ∧ i.natAbs.log2 < 1920 ∧ k (.dat (.str (toString i))) M1) (hg : Gl X "str" := by rfl)
    (hs : starEach [a] X.env = (false, eval a X.env) :: starEach [] X.env := by rfl) (hpl : (backTo pos (starEach [] X.env)).any (·.1) = false := by rfl) : AE X (.Call (.Name "str" p) [a] [] pos) ds M k :=
  ae_callTy call_str_int hm (by decide +kernel) (h.imp fun xs M1 ⟨i, e, h1, q⟩ => by
    subst e
    intro vs G H Q ho iv kk
    obtain ⟨v, rfl, h3⟩ := is1 iv
    exact ⟨i, by rw [dp_int_inv h3], h1, kk _ _ G M1 H (Same.refl _) ho (isd (Dp.str _)) q⟩) hg (by decide) (by decide) hs hpl
/-- len -/
inductive LenD (M : MS) : DV → Nat → Prop
  | lst (xs : List PyData) : LenD M (.dat (.list xs)) xs.length
  | tup (xs : List PyData) : LenD M (.dat (.tuple xs)) xs.length
  | str {z : Str} (h : z.length ≤ sizeLine) : LenD M (.dat (.str z)) z.length
  | chg {p : Addr} {xs : List DV} (h : M p = some (.lst xs)) : LenD M (.raw (.ref p)) xs.length
theorem ae_len (hm : X.mg "len" = none) (h : AA X [a] ds M fun xs M1 => ∃ d n, xs = [d] ∧ LenD M1 d n ∧ k (.dat (.int n)) M1) (hg : Gl X "len" := by rfl)
    (hs : starEach [a] X.env = (false, eval a X.env) :: starEach [] X.env := by rfl) (hpl : (backTo pos (starEach [] X.env)).any (·.1) = false := by rfl) : AE X (.Call (.Name "len" p) [a] [] pos) ds M k :=
  ae_callB call_len hm (by decide +kernel) (h.imp fun xs M1 ⟨d, n, e, h1, q⟩ => by
    subst e
    intro vs G H Q ho iv kk
    obtain ⟨v, rfl, h3⟩ := is1 iv
    have fin : Q (.int n) H := kk _ _ G M1 H (Same.refl _) ho (isd (Dp.int _)) q
    refine ⟨v, n, rfl, ?_, fin⟩
    cases h1 with
    | lst xs =>
      obtain ⟨p, ys, rfl, h4, h5⟩ := dp_lst_inv h3
      exact .inl ⟨ys, ho.same.seq h4, (dpAll_len h5).symm⟩
    | tup xs =>
      obtain ⟨p, ys, rfl, h4, h5⟩ := dp_tup_inv h3
      exact .inr ⟨ys, sqT_mono ho.same h4, (dpAll_len h5).symm⟩
    | str hz =>
      have e := dp_str_inv h3
      subst e
      exact ⟨hz, rfl⟩
    | chg hp =>
      have e : v = _ := h3
      subst e
      obtain ⟨vs, h4, h5⟩ := (ho.chg _ _ hp).2
      exact .inl ⟨vs, SqL.of h4, h5.len.symm⟩) hg (by decide) (by decide) hs hpl
/-- isinstance against a built-in class: what the class of a described value is -/
inductive TyD (M : MS) : DV → String → Prop
  | non : TyD M (.dat .none) "NoneType"
  | bl (c : Bool) : TyD M (.dat (.bool c)) "bool"
  | int (i : Int) : TyD M (.dat (.int i)) "int"
  | str (z : Str) : TyD M (.dat (.str z)) "str"
  | lst (xs : List PyData) : TyD M (.dat (.list xs)) "list"
  | tup (xs : List PyData) : TyD M (.dat (.tuple xs)) "tuple"
end
end A

set_option Elab.async false
set_option linter.all false
set_option maxRecDepth 100000
set_option maxHeartbeats 2000000
namespace A
open PySem PySem.Spec PyProof.Rows L2
section
variable {X : Cx} {ds : DS} {M : MS} {k k' : DV → MS → Prop} {e a b c o : Expr} {es rest : List Expr} {pos p apos cpos : Pos} {x name : Str}
theorem ae_bltn {v : V} {u : Value} (hm : X.mg x = none) (hv : bootBuiltins x = some u) (r : RelV v u) (q : k (.raw v) M) (hg : Gl X x := by rfl) (hn : x ≠ "__name__" := by decide) (hdb : (x == ("__debug__" : Str)) = false := by decide) : AE X (.Name x pos) ds M k :=
  fun σ G H Q he ho kk => ofE (pe_bltn hg hm hv r hn hdb) (kk _ _ G M H (Same.refl _) ho (show Is X.K G v (.raw v) from rfl) q)
theorem TyD.of {K : PySem.W.Frag} {G H : Hp} {M : MS} {d : DV} {T : String} {v : V} (t : TyD M d T) (ho : Ok K G M H) (i : Is K G v d) : TyX K H v (.type T) := by
  cases t with
  | non => have e := dp_non_inv i; subst e; exact .base .non
  | bl c => have e := dp_bl_inv i; subst e; exact .base (.bl c)
  | int c => have e := dp_int_inv i; subst e; exact .base (.int c)
  | str c => have e := dp_str_inv i; subst e; exact .base (.str c)
  | lst xs =>
    obtain ⟨p, ys, rfl, h4, h5⟩ := dp_lst_inv i
    rcases ho.same.seq h4 with (h | ⟨ob, h⟩) | ⟨ob, its, n, h1, h2, _⟩
    · exact .base (.lst h)
    · exact .base (.frz h)
    · exact .kList h1 h2
  | tup xs =>
    obtain ⟨p, ys, rfl, h4, h5⟩ := dp_tup_inv i
    rcases sqT_mono ho.same h4 with (h | ⟨ob, h⟩) | ⟨ob, its, n, h1, h2, _⟩
    · exact .base (.tup h)
    · exact .fTuple h
    · exact .kTuple h1 h2
/-- isinstance(x, T), T a built-in class -/
theorem ae_isinst (hm : X.mg "isinstance" = none) (h : AA X [a, b] ds M fun xs M1 => ∃ d t c r, xs = [d, .raw (.ty c)] ∧ TyD M1 d t ∧ kitB t c = some r ∧ k (.dat (.bool r)) M1) (hg : Gl X "isinstance" := by rfl)
    (hs : starEach [a, b] X.env = (false, eval a X.env) :: starEach [b] X.env := by rfl) (hpl : (backTo pos (starEach [b] X.env)).any (·.1) = false := by rfl) : AE X (.Call (.Name "isinstance" p) [a, b] [] pos) ds M k :=
  ae_callB call_isi hm (by decide +kernel) (h.imp fun xs M1 ⟨d, t, c, r, e, h1, h2, q⟩ => by
    subst e
    intro vs G H Q ho iv kk
    obtain ⟨v, w, rfl, h3, h4⟩ := is2 iv
    have e : w = .ty c := h4
    subst e
    exact ⟨v, .ty c, .type t, .type c, r, rfl, .ty c, h1.of ho h3, kit_ty h2, kk _ _ G M1 H (Same.refl _) ho (isd (Dp.bl _)) q⟩) hg (by decide) (by decide) hs hpl

/-! ### and, or, not, a conditional, as values -/
theorem ae_one {op} (h : AE X a ds M k) : AE X (.BoolOp op [a] pos) ds M k := fun σ G H Q he ho kk => ofE (pe_one semE) (h σ G H Q he ho kk)
theorem ae_and (h : AE X a ds M fun d M1 => ∃ c, d = .dat (.bool c) ∧ (c = true → AE X (.BoolOp .And (b :: rest) pos) ds M1 k) ∧ (c = false → k (.dat (.bool false)) M1)) : AE X (.BoolOp .And (a :: b :: rest) pos) ds M k := fun σ G H Q he ho kk =>
  ofE (pe_and semE semE) (h σ G H _ he ho fun v d G1 M1 H1 s1 o1 i1 k1 => by
    obtain ⟨c, rfl, q1, q2⟩ := k1
    refine ⟨c, dp_bl_inv i1, ?_⟩
    cases c with
    | true => exact iteT (q1 rfl σ G1 H1 _ (he.mono s1) o1 fun u d G2 M2 H2 s2 o2 i2 k2 => kk u d G2 M2 H2 (s1.trans s2) o2 i2 k2)
    | false => exact iteF (kk _ _ G1 M1 H1 s1 o1 (isd (Dp.bl _)) (q2 rfl)))
theorem ae_or (h : AE X a ds M fun d M1 => ∃ c, d = .dat (.bool c) ∧ (c = true → k (.dat (.bool true)) M1) ∧ (c = false → AE X (.BoolOp .Or (b :: rest) pos) ds M1 k)) : AE X (.BoolOp .Or (a :: b :: rest) pos) ds M k := fun σ G H Q he ho kk =>
  ofE (pe_or semE semE) (h σ G H _ he ho fun v d G1 M1 H1 s1 o1 i1 k1 => by
    obtain ⟨c, rfl, q1, q2⟩ := k1
    refine ⟨c, dp_bl_inv i1, ?_⟩
    cases c with
    | true => exact iteT (kk _ _ G1 M1 H1 s1 o1 (isd (Dp.bl _)) (q1 rfl))
    | false => exact iteF (q2 rfl σ G1 H1 _ (he.mono s1) o1 fun u d G2 M2 H2 s2 o2 i2 k2 => kk u d G2 M2 H2 (s1.trans s2) o2 i2 k2))
theorem ae_not (h : AE X a ds M fun d M1 => ∃ c, d = .dat (.bool c) ∧ k (.dat (.bool (!c))) M1) : AE X (.UnaryOp .Not a pos) ds M k := fun σ G H Q he ho kk =>
  ofE (pe_not semE) (h σ G H _ he ho fun v d G1 M1 H1 s1 o1 i1 k1 => by
    obtain ⟨c, rfl, q1⟩ := k1
    exact ⟨c, dp_bl_inv i1, kk _ _ G1 M1 H1 s1 o1 (isd (Dp.bl _)) q1⟩)
theorem ae_neg (h : AE X a ds M fun d M1 => ∃ i, d = .dat (.int i) ∧ k (.dat (.int (-i))) M1) : AE X (.UnaryOp .USub a pos) ds M k := fun σ G H Q he ho kk =>
  ofE (pe_un un_neg semE) (h σ G H _ he ho fun v d G1 M1 H1 s1 o1 i1 k1 => by
    obtain ⟨c, rfl, q1⟩ := k1
    exact ⟨c, dp_int_inv i1, kk _ _ G1 M1 H1 s1 o1 (isd (Dp.int _)) q1⟩)
theorem ae_if (h : AT X c ds M fun r M1 => (r = true → AE X a ds M1 k) ∧ (r = false → AE X b ds M1 k)) : AE X (.IfExp c a b pos) ds M k := fun σ G H Q he ho kk =>
  ofE (pe_ifExp semT semE semE) (h σ G H _ he ho fun r G1 M1 H1 s1 o1 k1 => by
    cases r with
    | true => exact iteT (k1.1 rfl σ G1 H1 _ (he.mono s1) o1 fun u d G2 M2 H2 s2 o2 i2 k2 => kk u d G2 M2 H2 (s1.trans s2) o2 i2 k2)
    | false => exact iteF (k1.2 rfl σ G1 H1 _ (he.mono s1) o1 fun u d G2 M2 H2 s2 o2 i2 k2 => kk u d G2 M2 H2 (s1.trans s2) o2 i2 k2))
/-- a <= b <= c -/
def isNo : PyData → Bool
  | .none => true
  | _ => false
theorem ae_isN (h : AE X a ds M fun d M1 => ∃ y, d = .dat y ∧ k (.dat (.bool (isNo y))) M1) {j pos'} : AE X (.Compare a [.Is] [.Constant .none j pos'] pos) ds M k := fun σ G H Q he ho kk =>
  ofE (pe_cmp (pc_isN semE) rfl) (h σ G H _ he ho fun v d G1 M1 H1 s1 o1 i1 k1 => by
    obtain ⟨y, rfl, q1⟩ := k1
    refine kk (.bl (decide (v = .non))) (.dat (.bool (isNo y))) G1 M1 H1 s1 o1 ?_ q1
    have i1' : Dp X.K G1 v y := i1
    cases i1' with
    | non => exact isd (.bl _)
    | _ => exact isd (.bl _))
theorem ae_notN (h : AE X a ds M fun d M1 => ∃ y, d = .dat y ∧ k (.dat (.bool (!isNo y))) M1) {j pos'} : AE X (.Compare a [.IsNot] [.Constant .none j pos'] pos) ds M k := fun σ G H Q he ho kk =>
  ofE (pe_cmp (pc_notN semE) rfl) (h σ G H _ he ho fun v d G1 M1 H1 s1 o1 i1 k1 => by
    obtain ⟨y, rfl, q1⟩ := k1
    refine kk (.bl (!decide (v = .non))) (.dat (.bool (!isNo y))) G1 M1 H1 s1 o1 ?_ q1
    have i1' : Dp X.K G1 v y := i1
    cases i1' with
    | non => exact isd (.bl _)
    | _ => exact isd (.bl _))
theorem ae_chain {op op' : CmpOp} {g g' : Int → Int → Bool} (ho : OpR X (compareOp op) (rI0 fun i j => .bl (g i j))) (ho' : OpR X (compareOp op') (rI0 fun i j => .bl (g' i j)))
    (h : AE X a ds M fun x M1 => AE X b ds M1 fun y M2 => ∃ i j, x = .dat (.int i) ∧ y = .dat (.int j) ∧ (g i j = true → AE X c ds M2 fun z M3 => ∃ l, z = .dat (.int l) ∧ k (.dat (.bool (g' j l))) M3) ∧ (g i j = false → k (.dat (.bool false)) M2))
    (hm : lastMarks [op, op'] [b, c] = false := by with_unfolding_all rfl) : AE X (.Compare a [op, op'] [b, c] pos) ds M k := fun σ G H Q he hok kk =>
  ofE (pe_chain ho ho' semE semE semE hm) (h σ G H _ he hok fun v x G1 M1 H1 s1 o1 i1 k1 => k1 σ G1 H1 _ (he.mono s1) o1 fun w y G2 M2 H2 s2 o2 i2 k2 => by
    obtain ⟨i, j, rfl, rfl, q1, q2⟩ := k2
    refine ⟨i, j, dp_int_inv (dp_mono s2 i1), dp_int_inv i2, g i j, rfl, ?_⟩
    cases hg : g i j with
    | true =>
      refine iteT (q1 hg σ G2 H2 _ (he.mono (s1.trans s2)) o2 fun u d G3 M3 H3 s3 o3 i3 k3 => ?_)
      obtain ⟨l, rfl, q⟩ := k3
      exact ⟨j, l, dp_int_inv (dp_mono s3 i2), dp_int_inv i3, kk _ _ G3 M3 H3 (s1.trans (s2.trans s3)) o3 (isd (Dp.bl _)) q⟩
    | false => exact iteF (kk _ _ G2 M2 H2 (s1.trans s2) o2 (isd (Dp.bl _)) (q2 hg)))

/-! ### tests -/
section
variable {kt : Bool → MS → Prop}
theorem AT.imp {kt kt' : Bool → MS → Prop} (h : AT X a ds M kt) (g : ∀ d M', kt d M' → kt' d M') : AT X a ds M kt' := fun σ G H Q he ho q => h σ G H Q he ho fun v G2 M2 H2 s2 o2 k2 => q v G2 M2 H2 s2 o2 (g v M2 k2)
theorem at_val (h : AE X a ds M fun d M1 => ∃ c, d = .dat (.bool c) ∧ kt c M1) (hp : ∀ whole, isTrue a X.env whole = (do let v ← whole; standAt a.pos; holding [v] (truthy v)) := by intro _; rfl) : AT X a ds M kt := fun σ G H Q he ho kk =>
  ofT (pt_val semE hp) (h σ G H _ he ho fun v d G1 M1 H1 s1 o1 i1 k1 => by
    obtain ⟨c, rfl, q1⟩ := k1
    exact ⟨c, dp_bl_inv i1, kk c G1 M1 H1 s1 o1 q1⟩)
theorem at_not (h : AT X a ds M fun c M1 => kt (!c) M1) : AT X (.UnaryOp .Not a pos) ds M kt := fun σ G H Q he ho kk =>
  ofT (pt_not semT) (h σ G H _ he ho fun c G1 M1 H1 s1 o1 k1 => kk (!c) G1 M1 H1 s1 o1 k1)
structure SemW (X : Cx) (e : Expr) (σ : L2.St) (H : Hp) (Q : Bool → Hp → Prop) : Prop where
  run : ∀ whole pins s, Inv X pins σ H s → wpAny (model X.prog X.w) X.A (isTrue e X.env whole) (TP X pins σ Q) X.xe s
theorem semW : PW X e (SemW X e) := ⟨fun whole pins s σ H Q I h => h.run whole pins s I⟩
theorem ofW {t : TT} {σ : L2.St} {H : Hp} {Q : Bool → Hp → Prop} (h : PW X e t) (q : t σ H Q) : SemW X e σ H Q := ⟨fun whole pins s I => h.run whole pins s σ H Q I q⟩
/-- a chain of and, or as a test -/
def AW (X : Cx) (e : Expr) (ds : DS) (M : MS) (k : Bool → MS → Prop) : Prop :=
  ∀ σ G H Q, EnvOk X.K G σ ds → Ok X.K G M H → (∀ b G2 M2 H2, Same G G2 → Ok X.K G2 M2 H2 → k b M2 → Q b H2) → SemW X e σ H Q
theorem at_w (h : AW X a ds M kt) : AT X a ds M kt := fun σ G H Q he ho kk => ofT semW.pt (h σ G H Q he ho kk)
theorem aw_and1 (h : AT X a ds M kt) : AW X (.BoolOp .And [a] pos) ds M kt := fun σ G H Q he ho kk => ofW (pw_and1 semT) (h σ G H Q he ho kk)
theorem aw_or1 (h : AT X a ds M kt) : AW X (.BoolOp .Or [a] pos) ds M kt := fun σ G H Q he ho kk => ofW (pw_or1 semT) (h σ G H Q he ho kk)
theorem aw_and (h : AT X a ds M fun c M1 => (c = true → AW X (.BoolOp .And (b :: rest) pos) ds M1 kt) ∧ (c = false → kt false M1)) : AW X (.BoolOp .And (a :: b :: rest) pos) ds M kt := fun σ G H Q he ho kk =>
  ofW (pw_and semT semW) (h σ G H _ he ho fun c G1 M1 H1 s1 o1 k1 => by
    cases c with
    | true => exact iteT (k1.1 rfl σ G1 H1 _ (he.mono s1) o1 fun u G2 M2 H2 s2 o2 k2 => kk u G2 M2 H2 (s1.trans s2) o2 k2)
    | false => exact iteF (kk _ G1 M1 H1 s1 o1 (k1.2 rfl)))
theorem aw_or (h : AT X a ds M fun c M1 => (c = true → kt true M1) ∧ (c = false → AW X (.BoolOp .Or (b :: rest) pos) ds M1 kt)) : AW X (.BoolOp .Or (a :: b :: rest) pos) ds M kt := fun σ G H Q he ho kk =>
  ofW (pw_or semT semW) (h σ G H _ he ho fun c G1 M1 H1 s1 o1 k1 => by
    cases c with
    | true => exact iteT (kk _ G1 M1 H1 s1 o1 (k1.1 rfl))
    | false => exact iteF (k1.2 rfl σ G1 H1 _ (he.mono s1) o1 fun u G2 M2 H2 s2 o2 k2 => kk u G2 M2 H2 (s1.trans s2) o2 k2))
theorem at_chain {op op' : CmpOp} {g g' : Int → Int → Bool} (ho : OpR X (compareOp op) (rI0 fun i j => .bl (g i j))) (ho' : OpR X (compareOp op') (rI0 fun i j => .bl (g' i j)))
    (h : AE X a ds M fun x M1 => AE X b ds M1 fun y M2 => ∃ i j, x = .dat (.int i) ∧ y = .dat (.int j) ∧ (g i j = true → AE X c ds M2 fun z M3 => ∃ l, z = .dat (.int l) ∧ kt (g' j l) M3) ∧ (g i j = false → kt false M2))
    (hm : lastMarks [op, op'] [b, c] = false := by with_unfolding_all rfl) : AT X (.Compare a [op, op'] [b, c] pos) ds M kt := fun σ G H Q he hok kk =>
  ofT (pt_chain ho ho' semE semE semE hm) (h σ G H _ he hok fun v x G1 M1 H1 s1 o1 i1 k1 => k1 σ G1 H1 _ (he.mono s1) o1 fun w y G2 M2 H2 s2 o2 i2 k2 => by
    obtain ⟨i, j, rfl, rfl, q1, q2⟩ := k2
    refine ⟨i, j, dp_int_inv (dp_mono s2 i1), dp_int_inv i2, g i j, rfl, ?_⟩
    cases hg : g i j with
    | true =>
      refine iteT (q1 hg σ G2 H2 _ (he.mono (s1.trans s2)) o2 fun u d G3 M3 H3 s3 o3 i3 k3 => ?_)
      obtain ⟨l, rfl, q⟩ := k3
      exact ⟨j, l, dp_int_inv (dp_mono s3 i2), dp_int_inv i3, _, rfl, kk _ G3 M3 H3 (s1.trans (s2.trans s3)) o3 q⟩
    | false => exact iteF ⟨_, rfl, kk _ G2 M2 H2 (s1.trans s2) o2 (q2 hg)⟩)
/-- a list, a text, an int as a test -/
inductive TrD (M : MS) : DV → Bool → Prop
  | str {z : Str} (h : z.length ≤ sizeLine) : TrD M (.dat (.str z)) (z.length != 0)
  | int (i : Int) : TrD M (.dat (.int i)) (i != 0)
  | bl (c : Bool) : TrD M (.dat (.bool c)) c
  | chg {p : Addr} {xs : List DV} (h : M p = some (.lst xs)) : TrD M (.raw (.ref p)) (!xs.isEmpty)
  | lst (xs : List PyData) : TrD M (.dat (.list xs)) (!xs.isEmpty)
  | tup (xs : List PyData) : TrD M (.dat (.tuple xs)) (!xs.isEmpty)
theorem empty_len {α β : Type} {xs : List α} {ys : List β} (h : xs.length = ys.length) : xs.isEmpty = ys.isEmpty := by
  cases xs <;> cases ys <;> simp_all
theorem TrD.of {K : PySem.W.Frag} {G H : Hp} {M : MS} {d : DV} {t : Bool} {v : V} (td : TrD M d t) (ho : Ok K G M H) (i : Is K G v d) : TruV K v H t := by
  cases td with
  | str hz =>
    have e := dp_str_inv i; subst e
    refine ⟨hz, ?_⟩
    rename_i z
    cases hq : z.length with
    | zero => rfl
    | succ n =>
      have h1 : ((n + 1 : Nat) != 0) = true := rfl
      have h2 : (((n + 1 : Nat) : Int) != 0) = true := by
        rw [bne_iff_ne]; omega
      rw [h1, h2]
  | int j => have e := dp_int_inv i; subst e; rfl
  | bl c => have e := dp_bl_inv i; subst e; rfl
  | chg h =>
    have e : v = _ := i
    subst e
    obtain ⟨vs, h4, h5⟩ := (ho.chg _ _ h).2
    exact .inl ⟨vs, SqL.of h4, by rw [empty_len h5.len]⟩
  | lst xs =>
    obtain ⟨p, ys, rfl, h4, h5⟩ := dp_lst_inv i
    exact .inl ⟨ys, ho.same.seq h4, by rw [empty_len (dpAll_len h5)]⟩
  | tup xs =>
    obtain ⟨p, ys, rfl, h4, h5⟩ := dp_tup_inv i
    exact .inr (.inl ⟨ys, sqT_mono ho.same h4, by rw [empty_len (dpAll_len h5)]⟩)
theorem at_tru (h : AE X a ds M fun d M1 => ∃ t, TrD M1 d t ∧ kt t M1) (hp : ∀ whole, isTrue a X.env whole = (do let v ← whole; standAt a.pos; holding [v] (truthy v)) := by intro _; rfl) : AT X a ds M kt := fun σ G H Q he ho kk =>
  ofT (pt_truth semE hp) (h σ G H _ he ho fun v d G1 M1 H1 s1 o1 i1 k1 => by
    obtain ⟨c, t, q1⟩ := k1
    exact ⟨c, t.of o1 i1, kk c G1 M1 H1 s1 o1 q1⟩)
end

/-! ### methods of built-in types -/
def ARM (K : PySem.W.Frag) (r : V → List V → Hp → VK → Prop) (x : DV) (xs : List DV) (M : MS) (k : DV → MS → Prop) : Prop :=
  ∀ v vs G H Q, Ok K G M H → Is K G v x → IsAll K G vs xs → (∀ u d G2 M2 H2, Same G G2 → Ok K G2 M2 H2 → Is K G2 u d → k d M2 → Q u H2) → r v vs H Q
inductive RcD (M : MS) : DV → String → Prop
  | str (z : Str) : RcD M (.dat (.str z)) "str"
  | chg {p : Addr} {xs : List DV} (h : M p = some (.lst xs)) : RcD M (.raw (.ref p)) "list"
  | lst (xs : List PyData) : RcD M (.dat (.list xs)) "list"
theorem RcD.of {K : PySem.W.Frag} {G H : Hp} {M : MS} {d : DV} {T : String} {v : V} (t : RcD M d T) (ho : Ok K G M H) (i : Is K G v d) : tyV K T v H := by
  cases t with
  | str z => have e := dp_str_inv i; subst e; rfl
  | chg h =>
    have e : v = _ := i
    subst e
    obtain ⟨vs, h4, h5⟩ := (ho.chg _ _ h).2
    exact .inl ⟨rfl, _, SqL.of h4⟩
  | lst xs =>
    obtain ⟨p, ys, rfl, h4, h5⟩ := dp_lst_inv i
    exact .inl ⟨rfl, _, ho.same.seq h4⟩
theorem ae_bm0 {T id : String} {r : V → List V → Hp → VK → Prop} (pa : PlainAttrs T) (slot : Slot T name id) (hty : typeOf (.builtin id) = pure (.type "method_descriptor")) (hm : MtR X id r)
    (h : AE X o ds M fun x M1 => RcD M1 x T ∧ ARM X.K r x [] M1 k)
    (hbase : attributeBase o name X.env (eval o X.env) = eval o X.env := by rfl) (hline : (apos.endLine == cpos.line) = true := by rfl) : AE X (.Call (.Attribute o name apos) [] [] cpos) ds M k := fun σ G H Q he ho kk =>
  ofE (pe_bm0 pa slot hty hm semE hbase hline) (h σ G H _ he ho fun v x G1 M1 H1 s1 o1 i1 k1 => ⟨k1.1.of o1 i1, k1.2 v [] G1 H1 Q o1 i1 .nil fun u d G2 M2 H2 s2 o2 i2 k2 => kk u d G2 M2 H2 (s1.trans s2) o2 i2 k2⟩)
theorem ae_bm {T id : String} {r : V → List V → Hp → VK → Prop} (pa : PlainAttrs T) (slot : Slot T name id) (hty : typeOf (.builtin id) = pure (.type "method_descriptor")) (hm : MtR X id r)
    (h : AE X o ds M fun x M1 => RcD M1 x T ∧ AA X (e :: es) ds M1 fun xs M2 => ARM X.K r x xs M2 k)
    (hbase : attributeBase o name X.env (eval o X.env) = eval o X.env := by rfl)
    (hfew : ((backTo cpos (starEach (e :: es) X.env)).all (fun x => !x.1) && (backToKw cpos (keywordEach [] X.env)).all (fun x => x.1.isSome)
      && decide ((e :: es).length + ([] : List Keyword).length + (if ([] : List Keyword).isEmpty then 0 else 1) < 30)) = true := by rfl)
    (hline : (apos.endLine == cpos.line) = true := by rfl) (hs : starEach (e :: es) X.env = (false, eval e X.env) :: starEach es X.env := by rfl) (hplain : (backTo cpos (starEach es X.env)).any (·.1) = false := by rfl) :
    AE X (.Call (.Attribute o name apos) (e :: es) [] cpos) ds M k := fun σ G H Q he ho kk =>
  ofE (pe_bm pa slot hty hm semE semA hbase hfew hline hs hplain) (h σ G H _ he ho fun v x G1 M1 H1 s1 o1 i1 k1 => ⟨k1.1.of o1 i1, k1.2 σ G1 H1 _ (he.mono s1) o1 fun vs xs G2 M2 H2 s2 o2 i2 k2 =>
    k2 v vs G2 H2 Q o2 (i1.mono s2) i2 fun u d G3 M3 H3 s3 o3 i3 k3 => kk u d G3 M3 H3 (s1.trans (s2.trans s3)) o3 i3 k3⟩)
theorem sz_lt1000 {n : Nat} (h : n < 100000) : n < sizeLine := Nat.lt_of_lt_of_le h (by decide)
theorem arm_append {q : Addr} {ys : List DV} {y : DV} (hM : M q = some (.lst ys)) (hl : ys.length < 100000) (hk : k (.dat .none) (upM M q (.lst (ys ++ [y])))) : ARM X.K rAppend (.raw (.ref q)) [y] M k := by
  intro v vs G H Q ho iv ivs kk
  obtain ⟨w, rfl, h1⟩ := is1 ivs
  obtain ⟨hg, zs, h2, h3⟩ := ho.chg _ _ hM
  have e : v = .ref q := iv
  subst e
  exact ⟨q, zs, w, rfl, rfl, h2, sz_lt1000 (by rw [h3.len]; exact hl), kk _ _ G _ _ (Same.refl _) (ho.put hg (x := .lst (zs ++ [w])) (m := .lst (ys ++ [y])) ⟨_, upd_same, h3.snoc h1⟩) (isd .non) hk⟩
theorem arm_extend {q r : Addr} {ys zs : List DV} (hM : M q = some (.lst ys)) (hN : M r = some (.lst zs)) (hl : ys.length + zs.length ≤ 100000) (hk : k (.dat .none) (upM M q (.lst (ys ++ zs)))) : ARM X.K rExtend (.raw (.ref q)) [.raw (.ref r)] M k := by
  intro v vs G H Q ho iv ivs kk
  obtain ⟨w, rfl, h1⟩ := is1 ivs
  obtain ⟨hg, us, h2, h3⟩ := ho.chg _ _ hM
  obtain ⟨_, ws, h4, h5⟩ := ho.chg _ _ hN
  have e : v = .ref q := iv
  subst e
  have e : w = .ref r := h1
  subst e
  exact ⟨q, r, us, ws, rfl, rfl, h2, h4, Nat.le_trans (by rw [h3.len, h5.len]; exact hl) (by decide), kk _ _ G _ _ (Same.refl _) (ho.put hg (x := .lst (us ++ ws)) (m := .lst (ys ++ zs)) ⟨_, upd_same, h3.app h5⟩) (isd .non) hk⟩
theorem IsAll.erase {K : PySem.W.Frag} {G : Hp} : ∀ {vs : List V} {ds : List DV} (i : Nat), IsAll K G vs ds → IsAll K G (vs.eraseIdx i) (ds.eraseIdx i)
  | _, _, _, .nil => .nil
  | _, _, 0, .cons _ t => t
  | _, _, i + 1, .cons h t => .cons h (IsAll.erase i t)
theorem arm_popAt {q : Addr} {ys : List DV} {j : Nat} {y : DV} (hM : M q = some (.lst ys)) (hl : ys.length ≤ 100000) (hy : ys[j]? = some y) (hk : k y (upM M q (.lst (ys.eraseIdx j)))) : ARM X.K rPopAt (.raw (.ref q)) [.dat (.int (j : Int))] M k := by
  intro v vs G H Q ho iv ivs kk
  obtain ⟨w, rfl, h1⟩ := is1 ivs
  obtain ⟨hg, zs, h2, h3⟩ := ho.chg _ _ hM
  have e : v = .ref q := iv
  subst e
  obtain ⟨u, h4, h5⟩ := h3.get hy
  have hj : j < ys.length := (List.getElem?_eq_some_iff.mp hy).1
  have hz : zs.length = ys.length := h3.len
  refine ⟨q, zs, j, j, u, rfl, by rw [dp_int_inv h1], h2, by omega, by omega, ?_, h4, kk _ _ G _ _ (Same.refl _) (ho.put hg (x := .lst (zs.eraseIdx j)) (m := .lst (ys.eraseIdx j)) ⟨_, upd_same, h3.erase j⟩) h5 hk⟩
  have := seqIndex_of (n := zs.length) (k := (j : Int)) (by omega) (by omega)
  rw [this]; simp
end
end A


set_option Elab.async false
set_option linter.all false
set_option maxRecDepth 100000
set_option maxHeartbeats 2000000
namespace A
open PySem PySem.Spec PyProof.Rows L2
section
variable {X : Cx} {ds : DS} {M : MS} {e a b c o : Expr} {es rest : List Expr} {pos p apos cpos : Pos} {x name : Str} {Z : AEnds} {st : Stmt} {sts body els : List Stmt}
/-! ### statements -/
theorem AS.imp {Z' : AEnds} (h : AS X st ds M Z) (nx : ∀ d m, Z.nx d m → Z'.nx d m) (rt : ∀ d m, Z.rt d m → Z'.rt d m) (bk : ∀ d m, Z.bk d m → Z'.bk d m) (ct : ∀ d m, Z.ct d m → Z'.ct d m) : AS X st ds M Z' := fun σ G H D he ho q =>
  h σ G H D he ho ⟨fun σ ds G' M H s e o n => q.nx σ ds G' M H s e o (nx _ _ n), fun v d G' M H s o i n => q.rt v d G' M H s o i (rt _ _ n), fun σ ds G' M H s e o n => q.bk σ ds G' M H s e o (bk _ _ n), fun σ ds G' M H s e o n => q.ct σ ds G' M H s e o (ct _ _ n)⟩
theorem as_nil (h : Z.nx ds M) : ASs X [] ds M Z := fun σ G H D he ho q => ofSs pss_nil (q.nx σ ds G M H (Same.refl _) he ho h)
theorem as_cons (h : AS X st ds M { Z with nx := fun ds' M' => ASs X sts ds' M' Z }) : ASs X (st :: sts) ds M Z := fun σ G H D he ho q =>
  ofSs (pss_cons semS semSs) (h σ G H _ he ho ⟨fun σ' ds' G' M' H' s e o n => n σ' G' H' D e o (q.mono s), q.rt, q.bk, q.ct⟩)
theorem ASs.forget {N : MS} (hN : Le N M) (h : ASs X sts ds N Z) : ASs X sts ds M Z := fun σ G H D he ho q => h σ G H D he (ho.less hN) q
theorem ASs.forgetD {es : DS} (hd : Paired (fun d e => e = Option.none ∨ e = d) ds es) (h : ASs X sts es M Z) : ASs X sts ds M Z := fun σ G H D he ho q => h σ G H D (he.less hd) ho q
theorem as_expr (h : AE X e ds M fun _ M1 => Z.nx ds M1) (hs : swapsWith e none pos.line X.env = pure false := by rfl) : AS X (.Expr e pos) ds M Z := fun σ G H D he ho q =>
  ofS (ps_expr semE hs) (h σ G H _ he ho fun v d G1 M1 H1 s1 o1 i1 k1 => q.nx σ ds G1 M1 H1 s1 (he.mono s1) o1 k1)
theorem as_ret (h : AE X e ds M fun d M1 => Z.rt d M1) : AS X (.Return (some e) pos) ds M Z := fun σ G H D he ho q =>
  ofS (ps_ret semE) (h σ G H _ he ho fun v d G1 M1 H1 s1 o1 i1 k1 => q.rt v d G1 M1 H1 s1 o1 i1 k1)
theorem as_retN (h : Z.rt (.dat .none) M) : AS X (.Return none pos) ds M Z := fun σ G H D he ho q => ofS ps_retN (q.rt .non _ G M H (Same.refl _) ho (isd .non) h)
theorem as_pass (h : Z.nx ds M) : AS X (.Pass pos) ds M Z := fun σ G H D he ho q => ofS ps_pass (q.nx σ ds G M H (Same.refl _) he ho h)
theorem as_break (h : Z.bk ds M) : AS X (.Break pos) ds M Z := fun σ G H D he ho q => ofS ps_break (q.bk σ ds G M H (Same.refl _) he ho h)
theorem as_continue (h : Z.ct ds M) : AS X (.Continue pos) ds M Z := fun σ G H D he ho q => ofS ps_continue (q.ct σ ds G M H (Same.refl _) he ho h)
theorem as_if (h : AT X c ds M fun r M1 => (r = true → ASs X body ds M1 Z) ∧ (r = false → ASs X els ds M1 Z)) : AS X (.If c body els pos) ds M Z := fun σ G H D he ho q =>
  ofS (ps_if semT semSs semSs) (h σ G H _ he ho fun r G1 M1 H1 s1 o1 k1 => by
    cases r with
    | true => exact iteT (k1.1 rfl σ G1 H1 D (he.mono s1) o1 (q.mono s1))
    | false => exact iteF (k1.2 rfl σ G1 H1 D (he.mono s1) o1 (q.mono s1)))
theorem as_never (h : False) : AS X st ds M Z := h.elim
theorem ass_never (h : False) : ASs X sts ds M Z := h.elim

/-! ### targets -/
structure SemG (X : Cx) (tg : Expr) (v : V) (σ : L2.St) (H : Hp) (Q : L2.St → Hp → Prop) : Prop where
  run : ∀ pins s u, Inv X pins σ H s → RelV v u → wpAny (model X.prog X.w) X.A (assign tg X.env u) (fun _ s' => ∃ σ' H', Inv X pins σ' H' s' ∧ Q σ' H') X.xe s
structure SemGs (X : Cx) (ts : List Expr) (vs : List V) (σ : L2.St) (H : Hp) (Q : L2.St → Hp → Prop) : Prop where
  run : ∀ pins s us, Inv X pins σ H s → Vals vs us → wpAny (model X.prog X.w) X.A (assignInOrder ((assignEach ts X.env).map (·.2)) us) (fun _ s' => ∃ σ' H', Inv X pins σ' H' s' ∧ Q σ' H') X.xe s
theorem semG : PG X e (SemG X e) := ⟨fun pins s σ H v u Q I r h => h.run pins s u I r⟩
theorem semGs : PGs X es (SemGs X es) := ⟨fun pins s σ H v u Q I r h => h.run pins s u I r⟩
theorem ofG {t : TG} {v : V} {σ : L2.St} {H : Hp} {Q : L2.St → Hp → Prop} (h : PG X e t) (q : t v σ H Q) : SemG X e v σ H Q := ⟨fun pins s u I r => h.run pins s σ H v u Q I r q⟩
theorem ofGs {t : TGs} {v : List V} {σ : L2.St} {H : Hp} {Q : L2.St → Hp → Prop} (h : PGs X es t) (q : t v σ H Q) : SemGs X es v σ H Q := ⟨fun pins s u I r => h.run pins s σ H v u Q I r q⟩
def AG (X : Cx) (tg : Expr) (d : DV) (ds : DS) (M : MS) (k : DS → MS → Prop) : Prop :=
  ∀ v σ G H Q, EnvOk X.K G σ ds → Ok X.K G M H → Is X.K G v d → (∀ σ' ds' G' M' H', Same G G' → EnvOk X.K G' σ' ds' → Ok X.K G' M' H' → k ds' M' → Q σ' H') → SemG X tg v σ H Q
def AGs (X : Cx) (ts : List Expr) (d : List DV) (ds : DS) (M : MS) (k : DS → MS → Prop) : Prop :=
  ∀ v σ G H Q, EnvOk X.K G σ ds → Ok X.K G M H → IsAll X.K G v d → (∀ σ' ds' G' M' H', Same G G' → EnvOk X.K G' σ' ds' → Ok X.K G' M' H' → k ds' M' → Q σ' H') → SemGs X ts v σ H Q
theorem ag_name (i : Nat) {d : DV} {k : DS → MS → Prop} (h : k (ds.set i (some d)) M) (hN : X.N.Nodup) (hi : X.N[i]? = some x := by rfl) (hx : Loc X.env.scope x := by first | exact Or.inl rfl | exact Or.inr rfl)
    (hf : X.fn x = true ∨ X.env.scope.names.lookup x = some .local := by first | exact .inl rfl | exact .inr rfl | assumption) : AG X (.Name x pos) d ds M k := fun v σ G H Q he ho iv kk =>
  ofG (pg_name hN hi hx hf) (kk _ _ G M H (Same.refl _) (he.set iv i) ho h)
theorem ags_nil {k : DS → MS → Prop} (h : k ds M) : AGs X [] [] ds M k := fun v σ G H Q he ho iv kk => by
  cases iv
  exact ofGs pgs_nil ⟨rfl, kk _ _ G M H (Same.refl _) he ho h⟩
theorem ags_cons {d : DV} {r : List DV} {k : DS → MS → Prop} (h : AG X e d ds M fun ds' M' => AGs X es r ds' M' k) (hs : (assignEach (e :: es) X.env).map (·.2) = assign e X.env :: (assignEach es X.env).map (·.2) := by rfl) : AGs X (e :: es) (d :: r) ds M k := fun v σ G H Q he ho iv kk => by
  cases iv with
  | cons i1 i2 => exact ofGs (pgs_cons semG semGs hs) ⟨_, _, rfl, h _ σ G H _ he ho i1 fun σ' ds' G' M' H' s1 e1 o1 k1 => k1 _ σ' G' H' _ e1 o1 (IsAll.mono s1 i2) fun σ2 ds2 G2 M2 H2 s2 e2 o2 k2 => kk σ2 ds2 G2 M2 H2 (s1.trans s2) e2 o2 k2⟩
theorem ag_tup {n m} {xs : List PyData} {k : DS → MS → Prop} (hc : X.calm = true) (hl : xs.length = m) (h : AGs X es (xs.map DV.dat) ds M k) (hn : (assignEach es X.env).length = m := by rfl) (hst : (assignEach es X.env).findIdx? (·.1) = none := by rfl) :
    AG X (.Tuple es n pos) (.dat (.tuple xs)) ds M k := fun v σ G H Q he ho iv kk => by
  obtain ⟨p, ys, rfl, h4, h5⟩ := dp_tup_inv iv
  exact ofG (pg_tup hc semGs hn hst) ⟨p, ys, rfl, sqT_mono ho.same h4, by rw [dpAll_len h5, hl], h ys σ G H Q he ho (IsAll.of h5) kk⟩
theorem as_asg (h : AE X e ds M fun d M1 => AG X a d ds M1 Z.nx) (hs : swapsWithSole [a] e pos.line X.env = pure false := by rfl) (hw : swappedStores [a] e X.env = pure none := by rfl) (h1 : (assignEach [a] X.env).map (·.2) = [assign a X.env] := by rfl) : AS X (.Assign [a] e pos) ds M Z := fun σ G H D he ho q =>
  ofS (ps_asg semE semG hs hw h1) (h σ G H _ he ho fun v d G1 M1 H1 s1 o1 i1 k1 => k1 v σ G1 H1 _ (he.mono s1) o1 i1 fun σ2 ds2 G2 M2 H2 s2 e2 o2 k2 => q.nx σ2 ds2 G2 M2 H2 (s1.trans s2) e2 o2 k2)
theorem as_set (i : Nat) {pos'} (hN : X.N.Nodup) (h : AE X e ds M fun d M1 => Z.nx (ds.set i (some d)) M1) (hi : X.N[i]? = some x := by rfl) (hx : Loc X.env.scope x := by first | exact Or.inl rfl | exact Or.inr rfl)
    (hs : swapsWith e (some (.Name x pos')) pos.line X.env = pure false := by rfl) (hf : X.fn x = true ∨ X.env.scope.names.lookup x = some .local := by first | exact .inl rfl | exact .inr rfl | assumption) : AS X (.Assign [.Name x pos'] e pos) ds M Z := fun σ G H D he ho q =>
  ofS (ps_set hN hi hx semE hs hf) (h σ G H _ he ho fun v d G1 M1 H1 s1 o1 i1 k1 => q.nx _ _ G1 M1 H1 s1 ((he.mono s1).set i1 i) o1 k1)
/-- a, b = e1, e2 -/
theorem as_par (i j : Nat) {y : Str} {px py pt : Pos} {kt k2 pt2} (hc : X.calm = true) (hN : X.N.Nodup) (h : AA X [a, b] ds M fun xs M1 => ∃ d e, xs = [d, e] ∧ Z.nx ((ds.set i (some d)).set j (some e)) M1) (hij : i ≠ j := by decide) (hi : X.N[i]? = some x := by rfl) (hj : X.N[j]? = some y := by rfl)
    (hx : X.env.scope.names.lookup x = some .local := by rfl) (hy : X.env.scope.names.lookup y = some .local := by rfl)
    (hw : swappedStores [.Tuple [.Name x px, .Name y py] kt pt] (.Tuple [a, b] k2 pt2) X.env = pure (some [x, y]) := by rfl)
    (hs : swapsWithSole [.Tuple [.Name x px, .Name y py] kt pt] (.Tuple [a, b] k2 pt2) pos.line X.env = pure false := by rfl) : AS X (.Assign [.Tuple [.Name x px, .Name y py] kt pt] (.Tuple [a, b] k2 pt2) pos) ds M Z := fun σ G H D he ho q =>
  ofS (ps_par hc hN hi hj hij hx hy semA hw hs) (h σ G H _ he ho fun vs xs G1 M1 H1 s1 o1 i1 k1 => by
    obtain ⟨d, e, rfl, k1⟩ := k1
    obtain ⟨v, w, rfl, h1, h2⟩ := is2 i1
    exact ⟨v, w, rfl, q.nx _ _ G1 M1 H1 s1 (((he.mono s1).set h1 i).set h2 j) o1 k1⟩)
/-- an if whose ways meet again behind it -/
theorem as_meet {W : DS → MS → Prop} (h : AS X st ds M { Z with nx := W }) (k : ∀ d m, W d m → Z.nx d m) : AS X st ds M Z := h.imp k (fun _ _ q => q) (fun _ _ q => q) (fun _ _ q => q)

/-! ### o[k] = v of a dict -/
theorem as_dput (hu : X.A.units + 1 < cLine) {tp} (h : AE X e ds M fun d M1 => AE X a ds M1 fun x M2 => AE X b ds M2 fun y M3 => ∃ q kvs z, x = .raw (.ref q) ∧ y = .dat (.str z) ∧ M3 q = some (.dK kvs) ∧ kvs.length ≤ 1000 ∧ Z.nx ds (upM M3 q (.dK (putD kvs (.inr z) d))))
    (hs : swapsWithSole [.Subscript a b tp] e pos.line X.env = pure false := by rfl) : AS X (.Assign [.Subscript a b tp] e pos) ds M Z := fun σ G H D he ho q =>
  ofS (ps_dput hu semE semE semE hs) (h σ G H _ he ho fun v d G1 M1 H1 s1 o1 i1 k1 => k1 σ G1 H1 _ (he.mono s1) o1 fun vx x G2 M2 H2 s2 o2 i2 k2 => k2 σ G2 H2 _ (he.mono (s1.trans s2)) o2 fun vy y G3 M3 H3 s3 o3 i3 k3 => by
    obtain ⟨r, kvs, z, rfl, rfl, hm, hl, k3⟩ := k3
    obtain ⟨hg, ws, h1, h2⟩ := o3.chg _ _ hm
    have e1 : vx = .ref r := i2
    subst e1
    have e2 := dp_str_inv i3
    subst e2
    have hlen : ws.length = kvs.length := Paired.length h2
    refine ⟨r, _, rfl, DPut.k (k := .inr z) h1 (Nat.lt_of_le_of_lt (by rw [hlen]; exact hl) (by decide)), ?_⟩
    have s13 := s1.trans (s2.trans s3)
    exact q.nx _ _ G3 _ _ s13 (he.mono s13) (o3.put hg (x := .dK (putK ws (.inr z) v)) (m := .dK (putD kvs (.inr z) d)) ⟨_, upd_same, putK_is (i1.mono (s2.trans s3)) h2⟩) k3)
/-- {} that may change -/
theorem ae_dnew {k : DV → MS → Prop} (h : ∀ q, M q = none → k (.raw (.ref q)) (upM M q (.dK []))) : AE X (.Dict [] [] pos) ds M k := fun σ G H Q he ho kk =>
  ofE pe_dnewK (fun q hq => by
    obtain ⟨hg, hm⟩ := ho.fresh hq
    exact kk _ _ G _ _ (Same.refl _) (ho.put hg (x := .dK []) (m := .dK []) ⟨[], upd_same, .nil⟩) (show Is X.K G (.ref q) (.raw (.ref q)) from rfl) (h q hm))
end
end A

set_option Elab.async false
set_option linter.all false
set_option maxRecDepth 100000
set_option maxHeartbeats 2000000
namespace A
open PySem PySem.Spec PyProof.Rows L2
/-! ### what a def promises -/
/-- a promise over described values: S args M k -/
abbrev DS1 := List DV → MS → (DV → MS → Prop) → Prop
def spM (K : PySem.W.Frag) (S : DS1) : Sp := fun vs H Q _ => ∃ G M ds k, Ok K G M H ∧ IsAll K G vs ds ∧ S ds M k ∧ ∀ v d G2 M' H2, Same G G2 → Ok K G2 M' H2 → Is K G2 v d → k d M' → Q v H2
/-- a def of the top that keeps a promise -/
structure Def (P : Program) (w : World) (K : PySem.W.Frag) (mg : Str → Option Value) (base : Heap) (x : Str) (k : Nat) (S : DS1) : Prop where
  ex : ∃ (f : Addr) (fd : FuncData) (ps : List Str), FnOk P w K mg base CX0 k f fd ps (spM K S) ∧ mg x = some (.ref f) ∧ PySem.W.keepIn K (.ref f) = true ∧ Binds K fd ps []
section
variable {X : Cx} {ds : DS} {M : MS} {k k' : DV → MS → Prop} {e a b c o : Expr} {es rest : List Expr} {pos p apos cpos : Pos} {x name : Str} {Z : AEnds} {st : Stmt} {sts body els : List Stmt} {S : DS1} {j : Nat}
theorem ae_call (F : Def X.prog X.w X.K X.mg X.base x j S) (hr : Room j X.A) (h : AA X (e :: es) ds M fun xs M1 => S xs M1 k) (hg : Gl X x := by rfl)
    (hdb : (x == ("__debug__" : Str)) = false := by decide) (hs : starEach (e :: es) X.env = (false, eval e X.env) :: starEach es X.env := by rfl) (hpl : (backTo pos (starEach es X.env)).any (·.1) = false := by rfl) :
    AE X (.Call (.Name x p) (e :: es) [] pos) ds M k := by
  obtain ⟨f, fd, ps, F, hm, hk, hb⟩ := F.ex
  intro σ G H Q he ho kk
  refine ofE (pe_call F hr hg hm hk hb .nil pass0 semA hdb hs hpl) (h σ G H _ he ho fun vs xs G1 M1 H1 s1 o1 i1 k1 => ?_)
  exact ⟨G1, M1, xs, k, o1, by rw [List.append_nil]; exact i1, k1, fun v d G2 M' H2 s2 o2 i2 q => kk v d G2 M' H2 (s1.trans s2) o2 i2 q⟩
theorem ae_call0 (F : Def X.prog X.w X.K X.mg X.base x j S) (hr : Room j X.A) (h : S [] M k) (hg : Gl X x := by rfl)
    (hdb : (x == ("__debug__" : Str)) = false := by decide) : AE X (.Call (.Name x p) [] [] pos) ds M k := by
  obtain ⟨f, fd, ps, F, hm, hk, hb⟩ := F.ex
  intro σ G H Q he ho kk
  refine ofE (pe_call0 F hr hg hm hk hb .nil pass0 hdb) ?_
  exact ⟨G, M, [], k, ho, .nil, h, fun v d G2 M' H2 s2 o2 i2 q => kk v d G2 M' H2 s2 o2 i2 q⟩

/-- what a value becomes at the end: forgotten objects, lists that stand still from then on -/
inductive Wk : DV → MS → DV → MS → Prop
  | refl (d : DV) (M : MS) : Wk d M d M
  | forget {d : DV} {M N : MS} (h : Le N M) : Wk d M d N
  | freeze {q : Addr} {xs : List PyData} {M : MS} (h : M q = some (.lst (xs.map .dat))) : Wk (.raw (.ref q)) M (.dat (.list xs)) (fun a => if a = q then none else M a)
  | trans {d e f : DV} {A B C : MS} (h : Wk d A e B) (g : Wk e B f C) : Wk d A f C
theorem Ok.freeze {K : PySem.W.Frag} {G H : Hp} {M : MS} {q : Addr} {xs : List PyData} (ho : Ok K G M H) (h : M q = some (.lst (xs.map .dat))) :
    ∃ G2, Same G G2 ∧ Ok K G2 (fun a => if a = q then none else M a) H ∧ Dp K G2 (.ref q) (.list xs) := by
  obtain ⟨hg, vs, h1, h2⟩ := ho.chg _ _ h
  have s : Same G (upd G q (.lst vs)) := fun a o e => by
    rw [upd_ne (ne_of_none e hg)]; exact e
  refine ⟨upd G q (.lst vs), s, ⟨fun a o e => ?_, fun a m e => ?_, fun a ps e => ?_⟩, .lst (.inl (.inl upd_same)) (dpAll_mono s h2.dat)⟩
  · by_cases ha : a = q
    · subst ha; rw [upd_same] at e; rw [h1]; exact e
    · rw [upd_ne ha] at e; exact ho.sub a o e
  · by_cases ha : a = q
    · subst ha; simp at e
    · simp only [ha, if_false] at e
      obtain ⟨h3, h4⟩ := ho.chg a m e
      exact ⟨by rw [upd_ne ha]; exact h3, h4.mono s rfl⟩
  · by_cases ha : a = q
    · subst ha; rw [upd_same] at e; cases e
    · rw [upd_ne ha] at e; exact ho.tb a ps e
theorem Wk.ok {K : PySem.W.Frag} {d d' : DV} {M M' : MS} (w : Wk d M d' M') : ∀ {G H : Hp} {v : V}, Ok K G M H → Is K G v d → ∃ G2, Same G G2 ∧ Ok K G2 M' H ∧ Is K G2 v d' := by
  induction w with
  | refl d M => exact fun {G H v} ho i => ⟨G, Same.refl _, ho, i⟩
  | forget h => exact fun {G H v} ho i => ⟨G, Same.refl _, ho.less h, i⟩
  | freeze h =>
    intro G H v ho i
    obtain ⟨G2, s, o, q⟩ := ho.freeze h
    have e : v = _ := i
    subst e
    exact ⟨G2, s, o, q⟩
  | trans _ _ ih1 ih2 =>
    intro G H v ho i
    obtain ⟨G2, s, o, q⟩ := ih1 ho i
    obtain ⟨G3, s', o', q'⟩ := ih2 o q
    exact ⟨G3, s.trans s', o', q'⟩
theorem ae_wk (h : AE X e ds M fun d M1 => ∃ d' M', Wk d M1 d' M' ∧ k d' M') : AE X e ds M k := fun σ G H Q he ho kk => h σ G H Q he ho fun v d G2 M2 H2 s2 o2 i2 ⟨d', M', w, k2⟩ => by
  obtain ⟨G3, s3, o3, i3⟩ := w.ok o2 i2
  exact kk v d' G3 M' H2 (s2.trans s3) o3 i3 k2
/-- a list in a slot stands still from here on -/
theorem ass_freeze (i : Nat) {q : Addr} {xs : List PyData} (hi : ds[i]? = some (some (.raw (.ref q)))) (hq : M q = some (.lst (xs.map .dat))) (h : ASs X sts (ds.set i (some (.dat (.list xs)))) (fun a => if a = q then none else M a) Z) : ASs X sts ds M Z := fun σ G H D he ho hz => by
  obtain ⟨G2, s2, o2, d2⟩ := ho.freeze hq
  obtain ⟨v, h1, h2⟩ := he.get hi
  have e : v = _ := h2
  subst e
  have he2 := (he.mono s2).set (isd d2) i
  have e2 : σ.set i (some (V.ref q)) = σ := by
    apply List.ext_getElem?
    intro n
    rw [List.getElem?_set]
    split
    · next hn =>
      subst hn
      split
      · rw [h1]
      · next hl => rw [List.getElem?_eq_none (by omega)] at h1; cases h1
    · rfl
  rw [e2] at he2
  exact h σ G2 H D he2 o2 (hz.mono s2)

/-! ### a def's body -/
abbrev cxD (P : Program) (w : World) (K : PySem.W.Frag) (mg : Str → Option Value) (base : Heap) (N : List Str) (qual : Str) (scope : Scope) (f : Addr) (cd : Value) (A : Around) (outer : List Env) (s : Shared) (H : Hp) (E : XK) : Cx := (cxOf CX0 P w K mg base N qual scope f cd A outer s H E).nox
theorem fn_ok {P : Program} {w : World} {K : PySem.W.Frag} {mg : Str → Option Value} {base : Heap} {x qual : Str} {st : Stmt} {f : Addr} {fd : FuncData} {N ps : List Str} {k : Nat} {S : DS1} (F : Fun K x qual st f fd) (hN : FnScope N ps (defScope st))
    (len : ∀ ds M k, S ds M k → ds.length = ps.length)
    (body : ∀ (cdv : Value) (A : Around) (outer : List Env) (s : Shared) (H : Hp) (E : XK) (ds : List DV) (M : MS) (kk : DV → MS → Prop), (cxD P w K mg base N qual (defScope st) f cdv A outer s H E).N = N → N.Nodup → Room k (cxD P w K mg base N qual (defScope st) f cdv A outer s H E).A → S ds M kk →
      ASs (cxD P w K mg base N qual (defScope st) f cdv A outer s H E) (defBody st) (ds.map some ++ List.replicate (N.length - ds.length) none) M ⟨fun _ M' => kk (.dat .none) M', kk, fun _ _ => False, fun _ _ => False⟩) : FnOk P w K mg base CX0 (k + 1) f fd ps (spM K S) := by
  refine F.ok hN (fun vs H Q E h => ?_) (fun cdv A outer s H vs Q E hr h => ?_)
  · obtain ⟨G, M, ds, kk, ho, hi, hS, q⟩ := h
    rw [hi.len]
    exact len _ _ _ hS
  · obtain ⟨G, M, ds, kk, ho, hi, hS, q0⟩ := h
    refine ⟨_, semSs, ?_⟩
    have hE : EnvOk K G (L2.start N vs) (ds.map some ++ List.replicate (N.length - ds.length) none) := by
      unfold L2.start
      rw [hi.len]
      have h1 : ∀ {vs : List V} {ds : List DV}, IsAll K G vs ds → EnvOk K G (vs.map some) (ds.map some) := by
        intro vs ds hi
        induction hi with
        | nil => exact .nil
        | cons h t ih => exact .cons (fun y hy => by cases hy; exact ⟨_, rfl, h⟩) ih
      have h2 : ∀ n, EnvOk K G (List.replicate n none) (List.replicate n none) := by
        intro n
        induction n with
        | zero => exact .nil
        | succ n ih => exact .cons (fun y hy => by cases hy) ih
      have h3 : ∀ {a b : L2.St} {c d : DS}, EnvOk K G a c → EnvOk K G b d → EnvOk K G (a ++ b) (c ++ d) := by
        intro a b c d h g
        induction h with
        | nil => exact g
        | cons q t ih => exact .cons q ih
      exact h3 (h1 hi) (h2 _)
    refine body cdv A outer s H E ds M kk rfl hN.nd hr hS (L2.start N vs) G H _ hE ho ⟨fun σ ds' G' M' H' s e o q => ?_, fun v d G' M' H' s o i q => ?_, fun _ _ _ _ _ _ _ _ q => q.elim, fun _ _ _ _ _ _ _ _ q => q.elim⟩
    · exact q0 .non _ G' M' H' s o (isd .non) q
    · exact q0 v d G' M' H' s o i q
theorem def_ok {P : Program} {w : World} {K : PySem.W.Frag} {mg : Str → Option Value} {base : Heap} {x qual : Str} {st : Stmt} {f : Addr} {fd : FuncData} {N ps : List Str} {k : Nat} {S : DS1} (F : Fun K x qual st f fd) (hm : mg x = some (.ref f)) (hb : Binds K fd ps []) (hN : FnScope N ps (defScope st))
    (len : ∀ ds M k, S ds M k → ds.length = ps.length)
    (body : ∀ (cdv : Value) (A : Around) (outer : List Env) (s : Shared) (H : Hp) (E : XK) (ds : List DV) (M : MS) (kk : DV → MS → Prop), (cxD P w K mg base N qual (defScope st) f cdv A outer s H E).N = N → N.Nodup → Room k (cxD P w K mg base N qual (defScope st) f cdv A outer s H E).A → S ds M kk →
      ASs (cxD P w K mg base N qual (defScope st) f cdv A outer s H E) (defBody st) (ds.map some ++ List.replicate (N.length - ds.length) none) M ⟨fun _ M' => kk (.dat .none) M', kk, fun _ _ => False, fun _ _ => False⟩) : Def P w K mg base x (k + 1) S :=
  ⟨f, fd, ps, fn_ok F hN len body, hm, F.kp, hb⟩
end
end A

set_option Elab.async false
set_option linter.all false
set_option maxRecDepth 100000
set_option maxHeartbeats 2000000
namespace A
open PySem PySem.Spec PyProof.Rows L2
/-! ### what is walked -/
structure SemI (X : Cx) (tg iter : Expr) (σ : L2.St) (H : Hp) (R : It → Hp → Prop) : Prop where
  run : ∀ pins s, Inv X pins σ H s → wpAny (model X.prog X.w) X.A (eval iter X.env) (fun v s1 => wpAny (model X.prog X.w) X.A (pyIter v) (PIE X pins σ tg R) X.xe s1) X.xe s
structure IsIt (K : PySem.W.Frag) (G : Hp) (J : It) (kp : MS → Prop) (xs : List DV) : Prop where
  ex : ∃ (Gd : Hp → Prop) (Y : Nat → Hp → V → Hp → Prop), Walk J xs.length Gd Y ∧ (∀ G3 M3 H3, Same G G3 → Ok K G3 M3 H3 → kp M3 → Gd H3) ∧
    (∀ i H3 x H4, i < xs.length → Y i H3 x H4 → ∀ G3 M3, Same G G3 → Ok K G3 M3 H3 → kp M3 → ∃ G4 d, Same G3 G4 ∧ Ok K G4 M3 H4 ∧ xs[i]? = some d ∧ Is K G4 x d)
abbrev kT : MS → Prop := fun _ => True
def AI (X : Cx) (tg iter : Expr) (ds : DS) (M : MS) (kp : MS → Prop) (k : List DV → MS → Prop) : Prop :=
  ∀ σ G H R, EnvOk X.K G σ ds → Ok X.K G M H → (∀ J xs G2 M2 H2, Same G G2 → Ok X.K G2 M2 H2 → IsIt X.K G2 J kp xs → k xs M2 → R J H2) → SemI X tg iter σ H R
section
variable {X : Cx} {ds : DS} {M : MS} {e a b c o tg iter elt : Expr} {es rest ifs : List Expr} {pos p apos cpos : Pos} {x name : Str} {Z : AEnds} {st : Stmt} {sts body els : List Stmt}
theorem semI : PI X tg iter (SemI X tg iter) := ⟨fun pins s σ H R I h => h.run pins s I⟩
theorem ofI {t : TI} {σ : L2.St} {H : Hp} {R : It → Hp → Prop} (h : PI X tg iter t) (q : t σ H R) : SemI X tg iter σ H R := ⟨fun pins s I => h.run pins s σ H R I q⟩
theorem AI.imp {k k' : List DV → MS → Prop} {kp : MS → Prop} (h : AI X tg iter ds M kp k) (g : ∀ d M', k d M' → k' d M') : AI X tg iter ds M kp k' := fun σ G H Q he ho q => h σ G H Q he ho fun J xs G2 M2 H2 s2 o2 i2 k2 => q J xs G2 M2 H2 s2 o2 i2 (g xs M2 k2)
variable {k : List DV → MS → Prop} {KP : MS → Prop}
theorem getmap {xs : List PyData} {i : Nat} {d : PyData} (h : xs[i]? = some d) : (xs.map DV.dat)[i]? = some (.dat d) := by rw [List.getElem?_map, h]; rfl
theorem ai_list (h : AE X iter ds M fun d M1 => ∃ xs, d = .dat (.list xs) ∧ k (xs.map .dat) M1) : AI X tg iter ds M kT k := fun σ G H R he ho kk =>
  ofI (pi_list semE) (h σ G H _ he ho fun v d G1 M1 H1 s1 o1 i1 k1 => by
    obtain ⟨xs, rfl, q⟩ := k1
    obtain ⟨p, ys, rfl, h4, h5⟩ := dp_lst_inv i1
    refine ⟨p, rfl, ⟨ys, o1.same.seq h4⟩, kk _ _ G1 M1 H1 s1 o1 ⟨_, _, by rw [List.length_map, ← dpAll_len h5]; exact walk_list (xs := ys), fun G3 M3 H3 s3 o3 _ => (s3.trans o3.same).seq h4, fun i H3 x H4 hi y G3 M3 s3 o3 _ => ?_⟩ q⟩
    obtain ⟨rfl, hx⟩ := y
    obtain ⟨d, h6, h7⟩ := dpAll_get h5 hx
    exact ⟨G3, .dat d, Same.refl _, o3, getmap h6, dp_mono s3 h7⟩)
theorem ai_tup (h : AE X iter ds M fun d M1 => ∃ xs, d = .dat (.tuple xs) ∧ k (xs.map .dat) M1) : AI X tg iter ds M kT k := fun σ G H R he ho kk =>
  ofI (pi_tup semE) (h σ G H _ he ho fun v d G1 M1 H1 s1 o1 i1 k1 => by
    obtain ⟨xs, rfl, q⟩ := k1
    obtain ⟨p, ys, rfl, h4, h5⟩ := dp_tup_inv i1
    refine ⟨p, rfl, ⟨ys, sqT_mono o1.same h4⟩, kk _ _ G1 M1 H1 s1 o1 ⟨_, _, by rw [List.length_map, ← dpAll_len h5]; exact walk_tup (xs := ys), fun G3 M3 H3 s3 o3 _ => sqT_mono (s3.trans o3.same) h4, fun i H3 x H4 hi y G3 M3 s3 o3 _ => ?_⟩ q⟩
    obtain ⟨rfl, hx⟩ := y
    obtain ⟨d, h6, h7⟩ := dpAll_get h5 hx
    exact ⟨G3, .dat d, Same.refl _, o3, getmap h6, dp_mono s3 h7⟩)
def rngD (lo : Int) (n : Nat) : List DV := (List.range n).map fun i => .dat (.int (lo + (i : Nat)))
theorem it_rng {K : PySem.W.Frag} {G : Hp} (lo : Int) (n : Nat) : IsIt K G (Itr lo n) kT (rngD lo n) := by
  refine ⟨_, _, by unfold rngD; rw [List.length_map, List.length_range]; exact walk_range, fun _ _ _ _ _ _ => trivial, fun i H3 x H4 hi y G3 M3 s3 o3 _ => ?_⟩
  obtain ⟨rfl, rfl⟩ := y
  refine ⟨G3, _, Same.refl _, o3, ?_, isd (.int _)⟩
  unfold rngD at hi ⊢
  rw [List.length_map, List.length_range] at hi
  rw [List.getElem?_map, List.getElem?_range hi]; rfl
theorem ai_range1 (hm : X.mg "range" = none) (h : AA X [a] ds M fun vs M1 => ∃ j : Int, vs = [.dat (.int j)] ∧ -(2 ^ 62) ≤ j ∧ j < 2 ^ 62 ∧ k (rngD 0 j.toNat) M1) (hg : Gl X "range" := by rfl) (hs : starEach [a] X.env = [(false, eval a X.env)] := by rfl) :
    AI X tg (.Call (.Name "range" p) [a] [] pos) ds M kT k := fun σ G H R he ho kk =>
  ofI (pi_range1 hg hm semA hs) (h σ G H _ he ho fun vs d G1 M1 H1 s1 o1 i1 k1 => by
    obtain ⟨j, rfl, h1, h2, q⟩ := k1
    obtain ⟨v, rfl, h3⟩ := is1 i1
    exact ⟨j, by rw [dp_int_inv h3], h1, h2, kk _ _ G1 M1 H1 s1 o1 (it_rng _ _) q⟩)
theorem ai_range2 (hm : X.mg "range" = none) (h : AA X [a, b] ds M fun vs M1 => ∃ i j : Int, vs = [.dat (.int i), .dat (.int j)] ∧ (-(2 ^ 62) ≤ i ∧ i < 2 ^ 62 ∧ -(2 ^ 62) ≤ j ∧ j < 2 ^ 62) ∧ k (rngD i (j - i).toNat) M1) (hg : Gl X "range" := by rfl)
    (hs : starEach [a, b] X.env = [(false, eval a X.env), (false, eval b X.env)] := by rfl) (hs2 : starEach [b] X.env = [(false, eval b X.env)] := by rfl) :
    AI X tg (.Call (.Name "range" p) [a, b] [] pos) ds M kT k := fun σ G H R he ho kk =>
  ofI (pi_range2 hg hm semA hs hs2) (h σ G H _ he ho fun vs d G1 M1 H1 s1 o1 i1 k1 => by
    obtain ⟨i, j, rfl, h1, q⟩ := k1
    obtain ⟨v, w, rfl, h3, h4⟩ := is2 i1
    exact ⟨i, j, by rw [dp_int_inv h3, dp_int_inv h4], h1, kk _ _ G1 M1 H1 s1 o1 (it_rng _ _) q⟩)
def pairD (xs ys : List PyData) : List DV := (xs.zip ys).map fun p => .dat (.tuple [p.1, p.2])
theorem it_pair {K : PySem.W.Frag} {G : Hp} {J : It} {xs ys : List V} {ds es : List PyData} {Gd : Hp → Prop} (hx : DpAll K G xs ds) (hy : DpAll K G ys es) (w : Walk J (min xs.length ys.length) Gd (YPair (fun i => xs[i]?) (fun i => ys[i]?)))
    (hG : ∀ G3 M3 H3, Same G G3 → Ok K G3 M3 H3 → Gd H3) : IsIt K G J kT (pairD ds es) := by
  refine ⟨Gd, _, by unfold pairD; rw [List.length_map, List.length_zip, ← dpAll_len hx, ← dpAll_len hy]; exact w, fun G3 M3 H3 s o _ => hG G3 M3 H3 s o, fun i H3 x H4 hi y G3 M3 s3 o3 _ => ?_⟩
  obtain ⟨T, u, v, rfl, hT, rfl, h1, h2⟩ := y
  obtain ⟨d, h3, h4⟩ := dpAll_get hx h1
  obtain ⟨e, h5, h6⟩ := dpAll_get hy h2
  obtain ⟨o4, s4⟩ := o3.still hT (.tup [u, v])
  refine ⟨_, .dat (.tuple [d, e]), s4, o4, ?_, isd (.tup (.inl (.inl upd_same)) (.cons (dp_mono (s3.trans s4) h4) (.cons (dp_mono (s3.trans s4) h6) .nil)))⟩
  unfold pairD
  have hz : (ds.zip es)[i]? = some (d, e) := List.getElem?_zip_eq_some.mpr ⟨h3, h5⟩
  rw [List.getElem?_map, hz]; rfl
theorem ai_zipL {elts : List Expr} {kk : Nat} {tpos : Pos} (hm : X.mg "zip" = none) (h : AA X [a, b] ds M fun vs M1 => ∃ xs ys : List PyData, vs = [.dat (.list xs), .dat (.list ys)] ∧ k (pairD xs ys) M1) (hg : Gl X "zip" := by rfl)
    (hs : starEach [a, b] X.env = (false, eval a X.env) :: starEach [b] X.env := by rfl) (hpl : (backTo pos (starEach [b] X.env)).any (·.1) = false := by rfl) :
    AI X (.Tuple elts kk tpos) (.Call (.Name "zip" p) [a, b] [] pos) ds M kT k := fun σ G H R he ho kk =>
  ofI (pi_zip hg hm semA hs hpl) (h σ G H _ he ho fun vs d G1 M1 H1 s1 o1 i1 k1 => by
    obtain ⟨xs, ys, rfl, q⟩ := k1
    obtain ⟨v, w, rfl, h3, h4⟩ := is2 i1
    obtain ⟨p, us, rfl, h5, h6⟩ := dp_lst_inv h3
    obtain ⟨q', ws, rfl, h7, h8⟩ := dp_lst_inv h4
    exact ⟨p, q', us, ws, rfl, o1.same.seq h5, o1.same.seq h7, kk _ _ G1 M1 H1 s1 o1 (it_pair h6 h8 (walk_zip rfl) fun G3 M3 H3 s3 o3 => ⟨(s3.trans o3.same).seq h5, (s3.trans o3.same).seq h7⟩) q⟩)

/-- over a list that may change, but does not meanwhile -/
theorem walk_listM {K : PySem.W.Frag} {a : Addr} {n : Nat} : Walk (Itl K a) n (fun H => ∃ vs, SqL K H a vs ∧ vs.length = n) (fun i H x H' => H' = H ∧ ∀ vs, SqL K H a vs → vs[i]? = some x) := by
  refine ⟨fun i H hi ⟨vs, h1, h2⟩ => ?_, fun H ⟨vs, h1, h2⟩ => ⟨vs, h1, Nat.le_of_eq h2⟩, fun i H x H' _ _ y => y⟩
  have hlt : i < vs.length := by omega
  exact ⟨vs, vs[i], h1, List.getElem?_eq_getElem hlt⟩
theorem ai_listM (h : AE X iter ds M fun d M1 => ∃ q xs, d = .raw (.ref q) ∧ M1 q = some (.lst xs) ∧ KP = (fun M3 => M3 q = some (.lst xs)) ∧ k xs M1) : AI X tg iter ds M KP k := fun σ G H R he ho kk =>
  ofI (pi_list semE) (h σ G H _ he ho fun v d G1 M1 H1 s1 o1 i1 k1 => by
    obtain ⟨q, xs, rfl, hM, rfl, z⟩ := k1
    have e : v = .ref q := i1
    subst e
    obtain ⟨_, vs, h1, h2⟩ := o1.chg _ _ hM
    refine ⟨q, rfl, ⟨vs, SqL.of h1⟩, kk _ _ G1 M1 H1 s1 o1 ⟨_, _, walk_listM, fun G3 M3 H3 s3 o3 hm => ?_, fun i H3 x H4 hi y G3 M3 s3 o3 hm => ?_⟩ z⟩
    · obtain ⟨_, us, h3, h4⟩ := o3.chg _ _ hm
      exact ⟨us, SqL.of h3, h4.len⟩
    · obtain ⟨rfl, y⟩ := y
      obtain ⟨_, us, h3, h4⟩ := o3.chg _ _ hm
      obtain ⟨d, h5, h6⟩ := h4.get' (y us (SqL.of h3))
      exact ⟨G3, d, Same.refl _, o3, h5, h6⟩)
/-! ### for -/
theorem as_for {kp : MS → Prop} {W : Nat → DS → MS → Prop} (hp : PassesOwn (model X.prog X.w) X.A X.env X.xe) (hc : X.calm = true)
    (h : AI X tg iter ds M kp fun xs M1 => W 0 ds M1 ∧ (∀ i d ds' M', xs[i]? = some d → W i ds' M' → AG X tg d ds' M' fun ds2 M2 => ASs X body ds2 M2 { Z with nx := W (i + 1), ct := W (i + 1), bk := Z.nx }) ∧ (∀ ds' M', W xs.length ds' M' → Z.nx ds' M'))
    (hk : ∀ i ds M, W i ds M → kp M := by intros; trivial) (hs : ∀ x, foldedSetIterable iter X.env x = pure x := by intro _; rfl) : AS X (.For tg iter body [] pos) ds M Z := fun σ G H D he ho q =>
  ofS (ps_for hp hc semI semG semSs hs) (h σ G H _ he ho fun J xs G1 M1 H1 s1 o1 i1 k1 => by
    obtain ⟨w0, step, done⟩ := k1
    obtain ⟨Gd, Y, wk, hG, hY⟩ := i1.ex
    have q1 := q.mono s1
    refine for_it wk (fun i σ' H' => ∃ ds' G' M', Same G1 G' ∧ EnvOk X.K G' σ' ds' ∧ Ok X.K G' M' H' ∧ W i ds' M') ⟨ds, G1, M1, Same.refl _, he.mono s1, o1, w0⟩ (fun i σ' H' hi ⟨ds', G', M', s', e', o', w'⟩ => hG G' M' H' s' o' (hk _ _ _ w')) (fun i x σ' H' H2 hi ⟨ds', G', M', s', e', o', w'⟩ y => ?_) (fun σ' H' ⟨ds', G', M', s', e', o', w'⟩ => ?_)
    · obtain ⟨G2, d, s2, o2, hx, i2⟩ := hY i H' x H2 hi y G' M' s' o' (hk _ _ _ w')
      refine step i d ds' M' hx w' x σ' G2 H2 _ (e'.mono s2) o2 i2 fun σ3 ds3 G3 M3 H3 s3 e3 o3 k3 => ?_
      have s13 := s'.trans (s2.trans s3)
      refine k3 σ3 G3 H3 _ e3 o3 ⟨fun σ4 ds4 G4 M4 H4 s4 e4 o4 w4 => ?_, fun v d G4 M4 H4 s4 o4 i4 r4 => ?_, fun σ4 ds4 G4 M4 H4 s4 e4 o4 b4 => ?_, fun σ4 ds4 G4 M4 H4 s4 e4 o4 w4 => ?_⟩
      · exact ⟨ds4, G4, M4, s13.trans s4, e4, o4, w4⟩
      · exact q1.rt v d G4 M4 H4 (s13.trans s4) o4 i4 r4
      · exact q1.nx σ4 ds4 G4 M4 H4 (s13.trans s4) e4 o4 b4
      · exact ⟨ds4, G4, M4, s13.trans s4, e4, o4, w4⟩
    · exact q1.nx σ' ds' G' M' H' s' e' o' (done ds' M' w'))
/-! ### while -/
theorem as_while {W : Nat → DS → MS → Prop} (m0 : Nat) (hp : PassesOwn (model X.prog X.w) X.A X.env X.xe) (h0 : W m0 ds M)
    (h : ∀ m ds' M', W m ds' M' → AT X c ds' M' fun r M2 => (r = true → ASs X body ds' M2 { Z with nx := fun ds3 M3 => ∃ m', m' < m ∧ W m' ds3 M3, ct := fun ds3 M3 => ∃ m', m' < m ∧ W m' ds3 M3, bk := Z.nx }) ∧ (r = false → Z.nx ds' M2)) :
    AS X (.While c body [] pos) ds M Z := fun σ G H D he ho q =>
  ofS (ps_while hp semT semSs) (by
    refine ⟨fun m σ' H' => ∃ ds' G' M', Same G G' ∧ EnvOk X.K G' σ' ds' ∧ Ok X.K G' M' H' ∧ W m ds' M', ⟨m0, ds, G, M, Same.refl _, he, ho, h0⟩, fun m σ' H' ⟨ds', G', M', s', e', o', w'⟩ => ?_⟩
    refine h m ds' M' w' σ' G' H' _ e' o' fun r G2 M2 H2 s2 o2 k2 => ?_
    have s12 := s'.trans s2
    have q2 := q.mono s12
    cases r with
    | true =>
      refine iteT ⟨fun σ3 H3 => ∃ m', m' < m ∧ ∃ ds3 G3 M3, Same G G3 ∧ EnvOk X.K G3 σ3 ds3 ∧ Ok X.K G3 M3 H3 ∧ W m' ds3 M3, fun σ3 H3 ⟨m', hm, z⟩ => ⟨m', hm, z⟩, ?_⟩
      refine k2.1 rfl σ' G2 H2 _ (e'.mono s2) o2 ⟨fun σ4 ds4 G4 M4 H4 s4 e4 o4 ⟨m', hm, w4⟩ => ?_, fun v d G4 M4 H4 s4 o4 i4 r4 => ?_, fun σ4 ds4 G4 M4 H4 s4 e4 o4 b4 => ?_, fun σ4 ds4 G4 M4 H4 s4 e4 o4 ⟨m', hm, w4⟩ => ?_⟩
      · exact ⟨m', hm, ds4, G4, M4, s12.trans s4, e4, o4, w4⟩
      · exact q2.rt v d G4 M4 H4 s4 o4 i4 r4
      · exact q2.nx σ4 ds4 G4 M4 H4 s4 e4 o4 b4
      · exact ⟨m', hm, ds4, G4, M4, s12.trans s4, e4, o4, w4⟩
    | false => exact iteF (q2.nx σ' ds' G2 M2 H2 (Same.refl _) (e'.mono s2) o2 (k2.2 rfl)))
end
end A

set_option Elab.async false
set_option linter.all false
set_option maxRecDepth 100000
set_option maxHeartbeats 2000000
namespace A
open PySem PySem.Spec PyProof.Rows L2
/-! ### comprehensions -/
def wipeD (ds : DS) : List Nat → DS
  | [] => ds
  | v :: vs => (wipeD ds vs).set v none
theorem EnvOk.wipe {K : PySem.W.Frag} {G : Hp} {σ : L2.St} {ds : DS} (h : EnvOk K G σ ds) : ∀ vs, EnvOk K G (L2.wipe σ vs) (wipeD ds vs)
  | [] => h
  | v :: vs => EnvOk.none v (EnvOk.wipe h vs)
/-- a target of a comprehension: only the slots vs change -/
def AGc (X : Cx) (tg : Expr) (d : DV) (ds : DS) (M : MS) (vs : List Nat) (k : DS → Prop) : Prop :=
  ∀ v σ G H Q, EnvOk X.K G σ ds → Ok X.K G M H → Is X.K G v d → (∀ σ' ds', L2.wipe σ' vs = L2.wipe σ vs → EnvOk X.K G σ' ds' → k ds' → Q σ' H) → SemG X tg v σ H Q
def AGcs (X : Cx) (ts : List Expr) (d : List DV) (ds : DS) (M : MS) (vs : List Nat) (k : DS → Prop) : Prop :=
  ∀ v σ G H Q, EnvOk X.K G σ ds → Ok X.K G M H → IsAll X.K G v d → (∀ σ' ds', L2.wipe σ' vs = L2.wipe σ vs → EnvOk X.K G σ' ds' → k ds' → Q σ' H) → SemGs X ts v σ H Q
theorem wipe_set {σ : L2.St} {i : Nat} {x : Option V} : ∀ {vs : List Nat}, i ∈ vs → L2.wipe (σ.set i x) vs = L2.wipe σ vs := by
  have key : ∀ {vs : List Nat} {σ : L2.St} {i : Nat} {x : Option V}, L2.wipe (σ.set i x) vs = if i ∈ vs then L2.wipe σ vs else (L2.wipe σ vs).set i x := by
    intro vs
    induction vs with
    | nil => intro σ i x; rfl
    | cons v vs ih =>
      intro σ i x
      show (L2.wipe (σ.set i x) vs).set v none = _
      rw [ih]
      by_cases h : i ∈ vs
      · rw [if_pos h, if_pos (List.mem_cons_of_mem _ h)]; rfl
      · rw [if_neg h]
        by_cases e : i = v
        · subst e
          rw [if_pos List.mem_cons_self, List.set_set]; rfl
        · rw [if_neg (by simp [e, h]), List.set_comm _ _ e]; rfl
  intro vs h
  rw [key, if_pos h]
section
variable {X : Cx} {ds : DS} {M : MS} {e a b c o tg iter elt : Expr} {es rest ifs : List Expr} {pos p apos cpos : Pos} {x name : Str} {vs : List Nat} {scope : Scope} {own : List (Str × Nat)}
theorem agc_name (i : Nat) {d : DV} {k : DS → Prop} (h : k (ds.set i (some d))) (hN : X.N.Nodup) (hm : i ∈ vs := by decide) (hi : X.N[i]? = some x := by rfl) (hx : Loc X.env.scope x := by first | exact Or.inl rfl | exact Or.inr rfl)
    (hf : X.fn x = true ∨ X.env.scope.names.lookup x = some .local := by first | exact .inl rfl | exact .inr rfl | assumption) : AGc X (.Name x pos) d ds M vs k := fun v σ G H Q he ho iv kk =>
  ofG (pg_name hN hi hx hf) (kk _ _ (wipe_set hm) (he.set iv i) h)
theorem agcs_nil {k : DS → Prop} (h : k ds) : AGcs X [] [] ds M vs k := fun v σ G H Q he ho iv kk => by
  cases iv
  exact ofGs pgs_nil ⟨rfl, kk _ _ rfl he h⟩
theorem agcs_cons {d : DV} {r : List DV} {k : DS → Prop} (h : AGc X e d ds M vs fun ds' => AGcs X es r ds' M vs k) (hs : (assignEach (e :: es) X.env).map (·.2) = assign e X.env :: (assignEach es X.env).map (·.2) := by rfl) : AGcs X (e :: es) (d :: r) ds M vs k := fun v σ G H Q he ho iv kk => by
  cases iv with
  | cons i1 i2 => exact ofGs (pgs_cons semG semGs hs) ⟨_, _, rfl, h _ σ G H _ he ho i1 fun σ' ds' w1 e1 k1 => k1 _ σ' G H _ e1 ho i2 fun σ2 ds2 w2 e2 k2 => kk σ2 ds2 (w2.trans w1) e2 k2⟩
theorem agc_tup {n m} {xs : List PyData} {k : DS → Prop} (hc : X.calm = true) (hl : xs.length = m) (h : AGcs X es (xs.map DV.dat) ds M vs k) (hn : (assignEach es X.env).length = m := by rfl) (hst : (assignEach es X.env).findIdx? (·.1) = none := by rfl) :
    AGc X (.Tuple es n pos) (.dat (.tuple xs)) ds M vs k := fun v σ G H Q he ho iv kk => by
  obtain ⟨p, ys, rfl, h4, h5⟩ := dp_tup_inv iv
  exact ofG (pg_tup hc semGs hn hst) ⟨p, ys, rfl, sqT_mono ho.same h4, by rw [dpAll_len h5, hl], h ys σ G H Q he ho (IsAll.of h5) kk⟩
abbrev Bk (X : Cx) (scope : Scope) (s : Shared) (H : Hp) (C : Addr) (cl : List (Str × Addr)) (fp : List Addr) : Cx := X.blk s H scope (compEnvC scope cl C X.env) fp
def gB (X : Cx) (scope : Scope) (tg : Expr) : TG := fun v σ H Q => ∀ s H0 C cl fp, SemG (Bk X scope s H0 C cl fp) tg v σ H Q
def teB (X : Cx) (scope : Scope) (elt : Expr) : TE := fun σ H Q => ∀ s H0 C cl fp, SemE (Bk X scope s H0 C cl fp) elt σ H Q
theorem ae_lc {kp : MS → Prop} {k : DV → MS → Prop} (hc : X.calm = true) (hN : X.N.Nodup) (ok : BlkOk X.N X.env.scope scope own)
    (h : AI X tg iter ds M kp fun xs M1 => ∀ D, M1 D = none → ∃ W : Nat → List DV → MS → Prop, (∀ i acc M', W i acc M' → kp (upM M' D (.lst acc))) ∧ W 0 [] M1 ∧
      (∀ i d acc M', xs[i]? = some d → W i acc M' → acc.length < 100000 ∧ ∀ s H C cl fp, AGc (Bk X scope s H C cl fp) tg d (wipeD ds (own.map (·.2))) (upM M' D (.lst acc)) (own.map (·.2)) fun ds2 => ∀ s H C cl fp,
        AE (Bk X scope s H C cl fp) elt ds2 (upM M' D (.lst acc)) fun y M2 => ∃ M3, M2 = upM M3 D (.lst acc) ∧ W (i + 1) (acc ++ [y]) M3) ∧
      (∀ acc M', W xs.length acc M' → k (.raw (.ref D)) (upM M' D (.lst acc))))
    (hs : ∀ x, foldedSetIterable iter X.env x = pure x := by intro _; rfl) : AE X (.ListComp elt [⟨tg, iter, [], 0⟩] scope pos) ds M k := fun σ G H Q he ho kk =>
  ofE (pe_lc (own := own) (g := gB X scope tg) (tt := tYes) (te := teB X scope elt) hc hN semI ok
    (fun s H C cl fp => ⟨fun pins s' σ H' v u Q I r h => (h s H C cl fp).run pins s' u I r⟩) (fun _ _ _ _ _ => pts_nil) (fun s H C cl fp => ⟨fun pins s' σ H' Q I h => (h s H C cl fp).run pins s' I⟩) hs)
    (h σ G H _ he ho fun J xs G1 M1 H1 s1 o1 i1 k1 D hD => by
      obtain ⟨hg, hm⟩ := o1.fresh hD
      obtain ⟨W, hk, w0, step, done⟩ := k1 D hm
      obtain ⟨Gd, Y, wk, hG, hY⟩ := i1.ex
      have e1 := (he.mono s1).wipe (own.map (·.2))
      refine lc_it (g := gB X scope tg) (tt := tYes) (te := teB X scope elt) (vs := own.map (·.2)) (σ := σ) (D := D) (Qd := fun H => Q (.ref D) H) wk (fun i H' => ∃ G' M' acc, Same G1 G' ∧ Ok X.K G' (upM M' D (.lst acc)) H' ∧ W i acc M') ⟨G1, M1, [], Same.refl _, o1.put hg (x := .lst []) (m := .lst []) ⟨[], upd_same, .nil⟩, w0⟩
        (fun i H' hi ⟨G', M', acc, s', o', w'⟩ => hG G' _ H' s' o' (hk _ _ _ w')) (fun i x H' H2 hi ⟨G', M', acc, s', o', w'⟩ y => ?_) (fun H' ⟨G', M', acc, s', o', w'⟩ => ?_)
      · obtain ⟨G2, d, s2, o2, hx, i2⟩ := hY i H' x H2 hi y G' _ s' o' (hk _ _ _ w')
        obtain ⟨hl, st⟩ := step i d acc M' hx w'
        intro s H0 C cl fp
        refine st s H0 C cl fp x _ G2 H2 _ (e1.mono (s'.trans s2)) o2 i2 fun σ2 ds2 hw e2 k2 => ⟨hw.trans ?_, ?_⟩
        · have : ∀ vs : List Nat, L2.wipe (L2.wipe σ vs) vs = L2.wipe σ vs := by
            have aux : ∀ (us vs : List Nat), (∀ u ∈ us, u ∈ vs) → L2.wipe (L2.wipe σ us) vs = L2.wipe σ vs := by
              intro us
              induction us with
              | nil => intro vs _; rfl
              | cons u us ih =>
                intro vs hu
                show L2.wipe ((L2.wipe σ us).set u none) vs = _
                rw [wipe_set (hu u List.mem_cons_self)]
                exact ih vs fun v hv => hu v (List.mem_cons_of_mem _ hv)
            exact fun vs => aux vs vs fun _ h => h
          exact this _
        · unfold tYes
          simp only [if_true]
          unfold teB
          intro s H0 C cl fp
          refine k2 s H0 C cl fp σ2 G2 H2 _ e2 o2 fun v y G3 M3 H3 s3 o3 i3 ⟨M4, hM, w4⟩ => ?_
          subst hM
          obtain ⟨hg3, zs, h1, h2⟩ := o3.chg D _ upM_same
          refine ⟨zs, h1, sz_lt1000 (by rw [h2.len]; exact hl), G3, M4, acc ++ [y], s'.trans (s2.trans s3), ?_, w4⟩
          have := o3.put hg3 (x := .lst (zs ++ [v])) (m := .lst (acc ++ [y])) ⟨_, upd_same, h2.snoc i3⟩
          rw [upM_upM] at this
          exact this
      · exact kk (.ref D) (.raw (.ref D)) G' _ H' (s1.trans s') o' (show Is X.K G' (.ref D) (.raw (.ref D)) from rfl) (done acc M' w'))
end
end A

set_option Elab.async false
set_option linter.all false
set_option maxRecDepth 100000
set_option maxHeartbeats 2000000
namespace A
open PySem PySem.Spec PyProof.Rows L2
section
variable {X : Cx} {ds : DS} {M : MS} {k k' : DV → MS → Prop} {e a b c o tg iter elt : Expr} {es rest ifs : List Expr} {pos p apos cpos : Pos} {x name : Str} {Z : AEnds} {st : Stmt} {sts body els : List Stmt}
/-! ### more operators -/
def CPowW (i j : Int) : Prop := 0 ≤ j ∧ (Builtin.Int.intBits i : Int) * j ≤ 2 ^ 27
theorem op_powW : OpR X (binaryOp .Pow) (rI CPowW fun i j => .int (i ^ j.toNat)) := opI fun _ _ _ _ _ _ _ hc q => pow_int hc.1 hc.2 q
theorem ae_powW (h : AE X a ds M fun x M1 => AE X b ds M1 fun y M2 => ∃ i j, x = .dat (.int i) ∧ y = .dat (.int j) ∧ CPowW i j ∧ k (.dat (.int (i ^ j.toNat))) M2) : AE X (.BinOp a .Pow b pos) ds M k :=
  ae_op op_powW (h.imp fun x M1 h1 => h1.imp fun y M2 ⟨i, j, e1, e2, hc, q⟩ => by subst e1 e2; exact ar_I hc q)
theorem ae_cat (h : AE X a ds M fun x M1 => AE X b ds M1 fun y M2 => ∃ i j, x = .dat (.str i) ∧ y = .dat (.str j) ∧ i.length + j.length ≤ sizeLine ∧ k (.dat (.str (i ++ j))) M2) : AE X (.BinOp a .Add b pos) ds M k :=
  ae_op op_add_str (h.imp fun x M1 h1 => h1.imp fun y M2 ⟨i, j, e1, e2, hl, q⟩ => by
    subst e1 e2
    exact fun v w G H Q ho iv iw kk => ⟨i, j, dp_str_inv iv, dp_str_inv iw, hl, kk _ _ G M2 H (Same.refl _) ho (isd (Dp.str _)) q⟩)
/-- in, not in a tuple of texts -/
theorem inV_strs (z : Str) : ∀ zs : List Str, inV (.str z) (zs.map V.str) = decide (z ∈ zs)
  | [] => by simp [inV]
  | y :: ys => by
    have ih := inV_strs z ys
    unfold inV at ih ⊢
    rw [List.map_cons, List.any_cons, ih]
    show ((y == z) || decide (z ∈ ys)) = _
    by_cases h : y = z
    · subst h; simp
    · have h' : ¬ z = y := fun q => h q.symm
      simp [h, h']
theorem dpAll_strs {K : PySem.W.Frag} {H : Hp} : ∀ {zs : List Str} {vs : List V}, DpAll K H vs (zs.map PyData.str) → vs = zs.map V.str
  | [], _, .nil => rfl
  | z :: zs, _, .cons h t => by rw [dp_str_inv h, dpAll_strs t]; rfl
theorem flat_strs : ∀ zs : List Str, (zs.map V.str).all flatV = true
  | [] => rfl
  | z :: zs => by rw [List.map_cons, List.all_cons, flat_strs zs]; rfl
theorem ae_inS (h : AE X a ds M fun x M1 => AE X b ds M1 fun y M2 => ∃ (z : Str) (zs : List Str), x = .dat (.str z) ∧ y = .dat (.tuple (zs.map .str)) ∧ k (.dat (.bool (decide (z ∈ zs)))) M2) (hm : behindInMarks .In b = false := by rfl) : AE X (.Compare a [.In] [b] pos) ds M k :=
  ae_cmp op_in_seq (h.imp fun x M1 h1 => h1.imp fun y M2 ⟨z, zs, e1, e2, q⟩ => by
    subst e1 e2
    intro v w G H Q ho iv iw kk
    obtain ⟨p, ys, rfl, h4, h5⟩ := dp_tup_inv iw
    have e := dp_str_inv iv
    subst e
    have e := dpAll_strs h5
    subst e
    refine ⟨p, _, rfl, .inr (sqT_mono ho.same h4), rfl, flat_strs zs, ?_⟩
    have e2 : (if false = true then !inV (V.str z) (zs.map V.str) else inV (V.str z) (zs.map V.str)) = decide (z ∈ zs) := by rw [inV_strs]; rfl
    rw [e2]
    exact kk _ _ G M2 H (Same.refl _) ho (isd (Dp.bl _)) q) hm
theorem ae_niS (h : AE X a ds M fun x M1 => AE X b ds M1 fun y M2 => ∃ (z : Str) (zs : List Str), x = .dat (.str z) ∧ y = .dat (.tuple (zs.map .str)) ∧ k (.dat (.bool (!decide (z ∈ zs)))) M2) (hm : behindInMarks .NotIn b = false := by rfl) : AE X (.Compare a [.NotIn] [b] pos) ds M k :=
  ae_cmp op_notIn_seq (h.imp fun x M1 h1 => h1.imp fun y M2 ⟨z, zs, e1, e2, q⟩ => by
    subst e1 e2
    intro v w G H Q ho iv iw kk
    obtain ⟨p, ys, rfl, h4, h5⟩ := dp_tup_inv iw
    have e := dp_str_inv iv
    subst e
    have e := dpAll_strs h5
    subst e
    refine ⟨p, _, rfl, .inr (sqT_mono ho.same h4), rfl, flat_strs zs, ?_⟩
    have e2 : (if true = true then !inV (V.str z) (zs.map V.str) else inV (V.str z) (zs.map V.str)) = !decide (z ∈ zs) := by rw [inV_strs]; rfl
    rw [e2]
    exact kk _ _ G M2 H (Same.refl _) ho (isd (Dp.bl _)) q) hm

/-! ### copies -/
/-- list(xs): a list that may change -/
inductive SeqD (M : MS) : DV → List DV → Prop
  | lst (xs : List PyData) : SeqD M (.dat (.list xs)) (xs.map .dat)
  | tup (xs : List PyData) : SeqD M (.dat (.tuple xs)) (xs.map .dat)
  | chg {p : Addr} {xs : List DV} (h : M p = some (.lst xs)) : SeqD M (.raw (.ref p)) xs
theorem SeqD.of {K : PySem.W.Frag} {G H : Hp} {M : MS} {d : DV} {xs : List DV} {v : V} (t : SeqD M d xs) (ho : Ok K G M H) (i : Is K G v d) : ∃ p ys, v = .ref p ∧ (SqL K H p ys ∨ SqT K G p ys) ∧ IsAll K G ys xs := by
  cases t with
  | lst xs =>
    obtain ⟨p, ys, rfl, h4, h5⟩ := dp_lst_inv i
    exact ⟨p, ys, rfl, .inl (ho.same.seq h4), IsAll.of h5⟩
  | tup xs =>
    obtain ⟨p, ys, rfl, h4, h5⟩ := dp_tup_inv i
    exact ⟨p, ys, rfl, .inr h4, IsAll.of h5⟩
  | chg h =>
    have e : v = _ := i
    subst e
    obtain ⟨vs, h4, h5⟩ := (ho.chg _ _ h).2
    exact ⟨_, vs, rfl, .inl (SqL.of h4), h5⟩
theorem ae_listOf (hm : X.mg "list" = none) (h : AA X [a] ds M fun xs M1 => ∃ d ys, xs = [d] ∧ SeqD M1 d ys ∧ ∀ q, M1 q = none → k (.raw (.ref q)) (upM M1 q (.lst ys))) (hg : Gl X "list" := by rfl)
    (hs : starEach [a] X.env = (false, eval a X.env) :: starEach [] X.env := by rfl) (hpl : (backTo pos (starEach [] X.env)).any (·.1) = false := by rfl) : AE X (.Call (.Name "list" p) [a] [] pos) ds M k :=
  ae_callTy call_list_of hm (by decide +kernel) (h.imp fun xs M1 ⟨d, ys, e, h1, q⟩ => by
    subst e
    intro vs G H Q ho iv kk
    obtain ⟨v, rfl, h3⟩ := is1 iv
    obtain ⟨r, us, rfl, h4, h5⟩ := h1.of ho h3
    refine ⟨r, us, rfl, h4.imp id (sqT_mono ho.same), fun l hl => ?_⟩
    obtain ⟨hg, hm⟩ := ho.fresh hl
    exact kk _ _ G _ _ (Same.refl _) (ho.put hg (x := .lst us) (m := .lst ys) ⟨us, upd_same, h5⟩) (show Is X.K G (.ref l) (.raw (.ref l)) from rfl) (q l hm)) hg (by decide) (by decide) hs hpl
/-- tuple(xs) of plain data -/
theorem ae_tupleOf (hm : X.mg "tuple" = none) (h : AA X [a] ds M fun xs M1 => ∃ d ys, xs = [d] ∧ SeqD M1 d (ys.map .dat) ∧ k (.dat (.tuple ys)) M1) (hg : Gl X "tuple" := by rfl)
    (hs : starEach [a] X.env = (false, eval a X.env) :: starEach [] X.env := by rfl) (hpl : (backTo pos (starEach [] X.env)).any (·.1) = false := by rfl) : AE X (.Call (.Name "tuple" p) [a] [] pos) ds M k :=
  ae_callTy call_tuple_of hm (by decide +kernel) (h.imp fun xs M1 ⟨d, ys, e, h1, q⟩ => by
    subst e
    intro vs G H Q ho iv kk
    obtain ⟨v, rfl, h3⟩ := is1 iv
    obtain ⟨r, us, rfl, h4, h5⟩ := h1.of ho h3
    refine ⟨r, us, rfl, ?_⟩
    rcases h4 with h4 | h4
    · refine .inl ⟨h4, fun l hl => ?_⟩
      obtain ⟨o2, s2⟩ := ho.still hl (.tup us)
      exact kk _ _ _ M1 _ s2 o2 (isd (.tup (.inl (.inl upd_same)) (dpAll_mono s2 h5.dat))) q
    · exact .inr ⟨sqT_mono ho.same h4, kk _ _ G M1 H (Same.refl _) ho (isd (.tup h4 h5.dat)) q⟩) hg (by decide) (by decide) hs hpl
/-- list(range(..)) -/
theorem ae_listR1 (hc : X.calm = true) (hm : X.mg "list" = none) (hm2 : X.mg "range" = none) {p2 pos2 : Pos} (h : AE X a ds M fun x M1 => ∃ n, x = .dat (.int n) ∧ RgOk 0 n ∧ ∀ q, M1 q = none → k (.raw (.ref q)) (upM M1 q (.lst (rngD 0 n.toNat)))) (hg : Gl X "list" := by rfl) (hg2 : Gl X "range" := by rfl)
    (na : starEach [.Call (.Name "range" p2) [a] [] pos2] X.env = (false, eval (.Call (.Name "range" p2) [a] [] pos2) X.env) :: starEach [] X.env := by rfl) (nb : starEach [a] X.env = (false, eval a X.env) :: starEach [] X.env := by rfl) :
    AE X (.Call (.Name "list" p) [.Call (.Name "range" p2) [a] [] pos2] [] pos) ds M k := fun σ G H Q he ho kk =>
  ofE (pe_listRg hc hg hm (prg_1 hg2 hm2 semE nb) na) (h σ G H _ he ho fun v d G1 M1 H1 s1 o1 i1 k1 => by
    obtain ⟨n, rfl, hr, q⟩ := k1
    refine ⟨n, dp_int_inv i1, hr, fun l hl => ?_⟩
    obtain ⟨hg, hm⟩ := o1.fresh hl
    refine kk _ _ G1 _ _ s1 (o1.put hg (x := .lst (rgV 0 n)) (m := .lst (rngD 0 n.toNat)) ⟨_, upd_same, ?_⟩) (show Is X.K G1 (.ref l) (.raw (.ref l)) from rfl) (q l hm)
    unfold rgV rngD
    rw [Int.sub_zero]
    generalize n.toNat = m
    have : ∀ (l : List Nat), IsAll X.K G1 (l.map fun i => V.int (0 + (i : Nat))) (l.map fun i => DV.dat (.int (0 + (i : Nat)))) := by
      intro l
      induction l with
      | nil => exact .nil
      | cons x r ih => exact .cons (isd (.int _)) ih
    exact this _)
/-- sum of ints -/
theorem ints_of {K : PySem.W.Frag} {G : Hp} : ∀ {vs : List V} {ns : List Int}, IsAll K G vs (ns.map fun n => .dat (.int n)) → vs = ns.map V.int
  | _, [], .nil => rfl
  | _, n :: ns, .cons h t => by rw [List.map_cons, ← ints_of t, dp_int_inv h]
theorem ae_sum (hc : X.calm = true) (hm : X.mg "sum" = none) (h : AA X [a] ds M fun xs M1 => ∃ (d : DV) (ns : List Int), xs = [d] ∧ (d = .dat (.list (ns.map .int)) ∨ ∃ q, d = .raw (.ref q) ∧ M1 q = some (.lst (ns.map fun n => .dat (.int n)))) ∧ k (.dat (.int ns.sum)) M1) (hg : Gl X "sum" := by rfl)
    (hs : starEach [a] X.env = (false, eval a X.env) :: starEach [] X.env := by rfl) (hpl : (backTo pos (starEach [] X.env)).any (·.1) = false := by rfl) : AE X (.Call (.Name "sum" p) [a] [] pos) ds M k :=
  ae_callB (cr_sum hc) hm (by decide +kernel) (h.imp fun xs M1 ⟨d, ns, e, h1, q⟩ => by
    subst e
    intro vs G H Q ho iv kk
    obtain ⟨v, rfl, h3⟩ := is1 iv
    rcases h1 with rfl | ⟨l, rfl, hl⟩
    · obtain ⟨r, us, rfl, h4, h5⟩ := dp_lst_inv h3
      have e := ints_of (K := X.K) (G := G) (vs := us) (ns := ns) (by rw [show (ns.map fun n => DV.dat (.int n)) = (ns.map PyData.int).map DV.dat by rw [List.map_map]; rfl]; exact IsAll.of h5)
      subst e
      exact ⟨r, ns, rfl, ho.same.seq h4, kk _ _ G M1 H (Same.refl _) ho (isd (Dp.int _)) q⟩
    · obtain ⟨us, h4, h5⟩ := (ho.chg _ _ hl).2
      have e := ints_of h5
      subst e
      have ev : v = .ref l := h3
      subst ev
      exact ⟨l, ns, rfl, SqL.of h4, kk _ _ G M1 H (Same.refl _) ho (isd (Dp.int _)) q⟩) hg (by decide) (by decide) hs hpl
theorem bools_of {K : PySem.W.Frag} {G : Hp} : ∀ {vs : List V} {ns : List Bool}, IsAll K G vs (ns.map fun n => .dat (.bool n)) → vs = ns.map V.bl
  | _, [], .nil => rfl
  | _, n :: ns, .cons h t => by rw [List.map_cons, ← bools_of t, dp_bl_inv h]
theorem ae_all (hc : X.calm = true) (hm : X.mg "all" = none) (h : AA X [a] ds M fun xs M1 => ∃ (q : Addr) (ns : List Bool), xs = [.raw (.ref q)] ∧ M1 q = some (.lst (ns.map fun n => .dat (.bool n))) ∧ k (.dat (.bool (ns.all id))) M1) (hg : Gl X "all" := by rfl)
    (hs : starEach [a] X.env = (false, eval a X.env) :: starEach [] X.env := by rfl) (hpl : (backTo pos (starEach [] X.env)).any (·.1) = false := by rfl) : AE X (.Call (.Name "all" p) [a] [] pos) ds M k :=
  ae_callB (cr_all hc) hm (by decide +kernel) (h.imp fun xs M1 ⟨l, ns, e, hl, q⟩ => by
    subst e
    intro vs G H Q ho iv kk
    obtain ⟨v, rfl, h3⟩ := is1 iv
    obtain ⟨us, h4, h5⟩ := (ho.chg _ _ hl).2
    have e := bools_of h5
    subst e
    have ev : v = .ref l := h3
    subst ev
    exact ⟨l, ns, rfl, SqL.of h4, kk _ _ G M1 H (Same.refl _) ho (isd (Dp.bl _)) q⟩) hg (by decide) (by decide) hs hpl
/-- xs[i] = e -/
theorem IsAll.set {K : PySem.W.Frag} {G : Hp} {v : V} {d : DV} (hv : Is K G v d) : ∀ {vs : List V} {ds : List DV} (i : Nat), IsAll K G vs ds → IsAll K G (vs.set i v) (ds.set i d)
  | _, _, _, .nil => .nil
  | _, _, 0, .cons _ t => .cons hv t
  | _, _, i + 1, .cons h t => .cons h (IsAll.set hv i t)
theorem as_setI {tp} (h : AE X e ds M fun d M1 => AE X a ds M1 fun x M2 => AE X b ds M2 fun y M3 => ∃ q ys i j, x = .raw (.ref q) ∧ y = .dat (.int i) ∧ M3 q = some (.lst ys) ∧ ixN ys.length i = some j ∧ Z.nx ds (upM M3 q (.lst (ys.set j d))))
    (hs : swapsWithSole [.Subscript a b tp] e pos.line X.env = pure false := by rfl) (hw : swappedStores [.Subscript a b tp] e X.env = pure none := by rfl) (h1 : (assignEach [.Subscript a b tp] X.env).map (·.2) = [assign (.Subscript a b tp) X.env] := by rfl)
    (ha : ∀ v, assign (.Subscript a b tp) X.env v = (do
      let ov ← holding [v] (eval a X.env)
      let iv ← holding [v, ov] (eval b X.env)
      standAt tp
      holding [v, ov, iv] (setItem ov iv v)
      release [v, ov, iv] []) := by intro _; rfl) : AS X (.Assign [.Subscript a b tp] e pos) ds M Z := fun σ G H D he ho q =>
  ofS (ps_asg semE (pg_sub semE semE set_list ha) hs hw h1) (h σ G H _ he ho fun v d G1 M1 H1 s1 o1 i1 k1 => k1 σ G1 H1 _ (he.mono s1) o1 fun vx x G2 M2 H2 s2 o2 i2 k2 => k2 σ G2 H2 _ (he.mono (s1.trans s2)) o2 fun vy y G3 M3 H3 s3 o3 i3 k3 => by
    obtain ⟨r, ys, i, j, rfl, rfl, hm, hj, k3⟩ := k3
    obtain ⟨hg, us, h1, h2⟩ := o3.chg _ _ hm
    have e1 : vx = .ref r := i2
    subst e1
    have s13 := s1.trans (s2.trans s3)
    refine ⟨r, us, i, j, rfl, dp_int_inv i3, h1, by rw [h2.len]; exact hj, ?_⟩
    exact q.nx _ _ G3 _ _ s13 (he.mono s13) (o3.put hg (x := .lst (us.set j v)) (m := .lst (ys.set j d)) ⟨_, upd_same, IsAll.set (i1.mono (s2.trans s3)) j h2⟩) k3)
/-- (a, b, ..) = a list -/
theorem ag_unl {n m} {xs : List DV} {d : DV} {k : DS → MS → Prop} (hc : X.calm = true) (hd : SeqD M d xs) (hl : xs.length = m) (hnt : ∀ ys, d ≠ .dat (.tuple ys)) (h : AGs X es xs ds M k) (hn : (assignEach es X.env).length = m := by rfl) (hst : (assignEach es X.env).findIdx? (·.1) = none := by rfl) :
    AG X (.Tuple es n pos) d ds M k := fun v σ G H Q he ho iv kk => by
  have key : ∃ p ys, v = .ref p ∧ SqL X.K H p ys ∧ IsAll X.K G ys xs := by
    cases hd with
    | lst xs =>
      obtain ⟨p, ys, rfl, h4, h5⟩ := dp_lst_inv iv
      exact ⟨p, ys, rfl, ho.same.seq h4, IsAll.of h5⟩
    | tup xs => exact absurd rfl (hnt _)
    | chg h =>
      have e : v = _ := iv
      subst e
      obtain ⟨vs, h4, h5⟩ := (ho.chg _ _ h).2
      exact ⟨_, vs, rfl, SqL.of h4, h5⟩
  obtain ⟨p, ys, rfl, h4, h5⟩ := key
  exact ofG (pg_unl hc semGs hn hst) ⟨p, ys, rfl, h4, by rw [h5.len, hl], h ys σ G H Q he ho h5 kk⟩
end
end A

set_option Elab.async false
set_option linter.all false
set_option maxRecDepth 100000
set_option maxHeartbeats 2000000
namespace A
open PySem PySem.Spec PyProof.Rows L2
/-! ### enumerate(list, start=c) -/
def IteS (K : PySem.W.Frag) (c : Int) (a : Addr) : It :=
  ⟨fun i H => ∃ (xs : List V) (x : V), SqL K H a xs ∧ xs[i]? = some x, fun i H v H' => ∃ T x, v = .ref T ∧ H T = none ∧ H' = upd H T (.tup [.int (c + (i : Nat)), x]) ∧ ∀ xs, SqL K H a xs → xs[i]? = some x, fun i H => ∃ xs : List V, SqL K H a xs ∧ xs.length = i⟩
theorem list_ne_iter {h : Heap} {a it : Addr} {items : Array Value} {n i : Nat} (hl : h.IsList a items) (hi : h.IsListIter it n i) : a ≠ it := fun z => by
  obtain ⟨o, q, q2, _⟩ := hl
  obtain ⟨o', q', q3, _⟩ := hi
  rw [z, q'] at q
  cases q
  rw [q3] at q2
  exact absurd q2 (by decide)
theorem list_ne_enum {h : Heap} {a e it : Addr} {items : Array Value} {c : Int} {old : Value} (hl : h.IsList a items) (he : IsEnum h e it c old) : a ≠ e := fun z => by
  obtain ⟨o, q, q2, _⟩ := hl
  rw [z, he] at q
  cases q
  have q3 : Value.type "enumerate" = Value.type "list" := q2
  exact absurd q3 (by decide)
/-- the library's walk over enumerate(list, c) as a turn of the layer -/
theorem turn_enumS {P : Program} {w : World} {K : PySem.W.Frag} {elts : List Expr} {kk : Nat} {tpos : Pos} (c : Int) (a e it : Addr) (hei : e ≠ it) :
    Turn P w K (.Tuple elts kk tpos) (IteS K c a) [e, it] e (fun i h => (∃ old, IsEnum h e it (c + (i : Int)) old) ∧ h.IsListIter it a i) := by
  refine ⟨by simp, fun i h st b hb => ?_, fun i h h' st keep => ?_, ?_, ?_, fun A i s Q E st q => ?_⟩
  · rcases List.mem_cons.mp hb with rfl | hb
    · obtain ⟨⟨old, he⟩, _⟩ := st
      exact ⟨_, he, fun v q => nomatch q⟩
    · obtain rfl := List.mem_singleton.mp hb
      obtain ⟨_, o, ho, _, hd⟩ := st
      exact ⟨o, ho, fun v q => by rw [hd] at q; cases q⟩
  · obtain ⟨⟨old, he⟩, hi⟩ := st
    exact ⟨⟨old, keep _ (by simp) _ he⟩, hi.at fun o q => keep _ (by simp) o q⟩
  · rintro X rfl rfl rfl calm i pins s σ H E I far ⟨⟨old, he⟩, hit⟩ ⟨xs, x, hq, hx⟩
    obtain ⟨its, rv, pl, _⟩ := I.list hq
    obtain ⟨u, hu, ru⟩ := rv.get hx
    have hl := pl.isList
    have W := WalksT.enumFrom (A := X.A) c (Draws.list (prog := X.prog) (w := X.w) (A := X.A.in1) (I.ok.hd calm) it a (list_ne_iter hl hit) its.toArray) e hei (by simp [hei, Ne.symm (list_ne_enum hl he)]) (by simp)
    have hlt : i < its.toArray.size := by simpa using (List.getElem?_eq_some_iff.mp hu).1
    refine W.item i s _ _ hlt ⟨⟨old, he⟩, hit, hl⟩ fun T vals h1 tk hP hT hT1 hM k1 => ⟨.ref T, rfl, ?_⟩
    refine W.go elts kk tpos i T { s with heap := h1, toks := tk } _ _ hM fun h2 hS k2 => ?_
    obtain ⟨t, y, hy, rfl⟩ := hP
    have ey : y = u := by
      have h1 : its.toArray[i]? = some u := by simpa using hu
      exact Option.some.inj (hy.symm.trans h1)
    subst ey
    have far2 : ∀ b ∈ [e, it], b < s.heap.objs.size := fun b hb => by
      rcases List.mem_cons.mp hb with rfl | hb
      · exact Heap.lt_size he
      · obtain rfl := List.mem_singleton.mp hb
        obtain ⟨_, q, _⟩ := hit
        exact Heap.lt_size q
    have hT2 : ObjOk X.prog X.w (upd H T (.tup [.int (c + (i : Int)), x])) h2 T (.tup [.int (c + (i : Int)), x]) := by
      obtain ⟨o, ho, hc⟩ := hT1
      exact ⟨by show 2 ≤ sizeLine; decide, [.int (c + (i : Int)) t, y], .cons ⟨_, rfl⟩ (.cons ru .nil), o, k2 T o (W.apart i T h1 hM) ho, hc⟩
    have I2 := I.turnedNew (t' := tk) (ch := [e, it]) (fun b o hb q => k2 b o hb (k1 b o hb q)) far hT hT2
    obtain ⟨hS1, hS2, _⟩ := hS
    refine ⟨.ref T, _, I2, rfl, ⟨T, x, rfl, I.hok.fresh hT, rfl, fun ys hy => by rw [I.list_inj hy hq]; exact hx⟩, ⟨?_, hS2⟩, fun b hb => ?_⟩
    · exact hS1
    · rw [upd_ne (Nat.ne_of_lt (Nat.lt_of_lt_of_le (far2 b hb) hT))]
      exact (far b hb).1
  · rintro X rfl rfl rfl calm i pins s σ H E I far ⟨⟨old, he⟩, hit⟩ ⟨xs, hq, hx⟩
    obtain ⟨its, rv, pl, _⟩ := I.list hq
    have hl := pl.isList
    have D := Draws.list (prog := X.prog) (w := X.w) (A := X.A.in1) (I.ok.hd calm) it a (list_ne_iter hl hit) its.toArray
    have hi : i = its.toArray.size := by
      have := rv.length
      simp
      omega
    subst hi
    obtain ⟨f0, f1, f2, f3, f4, f5⟩ := far it (by simp)
    exact wpAny_pyNext_enum_endD D he ⟨hit, hl⟩ fun h' eb => ⟨rfl, I.turned (t' := s.toks) (fun b o hb q => eb b o hb q) f0 f1 f3 f4 f5⟩
  · obtain ⟨⟨_, he⟩, _⟩ := st
    exact wpAny_pyIter_enum he q
section
variable {X : Cx} {ds : DS} {M : MS} {k k' : DV → MS → Prop} {e a b c o tg iter elt : Expr} {es rest ifs : List Expr} {pos p apos cpos tpos : Pos} {x name : Str} {Z : AEnds} {elts : List Expr} {kk : Nat}
def iEnumS (K : PySem.W.Frag) (c : Int) (ta : TA) : TI := fun σ H R => ta σ H fun vs H1 => ∃ a xs, vs = [.ref a] ∧ SqL K H1 a xs ∧ R (IteS K c a) H1
theorem callTypeKw {M : Model} {A : Around} {E : Value → Shared → Prop} {s : Shared} {env : Env} {pos : Pos} {T : String} {kws : List Keyword} {Q : Value → Shared → Prop} (hall : (backToKw pos (keywordEach kws env)).all (·.1.isSome) = true) (hnone : (backToKw pos (keywordEach kws env)).any (·.1.isNone) = false)
    (he : starEach (e :: es) env = (false, eval e env) :: starEach es env) (hpl : (backTo pos (starEach (e :: es) env)).any (·.1) = false)
    (h : wpAny M A (spliced (backTo pos (starEach (e :: es) env))) (fun vs s1 => wpAny M A (evalAll ((backToKw pos (keywordEach kws env)).map (·.2))) (fun ks s2 => wpAny M A (call (.type T) vs (((backToKw pos (keywordEach kws env)).filterMap (·.1)).zip ks)) Q E s2) E s1) E s) :
    wpAny M A (callWith pos (.type T) [] (backTo pos (starEach (e :: es) env)) (backToKw pos (keywordEach kws env))) Q E s := by
  unfold callWith
  refine wpAny_bind (wpAny_holding (wpAny_mono (PyProof.Rows.evalArgs_kw2 (Q := fun a s1 => wpAny M A (call (.type T) a.pos a.kw) Q E s1) hall h he) (fun a s1 h1 => wpAny_bind (wpAny_standAt ?_)) fun _ _ x => x))
  rw [hpl, hnone]
  exact wpAny_bind (wpAny_pure (wpAny_bind (wpAny_mono h1 (fun r s2 hr => wpAny_bind (wpAny_holding (wpAny_point (wpAny_pure hr)))) fun _ _ x => x)))
theorem pi_enumS {c : Nat} {ta : TA} {kpos cp : Pos} {j : Nat} (hc : c < 1000) (hg : Gl X "enumerate") (hm : X.mg "enumerate" = none) (ha : PA X [e] ta) (hs : starEach [e] X.env = (false, eval e X.env) :: starEach [] X.env := by rfl) :
    PI X (.Tuple elts kk tpos) (.Call (.Name "enumerate" p) [e] [⟨some "start", .Constant (.int c) j cp, kpos⟩] pos) (iEnumS X.K c ta) := by
  refine ⟨fun pins s σ H R I h => ?_⟩
  refine wpAny_Call_Name_kw (ld_blt I hg hm boot_enumerate ?_)
  refine callTypeKw rfl rfl hs (by rw [hs]; rfl) (thn (ha.run pos pins s σ H _ I h) fun us s1 ⟨vs, H1, I1, r1, q1⟩ => ?_)
  obtain ⟨a, xs, rfl, hq, q⟩ := q1
  have e1 : us = [.ref a] := by
    cases r1 with
    | cons r rr => cases rr; cases r; rfl
  subst e1
  refine kws_cons (wpAny_Constant_int (kws_nil ?_))
  obtain ⟨its, rv, pl, _⟩ := I1.list hq
  have I1' := I1.tok (s1.toks + 1)
  refine enum_begins_start (begins_list a its.toArray) pl.isList (by omega) (by omega) fun h' he hi hsz hk => wpAny_pyIter_enum he ?_
  have I2 : Inv X pins σ H1 { s1 with heap := h', toks := s1.toks + 1 } := I1.kept (t' := s1.toks + 1) hk
  refine ⟨s1.heap.objs.size + 1, [s1.heap.objs.size + 1, s1.heap.objs.size], _, _, H1, rfl, I2, turn_enumS c a (s1.heap.objs.size + 1) s1.heap.objs.size (Nat.succ_ne_self _), ⟨⟨.none, ?_⟩, ⟨_, hi, rfl, rfl⟩⟩, fun b hb => ?_, q⟩
  · have : (c : Int) + ((0 : Nat) : Int) = c := by omega
    rw [this]; exact he
  · have hle : s1.heap.objs.size ≤ b := by
      rcases List.mem_cons.mp hb with rfl | hb
      · exact Nat.le_succ _
      · obtain rfl := List.mem_singleton.mp hb
        exact Nat.le_refl _
    exact I1.fpOk hle (I1.hok.fresh hle)
theorem walk_enumS {K : PySem.W.Frag} {a : Addr} {xs : List V} {c : Int} : Walk (IteS K c a) xs.length (fun H => SqL K H a xs) (YPair (fun i => some (.int (c + (i : Nat)))) (fun i => xs[i]?)) := by
  refine ⟨fun i _ hi q => ⟨xs, xs[i], q, by simp [hi]⟩, fun _ q => ⟨xs, q, rfl⟩, fun i H v H' _ q y => ?_⟩
  obtain ⟨T, x, h1, h2, h3, h4⟩ := y
  exact ⟨T, .int (c + (i : Nat)), x, h1, h2, h3, rfl, h4 xs q⟩
/-- the items of enumerate(xs, start=c) -/
def enumD (c : Int) (xs : List PyData) : List DV := (List.range xs.length).map fun i => .dat (.tuple [.int (c + (i : Nat)), xs.getD i .none])
theorem ai_enumS {k : List DV → MS → Prop} {c : Nat} {kpos cp : Pos} {j : Nat} (hm : X.mg "enumerate" = none) (h : AA X [e] ds M fun vs M1 => ∃ xs : List PyData, vs = [.dat (.list xs)] ∧ k (enumD c xs) M1) (hc : c < 1000 := by decide) (hg : Gl X "enumerate" := by rfl)
    (hs : starEach [e] X.env = (false, eval e X.env) :: starEach [] X.env := by rfl) : AI X (.Tuple elts kk tpos) (.Call (.Name "enumerate" p) [e] [⟨some "start", .Constant (.int c) j cp, kpos⟩] pos) ds M kT k := fun σ G H R he ho kk =>
  ofI (pi_enumS hc hg hm semA hs) (h σ G H _ he ho fun vs d G1 M1 H1 s1 o1 i1 k1 => by
    obtain ⟨xs, rfl, q⟩ := k1
    obtain ⟨v, rfl, h3⟩ := is1 i1
    obtain ⟨r, ys, rfl, h4, h5⟩ := dp_lst_inv h3
    refine ⟨r, ys, rfl, o1.same.seq h4, kk _ _ G1 M1 H1 s1 o1 ⟨_, _, by unfold enumD; rw [List.length_map, List.length_range, ← dpAll_len h5]; exact walk_enumS (xs := ys), fun G3 M3 H3 s3 o3 _ => (s3.trans o3.same).seq h4, fun i H3 x H4 hi y G3 M3 s3 o3 _ => ?_⟩ q⟩
    obtain ⟨T, u, w, rfl, hT, rfl, e1, e2⟩ := y
    cases e1
    obtain ⟨d, h6, h7⟩ := dpAll_get h5 e2
    obtain ⟨o4, s4⟩ := o3.still hT (.tup [.int ((c : Int) + (i : Nat)), w])
    refine ⟨_, .dat (.tuple [.int ((c : Int) + (i : Nat)), d]), s4, o4, ?_, isd (.tup (.inl (.inl upd_same)) (.cons (.int _) (.cons (dp_mono (s3.trans s4) h7) .nil)))⟩
    have hl : i < xs.length := (List.getElem?_eq_some_iff.mp h6).1
    unfold enumD
    rw [List.getElem?_map, List.getElem?_range hl]
    simp [h6])
/-- zip of two tuples -/
theorem walk_zipT {K : PySem.W.Frag} {a b : Addr} {xs ys : List V} {n : Nat} (hn : n = min xs.length ys.length) : Walk (RZ.ItzT K a b) n (fun H => SqT K H a xs ∧ SqT K H b ys) (YPair (fun i => xs[i]?) (fun i => ys[i]?)) := by
  subst hn
  refine ⟨fun i H hi q => ?_, fun H q => ⟨xs, ys, q.1, q.2, by omega⟩, fun i H v H' _ q y => ?_⟩
  · obtain ⟨h1, h2⟩ : i < xs.length ∧ i < ys.length := by omega
    exact ⟨xs, ys, _, _, q.1, q.2, List.getElem?_eq_getElem h1, List.getElem?_eq_getElem h2⟩
  · obtain ⟨T, x, z, e1, e2, e3, e4, e5⟩ := y
    exact ⟨T, x, z, e1, e2, e3, e4 xs q.1, e5 ys q.2⟩
theorem ai_zipT {k : List DV → MS → Prop} (hm : X.mg "zip" = none) (h : AA X [a, b] ds M fun vs M1 => ∃ xs ys : List PyData, vs = [.dat (.tuple xs), .dat (.tuple ys)] ∧ k (pairD xs ys) M1) (hg : Gl X "zip" := by rfl)
    (hs : starEach [a, b] X.env = (false, eval a X.env) :: starEach [b] X.env := by rfl) (hpl : (backTo pos (starEach [b] X.env)).any (·.1) = false := by rfl) :
    AI X (.Tuple elts kk tpos) (.Call (.Name "zip" p) [a, b] [] pos) ds M kT k := fun σ G H R he ho kk =>
  ofI (RZ.pi_zipA hg hm semA hs hpl) (h σ G H _ he ho fun vs d G1 M1 H1 s1 o1 i1 k1 => by
    obtain ⟨xs, ys, rfl, q⟩ := k1
    obtain ⟨v, w, rfl, h3, h4⟩ := is2 i1
    obtain ⟨r, us, rfl, h5, h6⟩ := dp_tup_inv h3
    obtain ⟨r', ws, rfl, h7, h8⟩ := dp_tup_inv h4
    exact ⟨r, r', us, ws, rfl, .inr ⟨sqT_mono o1.same h5, sqT_mono o1.same h7, kk _ _ G1 M1 H1 s1 o1 (it_pair h6 h8 (walk_zipT rfl) fun G3 M3 H3 s3 o3 => ⟨sqT_mono (s3.trans o3.same) h5, sqT_mono (s3.trans o3.same) h7⟩) q⟩⟩)
end
end A

set_option Elab.async false
set_option linter.all false
set_option maxRecDepth 100000
set_option maxHeartbeats 2000000
namespace A
open PySem PySem.Spec PyProof.Rows L2
section
variable {X : Cx} {ds : DS} {M : MS} {k k' : DV → MS → Prop} {e a b c o tg iter elt value : Expr} {es rest ifs : List Expr} {pos pos' p apos cpos tpos kpos : Pos} {x name f : Str} {Z : AEnds} {elts : List Expr} {kk : Nat} {kws : List Keyword} {nm : Option Str}
/-! ### instances -/
theorem lookup_is {K : PySem.W.Frag} {G : Hp} : ∀ {vs : List (Str × V)} {fs : List (Str × DV)} {x : Str} {d : DV}, Paired (fun (p : Str × V) (q : Str × DV) => p.1 = q.1 ∧ Is K G p.2 q.2) vs fs → fs.lookup x = some d → ∃ v, vs.lookup x = some v ∧ Is K G v d
  | _, _, _, _, .nil, e => by simp at e
  | (y, v) :: _, (y', d') :: _, x, d, .cons ⟨h1, h2⟩ t, e => by
    have h1' : y = y' := h1
    subst h1'
    rw [List.lookup_cons] at e ⊢
    cases q : x == y with
    | true => rw [q] at e; cases e; exact ⟨v, rfl, h2⟩
    | false => rw [q] at e; exact lookup_is t e
theorem lookup_isO {K : PySem.W.Frag} {G : Hp} : ∀ {vs : List (Str × V)} {fs : List (Str × PyData)} {x : Str} {d : PyData}, Paired (fun (p : Str × V) (q : Str × PyData) => p.1 = q.1 ∧ Dp K G p.2 q.2) vs fs → fs.lookup x = some d → ∃ v, vs.lookup x = some v ∧ Dp K G v d
  | _, _, _, _, .nil, e => by simp at e
  | (y, v) :: _, (y', d') :: _, x, d, .cons ⟨h1, h2⟩ t, e => by
    have h1' : y = y' := h1
    subst h1'
    rw [List.lookup_cons] at e ⊢
    cases q : x == y with
    | true => rw [q] at e; cases e; exact ⟨v, rfl, h2⟩
    | false => rw [q] at e; exact lookup_isO t e
/-- o.f of an instance that stands still -/
theorem ae_fldO (hb : attributeBase e f X.env (eval e X.env) = eval e X.env := by rfl) (h : AE X e ds M fun x M1 => ∃ C fs d, x = .obj C fs ∧ Cls X.K C ∧ NoAttr X.K C f ∧ fs.lookup f = some d ∧ k (.dat d) M1) : AE X (.Attribute e f pos) ds M k := fun σ G H Q he ho kk =>
  ofE (pe_fld semE hb) (h σ G H _ he ho fun v d G1 M1 H1 s1 o1 i1 k1 => by
    obtain ⟨C, fs, d, rfl, hc, hn, hl, q⟩ := k1
    obtain ⟨a, dx, vs, rfl, h2, h3⟩ := i1
    obtain ⟨v, h4, h5⟩ := lookup_isO h3 hl
    exact ⟨a, C, dx, vs, v, rfl, o1.sub _ _ h2, hc, hn, h4, kk _ _ G1 M1 H1 s1 o1 (isd h5) q⟩)
/-- o.f of one that may change -/
theorem ae_fldM (hb : attributeBase e f X.env (eval e X.env) = eval e X.env := by rfl) (h : AE X e ds M fun x M1 => ∃ q C fs d, x = .raw (.ref q) ∧ M1 q = some (.ins C fs) ∧ Cls X.K C ∧ NoAttr X.K C f ∧ fs.lookup f = some d ∧ k d M1) : AE X (.Attribute e f pos) ds M k := fun σ G H Q he ho kk =>
  ofE (pe_fld semE hb) (h σ G H _ he ho fun v d G1 M1 H1 s1 o1 i1 k1 => by
    obtain ⟨q, C, fs, d, rfl, hm, hc, hn, hl, z⟩ := k1
    obtain ⟨_, dx, vs, h2, h3⟩ := o1.chg _ _ hm
    obtain ⟨v', h4, h5⟩ := lookup_is h3 hl
    exact ⟨q, C, dx, vs, v', i1, h2, hc, hn, h4, kk _ _ G1 M1 H1 s1 o1 h5 z⟩)
def putFD (f : Str) (d : DV) : List (Str × DV) → List (Str × DV)
  | [] => [(f, d)]
  | (g, e) :: r => if g = f then (g, d) :: r else (g, e) :: putFD f d r
theorem putF_is {K : PySem.W.Frag} {G : Hp} {f : Str} {v : V} {d : DV} (hv : Is K G v d) : ∀ {vs : List (Str × V)} {fs : List (Str × DV)}, Paired (fun (p : Str × V) (q : Str × DV) => p.1 = q.1 ∧ Is K G p.2 q.2) vs fs →
    Paired (fun (p : Str × V) (q : Str × DV) => p.1 = q.1 ∧ Is K G p.2 q.2) (putF f v vs) (putFD f d fs)
  | _, _, .nil => .cons ⟨rfl, hv⟩ .nil
  | (y, u) :: vs, (y', e) :: fs, .cons ⟨h1, h2⟩ t => by
    have h1' : y = y' := h1
    subst h1'
    unfold putF putFD
    by_cases h : y = f
    · rw [if_pos h, if_pos h]; exact .cons ⟨rfl, hv⟩ t
    · rw [if_neg h, if_neg h]; exact .cons ⟨rfl, h2⟩ (putF_is hv t)
theorem as_fld (h : AE X value ds M fun d M1 => AE X o ds M1 fun x M2 => ∃ q C fs, x = .raw (.ref q) ∧ M2 q = some (.ins C fs) ∧ Cls X.K C ∧ NoAttr X.K C f ∧ fs.length < 1000 ∧ Z.nx ds (upM M2 q (.ins C (putFD f d fs))))
    (hs : swapsWith value (some (.Attribute o f pos')) pos.line X.env = pure false := by rfl) : AS X (.Assign [.Attribute o f pos'] value pos) ds M Z := fun σ G H D he ho q =>
  ofS (ps_fld semE semE hs) (h σ G H _ he ho fun v d G1 M1 H1 s1 o1 i1 k1 => k1 σ G1 H1 _ (he.mono s1) o1 fun w x G2 M2 H2 s2 o2 i2 k2 => by
    obtain ⟨r, C, fs, rfl, hm, hc, hn, hl, k3⟩ := k2
    obtain ⟨hg, dx, vs, h2, h3⟩ := o2.chg _ _ hm
    have s12 := s1.trans s2
    refine ⟨r, C, dx, vs, i2, h2, hc, hn, by rw [Paired.length h3]; exact hl, ?_⟩
    exact q.nx _ _ G2 _ _ s12 (he.mono s12) (o2.put hg (x := .ins C dx (putF f v vs)) (m := .ins C (putFD f d fs)) ⟨dx, _, upd_same, putF_is (i1.mono s2) h3⟩) k3)
/-- C(e, ..) -/
theorem ae_make {C g : Addr} {fd : FuncData} {ps : List Str} {j : Nat} {S : DS1} (Mc : Mk X.K C g) (F : FnOk X.prog X.w X.K X.mg X.base CX0 j g fd ps (spM X.K S)) (hb : Binds X.K fd ps []) (hr : Room (j + 1) X.A) (hm : X.mg x = some (.ref C))
    (h : AA X (e :: es) ds M fun xs M1 => ∀ q, M1 q = none → S (.raw (.ref q) :: xs) (upM M1 q (.ins C [])) fun d M2 => d = .dat .none ∧ k (.raw (.ref q)) M2) (hg : Gl X x := by rfl)
    (hdb : (x == ("__debug__" : Str)) = false := by decide) (hs : starEach (e :: es) X.env = (false, eval e X.env) :: starEach es X.env := by rfl) (hpl : (backTo pos (starEach es X.env)).any (·.1) = false := by rfl) :
    AE X (.Call (.Name x p) (e :: es) [] pos) ds M k := fun σ G H Q he ho kk =>
  ofE (pe_make Mc F hr hg hm hb .nil pass0 semA hdb hs hpl) (h σ G H _ he ho fun vs xs G1 M1 H1 s1 o1 i1 k1 => fun q dx hq hdx hne => by
    obtain ⟨hg, hmq⟩ := o1.fresh hq
    have o2 : Ok X.K G1 (upM M1 q (.ins C [])) (upd (upd H1 dx (.own q)) q (.ins C dx [])) := by
      obtain ⟨hg2, hm2⟩ := o1.fresh hdx
      have o3 : Ok X.K G1 M1 (upd H1 dx (.own q)) := by
        refine ⟨fun a y z => ?_, fun a m z => ?_, o1.tb⟩
        · rw [upd_ne (ne_of_none z hg2)]; exact o1.sub a y z
        · have ha : a ≠ dx := fun w => by rw [w, hm2] at z; cases z
          obtain ⟨h1, h2⟩ := o1.chg a m z
          exact ⟨h1, h2.mono (Same.refl _) (upd_ne ha)⟩
      exact o3.put hg (x := .ins C dx []) (m := .ins C []) ⟨dx, [], upd_same, .nil⟩
    refine ⟨G1, _, .raw (.ref q) :: xs, _, o2, ?_, k1 q hmq, fun v d G2 M2 H2 s2 o2 i2 z => ?_⟩
    · rw [List.append_nil]
      exact .cons (show Is X.K G1 (.ref q) (.raw (.ref q)) from rfl) i1
    · obtain ⟨rfl, z⟩ := z
      exact ⟨dp_non_inv i2, kk _ _ G2 M2 H2 (s1.trans s2) o2 (show Is X.K G2 (.ref q) (.raw (.ref q)) from rfl) z⟩)
theorem kv_mono {K : PySem.W.Frag} {G G' : Hp} (s : Same G G') : ∀ {vs : List (Str × V)} {fs : List (Str × PyData)}, Paired (fun (p : Str × V) (q : Str × DV) => p.1 = q.1 ∧ Is K G p.2 q.2) vs (fs.map fun p => (p.1, DV.dat p.2)) →
    Paired (fun (p : Str × V) (q : Str × PyData) => p.1 = q.1 ∧ Dp K G' p.2 q.2) vs fs
  | _, [], .nil => .nil
  | _, _ :: _, .cons h t => .cons ⟨h.1, dp_mono s h.2⟩ (kv_mono s t)
/-- an instance stands still from here on -/
theorem Ok.freezeI {K : PySem.W.Frag} {G H : Hp} {M : MS} {q C : Addr} {fs : List (Str × PyData)} (ho : Ok K G M H) (h : M q = some (.ins C (fs.map fun p => (p.1, .dat p.2)))) :
    ∃ G2, Same G G2 ∧ Ok K G2 (fun a => if a = q then none else M a) H ∧ Is K G2 (.ref q) (.obj C fs) := by
  obtain ⟨hg, dx, vs, h1, h2⟩ := ho.chg _ _ h
  have s : Same G (upd G q (.ins C dx vs)) := fun a o e => by
    rw [upd_ne (ne_of_none e hg)]; exact e
  refine ⟨upd G q (.ins C dx vs), s, ⟨fun a o e => ?_, fun a m e => ?_, fun a ps e => ?_⟩, q, dx, vs, rfl, upd_same, ?_⟩
  · by_cases ha : a = q
    · subst ha; rw [upd_same] at e; rw [h1]; exact e
    · rw [upd_ne ha] at e; exact ho.sub a o e
  · by_cases ha : a = q
    · subst ha; simp at e
    · simp only [ha, if_false] at e
      obtain ⟨h3, h4⟩ := ho.chg a m e
      exact ⟨by rw [upd_ne ha]; exact h3, h4.mono s rfl⟩
  · by_cases ha : a = q
    · subst ha; rw [upd_same] at e; cases e
    · rw [upd_ne ha] at e; exact ho.tb a ps e
  · exact kv_mono s h2
/-- .. as an expression's value -/
theorem ae_frz (h : AE X e ds M fun d M1 => ∃ q C fs, d = .raw (.ref q) ∧ M1 q = some (.ins C (fs.map fun p => (p.1, DV.dat p.2))) ∧ k (.obj C fs) (fun a => if a = q then none else M1 a)) : AE X e ds M k := fun σ G H Q he ho kk =>
  h σ G H Q he ho fun v d G1 M1 H1 s1 o1 i1 ⟨q, C, fs, ed, hM, z⟩ => by
    subst ed
    obtain ⟨G2, s2, o2, i2⟩ := o1.freezeI hM
    have e : v = .ref q := i1
    subst e
    exact kk _ _ G2 _ H1 (s1.trans s2) o2 i2 z

/-! ### calls with keywords alone -/
structure SemKw (X : Cx) (kws : List Keyword) (σ : L2.St) (H : Hp) (Q : List V → Hp → Prop) : Prop where
  run : ∀ pos pins s, Inv X pins σ H s → wpAny (model X.prog X.w) X.A (evalAll ((backToKw pos (keywordEach kws X.env)).map (·.2))) (AP X pins σ Q) X.xe s
theorem semKw : PK X kws (SemKw X kws) := ⟨fun pos pins s σ H Q I h => h.run pos pins s I⟩
def AK (X : Cx) (kws : List Keyword) (ds : DS) (M : MS) (k : List DV → MS → Prop) : Prop :=
  ∀ σ G H Q, EnvOk X.K G σ ds → Ok X.K G M H → (∀ vs d G2 M2 H2, Same G G2 → Ok X.K G2 M2 H2 → IsAll X.K G2 vs d → k d M2 → Q vs H2) → SemKw X kws σ H Q
theorem ofKw {t : TA} {σ : L2.St} {H : Hp} {Q : List V → Hp → Prop} (h : PK X kws t) (q : t σ H Q) : SemKw X kws σ H Q := ⟨fun pos pins s I => h.run pos pins s σ H Q I q⟩
theorem ak_nil {k : List DV → MS → Prop} (q : k [] M) : AK X [] ds M k := fun σ G H Q he ho kk => ofKw pk_nil (kk [] [] G M H (Same.refl _) ho .nil q)
theorem ak_cons {k : List DV → MS → Prop} (h : AE X e ds M fun d M1 => AK X kws ds M1 fun r M2 => k (d :: r) M2) : AK X (⟨nm, e, kpos⟩ :: kws) ds M k := fun σ G H Q he ho kk =>
  ofKw (pk_cons semE semKw) (h σ G H _ he ho fun v d G1 M1 H1 s1 o1 i1 k1 => k1 σ G1 H1 _ (he.mono s1) o1 fun vs r G2 M2 H2 s2 o2 i2 k2 => kk (v :: vs) (d :: r) G2 M2 H2 (s1.trans s2) o2 (.cons (i1.mono s2) i2) k2)
/-- the values of the keywords ks in the parameters' order -/
structure DefK (P : Program) (w : World) (K : PySem.W.Frag) (mg : Str → Option Value) (base : Heap) (x : Str) (ks : List Str) (g : {α : Type} → List α → List α) (k : Nat) (S : DS1) : Prop where
  ex : ∃ (f : Addr) (fd : FuncData) (ps : List Str), FnOk P w K mg base CX0 k f fd ps (spM K S) ∧ mg x = some (.ref f) ∧ PySem.W.keepIn K (.ref f) = true ∧ KBinds K fd ps ks (fun us ws => us ++ g ws) (fun vs zs => vs ++ g zs)
theorem ae_callK {ks : List Str} {g : {α : Type} → List α → List α} {j : Nat} {S : DS1} (F : DefK X.prog X.w X.K X.mg X.base x ks g j S) (hr : Room j X.A) (h : AK X kws ds M fun zs M1 => S (g zs) M1 k) (hgr : ∀ {K : PySem.W.Frag} {G : Hp} {vs : List V} {zs : List DV}, IsAll K G vs zs → IsAll K G (g vs) (g zs)) (hg : Gl X x := by rfl)
    (hall : (backToKw pos (keywordEach kws X.env)).all (·.1.isSome) = true := by rfl) (hks : (backToKw pos (keywordEach kws X.env)).filterMap (·.1) = ks := by rfl)
    (hdb : (x == ("__debug__" : Str)) = false := by decide) (hpl : ((backTo pos (starEach [] X.env)).any (·.1) || (backToKw pos (keywordEach kws X.env)).any (·.1.isNone)) = false := by rfl) :
    AE X (.Call (.Name x p) [] kws pos) ds M k := by
  obtain ⟨f, fd, ps, F, hm, hk, hb⟩ := F.ex
  refine fun σ G H Q he ho kk => ⟨fun pins s I => ?_⟩
  refine wpAny_Call_Name_kw (ld_glob I hg hm ?_ hdb)
  refine PySem.W.callWith_KW0 (h₀ := X.base) I.ok.mod.kin hk hall ?_ hpl
  refine thn (semKw.run pos pins s σ H (fun zs H1 => spM X.K S (g zs) H1 Q E0) I (h σ G H _ he ho fun vs xs G1 M1 H1 s1 o1 i1 k1 => ⟨G1, M1, g xs, k, o1, hgr i1, k1, fun v d G2 M' H2 s2 o2 i2 q => kk v d G2 M' H2 (s1.trans s2) o2 i2 q⟩)) fun ws s2 ⟨zs, H2, I2, rz, q2⟩ => ⟨I2.kIn, ?_⟩
  rw [hks]
  exact run_fnk F hr hb pass0 I2 .nil rz q2
end
end A

set_option Elab.async false
set_option linter.all false
set_option maxRecDepth 100000
set_option maxHeartbeats 2000000
namespace A
open PySem PySem.Spec PyProof.Rows L2
section
variable {X : Cx} {ds : DS} {M : MS} {k k' : DV → MS → Prop} {e a b c o tg iter elt value : Expr} {es rest ifs : List Expr} {pos pos' p p2 apos cpos tpos kpos : Pos} {x name f : Str} {Z : AEnds} {elts : List Expr} {kk : Nat} {kws : List Keyword} {nm : Option Str} {lo hi : Option Expr}
/-! ### slices of lists -/
structure SemO (X : Cx) (e : Option Expr) (σ : L2.St) (H : Hp) (Q : Option Int → Hp → Prop) : Prop where
  run : ∀ pins s, Inv X pins σ H s → wpAny (model X.prog X.w) X.A (evalPart e X.env) (fun u s' => ∃ o H', Inv X pins σ H' s' ∧ IsPart u o ∧ Q o H') X.xe s
theorem semO {e : Option Expr} : PO X e (SemO X e) := ⟨fun pins s σ H Q I h => h.run pins s I⟩
theorem ofO {e : Option Expr} {t : TO} {σ : L2.St} {H : Hp} {Q : Option Int → Hp → Prop} (h : PO X e t) (q : t σ H Q) : SemO X e σ H Q := ⟨fun pins s I => h.run pins s σ H Q I q⟩
def AO (X : Cx) (e : Option Expr) (ds : DS) (M : MS) (k : Option Int → MS → Prop) : Prop :=
  ∀ σ G H Q, EnvOk X.K G σ ds → Ok X.K G M H → (∀ i G2 M2 H2, Same G G2 → Ok X.K G2 M2 H2 → k i M2 → Q i H2) → SemO X e σ H Q
theorem ao_none {k : Option Int → MS → Prop} (q : k none M) : AO X none ds M k := fun σ G H Q he ho kk => ofO po_none (kk none G M H (Same.refl _) ho q)
theorem ao_some {k : Option Int → MS → Prop} (h : AE X e ds M fun d M1 => ∃ i, d = .dat (.int i) ∧ k (some i) M1) : AO X (some e) ds M k := fun σ G H Q he ho kk =>
  ofO (po_some semE) (h σ G H _ he ho fun v d G1 M1 H1 s1 o1 i1 k1 => by
    obtain ⟨i, rfl, q⟩ := k1
    exact ⟨i, dp_int_inv i1, kk _ G1 M1 H1 s1 o1 q⟩)
def cutD {α : Type} (xs : List α) (lo hi : Option Int) : List α := (xs.drop (HT.sIx xs.length 0 lo)).take (HT.sIx xs.length xs.length hi - HT.sIx xs.length 0 lo)
theorem dpAll_drop {K : PySem.W.Frag} {H : Hp} : ∀ {vs : List V} {ds : List PyData} (n : Nat), DpAll K H vs ds → DpAll K H (vs.drop n) (ds.drop n)
  | _, _, 0, h => h
  | _, _, _ + 1, .nil => .nil
  | _, _, n + 1, .cons _ t => dpAll_drop n t
theorem dpAll_take {K : PySem.W.Frag} {H : Hp} : ∀ {vs : List V} {ds : List PyData} (n : Nat), DpAll K H vs ds → DpAll K H (vs.take n) (ds.take n)
  | _, _, 0, _ => .nil
  | _, _, _ + 1, .nil => .nil
  | _, _, n + 1, .cons h t => .cons h (dpAll_take n t)
theorem ae_sl (h : AE X e ds M fun x M1 => AO X lo ds M1 fun i M2 => AO X hi ds M2 fun j M3 => ∃ xs, x = .dat (.list xs) ∧ k (.dat (.list (cutD xs i j))) M3) : AE X (.Subscript e (.Slice lo hi none p2) pos) ds M k := fun σ G H Q he hok kk =>
  ofE (pe_slice sl_list semE semO semO) (h σ G H _ he hok fun v x G1 M1 H1 s1 o1 i1 k1 => k1 σ G1 H1 _ (he.mono s1) o1 fun i G2 M2 H2 s2 o2 k2 => k2 σ G2 H2 _ (he.mono (s1.trans s2)) o2 fun j G3 M3 H3 s3 o3 k3 => by
    obtain ⟨xs, rfl, q⟩ := k3
    obtain ⟨p, ys, rfl, h4, h5⟩ := dp_lst_inv i1
    have s23 := s2.trans s3
    refine ⟨p, ys, rfl, (s23.trans o3.same).seq h4, fun l hl => ?_⟩
    obtain ⟨o4, s4⟩ := o3.still hl (.lst (cutV ys i j))
    refine kk _ _ _ M3 _ (s1.trans (s23.trans s4)) o4 (isd (.lst (.inl (.inl upd_same)) ?_)) q
    have h6 : ∀ {K : PySem.W.Frag} {H : Hp}, DpAll K H ys xs → DpAll K H (cutV ys i j) (cutD xs i j) := fun h => by
      unfold cutV cutD
      rw [dpAll_len h]
      exact dpAll_take _ (dpAll_drop _ h)
    exact h6 (dpAll_mono (s23.trans s4) h5))

/-! ### written dicts -/
def ADs (X : Cx) (ds : DS) : List (Option Expr) → List Expr → MS → (List (DV × DV) → MS → Prop) → Prop
  | some e :: ks, v :: vs, M, k => AE X e ds M fun d M1 => AE X v ds M1 fun y M2 => ADs X ds ks vs M2 fun r M3 => k ((d, y) :: r) M3
  | [], [], M, k => k [] M
  | _, _, _, _ => False
def trsOf (X : Cx) : List (Option Expr) → List Expr → List (TE × TE)
  | some e :: ks, v :: vs => (SemE X e, SemE X v) :: trsOf X ks vs
  | _, _ => []
theorem pps_of : ∀ {ks : List (Option Expr)} {vs : List Expr}, ks.all (·.isSome) = true → ks.length = vs.length → PPs X pos ks vs (trsOf X ks vs)
  | [], [], _, _ => pps_nil
  | some e :: ks, v :: vs, h, hl => pps_cons semE semE (pps_of (by simpa using h) (by simpa using hl))
  | none :: ks, _, h, _ => by simp at h
  | _ :: _, [], _, hl => by simp at hl
  | [], _ :: _, _, hl => by simp at hl
theorem ads_run {σ : L2.St} : ∀ {ks : List (Option Expr)} {vs : List Expr} {M : MS} {k : List (DV × DV) → MS → Prop} {G H : Hp} {Q : List (V × V) → Hp → Prop}, ADs X ds ks vs M k → EnvOk X.K G σ ds → Ok X.K G M H →
    (∀ ps qs G2 M2 H2, Same G G2 → Ok X.K G2 M2 H2 → Paired (fun (p : V × V) (q : DV × DV) => Is X.K G2 p.1 q.1 ∧ Is X.K G2 p.2 q.2) ps qs → k qs M2 → Q ps H2) → tPairs (trsOf X ks vs) σ H Q
  | [], [], M, k, G, H, Q, h, he, ho, kk => kk [] [] G M H (Same.refl _) ho .nil h
  | some e :: ks, v :: vs, M, k, G, H, Q, h, he, ho, kk => h σ G H _ he ho fun u d G1 M1 H1 s1 o1 i1 k1 => k1 σ G1 H1 _ (he.mono s1) o1 fun w y G2 M2 H2 s2 o2 i2 k2 =>
      ads_run k2 (he.mono (s1.trans s2)) o2 fun ps qs G3 M3 H3 s3 o3 i3 k3 => kk _ _ G3 M3 H3 (s1.trans (s2.trans s3)) o3 (.cons ⟨i1.mono (s2.trans s3), i2.mono s3⟩ i3) k3
  | none :: _, _, _, _, _, _, _, h, _, _, _ => by unfold ADs at h; exact h.elim
  | some _ :: _, [], _, _, _, _, _, h, _, _, _ => h.elim
  | [], _ :: _, _, _, _, _, _, h, _, _, _ => h.elim
def mergeD (kvs more : List (Key × DV)) : List (Key × DV) := more.foldl (fun acc kv => putD acc kv.1 kv.2) kvs
theorem merge_is {K : PySem.W.Frag} {G : Hp} {more : List (Key × V)} {more' : List (Key × DV)} (h : KvIs K G more more') : ∀ {kvs : List (Key × V)} {kvs' : List (Key × DV)}, KvIs K G kvs kvs' → KvIs K G (mergeK kvs more) (mergeD kvs' more') := by
  induction h with
  | nil => exact fun h => h
  | @cons a b l1 l2 h t ih =>
    intro kvs kvs' g
    have e := h.1
    show KvIs K G (mergeK (putK kvs a.1 a.2) l1) (mergeD (putD kvs' b.1 b.2) l2)
    rw [← e]
    exact ih (putK_is h.2 g)
theorem ae_disp {keys : List (Option Expr)} {values : List Expr} (h : ∀ q, M q = none → ADs X ds keys values (upM M q (.dK [])) fun qs M2 => ∃ kvs : List (Str × DV), qs = kvs.map (fun kv => (DV.dat (.str kv.1), kv.2)) ∧ kvs.length ≤ 15 ∧ M2 q = some (.dK []) ∧ k (.raw (.ref q)) (upM M2 q (.dK (mergeD [] (kvs.map fun kv => (.inr kv.1, kv.2))))))
    (hall : keys.all (·.isSome) = true := by rfl) (hl : keys.length = values.length := by rfl) (h0 : keys ≠ [] := by exact fun z => nomatch z) (h15 : keys.length ≤ 15 := by decide) : AE X (.Dict keys values pos) ds M k := fun σ G H Q he ho kk =>
  ofE (pe_disp (pps_of hall hl) hall hl h0 h15) (fun q hq => by
    obtain ⟨hg, hm⟩ := ho.fresh hq
    refine ads_run (h q hm) he (ho.put hg (x := .dK []) (m := .dK []) ⟨[], upd_same, .nil⟩) fun ps qs G2 M2 H2 s2 o2 i2 ⟨kvs, e1, h3, h4, z⟩ => ?_
    subst e1
    obtain ⟨hg2, ws, h5, h6⟩ := o2.chg _ _ h4
    cases h6
    have key : ∀ {ps : List (V × V)} {kvs : List (Str × DV)}, Paired (fun (p : V × V) (q : DV × DV) => Is X.K G2 p.1 q.1 ∧ Is X.K G2 p.2 q.2) ps (kvs.map fun kv => (DV.dat (.str kv.1), kv.2)) →
        ∃ us : List (Key × V), ps = us.map (fun kv => (kV kv.1, kv.2)) ∧ us.length = kvs.length ∧ KvIs X.K G2 us (kvs.map fun kv => (.inr kv.1, kv.2)) := by
      intro ps kvs
      induction kvs generalizing ps with
      | nil => intro h; cases h; exact ⟨[], rfl, rfl, .nil⟩
      | cons kv r ih =>
        intro h
        cases h with
        | cons h t =>
          obtain ⟨us, e1, e2, e3⟩ := ih t
          rename_i p ps
          obtain ⟨p1, p2⟩ := p
          have e := dp_str_inv h.1
          refine ⟨(.inr kv.1, p2) :: us, ?_, by simp [e2], .cons ⟨rfl, h.2⟩ e3⟩
          rw [e1]
          show (p1, p2) :: _ = (V.str kv.1, p2) :: _
          rw [show p1 = V.str kv.1 from e]
    obtain ⟨us, e1, e2, e3⟩ := key i2
    exact ⟨h5, us, e1, by rw [e2]; exact h3, kk _ _ G2 _ _ s2 (o2.put hg2 (x := .dK (mergeK [] us)) (m := .dK (mergeD [] _)) ⟨_, upd_same, merge_is e3 .nil⟩) (show Is X.K G2 (.ref q) (.raw (.ref q)) from rfl) z⟩)

/-! ### methods of texts -/
theorem arm_S1 {C : Str → Str → Prop} {g : Str → Str → Str} {r : V → List V → Hp → VK → Prop} (hr : r = fun x xs H Q => ∃ a b, x = .str a ∧ xs = [.str b] ∧ C a b ∧ Q (.str (g a b)) H) {z w : Str} (hc : C z w) (h : k (.dat (.str (g z w))) M) : ARM X.K r (.dat (.str z)) [.dat (.str w)] M k := by
  subst hr
  intro v vs G H Q ho iv ivs kk
  obtain ⟨u, rfl, h1⟩ := is1 ivs
  exact ⟨z, w, dp_str_inv iv, by rw [dp_str_inv h1], hc, kk _ _ G M H (Same.refl _) ho (isd (Dp.str _)) h⟩
theorem arm_B0 {r : V → List V → Hp → VK → Prop} {g : Str → Bool} (hr : r = fun x xs H Q => ∃ a, x = .str a ∧ xs = [] ∧ True ∧ Q (.bl (g a)) H) {z : Str} (h : k (.dat (.bool (g z))) M) : ARM X.K r (.dat (.str z)) [] M k := by
  subst hr
  intro v vs G H Q ho iv ivs kk
  cases ivs
  exact ⟨z, dp_str_inv iv, rfl, trivial, kk _ _ G M H (Same.refl _) ho (isd (Dp.bl _)) h⟩
theorem arm_B1 {r : V → List V → Hp → VK → Prop} {g : Str → Str → Bool} (hr : r = fun x xs H Q => ∃ a b, x = .str a ∧ xs = [.str b] ∧ Q (.bl (g a b)) H) {z w : Str} (h : k (.dat (.bool (g z w))) M) : ARM X.K r (.dat (.str z)) [.dat (.str w)] M k := by
  subst hr
  intro v vs G H Q ho iv ivs kk
  obtain ⟨u, rfl, h1⟩ := is1 ivs
  exact ⟨z, w, dp_str_inv iv, by rw [dp_str_inv h1], kk _ _ G M H (Same.refl _) ho (isd (Dp.bl _)) h⟩
theorem arm_join {z : Str} {d : DV} {ys : List Str} (hd : d = .dat (.list (ys.map .str)) ∨ d = .dat (.tuple (ys.map .str)) ∨ ∃ q, d = .raw (.ref q) ∧ M q = some (.lst (ys.map fun y => .dat (.str y)))) (hl : (ys.map (·.length)).sum + ys.length * z.length ≤ 16777216) (h : k (.dat (.str (Txt.join z ys))) M) :
    ARM X.K (fun x xs H Q => ∃ a p, ∃ ys : List Str, x = .str a ∧ xs = [.ref p] ∧ (SqL X.K H p (ys.map V.str) ∨ SqT X.K H p (ys.map V.str)) ∧ (ys.map (·.length)).sum + ys.length * a.length ≤ 16777216 ∧ Q (.str (Txt.join a ys)) H) (.dat (.str z)) [d] M k := by
  intro v vs G H Q ho iv ivs kk
  obtain ⟨u, rfl, h1⟩ := is1 ivs
  have fin : Q (.str (Txt.join z ys)) H := kk _ _ G M H (Same.refl _) ho (isd (Dp.str _)) h
  rcases hd with rfl | rfl | ⟨q, rfl, hq⟩
  · obtain ⟨r, us, rfl, h4, h5⟩ := dp_lst_inv h1
    have e := dpAll_strs h5
    subst e
    exact ⟨z, r, ys, dp_str_inv iv, rfl, .inl (ho.same.seq h4), hl, fin⟩
  · obtain ⟨r, us, rfl, h4, h5⟩ := dp_tup_inv h1
    have e := dpAll_strs h5
    subst e
    exact ⟨z, r, ys, dp_str_inv iv, rfl, .inr (sqT_mono ho.same h4), hl, fin⟩
  · obtain ⟨us, h4, h5⟩ := (ho.chg _ _ hq).2
    have e : u = .ref q := h1
    subst e
    have h6 : DpAll X.K G us (ys.map PyData.str) := IsAll.dat (by rw [List.map_map]; exact h5)
    have e := dpAll_strs h6
    subst e
    exact ⟨z, q, ys, dp_str_inv iv, rfl, .inl (SqL.of h4), hl, fin⟩
theorem arm_split {z w : Str} (h0 : (w.length == 0) = false) (hl : z.length + 2 ≤ sizeLine) (h : k (.dat (.list ((Txt.split z w).map .str))) M) :
    ARM X.K (fun x xs H Q => ∃ a b, x = .str a ∧ xs = [.str b] ∧ (b.length == 0) = false ∧ a.length + 2 ≤ sizeLine ∧ rNewStrs (Txt.split a b) H Q) (.dat (.str z)) [.dat (.str w)] M k := by
  intro v vs G H Q ho iv ivs kk
  obtain ⟨u, rfl, h1⟩ := is1 ivs
  refine ⟨z, w, dp_str_inv iv, by rw [dp_str_inv h1], h0, hl, fun l hl => ?_⟩
  obtain ⟨o2, s2⟩ := ho.still hl (.lst ((Txt.split z w).map V.str))
  refine kk _ _ _ M _ s2 o2 (isd (.lst (.inl (.inl upd_same)) ?_)) h
  have : ∀ ys : List Str, DpAll X.K (upd G l (.lst ((Txt.split z w).map V.str))) (ys.map V.str) (ys.map PyData.str) := by
    intro ys
    induction ys with
    | nil => exact .nil
    | cons y r ih => exact .cons (.str y) ih
  exact this _
theorem arm_partition {z w : Str} (h0 : (w.length == 0) = false) (hl : z.length ≤ sizeLine) (h : k (.dat (.tuple [.str (Txt.partition z w).1, .str (Txt.partition z w).2.1, .str (Txt.partition z w).2.2])) M) :
    ARM X.K (fun x xs H Q => ∃ a b, x = .str a ∧ xs = [.str b] ∧ (b.length == 0) = false ∧ a.length ≤ sizeLine ∧ ∀ p, H p = none → Q (.ref p) (upd H p (.tup [.str (Txt.partition a b).1, .str (Txt.partition a b).2.1, .str (Txt.partition a b).2.2]))) (.dat (.str z)) [.dat (.str w)] M k := by
  intro v vs G H Q ho iv ivs kk
  obtain ⟨u, rfl, h1⟩ := is1 ivs
  refine ⟨z, w, dp_str_inv iv, by rw [dp_str_inv h1], h0, hl, fun l hl => ?_⟩
  obtain ⟨o2, s2⟩ := ho.still hl (.tup [.str (Txt.partition z w).1, .str (Txt.partition z w).2.1, .str (Txt.partition z w).2.2])
  exact kk _ _ _ M _ s2 o2 (isd (.tup (.inl (.inl upd_same)) (.cons (.str _) (.cons (.str _) (.cons (.str _) .nil))))) h
theorem ae_join (h : AE X o ds M fun x M1 => ∃ z, x = .dat (.str z) ∧ AA X [a] ds M1 fun xs M2 => ∃ d ys, xs = [d] ∧ (d = .dat (.list (ys.map .str)) ∨ d = .dat (.tuple (ys.map .str)) ∨ ∃ q, d = .raw (.ref q) ∧ M2 q = some (.lst (ys.map fun y => .dat (.str y)))) ∧ (ys.map (·.length)).sum + ys.length * z.length ≤ 16777216 ∧ k (.dat (.str (Txt.join z ys))) M2)
    (hbase : attributeBase o "join" X.env (eval o X.env) = eval o X.env := by rfl)
    (hfew : ((backTo cpos (starEach [a] X.env)).all (fun x => !x.1) && (backToKw cpos (keywordEach [] X.env)).all (fun x => x.1.isSome) && decide (([a] : List Expr).length + ([] : List Keyword).length + (if ([] : List Keyword).isEmpty then 0 else 1) < 30)) = true := by rfl)
    (hline : (apos.endLine == cpos.line) = true := by rfl) (hs : starEach [a] X.env = (false, eval a X.env) :: starEach [] X.env := by rfl) (hplain : (backTo cpos (starEach [] X.env)).any (·.1) = false := by rfl) : AE X (.Call (.Attribute o "join" apos) [a] [] cpos) ds M k :=
  ae_bm PySem.F.plainAttrs_str PySem.F.slot_str_join PySem.F.type_str_join mt_join (h.imp fun x M1 ⟨z, e, h2⟩ => by
    subst e
    exact ⟨.str z, h2.imp fun xs M2 ⟨d, ys, e, hd, hl, q⟩ => by subst e; exact arm_join hd hl q⟩) hbase hfew hline hs hplain
end
end A

set_option Elab.async false
set_option linter.all false
set_option maxRecDepth 100000
set_option maxHeartbeats 2000000
namespace A
open PySem PySem.Spec PyProof.Rows L2
section
variable {X : Cx} {ds : DS} {M : MS} {k k' : DV → MS → Prop} {e a b c o tg iter elt value : Expr} {es rest ifs : List Expr} {pos pos' p p2 apos cpos tpos kpos : Pos} {x name f : Str} {Z : AEnds} {elts : List Expr} {kk : Nat} {kws : List Keyword} {nm : Option Str} {lo hi : Option Expr} {body els : List Stmt} {st : Stmt} {sts : List Stmt} {scope : Scope} {own : List (Str × Nat)}
/-- a test worked out apart -/
theorem as_ifP (R : Bool) (h : AT X c ds M fun r M1 => r = R ∧ M1 = M) (h1 : R = true → ASs X body ds M Z) (h2 : R = false → ASs X els ds M Z) : AS X (.If c body els pos) ds M Z :=
  as_if (h.imp fun r M1 ⟨e1, e2⟩ => by subst e1 e2; exact ⟨h1, h2⟩)
theorem ae_ifP (R : Bool) (h : AT X c ds M fun r M1 => r = R ∧ M1 = M) (h1 : R = true → AE X a ds M k) (h2 : R = false → AE X b ds M k) : AE X (.IfExp c a b pos) ds M k :=
  ae_if (h.imp fun r M1 ⟨e1, e2⟩ => by subst e1 e2; exact ⟨h1, h2⟩)
theorem at_P (R : Bool) {kt : Bool → MS → Prop} (h : AT X c ds M fun r M1 => r = R ∧ M1 = M) (q : kt R M) : AT X c ds M kt := h.imp fun r M1 ⟨e1, e2⟩ => by subst e1 e2; exact q
theorem aw_P (R : Bool) {kt : Bool → MS → Prop} (h : AW X c ds M fun r M1 => r = R ∧ M1 = M) (q : kt R M) : AW X c ds M kt := fun σ G H Q he ho kk => h σ G H Q he ho fun b G2 M2 H2 s2 o2 ⟨e1, e2⟩ => by subst e1 e2; exact kk _ _ _ _ s2 o2 q
/-- a value worked out apart -/
theorem ae_P (d : DV) (h : AE X e ds M fun r M1 => r = d ∧ M1 = M) (q : k d M) : AE X e ds M k := h.imp fun r M1 ⟨e1, e2⟩ => by subst e1 e2; exact q
theorem ae_PM (d : DV) (N : MS) (h : AE X e ds M fun r M1 => r = d ∧ M1 = N) (q : k d N) : AE X e ds M k := h.imp fun r M1 ⟨e1, e2⟩ => by subst e1 e2; exact q
/-- a module's constant -/
def GlobD (K : PySem.W.Frag) (mg : Str → Option Value) (x : Str) (d : PyData) : Prop := ∃ v u, mg x = some u ∧ RelV v u ∧ ∀ G, Dp K G v d
theorem ae_globD {d : PyData} (h : GlobD X.K X.mg x d) (q : k (.dat d) M) (hg : Gl X x := by rfl) (hdb : (x == ("__debug__" : Str)) = false := by decide) : AE X (.Name x pos) ds M k := by
  obtain ⟨v, u, h1, h2, h3⟩ := h
  exact ae_glob h1 h2 h3 q hg hdb
theorem globD_int {K : PySem.W.Frag} {mg : Str → Option Value} {x : Str} {n : Int} {t : Tok} (h : mg x = some (.int n t)) : GlobD K mg x (.int n) := ⟨.int n, _, h, ⟨t, rfl⟩, fun _ => .int n⟩
theorem globD_str {K : PySem.W.Frag} {mg : Str → Option Value} {x : Str} {n : Str} {t : Tok} (h : mg x = some (.str n t)) : GlobD K mg x (.str n) := ⟨.str n, _, h, ⟨t, rfl⟩, fun _ => .str n⟩
/-- the comprehension's value, worked out item by item, nothing changed -/
theorem ae_lcP {kp : MS → Prop} {k : DV → MS → Prop} (hc : X.calm = true) (hN : X.N.Nodup) (ok : BlkOk X.N X.env.scope scope own) (g : DV → DV)
    (h : AI X tg iter ds M kp fun xs M1 => (∀ D m, M1 D = none → kp (upM M1 D m)) ∧ xs.length < 100000 ∧ (∀ d M', d ∈ xs → Le M1 M' → ∀ s H C cl fp, AGc (Bk X scope s H C cl fp) tg d (wipeD ds (own.map (·.2))) M' (own.map (·.2)) fun ds2 => ∀ s H C cl fp,
        AE (Bk X scope s H C cl fp) elt ds2 M' fun y M2 => y = g d ∧ M2 = M') ∧
      ∀ D, M1 D = none → k (.raw (.ref D)) (upM M1 D (.lst (xs.map g))))
    (hs : ∀ x, foldedSetIterable iter X.env x = pure x := by intro _; rfl) : AE X (.ListComp elt [⟨tg, iter, [], 0⟩] scope pos) ds M k :=
  ae_lc hc hN ok (h.imp fun xs M1 ⟨hk, hl, h1, h2⟩ D hD => ⟨fun i acc M' => acc = (xs.take i).map g ∧ M' = M1, fun i acc M' ⟨_, e⟩ => by rw [e]; exact hk D _ hD, ⟨rfl, rfl⟩, fun i d acc M' hx ⟨e1, e2⟩ => by
    subst e1 e2
    have hi : i < xs.length := (List.getElem?_eq_some_iff.mp hx).1
    refine ⟨by rw [List.length_map, List.length_take]; omega, fun s H C cl fp => ?_⟩
    intro v σ G H' Q he ho iv kk'
    refine h1 d _ (List.mem_of_getElem? hx) (Le.up (Le.refl _) hD) s H C cl fp v σ G H' Q he ho iv fun σ' ds' w e2 k2 => kk' σ' ds' w e2 fun s H C cl fp => (k2 s H C cl fp).imp fun y M2 ⟨e3, e4⟩ => ⟨_, e4, ?_, rfl⟩
    rw [e3, List.take_add_one, hx, List.map_append]
    rfl, fun acc M' ⟨e1, e2⟩ => by
    subst e1 e2
    rw [List.take_length]
    exact h2 D hD⟩) hs
/-- the slot of a name in a written list of names -/
class IxOf (N : List Str) (x : Str) (i : outParam Nat) : Prop where
  at_ : N[i]? = some x
instance (priority := high) ix_here {x : Str} {N : List Str} : IxOf (x :: N) x 0 := ⟨rfl⟩
instance (priority := low) ix_there {x y : Str} {N : List Str} {i : Nat} [h : IxOf N x i] : IxOf (y :: N) x (i + 1) := ⟨by rw [List.getElem?_cons_succ]; exact h.at_⟩
theorem ae_nameT {N : List Str} {i : Nat} {d : DV} (hl : X.N = N) [ix : IxOf N x i] (hd : ds[i]? = some (some d)) (q : k d M) (hv : Vis X.env.scope x := by first | exact Or.inl rfl | exact Or.inr (Or.inl rfl) | exact Or.inr (Or.inr rfl))
    (hdb : (x == ("__debug__" : Str)) = false := by decide) (hcd : (x == ("__classdict__" : Str)) = false := by decide) : AE X (.Name x pos) ds M k := ae_name i hd q (by rw [hl]; exact ix.at_) hv hdb hcd
theorem ag_nameT {N : List Str} {i : Nat} {d : DV} {k : DS → MS → Prop} (hl : X.N = N) [ix : IxOf N x i] (hN : N.Nodup) (h : k (ds.set i (some d)) M) (hx : Loc X.env.scope x := by first | exact Or.inl rfl | exact Or.inr rfl)
    (hf : X.fn x = true ∨ X.env.scope.names.lookup x = some .local := by first | exact .inl rfl | exact .inr rfl) : AG X (.Name x pos) d ds M k := ag_name i h (by rw [hl]; exact hN) (by rw [hl]; exact ix.at_) hx hf
theorem agc_nameT {N : List Str} {i : Nat} {d : DV} {vs : List Nat} {k : DS → Prop} (hl : X.N = N) [ix : IxOf N x i] (hN : N.Nodup) (h : k (ds.set i (some d))) (hm : i ∈ vs := by decide) (hx : Loc X.env.scope x := by first | exact Or.inl rfl | exact Or.inr rfl)
    (hf : X.fn x = true ∨ X.env.scope.names.lookup x = some .local := by first | exact .inl rfl | exact .inr rfl) : AGc X (.Name x pos) d ds M vs k := agc_name i h (by rw [hl]; exact hN) hm (by rw [hl]; exact ix.at_) hx hf
theorem as_setT {N : List Str} {i : Nat} {pos' : Pos} (hl : X.N = N) [ix : IxOf N x i] (hN : N.Nodup) (h : AE X e ds M fun d M1 => ASs X sts (ds.set i (some d)) M1 Z) (hx : Loc X.env.scope x := by first | exact Or.inl rfl | exact Or.inr rfl)
    (hs : swapsWith e (some (.Name x pos')) pos.line X.env = pure false := by rfl) (hf : X.fn x = true ∨ X.env.scope.names.lookup x = some .local := by first | exact .inl rfl | exact .inr rfl) : ASs X (.Assign [.Name x pos'] e pos :: sts) ds M Z :=
  as_cons (as_set i (by rw [hl]; exact hN) h (by rw [hl]; exact ix.at_) hx hs hf)
end
end A

set_option Elab.async false
set_option linter.all false
set_option maxRecDepth 100000
set_option maxHeartbeats 2000000
namespace A
open PySem PySem.Spec PyProof.Rows L2
section
variable {X : Cx} {ds : DS} {M : MS} {a b c e : Expr} {pos : Pos} {kt : Bool → MS → Prop} {k : DV → MS → Prop}
theorem at_cmp {op : CmpOp} {r : R2} (ho : OpR X (compareOp op) r) (h : AE X a ds M fun x M1 => AE X b ds M1 fun y M2 => AR X.K r x y M2 fun d M3 => ∃ c, d = .dat (.bool c) ∧ kt c M3) (hm : behindInMarks op b = false) : AT X (.Compare a [op] [b] pos) ds M kt := fun σ G H Q he hok kk =>
  ofT (pt_cmpR ho semE semE hm) (h σ G H _ he hok fun v x G1 M1 H1 s1 o1 i1 k1 => k1 σ G1 H1 _ (he.mono s1) o1 fun w y G2 M2 H2 s2 o2 i2 k2 =>
    k2 v w G2 H2 _ o2 (i1.mono s2) i2 fun u d G3 M3 H3 s3 o3 i3 k3 => by
      obtain ⟨c, rfl, q⟩ := k3
      exact ⟨c, dp_bl_inv i3, kk c G3 M3 H3 (s1.trans (s2.trans s3)) o3 q⟩)
theorem at_lt (h : AE X a ds M fun x M1 => AE X b ds M1 fun y M2 => ∃ i j, x = .dat (.int i) ∧ y = .dat (.int j) ∧ kt (decide (i < j)) M2) : AT X (.Compare a [.Lt] [b] pos) ds M kt :=
  at_cmp op_lt (h.imp fun x M1 h1 => h1.imp fun y M2 ⟨i, j, e1, e2, q⟩ => by subst e1 e2; exact ar_B0 ⟨_, rfl, q⟩) (nomark _)
theorem at_le (h : AE X a ds M fun x M1 => AE X b ds M1 fun y M2 => ∃ i j, x = .dat (.int i) ∧ y = .dat (.int j) ∧ kt (decide (i ≤ j)) M2) : AT X (.Compare a [.LtE] [b] pos) ds M kt :=
  at_cmp op_le (h.imp fun x M1 h1 => h1.imp fun y M2 ⟨i, j, e1, e2, q⟩ => by subst e1 e2; exact ar_B0 ⟨_, rfl, q⟩) (nomark _)
theorem at_gt (h : AE X a ds M fun x M1 => AE X b ds M1 fun y M2 => ∃ i j, x = .dat (.int i) ∧ y = .dat (.int j) ∧ kt (decide (j < i)) M2) : AT X (.Compare a [.Gt] [b] pos) ds M kt :=
  at_cmp op_gt (h.imp fun x M1 h1 => h1.imp fun y M2 ⟨i, j, e1, e2, q⟩ => by subst e1 e2; exact ar_B0 ⟨_, rfl, q⟩) (nomark _)
theorem at_ge (h : AE X a ds M fun x M1 => AE X b ds M1 fun y M2 => ∃ i j, x = .dat (.int i) ∧ y = .dat (.int j) ∧ kt (decide (j ≤ i)) M2) : AT X (.Compare a [.GtE] [b] pos) ds M kt :=
  at_cmp op_ge (h.imp fun x M1 h1 => h1.imp fun y M2 ⟨i, j, e1, e2, q⟩ => by subst e1 e2; exact ar_B0 ⟨_, rfl, q⟩) (nomark _)
theorem at_eq (hu : X.A.units + 64 < cLine) (h : AE X a ds M fun x M1 => AE X b ds M1 fun y M2 => ∃ d e, x = .dat d ∧ y = .dat e ∧ SeqAt.shaped d = true ∧ SeqAt.shaped e = true ∧ kt (PyData.eqv d e) M2) : AT X (.Compare a [.Eq] [b] pos) ds M kt :=
  at_cmp (op_eqD hu) (h.imp fun x M1 h1 => h1.imp fun y M2 ⟨d, e, e1, e2, s1, s2, q⟩ => by
    subst e1 e2
    exact fun v w G H Q ho iv iw kk => ⟨d, e, dp_mono ho.same iv, dp_mono ho.same iw, s1, s2, kk _ _ G M2 H (Same.refl _) ho (isd (Dp.bl _)) ⟨_, rfl, q⟩⟩) (nomark _)
theorem at_ne (hu : X.A.units + 64 < cLine) (h : AE X a ds M fun x M1 => AE X b ds M1 fun y M2 => ∃ d e, x = .dat d ∧ y = .dat e ∧ SeqAt.shaped d = true ∧ SeqAt.shaped e = true ∧ kt (!PyData.eqv d e) M2) : AT X (.Compare a [.NotEq] [b] pos) ds M kt :=
  at_cmp (op_neD hu) (h.imp fun x M1 h1 => h1.imp fun y M2 ⟨d, e, e1, e2, s1, s2, q⟩ => by
    subst e1 e2
    exact fun v w G H Q ho iv iw kk => ⟨d, e, dp_mono ho.same iv, dp_mono ho.same iw, s1, s2, kk _ _ G M2 H (Same.refl _) ho (isd (Dp.bl _)) ⟨_, rfl, q⟩⟩) (nomark _)
theorem ar_inS {K : PySem.W.Frag} {z : Str} {zs : List Str} (q : k (.dat (.bool (decide (z ∈ zs)))) M) : AR K (rIn K false) (.dat (.str z)) (.dat (.tuple (zs.map .str))) M k := by
  intro v w G H Q ho iv iw kk
  obtain ⟨p, ys, rfl, h4, h5⟩ := dp_tup_inv iw
  have e := dp_str_inv iv
  subst e
  have e := dpAll_strs h5
  subst e
  refine ⟨p, _, rfl, .inr (sqT_mono ho.same h4), rfl, flat_strs zs, ?_⟩
  have e2 : (if false = true then !inV (V.str z) (zs.map V.str) else inV (V.str z) (zs.map V.str)) = decide (z ∈ zs) := by rw [inV_strs]; rfl
  rw [e2]
  exact kk _ _ G M H (Same.refl _) ho (isd (Dp.bl _)) q
theorem ar_niS {K : PySem.W.Frag} {z : Str} {zs : List Str} (q : k (.dat (.bool (!decide (z ∈ zs)))) M) : AR K (rIn K true) (.dat (.str z)) (.dat (.tuple (zs.map .str))) M k := by
  intro v w G H Q ho iv iw kk
  obtain ⟨p, ys, rfl, h4, h5⟩ := dp_tup_inv iw
  have e := dp_str_inv iv
  subst e
  have e := dpAll_strs h5
  subst e
  refine ⟨p, _, rfl, .inr (sqT_mono ho.same h4), rfl, flat_strs zs, ?_⟩
  have e2 : (if true = true then !inV (V.str z) (zs.map V.str) else inV (V.str z) (zs.map V.str)) = !decide (z ∈ zs) := by rw [inV_strs]; rfl
  rw [e2]
  exact kk _ _ G M H (Same.refl _) ho (isd (Dp.bl _)) q
theorem at_inS (h : AE X a ds M fun x M1 => AE X b ds M1 fun y M2 => ∃ (z : Str) (zs : List Str), x = .dat (.str z) ∧ y = .dat (.tuple (zs.map .str)) ∧ kt (decide (z ∈ zs)) M2) (hm : behindInMarks .In b = false := by rfl) : AT X (.Compare a [.In] [b] pos) ds M kt :=
  at_cmp op_in_seq (h.imp fun x M1 h1 => h1.imp fun y M2 ⟨z, zs, e1, e2, q⟩ => by subst e1 e2; exact ar_inS ⟨_, rfl, q⟩) hm
theorem at_niS (h : AE X a ds M fun x M1 => AE X b ds M1 fun y M2 => ∃ (z : Str) (zs : List Str), x = .dat (.str z) ∧ y = .dat (.tuple (zs.map .str)) ∧ kt (!decide (z ∈ zs)) M2) (hm : behindInMarks .NotIn b = false := by rfl) : AT X (.Compare a [.NotIn] [b] pos) ds M kt :=
  at_cmp op_notIn_seq (h.imp fun x M1 h1 => h1.imp fun y M2 ⟨z, zs, e1, e2, q⟩ => by subst e1 e2; exact ar_niS ⟨_, rfl, q⟩) hm
theorem at_isN (h : AE X a ds M fun d M1 => ∃ y, d = .dat y ∧ kt (isNo y) M1) {j pos'} : AT X (.Compare a [.Is] [.Constant .none j pos'] pos) ds M kt := fun σ G H Q he ho kk =>
  ofT (pt_cmp (pc_isN semE) rfl) (h σ G H _ he ho fun v d G1 M1 H1 s1 o1 i1 k1 => by
    obtain ⟨y, rfl, q1⟩ := k1
    have i1' : Dp X.K G1 v y := i1
    refine ⟨isNo y, ?_, kk _ G1 M1 H1 s1 o1 q1⟩
    cases i1' with
    | non => rfl
    | _ => rfl)
/-! ### == of scalars -/
theorem eqv_int (i j : Int) : PyData.eqv (.int i) (.int j) = decide (i = j) := by
  show (i == j) = _
  exact Bool.beq_eq_decide_eq i j
theorem eqv_str (x y : Str) : PyData.eqv (.str x) (.str y) = decide (x = y) := by
  show (x == y) = _
  by_cases h : x = y
  · subst h; simp
  · simp [h]
theorem ar_eqS {K : PySem.W.Frag} {x y : Str} (q : k (.dat (.bool (decide (x = y)))) M) : AR K rEq (.dat (.str x)) (.dat (.str y)) M k := fun v w G H Q ho iv iw kk => by
  have e1 := dp_str_inv iv
  have e2 := dp_str_inv iw
  subst e1 e2
  refine ⟨rfl, ?_⟩
  have e : decide (V.str x = V.str y) = decide (x = y) := decide_eq_decide.mpr ⟨fun h => V.str.inj h, fun h => by rw [h]⟩
  rw [e]
  exact kk _ _ G M H (Same.refl _) ho (isd (Dp.bl _)) q
theorem ar_neS {K : PySem.W.Frag} {x y : Str} (q : k (.dat (.bool (!decide (x = y)))) M) : AR K rNe (.dat (.str x)) (.dat (.str y)) M k := fun v w G H Q ho iv iw kk => by
  have e1 := dp_str_inv iv
  have e2 := dp_str_inv iw
  subst e1 e2
  refine ⟨rfl, ?_⟩
  have e : decide (V.str x = V.str y) = decide (x = y) := decide_eq_decide.mpr ⟨fun h => V.str.inj h, fun h => by rw [h]⟩
  rw [e]
  exact kk _ _ G M H (Same.refl _) ho (isd (Dp.bl _)) q
theorem ar_eqI {K : PySem.W.Frag} {x y : Int} (q : k (.dat (.bool (decide (x = y)))) M) : AR K rEq (.dat (.int x)) (.dat (.int y)) M k := fun v w G H Q ho iv iw kk => by
  have e1 := dp_int_inv iv
  have e2 := dp_int_inv iw
  subst e1 e2
  refine ⟨rfl, ?_⟩
  have e : decide (V.int x = V.int y) = decide (x = y) := decide_eq_decide.mpr ⟨fun h => V.int.inj h, fun h => by rw [h]⟩
  rw [e]
  exact kk _ _ G M H (Same.refl _) ho (isd (Dp.bl _)) q
theorem ar_neI {K : PySem.W.Frag} {x y : Int} (q : k (.dat (.bool (!decide (x = y)))) M) : AR K rNe (.dat (.int x)) (.dat (.int y)) M k := fun v w G H Q ho iv iw kk => by
  have e1 := dp_int_inv iv
  have e2 := dp_int_inv iw
  subst e1 e2
  refine ⟨rfl, ?_⟩
  have e : decide (V.int x = V.int y) = decide (x = y) := decide_eq_decide.mpr ⟨fun h => V.int.inj h, fun h => by rw [h]⟩
  rw [e]
  exact kk _ _ G M H (Same.refl _) ho (isd (Dp.bl _)) q
/-- == by values: for the four kinds of operands -/
theorem ae_eqs (h : AE X a ds M fun x M1 => AE X b ds M1 fun y M2 => AR X.K rEq x y M2 k) : AE X (.Compare a [.Eq] [b] pos) ds M k := ae_cmp op_eq h (nomark _)
theorem ae_nes (h : AE X a ds M fun x M1 => AE X b ds M1 fun y M2 => AR X.K rNe x y M2 k) : AE X (.Compare a [.NotEq] [b] pos) ds M k := ae_cmp op_ne h (nomark _)
theorem at_eqs (h : AE X a ds M fun x M1 => AE X b ds M1 fun y M2 => AR X.K rEq x y M2 fun d M3 => ∃ c, d = .dat (.bool c) ∧ kt c M3) : AT X (.Compare a [.Eq] [b] pos) ds M kt := at_cmp op_eq h (nomark _)
theorem at_nes (h : AE X a ds M fun x M1 => AE X b ds M1 fun y M2 => AR X.K rNe x y M2 fun d M3 => ∃ c, d = .dat (.bool c) ∧ kt c M3) : AT X (.Compare a [.NotEq] [b] pos) ds M kt := at_cmp op_ne h (nomark _)
theorem ae_eqD (hu : X.A.units + 64 < cLine) (h : AE X a ds M fun x M1 => AE X b ds M1 fun y M2 => AR X.K (rEqD X.K) x y M2 k) : AE X (.Compare a [.Eq] [b] pos) ds M k := ae_cmp (op_eqD hu) h (nomark _)
theorem ae_neD (hu : X.A.units + 64 < cLine) (h : AE X a ds M fun x M1 => AE X b ds M1 fun y M2 => AR X.K (rNeD X.K) x y M2 k) : AE X (.Compare a [.NotEq] [b] pos) ds M k := ae_cmp (op_neD hu) h (nomark _)
theorem at_eqD (hu : X.A.units + 64 < cLine) (h : AE X a ds M fun x M1 => AE X b ds M1 fun y M2 => AR X.K (rEqD X.K) x y M2 fun d M3 => ∃ c, d = .dat (.bool c) ∧ kt c M3) : AT X (.Compare a [.Eq] [b] pos) ds M kt := at_cmp (op_eqD hu) h (nomark _)
theorem at_neD (hu : X.A.units + 64 < cLine) (h : AE X a ds M fun x M1 => AE X b ds M1 fun y M2 => AR X.K (rNeD X.K) x y M2 fun d M3 => ∃ c, d = .dat (.bool c) ∧ kt c M3) : AT X (.Compare a [.NotEq] [b] pos) ds M kt := at_cmp (op_neD hu) h (nomark _)
theorem ar_eqD {K : PySem.W.Frag} {d e : PyData} {r : Bool} (s1 : SeqAt.shaped d = true) (s2 : SeqAt.shaped e = true) (hr : PyData.eqv d e = r) (q : k (.dat (.bool r)) M) : AR K (rEqD K) (.dat d) (.dat e) M k := fun v w G H Q ho iv iw kk =>
  ⟨d, e, dp_mono ho.same iv, dp_mono ho.same iw, s1, s2, kk _ _ G M H (Same.refl _) ho (isd (Dp.bl _)) (by rw [hr]; exact q)⟩
theorem ar_neD {K : PySem.W.Frag} {d e : PyData} {r : Bool} (s1 : SeqAt.shaped d = true) (s2 : SeqAt.shaped e = true) (hr : PyData.eqv d e = r) (q : k (.dat (.bool (!r))) M) : AR K (rNeD K) (.dat d) (.dat e) M k := fun v w G H Q ho iv iw kk =>
  ⟨d, e, dp_mono ho.same iv, dp_mono ho.same iw, s1, s2, kk _ _ G M H (Same.refl _) ho (isd (Dp.bl _)) (by rw [hr]; exact q)⟩
end
end A

set_option Elab.async false
set_option linter.all false
/-! Fractions in least terms, as pairs of integers. -/
namespace Fr
def low (a b : Int) : Int × Int := (a / ((Nat.gcd a.natAbs b.natAbs : Nat) : Int), b / ((Nat.gcd a.natAbs b.natAbs : Nat) : Int))
def add (f g : Int × Int) : Int × Int := low (f.1 * g.2 + g.1 * f.2) (f.2 * g.2)
def sub (f g : Int × Int) : Int × Int := low (f.1 * g.2 - g.1 * f.2) (f.2 * g.2)
def mul (f g : Int × Int) : Int × Int := low (f.1 * g.1) (f.2 * g.2)
def sum (fs : List (Int × Int)) : Int × Int := fs.foldl add (0, 1)
/-- in least terms, bottom from 1 on -/
def Can (f : Int × Int) : Prop := 0 < f.2 ∧ Nat.gcd f.1.natAbs f.2.natAbs = 1
/-- f is n / d -/
def Val (f : Int × Int) (n d : Int) : Prop := f.1 * d = n * f.2

theorem gpos {a b : Int} (h : 0 < b) : 0 < Nat.gcd a.natAbs b.natAbs := Nat.gcd_pos_of_pos_right _ (by omega)
theorem low_mul {a b : Int} : (low a b).1 * ((Nat.gcd a.natAbs b.natAbs : Nat) : Int) = a ∧ (low a b).2 * ((Nat.gcd a.natAbs b.natAbs : Nat) : Int) = b := by
  constructor
  · exact Int.ediv_mul_cancel (Int.ofNat_dvd_left.mpr (Nat.gcd_dvd_left _ _))
  · exact Int.ediv_mul_cancel (Int.ofNat_dvd_left.mpr (Nat.gcd_dvd_right _ _))
theorem low_can {a b : Int} (h : 0 < b) : Can (low a b) := by
  have hg := gpos (a := a) h
  obtain ⟨h1, h2⟩ := low_mul (a := a) (b := b)
  generalize hgg : Nat.gcd a.natAbs b.natAbs = g at hg h1 h2
  have hb : 0 < (low a b).2 := by
    rcases Int.lt_trichotomy 0 (low a b).2 with q | q | q
    · exact q
    · rw [← q] at h2; omega
    · have : (low a b).2 * (g : Int) < 0 := Int.mul_neg_of_neg_of_pos q (by omega)
      omega
  refine ⟨hb, ?_⟩
  have e1 : a.natAbs = (low a b).1.natAbs * g := by rw [← h1, Int.natAbs_mul]; simp [h1]
  have e2 : b.natAbs = (low a b).2.natAbs * g := by rw [← h2, Int.natAbs_mul]; simp [h2]
  have e3 : Nat.gcd a.natAbs b.natAbs = Nat.gcd (low a b).1.natAbs (low a b).2.natAbs * g := by
    conv => lhs; rw [e1, e2]
    rw [Nat.gcd_mul_right]
  rw [hgg] at e3
  exact Nat.eq_of_mul_eq_mul_right hg (by omega)
theorem low_val {a b : Int} : Val (low a b) a b := by
  obtain ⟨h1, h2⟩ := low_mul (a := a) (b := b)
  show (low a b).1 * b = a * (low a b).2
  generalize ((Nat.gcd a.natAbs b.natAbs : Nat) : Int) = g at h1 h2
  generalize low a b = f at *
  rw [← h1, ← h2, ← Int.mul_assoc, Int.mul_right_comm]
theorem can_uniq {f g : Int × Int} (hf : Can f) (hg : Can g) (h : f.1 * g.2 = g.1 * f.2) : f = g := by
  obtain ⟨a, b⟩ := f
  obtain ⟨c, d⟩ := g
  obtain ⟨hb, hf⟩ := hf
  obtain ⟨hd, hg⟩ := hg
  simp only at *
  have e : a.natAbs * d.natAbs = c.natAbs * b.natAbs := by rw [← Int.natAbs_mul, ← Int.natAbs_mul, h]
  have h1 : b.natAbs ∣ d.natAbs := by
    have : b.natAbs ∣ a.natAbs * d.natAbs := ⟨c.natAbs, by rw [e, Nat.mul_comm]⟩
    exact Nat.Coprime.dvd_of_dvd_mul_left (by rw [Nat.coprime_comm]; exact hf) this
  have h2 : d.natAbs ∣ b.natAbs := by
    have : d.natAbs ∣ c.natAbs * b.natAbs := ⟨a.natAbs, by rw [← e, Nat.mul_comm]⟩
    exact Nat.Coprime.dvd_of_dvd_mul_left (by rw [Nat.coprime_comm]; exact hg) this
  have h3 : b.natAbs = d.natAbs := Nat.dvd_antisymm h1 h2
  have h4 : b = d := by omega
  subst h4
  have h5 : a = c := Int.eq_of_mul_eq_mul_right (by omega) h
  rw [h5]
theorem low_same {f : Int × Int} (hf : Can f) {n d : Int} (hd : 0 < d) (h : Val f n d) : f = low n d := by
  refine can_uniq hf (low_can hd) ?_
  have h1 : f.1 * d = n * f.2 := h
  have h2 : (low n d).1 * d = n * (low n d).2 := low_val
  have hb := (low_can (a := n) hd).1
  refine Int.eq_of_mul_eq_mul_right (show d ≠ 0 by omega) ?_
  calc f.1 * (low n d).2 * d = (f.1 * d) * (low n d).2 := by rw [Int.mul_right_comm]
    _ = (n * f.2) * (low n d).2 := by rw [h1]
    _ = (n * (low n d).2) * f.2 := by rw [Int.mul_right_comm]
    _ = ((low n d).1 * d) * f.2 := by rw [h2]
    _ = (low n d).1 * f.2 * d := by rw [Int.mul_right_comm]
theorem low_self {f : Int × Int} (hf : Can f) : low f.1 f.2 = f := (low_same hf hf.1 rfl).symm
theorem low_scale {n d c : Int} (hd : 0 < d) (hc : 0 < c) : low (n * c) (d * c) = low n d := by
  refine low_same (low_can (Int.mul_pos hd hc)) hd ?_
  have h : (low (n * c) (d * c)).1 * (d * c) = (n * c) * (low (n * c) (d * c)).2 := low_val
  refine Int.eq_of_mul_eq_mul_right (show c ≠ 0 by omega) ?_
  rw [Int.mul_assoc, h, Int.mul_right_comm]
/-- the numbers are at most those that they were made of -/
theorem low_le {n d : Int} (hd : 0 < d) : (low n d).1.natAbs ≤ n.natAbs ∧ (low n d).2.natAbs ≤ d.natAbs := by
  have hg := gpos (a := n) hd
  obtain ⟨h1, h2⟩ := low_mul (a := n) (b := d)
  generalize Nat.gcd n.natAbs d.natAbs = g at hg h1 h2
  have e1 : n.natAbs = (low n d).1.natAbs * g := by rw [← Int.natAbs_natCast g, ← Int.natAbs_mul, h1]
  have e2 : d.natAbs = (low n d).2.natAbs * g := by rw [← Int.natAbs_natCast g, ← Int.natAbs_mul, h2]
  exact ⟨by rw [e1]; exact Nat.le_mul_of_pos_right _ hg, by rw [e2]; exact Nat.le_mul_of_pos_right _ hg⟩
/-- sums over one bottom -/
theorem add_low {n m d : Int} (hd : 0 < d) : add (low n d) (low m d) = low (n + m) d := by
  have c1 := low_can (a := n) hd
  have c2 := low_can (a := m) hd
  have v1 : (low n d).1 * d = n * (low n d).2 := low_val
  have v2 : (low m d).1 * d = m * (low m d).2 := low_val
  refine low_same (low_can (Int.mul_pos c1.1 c2.1)) hd ?_
  have v : (add (low n d) (low m d)).1 * ((low n d).2 * (low m d).2) = ((low n d).1 * (low m d).2 + (low m d).1 * (low n d).2) * (add (low n d) (low m d)).2 := low_val
  have hp := Int.mul_pos c1.1 c2.1
  show (add (low n d) (low m d)).1 * d = (n + m) * (add (low n d) (low m d)).2
  generalize add (low n d) (low m d) = s at *
  generalize low n d = f at *
  generalize low m d = g at *
  refine Int.eq_of_mul_eq_mul_right (show f.2 * g.2 ≠ 0 by omega) ?_
  have e1 : s.1 * d * (f.2 * g.2) = s.1 * (f.2 * g.2) * d := by rw [Int.mul_right_comm]
  rw [e1, v]
  have e2 : (f.1 * g.2 + g.1 * f.2) * s.2 * d = ((f.1 * d) * g.2 + (g.1 * d) * f.2) * s.2 := by
    rw [Int.mul_right_comm, Int.add_mul, Int.mul_right_comm f.1, Int.mul_right_comm g.1]
  rw [e2, v1, v2]
  have e3 : n * f.2 * g.2 + m * g.2 * f.2 = (n + m) * (f.2 * g.2) := by
    rw [Int.add_mul, Int.mul_assoc n, Int.mul_assoc m, Int.mul_comm g.2]
  rw [e3, Int.mul_right_comm]
theorem sum_low {d : Int} (hd : 0 < d) : ∀ (ns : List Int) (a : Int), (ns.map (low · d)).foldl add (low a d) = low (a + ns.sum) d
  | [], a => by simp
  | n :: ns, a => by
    rw [List.map_cons, List.foldl_cons, add_low hd, sum_low hd ns, List.sum_cons, Int.add_assoc]
theorem low_zero {d : Int} (hd : 0 < d) : low 0 d = (0, 1) := by
  have e : Nat.gcd (0 : Int).natAbs d.natAbs = d.natAbs := by simp
  unfold low
  rw [e]
  have : ((d.natAbs : Nat) : Int) = d := by omega
  rw [this, Int.ediv_self (by omega)]
  simp
theorem low_one {d : Int} (hd : 0 < d) : low d d = (1, 1) := by
  unfold low
  rw [Nat.gcd_self]
  have : ((d.natAbs : Nat) : Int) = d := by omega
  rw [this, Int.ediv_self (by omega)]
theorem sum_lows {d : Int} (hd : 0 < d) (ns : List Int) : sum (ns.map (low · d)) = low ns.sum d := by
  unfold sum
  rw [← low_zero hd, sum_low hd, Int.zero_add]
end Fr

set_option Elab.async false
set_option linter.all false
set_option maxRecDepth 100000
/-! Words of numbers, by their signs. -/
namespace Wd
open PySem PySem.Spec PyProof.Rows L2 PySem.Builtin PySem.Builtin.Str PySem.StrLaws TL
def noDash : List Nat → List Nat
  | 45 :: r => r
  | l => l
theorem noDash_45 (r : List Nat) : noDash (45 :: r) = r := rfl
theorem noDash_ne {l : List Nat} (h : l.head? ≠ some 45) : noDash l = l := by
  unfold noDash
  split
  · simp at h
  · rfl
def digs (l : List Nat) : Bool := !l.isEmpty && l.all fun c => decide (48 ≤ c) && decide (c ≤ 57)
theorem tl_dash : tl (Str.ofString "-") = [45] := by rw [tl_ofString]; rfl
theorem tl_removeDash (x : Str) : tl (Txt.removeprefix x (Str.ofString "-")) = noDash (tl x) := by
  have hs := subAt_eq x (Str.ofString "-") 0
  have hl : (Str.ofString "-").length = 1 := by rw [len_tl, tl_dash]; rfl
  rw [show (Str.ofString "-").cps.toList = [45] from tl_dash, hl, List.drop_zero] at hs
  unfold Txt.removeprefix Txt.affix
  rw [hl]
  cases hx : tl x with
  | nil =>
    have : subAt x (Str.ofString "-") 0 = false := by rw [hs, show x.cps.toList = [] from hx]; rfl
    rw [this]
    simp only [Bool.false_eq_true, if_false]
    exact hx
  | cons c r =>
    have hxl : x.length = r.length + 1 := by rw [len_tl, hx]; rfl
    by_cases hc : c = 45
    · subst hc
      have : subAt x (Str.ofString "-") 0 = true := by rw [hs, show x.cps.toList = 45 :: r from hx]; rfl
      rw [this]
      simp only [if_true]
      have h2 : (x.length - 1 == x.length) = false := by rw [hxl]; simp
      rw [h2]
      simp only [Bool.false_eq_true, if_false]
      rw [tl_strSub_end, hx]; rfl
    · have : subAt x (Str.ofString "-") 0 = false := by
        rw [hs, show x.cps.toList = c :: r from hx]
        show ([c] == [45]) = false
        simp [hc]
      rw [this]
      simp only [Bool.false_eq_true, if_false]
      rw [hx, noDash_ne (by simp [hc])]
theorem digit_ascii : ∀ c : Nat, c < 128 → Unicode.isDigit c = (decide (48 ≤ c) && decide (c ≤ 57)) := by decide +kernel
theorem ascii_digit (x : Str) : (Txt.isascii x && Txt.isdigit x) = digs (tl x) := by
  unfold Txt.isascii Txt.isdigit digs
  have e1 : x.cps.all (· < 128) = (tl x).all (· < 128) := by rw [tl, Array.all_toList]
  have e2 : x.cps.all Unicode.isDigit = (tl x).all Unicode.isDigit := by rw [tl, Array.all_toList]
  have e3 : decide (x.length > 0) = !(tl x).isEmpty := by
    rw [len_tl]
    cases tl x <;> simp
  rw [e1, e2, e3]
  generalize tl x = l
  cases l with
  | nil => rfl
  | cons a r =>
    show ((a :: r).all (· < 128) && (true && (a :: r).all Unicode.isDigit)) = (true && _)
    rw [Bool.true_and, Bool.true_and]
    generalize a :: r = l
    induction l with
    | nil => rfl
    | cons c l ih =>
      simp only [List.all_cons]
      by_cases h : c < 128
      · rw [digit_ascii c h]
        have : decide (c < 128) = true := decide_eq_true h
        rw [this, ← ih, Bool.true_and]
        cases decide (48 ≤ c) <;> cases decide (c ≤ 57) <;> cases (l.all fun x => decide (x < 128)) <;> cases l.all Unicode.isDigit <;> rfl
      · have h1 : decide (c < 128) = false := decide_eq_false h
        have h2 : decide (c ≤ 57) = false := decide_eq_false (by omega)
        rw [h1, h2]
        simp
theorem starts_0 (x : Str) : Txt.startswith x (Str.ofString "0") = ((tl x).head? == some 48) := by
  have hl : (Str.ofString "0").length = 1 := by rw [len_tl, tl_ofString]; rfl
  have hs := subAt_eq x (Str.ofString "0") 0
  rw [show (Str.ofString "0").cps.toList = [48] from tl_ofString "0", hl, List.drop_zero] at hs
  unfold Txt.startswith
  rw [hs, hl, len_tl]
  show (decide (0 + 1 ≤ (tl x).length) && (tl x).take 1 == [48]) = ((tl x).head? == some 48)
  cases hx : tl x with
  | nil => rfl
  | cons c r =>
    show (decide (0 + 1 ≤ r.length + 1) && ([c] == [48])) = (some c == some 48)
    have : decide (0 + 1 ≤ r.length + 1) = true := decide_eq_true (by omega)
    rw [this]
    by_cases h : c = 48
    · subst h; rfl
    · simp [h]
/-- the integer that a word tells -/
def readI (l : List Nat) : Option Int :=
  if digs (noDash l) && !((noDash l).head? == some 48 && !(l == [48])) then some (if l.head? == some 45 then -((NumText.digitsVal (noDash l) : Nat) : Int) else ((NumText.digitsVal (noDash l) : Nat) : Int)) else none
theorem digs_iff {l : List Nat} (h : digs l = true) : NumText.AllDigits l ∧ l ≠ [] := by
  unfold digs at h
  rw [Bool.and_eq_true] at h
  obtain ⟨h1, h2⟩ := h
  refine ⟨fun c hc => ?_, ?_⟩
  · have := List.all_eq_true.mp h2 c hc
    simpa using this
  · cases l with
    | nil => simp at h1
    | cons => simp
theorem readI_text {x : Str} {n : Int} (hl : x.length ≤ 640) (h : readI (tl x) = some n) : PySem.intText? x = some n := by
  unfold readI at h
  split at h
  · rename_i hc
    rw [Bool.and_eq_true] at hc
    obtain ⟨h1, h2⟩ := digs_iff hc.1
    cases h
    cases hx : tl x with
    | nil => rw [hx] at h2; exact absurd rfl h2
    | cons c r =>
      rw [hx] at h1 h2
      by_cases hd : c = 45
      · subst hd
        exact intText_neg (cs := r) hx h1 h2 (by omega)
      · have e : noDash (c :: r) = c :: r := noDash_ne (by simp [hd])
        rw [e] at h1 h2 ⊢
        have e2 : ((c :: r).head? == some 45) = false := by simp [hd]
        rw [e2]
        simp only [Bool.false_eq_true, if_false]
        have := intText_digits (x := x) (by rw [show x.cps.toList = c :: r from hx]; exact h1) (by rw [show x.cps.toList = c :: r from hx]; exact h2) (by omega)
        rw [show x.cps.toList = c :: r from hx] at this
        exact this
  · cases h
/-- the signs of an integer -/
def numI (n : Int) : List Nat := if n < 0 then 45 :: numL n.natAbs else numL n.natAbs
theorem tl_numI (n : Int) : tl (Str.ofString (toString n)) = numI n := by
  unfold numI
  by_cases h : n < 0
  · rw [if_pos h]
    obtain ⟨m, rfl⟩ : ∃ m : Nat, n = Int.negSucc m := by
      cases n with
      | ofNat k => exact absurd h (by simp)
      | negSucc m => exact ⟨m, rfl⟩
    have e : toString (Int.negSucc m) = "-" ++ toString (m + 1) := rfl
    rw [e, tl_ofString, String.toList_append, List.map_append]
    show [45] ++ _ = _
    have e2 := tl_num (m + 1)
    rw [tl_ofString] at e2
    have e3 : toString (((m + 1 : Nat)) : Int) = toString (m + 1) := rfl
    rw [e3] at e2
    rw [e2]
    rfl
  · rw [if_neg h]
    obtain ⟨m, rfl⟩ : ∃ m : Nat, n = (m : Int) := ⟨n.natAbs, by omega⟩
    rw [tl_num]
    rfl
theorem head_numL (n : Nat) : ∃ c r, numL n = c :: r ∧ 48 ≤ c ∧ c ≤ 57 := by
  cases h : numL n with
  | nil => exact absurd h (numL_ne n)
  | cons c r =>
    have := numL_digits n c (by rw [h]; exact List.mem_cons_self)
    exact ⟨c, r, rfl, this.1, this.2⟩
theorem numL_zero {n : Nat} (h : (numL n).head? = some 48) : n = 0 := by
  induction n using Nat.strongRecOn with
  | _ n ih =>
    by_cases hn : n < 10
    · rw [numL_lt hn] at h
      simp at h
      exact h
    · rw [numL_step (by omega)] at h
      obtain ⟨c, r, e, _⟩ := head_numL (n / 10)
      have := ih (n / 10) (by omega) (by rw [e] at h ⊢; simpa using h)
      omega
theorem digs_num (n : Nat) : digs (numL n) = true := by
  unfold digs
  rw [Bool.and_eq_true]
  refine ⟨?_, List.all_eq_true.mpr fun c hc => ?_⟩
  · cases h : numL n with
    | nil => exact absurd h (numL_ne n)
    | cons => rfl
  · have := numL_digits n c hc
    simp; omega
theorem readI_num (n : Int) : readI (numI n) = some n := by
  unfold readI numI
  by_cases h : n < 0
  · rw [if_pos h, noDash_45, digs_num]
    have h0 : ((numL n.natAbs).head? == some 48) = false := by
      cases hq : (numL n.natAbs).head? == some 48 with
      | false => rfl
      | true => have := numL_zero (eq_of_beq hq); omega
    rw [h0, numL_val]
    simp
    omega
  · rw [if_neg h]
    obtain ⟨c, r, e, h1, h2⟩ := head_numL n.natAbs
    have hc : (numL n.natAbs).head? ≠ some 45 := by rw [e]; simp; omega
    rw [noDash_ne hc, digs_num, numL_val]
    have h3 : ((numL n.natAbs).head? == some 45) = false := by
      cases hq : (numL n.natAbs).head? == some 45 with
      | false => rfl
      | true => exact absurd (eq_of_beq hq) hc
    rw [h3]
    have h4 : ((numL n.natAbs).head? == some 48 && !(numL n.natAbs == [48])) = false := by
      cases hq : (numL n.natAbs).head? == some 48 with
      | false => rfl
      | true =>
        have := numL_zero (eq_of_beq hq)
        rw [this]
        rfl
    rw [h4]
    simp
    omega
end Wd

set_option Elab.async false
set_option linter.all false
set_option maxRecDepth 100000
set_option maxHeartbeats 2000000
namespace A
open PySem PySem.Spec PyProof.Rows L2
section
variable {X : Cx} {ds : DS} {M : MS} {e a b c o tg iter elt : Expr} {es rest ifs : List Expr} {pos p apos cpos : Pos} {x name : Str} {vs : List Nat} {scope : Scope} {own : List (Str × Nat)}
theorem AI.wkp {KP KP' : MS → Prop} {k : List DV → MS → Prop} (hi : ∀ M, KP' M → KP M) (h : AI X tg iter ds M KP k) : AI X tg iter ds M KP' k := fun σ G H R he ho kk =>
  h σ G H R he ho fun J xs G2 M2 H2 s2 o2 i2 k2 => kk J xs G2 M2 H2 s2 o2 (by
    obtain ⟨Gd, Y, w, h1, h2⟩ := i2.ex
    exact ⟨Gd, Y, w, fun G3 M3 H3 s o q => h1 G3 M3 H3 s o (hi _ q), fun i H3 x H4 hlt y G3 M3 s o q => h2 i H3 x H4 hlt y G3 M3 s o (hi _ q)⟩) k2
theorem ai_seq {d : DV} {xs : List DV} {k : List DV → MS → Prop} (h : AE X iter ds M fun d' M1 => d' = d ∧ SeqD M1 d xs ∧ k xs M1) : AI X tg iter ds M (fun M3 => SeqD M3 d xs) k := by
  have no : (∀ M1, ¬ SeqD M1 d xs) → AI X tg iter ds M (fun M3 => SeqD M3 d xs) k := fun hn => AI.wkp (KP := kT) (fun _ _ => trivial) (ai_list (h.imp fun d' M1 ⟨_, q, _⟩ => (hn _ q).elim))
  cases d with
  | obj C fs => exact no fun _ q => by cases q
  | sem R m => exact no fun _ q => by cases q
  | dat d =>
    cases d with
    | list ys => exact AI.wkp (KP := kT) (fun _ _ => trivial) (ai_list (h.imp fun d' M1 ⟨e, q, z⟩ => by cases q; exact ⟨ys, e, z⟩))
    | tuple ys => exact AI.wkp (KP := kT) (fun _ _ => trivial) (ai_tup (h.imp fun d' M1 ⟨e, q, z⟩ => by cases q; exact ⟨ys, e, z⟩))
    | _ => exact no fun _ q => by cases q
  | raw v =>
    cases v with
    | ref q => exact AI.wkp (KP := fun M3 => M3 q = some (.lst xs)) (fun M3 h => by cases h; assumption) (ai_listM (h.imp fun d' M1 ⟨e, s, z⟩ => by
        cases s with
        | chg hm => exact ⟨q, xs, e, hm, rfl, z⟩))
    | _ => exact no fun _ q => by cases q
def ttB (X : Cx) (scope : Scope) (c : Expr) : TT := fun σ H Q => ∀ s H0 C cl fp, SemT (Bk X scope s H0 C cl fp) c σ H Q
theorem ae_lcI {kp : MS → Prop} {k : DV → MS → Prop} (hc : X.calm = true) (hN : X.N.Nodup) (ok : BlkOk X.N X.env.scope scope own)
    (h : AI X tg iter ds M kp fun xs M1 => ∀ D, M1 D = none → ∃ W : Nat → List DV → MS → Prop, (∀ i acc M', W i acc M' → kp (upM M' D (.lst acc))) ∧ W 0 [] M1 ∧
      (∀ i d acc M', xs[i]? = some d → W i acc M' → acc.length < 100000 ∧ ∀ s H C cl fp, AGc (Bk X scope s H C cl fp) tg d (wipeD ds (own.map (·.2))) (upM M' D (.lst acc)) (own.map (·.2)) fun ds2 => ∀ s H C cl fp,
        AT (Bk X scope s H C cl fp) c ds2 (upM M' D (.lst acc)) fun r M1 => M1 = upM M' D (.lst acc) ∧ (r = false → W (i + 1) acc M') ∧ (r = true → ∀ s H C cl fp, AE (Bk X scope s H C cl fp) elt ds2 (upM M' D (.lst acc)) fun y M2 => ∃ M3, M2 = upM M3 D (.lst acc) ∧ W (i + 1) (acc ++ [y]) M3)) ∧
      (∀ acc M', W xs.length acc M' → k (.raw (.ref D)) (upM M' D (.lst acc))))
    (hs : ∀ x, foldedSetIterable iter X.env x = pure x := by intro _; rfl) : AE X (.ListComp elt [⟨tg, iter, [c], 0⟩] scope pos) ds M k := fun σ G H Q he ho kk =>
  ofE (pe_lc (own := own) (g := gB X scope tg) (tt := ttB X scope c) (te := teB X scope elt) hc hN semI ok
    (fun s H C cl fp => ⟨fun pins s' σ H' v u Q I r h => (h s H C cl fp).run pins s' u I r⟩) (fun s H C cl fp => pts_one ⟨fun pins s' σ H' Q I h => (h s H C cl fp).run pins s' I⟩) (fun s H C cl fp => ⟨fun pins s' σ H' Q I h => (h s H C cl fp).run pins s' I⟩) hs)
    (h σ G H _ he ho fun J xs G1 M1 H1 s1 o1 i1 k1 D hD => by
      obtain ⟨hg, hm⟩ := o1.fresh hD
      obtain ⟨W, hk, w0, step, done⟩ := k1 D hm
      obtain ⟨Gd, Y, wk, hG, hY⟩ := i1.ex
      have e1 := (he.mono s1).wipe (own.map (·.2))
      refine lc_it (g := gB X scope tg) (tt := ttB X scope c) (te := teB X scope elt) (vs := own.map (·.2)) (σ := σ) (D := D) (Qd := fun H => Q (.ref D) H) wk (fun i H' => ∃ G' M' acc, Same G1 G' ∧ Ok X.K G' (upM M' D (.lst acc)) H' ∧ W i acc M') ⟨G1, M1, [], Same.refl _, o1.put hg (x := .lst []) (m := .lst []) ⟨[], upd_same, .nil⟩, w0⟩
        (fun i H' hi ⟨G', M', acc, s', o', w'⟩ => hG G' _ H' s' o' (hk _ _ _ w')) (fun i x H' H2 hi ⟨G', M', acc, s', o', w'⟩ y => ?_) (fun H' ⟨G', M', acc, s', o', w'⟩ => ?_)
      · obtain ⟨G2, d, s2, o2, hx, i2⟩ := hY i H' x H2 hi y G' _ s' o' (hk _ _ _ w')
        obtain ⟨hl, st⟩ := step i d acc M' hx w'
        intro s H0 C cl fp
        refine st s H0 C cl fp x _ G2 H2 _ (e1.mono (s'.trans s2)) o2 i2 fun σ2 ds2 hw e2 k2 => ⟨hw.trans ?_, ?_⟩
        · have : ∀ vs : List Nat, L2.wipe (L2.wipe σ vs) vs = L2.wipe σ vs := by
            have aux : ∀ (us vs : List Nat), (∀ u ∈ us, u ∈ vs) → L2.wipe (L2.wipe σ us) vs = L2.wipe σ vs := by
              intro us
              induction us with
              | nil => intro vs _; rfl
              | cons u us ih =>
                intro vs hu
                show L2.wipe ((L2.wipe σ us).set u none) vs = _
                rw [wipe_set (hu u List.mem_cons_self)]
                exact ih vs fun v hv => hu v (List.mem_cons_of_mem _ hv)
            exact fun vs => aux vs vs fun _ h => h
          exact this _
        · intro s H0 C cl fp
          refine k2 s H0 C cl fp σ2 G2 H2 _ e2 o2 fun b G2' M2' H2' s2' o2' ⟨eM, hf, ht⟩ => ?_
          subst eM
          cases b with
          | false => exact ⟨G2', M', acc, s'.trans (s2.trans s2'), o2', hf rfl⟩
          | true =>
            simp only [if_true]
            intro s H0 C cl fp
            refine ht rfl s H0 C cl fp σ2 G2' H2' _ (e2.mono s2') o2' fun v y G3 M3 H3 s3 o3 i3 ⟨M4, hM, w4⟩ => ?_
            subst hM
            obtain ⟨hg3, zs, h1, h2⟩ := o3.chg D _ upM_same
            refine ⟨zs, h1, sz_lt1000 (by rw [h2.len]; exact hl), G3, M4, acc ++ [y], s'.trans (s2.trans (s2'.trans s3)), ?_, w4⟩
            have := o3.put hg3 (x := .lst (zs ++ [v])) (m := .lst (acc ++ [y])) ⟨_, upd_same, h2.snoc i3⟩
            rw [upM_upM] at this
            exact this
      · exact kk (.ref D) (.raw (.ref D)) G' _ H' (s1.trans s') o' (show Is X.K G' (.ref D) (.raw (.ref D)) from rfl) (done acc M' w'))
/-- .. with an if, worked out item by item, nothing changed -/
theorem ae_lcPI {kp : MS → Prop} {k : DV → MS → Prop} (hc : X.calm = true) (hN : X.N.Nodup) (ok : BlkOk X.N X.env.scope scope own) (P : DV → Bool) (g : DV → DV)
    (h : AI X tg iter ds M kp fun xs M1 => (∀ D m, M1 D = none → kp (upM M1 D m)) ∧ xs.length < 100000 ∧ (∀ d M', d ∈ xs → Le M1 M' → ∀ s H C cl fp, AGc (Bk X scope s H C cl fp) tg d (wipeD ds (own.map (·.2))) M' (own.map (·.2)) fun ds2 => ∀ s H C cl fp,
        AT (Bk X scope s H C cl fp) c ds2 M' fun r M1 => (r = P d ∧ (r = true → ∀ s H C cl fp, AE (Bk X scope s H C cl fp) elt ds2 M' fun y M2 => y = g d ∧ M2 = M')) ∧ M1 = M') ∧
      ∀ D, M1 D = none → k (.raw (.ref D)) (upM M1 D (.lst ((xs.filter P).map g))))
    (hs : ∀ x, foldedSetIterable iter X.env x = pure x := by intro _; rfl) : AE X (.ListComp elt [⟨tg, iter, [c], 0⟩] scope pos) ds M k :=
  ae_lcI hc hN ok (h.imp fun xs M1 ⟨hk, hl, h1, h2⟩ D hD => ⟨fun i acc M' => acc = ((xs.take i).filter P).map g ∧ M' = M1, fun i acc M' ⟨_, e⟩ => by rw [e]; exact hk D _ hD, ⟨rfl, rfl⟩, fun i d acc M' hx ⟨e1, e2⟩ => by
    subst e1 e2
    have hi : i < xs.length := (List.getElem?_eq_some_iff.mp hx).1
    refine ⟨by rw [List.length_map]; exact Nat.lt_of_le_of_lt (List.length_filter_le _ _) (by rw [List.length_take]; omega), fun s H C cl fp => ?_⟩
    intro v σ G H' Q he ho iv kk'
    refine h1 d _ (List.mem_of_getElem? hx) (Le.up (Le.refl _) hD) s H C cl fp v σ G H' Q he ho iv fun σ' ds' w e2 k2 => kk' σ' ds' w e2 fun s H C cl fp => (k2 s H C cl fp).imp fun r M2 ⟨⟨e3, e5⟩, e4⟩ => ⟨e4, fun e => ?_, fun e s H C cl fp => (e5 e s H C cl fp).imp fun y M3 ⟨e6, e7⟩ => ⟨_, e7, ?_, rfl⟩⟩
    · rw [e3] at e
      refine ⟨?_, rfl⟩
      rw [List.take_add_one, hx, List.filter_append]
      simp [e]
    · rw [e3] at e
      rw [e6, List.take_add_one, hx, List.filter_append, List.map_append]
      simp [e], fun acc M' ⟨e1, e2⟩ => by
    subst e1 e2
    rw [List.take_length]
    exact h2 D hD⟩) hs
theorem is3 {K : PySem.W.Frag} {G : Hp} {vs : List V} {d e f : DV} (h : IsAll K G vs [d, e, f]) : ∃ u v w, vs = [u, v, w] ∧ Is K G u d ∧ Is K G v e ∧ Is K G w f := by
  cases h with
  | cons h t =>
    obtain ⟨v, w, rfl, h1, h2⟩ := is2 t
    exact ⟨_, v, w, rfl, h, h1, h2⟩
variable {Z : AEnds}
theorem as_par3 (i j l : Nat) {y z : Str} {px py pz pt : Pos} {kt k2 pt2} (hc : X.calm = true) (hN : X.N.Nodup) (h : AA X [a, b, c] ds M fun xs M1 => ∃ d e f, xs = [d, e, f] ∧ Z.nx (((ds.set i (some d)).set j (some e)).set l (some f)) M1) (hij : i ≠ j := by decide) (hil : i ≠ l := by decide) (hjl : j ≠ l := by decide) (hi : X.N[i]? = some x := by rfl) (hj : X.N[j]? = some y := by rfl) (hl : X.N[l]? = some z := by rfl)
    (hx : X.env.scope.names.lookup x = some .local := by rfl) (hy : X.env.scope.names.lookup y = some .local := by rfl) (hz : X.env.scope.names.lookup z = some .local := by rfl)
    (hw : swappedStores [.Tuple [.Name x px, .Name y py, .Name z pz] kt pt] (.Tuple [a, b, c] k2 pt2) X.env = pure (some [x, y, z]) := by rfl)
    (hs : swapsWithSole [.Tuple [.Name x px, .Name y py, .Name z pz] kt pt] (.Tuple [a, b, c] k2 pt2) pos.line X.env = pure false := by rfl) : AS X (.Assign [.Tuple [.Name x px, .Name y py, .Name z pz] kt pt] (.Tuple [a, b, c] k2 pt2) pos) ds M Z := fun σ G H D he ho q =>
  ofS (ps_par3 hc hN hi hj hl hij hil hjl hx hy hz semA hw hs) (h σ G H _ he ho fun vs xs G1 M1 H1 s1 o1 i1 k1 => by
    obtain ⟨d, e, f, rfl, k1⟩ := k1
    obtain ⟨u, v, w, rfl, h1, h2, h3⟩ := is3 i1
    exact ⟨u, v, w, rfl, q.nx _ _ G1 M1 H1 s1 ((((he.mono s1).set h1 i).set h2 j).set h3 l) o1 k1⟩)
theorem agc_nameU {N : List Str} {i : Nat} {d : DV} {k : DS → Prop} (hl : X.N = N) [ix : IxOf N x i] (hN : N.Nodup) (hm : i ∈ vs) (h : k (ds.set i (some d))) (hx : Loc X.env.scope x := by first | exact Or.inl rfl | exact Or.inr rfl)
    (hf : X.fn x = true ∨ X.env.scope.names.lookup x = some .local := by first | exact .inl rfl | exact .inr rfl) : AGc X (.Name x pos) d ds M vs k := agc_nameT hl hN h hm hx hf
end
end A

set_option Elab.async false
set_option linter.all false
set_option maxRecDepth 100000
set_option maxHeartbeats 2000000
namespace A
open PySem PySem.Spec PyProof.Rows L2
section
variable {X : Cx} {ds : DS} {M : MS} {a b : Expr} {pos : Pos} {k : DV → MS → Prop}
theorem DpAll.app {K : PySem.W.Frag} {G : Hp} : ∀ {vs ws : List V} {ds es : List PyData}, DpAll K G vs ds → DpAll K G ws es → DpAll K G (vs ++ ws) (ds ++ es) := dpAll_app
/-- tuple + tuple -/
theorem ae_catT (h : AE X a ds M fun x M1 => AE X b ds M1 fun y M2 => ∃ xs ys : List PyData, x = .dat (.tuple xs) ∧ y = .dat (.tuple ys) ∧ xs.length + ys.length ≤ 1000 ∧ k (.dat (.tuple (xs ++ ys))) M2) : AE X (.BinOp a .Add b pos) ds M k :=
  ae_op op_catA (h.imp fun x M1 h1 => h1.imp fun y M2 ⟨xs, ys, e1, e2, hl, q⟩ => by
    subst e1 e2
    intro v w G H Q ho iv iw kk
    obtain ⟨p, us, rfl, h4, h5⟩ := dp_tup_inv iv
    obtain ⟨r, ws, rfl, h6, h7⟩ := dp_tup_inv iw
    refine ⟨p, r, us, ws, rfl, rfl, sqT_mono ho.same h4, sqT_mono ho.same h6, sz1000 (by rw [dpAll_len h5, dpAll_len h7]; exact hl), fun e => ?_, fun e e' => ?_, fun e e' p hp => ?_⟩
    · subst e
      cases h5
      exact kk _ _ G M2 H (Same.refl _) ho iw q
    · subst e'
      cases h7
      rw [List.append_nil] at q
      exact kk _ _ G M2 H (Same.refl _) ho iv q
    · obtain ⟨o2, s2⟩ := ho.still hp (.tup (us ++ ws))
      exact kk _ _ _ M2 _ s2 o2 (isd (.tup (.inl (.inl upd_same)) (dpAll_mono s2 (dpAll_app h5 h7)))) q)
end
end A

set_option Elab.async false
set_option linter.all false
set_option maxRecDepth 100000
set_option maxHeartbeats 2000000
namespace A
open PySem PySem.Spec PyProof.Rows L2
section
variable {X : Cx} {ds : DS} {M : MS} {tg iter elt : Expr} {pos : Pos} {x : Str} {scope : Scope} {own : List (Str × Nat)} {Z : AEnds}
theorem lc_sem {kp : MS → Prop} {k : DV → MS → Prop} (h : AI X tg iter ds M kp fun xs M1 => ∀ D, M1 D = none → ∃ W : Nat → List DV → MS → Prop, (∀ i acc M', W i acc M' → kp (upM M' D (.lst acc))) ∧ W 0 [] M1 ∧
      (∀ i d acc M', xs[i]? = some d → W i acc M' → acc.length < 100000 ∧ ∀ s H C cl fp, AGc (Bk X scope s H C cl fp) tg d (wipeD ds (own.map (·.2))) (upM M' D (.lst acc)) (own.map (·.2)) fun ds2 => ∀ s H C cl fp,
        AE (Bk X scope s H C cl fp) elt ds2 (upM M' D (.lst acc)) fun y M2 => ∃ M3, M2 = upM M3 D (.lst acc) ∧ W (i + 1) (acc ++ [y]) M3) ∧
      (∀ acc M', W xs.length acc M' → k (.raw (.ref D)) (upM M' D (.lst acc))))
     : ∀ σ G H (Q : VK), EnvOk X.K G σ ds → Ok X.K G M H → (∀ v d G2 M2 H2, Same G G2 → Ok X.K G2 M2 H2 → Is X.K G2 v d → k d M2 → Q v H2) → tLc (SemI X tg iter) (gB X scope tg) tYes (teB X scope elt) (own.map (·.2)) σ H Q := fun σ G H Q he ho kk =>
    (h σ G H _ he ho fun J xs G1 M1 H1 s1 o1 i1 k1 D hD => by
      obtain ⟨hg, hm⟩ := o1.fresh hD
      obtain ⟨W, hk, w0, step, done⟩ := k1 D hm
      obtain ⟨Gd, Y, wk, hG, hY⟩ := i1.ex
      have e1 := (he.mono s1).wipe (own.map (·.2))
      refine lc_it (g := gB X scope tg) (tt := tYes) (te := teB X scope elt) (vs := own.map (·.2)) (σ := σ) (D := D) (Qd := fun H => Q (.ref D) H) wk (fun i H' => ∃ G' M' acc, Same G1 G' ∧ Ok X.K G' (upM M' D (.lst acc)) H' ∧ W i acc M') ⟨G1, M1, [], Same.refl _, o1.put hg (x := .lst []) (m := .lst []) ⟨[], upd_same, .nil⟩, w0⟩
        (fun i H' hi ⟨G', M', acc, s', o', w'⟩ => hG G' _ H' s' o' (hk _ _ _ w')) (fun i x H' H2 hi ⟨G', M', acc, s', o', w'⟩ y => ?_) (fun H' ⟨G', M', acc, s', o', w'⟩ => ?_)
      · obtain ⟨G2, d, s2, o2, hx, i2⟩ := hY i H' x H2 hi y G' _ s' o' (hk _ _ _ w')
        obtain ⟨hl, st⟩ := step i d acc M' hx w'
        intro s H0 C cl fp
        refine st s H0 C cl fp x _ G2 H2 _ (e1.mono (s'.trans s2)) o2 i2 fun σ2 ds2 hw e2 k2 => ⟨hw.trans ?_, ?_⟩
        · have : ∀ vs : List Nat, L2.wipe (L2.wipe σ vs) vs = L2.wipe σ vs := by
            have aux : ∀ (us vs : List Nat), (∀ u ∈ us, u ∈ vs) → L2.wipe (L2.wipe σ us) vs = L2.wipe σ vs := by
              intro us
              induction us with
              | nil => intro vs _; rfl
              | cons u us ih =>
                intro vs hu
                show L2.wipe ((L2.wipe σ us).set u none) vs = _
                rw [wipe_set (hu u List.mem_cons_self)]
                exact ih vs fun v hv => hu v (List.mem_cons_of_mem _ hv)
            exact fun vs => aux vs vs fun _ h => h
          exact this _
        · unfold tYes
          simp only [if_true]
          unfold teB
          intro s H0 C cl fp
          refine k2 s H0 C cl fp σ2 G2 H2 _ e2 o2 fun v y G3 M3 H3 s3 o3 i3 ⟨M4, hM, w4⟩ => ?_
          subst hM
          obtain ⟨hg3, zs, h1, h2⟩ := o3.chg D _ upM_same
          refine ⟨zs, h1, sz_lt1000 (by rw [h2.len]; exact hl), G3, M4, acc ++ [y], s'.trans (s2.trans s3), ?_, w4⟩
          have := o3.put hg3 (x := .lst (zs ++ [v])) (m := .lst (acc ++ [y])) ⟨_, upd_same, h2.snoc i3⟩
          rw [upM_upM] at this
          exact this
      · exact kk (.ref D) (.raw (.ref D)) G' _ H' (s1.trans s') o' (show Is X.K G' (.ref D) (.raw (.ref D)) from rfl) (done acc M' w'))

/-- x = [..] of a plain local name on one line -/
theorem as_setLc {kp : MS → Prop} (i : Nat) {py spos : Pos} (hc : X.calm = true) (hN : X.N.Nodup) (ok : BlkOk X.N X.env.scope scope own)
    (h : AI X tg iter ds M kp fun xs M1 => ∀ D, M1 D = none → ∃ W : Nat → List DV → MS → Prop, (∀ i acc M', W i acc M' → kp (upM M' D (.lst acc))) ∧ W 0 [] M1 ∧
      (∀ i d acc M', xs[i]? = some d → W i acc M' → acc.length < 100000 ∧ ∀ s H C cl fp, AGc (Bk X scope s H C cl fp) tg d (wipeD ds (own.map (·.2))) (upM M' D (.lst acc)) (own.map (·.2)) fun ds2 => ∀ s H C cl fp,
        AE (Bk X scope s H C cl fp) elt ds2 (upM M' D (.lst acc)) fun y M2 => ∃ M3, M2 = upM M3 D (.lst acc) ∧ W (i + 1) (acc ++ [y]) M3) ∧
      (∀ acc M', W xs.length acc M' → Z.nx (ds.set i (some (.raw (.ref D)))) (upM M' D (.lst acc))))
    
    (hi : X.N[i]? = some x := by rfl) (hyl : X.env.scope.names.lookup x = some .local := by rfl) (hsw : swapsWith (.ListComp elt [⟨tg, iter, [], 0⟩] scope pos) (some (.Name x py)) spos.line X.env = pure true := by rfl) (hs : ∀ x, foldedSetIterable iter X.env x = pure x := by intro _; rfl) :
    AS X (.Assign [.Name x py] (.ListComp elt [⟨tg, iter, [], 0⟩] scope pos) spos) ds M Z := fun σ G H D he ho q =>
  ofS (ps_setLc (own := own) (g := gB X scope tg) (tt := tYes) (te := teB X scope elt) hc hN hi hyl hsw semI ok
    (fun s H C cl fp => ⟨fun pins s' σ H' v u Q I r h => (h s H C cl fp).run pins s' u I r⟩) (fun _ _ _ _ _ => pts_nil) (fun s H C cl fp => ⟨fun pins s' σ H' Q I h => (h s H C cl fp).run pins s' I⟩) hs)
    (lc_sem (k := fun d M' => Z.nx (ds.set i (some d)) M') h σ G H _ he ho fun v d G2 M2 H2 s2 o2 i2 k2 => q.nx _ _ G2 M2 H2 s2 ((he.mono s2).set i2 i) o2 k2)
theorem as_setLcP {kp : MS → Prop} (i : Nat) {py spos : Pos} (hc : X.calm = true) (hN : X.N.Nodup) (ok : BlkOk X.N X.env.scope scope own) (g : DV → DV)
    (h : AI X tg iter ds M kp fun xs M1 => (∀ D m, M1 D = none → kp (upM M1 D m)) ∧ xs.length < 100000 ∧ (∀ d M', d ∈ xs → Le M1 M' → ∀ s H C cl fp, AGc (Bk X scope s H C cl fp) tg d (wipeD ds (own.map (·.2))) M' (own.map (·.2)) fun ds2 => ∀ s H C cl fp,
        AE (Bk X scope s H C cl fp) elt ds2 M' fun y M2 => y = g d ∧ M2 = M') ∧
      ∀ D, M1 D = none → Z.nx (ds.set i (some (.raw (.ref D)))) (upM M1 D (.lst (xs.map g))))
    (hi : X.N[i]? = some x := by rfl) (hyl : X.env.scope.names.lookup x = some .local := by rfl) (hsw : swapsWith (.ListComp elt [⟨tg, iter, [], 0⟩] scope pos) (some (.Name x py)) spos.line X.env = pure true := by rfl) (hs : ∀ x, foldedSetIterable iter X.env x = pure x := by intro _; rfl) :
    AS X (.Assign [.Name x py] (.ListComp elt [⟨tg, iter, [], 0⟩] scope pos) spos) ds M Z :=
  as_setLc i hc hN ok (h.imp fun xs M1 ⟨hk, hl, h1, h2⟩ D hD => ⟨fun i acc M' => acc = (xs.take i).map g ∧ M' = M1, fun i acc M' ⟨_, e⟩ => by rw [e]; exact hk D _ hD, ⟨rfl, rfl⟩, fun i d acc M' hx ⟨e1, e2⟩ => by
    subst e1 e2
    have hi : i < xs.length := (List.getElem?_eq_some_iff.mp hx).1
    refine ⟨by rw [List.length_map, List.length_take]; omega, fun s H C cl fp => ?_⟩
    intro v σ G H' Q he ho iv kk'
    refine h1 d _ (List.mem_of_getElem? hx) (Le.up (Le.refl _) hD) s H C cl fp v σ G H' Q he ho iv fun σ' ds' w e2 k2 => kk' σ' ds' w e2 fun s H C cl fp => (k2 s H C cl fp).imp fun y M2 ⟨e3, e4⟩ => ⟨_, e4, ?_, rfl⟩
    rw [e3, List.take_add_one, hx, List.map_append]
    rfl, fun acc M' ⟨e1, e2⟩ => by
    subst e1 e2
    rw [List.take_length]
    exact h2 D hD⟩) hi hyl hsw hs
end
end A

set_option Elab.async false
set_option linter.all false
set_option maxRecDepth 100000
set_option maxHeartbeats 2000000
namespace A
open PySem PySem.Spec PyProof.Rows L2
section
variable {X : Cx} {ds : DS} {M : MS} {a b : Expr} {pos : Pos} {k : DV → MS → Prop}
/-- list + list of lists that may change -/
theorem ae_catM (h : AE X a ds M fun x M1 => AE X b ds M1 fun y M2 => ∃ q r xs ys, x = .raw (.ref q) ∧ y = .raw (.ref r) ∧ M2 q = some (.lst xs) ∧ M2 r = some (.lst ys) ∧ xs.length + ys.length ≤ 1000 ∧ ∀ p, M2 p = none → k (.raw (.ref p)) (upM M2 p (.lst (xs ++ ys)))) : AE X (.BinOp a .Add b pos) ds M k :=
  ae_op op_cat (h.imp fun x M1 h1 => h1.imp fun y M2 ⟨q, r, xs, ys, e1, e2, hq, hr, hl, z⟩ => by
    subst e1 e2
    intro v w G H Q ho iv iw kk
    have e1 : v = .ref q := iv
    have e2 : w = .ref r := iw
    subst e1 e2
    obtain ⟨_, us, h1, h2⟩ := ho.chg _ _ hq
    obtain ⟨_, ws, h3, h4⟩ := ho.chg _ _ hr
    refine ⟨q, r, us, ws, rfl, rfl, h1, h3, sz1000 (by rw [h2.len, h4.len]; exact hl), fun p hp => ?_⟩
    obtain ⟨hg, hm⟩ := ho.fresh hp
    exact kk _ _ G _ _ (Same.refl _) (ho.put hg (x := .lst (us ++ ws)) (m := .lst (xs ++ ys)) ⟨_, upd_same, h2.app h4⟩) (show Is X.K G (.ref p) (.raw (.ref p)) from rfl) (z p hm))
end
end A

set_option Elab.async false
set_option linter.all false
set_option maxRecDepth 100000
set_option maxHeartbeats 2000000
namespace A
open PySem PySem.Spec PyProof.Rows L2
section
variable {X : Cx} {ds : DS} {M : MS} {c tg iter elt : Expr} {pos : Pos} {x : Str} {scope : Scope} {own : List (Str × Nat)} {Z : AEnds}
theorem lc_semI {kp : MS → Prop} {k : DV → MS → Prop} (h : AI X tg iter ds M kp fun xs M1 => ∀ D, M1 D = none → ∃ W : Nat → List DV → MS → Prop, (∀ i acc M', W i acc M' → kp (upM M' D (.lst acc))) ∧ W 0 [] M1 ∧
      (∀ i d acc M', xs[i]? = some d → W i acc M' → acc.length < 100000 ∧ ∀ s H C cl fp, AGc (Bk X scope s H C cl fp) tg d (wipeD ds (own.map (·.2))) (upM M' D (.lst acc)) (own.map (·.2)) fun ds2 => ∀ s H C cl fp,
        AT (Bk X scope s H C cl fp) c ds2 (upM M' D (.lst acc)) fun r M1 => M1 = upM M' D (.lst acc) ∧ (r = false → W (i + 1) acc M') ∧ (r = true → ∀ s H C cl fp, AE (Bk X scope s H C cl fp) elt ds2 (upM M' D (.lst acc)) fun y M2 => ∃ M3, M2 = upM M3 D (.lst acc) ∧ W (i + 1) (acc ++ [y]) M3)) ∧
      (∀ acc M', W xs.length acc M' → k (.raw (.ref D)) (upM M' D (.lst acc))))
     : ∀ σ G H (Q : VK), EnvOk X.K G σ ds → Ok X.K G M H → (∀ v d G2 M2 H2, Same G G2 → Ok X.K G2 M2 H2 → Is X.K G2 v d → k d M2 → Q v H2) → tLc (SemI X tg iter) (gB X scope tg) (ttB X scope c) (teB X scope elt) (own.map (·.2)) σ H Q := fun σ G H Q he ho kk =>
    (h σ G H _ he ho fun J xs G1 M1 H1 s1 o1 i1 k1 D hD => by
      obtain ⟨hg, hm⟩ := o1.fresh hD
      obtain ⟨W, hk, w0, step, done⟩ := k1 D hm
      obtain ⟨Gd, Y, wk, hG, hY⟩ := i1.ex
      have e1 := (he.mono s1).wipe (own.map (·.2))
      refine lc_it (g := gB X scope tg) (tt := ttB X scope c) (te := teB X scope elt) (vs := own.map (·.2)) (σ := σ) (D := D) (Qd := fun H => Q (.ref D) H) wk (fun i H' => ∃ G' M' acc, Same G1 G' ∧ Ok X.K G' (upM M' D (.lst acc)) H' ∧ W i acc M') ⟨G1, M1, [], Same.refl _, o1.put hg (x := .lst []) (m := .lst []) ⟨[], upd_same, .nil⟩, w0⟩
        (fun i H' hi ⟨G', M', acc, s', o', w'⟩ => hG G' _ H' s' o' (hk _ _ _ w')) (fun i x H' H2 hi ⟨G', M', acc, s', o', w'⟩ y => ?_) (fun H' ⟨G', M', acc, s', o', w'⟩ => ?_)
      · obtain ⟨G2, d, s2, o2, hx, i2⟩ := hY i H' x H2 hi y G' _ s' o' (hk _ _ _ w')
        obtain ⟨hl, st⟩ := step i d acc M' hx w'
        intro s H0 C cl fp
        refine st s H0 C cl fp x _ G2 H2 _ (e1.mono (s'.trans s2)) o2 i2 fun σ2 ds2 hw e2 k2 => ⟨hw.trans ?_, ?_⟩
        · have : ∀ vs : List Nat, L2.wipe (L2.wipe σ vs) vs = L2.wipe σ vs := by
            have aux : ∀ (us vs : List Nat), (∀ u ∈ us, u ∈ vs) → L2.wipe (L2.wipe σ us) vs = L2.wipe σ vs := by
              intro us
              induction us with
              | nil => intro vs _; rfl
              | cons u us ih =>
                intro vs hu
                show L2.wipe ((L2.wipe σ us).set u none) vs = _
                rw [wipe_set (hu u List.mem_cons_self)]
                exact ih vs fun v hv => hu v (List.mem_cons_of_mem _ hv)
            exact fun vs => aux vs vs fun _ h => h
          exact this _
        · intro s H0 C cl fp
          refine k2 s H0 C cl fp σ2 G2 H2 _ e2 o2 fun b G2' M2' H2' s2' o2' ⟨eM, hf, ht⟩ => ?_
          subst eM
          cases b with
          | false => exact ⟨G2', M', acc, s'.trans (s2.trans s2'), o2', hf rfl⟩
          | true =>
            simp only [if_true]
            intro s H0 C cl fp
            refine ht rfl s H0 C cl fp σ2 G2' H2' _ (e2.mono s2') o2' fun v y G3 M3 H3 s3 o3 i3 ⟨M4, hM, w4⟩ => ?_
            subst hM
            obtain ⟨hg3, zs, h1, h2⟩ := o3.chg D _ upM_same
            refine ⟨zs, h1, sz_lt1000 (by rw [h2.len]; exact hl), G3, M4, acc ++ [y], s'.trans (s2.trans (s2'.trans s3)), ?_, w4⟩
            have := o3.put hg3 (x := .lst (zs ++ [v])) (m := .lst (acc ++ [y])) ⟨_, upd_same, h2.snoc i3⟩
            rw [upM_upM] at this
            exact this
      · exact kk (.ref D) (.raw (.ref D)) G' _ H' (s1.trans s') o' (show Is X.K G' (.ref D) (.raw (.ref D)) from rfl) (done acc M' w'))

theorem as_setLcI {kp : MS → Prop} (i : Nat) {py spos : Pos} (hc : X.calm = true) (hN : X.N.Nodup) (ok : BlkOk X.N X.env.scope scope own)
    (h : AI X tg iter ds M kp fun xs M1 => ∀ D, M1 D = none → ∃ W : Nat → List DV → MS → Prop, (∀ i acc M', W i acc M' → kp (upM M' D (.lst acc))) ∧ W 0 [] M1 ∧
      (∀ i d acc M', xs[i]? = some d → W i acc M' → acc.length < 100000 ∧ ∀ s H C cl fp, AGc (Bk X scope s H C cl fp) tg d (wipeD ds (own.map (·.2))) (upM M' D (.lst acc)) (own.map (·.2)) fun ds2 => ∀ s H C cl fp,
        AT (Bk X scope s H C cl fp) c ds2 (upM M' D (.lst acc)) fun r M1 => M1 = upM M' D (.lst acc) ∧ (r = false → W (i + 1) acc M') ∧ (r = true → ∀ s H C cl fp, AE (Bk X scope s H C cl fp) elt ds2 (upM M' D (.lst acc)) fun y M2 => ∃ M3, M2 = upM M3 D (.lst acc) ∧ W (i + 1) (acc ++ [y]) M3)) ∧
      (∀ acc M', W xs.length acc M' → Z.nx (ds.set i (some (.raw (.ref D)))) (upM M' D (.lst acc))))
    
    (hi : X.N[i]? = some x := by rfl) (hyl : X.env.scope.names.lookup x = some .local := by rfl) (hsw : swapsWith (.ListComp elt [⟨tg, iter, [c], 0⟩] scope pos) (some (.Name x py)) spos.line X.env = pure true := by rfl) (hs : ∀ x, foldedSetIterable iter X.env x = pure x := by intro _; rfl) :
    AS X (.Assign [.Name x py] (.ListComp elt [⟨tg, iter, [c], 0⟩] scope pos) spos) ds M Z := fun σ G H D he ho q =>
  ofS (ps_setLc (own := own) (g := gB X scope tg) (tt := ttB X scope c) (te := teB X scope elt) hc hN hi hyl hsw semI ok
    (fun s H C cl fp => ⟨fun pins s' σ H' v u Q I r h => (h s H C cl fp).run pins s' u I r⟩) (fun s H C cl fp => pts_one ⟨fun pins s' σ H' Q I h => (h s H C cl fp).run pins s' I⟩) (fun s H C cl fp => ⟨fun pins s' σ H' Q I h => (h s H C cl fp).run pins s' I⟩) hs)
    (lc_semI (k := fun d M' => Z.nx (ds.set i (some d)) M') h σ G H _ he ho fun v d G2 M2 H2 s2 o2 i2 k2 => q.nx _ _ G2 M2 H2 s2 ((he.mono s2).set i2 i) o2 k2)
theorem as_setLcPI {kp : MS → Prop} (i : Nat) {py spos : Pos} (hc : X.calm = true) (hN : X.N.Nodup) (ok : BlkOk X.N X.env.scope scope own) (P : DV → Bool) (g : DV → DV)
    (h : AI X tg iter ds M kp fun xs M1 => (∀ D m, M1 D = none → kp (upM M1 D m)) ∧ xs.length < 100000 ∧ (∀ d M', d ∈ xs → Le M1 M' → ∀ s H C cl fp, AGc (Bk X scope s H C cl fp) tg d (wipeD ds (own.map (·.2))) M' (own.map (·.2)) fun ds2 => ∀ s H C cl fp,
        AT (Bk X scope s H C cl fp) c ds2 M' fun r M1 => (r = P d ∧ (r = true → ∀ s H C cl fp, AE (Bk X scope s H C cl fp) elt ds2 M' fun y M2 => y = g d ∧ M2 = M')) ∧ M1 = M') ∧
      ∀ D, M1 D = none → Z.nx (ds.set i (some (.raw (.ref D)))) (upM M1 D (.lst ((xs.filter P).map g))))
    
    (hi : X.N[i]? = some x := by rfl) (hyl : X.env.scope.names.lookup x = some .local := by rfl) (hsw : swapsWith (.ListComp elt [⟨tg, iter, [c], 0⟩] scope pos) (some (.Name x py)) spos.line X.env = pure true := by rfl) (hs : ∀ x, foldedSetIterable iter X.env x = pure x := by intro _; rfl) :
    AS X (.Assign [.Name x py] (.ListComp elt [⟨tg, iter, [c], 0⟩] scope pos) spos) ds M Z :=
  as_setLcI i hc hN ok (h.imp fun xs M1 ⟨hk, hl, h1, h2⟩ D hD => ⟨fun i acc M' => acc = ((xs.take i).filter P).map g ∧ M' = M1, fun i acc M' ⟨_, e⟩ => by rw [e]; exact hk D _ hD, ⟨rfl, rfl⟩, fun i d acc M' hx ⟨e1, e2⟩ => by
    subst e1 e2
    have hi : i < xs.length := (List.getElem?_eq_some_iff.mp hx).1
    refine ⟨by rw [List.length_map]; exact Nat.lt_of_le_of_lt (List.length_filter_le _ _) (by rw [List.length_take]; omega), fun s H C cl fp => ?_⟩
    intro v σ G H' Q he ho iv kk'
    refine h1 d _ (List.mem_of_getElem? hx) (Le.up (Le.refl _) hD) s H C cl fp v σ G H' Q he ho iv fun σ' ds' w e2 k2 => kk' σ' ds' w e2 fun s H C cl fp => (k2 s H C cl fp).imp fun r M2 ⟨⟨e3, e5⟩, e4⟩ => ⟨e4, fun e => ?_, fun e s H C cl fp => (e5 e s H C cl fp).imp fun y M3 ⟨e6, e7⟩ => ⟨_, e7, ?_, rfl⟩⟩
    · rw [e3] at e
      refine ⟨?_, rfl⟩
      rw [List.take_add_one, hx, List.filter_append]
      simp [e]
    · rw [e3] at e
      rw [e6, List.take_add_one, hx, List.filter_append, List.map_append]
      simp [e], fun acc M' ⟨e1, e2⟩ => by
    subst e1 e2
    rw [List.take_length]
    exact h2 D hD⟩) hi hyl hsw hs
end
end A

set_option Elab.async false
set_option linter.all false
set_option maxRecDepth 100000
set_option maxHeartbeats 2000000
/-! dict(list(e.items())), lists that stand still added, // by any number but 0 -/
namespace A
open PySem PySem.Spec PyProof.Rows L2
section
variable {X : Cx} {ds : DS} {M : MS} {a b e : Expr} {pos p p2 pos2 apos cpos : Pos} {k : DV → MS → Prop}
theorem ae_dictItems (hcalm : X.calm = true) (hmD : X.mg "dict" = none) (hmL : X.mg "list" = none)
    (h : AE X e ds M fun x M1 => ∃ q kvs, x = .raw (.ref q) ∧ M1 q = some (.dK kvs) ∧ ∀ p, M1 p = none → k (.raw (.ref p)) (upM M1 p (.dK (mergeD [] kvs))))
    (hgD : Gl X "dict" := by rfl) (hgL : Gl X "list" := by rfl) (hbase : attributeBase e "items" X.env (eval e X.env) = eval e X.env := by rfl) (hline : (apos.endLine == cpos.line) = true := by rfl)
    (hs : starEach [.Call (.Attribute e "items" apos) [] [] cpos] X.env = (false, eval (.Call (.Attribute e "items" apos) [] [] cpos) X.env) :: starEach [] X.env := by rfl)
    (hs2 : starEach [.Call (.Name "list" p2) [.Call (.Attribute e "items" apos) [] [] cpos] [] pos2] X.env = (false, eval (.Call (.Name "list" p2) [.Call (.Attribute e "items" apos) [] [] cpos] [] pos2) X.env) :: starEach [] X.env := by rfl)
    (hpl : (backTo pos (starEach [] X.env)).any (·.1) = false := by rfl) :
    AE X (.Call (.Name "dict" p) [.Call (.Name "list" p2) [.Call (.Attribute e "items" apos) [] [] cpos] [] pos2] [] pos) ds M k := fun σ G H Q he ho kk => by
  refine ofE (pe_callTy (call_dictP hcalm) hgD hmD (by decide +kernel) (pa_cons (LiI.pe_listItems hcalm semE hgL hmL (by decide +kernel) hbase hline hs) pa_nil hs2) (by decide) (by decide) hs2 hpl) ?_
  refine h σ G H _ he ho fun v x G1 M1 H1 s1 o1 i1 k1 => ?_
  obtain ⟨q, kvs, rfl, hM, k2⟩ := k1
  obtain ⟨hg, ws, h1, h2⟩ := o1.chg q _ hM
  refine ⟨q, ws, i1, h1, fun H' r ts hsub hr hts hrt hl hpr => ?_⟩
  refine ⟨r, ts, ws, rfl, SqL.of hl, Paired.mapP hpr fun _ _ z => SqT.of z, fun p3 hp3 => ?_⟩
  have o2 : Ok X.K G1 M1 H' := ⟨fun a o z => hsub a o (o1.sub a o z), fun a m z => by
    obtain ⟨z1, z2⟩ := o1.chg a m z
    obtain ⟨o, z3⟩ := z2.some
    exact ⟨z1, z2.mono (Same.refl _) (by rw [hsub a o z3, z3])⟩, o1.tb⟩
  obtain ⟨g3, m3⟩ := o2.fresh hp3
  exact kk _ _ G1 _ _ s1 (o2.put g3 (x := .dK (mergeK [] ws)) (m := .dK (mergeD [] kvs)) ⟨_, upd_same, merge_is h2 .nil⟩) (show Is X.K G1 (.ref p3) (.raw (.ref p3)) from rfl) (k2 p3 m3)
/-- a slice as a new list that may change -/
theorem ae_slM {lo hi : Option Expr} {e : Expr} (h : AE X e ds M fun x M1 => AO X lo ds M1 fun i M2 => AO X hi ds M2 fun j M3 => ∃ xs, x = .dat (.list xs) ∧ ∀ p, M3 p = none → k (.raw (.ref p)) (upM M3 p (.lst ((cutD xs i j).map .dat)))) : AE X (.Subscript e (.Slice lo hi none p2) pos) ds M k := fun σ G H Q he hok kk =>
  ofE (pe_slice sl_list semE semO semO) (h σ G H _ he hok fun v x G1 M1 H1 s1 o1 i1 k1 => k1 σ G1 H1 _ (he.mono s1) o1 fun i G2 M2 H2 s2 o2 k2 => k2 σ G2 H2 _ (he.mono (s1.trans s2)) o2 fun j G3 M3 H3 s3 o3 k3 => by
    obtain ⟨xs, rfl, q⟩ := k3
    obtain ⟨p, ys, rfl, h4, h5⟩ := dp_lst_inv i1
    have s23 := s2.trans s3
    refine ⟨p, ys, rfl, (s23.trans o3.same).seq h4, fun l hl => ?_⟩
    have h6 : ∀ {K : PySem.W.Frag} {H : Hp}, DpAll K H ys xs → DpAll K H (cutV ys i j) (cutD xs i j) := fun h => by
      unfold cutV cutD
      rw [dpAll_len h]
      exact dpAll_take _ (dpAll_drop _ h)
    obtain ⟨hg, hm⟩ := o3.fresh hl
    exact kk _ _ G3 _ _ (s1.trans s23) (o3.put hg (x := .lst (cutV ys i j)) (m := .lst ((cutD xs i j).map .dat)) ⟨_, upd_same, IsAll.of (h6 (dpAll_mono s23 h5))⟩) (show Is X.K G3 (.ref l) (.raw (.ref l)) from rfl) (q l hm))
def CDivNW (_ j : Int) : Prop := j ≠ 0 ∧ j.natAbs.log2 < 9000
theorem op_fdivNW : OpR X (binaryOp .FloorDiv) (rI CDivNW fun i j => .int (i.fdiv j)) := opI fun _ _ _ _ _ _ _ hc q => floordiv_int hc.1 q (.inl (PyProof.noPylong_of_log2 hc.2))
theorem ae_fdivN (h : AE X a ds M fun x M1 => AE X b ds M1 fun y M2 => ∃ i j, x = .dat (.int i) ∧ y = .dat (.int j) ∧ CDivNW i j ∧ k (.dat (.int (i.fdiv j))) M2) : AE X (.BinOp a .FloorDiv b pos) ds M k :=
  ae_op op_fdivNW (h.imp fun x M1 h1 => h1.imp fun y M2 ⟨i, j, e1, e2, hc, q⟩ => by subst e1 e2; exact ar_I hc q)
end
end A

set_option Elab.async false
set_option linter.all false
set_option maxRecDepth 100000
set_option maxHeartbeats 2000000
/-! == and != of instances by an own __eq__ -/
namespace A
open PySem PySem.Spec PyProof.Rows L2
section
variable {M : Model} {prog : Program} {w : World} {A : Around} {E : Value → Shared → Prop} {s : Shared} {K : PySem.W.Frag} {x y C f L : Addr} {ox : Obj} {od : Option Obj} {b tb : Value} {h₀ : Heap} {m : Str → Option Value}
/-- a special method that the class has from object, by its slot -/
theorem ask_object {name : Str} {bid : String} {args : List Value} {Q : Option Value → Shared → Prop} (S : Slot "object" name bid) (X : K.In s.heap) (I : PySem.W.InstAt s.heap x ox C od) (at_ : PySem.W.findIn K (.ref C) name = some (some (.builtin bid)))
    (told : wpAny M A (call (.builtin bid) (.ref x :: args)) (fun v => Q (some v)) E s) : wpAny M A (callSpecialIfBound? (.ref x) name args) Q E s := by
  have last : wpAny M A (call (.builtin bid) ([.ref x] ++ args) >>= fun v => pure (some v)) Q E s :=
    wpAny_bind (wpAny_mono told (fun _ _ h => wpAny_pure h) fun _ _ h => h)
  unfold callSpecialIfBound? bindSpecialIfBound?
  refine wpAny_holding <| wpAny_bind <| wpAny_bind <| wpAny_bind <| I.type.here <| (PySem.W.looks_findIn X at_).here <| wpAny_bind <| wpAny_askSetting <| wpAny_ite ?_
  split
  · exact wpAny_bind (wpAny_of_eq (S.bind _) (wpAny_pure (by exact last)))
  · refine wpAny_tryCatch ?_
    exact wpAny_bind (wpAny_of_eq (S.bind _) (wpAny_pure (by exact last)))
/-- object's !=, where the class has an == of its own that tells a bool -/
theorem entry_ne {Q : Fin → Shared → Prop} (hu : A.units < cLine) (X : K.In s.heap) (I : PySem.W.InstAt s.heap x ox C od) (hs : PySem.W.findIn K (.ref C) "__eq__" = some (some (.ref f))) (hf : PySem.W.isFn K (.ref f) = true)
    (told : wpAny (model prog w) A (call (.ref f) [.ref x, .ref y]) (fun v s' => ∃ c, v = .bool c ∧ Q (.done (.ret (.bool (!c)))) s') E s) :
    wpAny (model prog w) A (Builtin.«object.__ne__» ⟨[.ref x, .ref y], []⟩) Q E s := by
  have ask : ∀ {R : Option Value → Shared → Prop}, (∀ c s', Q (.done (.ret (.bool (!c)))) s' → R (some (.bool c)) s') → wpAny (model prog w) A (callSpecialIfBound? (.ref x) (Str.ofString "__eq__") [.ref y]) R E s := fun h =>
    PySem.W.ifBound_K X I hs hf (wpAny_mono told (fun _ _ ⟨c, e, q⟩ => by subst e; exact h c _ q) fun _ _ e => e)
  unfold Builtin.«object.__ne__»
  repeat (first
    | with_reducible exact wpAny_cRoomFor hu ‹_›
    | with_reducible refine wpAny_cRoomFor hu ?_
    | refine wpAny_bind (m := callSpecialIfBound? (.ref x) (Str.ofString "__eq__") [.ref y]) (ask fun c s' q => ?_)
    | exact wpAny_pure q
    | (refine wpAny_bind (m := truthy (.bool _)) ?_; exact wpAny_truthy_bool (wpAny_pure q))
    | wp_step)
theorem call_objNe {Q : Value → Shared → Prop} (hu : A.units + 1 < cLine) (X : K.In s.heap) (I : PySem.W.InstAt s.heap x ox C od) (hm : PySem.W.mroIn K C (.type "object") = some true) (hs : PySem.W.findIn K (.ref C) "__eq__" = some (some (.ref f))) (hf : PySem.W.isFn K (.ref f) = true)
    (told : wpAny (model prog w) A.in1 (call (.ref f) [.ref x, .ref y]) (fun v s' => ∃ c, v = .bool c ∧ Q (.bool (!c)) s') E s) : wpAny (model prog w) A (call (.builtin "object.__ne__") [.ref x, .ref y]) Q E s := by
  have inn := entry_ne (A := A.in1) (Q := fun r s' => ∃ v, r = .done (.ret v) ∧ Q v s') hu X I hs hf (wpAny_mono told (fun _ _ ⟨c, e, q⟩ => ⟨c, e, _, rfl, q⟩) fun _ _ e => e)
  refine wpAny_call (codeAny_call_builtin F.cmp_object.ne.plain F.cmpEntry_ne (PySem.W.check_slot F.cmpKind_ne F.cmpSplit_ne (I.type.andThen (PySem.W.looks_mroIn X hm)) (F.cmpArgs_ne _ _) (wpAny_mono inn (fun r s' ⟨v, e, q⟩ => ?_) fun _ _ e => e)))
  subst e
  first | exact q | exact wpAny_pure q
/-- x != y of two instances of one class that has its own == -/
theorem cmp_neK {Q : Value → Shared → Prop} (hu : A.units + 1 < cLine) (Fh : PyProof.Rows.Fr h₀ L s.heap m) (X₀ : K.In h₀) (I : PySem.W.InstAt s.heap x ox C od) (J : PySem.W.Looks (model prog w) s.heap (typeOf (.ref y)) (.ref C))
    (hm : PySem.W.mroIn K C (.type "object") = some true) (hne : PySem.W.findIn K (.ref C) "__ne__" = some (some (.builtin "object.__ne__"))) (hs : PySem.W.findIn K (.ref C) "__eq__" = some (some (.ref f))) (hf : PySem.W.isFn K (.ref f) = true)
    (told : wpAny (model prog w) A.in1 (call (.ref f) [.ref x, .ref y]) (fun v s' => ∃ c, v = .bool c ∧ Q (.bool (!c)) s') E s) : wpAny (model prog w) A (richCompare .NotEq (.ref x) (.ref y)) Q E s := by
  have X := X₀.keeps Fh.keep
  have tried : wpAny (model prog w) A (tryCompare (.ref x) "__ne__" (.ref y)) (fun r s' => ∃ c : Bool, r = some (.bool c) ∧ Q (.bool c) s') E s := by
    unfold tryCompare
    have step := call_objNe (Q := fun v s' => ∃ c : Bool, v = .bool c ∧ Q (.bool c) s') hu X I hm hs hf (wpAny_mono told (fun _ _ ⟨c, e, q⟩ => ⟨c, e, _, rfl, q⟩) fun _ _ e => e)
    refine wpAny_bind (ask_object F.cmp_object.ne X I hne (wpAny_mono step (fun v s' ⟨c, e, q⟩ => ?_) fun _ _ e => e))
    subst e
    exact wpAny_pure ⟨c, rfl, q⟩
  have same : (Value.ref C != Value.ref C) = false := by simp
  unfold richCompare
  rw [cmpInfo_NotEq]
  simp only [oneThing_ref]
  refine wpAny_holding <| wpAny_bind <| wpAny_cRoomFor (by omega) <| wpAny_bind <| I.type.here <| wpAny_bind <| J.here ?_
  simp only [same, Bool.false_eq_true, if_false]
  refine wpAny_bind <| wpAny_pure ?_
  simp only [Bool.false_eq_true, if_false]
  refine wpAny_bind <| wpAny_mono tried (fun r s' ⟨c, e, q⟩ => ?_) fun _ _ e => e
  subst e
  exact wpAny_pure q
end
section
variable {X : Cx} {C f : Addr} {fd : FuncData} {ps : List Str} {n : Nat} {ds : DS} {M : MS} {k : DV → MS → Prop} {kt : Bool → MS → Prop} {a b : Expr} {pos : Pos}
/-- what is known of a class with an own __eq__ and no __ne__ -/
structure EqC (K : PySem.W.Frag) (C f : Addr) : Prop where
  eq : PySem.W.findIn K (.ref C) "__eq__" = some (some (.ref f))
  fn : PySem.W.isFn K (.ref f) = true
  ne : PySem.W.findIn K (.ref C) "__ne__" = some (some (.builtin "object.__ne__"))
  ob : PySem.W.mroIn K C (.type "object") = some true
def rOwn (K : PySem.W.Frag) (S : DS1) (C : Addr) (neg : Bool) : R2 := fun x y H Q => ∃ a b dx dy fs gs, x = .ref a ∧ y = .ref b ∧ H a = some (.ins C dx fs) ∧ H b = some (.ins C dy gs) ∧
  spM K S [.ref a, .ref b] H (fun v H' => ∃ c, v = .bl c ∧ Q (.bl (xor neg c)) H') fun _ _ _ => False
theorem own_run {S : DS1} {A' : Around} {pins : List (Addr × Obj)} {s : Shared} {σ : L2.St} {H : Hp} {a b : Addr} {R : V → Hp → Prop} (F : FnOk X.prog X.w X.K X.mg X.base CX0 n f fd ps (spM X.K S)) (hb : Binds X.K fd ps []) (I : Inv X pins σ H s)
    (hr : Room n A') (hfr : A'.frames = X.A.frames) (hsp : spM X.K S [.ref a, .ref b] H R fun _ _ _ => False) :
    wpAny (model X.prog X.w) A' (call (.ref f) [.ref a, .ref b]) (fun v s' => ∃ z H', Inv X pins σ H' s' ∧ RelV z v ∧ R z H') X.xe s := by
  have e0 : Env0 X.prog X.w X.K X.mg X.base A' X.stack s H := by
    have e := I.env0
    exact ⟨by rw [hfr]; exact e.frames, e.mod, e.bs, e.bsz, e.funs, e.frf, e.hok, e.bare⟩
  have hl := F.len _ _ _ _ hsp
  have r2 : Vals [V.ref a, V.ref b] [Value.ref a, Value.ref b] := .cons rfl (.cons rfl .nil)
  refine wpAny_call (codeAny_mono (F.run A' X.stack s H ⟨[.ref a, .ref b], []⟩ [.ref a, .ref b] [.ref a, .ref b] _ _ hr e0 (by
    have := hb s [.ref a, .ref b] I.kIn (by simpa using hl)
    simpa using this) r2 hsp) fun r s' hq => ?_)
  cases r with
  | error e => exact pass0 pins σ H s e s' I hq
  | ok fl =>
    cases fl with
    | ret w =>
      obtain ⟨z, H', I', rz, q⟩ := I.after hq
      exact ⟨z, H', I', rz, q⟩
    | next => exact False.elim hq
    | brk => exact False.elim hq
    | cont => exact False.elim hq
theorem op_ownEq {S : DS1} (Q0 : EqC X.K C f) (F : FnOk X.prog X.w X.K X.mg X.base CX0 n f fd ps (spM X.K S)) (hb : Binds X.K fd ps []) (hr : Room n X.A) : OpR X (compareOp .Eq) (rOwn X.K S C false) := by
  intro pins s σ H x y v u Q I rx ry hq
  obtain ⟨a, b, dx, dy, fs, gs, rfl, rfl, ha, hb', hsp⟩ := hq
  cases rx
  cases ry
  obtain ⟨mA, J, _⟩ := ins_get I.hok ha
  obtain ⟨mB, J', _⟩ := ins_get I.hok hb'
  obtain ⟨od, J, _⟩ := J.look
  obtain ⟨od', J', _⟩ := J'.look
  obtain ⟨m, hF⟩ := I.fr
  show wpAny (model X.prog X.w) X.A (richCompare .Eq (.ref a) (.ref b)) (EP X pins σ Q) X.xe s
  refine PySem.W.cmp_K (op := .Eq) (tb := .ref C) hr.units0 hF I.ok.mod.kin J J'.type (by simp [PySem.W.notFirst]) Q0.eq Q0.fn (wpAny_mono (own_run F hb I hr rfl hsp) (fun r s' z => ?_) fun _ _ e => e)
  obtain ⟨z, H', I', rz, c, rfl, q⟩ := z
  cases rz
  have e : xor false c = c := by cases c <;> rfl
  rw [e] at q
  exact ⟨.bl c, H', I', rfl, q⟩
theorem op_ownNe {S : DS1} (Q0 : EqC X.K C f) (F : FnOk X.prog X.w X.K X.mg X.base CX0 n f fd ps (spM X.K S)) (hb : Binds X.K fd ps []) (hr : Room (n + 1) X.A) : OpR X (compareOp .NotEq) (rOwn X.K S C true) := by
  intro pins s σ H x y v u Q I rx ry hq
  obtain ⟨a, b, dx, dy, fs, gs, rfl, rfl, ha, hb', hsp⟩ := hq
  cases rx
  cases ry
  obtain ⟨mA, J, _⟩ := ins_get I.hok ha
  obtain ⟨mB, J', _⟩ := ins_get I.hok hb'
  obtain ⟨od, J, _⟩ := J.look
  obtain ⟨od', J', _⟩ := J'.look
  obtain ⟨m, hF⟩ := I.fr
  show wpAny (model X.prog X.w) X.A (richCompare .NotEq (.ref a) (.ref b)) (EP X pins σ Q) X.xe s
  refine cmp_neK (by have := hr.un; omega) hF I.ok.mod.kin J J'.type Q0.ob Q0.ne Q0.eq Q0.fn (wpAny_mono (own_run F hb I hr.in1 rfl hsp) (fun r s' z => ?_) fun _ _ e => e)
  obtain ⟨z, H', I', rz, c, rfl, q⟩ := z
  cases rz
  have e : xor true c = !c := by cases c <;> rfl
  rw [e] at q
  exact ⟨c, rfl, .bl (!c), H', I', rfl, q⟩
/-- two instances that stand still, by an own == -/
theorem ar_own {S : DS1} {neg : Bool} {fs gs : List (Str × PyData)} (h : S [.obj C fs, .obj C gs] M fun d M2 => ∃ c, d = .dat (.bool c) ∧ k (.dat (.bool (xor neg c))) M2) : AR X.K (rOwn X.K S C neg) (.obj C fs) (.obj C gs) M k := fun v w G H Q ho iv iw kk => by
  obtain ⟨p, dx, vs, rfl, h1, h2⟩ := iv
  obtain ⟨r, dy, ws, rfl, h3, h4⟩ := iw
  refine ⟨p, r, dx, dy, vs, ws, rfl, rfl, ho.sub _ _ h1, ho.sub _ _ h3, ?_⟩
  refine ⟨G, M, _, _, ho, .cons (show Is X.K G (.ref p) (.obj C fs) from ⟨p, dx, vs, rfl, h1, h2⟩) (.cons (show Is X.K G (.ref r) (.obj C gs) from ⟨r, dy, ws, rfl, h3, h4⟩) .nil), h, fun v d G2 M2 H2 s2 o2 i2 k2 => ?_⟩
  obtain ⟨c, rfl, q⟩ := k2
  exact ⟨c, dp_bl_inv i2, kk _ _ G2 M2 H2 s2 o2 (isd (Dp.bl _)) q⟩
theorem ae_ownEq {S : DS1} (Q0 : EqC X.K C f) (F : FnOk X.prog X.w X.K X.mg X.base CX0 n f fd ps (spM X.K S)) (hb : Binds X.K fd ps []) (hr : Room n X.A) (h : AE X a ds M fun x M1 => AE X b ds M1 fun y M2 => AR X.K (rOwn X.K S C false) x y M2 k) : AE X (.Compare a [.Eq] [b] pos) ds M k := ae_cmp (op_ownEq Q0 F hb hr) h (nomark _)
theorem ae_ownNe {S : DS1} (Q0 : EqC X.K C f) (F : FnOk X.prog X.w X.K X.mg X.base CX0 n f fd ps (spM X.K S)) (hb : Binds X.K fd ps []) (hr : Room (n + 1) X.A) (h : AE X a ds M fun x M1 => AE X b ds M1 fun y M2 => AR X.K (rOwn X.K S C true) x y M2 k) : AE X (.Compare a [.NotEq] [b] pos) ds M k := ae_cmp (op_ownNe Q0 F hb hr) h (nomark _)
theorem at_ownEq {S : DS1} (Q0 : EqC X.K C f) (F : FnOk X.prog X.w X.K X.mg X.base CX0 n f fd ps (spM X.K S)) (hb : Binds X.K fd ps []) (hr : Room n X.A) (h : AE X a ds M fun x M1 => AE X b ds M1 fun y M2 => AR X.K (rOwn X.K S C false) x y M2 fun d M3 => ∃ c, d = .dat (.bool c) ∧ kt c M3) : AT X (.Compare a [.Eq] [b] pos) ds M kt := at_cmp (op_ownEq Q0 F hb hr) h (nomark _)
theorem at_ownNe {S : DS1} (Q0 : EqC X.K C f) (F : FnOk X.prog X.w X.K X.mg X.base CX0 n f fd ps (spM X.K S)) (hb : Binds X.K fd ps []) (hr : Room (n + 1) X.A) (h : AE X a ds M fun x M1 => AE X b ds M1 fun y M2 => AR X.K (rOwn X.K S C true) x y M2 fun d M3 => ∃ c, d = .dat (.bool c) ∧ kt c M3) : AT X (.Compare a [.NotEq] [b] pos) ds M kt := at_cmp (op_ownNe Q0 F hb hr) h (nomark _)
end
end A

set_option Elab.async false
set_option linter.all false
set_option maxRecDepth 100000
set_option maxHeartbeats 2000000
/-! f-strings -/
namespace A
open PySem PySem.Spec PyProof.Rows L2
section
variable {X : Cx} {ds : DS} {M : MS} {k : DV → MS → Prop} {e v1 v2 : Expr} {es rest : List Expr} {pos : Pos}
theorem pj_sem : ∀ es : List Expr, PJ X es (es.map (SemE X))
  | [] => .nil
  | _ :: es => .cons semE (pj_sem es)
/-- the parts of an f-string behind a text -/
def AJ (X : Cx) (es : List Expr) (ds : DS) (acc : Str) (M : MS) (k : Str → MS → Prop) : Prop :=
  ∀ σ G H Q, EnvOk X.K G σ ds → Ok X.K G M H → (∀ out G2 M2 H2, Same G G2 → Ok X.K G2 M2 H2 → k out M2 → Q out H2) → tJs (es.map (SemE X)) acc σ H Q
theorem aj_nil {acc : Str} {k : Str → MS → Prop} (q : k acc M) : AJ X [] ds acc M k := fun σ G H Q he ho kk => kk acc G M H (Same.refl _) ho q
theorem aj_cons {acc : Str} {k : Str → MS → Prop} (h : AE X e ds M fun d M1 => ∃ y, d = .dat (.str y) ∧ (acc ++ y).length ≤ 1000000 ∧ AJ X es ds (acc ++ y) M1 k) : AJ X (e :: es) ds acc M k := fun σ G H Q he ho kk =>
  h σ G H _ he ho fun v d G1 M1 H1 s1 o1 i1 k1 => by
    obtain ⟨y, rfl, hy, q⟩ := k1
    refine ⟨y, dp_str_inv i1, Nat.le_trans hy (by decide), q σ G1 H1 _ (he.mono s1) o1 fun out G2 M2 H2 s2 o2 k2 => kk out G2 M2 H2 (s1.trans s2) o2 k2⟩
theorem ae_fstr (h : AJ X (v1 :: v2 :: rest) ds Str.empty M fun out M1 => k (.dat (.str out)) M1) : AE X (.JoinedStr (v1 :: v2 :: rest) pos) ds M k := fun σ G H Q he ho kk =>
  ofE (pe_joined (pj_sem _)) (h σ G H _ he ho fun out G2 M2 H2 s2 o2 k2 => kk _ _ G2 M2 H2 s2 o2 (isd (Dp.str _)) k2)
theorem ae_fmt (h : AE X e ds M fun d M1 => (∃ y : Str, d = .dat (.str y) ∧ y.length ≤ 1000000 ∧ k (.dat (.str y)) M1) ∨ ∃ i : Int, d = .dat (.int i) ∧ i.natAbs.log2 < 1920 ∧ k (.dat (.str (toString i))) M1) : AE X (.FormattedValue e (-1) none pos) ds M k := fun σ G H Q he ho kk =>
  ofE (pe_fmt semE) (h σ G H _ he ho fun v d G1 M1 H1 s1 o1 i1 k1 => by
    rcases k1 with ⟨y, rfl, hy, q⟩ | ⟨i, rfl, hi, q⟩
    · exact .inl ⟨y, dp_str_inv i1, Nat.le_trans hy (by decide), kk _ _ G1 M1 H1 s1 o1 (isd (Dp.str _)) q⟩
    · exact .inr ⟨i, dp_int_inv i1, hi, kk _ _ G1 M1 H1 s1 o1 (isd (Dp.str _)) q⟩)
end
end A

set_option Elab.async false
set_option linter.all false
set_option maxRecDepth 100000
set_option maxHeartbeats 2000000
/-! zip of a tuple and a list, in any mix -/
namespace A
open PySem PySem.Spec PyProof.Rows L2
def SqX (t : Bool) (K : PySem.W.Frag) (H : Hp) (a : Addr) (xs : List V) : Prop := match t with
  | true => SqT K H a xs
  | false => SqL K H a xs
def IterX (t : Bool) (h : Heap) (it a : Addr) (i : Nat) : Prop := match t with
  | true => h.IsTupleIter it a i
  | false => h.IsListIter it a i
def IsX (t : Bool) (h : Heap) (a : Addr) (items : Array Value) : Prop := match t with
  | true => h.IsTuple a items
  | false => h.IsList a items
theorem IterX.at' {t : Bool} {h h' : Heap} {it a : Addr} {i : Nat} (st : IterX t h it a i) (k : ∀ o, h.get? it = some o → h'.get? it = some o) : IterX t h' it a i := by
  cases t with
  | true => exact Heap.IsTupleIter.at st k
  | false => exact Heap.IsListIter.at st k
theorem IterX.obj {t : Bool} {h : Heap} {it a : Addr} {i : Nat} (st : IterX t h it a i) : ∃ o, h.get? it = some o ∧ ∀ v, o.data ≠ .cell v := by
  cases t with
  | true => obtain ⟨o, e, _, d⟩ := (st : h.IsTupleIter it a i); exact ⟨o, e, fun v q => by rw [d] at q; cases q⟩
  | false => obtain ⟨o, e, _, d⟩ := (st : h.IsListIter it a i); exact ⟨o, e, fun v q => by rw [d] at q; cases q⟩
theorem draws_x {prog : Program} {w : World} {A : Around} (hh : A.handled = none) (t : Bool) (it a : Addr) (ne : a ≠ it) (items : Array Value) : Draws prog w A it [it, a] items.size (fun i v => items[i]? = some v) (fun i h => IterX t h it a i ∧ IsX t h a items) := by
  cases t with
  | true => exact Draws.tuple hh it a ne items
  | false => exact Draws.list hh it a ne items
section
variable {X : Cx} {pins : List (Addr × Obj)} {σ : L2.St} {H : Hp} {s : Shared} {a : Addr} {xs ys : List V}
theorem inv_x {t : Bool} (I : Inv X pins σ H s) (h : SqX t X.K H a xs) : ∃ its : List Value, Vals xs its ∧ IsX t s.heap a its.toArray ∧ a < s.heap.objs.size := by
  cases t with
  | true => obtain ⟨its, r, p, _⟩ := I.tuple h; obtain ⟨o, ho, _⟩ := id p; exact ⟨its, r, p, Heap.lt_size ho⟩
  | false => obtain ⟨its, r, p, _⟩ := I.list h; exact ⟨its, r, p.isList, p.lt⟩
theorem inj_x {t : Bool} (I : Inv X pins σ H s) (h : SqX t X.K H a xs) (h' : SqX t X.K H a ys) : xs = ys := by
  cases t with
  | true => exact I.tuple_inj h h'
  | false => exact I.list_inj h h'
end
/-- the sequences at a and b as they stand at each turn -/
def ItzX (t1 t2 : Bool) (K : PySem.W.Frag) (a b : Addr) : It :=
  ⟨fun i H => ∃ (xs ys : List V) (x y : V), SqX t1 K H a xs ∧ SqX t2 K H b ys ∧ xs[i]? = some x ∧ ys[i]? = some y,
    fun i H v H' => ∃ T x y, v = .ref T ∧ H T = none ∧ H' = upd H T (.tup [x, y]) ∧ (∀ xs, SqX t1 K H a xs → xs[i]? = some x) ∧ ∀ ys, SqX t2 K H b ys → ys[i]? = some y,
    fun i H => ∃ xs ys : List V, SqX t1 K H a xs ∧ SqX t2 K H b ys ∧ (i = xs.length ∧ i ≤ ys.length ∨ i = ys.length ∧ i ≤ xs.length)⟩
def zipFp (z TI TO i1 i2 : Addr) : List Addr := [z, TI, TO, i1, i2]
theorem zipFp_mem {z TI TO i1 i2 c : Addr} (h : c ∈ zipFp z TI TO i1 i2) : c = z ∨ c = TI ∨ c = TO ∨ c = i1 ∨ c = i2 := by simpa [zipFp] using h
theorem turn_zipX {P : Program} {w : World} {K : PySem.W.Frag} {elts : List Expr} {kk : Nat} {tpos : Pos} {t1 t2 : Bool} {a b z TI TO i1 i2 : Addr} (S : ZipSep2 z TI TO i1 i2 [i1, a] [i2, b]) (na : a ≠ i1) (nb : b ≠ i2) :
    Turn P w K (.Tuple elts kk tpos) (ItzX t1 t2 K a b) (zipFp z TI TO i1 i2) z (fun i h => IsZip h z TI TO .none ∧ IsTupOf2 h TI (.ref i1) (.ref i2) ∧ (∃ x y, IsTupOf2 h TO x y) ∧ IterX t1 h i1 a i ∧ IterX t2 h i2 b i) := by
  have m1 : z ∈ zipFp z TI TO i1 i2 := by simp [zipFp]
  have m2 : TI ∈ zipFp z TI TO i1 i2 := by simp [zipFp]
  have m3 : TO ∈ zipFp z TI TO i1 i2 := by simp [zipFp]
  have m4 : i1 ∈ zipFp z TI TO i1 i2 := by simp [zipFp]
  have m5 : i2 ∈ zipFp z TI TO i1 i2 := by simp [zipFp]
  refine ⟨m1, fun i h st c hc => ?_, fun i h h' st kp => ?_, ?_, ?_, fun A i s Q E st h => wpAny_pyIter_zip st.1 h⟩
  · obtain ⟨hz, hTI, ⟨x, y, hTO⟩, s1, s2⟩ := st
    rcases zipFp_mem hc with rfl | rfl | rfl | rfl | rfl
    · exact ⟨_, hz, fun v q => nomatch q⟩
    · exact ⟨_, hTI, fun v q => nomatch q⟩
    · exact ⟨_, hTO, fun v q => nomatch q⟩
    · exact s1.obj
    · exact s2.obj
  · obtain ⟨hz, hTI, ⟨x, y, hTO⟩, s1, s2⟩ := st
    exact ⟨kp z m1 _ hz, kp TI m2 _ hTI, ⟨x, y, kp TO m3 _ hTO⟩, s1.at' fun o q => kp i1 m4 o q, s2.at' fun o q => kp i2 m5 o q⟩
  · intro X eP ew eK hc i pins s σ H E I hf st hg
    subst eP ew eK
    obtain ⟨hz, hTI, ⟨x0, y0, hTO⟩, s1, s2⟩ := st
    obtain ⟨xs, ys, x, y, qa, qb, gx, gy⟩ := hg
    obtain ⟨us, ru, pa, la⟩ := inv_x I qa
    obtain ⟨vs, rv, pb, lb⟩ := inv_x I qb
    obtain ⟨u, hu, r1⟩ := ru.get gx
    obtain ⟨v, hv, r2⟩ := rv.get gy
    have D1 := draws_x (prog := X.prog) (w := X.w) (A := X.A.in1) (I.ok.hd hc) t1 i1 a na us.toArray
    have D2 := draws_x (prog := X.prog) (w := X.w) (A := X.A.in1) (I.ok.hd hc) t2 i2 b nb vs.toArray
    have l1 : i < us.toArray.size := by
      have := (List.getElem?_eq_some_iff.mp hu).1
      simpa using this
    have l2 : i < vs.toArray.size := by
      have := (List.getElem?_eq_some_iff.mp hv).1
      simpa using this
    have zlt : z < s.heap.objs.size := Heap.lt_size hz
    refine wpAny_pyNext_zipD2_item S D1 D2 hz hTI hTO ⟨s1, pa⟩ ⟨s2, pb⟩ l1 l2 fun u1 u2 h' tk g1 g2 z' TO' q1 q2 new2 _ far => ?_
    have e1 : u1 = u := by simpa [hu] using g1.symm
    have e2 : u2 = v := by simpa [hv] using g2.symm
    subst e1
    subst e2
    refine ⟨_, rfl, wpAny_letOwnedTupleGo_zip (s := { s with heap := h', toks := tk }) z' fun h2 z2 sb => ?_⟩
    have sbk : ∀ c, c ≠ z → h2.get? c = h'.get? c := fun c hc => sb.2 c hc
    have tup2 : h2.get? s.heap.objs.size = some { cls := .type "tuple", data := .seq #[u1, u2] } := (sbk _ (Nat.ne_of_gt zlt)).trans new2
    have laid : ObjOk X.prog X.w (upd H s.heap.objs.size (.tup [x, y])) h2 s.heap.objs.size (.tup [x, y]) := ⟨by show 2 ≤ sizeLine; decide, [u1, u2], .cons r1 (.cons r2 .nil), ⟨_, tup2, rfl, _, rfl⟩⟩
    have stay : ∀ c o, c ∉ zipFp z TI TO i1 i2 → s.heap.get? c = some o → h2.get? c = some o := fun c o hb q =>
      (sbk c fun e => hb (e ▸ m1)).trans (far c o (fun e => hb (e ▸ m1)) (fun e => hb (e ▸ m3)) (fun e => hb (e ▸ m4)) (fun e => hb (e ▸ m5)) q)
    have I2 := I.turnedNew (t' := tk) (ch := zipFp z TI TO i1 i2) stay hf (Nat.le_refl _) laid
    have below : ∀ c ∈ zipFp z TI TO i1 i2, c < s.heap.objs.size := fun c hm => by
      rcases zipFp_mem hm with rfl | rfl | rfl | rfl | rfl
      · exact zlt
      · exact Heap.lt_size hTI
      · exact Heap.lt_size hTO
      · obtain ⟨o, e, _⟩ := s1.obj; exact Heap.lt_size e
      · obtain ⟨o, e, _⟩ := s2.obj; exact Heap.lt_size e
    refine ⟨.ref s.heap.objs.size, _, I2, rfl, ⟨_, x, y, rfl, I.hok.fresh (Nat.le_refl _), rfl, fun l hl => ?_, fun l hl => ?_⟩, ⟨z2, ?_, ⟨u1, u2, ?_⟩, ?_, ?_⟩, fun c hm => ?_⟩
    · rw [inj_x I hl qa]; exact gx
    · rw [inj_x I hl qb]; exact gy
    · exact (sbk _ S.TIz).trans (far _ _ S.TIz S.TITO S.TIi1 S.TIi2 hTI)
    · exact (sbk _ S.TOz).trans TO'
    · exact q1.1.at' fun o e => (sbk _ S.zi1.symm).trans e
    · exact q2.1.at' fun o e => (sbk _ S.zi2.symm).trans e
    · rw [upd_ne (Nat.ne_of_lt (below c hm))]
      exact (hf c hm).1
  · intro X eP ew eK hc i pins s σ H E I hf st hg
    subst eP ew eK
    obtain ⟨hz, hTI, ⟨x0, y0, hTO⟩, s1, s2⟩ := st
    obtain ⟨xs, ys, qa, qb, he⟩ := hg
    obtain ⟨us, ru, pa, la⟩ := inv_x I qa
    obtain ⟨vs, rv, pb, lb⟩ := inv_x I qb
    have D1 := draws_x (prog := X.prog) (w := X.w) (A := X.A.in1) (I.ok.hd hc) t1 i1 a na us.toArray
    have D2 := draws_x (prog := X.prog) (w := X.w) (A := X.A.in1) (I.ok.hd hc) t2 i2 b nb vs.toArray
    have k1 : us.toArray.size = xs.length := by simp [ru.length]
    have k2 : vs.toArray.size = ys.length := by simp [rv.length]
    refine wpAny_pyNext_zipD2_end S D1 D2 hz hTI hTO ⟨s1, pa⟩ ⟨s2, pb⟩ (by omega) (by omega) (by omega) fun h' tk far => ⟨rfl, ?_⟩
    exact I.turnedL (t' := tk) (ch := zipFp z TI TO i1 i2) (fun c o hb q => far c o (fun e => hb (e ▸ m1)) (fun e => hb (e ▸ m3)) (fun e => hb (e ▸ m4)) (fun e => hb (e ▸ m5)) q) hf
def itOb (t : Bool) (a : Addr) : Obj := match t with
  | true => { cls := .type "tuple_iterator", data := .fields #[.ref a, .int 0 0] }
  | false => { cls := .type "list_iterator", data := .fields #[.ref a, .int 0 0] }
theorem begins_x (t : Bool) (a : Addr) (items : Array Value) : Begins (.ref a) (itOb t a) fun h => IsX t h a items := by
  cases t with
  | true => exact begins_tuple a items
  | false => exact begins_list a items
theorem iter_x {t : Bool} {h : Heap} {it a : Addr} (e : h.get? it = some (itOb t a)) : IterX t h it a 0 := by
  cases t with
  | true => exact ⟨_, e, rfl, rfl⟩
  | false => exact ⟨_, e, rfl, rfl⟩
section
variable {X : Cx} {e e2 : Expr} {ta : TA} {p pos tpos : Pos} {elts : List Expr} {kk : Nat} {ds : DS} {M : MS}
def iZipX (t1 t2 : Bool) (K : PySem.W.Frag) (ta : TA) : TI := fun σ H R => ta σ H fun vs H1 => ∃ a b xs ys, vs = [.ref a, .ref b] ∧ SqX t1 K H1 a xs ∧ SqX t2 K H1 b ys ∧ R (ItzX t1 t2 K a b) H1
theorem pi_zipX (t1 t2 : Bool) (hg : Gl X "zip") (hm : X.mg "zip" = none) (ha : PA X [e, e2] ta)
    (hs : starEach [e, e2] X.env = (false, eval e X.env) :: starEach [e2] X.env := by rfl) (hpl : (backTo pos (starEach [e2] X.env)).any (·.1) = false := by rfl) :
    PI X (.Tuple elts kk tpos) (.Call (.Name "zip" p) [e, e2] [] pos) (iZipX t1 t2 X.K ta) := by
  refine ⟨fun pins s σ H R I h => Call_ (ld_blt I hg hm PyProof.Rows.boot_zip (PyProof.Rows.callWith_type1 (thn (ha.run pos pins s σ H _ I h) fun us s1 ⟨vs, H1, I1, r1, a, b, xs, ys, ev, qa, qb, q⟩ => ?_) hs hpl))⟩
  subst ev
  obtain ⟨va, vb, rfl, ra, rb⟩ : ∃ va vb, us = [va, vb] ∧ RelV (.ref a) va ∧ RelV (.ref b) vb := by
    cases r1 with
    | cons h1 t => cases t with
      | cons h2 t => cases t; exact ⟨_, _, rfl, h1, h2⟩
  cases ra
  cases rb
  obtain ⟨us, ru, pa, la⟩ := inv_x I1 qa
  obtain ⟨ws, rw_, pb, lb⟩ := inv_x I1 qb
  refine zip_begins2 (begins_x t1 a us.toArray) (begins_x t2 b ws.toArray) pa pb fun h' hz hTI hTO g1 g2 _ kp => wpAny_pyIter_zip hz ?_
  have sep := zip_sep2 (N := s1.heap.objs.size) (fp1 := [a]) (fp2 := [b]) (fun c hc => by rw [List.mem_singleton.mp hc]; exact la) (fun c hc => by rw [List.mem_singleton.mp hc]; exact lb)
  have new : ∀ c ∈ zipFp (s1.heap.objs.size + 4) (s1.heap.objs.size + 2) (s1.heap.objs.size + 3) s1.heap.objs.size (s1.heap.objs.size + 1), s1.heap.objs.size ≤ c := fun c hc => by
    rcases zipFp_mem hc with rfl | rfl | rfl | rfl | rfl
    · exact Nat.le_add_right _ _
    · exact Nat.le_add_right _ _
    · exact Nat.le_add_right _ _
    · exact Nat.le_refl _
    · exact Nat.le_add_right _ _
  have I2 : Inv X pins σ H1 { s1 with heap := h' } := I1.kept (t' := s1.toks) kp
  exact ⟨_, _, _, _, H1, rfl, I2, turn_zipX (t1 := t1) (t2 := t2) sep (Nat.ne_of_lt la) (Nat.ne_of_lt (Nat.lt_succ_of_lt lb)), ⟨hz, hTI, ⟨_, _, hTO⟩, iter_x g1, iter_x g2⟩, fun c hc => I1.fpOk (new c hc) (I1.hok.fresh (new c hc)), q⟩
theorem walk_zipX {t1 t2 : Bool} {K : PySem.W.Frag} {a b : Addr} {xs ys : List V} {n : Nat} (hn : n = min xs.length ys.length) (h2 : ∀ {H : Hp} {zs}, SqX t1 K H a xs → SqX t1 K H a zs → True) : Walk (ItzX t1 t2 K a b) n (fun H => SqX t1 K H a xs ∧ SqX t2 K H b ys) (YPair (fun i => xs[i]?) (fun i => ys[i]?)) := by
  subst hn
  refine ⟨fun i H hi q => ?_, fun H q => ⟨xs, ys, q.1, q.2, by omega⟩, fun i H v H' _ q y => ?_⟩
  · have l : i < xs.length ∧ i < ys.length := by omega
    exact ⟨xs, ys, _, _, q.1, q.2, List.getElem?_eq_getElem l.1, List.getElem?_eq_getElem l.2⟩
  · obtain ⟨T, x, z, e1, e2, e3, e4, e5⟩ := y
    exact ⟨T, x, z, e1, e2, e3, e4 xs q.1, e5 ys q.2⟩
/-- zip(tuple, list) -/
theorem ai_zipTL {k : List DV → MS → Prop} (hm : X.mg "zip" = none) (h : AA X [e, e2] ds M fun vs M1 => ∃ xs ys : List PyData, vs = [.dat (.tuple xs), .dat (.list ys)] ∧ k (pairD xs ys) M1) (hg : Gl X "zip" := by rfl)
    (hs : starEach [e, e2] X.env = (false, eval e X.env) :: starEach [e2] X.env := by rfl) (hpl : (backTo pos (starEach [e2] X.env)).any (·.1) = false := by rfl) :
    AI X (.Tuple elts kk tpos) (.Call (.Name "zip" p) [e, e2] [] pos) ds M kT k := fun σ G H R he ho kk =>
  ofI (pi_zipX true false hg hm semA hs hpl) (h σ G H _ he ho fun vs d G1 M1 H1 s1 o1 i1 k1 => by
    obtain ⟨xs, ys, rfl, q⟩ := k1
    obtain ⟨v, w, rfl, h3, h4⟩ := is2 i1
    obtain ⟨r, us, rfl, h5, h6⟩ := dp_tup_inv h3
    obtain ⟨r', ws, rfl, h7, h8⟩ := dp_lst_inv h4
    exact ⟨r, r', us, ws, rfl, sqT_mono o1.same h5, o1.same.seq h7, kk _ _ G1 M1 H1 s1 o1 (it_pair h6 h8 (walk_zipX rfl fun _ _ => trivial) fun G3 M3 H3 s3 o3 => ⟨sqT_mono (s3.trans o3.same) h5, (s3.trans o3.same).seq h7⟩) q⟩)
end
end A

set_option Elab.async false
set_option linter.all false
set_option maxRecDepth 100000
set_option maxHeartbeats 2000000
/-! a class as a value; isinstance(x, an own class) -/
namespace A
open PySem PySem.Spec PyProof.Rows L2
section
variable {X : Cx} {C : Addr} {ds : DS} {M : MS} {k : DV → MS → Prop} {a b : Expr} {pos p : Pos} {x : Str}
theorem ae_globR {q : Addr} (hm : X.mg x = some (.ref q)) (z : k (.raw (.ref q)) M) (hg : Gl X x := by rfl) (hdb : (x == ("__debug__" : Str)) = false := by decide) : AE X (.Name x pos) ds M k := fun σ G H Q he ho kk =>
  ofE (pe_glob hg hm (show RelV (.ref q) (.ref q) from rfl) hdb) (kk _ _ G M H (Same.refl _) ho (show Is X.K G (.ref q) (.raw (.ref q)) from rfl) z)
/-- what is known of an own class whose instances are asked for by isinstance -/
structure OwnT (K : PySem.W.Frag) (C : Addr) : Prop where
  cl : Cls K C
  ha : PySem.W.findIn K (.ref C) "__class__" = some (some (.builtin "object.__class__"))
  hn : PySem.W.specialIn K (.builtin "object.__class__") "__get__" = some (some (.builtin "getset_descriptor.__get__"))
  tk : PySem.W.takesIn K (.builtin "object.__class__") = some true
  ob : PySem.W.mroIn K C (.type "object") = some true
theorem ae_isinstO (oc : OwnT X.K C) (hm : X.mg "isinstance" = none) (h : AA X [a, b] ds M fun xs M1 => ∃ fs, xs = [.obj C fs, .raw (.ref C)] ∧ k (.dat (.bool true)) M1) (hg : Gl X "isinstance" := by rfl)
    (hs : starEach [a, b] X.env = (false, eval a X.env) :: starEach [b] X.env := by rfl) (hpl : (backTo pos (starEach [b] X.env)).any (·.1) = false := by rfl) : AE X (.Call (.Name "isinstance" p) [a, b] [] pos) ds M k :=
  ae_callB call_isi hm (by decide +kernel) (h.imp fun xs M1 ⟨fs, e, z⟩ => by
    subst e
    intro vs G H Q ho iv kk
    obtain ⟨v, w, rfl, h3, h4⟩ := is2 iv
    obtain ⟨r, dx, us, rfl, h5, _⟩ := h3
    have e : w = .ref C := h4
    subst e
    have same : PySem.W.kitOne X.K (.ref C) (.ref C) = some true := by unfold PySem.W.kitOne; rw [if_pos (by simp)]
    exact ⟨.ref r, .ref C, .ref C, .ref C, true, rfl, .own C, .base (.ins (ho.sub _ _ h5) oc.cl oc.ha oc.hn oc.tk oc.ob), same, kk _ _ G M1 H (Same.refl _) ho (isd (Dp.bl _)) z⟩) hg (by decide) (by decide) hs hpl
end
end A

set_option Elab.async false
set_option linter.all false
set_option maxRecDepth 100000
set_option maxHeartbeats 2000000
/-! x in list, x not in list, data of any depth -/
namespace A
open PySem PySem.Spec PyProof.Rows L2
section
variable {X : Cx} {ds : DS} {M : MS} {k : DV → MS → Prop} {kt : Bool → MS → Prop} {a b : Expr} {pos : Pos}
theorem ar_niD {K : PySem.W.Frag} {d : PyData} {xs : List PyData} (s1 : SeqAt.shaped d = true) (s2 : SeqAt.shaped (.list xs) = true) (q : k (.dat (.bool (!xs.any fun z => PyData.eqv z d))) M) : AR K (rNotInD K) (.dat d) (.dat (.list xs)) M k := fun v w G H Q ho iv iw kk =>
  ⟨d, xs, dp_mono ho.same iv, dp_mono ho.same iw, s1, s2, kk _ _ G M H (Same.refl _) ho (isd (Dp.bl _)) q⟩
theorem ar_inD {K : PySem.W.Frag} {d : PyData} {xs : List PyData} (s1 : SeqAt.shaped d = true) (s2 : SeqAt.shaped (.list xs) = true) (q : k (.dat (.bool (xs.any fun z => PyData.eqv z d))) M) : AR K (rInD K) (.dat d) (.dat (.list xs)) M k := fun v w G H Q ho iv iw kk =>
  ⟨d, xs, dp_mono ho.same iv, dp_mono ho.same iw, s1, s2, kk _ _ G M H (Same.refl _) ho (isd (Dp.bl _)) q⟩
theorem at_niD (hu : X.A.units + 65 < cLine) (h : AE X a ds M fun x M1 => AE X b ds M1 fun y M2 => AR X.K (rNotInD X.K) x y M2 fun d M3 => ∃ c, d = .dat (.bool c) ∧ kt c M3) (hm : behindInMarks .NotIn b = false := by rfl) : AT X (.Compare a [.NotIn] [b] pos) ds M kt := at_cmp (op_notInD hu) h hm
theorem at_inD (hu : X.A.units + 65 < cLine) (h : AE X a ds M fun x M1 => AE X b ds M1 fun y M2 => AR X.K (rInD X.K) x y M2 fun d M3 => ∃ c, d = .dat (.bool c) ∧ kt c M3) (hm : behindInMarks .In b = false := by rfl) : AT X (.Compare a [.In] [b] pos) ds M kt := at_cmp (op_inD hu) h hm
end
end A

set_option Elab.async false
set_option linter.all false
set_option exponentiation.threshold 10000
namespace Fr
/-- bounds -/
structure Bd (k : Nat) (f : Int × Int) : Prop where
  b0 : 0 < f.2
  t : f.1.natAbs < 2 ^ k
  b : f.2.natAbs < 2 ^ k
theorem Bd.mono {j k : Nat} {f : Int × Int} (h : Bd j f) (hj : j ≤ k) : Bd k f := ⟨h.b0, Nat.lt_of_lt_of_le h.t (Nat.pow_le_pow_right (by decide) hj), Nat.lt_of_lt_of_le h.b (Nat.pow_le_pow_right (by decide) hj)⟩
theorem Bd.low {k : Nat} {n d : Int} (hd : 0 < d) (h1 : n.natAbs < 2 ^ k) (h2 : d.natAbs < 2 ^ k) : Bd k (low n d) :=
  ⟨(low_can hd).1, Nat.lt_of_le_of_lt (low_le hd).1 h1, Nat.lt_of_le_of_lt (low_le hd).2 h2⟩
theorem mul_lt {a b : Int} {j k : Nat} (h1 : a.natAbs < 2 ^ j) (h2 : b.natAbs < 2 ^ k) : (a * b).natAbs < 2 ^ (j + k) := by
  rw [Int.natAbs_mul, Nat.pow_add]
  exact Nat.mul_lt_mul'' h1 h2
theorem Bd.mul {j k : Nat} {f g : Int × Int} (hf : Bd j f) (hg : Bd k g) : Bd (j + k) (Fr.mul f g) :=
  Bd.low (Int.mul_pos hf.b0 hg.b0) (mul_lt hf.t hg.t) (mul_lt hf.b hg.b)
theorem Bd.sub {j k : Nat} {f g : Int × Int} (hf : Bd j f) (hg : Bd k g) : Bd (j + k + 1) (Fr.sub f g) := by
  refine Bd.low (Int.mul_pos hf.b0 hg.b0) ?_ (Nat.lt_of_lt_of_le (mul_lt hf.b hg.b) (Nat.pow_le_pow_right (by decide) (by omega)))
  have h1 := mul_lt hf.t hg.b
  have h2 := mul_lt hg.t hf.b
  rw [Nat.add_comm k j] at h2
  rw [Nat.pow_succ]
  omega
theorem Bd.add {j k : Nat} {f g : Int × Int} (hf : Bd j f) (hg : Bd k g) : Bd (j + k + 1) (Fr.add f g) := by
  refine Bd.low (Int.mul_pos hf.b0 hg.b0) ?_ (Nat.lt_of_lt_of_le (mul_lt hf.b hg.b) (Nat.pow_le_pow_right (by decide) (by omega)))
  have h1 := mul_lt hf.t hg.b
  have h2 := mul_lt hg.t hf.b
  rw [Nat.add_comm k j] at h2
  rw [Nat.pow_succ]
  omega
/-- so many times a fraction of a common bottom -/
theorem mul_low {i w t : Int} (ht : 0 < t) : Fr.mul (i, 1) (Fr.low w t) = Fr.low (i * w) t := by
  have hc := low_can (a := w) ht
  have hv := low_val (a := w) (b := t)
  unfold Val at hv
  unfold Fr.mul
  simp only [Int.one_mul]
  have e := low_can (a := i * (low w t).1) (b := (low w t).2) hc.1
  refine (low_same e ht ?_)
  have v2 := low_val (a := i * (low w t).1) (b := (low w t).2)
  unfold Val at v2 ⊢
  generalize low (i * (low w t).1) (low w t).2 = s at v2 e
  generalize low w t = f at hv hc v2
  have h2 : f.2 ≠ 0 := by have := hc.1; omega
  refine Int.eq_of_mul_eq_mul_right h2 ?_
  calc s.1 * t * f.2 = s.1 * f.2 * t := by rw [Int.mul_right_comm]
    _ = i * f.1 * s.2 * t := by rw [v2]
    _ = i * (f.1 * t) * s.2 := by rw [Int.mul_right_comm, Int.mul_assoc i]
    _ = i * (w * f.2) * s.2 := by rw [hv]
    _ = i * w * s.2 * f.2 := by rw [← Int.mul_assoc, Int.mul_right_comm]
end Fr

set_option Elab.async false
set_option linter.all false
/-! quotients of fractions -/
namespace Fr
theorem low_cross {n d m e : Int} (hd : 0 < d) (he : 0 < e) (h : n * e = m * d) : low n d = low m e := by
  refine low_same (low_can hd) he ?_
  have v := low_val (a := n) (b := d)
  unfold Val at v ⊢
  generalize low n d = f at v
  refine Int.eq_of_mul_eq_mul_right (show d ≠ 0 by omega) ?_
  calc f.1 * e * d = f.1 * d * e := Int.mul_right_comm _ _ _
    _ = n * f.2 * e := by rw [v]
    _ = n * e * f.2 := Int.mul_right_comm _ _ _
    _ = m * d * f.2 := by rw [h]
    _ = m * f.2 * d := Int.mul_right_comm _ _ _
/-- n / d, d not 0 -/
def lowS (n d : Int) : Int × Int := if 0 < d then low n d else low (-n) (-d)
def div (f g : Int × Int) : Int × Int := lowS (f.1 * g.2) (f.2 * g.1)
theorem lowS_pos {n d : Int} (h : 0 < d) : lowS n d = low n d := if_pos h
theorem lowS_can {n d : Int} (h : d ≠ 0) : Can (lowS n d) := by
  unfold lowS
  split
  · exact low_can (by assumption)
  · exact low_can (by omega)
theorem lowS_val {n d : Int} : Val (lowS n d) n d := by
  unfold lowS
  split
  · exact low_val
  · have := low_val (a := -n) (b := -d)
    unfold Val at this ⊢
    rw [Int.mul_neg, Int.neg_mul] at this
    omega
theorem lowS_cross {n d m e : Int} (hd : d ≠ 0) (he : e ≠ 0) (h : n * e = m * d) : lowS n d = lowS m e := by
  unfold lowS
  have h1 : -n * e = -(n * e) := Int.neg_mul _ _
  have h2 : m * -d = -(m * d) := Int.mul_neg _ _
  have h3 : n * -e = -(n * e) := Int.mul_neg _ _
  have h4 : -m * d = -(m * d) := Int.neg_mul _ _
  have h5 : -n * -e = n * e := Int.neg_mul_neg _ _
  have h6 : -m * -d = m * d := Int.neg_mul_neg _ _
  split <;> split
  · exact low_cross (by assumption) (by assumption) h
  · exact low_cross (by assumption) (by omega) (by omega)
  · exact low_cross (by omega) (by assumption) (by omega)
  · exact low_cross (by omega) (by omega) (by omega)
theorem low_num_ne {c d : Int} (hd : 0 < d) (hc : c ≠ 0) : (low c d).1 ≠ 0 := by
  intro h
  have v := low_val (a := c) (b := d)
  unfold Val at v
  rw [h, Int.zero_mul] at v
  have := (low_can (a := c) hd).1
  rcases Int.mul_eq_zero.mp v.symm with h | h
  · exact hc h
  · omega
theorem div_low {a b c d : Int} (hb : 0 < b) (hd : 0 < d) (hc : c ≠ 0) : div (low a b) (low c d) = lowS (a * d) (b * c) := by
  have vf := low_val (a := a) (b := b)
  have vg := low_val (a := c) (b := d)
  have cf := (low_can (a := a) hb).1
  have ng := low_num_ne hd hc
  unfold div
  unfold Val at vf vg
  generalize low a b = f at vf cf
  generalize low c d = g at vg ng
  refine lowS_cross (Int.mul_ne_zero (by omega) ng) (Int.mul_ne_zero (by omega) hc) ?_
  calc f.1 * g.2 * (b * c) = (f.1 * b) * (c * g.2) := by ac_rfl
    _ = (a * f.2) * (g.1 * d) := by rw [vf, vg]
    _ = a * d * (f.2 * g.1) := by ac_rfl
theorem mul_lows {a b c d : Int} (hb : 0 < b) (hd : 0 < d) : mul (low a b) (low c d) = low (a * c) (b * d) := by
  have vf := low_val (a := a) (b := b)
  have vg := low_val (a := c) (b := d)
  have cf := (low_can (a := a) hb).1
  have cg := (low_can (a := c) hd).1
  unfold mul
  unfold Val at vf vg
  generalize low a b = f at vf cf
  generalize low c d = g at vg cg
  refine low_cross (Int.mul_pos cf cg) (Int.mul_pos hb hd) ?_
  calc f.1 * g.1 * (b * d) = (f.1 * b) * (g.1 * d) := by ac_rfl
    _ = (a * f.2) * (c * g.2) := by rw [vf, vg]
    _ = a * c * (f.2 * g.2) := by ac_rfl
theorem lowS_le {n d : Int} (hd : d ≠ 0) : (lowS n d).1.natAbs ≤ n.natAbs ∧ (lowS n d).2.natAbs ≤ d.natAbs := by
  unfold lowS
  split
  · exact low_le (by assumption)
  · have := low_le (n := -n) (d := -d) (by omega)
    rw [Int.natAbs_neg, Int.natAbs_neg] at this
    exact this
theorem Bd.lowS {k : Nat} {n d : Int} (hd : d ≠ 0) (h1 : n.natAbs < 2 ^ k) (h2 : d.natAbs < 2 ^ k) : Bd k (Fr.lowS n d) :=
  ⟨(lowS_can hd).1, Nat.lt_of_le_of_lt (lowS_le hd).1 h1, Nat.lt_of_le_of_lt (lowS_le hd).2 h2⟩
theorem Bd.div {j k : Nat} {f g : Int × Int} (hf : Bd j f) (hg : Bd k g) (h0 : g.1 ≠ 0) : Bd (j + k) (Fr.div f g) :=
  Bd.lowS (Int.mul_ne_zero (by have := hf.b0; omega) h0) (mul_lt hf.t hg.b) (mul_lt hf.b hg.t)
theorem lowS_ne {n d : Int} (hd : d ≠ 0) (hn : n ≠ 0) : (lowS n d).1 ≠ 0 := by
  unfold lowS
  split
  · exact low_num_ne (by assumption) hn
  · exact low_num_ne (by omega) (by omega)
end Fr

set_option Elab.async false
set_option linter.all false
set_option maxRecDepth 100000
set_option maxHeartbeats 2000000
/-! len of an instance by an own __len__ -/
namespace A
open PySem PySem.Spec PyProof.Rows L2
structure LenC (K : PySem.W.Frag) (C f : Addr) : Prop where
  ln : PySem.W.findIn K (.ref C) "__len__" = some (some (.ref f))
  fn : PySem.W.isFn K (.ref f) = true
section
variable {X : Cx} {C f : Addr} {fd : FuncData} {ps : List Str} {n : Nat} {ds : DS} {M : MS} {k : DV → MS → Prop} {a : Expr} {pos p : Pos}
theorem own_run1 {S : DS1} {A' : Around} {pins : List (Addr × Obj)} {s : Shared} {σ : L2.St} {H : Hp} {a : Addr} {R : V → Hp → Prop} (F : FnOk X.prog X.w X.K X.mg X.base CX0 n f fd ps (spM X.K S)) (hb : Binds X.K fd ps []) (I : Inv X pins σ H s)
    (hr : Room n A') (hfr : A'.frames = X.A.frames) (hsp : spM X.K S [.ref a] H R fun _ _ _ => False) :
    wpAny (model X.prog X.w) A' (call (.ref f) [.ref a]) (fun v s' => ∃ z H', Inv X pins σ H' s' ∧ RelV z v ∧ R z H') X.xe s := by
  have e0 : Env0 X.prog X.w X.K X.mg X.base A' X.stack s H := by
    have e := I.env0
    exact ⟨by rw [hfr]; exact e.frames, e.mod, e.bs, e.bsz, e.funs, e.frf, e.hok, e.bare⟩
  have hl := F.len _ _ _ _ hsp
  have r2 : Vals [V.ref a] [Value.ref a] := .cons rfl .nil
  refine wpAny_call (codeAny_mono (F.run A' X.stack s H ⟨[.ref a], []⟩ [.ref a] [.ref a] _ _ hr e0 (by
    have := hb s [.ref a] I.kIn (by simpa using hl)
    simpa using this) r2 hsp) fun r s' hq => ?_)
  cases r with
  | error e => exact pass0 pins σ H s e s' I hq
  | ok fl =>
    cases fl with
    | ret w =>
      obtain ⟨z, H', I', rz, q⟩ := I.after hq
      exact ⟨z, H', I', rz, q⟩
    | next => exact False.elim hq
    | brk => exact False.elim hq
    | cont => exact False.elim hq
theorem call_lenOwn {S : DS1} (Q0 : LenC X.K C f) (F : FnOk X.prog X.w X.K X.mg X.base CX0 n f fd ps (spM X.K S)) (hb : Binds X.K fd ps []) (hr : Room (n + 1) X.A) : CallR X (.builtin "len") (fun xs H Q => ∃ a dx fs, xs = [.ref a] ∧ H a = some (.ins C dx fs) ∧
    spM X.K S [.ref a] H (fun v H' => ∃ i : Nat, v = .int i ∧ i < 2 ^ 62 ∧ Q (.int i) H') fun _ _ _ => False) := by
  intro pins s σ H xs us Q I r h
  obtain ⟨a, dx, fs, rfl, ha, hsp⟩ := h
  obtain ⟨u, rfl, ru⟩ := vals1 r
  obtain rfl : u = Value.ref a := ru
  obtain ⟨mA, J, _⟩ := ins_get I.hok ha
  obtain ⟨od, J, _⟩ := J.look
  have XK := I.kIn
  refine Calls.call_function_entry kind_len plain_len entry_len (args_len1 _) ?_
  unfold Builtin.«len»
  refine wpAny_bind (m := oneArg "len" _) (wpAny_pure ?_)
  have hc : ∀ {Q' : Option Value → Shared → Prop}, wpAny (model X.prog X.w) X.A.in1 (call (.ref f) [.ref a]) (fun v s' => Q' (some v) s') X.xe s → wpAny (model X.prog X.w) X.A.in1 (callSpecial? (.ref a) (Str.ofString "__len__") []) Q' X.xe s := fun q => by
    unfold callSpecial? specialOf
    refine wpAny_bind (wpAny_bind (J.type.here ((PySem.W.looks_findIn XK Q0.ln).here ?_)))
    refine wpAny_holding ?_
    refine wpAny_bind ((PySem.W.bind_fn XK _ (by have := Q0.fn; unfold PySem.W.isFn at this; exact beq_iff_eq.mp this)).here ?_)
    exact wpAny_bind (wpAny_mono q (fun v s' z => wpAny_pure z) fun _ _ z => z)
  refine wpAny_bind (m := callSpecial? (.ref a) (Str.ofString "__len__")) (hc (wpAny_mono (own_run1 F hb I hr.in1 rfl hsp) (fun v s' z => ?_) fun _ _ e => e))
  obtain ⟨z, H', I', rz, i, rfl, hi, q⟩ := z
  obtain ⟨t, rfl⟩ := rz
  refine wpAny_bind (wpAny_holding (wpAny_pure ?_))
  refine wpAny_bind (wpAny_letGo ?_)
  show wpAny _ _ (if ((i : Nat) : Int) < 0 then _ else _) _ _ _
  rw [if_neg (by omega)]
  show wpAny _ _ (if ((i : Nat) : Int) ≥ 2 ^ 63 then _ else _) _ _ _
  rw [if_neg (by omega)]
  exact wpAny_bind (wpAny_mkInt (wpAny_pure ⟨_, rfl, .int i, H', I'.tok _, ⟨_, rfl⟩, q⟩))
theorem ae_lenO {S : DS1} (Q0 : LenC X.K C f) (F : FnOk X.prog X.w X.K X.mg X.base CX0 n f fd ps (spM X.K S)) (hb : Binds X.K fd ps []) (hr : Room (n + 1) X.A) (hm : X.mg "len" = none)
    (h : AA X [a] ds M fun xs M1 => ∃ fs, xs = [.obj C fs] ∧ S [.obj C fs] M1 fun d M2 => ∃ i : Nat, d = .dat (.int i) ∧ i < 2 ^ 62 ∧ k (.dat (.int i)) M2) (hg : Gl X "len" := by rfl)
    (hs : starEach [a] X.env = (false, eval a X.env) :: starEach [] X.env := by rfl) (hpl : (backTo pos (starEach [] X.env)).any (·.1) = false := by rfl) : AE X (.Call (.Name "len" p) [a] [] pos) ds M k :=
  ae_callB (call_lenOwn Q0 F hb hr) hm (by decide +kernel) (h.imp fun xs M1 ⟨fs, e, q⟩ => by
    subst e
    intro vs G H Q ho iv kk
    obtain ⟨v, rfl, h3⟩ := is1 iv
    obtain ⟨r, dx, us, rfl, h1, h2⟩ := h3
    refine ⟨r, dx, us, rfl, ho.sub _ _ h1, ⟨G, M1, _, _, ho, .cons (show Is X.K G (.ref r) (.obj C fs) from ⟨r, dx, us, rfl, h1, h2⟩) .nil, q, fun v d G2 M2 H2 s2 o2 i2 k2 => ?_⟩⟩
    obtain ⟨i, rfl, hi, k3⟩ := k2
    exact ⟨i, dp_int_inv i2, hi, kk _ _ G2 M2 H2 s2 o2 (isd (Dp.int _)) k3⟩) hg (by decide) (by decide) hs hpl
end
end A

set_option Elab.async false
set_option linter.all false
set_option maxRecDepth 100000
set_option maxHeartbeats 4000000
/-! dict(list(zip(u, v))) of two tuples of two, the first one's texts the keys -/
namespace A
open PySem PySem.Spec PyProof.Rows L2
section
variable {prog : Program} {w : World} {A : Around} {E : Value → Shared → Prop} {s : Shared} {z TI TO i1 i2 : Addr} {fp1 fp2 : List Addr} {n1 n2 i : Nat} {P1 P2 : Nat → Value → Prop} {St1 St2 : Nat → Heap → Prop}
/-- one more pair of a zip whose last tuple is still out -/
theorem zipH_item {T : Addr} {f : Bool} {oT : Obj} {Q : Value → Shared → Prop} (S : ZipSep2 z TI TO i1 i2 fp1 fp2) (D1 : Draws prog w A i1 fp1 n1 P1 St1) (D2 : Draws prog w A i2 fp2 n2 P2 St2)
    (hz : IsZipHeld s.heap z TI TO T f) (hT : s.heap.get? T = some oT) (hTI : IsTupOf2 s.heap TI (.ref i1) (.ref i2)) (st1 : St1 i s.heap) (st2 : St2 i s.heap) (hlt1 : i < n1) (hlt2 : i < n2)
    (hQ : ∀ x1 x2 h' tk, P1 i x1 → P2 i x2 → IsZipHeld h' z TI TO T true → St1 (i + 1) h' → St2 (i + 1) h' → IsTupOf2 h' s.heap.objs.size x1 x2 → h'.objs.size = s.heap.objs.size + 1 →
      (∀ c o, c ≠ z → c ≠ i1 → c ≠ i2 → s.heap.get? c = some o → h'.get? c = some o) → Q (.ref s.heap.objs.size) { s with heap := h', toks := tk }) :
    wpAny (model prog w) A (Builtin.«zip.__next__» ⟨[.ref z], []⟩) (fun fin s' => ∃ v, fin = .done (.ret v) ∧ Q v s') E s := by
  obtain ⟨hp, gg, dd, t0, oo⟩ := s
  show wpAny _ _ (field (.ref z) 2 >>= _) _ _ _
  refine wpAny_bind (wpAny_field hz rfl (x := .bool false) rfl ?_)
  show wpAny _ _ (field (.ref z) 3 >>= _) _ _ _
  refine wpAny_bind (wpAny_field hz rfl (x := .ref TI) rfl ?_)
  refine wpAny_bind (wpAny_seqItems hTI rfl ?_)
  show wpAny _ _ (Builtin.SmallTypes.ownedTupleIsFree (.ref z) >>= _) _ _ _
  refine wpAny_bind (wpAny_tupleHeld_zip hz hT fun ha hza hsa => ?_)
  simp only [Bool.false_eq_true, if_false]
  refine wpAny_bind ?_
  rw [← Array.forIn_toList]
  simp only [List.forIn_cons, List.forIn_nil]
  refine wpAny_bind (wpAny_bind (wpAny_holding ?_))
  show wpAny _ _ (Builtin.SmallTypes.nextOf (.ref i1) >>= _) _ _ ⟨ha, gg, dd, t0, oo⟩
  replace hsa : Heap.SameBut z hp ha := hsa
  replace hza : IsZipHeld ha z TI TO T true := hza
  refine wpAny_bind (D1.item i _ _ _ hlt1 (D1.over st1 hsa S.zf1) fun x1 hb t1 y1 n1' hsb => wpAny_pure ?_)
  replace hsb : Heap.SameBut i1 ha hb := hsb
  refine wpAny_pure ?_
  refine wpAny_bind (wpAny_bind (wpAny_holding ?_))
  show wpAny _ _ (Builtin.SmallTypes.nextOf (.ref i2) >>= _) _ _ ⟨hb, gg, dd, t1, oo⟩
  refine wpAny_bind (D2.item i _ _ _ hlt2 (D2.over (D2.over st2 hsa S.zf2) hsb S.sep1_2) fun x2 hc t2 y2 n2' hsc => wpAny_pure ?_)
  replace hsc : Heap.SameBut i2 hb hc := hsc
  refine wpAny_pure (wpAny_pure ?_)
  show wpAny _ _ (newTuple [x1, x2] >>= _) _ _ _
  refine wpAny_bind (wpAny_newTuple ?_)
  have size3 : hc.objs.size = hp.objs.size := by rw [hsc.1, hsb.1, hsa.1]
  have z3 : IsZipHeld hc z TI TO T true := hsc.extBut _ _ S.zi2 (hsb.extBut _ _ S.zi1 hza)
  have keep3 : ∀ c o, c ≠ z → c ≠ i1 → c ≠ i2 → hp.get? c = some o → hc.get? c = some o := fun c o c1 c2 c3 e => hsc.extBut _ _ c3 (hsb.extBut _ _ c2 (hsa.extBut _ _ c1 e))
  have q1 : St1 (i + 1) hc := D1.over n1' hsc S.sep2_1
  refine wpAny_pure ⟨_, rfl, ?_⟩
  show Q (.ref hc.objs.size) _
  have hnew : IsTupOf2 (hc.push { cls := .type "tuple", data := .seq #[x1, x2] }) hc.objs.size x1 x2 := Heap.get?_push_size _ rfl
  have size4 : (hc.push { cls := .type "tuple", data := .seq #[x1, x2] }).objs.size = hc.objs.size + 1 := Heap.size_push ..
  rw [size3] at hnew size4 ⊢
  exact hQ x1 x2 _ t2 y1 y2 (Heap.get?_push_of_some _ z3) (D1.frame _ _ _ q1 fun b _ o e => Heap.get?_push_of_some _ e) (D2.frame _ _ _ n2' fun b _ o e => Heap.get?_push_of_some _ e) hnew size4 fun c o c1 c2 c3 e => Heap.get?_push_of_some _ (keep3 c o c1 c2 c3 e)
theorem zipH_end {T : Addr} {f : Bool} {oT : Obj} {Q : Fin → Shared → Prop} (S : ZipSep2 z TI TO i1 i2 fp1 fp2) (D1 : Draws prog w A i1 fp1 n1 P1 St1)
    (hz : IsZipHeld s.heap z TI TO T f) (hT : s.heap.get? T = some oT) (hTI : IsTupOf2 s.heap TI (.ref i1) (.ref i2)) (st1 : St1 n1 s.heap)
    (hE : ∀ h' e, (∀ c o, c ≠ z → c ≠ i1 → s.heap.get? c = some o → h'.get? c = some o) → (∃ o, h'.get? e = some o ∧ o.cls = .type "StopIteration") → E (.ref e) { s with heap := h' }) :
    wpAny (model prog w) A (Builtin.«zip.__next__» ⟨[.ref z], []⟩) Q E s := by
  obtain ⟨hp, gg, dd, t0, oo⟩ := s
  show wpAny _ _ (field (.ref z) 2 >>= _) _ _ _
  refine wpAny_bind (wpAny_field hz rfl (x := .bool false) rfl ?_)
  show wpAny _ _ (field (.ref z) 3 >>= _) _ _ _
  refine wpAny_bind (wpAny_field hz rfl (x := .ref TI) rfl ?_)
  refine wpAny_bind (wpAny_seqItems hTI rfl ?_)
  show wpAny _ _ (Builtin.SmallTypes.ownedTupleIsFree (.ref z) >>= _) _ _ _
  refine wpAny_bind (wpAny_tupleHeld_zip hz hT fun ha hza hsa => ?_)
  simp only [Bool.false_eq_true, if_false]
  refine wpAny_bind ?_
  rw [← Array.forIn_toList]
  simp only [List.forIn_cons, List.forIn_nil]
  refine wpAny_bind (wpAny_bind (wpAny_holding ?_))
  show wpAny _ _ (Builtin.SmallTypes.nextOf (.ref i1) >>= _) _ _ ⟨ha, gg, dd, t0, oo⟩
  replace hsa : Heap.SameBut z hp ha := hsa
  refine wpAny_bind (D1.done ⟨ha, gg, dd, t0, oo⟩ _ _ (D1.over st1 hsa S.zf1) fun hb e hsb he => ?_)
  replace hsb : Heap.ExtBut i1 ha hb := hsb
  exact hE hb e (fun c o c1 c2 x => hsb _ _ c2 (hsa.extBut _ _ c1 x)) he
theorem nextH_item {T : Addr} {f : Bool} {oT : Obj} {Q : Option Value → Shared → Prop} (S : ZipSep2 z TI TO i1 i2 fp1 fp2) (D1 : Draws prog w A.in1 i1 fp1 n1 P1 St1) (D2 : Draws prog w A.in1 i2 fp2 n2 P2 St2)
    (hz : IsZipHeld s.heap z TI TO T f) (hT : s.heap.get? T = some oT) (hTI : IsTupOf2 s.heap TI (.ref i1) (.ref i2)) (st1 : St1 i s.heap) (st2 : St2 i s.heap) (hlt1 : i < n1) (hlt2 : i < n2)
    (hQ : ∀ x1 x2 h' tk, P1 i x1 → P2 i x2 → IsZipHeld h' z TI TO T true → St1 (i + 1) h' → St2 (i + 1) h' → IsTupOf2 h' s.heap.objs.size x1 x2 → h'.objs.size = s.heap.objs.size + 1 →
      (∀ c o, c ≠ z → c ≠ i1 → c ≠ i2 → s.heap.get? c = some o → h'.get? c = some o) → Q (some (.ref s.heap.objs.size)) { s with heap := h', toks := tk }) : wpAny (model prog w) A (pyNext (.ref z)) Q E s := by
  have ty : s.TypeIs (.ref z) "zip" := ⟨_, hz, rfl⟩
  unfold pyNext
  exact wpAny_bind (wpAny_attempt (wpAny_callSpecial?_slot (name := Str.ofString "__next__") ty F.slot_zip_next
    (wpAny_call_entry F.slot_zip_next ty F.entry_zip_next
      (zipH_item S D1 D2 hz hT hTI st1 st2 hlt1 hlt2 fun x1 x2 h' tk u1 u2 u3 u4 u5 u6 u7 u8 => wpAny_pure (hQ x1 x2 h' tk u1 u2 u3 u4 u5 u6 u7 u8)) (F.args_zip_next_1 _))))
theorem nextH_end {T : Addr} {f : Bool} {oT : Obj} {Q : Option Value → Shared → Prop} (S : ZipSep2 z TI TO i1 i2 fp1 fp2) (D1 : Draws prog w A.in1 i1 fp1 n1 P1 St1)
    (hz : IsZipHeld s.heap z TI TO T f) (hT : s.heap.get? T = some oT) (hTI : IsTupOf2 s.heap TI (.ref i1) (.ref i2)) (st1 : St1 n1 s.heap)
    (hQ : ∀ h', (∀ c o, c ≠ z → c ≠ i1 → s.heap.get? c = some o → h'.get? c = some o) → Q none { s with heap := h' }) : wpAny (model prog w) A (pyNext (.ref z)) Q E s := by
  have ty : s.TypeIs (.ref z) "zip" := ⟨_, hz, rfl⟩
  unfold pyNext
  refine wpAny_bind (wpAny_attempt (wpAny_callSpecial?_slot (name := Str.ofString "__next__") ty F.slot_zip_next
    (wpAny_call_entry F.slot_zip_next ty F.entry_zip_next (zipH_end S D1 hz hT hTI st1 fun h' e hk he => ?_) (F.args_zip_next_1 _))))
  obtain ⟨o, ho, hc⟩ := he
  refine wpAny_bind (wpAny_isInstance (T := "StopIteration") (b := true) ⟨o, ho, hc⟩ isSubtype_stop ?_)
  exact wpAny_pure (hQ _ hk)
end
section
variable {prog : Program} {w : World} {A : Around} {E : Value → Shared → Prop} {s : Shared}
/-- a list that takes one more of an iterator, and takes its end -/
theorem ext_item {S I : Addr} {res : Value} {R : Result → Shared → Prop} (h : wpAny (model prog w) A.in1 (pyNext (.ref I)) (fun r s' => ∃ (v : Value) (acc : Array Value) (c : Nat), r = some v ∧ s'.heap.get? S = some { cls := .type "list", dict := none, data := .seq acc c, slots := #[] } ∧ acc.size < 1000 ∧
    codeAny (model prog w) A (.builtin "list.extend.loop" ⟨[.ref S, .ref I, res], []⟩) R { s' with heap := s'.heap.update S (Obj.mapSeq (·.push v)) }) (fun e s' => R (.error e) s') s) : codeAny (model prog w) A (.builtin "list.extend.loop" ⟨[.ref S, .ref I, res], []⟩) R s := by
  have hline : sizeLine = 16777216 := sizeLine_eq
  refine codeAny_builtin F.entry_extend_loop ?_
  rw [Around.under_plainId F.plain_extend_loop _]
  show wpAny _ A.in1 (pyNext (.ref I) >>= _) _ _ s
  refine wpAny_bind (wpAny_mono h (fun r s' ⟨v, acc, c, e, hS, hz, k⟩ => ?_) fun _ _ e => e)
  subst e
  show wpAny _ A.in1 (updateSeq S (·.push v) >>= _) _ _ _
  refine wpAny_bind ?_
  exact wpAny_updateSeq hS rfl (wpAny_pure ⟨plainId_quiet F.plain_extend_loop _, k⟩) (by omega) (by show (acc.push v).size ≤ sizeLine + 1; rw [Array.size_push]; omega)
theorem ext_end {S I : Addr} {res : Value} {R : Result → Shared → Prop} (h : wpAny (model prog w) A.in1 (pyNext (.ref I)) (fun r s' => r = none ∧ R (.ok (.ret res)) s') (fun e s' => R (.error e) s') s) : codeAny (model prog w) A (.builtin "list.extend.loop" ⟨[.ref S, .ref I, res], []⟩) R s := by
  refine codeAny_builtin F.entry_extend_loop ?_
  rw [Around.under_plainId F.plain_extend_loop _]
  show wpAny _ A.in1 (pyNext (.ref I) >>= _) _ _ s
  refine wpAny_bind (wpAny_mono h (fun r s' ⟨e, k⟩ => ?_) fun _ _ e => e)
  subst e
  exact wpAny_pure k
theorem zip_no_len : typeLookup (.type "zip") "__len__" = pure none := by rw [typeLookup_type, builtinLookup_eq_fast]; kernel_rfl
theorem zip_no_hint : typeLookup (.type "zip") "__length_hint__" = pure none := by rw [typeLookup_type, builtinLookup_eq_fast]; kernel_rfl
/-- list(z): the list is made, and takes all of z -/
theorem call_list_zip {I TI TO : Addr} {ow : Value} {Q : Value → Shared → Prop} (hz : IsZip s.heap I TI TO ow)
    (hgo : ∀ h' c, (∀ b o, s.heap.get? b = some o → h'.get? b = some o) → h'.get? s.heap.objs.size = some { cls := .type "list", dict := none, data := .seq #[] c, slots := #[] } → h'.objs.size = s.heap.objs.size + 1 →
      codeAny (model prog w) A.in1 (.builtin "list.extend.loop" ⟨[.ref s.heap.objs.size, .ref I, .none], []⟩) (wants (fun r s₂ => r = .none ∧ Q (.ref s.heap.objs.size) s₂) E) { s with heap := h' }) :
    wpAny (model prog w) A (call (.type "list") [.ref I]) Q E s := by
  have hlt : I < s.heap.objs.size := Heap.lt_size hz
  have hSI : s.heap.objs.size ≠ I := Nat.ne_of_gt hlt
  refine callType_codes (Q₁ := fun obj s₁ => obj = .ref s.heap.objs.size ∧ s₁ = { s with heap := s.heap.push { cls := .type "list", data := .seq #[] } }) F.called_list (F.typeCall_list_1 _) F.entry_list_init
    (code_list_new _ ⟨rfl, rfl⟩) fun obj s₁ h₁ => ?_
  obtain ⟨rfl, rfl⟩ := h₁
  generalize hS0 : s.heap.objs.size = S at hSI hgo hlt
  have hS : (s.heap.push { cls := .type "list", data := .seq #[] }).get? S = some { cls := .type "list", data := .seq #[] } := by rw [← hS0]; exact Heap.get?_push_size _ rfl
  have hz1 : IsZip (s.heap.push { cls := .type "list", data := .seq #[] }) I TI TO ow := Heap.get?_push_of_some _ hz
  refine ⟨⟨_, hS, rfl⟩, F.args_list_init_2 _ _, ?_⟩
  show wpAny _ A.in1.in1 (do let old ← Builtin.List.listItems (.ref S); Builtin.List.listUpdate (.ref S) (fun _ => #[]); letGo old.toList.reverse; Builtin.List.listExtendWith (.ref S) (.ref I) .none) _ _ _
  refine wpAny_bind ?_
  unfold Builtin.List.listItems
  refine wpAny_bind (wpAny_seqItems hS rfl (wpAny_pure ?_))
  show wpAny _ A.in1.in1 (updateSeq S (fun _ => #[]) >>= fun _ => letGo (#[] : Array Value).toList.reverse >>= fun _ => Builtin.List.listExtendWith (.ref S) (.ref I) .none) _ _ _
  refine wpAny_bind (wpAny_updateSeq hS rfl ?_)
  have hS1 := Heap.get?_update_self (Obj.mapSeq (fun _ => (#[] : Array Value))) hS rfl
  have hz2 : IsZip ((s.heap.push { cls := .type "list", data := .seq #[] }).update S (Obj.mapSeq (fun _ => (#[] : Array Value)))) I TI TO ow := (Heap.get?_update_other _ _ hSI).trans hz1
  refine wpAny_bind (wpAny_letGo ?_)
  unfold Builtin.List.listExtendWith
  have ty : ∀ {h : Heap}, IsZip h I TI TO ow → ({ s with heap := h } : Shared).TypeIs (.ref I) "zip" := fun e => ⟨_, e, rfl⟩
  refine wpAny_bind (wpAny_typeOf (ty hz2) ?_)
  have d1 : Builtin.List.listSameRef (.ref S) (.ref I) = false := by simp [Builtin.List.listSameRef, hSI]
  have d2 : (Value.type "zip" == Value.type "list") = false := by decide
  have d3 : (Value.type "zip" == Value.type "tuple") = false := by decide
  simp only [d1, d2, d3, Bool.or_false, Bool.false_eq_true, if_false]
  refine wpAny_bind (wpAny_pyIter_zip hz2 ?_)
  refine wpAny_bind (wpAny_holding ?_)
  unfold Builtin.List.listLengthHint
  refine wpAny_bind (wpAny_specialOf (ty hz2) zip_no_len ?_)
  show wpAny _ A.in1.in1 (specialOf (Value.ref I) (Str.ofString "__length_hint__") >>= _) _ _ _
  refine wpAny_bind (wpAny_specialOf (ty hz2) zip_no_hint ?_)
  refine wpAny_pure ?_
  show wpAny _ A.in1.in1 (rule "list.extend.makes-room" >>= fun _ => Builtin.List.listTouch (.ref S) >>= fun _ =>
    again (.builtin "list.extend.loop" ⟨[.ref S, .ref I, .none], []⟩)) _ _ _
  refine wpAny_bind (wpAny_rule ?_)
  refine wpAny_bind ?_
  show wpAny _ A.in1.in1 (updateSeq S (·.push .none) >>= fun _ => updateSeq S (·.pop)) _ _ _
  refine wpAny_bind (wpAny_updateSeq hS1 rfl ?_)
  have hS2 := Heap.get?_update_self (Obj.mapSeq (·.push Value.none)) hS1 rfl
  refine wpAny_updateSeq hS2 rfl ?_
  have hS3 := Heap.get?_update_self (Obj.mapSeq (·.pop)) hS2 rfl
  refine wpAny_pure ⟨plainId_quiet F.plain_extend_loop _, ?_⟩
  refine hgo _ _ (fun b o e => ?_) hS3 ?_
  · have hb : S ≠ b := fun q => by rw [← q, ← hS0] at e; exact absurd (Heap.lt_size e) (Nat.lt_irrefl _)
    exact (Heap.get?_update_other _ _ hb).trans ((Heap.get?_update_other _ _ hb).trans ((Heap.get?_update_other _ _ hb).trans (Heap.get?_push_of_some _ e)))
  · rw [Heap.size_update, Heap.size_update, Heap.size_update, Heap.size_push, hS0]
end
end A

set_option Elab.async false
set_option linter.all false
set_option maxRecDepth 100000
set_option maxHeartbeats 4000000
/-! dict(list(zip(u, v))) of two tuples of two -/
namespace A
open PySem PySem.Spec PyProof.Rows L2
section
variable {X : Cx} {e e2 : Expr} {ta : TA} {p p2 p3 pos cpos pos2 : Pos} {ds : DS} {M : MS} {k : DV → MS → Prop}
/-- new tuples and the list of them are tracked -/
theorem pairs_laid {pins : List (Addr × Obj)} {σ : L2.St} {H : Hp} {s : Shared} {h' : Heap} {tk : Nat} {S : Addr} {kvs : List (Key × V)} {acc : Array Value} {c : Nat} {as : List Addr} (I : Inv X pins σ H s) (hz : as.length ≤ 1000) (hl : as.length = kvs.length)
    (hk : ∀ b o, s.heap.get? b = some o → h'.get? b = some o) (hSs : s.heap.objs.size ≤ S) (hS : h'.get? S = some { cls := .type "list", dict := none, data := .seq acc c, slots := #[] }) (nd : as.Nodup) (hab : ∀ t ∈ as, s.heap.objs.size ≤ t) (hSa : S ∉ as)
    (hP : ∀ (j : Nat) (t : Addr) (q : Key × V), as[j]? = some t → kvs[j]? = some q → ∃ key x, RelV (kV q.1) key ∧ RelV q.2 x ∧ h'.get? t = some { cls := .type "tuple", data := .seq #[key, x] }) (hacc : acc.toList = as.map Value.ref) :
    ∃ H' : Hp, (∀ b o, H b = some o → H' b = some o) ∧ H S = none ∧ (∀ t ∈ as, H t = none) ∧ H' S = some (.lst (as.map V.ref)) ∧ Paired (fun (t : Addr) (q : Key × V) => H' t = some (.tup [kV q.1, q.2])) as kvs ∧ Inv X pins σ H' { s with heap := h', toks := tk } := by
  have hline : sizeLine = 16777216 := sizeLine_eq
  have newT : ∀ t ∈ as, H t = none := fun t ht => I.hok.fresh (hab t ht)
  have newS : H S = none := I.hok.fresh hSs
  have atP := LiI.putT_at as kvs (upd H S (.lst (as.map V.ref))) hl nd
  have away : ∀ b, b ∉ as → b ≠ S → LiI.putT (upd H S (.lst (as.map V.ref))) as kvs b = H b := fun b h1 h2 => by rw [LiI.putT_off as kvs _ h1, upd_ne h2]
  have old : ∀ b o, s.heap.get? b = some o → b ∉ as ∧ b ≠ S := fun b o e => ⟨fun z => absurd (Heap.lt_size e) (Nat.not_lt.mpr (hab b z)), Nat.ne_of_lt (Nat.lt_of_lt_of_le (Heap.lt_size e) hSs)⟩
  have kp : ∀ b u, H b = some u → (LiI.putT (upd H S (.lst (as.map V.ref))) as kvs) b = some u := fun b u e => by
    rw [away b (fun z => by rw [newT b z] at e; cases e) (fun z => by rw [z, newS] at e; cases e)]
    exact e
  have atS : LiI.putT (upd H S (.lst (as.map V.ref))) as kvs S = some (.lst (as.map V.ref)) := by rw [LiI.putT_off as kvs _ hSa, upd_same]
  refine ⟨LiI.putT (upd H S (.lst (as.map V.ref))) as kvs, kp, newS, newT, atS, atP, ?_⟩
  refine I.call' (ch := []) rfl ⟨fun b o q _ _ _ => hk b o q, fun b o q _ _ _ => ⟨o.slots, hk b o q⟩, fun b o q n _ => ?_, fun b o q _ => ⟨o, hk b o q⟩, fun b xs q => kp b _ q, fun b o u q => kp b _ q, fun b ps q => ⟨#[], by rw [kp b _ q]; simp⟩⟩ (fun b u q => ?_) I.bare fun b z => by simp at z
  · obtain ⟨y1, y2⟩ := old b o q
    rw [away b y1 y2]
    exact n
  · by_cases hb : b ∈ as
    · obtain ⟨j, pk, e1, e2, e3⟩ := LiI.paired_ix atP hb
      rw [e3] at q
      cases q
      obtain ⟨key, x, f1, f2, f3⟩ := hP j b pk e1 e2
      exact ⟨by show 2 ≤ sizeLine; decide, [key, x], .cons f1 (.cons f2 .nil), ⟨_, f3, rfl, _, rfl⟩⟩
    · by_cases hb2 : b = S
      · rw [hb2] at q ⊢
        rw [atS] at q
        cases q
        refine ⟨by rw [List.length_map]; omega, acc.toList, c, by rw [hacc]; exact LiI.vals_refs as, ?_⟩
        rw [Array.toArray_toList]
        exact hS
      · rw [away b hb hb2] at q
        exact (I.hok b u q).stay (fun d v _ y => hk d v y) (fun d y => kp d _ y) fun d xs y => kp d _ y
def tListZip (K : PySem.W.Frag) (ta : TA) : TE := fun σ H Q => ta σ H fun vs H1 => ∃ (a b : Addr) (k1 k2 : Key) (y1 y2 : V), vs = [.ref a, .ref b] ∧ SqT K H1 a [kV k1, kV k2] ∧ SqT K H1 b [y1, y2] ∧
  ∀ (H' : Hp) (p : Addr) (ts : List Addr), (∀ b o, H1 b = some o → H' b = some o) → H1 p = none → (∀ t ∈ ts, H1 t = none) → H' p = some (.lst (ts.map V.ref)) → Paired (fun (t : Addr) (q : Key × V) => H' t = some (.tup [kV q.1, q.2])) ts [(k1, y1), (k2, y2)] → Q (.ref p) H'
theorem pe_listZip (hc : X.calm = true) (hg : Gl X "list") (hm : X.mg "list" = none) (hgz : Gl X "zip") (hmz : X.mg "zip" = none) (ha : PA X [e, e2] ta) (hv : bootBuiltins "list" = some (.type "list") := by decide +kernel)
    (hs : starEach [.Call (.Name "zip" p2) [e, e2] [] cpos] X.env = (false, eval (.Call (.Name "zip" p2) [e, e2] [] cpos) X.env) :: starEach [] X.env := by rfl)
    (hs2 : starEach [e, e2] X.env = (false, eval e X.env) :: starEach [e2] X.env := by rfl) (hpl : (backTo cpos (starEach [e2] X.env)).any (·.1) = false := by rfl) :
    PE X (.Call (.Name "list" p) [.Call (.Name "zip" p2) [e, e2] [] cpos] [] pos) (tListZip X.K ta) := by
  refine ⟨fun pins s σ H Q I hq => ?_⟩
  refine wpAny_Call_Name_kw (ld_blt I hg hm hv ?_)
  refine PyProof.Rows.callWith_type1 ?_ hs rfl
  rw [hs]
  show wpAny _ _ (spliced ((false, eval (.Call (.Name "zip" p2) [e, e2] [] cpos) X.env) :: backTo pos (starEach [] X.env))) _ _ s
  refine Calls.spliced_cons ?_
  refine Call_ (ld_blt I hgz hmz PyProof.Rows.boot_zip (PyProof.Rows.callWith_type1 (thn (ha.run cpos pins s σ H _ I hq) fun us s1 ⟨vs, H1, I1, r1, a, b, k1, k2, y1, y2, ev, qa, qb, q⟩ => ?_) hs2 hpl))
  subst ev
  obtain ⟨va, vb, rfl, ra, rb⟩ : ∃ va vb, us = [va, vb] ∧ RelV (.ref a) va ∧ RelV (.ref b) vb := by
    cases r1 with
    | cons h1 t => cases t with
      | cons h2 t => cases t; exact ⟨_, _, rfl, h1, h2⟩
  cases ra
  cases rb
  obtain ⟨us, ru, pa, la⟩ := inv_x (t := true) I1 qa
  obtain ⟨ws, rw_, pb, lb⟩ := inv_x (t := true) I1 qb
  refine zip_begins2 (begins_x true a us.toArray) (begins_x true b ws.toArray) pa pb fun h0 hz hTI hTO g1 g2 _ kp => ?_
  have sep := zip_sep2 (N := s1.heap.objs.size) (fp1 := [a]) (fp2 := [b]) (fun c hc => by rw [List.mem_singleton.mp hc]; exact la) (fun c hc => by rw [List.mem_singleton.mp hc]; exact lb)
  refine Calls.spliced_nil ?_
  have na : a ≠ s1.heap.objs.size := Nat.ne_of_lt la
  have nb : b ≠ s1.heap.objs.size + 1 := Nat.ne_of_lt (Nat.lt_succ_of_lt lb)
  have hbig : s1.heap.objs.size + 4 < h0.objs.size := Heap.lt_size hz
  have hu := ru.length
  have hw := rw_.length
  have D1 := draws_x (prog := X.prog) (w := X.w) (A := X.A.in1.in1.in1) (I.ok.hd hc) true s1.heap.objs.size a na us.toArray
  have D2 := draws_x (prog := X.prog) (w := X.w) (A := X.A.in1.in1.in1) (I.ok.hd hc) true (s1.heap.objs.size + 1) b nb ws.toArray
  have hu2 : us.toArray.size = 2 := by simp at hu ⊢; omega
  have hw2 : ws.toArray.size = 2 := by simp at hw ⊢; omega
  generalize hz4 : s1.heap.objs.size + 4 = z at sep hz hbig
  generalize hz3 : s1.heap.objs.size + 3 = TO at sep hz hTO
  generalize hz2 : s1.heap.objs.size + 2 = TI at sep hz hTI
  generalize hj2 : s1.heap.objs.size + 1 = j2 at sep hTI g2 D2 nb
  generalize hj1 : s1.heap.objs.size = j1 at sep hTI g1 D1 na
  refine call_list_zip (s := { s1 with heap := h0 }) hz fun h2 c kp2 hS sz2 => ?_
  generalize hSe : h0.objs.size = S at hS sz2
  have sz2 : h2.objs.size = S + 1 := sz2
  have zS : S ≠ z := by omega
  have jS1 : S ≠ j1 := by omega
  have jS2 : S ≠ j2 := by omega
  have TOS : S ≠ TO := by omega
  have TIS : S ≠ TI := by omega
  have pa0 : IsX true h0 a us.toArray := Heap.IsTuple.at pa fun o e => kp _ _ e
  have pb0 : IsX true h0 b ws.toArray := Heap.IsTuple.at pb fun o e => kp _ _ e
  have st1 : IterX true h2 j1 a 0 ∧ IsX true h2 a us.toArray := D1.frame 0 h0 h2 ⟨iter_x g1, pa0⟩ fun b _ o e => kp2 b o e
  have st2 : IterX true h2 j2 b 0 ∧ IsX true h2 b ws.toArray := D2.frame 0 h0 h2 ⟨iter_x g2, pb0⟩ fun b _ o e => kp2 b o e
  have nm : ∀ {x y z : Nat}, x ≠ y → x ≠ z → x ∉ [y, z] := fun {x y z} h1 h2 h => by
    rcases List.mem_cons.mp h with h | h
    · exact h1 h
    · exact h2 (List.mem_singleton.mp h)
  have la' : (a : Nat) < j1 := by rw [← hj1]; exact la
  have lb' : (b : Nat) < j1 := by rw [← hj1]; exact lb
  have nz : (j1 : Nat) < z ∧ (j1 : Nat) < TO ∧ (j1 : Nat) < j2 ∧ (z : Nat) < S ∧ (j2 : Nat) < S := by omega
  have jS : (j1 : Nat) < S := Nat.lt_trans nz.1 nz.2.2.2.1
  have aS : S ∉ [j1, a] := nm (Nat.ne_of_gt jS) (Nat.ne_of_gt (Nat.lt_trans la' jS))
  have bS : S ∉ [j2, b] := nm (Nat.ne_of_gt nz.2.2.2.2) (Nat.ne_of_gt (Nat.lt_trans lb' jS))
  have c1 : (S + 1 : Nat) ≠ z := by omega
  have c2 : (S + 1 : Nat) ≠ j1 := by omega
  have c3 : (S + 1 : Nat) ≠ j2 := by omega
  have c4 : (S + 2 : Nat) ≠ z := by omega
  have c5 : (S + 2 : Nat) ≠ j1 := by omega
  have c6 : (S + 1 : Nat) ≠ S := by omega
  have c7 : (S + 2 : Nat) ≠ S := by omega
  -- the first pair
  refine ext_item (wpAny_pyNext_zipD2_item (s := { s1 with heap := h2 }) sep D1 D2 (kp2 _ _ hz) (kp2 _ _ hTI) (kp2 _ _ hTO) st1 st2 (by omega) (by omega) fun x1 x2 h3 t3 px1 px2 z3 TO3 q1 q2 new3 sz3 far3 => ?_)
  have sz3 : h3.objs.size = S + 2 := by have : h3.objs.size = h2.objs.size + 1 := sz3; omega
  have new3 : IsTupOf2 h3 (S + 1) x1 x2 := by have : IsTupOf2 h3 h2.objs.size x1 x2 := new3; rw [sz2] at this; exact this
  have hS3 : h3.get? S = some { cls := .type "list", dict := none, data := .seq #[] c, slots := #[] } := far3 _ _ zS TOS jS1 jS2 hS
  refine ⟨_, #[], c, rfl, hS3, by simp, ?_⟩
  rw [show ({ s1 with heap := h2 } : Shared).heap.objs.size = S + 1 from sz2]
  generalize hh4 : h3.update S (Obj.mapSeq (·.push (Value.ref (S + 1)))) = h4
  have hS4 : h4.get? S = some { cls := .type "list", dict := none, data := .seq #[.ref (S + 1)] (c + 1), slots := #[] } := by
    rw [← hh4]
    exact Heap.get?_update_self _ hS3 rfl
  have kp4 : ∀ b o, b ≠ S → h3.get? b = some o → h4.get? b = some o := fun b o hb e => by
    rw [← hh4]
    exact (Heap.get?_update_other _ _ (Ne.symm hb)).trans e
  have sz4 : h4.objs.size = S + 2 := by rw [← hh4, Heap.size_update, sz3]
  have z4 : IsZipHeld h4 z TI TO (S + 1) false := by
    have z3' : IsZip h3 z TI TO (rawInt h2.objs.size) := z3
    rw [sz2] at z3'
    exact kp4 _ _ zS.symm z3'
  have TI4 : IsTupOf2 h4 TI (.ref j1) (.ref j2) := kp4 _ _ TIS.symm (far3 _ _ sep.TIz sep.TITO sep.TIi1 sep.TIi2 (kp2 _ _ hTI))
  have new4 : IsTupOf2 h4 (S + 1) x1 x2 := kp4 _ _ c6 new3
  have q1' := D1.frame 1 h3 h4 q1 fun b hb o e => kp4 b o (fun z => aS (z ▸ hb)) e
  have q2' := D2.frame 1 h3 h4 q2 fun b hb o e => kp4 b o (fun z => bS (z ▸ hb)) e
  -- the second pair
  refine ext_item (nextH_item (s := { s1 with heap := h4, toks := t3 }) (i := 1) sep D1 D2 z4 new4 TI4 q1' q2' (by omega) (by omega) fun w1 w2 h5 t5 px3 px4 z5 q3 q4 new5 sz5 far5 => ?_)
  have sz5 : h5.objs.size = S + 3 := by have : h5.objs.size = h4.objs.size + 1 := sz5; omega
  have new5 : IsTupOf2 h5 (S + 2) w1 w2 := by have : IsTupOf2 h5 h4.objs.size w1 w2 := new5; rw [sz4] at this; exact this
  have hS5 : h5.get? S = some { cls := .type "list", dict := none, data := .seq #[.ref (S + 1)] (c + 1), slots := #[] } := far5 _ _ zS jS1 jS2 hS4
  refine ⟨_, _, _, rfl, hS5, by simp, ?_⟩
  rw [show ({ s1 with heap := h4, toks := t3 } : Shared).heap.objs.size = S + 2 from sz4]
  generalize hh6 : h5.update S (Obj.mapSeq (·.push (Value.ref (S + 2)))) = h6
  have hS6 : h6.get? S = some { cls := .type "list", dict := none, data := .seq #[.ref (S + 1), .ref (S + 2)] (c + 1 + 1), slots := #[] } := by
    rw [← hh6]
    exact Heap.get?_update_self _ hS5 rfl
  have kp6 : ∀ b o, b ≠ S → h5.get? b = some o → h6.get? b = some o := fun b o hb e => by
    rw [← hh6]
    exact (Heap.get?_update_other _ _ (Ne.symm hb)).trans e
  have z6 : IsZipHeld h6 z TI TO (S + 1) true := kp6 _ _ zS.symm z5
  have TI6 : IsTupOf2 h6 TI (.ref j1) (.ref j2) := kp6 _ _ TIS.symm (far5 _ _ sep.TIz sep.TIi1 sep.TIi2 TI4)
  have new6 : IsTupOf2 h6 (S + 1) x1 x2 := kp6 _ _ c6 (far5 _ _ c1 c2 c3 new4)
  have new6' : IsTupOf2 h6 (S + 2) w1 w2 := kp6 _ _ c7 new5
  have q3' := D1.frame 2 h5 h6 q3 fun b hb o e => kp6 b o (fun z => aS (z ▸ hb)) e
  -- the end
  refine ext_end (nextH_end (s := { s1 with heap := h6, toks := t5 }) sep D1 z6 new6 TI6 (by rw [hu2]; exact q3') fun h7 far7 => ⟨rfl, rfl, ?_⟩)
  have hS7 := far7 _ _ zS jS1 hS6
  have n7 : IsTupOf2 h7 (S + 1) x1 x2 := far7 _ _ c1 c2 new6
  have n7' : IsTupOf2 h7 (S + 2) w1 w2 := far7 _ _ c4 c5 new6'
  have all : ∀ b o, s1.heap.get? b = some o → h7.get? b = some o := fun b o e => by
    have hb : (b : Nat) < j1 := by rw [← hj1]; exact Heap.lt_size e
    have e1 : (b : Nat) ≠ z := Nat.ne_of_lt (Nat.lt_trans hb nz.1)
    have e2 : (b : Nat) ≠ j1 := Nat.ne_of_lt hb
    have e3 : (b : Nat) ≠ j2 := Nat.ne_of_lt (Nat.lt_trans hb nz.2.2.1)
    have e4 : (b : Nat) ≠ S := Nat.ne_of_lt (Nat.lt_trans hb jS)
    have e5 : (b : Nat) ≠ TO := Nat.ne_of_lt (Nat.lt_trans hb nz.2.1)
    exact far7 _ _ e1 e2 (kp6 _ _ e4 (far5 _ _ e1 e2 e3 (kp4 _ _ e4 (far3 _ _ e1 e5 e2 e3 (kp2 _ _ (kp _ _ e))))))
  obtain ⟨us1, us2, rfl⟩ : ∃ u v, us = [u, v] := by
    match us, hu with
    | [u, v], _ => exact ⟨u, v, rfl⟩
  obtain ⟨ws1, ws2, rfl⟩ : ∃ u v, ws = [u, v] := by
    match ws, hw with
    | [u, v], _ => exact ⟨u, v, rfl⟩
  have r1a : RelV (kV k1) us1 ∧ RelV (kV k2) us2 := by
    cases ru with
    | cons h t => cases t with
      | cons h' t => exact ⟨h, h'⟩
  have r1b : RelV y1 ws1 ∧ RelV y2 ws2 := by
    cases rw_ with
    | cons h t => cases t with
      | cons h' t => exact ⟨h, h'⟩
  have ex1 : us1 = x1 := by simpa using px1
  have ex2 : ws1 = x2 := by simpa using px2
  have ex3 : us2 = w1 := by simpa using px3
  have ex4 : ws2 = w2 := by simpa using px4
  subst ex1 ex2 ex3 ex4
  obtain ⟨H', o1, o2, o3, o4, o5, o6⟩ := pairs_laid (tk := t5) (S := S) (kvs := [(k1, y1), (k2, y2)]) (as := [S + 1, S + 2]) I1 (by simp) rfl all (by omega) hS7 (by simp) (fun t ht => by
      have : t = S + 1 ∨ t = S + 2 := by simpa using ht
      rw [hj1]
      rcases this with rfl | rfl
      · exact Nat.le_of_lt (Nat.lt_succ_of_lt jS)
      · exact Nat.le_of_lt (Nat.lt_succ_of_lt (Nat.lt_succ_of_lt jS))) (by simp) (fun j t q e1 e2 => by
      match j, e1, e2 with
      | 0, e1, e2 =>
        cases e1; cases e2
        exact ⟨_, _, r1a.1, r1b.1, n7⟩
      | 1, e1, e2 =>
        cases e1; cases e2
        exact ⟨_, _, r1a.2, r1b.2, n7'⟩) rfl
  exact ⟨.ref S, H', o6, rfl, q H' S [S + 1, S + 2] o1 o2 o3 o4 o5⟩
end
end A

set_option Elab.async false
set_option linter.all false
set_option maxRecDepth 100000
set_option maxHeartbeats 4000000
namespace A
open PySem PySem.Spec PyProof.Rows L2
section
variable {X : Cx} {e e2 : Expr} {p p2 p3 pos cpos pos2 : Pos} {ds : DS} {M : MS} {k : DV → MS → Prop}
theorem dpAll2 {K : PySem.W.Frag} {G : Hp} {vs : List V} {d e : PyData} (h : DpAll K G vs [d, e]) : ∃ v w, vs = [v, w] ∧ Dp K G v d ∧ Dp K G w e := by
  cases h with
  | cons h t => cases t with
    | cons h2 t => cases t; exact ⟨_, _, rfl, h, h2⟩
theorem ae_dictZip (hcalm : X.calm = true) (hmD : X.mg "dict" = none) (hmL : X.mg "list" = none) (hmZ : X.mg "zip" = none)
    (h : AA X [e, e2] ds M fun vs M1 => ∃ (z1 z2 : Str) (d1 d2 : PyData), vs = [.dat (.tuple [.str z1, .str z2]), .dat (.tuple [d1, d2])] ∧ ∀ p, M1 p = none → k (.raw (.ref p)) (upM M1 p (.dK (mergeD [] [(.inr z1, .dat d1), (.inr z2, .dat d2)]))))
    (hgD : Gl X "dict" := by rfl) (hgL : Gl X "list" := by rfl) (hgZ : Gl X "zip" := by rfl)
    (hs : starEach [.Call (.Name "zip" p3) [e, e2] [] cpos] X.env = (false, eval (.Call (.Name "zip" p3) [e, e2] [] cpos) X.env) :: starEach [] X.env := by rfl)
    (hs2 : starEach [.Call (.Name "list" p2) [.Call (.Name "zip" p3) [e, e2] [] cpos] [] pos2] X.env = (false, eval (.Call (.Name "list" p2) [.Call (.Name "zip" p3) [e, e2] [] cpos] [] pos2) X.env) :: starEach [] X.env := by rfl)
    (hs3 : starEach [e, e2] X.env = (false, eval e X.env) :: starEach [e2] X.env := by rfl) (hpl3 : (backTo cpos (starEach [e2] X.env)).any (·.1) = false := by rfl)
    (hpl : (backTo pos (starEach [] X.env)).any (·.1) = false := by rfl) :
    AE X (.Call (.Name "dict" p) [.Call (.Name "list" p2) [.Call (.Name "zip" p3) [e, e2] [] cpos] [] pos2] [] pos) ds M k := fun σ G H Q he ho kk => by
  refine ofE (pe_callTy (call_dictP hcalm) hgD hmD (by decide +kernel) (pa_cons (pe_listZip hcalm hgL hmL hgZ hmZ semA (by decide +kernel) hs hs3 hpl3) pa_nil hs2) (by decide) (by decide) hs2 hpl) ?_
  refine h σ G H _ he ho fun vs d G1 M1 H1 s1 o1 i1 k1 => ?_
  obtain ⟨z1, z2, d1, d2, rfl, k2⟩ := k1
  obtain ⟨v, w, rfl, h3, h4⟩ := is2 i1
  obtain ⟨r, us, rfl, h5, h6⟩ := dp_tup_inv h3
  obtain ⟨r', ws, rfl, h7, h8⟩ := dp_tup_inv h4
  obtain ⟨u1, u2, rfl, h9, h10⟩ := dpAll2 h6
  obtain ⟨y1, y2, rfl, h11, h12⟩ := dpAll2 h8
  cases dp_str_inv h9
  cases dp_str_inv h10
  refine ⟨r, r', .inr z1, .inr z2, y1, y2, rfl, sqT_mono o1.same h5, sqT_mono o1.same h7, fun H' r2 ts hsub hr hts hl hpr => ?_⟩
  refine ⟨r2, ts, [(.inr z1, y1), (.inr z2, y2)], rfl, SqL.of hl, Paired.mapP hpr fun _ _ z => SqT.of z, fun p3 hp3 => ?_⟩
  have o2 : Ok X.K G1 M1 H' := ⟨fun a o z => hsub a o (o1.sub a o z), fun a m z => by
    obtain ⟨z1, z2⟩ := o1.chg a m z
    obtain ⟨o, z3⟩ := z2.some
    exact ⟨z1, z2.mono (Same.refl _) (by rw [hsub a o z3, z3])⟩, o1.tb⟩
  obtain ⟨g3, m3⟩ := o2.fresh hp3
  have hkv : KvIs X.K G1 [(Sum.inr z1, y1), (Sum.inr z2, y2)] [(Sum.inr z1, DV.dat d1), (Sum.inr z2, DV.dat d2)] := .cons ⟨rfl, isd h11⟩ (.cons ⟨rfl, isd h12⟩ .nil)
  exact kk _ _ G1 _ _ s1 (o2.put g3 (x := .dK (mergeK [] [(Sum.inr z1, y1), (Sum.inr z2, y2)])) (m := .dK (mergeD [] [(.inr z1, .dat d1), (.inr z2, .dat d2)])) ⟨_, upd_same, merge_is hkv .nil⟩) (show Is X.K G1 (.ref p3) (.raw (.ref p3)) from rfl) (k2 p3 m3)
end
end A

set_option Elab.async false
set_option linter.all false
set_option maxRecDepth 100000
set_option maxHeartbeats 4000000
/-! d.update(e), x is not None as a test, xs[::-1] of a tuple -/
namespace A
open PySem PySem.Spec PyProof.Rows L2
section
variable {X : Cx} {a e o : Expr} {p p2 p3 pos cpos pos2 apos : Pos} {ds : DS} {M : MS} {k : DV → MS → Prop} {kt : Bool → MS → Prop}
theorem at_notN (h : AE X a ds M fun d M1 => ∃ y, d = .dat y ∧ kt (!isNo y) M1) {j pos'} : AT X (.Compare a [.IsNot] [.Constant .none j pos'] pos) ds M kt := fun σ G H Q he ho kk =>
  ofT (pt_cmp (pc_notN semE) rfl) (h σ G H _ he ho fun v d G1 M1 H1 s1 o1 i1 k1 => by
    obtain ⟨y, rfl, q1⟩ := k1
    have i1' : Dp X.K G1 v y := i1
    refine ⟨!isNo y, ?_, kk _ G1 M1 H1 s1 o1 q1⟩
    cases i1' with
    | non => rfl
    | _ => rfl)
def rDUpd : V → List V → Hp → VK → Prop := fun x xs H Q => ∃ (a b : Addr) (kvs more : List (Key × V)), x = .ref a ∧ xs = [.ref b] ∧ a ≠ b ∧ H a = some (.dK kvs) ∧ H b = some (.dK more) ∧ kvs.length + more.length ≤ 1000 ∧ Q .non (upd H a (.dK (mergeK kvs more)))
theorem mt_dupd : MtR X "dict.update" rDUpd := fun pins s σ H x xs v us Q I rx rxs h => by
  have hline : sizeLine = 16777216 := sizeLine_eq
  obtain ⟨a, b, kvs, more, rfl, rfl, hab, ha, hb, hl, q⟩ := h
  obtain ⟨u, rfl, ru⟩ := vals1 rxs
  cases rx
  cases ru
  obtain ⟨z, hd, vs, rel, dd⟩ := dk_of I.hok ha
  obtain ⟨z2, hd2, ws, rel2, dd2⟩ := dk_of I.hok hb
  have l1 := rel.length
  have l2 := rel2.length
  refine call_meetsIn PySem.F.slot_dict_update dd.typeIs PySem.F.entry_dict_update (PySem.F.args_dict_update_2 _ _) (meets_dict_update (mixKind X.prog X.w) a b hab hd2)
    ⟨vs, ws, dd, dd2, by omega, fun h' m1 _ hs => ?_⟩
  have hw : ∃ q, h'.get? a = some q := let ⟨q, _, _, hq, _⟩ := m1; ⟨q, hq⟩
  have hlen := length_mergeK more kvs
  exact ⟨.non, _, d_write I (by rw [ha]; exact True.intro) hs hw (dk_new (by omega) hd (KV.merge rel2 rel) m1), rfl, q⟩
theorem ae_dupd (h : AE X o ds M fun x M1 => ∃ (q : Addr) (kvs : List (Key × DV)), x = .raw (.ref q) ∧ M1 q = some (.dK kvs) ∧ AE X e ds M1 fun y M2 => ∃ (r : Addr) (kvs more : List (Key × DV)), y = .raw (.ref r) ∧ q ≠ r ∧ M2 q = some (.dK kvs) ∧ M2 r = some (.dK more) ∧ kvs.length + more.length ≤ 1000 ∧ k (.dat .none) (upM M2 q (.dK (mergeD kvs more))))
    (hbase : attributeBase o "update" X.env (eval o X.env) = eval o X.env := by rfl)
    (hfew : ((backTo cpos (starEach [e] X.env)).all (fun x => !x.1) && (backToKw cpos (keywordEach [] X.env)).all (fun x => x.1.isSome)
      && decide ([e].length + ([] : List Keyword).length + (if ([] : List Keyword).isEmpty then 0 else 1) < 30)) = true := by rfl)
    (hline : (apos.endLine == cpos.line) = true := by rfl) (hs : starEach [e] X.env = (false, eval e X.env) :: starEach [] X.env := by rfl) (hplain : (backTo cpos (starEach [] X.env)).any (·.1) = false := by rfl) :
    AE X (.Call (.Attribute o "update" apos) [e] [] cpos) ds M k := fun σ G H Q he ho kk =>
  ofE (pe_bm PySem.F.plainAttrs_dict PySem.F.slot_dict_update PySem.F.type_dict_update mt_dupd semE (pa_cons semE pa_nil hs) hbase hfew hline hs hplain) (h σ G H _ he ho fun v x G1 M1 H1 s1 o1 i1 k1 => by
    obtain ⟨q, kvs0, rfl, hM0, k1⟩ := k1
    have ev : v = .ref q := i1
    subst ev
    obtain ⟨_, ws0, h0, _⟩ := o1.chg _ _ hM0
    refine ⟨.inr (.inr (.inl ⟨rfl, .inl ⟨_, h0⟩⟩)), ?_⟩
    refine k1 σ G1 H1 _ (he.mono s1) o1 fun u y G2 M2 H2 s2 o2 i2 k2 => ?_
    obtain ⟨r, kvs, more, rfl, hqr, hM, hN, hl, k3⟩ := k2
    have eu : u = .ref r := i2
    subst eu
    obtain ⟨hg, ws, h1, h2⟩ := o2.chg _ _ hM
    obtain ⟨_, us, h3, h4⟩ := o2.chg _ _ hN
    refine ⟨q, r, ws, us, rfl, rfl, hqr, h1, h3, by rw [Paired.length h2, Paired.length h4]; exact hl, kk _ _ G2 _ _ (s1.trans s2) (o2.put hg (x := .dK (mergeK ws us)) (m := .dK (mergeD kvs more)) ⟨_, upd_same, merge_is h4 h2⟩) (isd .non) k3⟩)
end
end A

set_option Elab.async false
set_option linter.all false
set_option maxRecDepth 100000
set_option maxHeartbeats 4000000
/-! xs[::-1] of a tuple of two -/
namespace A
open PySem PySem.Spec PyProof.Rows L2
section
variable {prog : Program} {w : World} {A : Around} {E : Value → Shared → Prop} {s : Shared}
theorem rev2_applied {sl : Addr} {st : Value} {Q : Int × Int × Nat → Shared → Prop} (hs : s.heap.IsSliceOf sl .none .none st) (ps : IsPart st (some (-1))) (h : Q (1, -1, 2) s) : wpAny (model prog w) A (Builtin.Slice.sliceApplied (.ref sl) (pure (2 : Int))) Q E s := by
  obtain ⟨os, hos, hcs, hds⟩ := id hs
  unfold Builtin.Slice.sliceApplied Builtin.Slice.sliceFields
  refine wpAny_bind (wpAny_bind (wpAny_field hos hds (x := .none) rfl (wpAny_bind (wpAny_field hos hds (x := .none) rfl (wpAny_bind (wpAny_field hos hds (x := st) rfl (wpAny_pure ?_)))))))
  refine wpAny_bind (HT.slicePart_ ps ?_)
  show wpAny _ _ (if ((-1 : Int) == 0) = true then _ else _) _ _ s
  rw [if_neg (by decide)]
  refine wpAny_bind (HT.slicePart_ .none (wpAny_bind (HT.slicePart_ .none (wpAny_bind (wpAny_pure ?_)))))
  exact wpAny_pure h
theorem rev2_item {t sl : Addr} {u v st : Value} {Q : Value → Shared → Prop} (ht : IsTup s.heap t #[u, v]) (hs : s.heap.IsSliceOf sl .none .none st) (ps : IsPart st (some (-1)))
    (h : Q (.ref s.heap.objs.size) { s with heap := s.heap.push { cls := .type "tuple", data := .seq #[v, u] } }) : wpAny (model prog w) A (getItem (.ref t) (.ref sl)) Q E s := by
  obtain ⟨os, hos, hcs, hds⟩ := id hs
  have hTs : s.TypeIs (.ref sl) "slice" := ⟨os, hos, hcs⟩
  unfold getItem
  try with_reducible refine wpAny_holding ?_
  first | refine wpAny_bind (wpAny_pure ?_) | skip
  refine wpAny_bind (wpAny_sequenceKey ht.typeIs (by decide) ?_)
  refine wpAny_bind (wpAny_callSpecial?_slot (name := Str.ofString "__getitem__") ht.typeIs PyProof.Rows.slot_tuple_getitem
    (wpAny_call_entry PyProof.Rows.slot_tuple_getitem ht.typeIs entry_tuple_getitem ?_ (args_tuple_getitem _ _)))
  show wpAny _ _ (Builtin.Tuple.tupleItemsOf (.ref t) >>= _) _ _ s
  refine wpAny_bind (tupleItemsOf_ ht ?_)
  refine wpAny_bind (wpAny_typeOf hTs ?_)
  rw [if_pos (by decide)]
  refine wpAny_bind (rev2_applied hs ps ?_)
  show wpAny _ _ (if ((1 : Int) == 0 && (-1 : Int) == 1 && (2 : Nat) == 2) = true then _ else _) _ _ s
  rw [if_neg (by decide)]
  have e : ((List.range 2).filterMap fun (m : Nat) => (#[u, v] : Array Value)[((1 : Int) + (m : Int) * (-1)).toNat]?).toArray = #[v, u] := rfl
  rw [e]
  first
    | exact wpAny_bind (m := Builtin.Tuple.tupleExact _) (wpAny_newObj_type (wpAny_pure ⟨_, rfl, wpAny_pure h⟩))
    | exact wpAny_bind (m := Builtin.Tuple.tupleExact _) (wpAny_newObj_type (wpAny_bind (wpAny_pure (wpAny_pure ⟨_, rfl, wpAny_pure h⟩))))
    | exact wpAny_bind (wpAny_bind (m := Builtin.Tuple.tupleExact _) (wpAny_newObj_type (wpAny_pure (wpAny_pure ⟨_, rfl, wpAny_pure h⟩))))
    | exact wpAny_bind (wpAny_bind (m := Builtin.Tuple.tupleExact _) (wpAny_newObj_type (wpAny_pure ⟨_, rfl, wpAny_pure h⟩)))
end
section
variable {X : Cx} {e : Expr} {te : TE} {kk : Nat} {p1 p2 p3 pos : Pos} {ds : DS} {M : MS} {k : DV → MS → Prop}
def tRev2 (K : PySem.W.Frag) (te : TE) : TE := fun σ H Q => te σ H fun x H1 => ∃ a u v, x = .ref a ∧ SqT K H1 a [u, v] ∧ ∀ p, H1 p = none → Q (.ref p) (upd H1 p (.tup [v, u]))
theorem pe_rev2 (he : PE X e te) : PE X (.Subscript e (.Slice none none (some (.UnaryOp .USub (.Constant (.int 1) kk p1) p2)) p3) pos) (tRev2 X.K te) := by
  refine ⟨fun pins s σ H Q I h => ?_⟩
  refine Subscript_ (thn (he.run pins s σ H _ I h) fun v s1 ⟨x, H1, I1, r1, q1⟩ => ?_)
  obtain ⟨a, u1, u2, ex, hx, q⟩ := q1
  subst ex
  cases r1
  have hst : PO X (some (.UnaryOp .USub (.Constant (.int 1) kk p1) p2)) (tPart (tUn (rU fun i => .int (-i)) (tC (.int 1)))) := po_some (pe_un un_neg pe_int)
  refine wpAny_Slice (thn (po_none.run pins s1 σ H1 (fun o H2 => o = none ∧ H2 = H1) I1 ⟨rfl, rfl⟩) fun vl s2 ⟨l, H2, I2, pl, el, e2⟩ => ?_)
  subst el e2
  refine thn (po_none.run pins s2 σ H2 (fun o H3 => o = none ∧ H3 = H2) I2 ⟨rfl, rfl⟩) fun vu s3 ⟨u, H3, I3, pu, eu, e3⟩ => ?_
  subst eu e3
  refine thn (hst.run pins s3 σ H3 (fun o H4 => o = some (-1) ∧ H4 = H3) I3 ⟨1, rfl, -1, rfl, rfl, rfl⟩) fun vs s4 ⟨o, H4, I4, ps, eo, e4⟩ => ?_
  subst eo e4
  cases pl
  cases pu
  have I5 : Inv X pins σ H4 { s4 with heap := s4.heap.push { cls := .type "slice", data := .fields #[.none, .none, vs] } } := I4.kept (t' := s4.toks) fun b ob q => Heap.get?_push_of_some _ q
  obtain ⟨its, r, ht, hz⟩ := I5.tuple hx
  obtain ⟨w1, w2, rfl, r1, r2⟩ : ∃ w1 w2, its = [w1, w2] ∧ RelV u1 w1 ∧ RelV u2 w2 := by
    cases r with
    | cons h1 t => cases t with
      | cons h2 t => cases t; exact ⟨_, _, rfl, h1, h2⟩
  show wpAny (model X.prog X.w) X.A (subscriptTail e (.Slice none none (some (.UnaryOp .USub (.Constant (.int 1) kk p1) p2)) p3) (.ref a) (.ref s4.heap.objs.size)) (EP X pins σ Q) X.xe { s4 with heap := s4.heap.push { cls := .type "slice", data := .fields #[.none, .none, vs] } }
  refine tail_any (ops := [.ref a, .ref s4.heap.objs.size]) ht.typeIs PyProof.Rows.slot_tuple_getitem.lookup ?_ (by with_unfolding_all rfl)
  refine rev2_item ht (Heap.IsSliceOf.new _ .none .none vs) ps ?_
  refine ⟨.ref _, _, I5.laid (t' := s4.toks) (o := .tup [u2, u1]) (fun b ob q => Heap.get?_push_of_some _ q) (Nat.le_refl _) ?_, rfl, q _ (I5.hok.fresh (Nat.le_refl _))⟩
  exact ⟨by show 2 ≤ sizeLine; decide, [w2, w1], .cons r2 (.cons r1 .nil), ⟨_, Heap.get?_push_size _ rfl, rfl, _, rfl⟩⟩
theorem ae_rev2 (h : AE X e ds M fun x M1 => ∃ d1 d2, x = .dat (.tuple [d1, d2]) ∧ k (.dat (.tuple [d2, d1])) M1) : AE X (.Subscript e (.Slice none none (some (.UnaryOp .USub (.Constant (.int 1) kk p1) p2)) p3) pos) ds M k := fun σ G H Q he hok kk =>
  ofE (pe_rev2 semE) (h σ G H _ he hok fun v x G1 M1 H1 s1 o1 i1 k1 => by
    obtain ⟨d1, d2, rfl, q⟩ := k1
    obtain ⟨r, us, rfl, h5, h6⟩ := dp_tup_inv i1
    obtain ⟨u1, u2, rfl, h9, h10⟩ := dpAll2 h6
    refine ⟨r, u1, u2, rfl, sqT_mono o1.same h5, fun l hl => ?_⟩
    obtain ⟨o2, s2⟩ := o1.still hl (.tup [u2, u1])
    exact kk _ _ _ M1 _ (s1.trans s2) o2 (isd (.tup (.inl (.inl upd_same)) (.cons (dp_mono s2 h10) (.cons (dp_mono s2 h9) .nil)))) q)
end
end A

set_option Elab.async false
set_option linter.all false
set_option maxRecDepth 100000
set_option maxHeartbeats 2000000
namespace A
open PySem PySem.Spec PyProof.Rows L2
section
variable {X : Cx} {ds : DS} {M : MS} {a b : Expr} {pos : Pos} {k : DV → MS → Prop}
/-- x not in list, the list may change -/
theorem ar_niM {K : PySem.W.Frag} {d : PyData} {q : Addr} {xs : List PyData} (hM : M q = some (.lst (xs.map .dat))) (s1 : SeqAt.shaped d = true) (s2 : SeqAt.shaped (.list xs) = true) (qq : k (.dat (.bool (!xs.any fun z => PyData.eqv z d))) M) : AR K (rNotInD K) (.dat d) (.raw (.ref q)) M k := fun v w G H Q ho iv iw kk => by
  have e : w = .ref q := iw
  subst e
  obtain ⟨_, us, h1, h2⟩ := ho.chg _ _ hM
  exact ⟨d, xs, dp_mono ho.same iv, .lst (SqL.of h1) (dpAll_mono ho.same h2.dat), s1, s2, kk _ _ G M H (Same.refl _) ho (isd (Dp.bl _)) qq⟩
end
end A

set_option Elab.async false
set_option linter.all false
set_option maxRecDepth 100000
set_option maxHeartbeats 2000000
namespace A
open PySem PySem.Spec PyProof.Rows L2
open PySem.W (minD minD_ints min_tuple_data)
section
variable {X : Cx} {ds : DS} {M : MS} {a : Expr} {pos : Pos} {p : Pos} {k : DV → MS → Prop}
theorem minD_two (i j : Int) : minD (.int i) [.int j] = .int (if j < i then j else i) := by
  rw [show [PyData.int j] = [j].map PyData.int from rfl, minD_ints]
  show PyData.int (min i j) = _
  congr 1
  split <;> omega
/-- min of a tuple of two ints -/
theorem call_minT2 (hc : X.calm = true) (hu : X.A.units + 64 < cLine) : CallR X (.builtin "min") (fun xs H Q => ∃ a i j, xs = [V.ref a] ∧ SqT X.K H a [.int i, .int j] ∧ Q (.int (if j < i then j else i)) H) := by
  intro pins s σ H xs us Q I r h
  obtain ⟨a, i, j, rfl, hs, q⟩ := h
  obtain ⟨its, rv, hl, _⟩ := I.tuple hs
  rw [Vals.ref1 r]
  obtain ⟨t, u, rfl⟩ := Vals.int2 rv
  refine min_tuple_data (x := .int i) (xs := [.int j]) (I.ok.hd hc) hl (.cons (.int i t) (.cons (.int j u) .nil)) ⟨fun x hx y hy => ?_, fun x hx => ?_⟩ (by simp only [PyData.depthAll, PyData.depth]; omega) fun n v h' tk bs hn hr hk => ?_
  · simp only [List.mem_cons, List.not_mem_nil, or_false] at hx hy
    rcases hx with rfl | rfl <;> rcases hy with rfl | rfl <;> rfl
  · simp only [List.mem_cons, List.not_mem_nil, or_false] at hx
    rcases hx with rfl | rfl <;> exact fun z => by cases z
  · rw [minD_two] at hr
    generalize (if j < i then j else i) = m at hr q
    cases hr with
    | int _ t => exact ⟨.int m, H, I.kept hk, ⟨_, rfl⟩, q⟩
theorem ae_minT2 (hcalm : X.calm = true) (hu : X.A.units + 64 < cLine) (hm : X.mg "min" = none) (h : AA X [a] ds M fun xs M1 => ∃ i j, xs = [.dat (.tuple [.int i, .int j])] ∧ k (.dat (.int (if j < i then j else i))) M1) (hg : Gl X "min" := by rfl)
    (hs : starEach [a] X.env = (false, eval a X.env) :: starEach [] X.env := by rfl) (hpl : (backTo pos (starEach [] X.env)).any (·.1) = false := by rfl) : AE X (.Call (.Name "min" p) [a] [] pos) ds M k :=
  ae_callB (call_minT2 hcalm hu) hm (by decide +kernel) (h.imp fun xs M1 ⟨i, j, e, q⟩ => by
    subst e
    intro vs G H Q ho iv kk
    obtain ⟨v, rfl, h1⟩ := is1 iv
    obtain ⟨r, us, rfl, h5, h6⟩ := dp_tup_inv h1
    obtain ⟨u1, u2, rfl, h9, h10⟩ := dpAll2 h6
    rw [dp_int_inv h9, dp_int_inv h10] at h5
    exact ⟨r, i, j, rfl, sqT_mono ho.same h5, kk _ _ G M1 H (Same.refl _) ho (isd (Dp.int _)) q⟩) hg (by decide) (by decide) hs hpl
end
end A

set_option Elab.async false
set_option linter.all false
set_option maxRecDepth 100000
set_option maxHeartbeats 2000000
namespace A
open PySem PySem.Spec PyProof.Rows L2
section
variable {X : Cx} {ds : DS} {M : MS} {p2 pos : Pos} {k : DV → MS → Prop}
/-- t[lo:hi] of a tuple, not the whole -/
theorem ae_slT {lo hi : Option Expr} {e : Expr} (h : AE X e ds M fun x M1 => AO X lo ds M1 fun i M2 => AO X hi ds M2 fun j M3 => ∃ xs, x = .dat (.tuple xs) ∧ ¬ (HT.sIx xs.length 0 i = 0 ∧ HT.sIx xs.length xs.length j = xs.length) ∧ k (.dat (.tuple (cutD xs i j))) M3) : AE X (.Subscript e (.Slice lo hi none p2) pos) ds M k := fun σ G H Q he hok kk =>
  ofE (pe_slice sl_tup semE semO semO) (h σ G H _ he hok fun v x G1 M1 H1 s1 o1 i1 k1 => k1 σ G1 H1 _ (he.mono s1) o1 fun i G2 M2 H2 s2 o2 k2 => k2 σ G2 H2 _ (he.mono (s1.trans s2)) o2 fun j G3 M3 H3 s3 o3 k3 => by
    obtain ⟨xs, rfl, hw, q⟩ := k3
    have s23 := s2.trans s3
    obtain ⟨p, ys, rfl, h4, h5⟩ := dp_tup_inv i1
    refine ⟨p, ys, rfl, sqT_mono (s23.trans o3.same) h4, by rw [dpAll_len h5]; exact hw, fun l hl => ?_⟩
    obtain ⟨o4, s4⟩ := o3.still hl (.tup (cutV ys i j))
    refine kk _ _ _ M3 _ (s1.trans (s23.trans s4)) o4 (isd (.tup (.inl (.inl upd_same)) ?_)) q
    have h6 : ∀ {K : PySem.W.Frag} {H : Hp}, DpAll K H ys xs → DpAll K H (cutV ys i j) (cutD xs i j) := fun h => by
      unfold cutV cutD
      rw [dpAll_len h]
      exact dpAll_take _ (dpAll_drop _ h)
    exact h6 (dpAll_mono (s23.trans s4) h5))
end
end A

set_option Elab.async false
set_option linter.all false
set_option maxRecDepth 100000
set_option maxHeartbeats 2000000
/-! an exception that a suite keeps -/
namespace A
open PySem PySem.Spec PyProof.Rows L2
/-- at a: an exception object of the class cls, its dict at d -/
def kept (cls : Value) (d : Option Addr) (a : Addr) : HO := .ext fun h => ∃ (o : Obj) (f : Array Value), h.get? a = some o ∧ Zc cls d o ∧ o.data = .fields f
theorem kept_ok {P : Program} {w : World} {H : Hp} {h : Heap} {a : Addr} {cls : Value} {d : Option Addr} {o : Obj} {f : Array Value} (e : h.get? a = some o) (z : Zc cls d o) (q : o.data = .fields f) : ObjOk P w H h a (kept cls d a) :=
  ⟨⟨o, f, e, z, q⟩, ⟨o, e⟩, fun _ _ ⟨o', f', r, z', q'⟩ k => ⟨o', f', k o' r, z', q'⟩⟩
theorem kept_own {cls : Value} {d : Option Addr} {a x : Addr} : kept cls d a ≠ .own x := fun z => by unfold kept at z; cases z
/-- behind the suite the exception's object is known -/
theorem suite_kept {X : Cx} {pins : List (Addr × Obj)} {σ : L2.St} {H : Hp} {s : Shared} {a : Addr} {o : Obj} {f : Array Value} {cls : Value} {d : Option Addr} (ok : X.Ok) (J : Inv (X.suite a ((a, o) :: (X.pn ++ pins))) [] σ H s) (z : Zc cls d o) (q : o.data = .fields f)
    (new : X.s_0.heap.get? a = none) (apart : ∀ p ∈ X.pn ++ pins, p.1 ≠ a) : Inv X pins σ (upd H a (kept cls d a)) s := by
  obtain ⟨here, nH, nL, nF, nC⟩ := J.pin (a, o) (List.mem_append_left _ List.mem_cons_self)
  have I := J.unsuite ok
  have neH : ∀ b u, H b = some u → b ≠ a := fun b u e => ne_of_none e nH
  have neC : ∀ x c, X.env.cells.lookup x = some c → c ≠ a := fun x c e y => by
    obtain ⟨v, u, hu, hd⟩ := I.cell x c e
    rw [y] at hu
    exact nC v (by have e2 : some o = some u := here.symm.trans hu; cases e2; exact hd)
  refine { ok := I.ok, os := I.os, bare := I.bare, loc := I.loc, cell := I.cell, len := I.len, base := { keep := I.base.keep, slot := I.base.slot, there := I.base.there, free := ?bf, tups := ?bt, frzs := ?bz, tbls := ?bb }, free := ?fr, freeC := ?fc, pin := ?pn, hok := ?ho }
  case bf =>
    intro b u e n x
    have nb : b ≠ a := fun y => by rw [y, new] at e; cases e
    rw [upd_ne nb]
    exact I.base.free b u e n x
  case bt =>
    intro b xs e
    have e2 := I.base.tups b xs e
    rw [upd_ne (neH _ _ e2)]; exact e2
  case bz =>
    intro b u v e
    have e2 := I.base.frzs b u v e
    rw [upd_ne (neH _ _ e2)]; exact e2
  case bb =>
    intro b ps e
    obtain ⟨m, e2⟩ := I.base.tbls b ps e
    exact ⟨m, by rw [upd_ne (neH _ _ e2)]; exact e2⟩
  case fr => rw [upd_ne (fun y => nL y.symm)]; exact I.free
  case fc => exact fun x c e => by rw [upd_ne (neC x c e)]; exact I.freeC x c e
  case pn =>
    intro p hp
    obtain ⟨p1, p2, p3, p4, p5⟩ := I.pin p hp
    exact ⟨p1, by rw [upd_ne (apart p hp)]; exact p2, p3, p4, p5⟩
  case ho =>
    intro b u e
    by_cases hb : b = a
    · subst hb
      rw [upd_same] at e
      cases e
      exact kept_ok here z q
    · rw [upd_ne hb] at e
      exact (I.hok b u e).stay (fun _ _ _ r => r) (fun c r => by rw [upd_ne (neH c _ r)]; exact r) fun c xs r => by rw [upd_ne (neH c _ r)]; exact r
/-- what 'except x as n: ..' asks of an exception of the body: it is caught, and known from then on -/
def wKeep (K : PySem.W.Frag) (c : Value) (i : Nat) (ts : Addr → Value → Option Addr → TS) (D : Ends) : WX := fun cls d σ H => PySem.W.exmOne K cls c = some true ∧ ∀ a, H a = none → ts a cls d
  { nx := fun σ2 H2 => D.nx (σ2.set i none) (upd H2 a (kept cls d a)), rt := fun v H2 => D.rt v (upd H2 a (kept cls d a)), bk := fun σ2 H2 => D.bk (σ2.set i none) (upd H2 a (kept cls d a)), ct := fun σ2 H2 => D.ct (σ2.set i none) (upd H2 a (kept cls d a)) } (σ.set i (some (.ref a))) H
section
variable {X : Cx} {x n : Str} {C : Addr} {i : Nat} {body suite : List Stmt} {b₀ : Stmt} {np pos pos' : Pos} {tb : WX → TS} {ts : Addr → Value → Option Addr → TS}
theorem ps_try_keep (hs : X.stack = X.env :: X.outer) (hf : X.env.frame = some X.env.locals) (hex : X.ex = []) (nd : X.N.Nodup) (at_ : X.N[i]? = some n) (hln : X.env.kindOf n = some .local) (gx : Gl X x) (dbx : (x == ("__debug__" : Str)) = false) (mx : X.mg x = some (.ref C))
    (hb : ∀ (W : WX) (pn : List (Addr × Obj)) (xe : Value → Shared → Prop), Takes (X.tr pn xe) W → PassesOwn (model X.prog X.w) X.A X.env xe → PSs (X.tr pn xe) body (tb W))
    (hsu : ∀ (a : Addr) (o : Obj) (cls : Value) (d : Option Addr) (pn : List (Addr × Obj)), Zc cls d o → (∃ f, o.data = .fields f) → PSs (X.suite a ((a, o) :: pn)) (b₀ :: suite) (ts a cls d)) :
    PS X (.Try body [.ExceptHandler (some (.Name x np)) (some n) (b₀ :: suite) pos'] [] [] pos) (fun D σ H => tb (wKeep X.K (.ref C) i ts D) D σ H) := by
  refine ⟨fun pins s0 σ0 H0 D I w => ?_⟩
  have ok := I.ok
  have fr : X.A.frames = some (X.env :: X.outer) := ok.frames.trans (congrArg some hs)
  obtain ⟨hd, ehd⟩ : ∃ l, l = [ExceptHandler.ExceptHandler (some (.Name x np)) (some n) (b₀ :: suite) pos'] := ⟨_, rfl⟩
  obtain ⟨net, enet⟩ : ∃ f : Value → Shared → Prop, f = fun e t1 => wpAny (model X.prog X.w) X.A (noteFrame e X.env) (fun _ t2 => wpAny (model X.prog X.w) X.A (setFlight e none) (fun _ t3 => wpAny (model X.prog X.w) X.A (handleBy e X.env hd) (SP X pins D) X.xe t3) X.xe t2) X.xe t1 := ⟨_, rfl⟩
  have pass : PassesOwn (model X.prog X.w) X.A X.env net := by rw [enet]; exact PassesOwn.looking
  have falls : Takes (X.tr (X.pn ++ pins) net) (wKeep X.K (.ref C) i ts D) := by
    intro u t ⟨a, B, tI, ps, τ, H, cls, d, eu, J0, nb, up, sky, na, os, bare, due, wish⟩
    subst eu
    show net (.ref a) t
    rw [enet]
    have J : Inv X pins τ H tI := J0.ofTry ok
    have sk : Sky B (X.env :: X.outer) a (Zc cls d) X.env.locals t.heap := by rw [← hs]; exact sky
    have nB : B.get? a = none := by
      rcases sk with z | z | z
      · exact z.2.1
      · exact z.2.1
      · exact z.2.1
    refine Sky.land Zc.steady fr hf sk fun h2 fly up2 => ?_
    obtain ⟨o2, f2, e2, z2, q2⟩ := fly.there
    have nst : a ∉ frs (X.env :: X.outer) := fun m => by
      obtain ⟨_, u, e', nf⟩ := fly.2.2.1.mem m
      exact nf f2 (by have y : some o2 = some u := e2.symm.trans e'; cases y; exact q2)
    have nl : a ≠ X.env.locals := fun y => nst (List.mem_filterMap.mpr ⟨X.env, .head _, by rw [hf, y]⟩)
    have nf : a ∉ X.fs := fun m => by
      obtain ⟨e, he, y⟩ := List.mem_filterMap.mp m
      exact nst (List.mem_filterMap.mpr ⟨e, .tail _ he, y⟩)
    have notI : tI.heap.get? a = none := by
      cases e : tI.heap.get? a with
      | none => rfl
      | some u =>
        have y := nb a u e (by rw [show (X.tr (X.pn ++ pins) net).stack = X.env :: X.outer from hs]; exact nst)
        rw [nB] at y; cases y
    have new : X.s_0.heap.get? a = none := by
      cases e : X.s_0.heap.get? a with
      | none => rfl
      | some u =>
        obtain ⟨u2, y⟩ := J.base.there a u e (by rw [hex]; exact fun y => nomatch y)
        rw [notI] at y; cases y
    have apart : ∀ p ∈ X.pn ++ pins, p.1 ≠ a := fun p hp y => by
      have e := (J.pin p hp).1
      rw [y, notI] at e; cases e
    have land := fun {h : Heap} (fl : HandSPX.FlyingZ B (X.env :: X.outer) a (Zc cls d) h) (u : tI.heap.UpToSlots h) => (J.landed (s' := { t with heap := h }) nb fl.1 u os bare)
    have La := land fly (up.trans up2)
    have S2 := La.suite e2 q2 na nl nf
    rw [ehd]
    refine wpAny_handleBy_cons (codeAny_handlers_test ?_) (fun y => by cases y)
    refine ld_glob (X := X.suite a ((a, o2) :: (X.pn ++ pins))) S2 gx mx ?_ dbx
    have ty : PySem.W.Looks (model X.prog X.w) h2 (typeOf (.ref a)) cls := fun A' Q' E' s' k y => wpAny_typeOf_ref (k a o2 e2) (z2.1.symm ▸ y)
    refine (PySem.W.exm_one (M := model X.prog X.w) La.kIn ty due).here ?_
    refine codeAny_handlers_suite_as (HandSPX.lands_againZ fly fun h4 fly4 up4 => ?_)
    obtain ⟨o4, f4, e4, z4, q4⟩ := fly4.there
    have S4 := (land fly4 ((up.trans up2).trans up4)).suite e4 q4 na nl nf
    refine store_ok (X := X.suite a ((a, o4) :: (X.pn ++ pins))) (v := .ref a) S4 nd at_ (.inl hln) rfl (fun t5 S5 => ?_) (.inr hln)
    have done : ∀ {τ6 : L2.St} {H6 : Hp} {t6 : Shared} {R : Shared → Prop}, Inv (X.suite a ((a, o4) :: (X.pn ++ pins))) [] τ6 H6 t6 → (∀ t7, Inv X pins (τ6.set i none) (upd H6 a (kept cls d a)) t7 → R t7) →
        wpAny (model X.prog X.w) X.A (do bindName X.env n .none; unbindBehindTheSuite X.env n pos') (fun _ t7 => R t7) X.xe t6 := fun S6 y => gone_ok (suite_kept ok S6 z4 q4 new apart) nd at_ hln y
    refine wpAny_mono ((hsu a o4 cls d (X.pn ++ pins) z4 ⟨f4, q4⟩).run [] t5 _ H _ S5 (wish a na)) (fun fl t6 out => ?_) fun _ _ y => y.elim
    match fl, out with
    | .next, ⟨τ6, H6, S6, y⟩ => exact done S6 fun t7 J7 => ⟨_, _, J7, y⟩
    | .brk, ⟨τ6, H6, S6, y⟩ => exact done S6 fun t7 J7 => ⟨_, _, J7, y⟩
    | .cont, ⟨τ6, H6, S6, y⟩ => exact done S6 fun t7 J7 => ⟨_, _, J7, y⟩
    | .ret u, ⟨v, τ6, H6, S6, r, y⟩ => exact done S6 fun t7 J7 => ⟨v, _, _, J7, r, y⟩
  have ran := (hb (wKeep X.K (.ref C) i ts D) (X.pn ++ pins) net falls pass).run [] s0 σ0 H0 D (I.toTry net) w
  refine wpAny_Try_except (wpAny_mono ran (fun fl t1 out => ?_) fun e t1 y => by rw [enet, ehd] at y; exact y)
  match fl, out with
  | .next, ⟨τ, H, J, y⟩ => exact wpAny_execs_nil ⟨τ, H, J.ofTry ok, y⟩
  | .brk, ⟨τ, H, J, y⟩ => exact ⟨τ, H, J.ofTry ok, y⟩
  | .cont, ⟨τ, H, J, y⟩ => exact ⟨τ, H, J.ofTry ok, y⟩
  | .ret u, ⟨v, τ, H, J, r, y⟩ => exact ⟨v, τ, H, J.ofTry ok, r, y⟩
end
end A

set_option Elab.async false
set_option linter.all false
set_option maxRecDepth 100000
set_option maxHeartbeats 2000000
/-! what may raise -/
namespace A
open PySem PySem.Spec PyProof.Rows L2
/-- what flies out: its class, its value, the objects -/
abbrev XD := Addr → DV → MS → Prop
/-- the weakest wish that is taken -/
def XW (X : Cx) : WX := fun cls d σ H => ∀ u t, XE X (fun c' d' σ' H' => c' = cls ∧ d' = d ∧ σ' = σ ∧ H' = H) u t → X.xe u t
theorem takesXW {X : Cx} : Takes X (XW X) := fun u t ⟨a, B, sI, pins, σ, H, cls, d, e, I, nb, up, sky, na, os, ag, w⟩ => w u t ⟨a, B, sI, pins, σ, H, cls, d, e, I, nb, up, sky, na, os, ag, rfl, rfl, rfl, rfl⟩
theorem XW.of {X : Cx} {W : WX} (tk : Takes X W) {cls : Value} {d : Option Addr} {σ : L2.St} {H : Hp} (h : W cls d σ H) : XW X cls d σ H := fun u t x => tk.imp (fun c' d' σ' H' ⟨e1, e2, e3, e4⟩ => by subst e1 e2 e3 e4; exact h) u t x
def XOk (X : Cx) (G : Hp) (kx : XD) : Prop := ∀ C dd w d σ G2 M2 H2, Same G G2 → Ok X.K G2 M2 H2 → G2 dd = some (.xd [("value", w)]) → Is X.K G2 w d → kx C d M2 → XW X (.ref C) (some dd) σ H2
theorem XOk.mono {X : Cx} {G G' : Hp} {kx : XD} (s : Same G G') (h : XOk X G kx) : XOk X G' kx := fun C dd w d σ G2 M2 H2 e => h C dd w d σ G2 M2 H2 (s.trans e)
def AEX (X : Cx) (e : Expr) (ds : DS) (M : MS) (k : DV → MS → Prop) (kx : XD) : Prop :=
  ∀ σ G H Q, EnvOk X.K G σ ds → Ok X.K G M H → XOk X G kx → (∀ v d G2 M2 H2, Same G G2 → Ok X.K G2 M2 H2 → Is X.K G2 v d → k d M2 → Q v H2) → SemE X e σ H Q
def ASX (X : Cx) (st : Stmt) (ds : DS) (M : MS) (A : AEnds) (kx : XD) : Prop :=
  ∀ σ G H D, EnvOk X.K G σ ds → Ok X.K G M H → XOk X G kx → EndsOk X.K G A D → SemS X st D σ H
def ASsX (X : Cx) (sts : List Stmt) (ds : DS) (M : MS) (A : AEnds) (kx : XD) : Prop :=
  ∀ σ G H D, EnvOk X.K G σ ds → Ok X.K G M H → XOk X G kx → EndsOk X.K G A D → SemSs X sts D σ H
abbrev DSX := List DV → MS → (DV → MS → Prop) → XD → Prop
def spX (K : PySem.W.Frag) (S : DSX) : Sp := fun vs H Q E => ∃ G M ds k kx, Ok K G M H ∧ IsAll K G vs ds ∧ S ds M k kx ∧ (∀ v d G2 M' H2, Same G G2 → Ok K G2 M' H2 → Is K G2 v d → k d M' → Q v H2) ∧
  ∀ C dd w d G2 M' H2, Same G G2 → Ok K G2 M' H2 → G2 dd = some (.xd [("value", w)]) → Is K G2 w d → kx C d M' → E (.ref C) (some dd) H2
/-- a def that may raise -/
structure DefX (P : Program) (w : World) (K : PySem.W.Frag) (mg : Str → Option Value) (base : Heap) (x : Str) (k : Nat) (S : DSX) : Prop where
  ex : ∃ (f : Addr) (fd : FuncData) (ps : List Str), FnOk P w K mg base (L2.CX P w) k f fd ps (spX K S) ∧ mg x = some (.ref f) ∧ PySem.W.keepIn K (.ref f) = true ∧ Binds K fd ps []
structure DefXK (P : Program) (w : World) (K : PySem.W.Frag) (mg : Str → Option Value) (base : Heap) (x : Str) (ks : List Str) (g : {α : Type} → List α → List α) (k : Nat) (S : DSX) : Prop where
  ex : ∃ (f : Addr) (fd : FuncData) (ps : List Str), FnOk P w K mg base (L2.CX P w) k f fd ps (spX K S) ∧ mg x = some (.ref f) ∧ PySem.W.keepIn K (.ref f) = true ∧ KBinds K fd ps ks (fun us ws => us ++ g ws) (fun vs zs => vs ++ g zs)
section
variable {X : Cx} {ds : DS} {M : MS} {k k' : DV → MS → Prop} {kx kx' : XD} {e a b c o tg iter : Expr} {es rest : List Expr} {pos pos' p apos cpos : Pos} {x name : Str} {Z : AEnds} {st : Stmt} {sts body els : List Stmt} {S : DSX} {j : Nat} {kws : List Keyword}
theorem aex_of (h : AE X e ds M k) : AEX X e ds M k kx := fun σ G H Q he ho _ kk => h σ G H Q he ho kk
theorem asx_of (h : AS X st ds M Z) : ASX X st ds M Z kx := fun σ G H D he ho _ q => h σ G H D he ho q
theorem assx_of (h : ASs X sts ds M Z) : ASsX X sts ds M Z kx := fun σ G H D he ho _ q => h σ G H D he ho q
theorem AEX.imp (h : AEX X e ds M k kx) (g : ∀ d M', k d M' → k' d M') : AEX X e ds M k' kx := fun σ G H Q he ho x q => h σ G H Q he ho x fun v d G2 M2 H2 s2 o2 i2 k2 => q v d G2 M2 H2 s2 o2 i2 (g d M2 k2)
theorem asx_nil (h : Z.nx ds M) : ASsX X [] ds M Z kx := assx_of (as_nil h)
theorem asx_cons (h : ASX X st ds M { Z with nx := fun ds' M' => ASsX X sts ds' M' Z kx } kx) : ASsX X (st :: sts) ds M Z kx := fun σ G H D he ho hx q =>
  ofSs (pss_cons semS semSs) (h σ G H _ he ho hx ⟨fun σ' ds' G' M' H' s e o n => n σ' G' H' D e o (hx.mono s) (q.mono s), q.rt, q.bk, q.ct⟩)
theorem asx_expr (h : AEX X e ds M (fun _ M1 => Z.nx ds M1) kx) (hs : swapsWith e none pos.line X.env = pure false := by rfl) : ASX X (.Expr e pos) ds M Z kx := fun σ G H D he ho hx q =>
  ofS (ps_expr semE hs) (h σ G H _ he ho hx fun v d G1 M1 H1 s1 o1 i1 k1 => q.nx σ ds G1 M1 H1 s1 (he.mono s1) o1 k1)
theorem asx_ret (h : AEX X e ds M (fun d M1 => Z.rt d M1) kx) : ASX X (.Return (some e) pos) ds M Z kx := fun σ G H D he ho hx q =>
  ofS (ps_ret semE) (h σ G H _ he ho hx fun v d G1 M1 H1 s1 o1 i1 k1 => q.rt v d G1 M1 H1 s1 o1 i1 k1)
theorem asx_asg (h : AEX X e ds M (fun d M1 => AG X a d ds M1 Z.nx) kx) (hs : swapsWithSole [a] e pos.line X.env = pure false := by rfl) (hw : swappedStores [a] e X.env = pure none := by rfl) (h1 : (assignEach [a] X.env).map (·.2) = [assign a X.env] := by rfl) : ASX X (.Assign [a] e pos) ds M Z kx := fun σ G H D he ho hx q =>
  ofS (ps_asg semE semG hs hw h1) (h σ G H _ he ho hx fun v d G1 M1 H1 s1 o1 i1 k1 => k1 v σ G1 H1 _ (he.mono s1) o1 i1 fun σ2 ds2 G2 M2 H2 s2 e2 o2 k2 => q.nx σ2 ds2 G2 M2 H2 (s1.trans s2) e2 o2 k2)
theorem asx_set (i : Nat) {pos'} (hN : X.N.Nodup) (h : AEX X e ds M (fun d M1 => Z.nx (ds.set i (some d)) M1) kx) (hi : X.N[i]? = some x := by rfl) (hx : Loc X.env.scope x := by first | exact Or.inl rfl | exact Or.inr rfl)
    (hs : swapsWith e (some (.Name x pos')) pos.line X.env = pure false := by rfl) (hf : X.fn x = true ∨ X.env.scope.names.lookup x = some .local := by first | exact .inl rfl | exact .inr rfl | assumption) : ASX X (.Assign [.Name x pos'] e pos) ds M Z kx := fun σ G H D he ho xx q =>
  ofS (ps_set hN hi hx semE hs hf) (h σ G H _ he ho xx fun v d G1 M1 H1 s1 o1 i1 k1 => q.nx _ _ G1 M1 H1 s1 ((he.mono s1).set i1 i) o1 k1)
theorem asx_setT {N : List Str} {i : Nat} {pos' : Pos} (hl : X.N = N) [ix : IxOf N x i] (hN : N.Nodup) (h : AEX X e ds M (fun d M1 => ASsX X sts (ds.set i (some d)) M1 Z kx) kx) (hx : Loc X.env.scope x := by first | exact Or.inl rfl | exact Or.inr rfl)
    (hs : swapsWith e (some (.Name x pos')) pos.line X.env = pure false := by rfl) (hf : X.fn x = true ∨ X.env.scope.names.lookup x = some .local := by first | exact .inl rfl | exact .inr rfl) : ASsX X (.Assign [.Name x pos'] e pos :: sts) ds M Z kx :=
  asx_cons (asx_set i (by rw [hl]; exact hN) h (by rw [hl]; exact ix.at_) hx hs hf)
theorem asx_if (h : AT X c ds M fun r M1 => (r = true → ASsX X body ds M1 Z kx) ∧ (r = false → ASsX X els ds M1 Z kx)) : ASX X (.If c body els pos) ds M Z kx := fun σ G H D he ho hx q =>
  ofS (ps_if semT semSs semSs) (h σ G H _ he ho fun r G1 M1 H1 s1 o1 k1 => by
    cases r with
    | true => exact iteT (k1.1 rfl σ G1 H1 D (he.mono s1) o1 (hx.mono s1) (q.mono s1))
    | false => exact iteF (k1.2 rfl σ G1 H1 D (he.mono s1) o1 (hx.mono s1) (q.mono s1)))
theorem asx_ifP (R : Bool) (h : AT X c ds M fun r M1 => r = R ∧ M1 = M) (h1 : R = true → ASsX X body ds M Z kx) (h2 : R = false → ASsX X els ds M Z kx) : ASX X (.If c body els pos) ds M Z kx :=
  asx_if (h.imp fun r M1 ⟨e1, e2⟩ => by subst e1 e2; exact ⟨h1, h2⟩)
theorem asx_for {kp : MS → Prop} {W : Nat → DS → MS → Prop} (hp : PassesOwn (model X.prog X.w) X.A X.env X.xe) (hc : X.calm = true)
    (h : AI X tg iter ds M kp fun xs M1 => W 0 ds M1 ∧ (∀ i d ds' M', xs[i]? = some d → W i ds' M' → AG X tg d ds' M' fun ds2 M2 => ASsX X body ds2 M2 { Z with nx := W (i + 1), ct := W (i + 1), bk := Z.nx } kx) ∧ (∀ ds' M', W xs.length ds' M' → Z.nx ds' M'))
    (hk : ∀ i ds M, W i ds M → kp M := by intros; trivial) (hs : ∀ x, foldedSetIterable iter X.env x = pure x := by intro _; rfl) : ASX X (.For tg iter body [] pos) ds M Z kx := fun σ G H D he ho hx q =>
  ofS (ps_for hp hc semI semG semSs hs) (h σ G H _ he ho fun J xs G1 M1 H1 s1 o1 i1 k1 => by
    obtain ⟨w0, step, done⟩ := k1
    obtain ⟨Gd, Y, wk, hG, hY⟩ := i1.ex
    have q1 := q.mono s1
    have x1 := hx.mono s1
    refine for_it wk (fun i σ' H' => ∃ ds' G' M', Same G1 G' ∧ EnvOk X.K G' σ' ds' ∧ Ok X.K G' M' H' ∧ W i ds' M') ⟨ds, G1, M1, Same.refl _, he.mono s1, o1, w0⟩ (fun i σ' H' hi ⟨ds', G', M', s', e', o', w'⟩ => hG G' M' H' s' o' (hk _ _ _ w')) (fun i x σ' H' H2 hi ⟨ds', G', M', s', e', o', w'⟩ y => ?_) (fun σ' H' ⟨ds', G', M', s', e', o', w'⟩ => ?_)
    · obtain ⟨G2, d, s2, o2, hx2, i2⟩ := hY i H' x H2 hi y G' M' s' o' (hk _ _ _ w')
      refine step i d ds' M' hx2 w' x σ' G2 H2 _ (e'.mono s2) o2 i2 fun σ3 ds3 G3 M3 H3 s3 e3 o3 k3 => ?_
      have s13 := s'.trans (s2.trans s3)
      refine k3 σ3 G3 H3 _ e3 o3 (x1.mono s13) ⟨fun σ4 ds4 G4 M4 H4 s4 e4 o4 w4 => ?_, fun v d G4 M4 H4 s4 o4 i4 r4 => ?_, fun σ4 ds4 G4 M4 H4 s4 e4 o4 b4 => ?_, fun σ4 ds4 G4 M4 H4 s4 e4 o4 w4 => ?_⟩
      · exact ⟨ds4, G4, M4, s13.trans s4, e4, o4, w4⟩
      · exact q1.rt v d G4 M4 H4 (s13.trans s4) o4 i4 r4
      · exact q1.nx σ4 ds4 G4 M4 H4 (s13.trans s4) e4 o4 b4
      · exact ⟨ds4, G4, M4, s13.trans s4, e4, o4, w4⟩
    · exact q1.nx σ' ds' G' M' H' s' e' o' (done ds' M' w'))
/-! ### calls -/
theorem aex_call (F : DefX X.prog X.w X.K X.mg X.base x j S) (hr : Room j X.A) (h : AA X (e :: es) ds M fun xs M1 => S xs M1 k kx) (hg : Gl X x := by rfl)
    (hdb : (x == ("__debug__" : Str)) = false := by decide) (hs : starEach (e :: es) X.env = (false, eval e X.env) :: starEach es X.env := by rfl) (hpl : (backTo pos (starEach es X.env)).any (·.1) = false := by rfl) :
    AEX X (.Call (.Name x p) (e :: es) [] pos) ds M k kx := by
  obtain ⟨f, fd, ps, F, hm, hk, hb⟩ := F.ex
  intro σ G H Q he ho hx kk
  refine ofE (pe_callS (E := WE (XW X)) F hr hg hm hk hb (fun σ => passAt takesXW σ) semA hdb hs hpl) (h σ G H _ he ho fun vs xs G1 M1 H1 s1 o1 i1 k1 => ?_)
  exact ⟨G1, M1, xs, k, kx, o1, i1, k1, fun v d G2 M' H2 s2 o2 i2 q => kk v d G2 M' H2 (s1.trans s2) o2 i2 q, fun C dd w d G2 M' H2 s2 o2 z1 z2 z3 => hx C dd w d σ G2 M' H2 (s1.trans s2) o2 z1 z2 z3⟩
theorem aex_callK {ks : List Str} {g : {α : Type} → List α → List α} (F : DefXK X.prog X.w X.K X.mg X.base x ks g j S) (hr : Room j X.A) (h : AK X kws ds M fun zs M1 => S (g zs) M1 k kx) (hgr : ∀ {K : PySem.W.Frag} {G : Hp} {vs : List V} {zs : List DV}, IsAll K G vs zs → IsAll K G (g vs) (g zs)) (hg : Gl X x := by rfl)
    (hall : (backToKw pos (keywordEach kws X.env)).all (·.1.isSome) = true := by rfl) (hks : (backToKw pos (keywordEach kws X.env)).filterMap (·.1) = ks := by rfl)
    (hdb : (x == ("__debug__" : Str)) = false := by decide) (hpl : ((backTo pos (starEach [] X.env)).any (·.1) || (backToKw pos (keywordEach kws X.env)).any (·.1.isNone)) = false := by rfl) :
    AEX X (.Call (.Name x p) [] kws pos) ds M k kx := by
  obtain ⟨f, fd, ps, F, hm, hk, hb⟩ := F.ex
  refine fun σ G H Q he ho hx kk => ⟨fun pins s I => ?_⟩
  refine wpAny_Call_Name_kw (ld_glob I hg hm ?_ hdb)
  refine PySem.W.callWith_KW0 (h₀ := X.base) I.ok.mod.kin hk hall ?_ hpl
  refine thn (semKw.run pos pins s σ H (fun zs H1 => spX X.K S (g zs) H1 Q (WE (XW X) σ)) I (h σ G H _ he ho fun vs xs G1 M1 H1 s1 o1 i1 k1 => ⟨G1, M1, g xs, k, kx, o1, hgr i1, k1, fun v d G2 M' H2 s2 o2 i2 q => kk v d G2 M' H2 (s1.trans s2) o2 i2 q,
    fun C dd w d G2 M' H2 s2 o2 z1 z2 z3 => hx C dd w d σ G2 M' H2 (s1.trans s2) o2 z1 z2 z3⟩)) fun ws s2 ⟨zs, H2, I2, rz, q2⟩ => ⟨I2.kIn, ?_⟩
  rw [hks]
  have r2 := hb.rel (vs := []) .nil rz
  have hl : ([] ++ g ws).length = ps.length := by rw [← r2.length]; exact F.len _ _ _ _ q2
  refine wpAny_call (codeAny_mono (F.run X.A X.stack s2 H2 ⟨[], ks.zip ws⟩ ([] ++ g ws) ([] ++ g zs) Q (WE (XW X) σ) hr I2.env0 (hb.to s2 [] ws I2.kIn hl) r2 q2) fun r s' hq => ?_)
  match r, hq with
  | .error e, hq => exact passAt takesXW σ pins H2 s2 e s' I2 hq
  | .ok (.ret u), hq => exact I2.after hq
/-! ### a def's body -/
abbrev cxX (P : Program) (w : World) (K : PySem.W.Frag) (mg : Str → Option Value) (base : Heap) (N : List Str) (qual : Str) (scope : Scope) (f : Addr) (cd : Value) (A : Around) (outer : List Env) (s : Shared) (H : Hp) (E : XK) : Cx := cxOf (L2.CX P w) P w K mg base N qual scope f cd A outer s H E
theorem env_start {K : PySem.W.Frag} {G : Hp} {N : List Str} {vs : List V} {ds : List DV} (hi : IsAll K G vs ds) : EnvOk K G (L2.start N vs) (ds.map some ++ List.replicate (N.length - ds.length) none) := by
  unfold L2.start
  rw [hi.len]
  have h1 : ∀ {vs : List V} {ds : List DV}, IsAll K G vs ds → EnvOk K G (vs.map some) (ds.map some) := by
    intro vs ds hi
    induction hi with
    | nil => exact .nil
    | cons h t ih => exact .cons (fun y hy => by cases hy; exact ⟨_, rfl, h⟩) ih
  have h2 : ∀ n, EnvOk K G (List.replicate n none) (List.replicate n none) := by
    intro n
    induction n with
    | zero => exact .nil
    | succ n ih => exact .cons (fun y hy => by cases hy) ih
  have h3 : ∀ {a b : L2.St} {c d : DS}, EnvOk K G a c → EnvOk K G b d → EnvOk K G (a ++ b) (c ++ d) := by
    intro a b c d h g
    induction h with
    | nil => exact g
    | cons q t ih => exact .cons q ih
  exact h3 (h1 hi) (h2 _)
theorem fn_okX {P : Program} {w : World} {K : PySem.W.Frag} {mg : Str → Option Value} {base : Heap} {x qual : Str} {st : Stmt} {f : Addr} {fd : FuncData} {N ps : List Str} {k : Nat} {S : DSX} (F : Fun K x qual st f fd) (hN : FnScope N ps (defScope st))
    (len : ∀ ds M k kx, S ds M k kx → ds.length = ps.length)
    (body : ∀ (cdv : Value) (A : Around) (outer : List Env) (s : Shared) (H : Hp) (E : XK) (ds : List DV) (M : MS) (kk : DV → MS → Prop) (kx : XD), (cxX P w K mg base N qual (defScope st) f cdv A outer s H E).N = N → N.Nodup → Room k (cxX P w K mg base N qual (defScope st) f cdv A outer s H E).A →
      PassesOwn (model P w) (cxX P w K mg base N qual (defScope st) f cdv A outer s H E).A (cxX P w K mg base N qual (defScope st) f cdv A outer s H E).env (cxX P w K mg base N qual (defScope st) f cdv A outer s H E).xe → S ds M kk kx →
      ASsX (cxX P w K mg base N qual (defScope st) f cdv A outer s H E) (defBody st) (ds.map some ++ List.replicate (N.length - ds.length) none) M ⟨fun _ M' => kk (.dat .none) M', kk, fun _ _ => False, fun _ _ => False⟩ kx) : FnOk P w K mg base (L2.CX P w) (k + 1) f fd ps (spX K S) := by
  refine F.okX hN (fun vs H Q E h => ?_) (fun cdv A outer s H vs Q E hr h => ?_)
  · obtain ⟨G, M, ds, kk, kx, ho, hi, hS, q⟩ := h
    rw [hi.len]
    exact len _ _ _ _ hS
  · obtain ⟨G, M, ds, kk, kx, ho, hi, hS, q0, qx⟩ := h
    refine ⟨_, semSs, ?_⟩
    refine body cdv A outer s H E ds M kk kx rfl hN.nd hr (passes_of rfl) hS (L2.start N vs) G H _ (env_start hi) ho (fun C dd w d σ G2 M2 H2 s2 o2 z1 z2 z3 => ?_) ⟨fun σ ds' G' M' H' s e o q => ?_, fun v d G' M' H' s o i q => ?_, fun _ _ _ _ _ _ _ _ q => q.elim, fun _ _ _ _ _ _ _ _ q => q.elim⟩
    · exact XW.of (W := fun cls d _ H => E cls d H) (takes_of rfl rfl rfl rfl) (qx C dd w d G2 M2 H2 s2 o2 z1 z2 z3)
    · exact q0 .non _ G' M' H' s o (isd .non) q
    · exact q0 v d G' M' H' s o i q
theorem defx_ok {P : Program} {w : World} {K : PySem.W.Frag} {mg : Str → Option Value} {base : Heap} {x qual : Str} {st : Stmt} {f : Addr} {fd : FuncData} {N ps : List Str} {k : Nat} {S : DSX} (F : Fun K x qual st f fd) (hm : mg x = some (.ref f)) (hb : Binds K fd ps []) (hN : FnScope N ps (defScope st))
    (len : ∀ ds M k kx, S ds M k kx → ds.length = ps.length)
    (body : ∀ (cdv : Value) (A : Around) (outer : List Env) (s : Shared) (H : Hp) (E : XK) (ds : List DV) (M : MS) (kk : DV → MS → Prop) (kx : XD), (cxX P w K mg base N qual (defScope st) f cdv A outer s H E).N = N → N.Nodup → Room k (cxX P w K mg base N qual (defScope st) f cdv A outer s H E).A →
      PassesOwn (model P w) (cxX P w K mg base N qual (defScope st) f cdv A outer s H E).A (cxX P w K mg base N qual (defScope st) f cdv A outer s H E).env (cxX P w K mg base N qual (defScope st) f cdv A outer s H E).xe → S ds M kk kx →
      ASsX (cxX P w K mg base N qual (defScope st) f cdv A outer s H E) (defBody st) (ds.map some ++ List.replicate (N.length - ds.length) none) M ⟨fun _ M' => kk (.dat .none) M', kk, fun _ _ => False, fun _ _ => False⟩ kx) : DefX P w K mg base x (k + 1) S :=
  ⟨f, fd, ps, fn_okX F hN len body, hm, F.kp, hb⟩
end
end A

set_option Elab.async false
set_option linter.all false
set_option maxRecDepth 100000
set_option maxHeartbeats 2000000
/-! own errors: raised, kept as values; tuples of any values -/
namespace A
open PySem PySem.Spec PyProof.Rows L2
/-- an own error class C under CS, whose instances are made by fI -/
structure ErrC (K : PySem.W.Frag) (C CS fI : Addr) : Prop where
  oex : OexC K C
  ini : PySem.W.findIn K (.ref C) "__init__" = some (some (.ref fI))
  tyI : PySem.W.typeIn K (.ref fI) = some (.type "function")
  noV : PySem.W.findIn K (.ref C) "value" = some none
  ga : PySem.W.findIn K (.ref C) "__getattribute__" = some (some (.builtin "BaseException.__getattribute__"))
  gg : PySem.W.findIn K (.ref C) "__getattr__" = some none
  hd : PySem.W.hasDictIn K C = true
  ha : PySem.W.findIn K (.ref C) "__class__" = some (some (.builtin "object.__class__"))
  hn : PySem.W.specialIn K (.builtin "object.__class__") "__get__" = some (some (.builtin "getset_descriptor.__get__"))
  tk : PySem.W.takesIn K (.builtin "object.__class__") = some true
  ob : PySem.W.mroIn K C (.type "object") = some true
  ca : PySem.W.exmOne K (.ref C) (.ref CS) = some true
def sp_init (K : PySem.W.Frag) : Sp := fun vs H Q _ => ∃ (a C : Addr) (y : V), vs = [.ref a, y] ∧ H a = some (exo a C none) ∧ OexC K C ∧ PySem.W.findIn K (.ref C) "value" = some none ∧ ∀ dx, H dx = none → dx ≠ a → Q .non (upd (upd H dx (exd dx [("value", y)])) a (exo a C (some dx)))
def ExR (C : Addr) (d : DV) (K : PySem.W.Frag) (G : Hp) (v : V) : Prop := ∃ a dd w, v = .ref a ∧ G a = some (kept (.ref C) (some dd) a) ∧ G dd = some (.xd [("value", w)]) ∧ Is K G w d
/-- an error that was caught: its class and its value -/
def exD (C : Addr) (d : DV) : DV := .sem (ExR C d) fun K G G' v s ⟨a, dd, w, e, h1, h2, h3⟩ => ⟨a, dd, w, e, s _ _ h1, s _ _ h2, h3.mono s⟩
def TuR (ds : List DV) (K : PySem.W.Frag) (G : Hp) (v : V) : Prop := ∃ a vs, v = .ref a ∧ G a = some (.tup vs) ∧ IsAll K G vs ds
/-- a tuple of any values -/
def tuD (ds : List DV) : DV := .sem (TuR ds) fun K G G' v s ⟨a, vs, e, h1, h2⟩ => ⟨a, vs, e, s _ _ h1, h2.mono s⟩
theorem exD_inv {K : PySem.W.Frag} {G : Hp} {v : V} {C : Addr} {d : DV} (h : Is K G v (exD C d)) : ∃ a dd w, v = .ref a ∧ G a = some (kept (.ref C) (some dd) a) ∧ G dd = some (.xd [("value", w)]) ∧ Is K G w d := h
theorem tuD_inv {K : PySem.W.Frag} {G : Hp} {v : V} {ds : List DV} (h : Is K G v (tuD ds)) : ∃ a vs, v = .ref a ∧ G a = some (.tup vs) ∧ IsAll K G vs ds := h
section
variable {X : Cx} {ds : DS} {M : MS} {k : DV → MS → Prop} {kt : Bool → MS → Prop} {kx : XD} {e a b : Expr} {es : List Expr} {pos pos' p apos : Pos} {x : Str} {Z : AEnds} {C CS fI : Addr} {fd : FuncData} {j n m : Nat}
theorem asx_raise (T : ErrC X.K C CS fI) (FI : FnOk X.prog X.w X.K X.mg X.base CX0 j fI fd ["self", "value"] (sp_init X.K)) (hb : Binds X.K fd ["self", "value"] []) (hr : Room (j + 1) X.A) (hc : X.calm = true) (hm : X.mg x = some (.ref C)) (h : AE X e ds M fun d M1 => kx C d M1) (hg : Gl X x := by rfl)
    (hdb : (x == ("__debug__" : Str)) = false := by decide) (hs : starEach [e] X.env = (false, eval e X.env) :: starEach [] X.env := by rfl) (hpl : (backTo pos (starEach [] X.env)).any (·.1) = false := by rfl) :
    ASX X (.Raise (some (.Call (.Name x p) [e] [] pos)) none pos') ds M Z kx := fun σ G H D he ho hx q => by
  have ha : AA X [e] ds M fun xs M1 => ∃ d, xs = [d] ∧ kx C d M1 := aa_cons (h.imp fun d M1 z => aa_nil ⟨d, rfl, z⟩) hs
  refine ofS (ps_raise hc takesXW (pmk_oex T.oex T.ini T.tyI FI hr hb .nil pass0 hg hm semA hdb hs hpl)) (ha σ G H _ he ho fun vs xs G1 M1 H1 s1 o1 i1 k1 => ?_)
  obtain ⟨d, rfl, z⟩ := k1
  obtain ⟨v, rfl, iv⟩ := is1 i1
  refine ⟨Nat.le_of_ble_eq_true rfl, fun r hr1 => ⟨r, C, v, rfl, upd_same, T.oex, T.noV, fun dx n ne => ⟨rfl, dx, _, upd_same, by rw [upd_ne ne, upd_same], ?_, ?_⟩⟩⟩
  · rw [upd_ne ne] at n; exact n
  · rw [upd_ne ne] at n
    have eH : upd (del (upd (upd (upd H1 r (exo r C none)) dx (exd dx [("value", v)])) r (exo r C (some dx))) r) dx (.xd [("value", v)]) = upd H1 dx (.xd [("value", v)]) := by
      funext c
      by_cases h1 : c = dx
      · rw [h1, upd_same, upd_same]
      · rw [upd_ne h1, upd_ne h1]
        by_cases h2 : c = r
        · rw [h2, del_same, hr1]
        · rw [del_ne h2, upd_ne h2, upd_ne h1, upd_ne h2]
    rw [eH]
    obtain ⟨o2, s2⟩ := o1.still n (.xd [("value", v)])
    exact hx C dx v d σ _ M1 _ (s1.trans s2) o2 upd_same (iv.mono s2) z
/-! ### an error that was caught -/
theorem kept_at {P : Program} {w : World} {H : Hp} {h : Heap} {a dx C : Addr} {fs : List (Str × V)} (ok : HOk P w H h) (e : H a = some (kept (.ref C) (some dx) a)) (ed : H dx = some (.xd fs)) :
    ∃ (o od : Obj) (mA : Str → Option Value), PySem.W.InstAt h a o C (some od) ∧ (∀ n, PySem.W.lookIn n od = some (mA n)) ∧ ∀ f, RelO (fs.lookup f) (mA f) := by
  have x : ObjOk P w H h a (kept (.ref C) (some dx) a) := ok a _ e
  obtain ⟨⟨o, f, h1, z, q⟩, _, _⟩ := x
  have y : ObjOk P w H h dx (.xd fs) := ok dx _ ed
  obtain ⟨mA, hns, hr⟩ := y
  obtain ⟨od, ho, hl⟩ := lookIn_ns hns
  exact ⟨o, od, mA, ⟨h1, z.1, by unfold PySem.W.notCls; rw [q] <;> rfl, by rw [z.2]; exact ho⟩, hl, hr⟩
/-- x.value -/
theorem ae_errV (h : AE X e ds M fun y M1 => ∃ C d, y = exD C d ∧ ErrC X.K C CS fI ∧ k d M1) (hb : attributeBase e "value" X.env (eval e X.env) = eval e X.env := by rfl) : AE X (.Attribute e "value" pos) ds M k := fun σ G H Q he ho kk => by
  refine ⟨fun pins s I => attr_of hb (thn ((h σ G H (fun v H1 => ∃ C d G1 M1, Same G G1 ∧ Ok X.K G1 M1 H1 ∧ Is X.K G1 v (exD C d) ∧ ErrC X.K C CS fI ∧ k d M1) he ho fun v y G1 M1 H1 s1 o1 i1 k1 => ?_).run pins s I) fun u s1 hh => ?_)⟩
  · obtain ⟨C, d, rfl, T, z⟩ := k1
    exact ⟨C, d, G1, M1, s1, o1, i1, T, z⟩
  · obtain ⟨v, H1, I1, rv, C, d, G1, M1, sm, o1, i1, T, z⟩ := hh
    obtain ⟨r, dd, w, rfl, e1, e2, i2⟩ := exD_inv i1
    obtain rfl : u = Value.ref r := rv
    obtain ⟨o, od, mA, J, hl, hr⟩ := kept_at I1.hok (o1.sub _ _ e1) (o1.sub _ _ e2)
    obtain ⟨u, hu, ru⟩ := RelO.some_of (v := w) (o := mA "value") (hr "value")
    exact HandSPX.exc_get I1.kIn J T.ga T.gg T.oex.exC (PySem.W.findObj_own T.hd T.noV rfl (by rw [hl, hu])) (handed_of ru) ⟨w, H1, I1.tok _, ru, kk w d G1 M1 H1 sm o1 i2 z⟩
/-- isinstance(x, an own class) of such an error -/
theorem call_isErr : CallR X (.builtin "isinstance") (fun xs H Q => ∃ (r C D dx fI CS : Addr) (fs : List (Str × V)) (c : Bool), xs = [.ref r, .ref D] ∧ H r = some (kept (.ref C) (some dx) r) ∧ H dx = some (.xd fs) ∧ ErrC X.K C CS fI ∧ PySem.W.kitOne X.K (.ref C) (.ref D) = some c ∧ Q (.bl c) H) := by
  intro pins s σ H xs us Q I rel h
  obtain ⟨r, C, D, dx, fI, CS, fs, c, rfl, e1, e2, T, hk, q⟩ := h
  obtain ⟨u1, u2, rfl, r1, r2⟩ := vals2 rel
  cases (show u1 = Value.ref r from r1)
  cases (show u2 = Value.ref D from r2)
  obtain ⟨o, od, mA, J, _, _⟩ := kept_at I.hok e1 e2
  have hcl : (PySem.W.clsIn X.K C).isSome = true := by
    obtain ⟨cd, hc, _⟩ := PySem.W.any_some T.hd
    rw [hc]; rfl
  exact PySem.W.kia_one (PySem.W.kitx_exc hcl T.ga T.gg T.oex.exC T.ha T.hn T.tk T.ob) I.kIn J hk (fun z => nomatch z) fun tk => ⟨.bl c, H, I.kept (t' := tk) fun _ _ z => z, rfl, q⟩
theorem ae_isErr {D : Addr} (hm : X.mg "isinstance" = none) (h : AA X [a, b] ds M fun xs M1 => ∃ C d c, xs = [exD C d, .raw (.ref D)] ∧ ErrC X.K C CS fI ∧ PySem.W.kitOne X.K (.ref C) (.ref D) = some c ∧ k (.dat (.bool c)) M1) (hg : Gl X "isinstance" := by rfl)
    (hs : starEach [a, b] X.env = (false, eval a X.env) :: starEach [b] X.env := by rfl) (hpl : (backTo pos (starEach [b] X.env)).any (·.1) = false := by rfl) : AE X (.Call (.Name "isinstance" p) [a, b] [] pos) ds M k :=
  ae_callB call_isErr hm (by decide +kernel) (h.imp fun xs M1 ⟨C, d, c, e, T, hk, z⟩ => by
    subst e
    intro vs G H Q ho iv kk
    obtain ⟨v, w, rfl, h3, h4⟩ := is2 iv
    obtain ⟨r, dd, y, rfl, h5, h6, _⟩ := exD_inv h3
    have e : w = .ref D := h4
    subst e
    exact ⟨r, C, D, dd, fI, CS, _, c, rfl, ho.sub _ _ h5, ho.sub _ _ h6, T, hk, kk _ _ G M1 H (Same.refl _) ho (isd (Dp.bl _)) z⟩) hg (by decide) (by decide) hs hpl
/-- isinstance(data, an own class) -/
theorem ae_isDO {D : Addr} (hm : X.mg "isinstance" = none) (h : AA X [a, b] ds M fun xs M1 => ∃ d t c, xs = [d, .raw (.ref D)] ∧ TyD M1 d t ∧ PySem.W.kitOne X.K (.type t) (.ref D) = some c ∧ k (.dat (.bool c)) M1) (hg : Gl X "isinstance" := by rfl)
    (hs : starEach [a, b] X.env = (false, eval a X.env) :: starEach [b] X.env := by rfl) (hpl : (backTo pos (starEach [b] X.env)).any (·.1) = false := by rfl) : AE X (.Call (.Name "isinstance" p) [a, b] [] pos) ds M k :=
  ae_callB call_isi hm (by decide +kernel) (h.imp fun xs M1 ⟨d, t, c, e, h1, h2, q⟩ => by
    subst e
    intro vs G H Q ho iv kk
    obtain ⟨v, w, rfl, h3, h4⟩ := is2 iv
    have e : w = .ref D := h4
    subst e
    exact ⟨v, .ref D, .type t, .ref D, c, rfl, .own D, h1.of ho h3, h2, kk _ _ G M1 H (Same.refl _) ho (isd (Dp.bl _)) q⟩) hg (by decide) (by decide) hs hpl
/-- is None, of any value -/
def NoD (d : DV) (c : Bool) : Prop := ∀ K G v, Is K G v d → decide (v = V.non) = c
theorem noD_dat (y : PyData) : NoD (.dat y) (isNo y) := fun K G v h => by
  have h' : Dp K G v y := h
  cases h' <;> rfl
theorem noD_ex (C : Addr) (d : DV) : NoD (exD C d) false := fun K G v h => by
  obtain ⟨a, dd, w, rfl, _⟩ := exD_inv h; rfl
theorem noD_tu (es : List DV) : NoD (tuD es) false := fun K G v h => by
  obtain ⟨a, vs, rfl, _⟩ := tuD_inv h; rfl
theorem noD_obj (C : Addr) (fs : List (Str × PyData)) : NoD (.obj C fs) false := fun K G v h => by
  obtain ⟨a, dx, vs, rfl, _⟩ := h; rfl
theorem noD_ref (r : Addr) : NoD (.raw (.ref r)) false := fun K G v h => by
  have e : v = .ref r := h
  subst e; rfl
theorem at_isNv (h : AE X a ds M fun d M1 => ∃ c, NoD d c ∧ kt c M1) {i pos'} : AT X (.Compare a [.Is] [.Constant .none i pos'] pos) ds M kt := fun σ G H Q he ho kk =>
  ofT (pt_cmp (pc_isN semE) rfl) (h σ G H _ he ho fun v d G1 M1 H1 s1 o1 i1 k1 => by
    obtain ⟨c, hn, q1⟩ := k1
    have e := hn _ _ _ i1
    refine ⟨c, ?_, kk _ G1 M1 H1 s1 o1 q1⟩
    rw [← e])
theorem ae_isNv (h : AE X a ds M fun d M1 => ∃ c, NoD d c ∧ k (.dat (.bool c)) M1) {i pos'} : AE X (.Compare a [.Is] [.Constant .none i pos'] pos) ds M k := fun σ G H Q he ho kk =>
  ofE (pe_cmp (pc_isN semE) rfl) (h σ G H _ he ho fun v d G1 M1 H1 s1 o1 i1 k1 => by
    obtain ⟨c, hn, q1⟩ := k1
    have e := hn _ _ _ i1
    rw [show decide (v = V.non) = c from e]
    exact kk _ _ G1 M1 H1 s1 o1 (isd (.bl c)) q1)
/-! ### tuples of any values -/
theorem ae_tuT {i} (h : AA X es ds M fun vs M1 => vs.length ≤ 1000 ∧ k (tuD vs) M1) : AE X (.Tuple es i pos) ds M k := fun σ G H Q he ho kk =>
  ofE (pe_tup semA) (h σ G H _ he ho fun vs d G1 M1 H1 s1 o1 i1 k1 => by
    obtain ⟨hl, q⟩ := k1
    refine ⟨sz1000 (by rw [i1.len]; exact hl), fun r hr => ?_⟩
    obtain ⟨o2, s2⟩ := o1.still hr (.tup vs)
    exact kk _ _ _ M1 _ (s1.trans s2) o2 (show Is X.K _ (.ref r) (tuD d) from ⟨r, vs, rfl, upd_same, i1.mono s2⟩) q)
theorem ae_ixTu (h : AE X a ds M fun x M1 => AE X b ds M1 fun y M2 => ∃ xs i d, x = tuD xs ∧ y = .dat (.int i) ∧ atI xs i = some d ∧ k d M2) (hs : PlainIx b := by exact fun _ _ => rfl) : AE X (.Subscript a b pos) ds M k := fun σ G H Q he hok kk =>
  ofE (pe_ix ix_tup semE semE hs) (h σ G H _ he hok fun v x G1 M1 H1 s1 o1 i1 k1 => k1 σ G1 H1 _ (he.mono s1) o1 fun w y G2 M2 H2 s2 o2 i2 k2 => by
    obtain ⟨xs, i, d, rfl, rfl, e, q⟩ := k2
    obtain ⟨r, ys, rfl, h1, h2⟩ := tuD_inv i1
    obtain ⟨z, e2, h3⟩ := atI_is h2 e
    exact ⟨r, ys, i, z, rfl, dp_int_inv i2, .inl (.inl (o2.sub _ _ (s2 _ _ h1))), e2, kk _ _ G2 M2 H2 (s1.trans s2) o2 (h3.mono s2) q⟩)
theorem ag_tuD {xs : List DV} {k : DS → MS → Prop} (hc : X.calm = true) (hl : xs.length = m) (h : AGs X es xs ds M k) (hn : (assignEach es X.env).length = m := by rfl) (hst : (assignEach es X.env).findIdx? (·.1) = none := by rfl) :
    AG X (.Tuple es n pos) (tuD xs) ds M k := fun v σ G H Q he ho iv kk => by
  obtain ⟨r, ys, rfl, h4, h5⟩ := tuD_inv iv
  exact ofG (pg_tup hc semGs hn hst) ⟨r, ys, rfl, .inl (.inl (ho.sub _ _ h4)), by rw [h5.len, hl], h ys σ G H Q he ho h5 kk⟩
theorem agc_tuD {vs : List Nat} {xs : List DV} {k : DS → Prop} (hc : X.calm = true) (hl : xs.length = m) (h : AGcs X es xs ds M vs k) (hn : (assignEach es X.env).length = m := by rfl) (hst : (assignEach es X.env).findIdx? (·.1) = none := by rfl) :
    AGc X (.Tuple es n pos) (tuD xs) ds M vs k := fun v σ G H Q he ho iv kk => by
  obtain ⟨r, ys, rfl, h4, h5⟩ := tuD_inv iv
  exact ofG (pg_tup hc semGs hn hst) ⟨r, ys, rfl, .inl (.inl (ho.sub _ _ h4)), by rw [h5.len, hl], h ys σ G H Q he ho h5 kk⟩
/-- zip(a list that may change, a tuple) -/
theorem walk_zipM {K : PySem.W.Frag} {a b : Addr} {ys : List V} {n l : Nat} (hn : n = min l ys.length) : Walk (ItzX false true K a b) n (fun H => (∃ xs, SqL K H a xs ∧ xs.length = l) ∧ SqT K H b ys)
    (fun i H v H' => ∃ T x y, v = .ref T ∧ H T = none ∧ H' = upd H T (.tup [x, y]) ∧ (∀ xs, SqL K H a xs → xs[i]? = some x) ∧ ys[i]? = some y) := by
  subst hn
  refine ⟨fun i H hi ⟨⟨xs, q1, q2⟩, q3⟩ => ?_, fun H ⟨⟨xs, q1, q2⟩, q3⟩ => ⟨xs, ys, q1, q3, by omega⟩, fun i H v H' _ q y => ?_⟩
  · have l : i < xs.length ∧ i < ys.length := by omega
    exact ⟨xs, ys, _, _, q1, q3, List.getElem?_eq_getElem l.1, List.getElem?_eq_getElem l.2⟩
  · obtain ⟨T, x, z, e1, e2, e3, e4, e5⟩ := y
    exact ⟨T, x, z, e1, e2, e3, e4, e5 ys q.2⟩
def zipD (xs ys : List DV) : List DV := (xs.zip ys).map fun p => tuD [p.1, p.2]
theorem ai_zipMT {KP : MS → Prop} {elts : List Expr} {kk : Nat} {tpos : Pos} {k : List DV → MS → Prop} (hm : X.mg "zip" = none) (h : AA X [a, b] ds M fun vs M1 => ∃ q xs ys, vs = [.raw (.ref q), .dat (.tuple ys)] ∧ M1 q = some (.lst xs) ∧ KP = (fun M3 => M3 q = some (.lst xs)) ∧ k (zipD xs (ys.map .dat)) M1) (hg : Gl X "zip" := by rfl)
    (hs : starEach [a, b] X.env = (false, eval a X.env) :: starEach [b] X.env := by rfl) (hpl : (backTo pos (starEach [b] X.env)).any (·.1) = false := by rfl) :
    AI X (.Tuple elts kk tpos) (.Call (.Name "zip" p) [a, b] [] pos) ds M KP k := fun σ G H R he ho kk =>
  ofI (pi_zipX false true hg hm semA hs hpl) (h σ G H _ he ho fun vs d G1 M1 H1 s1 o1 i1 k1 => by
    obtain ⟨q, xs, ys, rfl, hM, rfl, z⟩ := k1
    obtain ⟨v, w, rfl, h3, h4⟩ := is2 i1
    have e : v = .ref q := h3
    subst e
    obtain ⟨r', ws, rfl, h7, h8⟩ := dp_tup_inv h4
    obtain ⟨_, us, h5, h6⟩ := o1.chg _ _ hM
    refine ⟨q, r', us, ws, rfl, SqL.of h5, sqT_mono o1.same h7, kk _ _ G1 M1 H1 s1 o1 ⟨_, _, walk_zipM (l := xs.length) (by unfold zipD; rw [List.length_map, List.length_zip, List.length_map, ← dpAll_len h8]), fun G3 M3 H3 s3 o3 hm => ?_, fun i H3 x H4 hi y G3 M3 s3 o3 hm => ?_⟩ z⟩
    · obtain ⟨_, us3, h9, h10⟩ := o3.chg _ _ hm
      exact ⟨⟨us3, SqL.of h9, h10.len⟩, sqT_mono (s3.trans o3.same) h7⟩
    · obtain ⟨T, u, w, rfl, hT, rfl, e1, e2⟩ := y
      obtain ⟨_, us3, h9, h10⟩ := o3.chg _ _ hm
      obtain ⟨d1, f1, f2⟩ := h10.get' (e1 us3 (SqL.of h9))
      obtain ⟨d2, f3, f4⟩ := dpAll_get h8 e2
      obtain ⟨o4, s4⟩ := o3.still hT (.tup [u, w])
      refine ⟨_, tuD [d1, .dat d2], s4, o4, ?_, (show Is X.K _ (.ref T) (tuD [d1, .dat d2]) from ⟨T, [u, w], rfl, upd_same, .cons (f2.mono s4) (.cons (isd (dp_mono (s3.trans s4) f4)) .nil)⟩)⟩
      unfold zipD
      have hz : (xs.zip (ys.map DV.dat))[i]? = some (d1, .dat d2) := List.getElem?_zip_eq_some.mpr ⟨f1, by rw [List.getElem?_map, f3]; rfl⟩
      rw [List.getElem?_map, hz]; rfl)
end
end A

set_option Elab.async false
set_option linter.all false
set_option maxRecDepth 100000
set_option maxHeartbeats 2000000
/-! a lambda handed to a def that hears what it raises -/
namespace A
open PySem PySem.Spec PyProof.Rows L2 LamX
/-- the tables of code objects among what may change -/
def TabsM (T : List (Addr × Str)) (M : MS) : Prop := (∀ p ∈ T, M p.1 = some (.tab p.2)) ∧ ∀ a q, M a = some (.tab q) → (a, q) ∈ T
theorem TabsM.up {T : List (Addr × Str)} {M : MS} (h : TabsM T M) {p : Addr} {m : MO} (hp : M p = none ∨ ∃ m', M p = some m' ∧ ∀ q, m' ≠ .tab q) (hm : ∀ q, m ≠ .tab q) : TabsM T (upM M p m) := by
  have ne : ∀ r ∈ T, r.1 ≠ p := fun r hr e => by
    have y := h.1 r hr
    rw [e] at y
    rcases hp with z | ⟨m', z, zn⟩
    · rw [z] at y; cases y
    · rw [z] at y; exact zn _ (Option.some.inj y)
  refine ⟨fun r hr => by rw [upM_ne (ne r hr)]; exact h.1 r hr, fun a q e => ?_⟩
  by_cases ha : a = p
  · subst ha; rw [upM_same] at e; exact absurd (Option.some.inj e) (hm q)
  · rw [upM_ne ha] at e; exact h.2 a q e
theorem Ok.tabs {K : PySem.W.Frag} {G H : Hp} {M : MS} {T : List (Addr × Str)} (o : Ok K G M H) (h : TabsM T M) : Tabs T H := fun p hp => by
  obtain ⟨_, ps, h1, h2, h3⟩ := o.chg _ _ (h.1 p hp)
  exact ⟨ps, h1, h2, fun pos cv hc => (h3 pos cv hc).imp fun c z => ⟨z.1, o.sub _ _ z.2⟩⟩
/-- another heap that differs in the tables alone -/
theorem Ok.ext {K : PySem.W.Frag} {G H H1 : Hp} {M : MS} {T : List (Addr × Str)} (o : Ok K G M H) (h : TabsM T M) (eN : ExtN H H1) (t : Tabs T H1) : ∃ G1, Same G G1 ∧ Ok K G1 M H1 := by
  classical
  have st : ∀ a u, G a = some u → H1 a = some u := fun a u e => eN a u (o.sub a u e) fun ps z => o.tb a ps (by rw [e, z])
  refine ⟨fun a => if G a = none ∧ M a = none ∧ ∃ q, H1 a = some (CodeO a q) then H1 a else G a, fun a u e => ?_, fun a u e => ?_, fun a m e => ?_, fun a ps e => ?_⟩
  · show (if _ then H1 a else G a) = some u
    rw [if_neg (fun z => by rw [z.1] at e; cases e)]; exact e
  · have e' : (if G a = none ∧ M a = none ∧ ∃ q, H1 a = some (CodeO a q) then H1 a else G a) = some u := e
    split at e'
    · exact e'
    · exact st a u e'
  · obtain ⟨g0, z⟩ := o.chg a m e
    have s1 : Same G (fun a => if G a = none ∧ M a = none ∧ ∃ q, H1 a = some (CodeO a q) then H1 a else G a) := fun b u y => by
      show (if _ then H1 b else G b) = some u
      rw [if_neg (fun z => by rw [z.1] at y; cases y)]; exact y
    refine ⟨by show (if _ then H1 a else G a) = none; rw [if_neg (fun z => by rw [z.2.1] at e; cases e)]; exact g0, ?_⟩
    have same : ∀ u, H a = some u → (∀ ps, u ≠ .tbl ps) → H1 a = H a := fun u y n => by rw [eN a u y n, y]
    cases m with
    | tab q =>
      obtain ⟨ps, y1, y2, y3⟩ := t (a, q) (h.2 a q e)
      refine ⟨ps, y1, y2, fun pos cv hc => ?_⟩
      obtain ⟨c, rfl, hcq⟩ := y3 pos cv hc
      refine ⟨c, rfl, ?_⟩
      show (if _ then H1 c else G c) = _
      by_cases g : G c = none ∧ M c = none
      · rw [if_pos ⟨g.1, g.2, q, hcq⟩]; exact hcq
      · rw [if_neg (fun z => g ⟨z.1, z.2.1⟩)]
        cases hg : G c with
        | some u => rw [← hcq, st c u hg]
        | none =>
          exfalso
          cases hm : M c with
          | none => exact g ⟨hg, hm⟩
          | some m' =>
            obtain ⟨_, zz⟩ := o.chg c m' hm
            have cl : ∀ u, H c = some u → (∀ ps, u ≠ .tbl ps) → (∀ φ, u ≠ .ext φ) → False := fun u y n1 n2 => by
              have y1 := eN c u y n1
              rw [hcq] at y1
              exact n2 _ (Option.some.inj y1).symm
            cases m' with
            | tab q' =>
              obtain ⟨ps', y4, _⟩ := t (c, q') (h.2 c q' hm)
              have y4' : H1 c = some (.tbl ps') := y4
              rw [hcq] at y4'
              exact codeO_ne ps' (Option.some.inj y4')
            | lst xs => obtain ⟨vs, y, _⟩ := zz; exact cl _ y (fun _ z => by cases z) (fun _ z => by cases z)
            | dK kvs => obtain ⟨vs, y, _⟩ := zz; exact cl _ y (fun _ z => by cases z) (fun _ z => by cases z)
            | ins C fs => obtain ⟨dx, vs, y, _⟩ := zz; exact cl _ y (fun _ z => by cases z) (fun _ z => by cases z)
            | sem R hs hm' => obtain ⟨u, y, n1, n2⟩ := hs _ _ _ _ zz; exact cl u y n1 n2
    | lst xs => obtain ⟨vs, y, r⟩ := z; exact HasO.mono s1 (same _ y fun _ z => by cases z) (m := .lst xs) ⟨vs, y, r⟩
    | dK kvs => obtain ⟨vs, y, r⟩ := z; exact HasO.mono s1 (same _ y fun _ z => by cases z) (m := .dK kvs) ⟨vs, y, r⟩
    | ins C fs => obtain ⟨dx, vs, y, r⟩ := z; exact HasO.mono s1 (same _ y fun _ z => by cases z) (m := .ins C fs) ⟨dx, vs, y, r⟩
    | sem R hs hm' => obtain ⟨u, y, n1, n2⟩ := hs _ _ _ _ z; exact HasO.mono s1 (same u y n1) (m := .sem R hs hm') z
  · have e' : (if G a = none ∧ M a = none ∧ ∃ q, H1 a = some (CodeO a q) then H1 a else G a) = some (.tbl ps) := e
    split at e'
    · next z =>
      obtain ⟨q, z⟩ := z.2.2
      rw [z] at e'
      exact codeO_ne ps (Option.some.inj e')
    · exact o.tb a ps e'
/-- a def's body where its code object is known -/
theorem fn_okC {P : Program} {w : World} {K : PySem.W.Frag} {mg : Str → Option Value} {base : Heap} {x qual : Str} {st : Stmt} {f c : Addr} {fd : FuncData} {N ps : List Str} {k : Nat} {S : DS1} (F : Fun K x qual st f fd) (hcd : fd.code = .ref c) (hN : FnScope N ps (defScope st))
    (len : ∀ ds M k, S ds M k → ds.length = ps.length)
    (body : ∀ (A : Around) (outer : List Env) (s : Shared) (H : Hp) (E : XK) (ds : List DV) (M : MS) (kk : DV → MS → Prop), (cxD P w K mg base N qual (defScope st) f (.ref c) A outer s H E).N = N → N.Nodup → Room k (cxD P w K mg base N qual (defScope st) f (.ref c) A outer s H E).A → S ds M kk →
      ASs (cxD P w K mg base N qual (defScope st) f (.ref c) A outer s H E) (defBody st) (ds.map some ++ List.replicate (N.length - ds.length) none) M ⟨fun _ M' => kk (.dat .none) M', kk, fun _ _ => False, fun _ _ => False⟩) : FnOk P w K mg base CX0 (k + 1) f fd ps (spM K S) := by
  obtain ⟨oc, od, kV, doc, pm, an, cdv, ct, osl, rfl, lk, hcv⟩ := F.ex
  have e : cdv = .ref c := hcd
  subst e
  refine fn_of lk hcv hN (fun vs H Q E h => ?_) fun A outer s H vs Q E hr h => ?_
  · obtain ⟨G, M, ds, kk, ho, hi, hS, q⟩ := h
    rw [hi.len]
    exact len _ _ _ hS
  · obtain ⟨G, M, ds, kk, ho, hi, hS, q0⟩ := h
    refine ⟨_, semSs.nox, ?_⟩
    refine body A outer s H E ds M kk rfl hN.nd hr hS (L2.start N vs) G H _ (env_start hi) ho ⟨fun σ ds' G' M' H' s e o q => ?_, fun v d G' M' H' s o i q => ?_, fun _ _ _ _ _ _ _ _ q => q.elim, fun _ _ _ _ _ _ _ _ q => q.elim⟩
    · exact q0 .non _ G' M' H' s o (isd .non) q
    · exact q0 v d G' M' H' s o i q
/-! ### the lambda called in the try of the def that hears: what it lets out is told at the slots of that moment -/
section
variable {X : Cx} {pins : List (Addr × Obj)} {σ : L2.St} {H : Hp} {s : Shared} {CXg : CXT} {Eg : XK} {Ng : List Str} {qg a : Str} {sg scope : Scope} {g f c' : Addr} {cdg pm ctv : Value} {params : Arguments} {body : Expr} {k i : Nat} {pn : List (Addr × Obj)} {xe : Value → Shared → Prop} {W : WX} {tb : XK → TE} {p1 p2 : Pos}
abbrev hearCx (X : Cx) (CXg : CXT) (Eg : XK) (Ng : List Str) (qg : Str) (sg : Scope) (g : Addr) (cdg : Value) (s : Shared) (H : Hp) : Cx := cxOf CXg X.prog X.w X.K X.mg X.base Ng qg sg g cdg X.A X.stack s H Eg
theorem act_at (I : Inv X pins σ H s) (L : LamS X.env.scope scope) (there : s.heap.get? f = some (PySem.W.kla_obj "<lambda>" (X.env.qual ++ "<lambda>") params body scope (cloFrom X.env.cells scope.names []) pm c' ctv)) (new : H f = none) (nofr : f ∉ frs X.stack)
    (noargs : bindArgs (PySem.W.kla_fn "<lambda>" (X.env.qual ++ "<lambda>") params body scope (cloFrom X.env.cells scope.names []) pm (.ref c') ctv) ⟨[], []⟩ = pure [])
    (tk : Takes ((hearCx X CXg Eg Ng qg sg g cdg s H).tr pn xe) W) (room : Room (k + 1) (X.A.deeper (envOfC qg sg s.heap.objs.size g cdg)))
    (walk : ∀ (E : XK) (A : Around) (outer : List Env) (t : Shared) (H1 : Hp), Room k (A.deeper (lamEnv X scope t.heap.objs.size f c')) → PE (lamCx X A outer t H1 E scope f c') body (tb E))
    (at_ : Ng[i]? = some a) (vis : Vis sg a) (d1 : (a == ("__debug__" : Str)) = false) (d2 : (a == ("__classdict__" : Str)) = false) :
    PE ((hearCx X CXg Eg Ng qg sg g cdg s H).tr pn xe) (.Call (.Name a p1) [] [] p2) (fun τ J Q => τ[i]? = some (some (.ref f)) ∧ J c' = some (CodeO c' (X.env.qual ++ "<lambda>")) ∧ tb (fun cls d J' => W cls d τ J') σ J Q) := by
  refine ⟨fun pz t0 τ J Q I0 ⟨slot, code, wish⟩ => wpAny_Call_Name_kw ?_⟩
  have nm := (pe_var (X := (hearCx X CXg Eg Ng qg sg g cdg s H).tr pn xe) (pos := p1) at_ vis d1 d2).run pz t0 τ J (fun v J1 => v = .ref f ∧ J1 = J) I0 ⟨_, slot, rfl, rfl⟩
  refine thn nm fun u t1 hu => ?_
  obtain ⟨v, J1, I1, rv, ev, eJ⟩ := hu
  subst ev eJ
  have eu : u = Value.ref f := rv
  subst eu
  have still := I1.base.keep f _ there new nofr (fun z => nomatch (show f ∈ ([] : List Addr) from z))
  obtain ⟨⟨oc, fs, tn, gc, dc, nc⟩, _, _⟩ := I1.hok c' _ code
  have ran : codeAny (model X.prog X.w) (X.A.deeper (envOfC qg sg s.heap.objs.size g cdg)) (.call (.ref f) ⟨[], []⟩) (CR (L2.CX X.prog X.w) (envOfC qg sg s.heap.objs.size g cdg :: X.stack) X.prog X.w J1 t1 Q fun cls d J' => W cls d τ J') t1 := by
    refine PySem.W.kla_callFunE room.depth still rfl L.co L.gen rfl ⟨c', oc, fs, tn, rfl, gc, dc, nc⟩ ?_
    rw [noargs]
    refine wpAny_pure (wpAny_newFunctionEnv (fun y hy => (L.own y hy).2) (fun y hy => nomatch hy) (fun h1 ns same => ⟨I1.nolimit.fresh _ same, PySem.W.kla_codeExpr ?_⟩) L.kind)
    have keeps : ∀ b o, t1.heap.get? b = some o → h1.get? b = some o := fun b o e => same.extBut b o (Nat.ne_of_lt (Heap.lt_size e)) (Heap.get?_push_of_some _ e)
    have begun := lam_start2 (f := f) (E := fun cls d J' => W cls d τ J') (tk := t1.toks + ([] : List (Str × Value)).length) (c' := c') I L I1.env0 room.hd I1.base ns keeps
    refine wpAny_mono ((walk (fun cls d J' => W cls d τ J') _ _ t1 J1 (room.deeper _)).run [] _ _ J1 Q begun wish) (fun v t3 q => ?_) fun e t3 q => q
    obtain ⟨y, J3, K3, ry, q3⟩ := q
    exact ⟨y, J3, K3.os, K3.bare, K3.base, K3.hok, ry, q3⟩
  refine PySem.W.callWith_F0 ⟨_, _, _, _, still⟩ (wpAny_call (codeAny_mono ran fun r t2 out => ?_))
  match r, out with
  | .error e, out => exact passAt tk τ pz J1 t1 e t2 I1 out
  | .ok (.ret u), out => exact I1.after out
end
/-- the def at g, given the lambda, gives TT of its reading -/
def GivesS (X : Cx) (Ng : List Str) (x : Str) (sg : Scope) (g : Addr) (cdg : Value) (bg : List Stmt) (a q : Str) (TT : (XK → Hp → VK → Prop) → Hp → VK → Prop) : Prop :=
  ∀ (f c' : Addr) (s : Shared) (H : Hp) (Q : VK) (tl : XK → Hp → VK → Prop),
    (∀ (W : WX) (pn : List (Addr × Obj)) (xe : Value → Shared → Prop) (p1 p2 : Pos), Takes ((hearCx X CX0 E0 Ng x sg g cdg s H).tr pn xe) W →
      PE ((hearCx X CX0 E0 Ng x sg g cdg s H).tr pn xe) (.Call (.Name a p1) [] [] p2) (fun τ J R => τ[0]? = some (some (.ref f)) ∧ J c' = some (CodeO c' q) ∧ tl (fun cls d J' => W cls d τ J') J R)) →
    H c' = some (CodeO c' q) → TT tl H Q → ∃ t, PSs (hearCx X CX0 E0 Ng x sg g cdg s H).nox bg t ∧ t { nx := fun _ J => Q .non J, rt := Q } (L2.start Ng [.ref f]) H
section
variable {X : Cx} {T : List (Addr × Str)} {TT : (XK → Hp → VK → Prop) → Hp → VK → Prop} {x a : Str} {g c P : Addr} {k : Nat} {pg : Arguments} {bg : List Stmt} {sg scope : Scope} {dV kV doc pm cdv ct oc : Value} {an od : Option Addr} {osl : Array (Option Value)} {Ng : List Str} {params : Arguments} {body : Expr} {t : XK → TE} {p lpos pos : Pos}
theorem pe_hear (hg : Gl X x) (hm : X.mg x = some (.ref g)) (hk : PySem.W.keepIn X.K (.ref g) = true) (stands : X.K.lookup g = some ⟨oc, od, .func (PySem.W.fnOf x x pg bg sg dV kV doc pm an cdv ct), osl⟩) (hcg : PySem.W.codeIn X.K cdv x = true)
    (hb : L2.Binds X.K (PySem.W.fnOf x x pg bg sg dV kV doc pm an cdv ct) [a] []) (Sg : FnScope Ng [a] sg) (at_ : Ng[0]? = some a) (vis : Vis sg a) (gives : GivesS X Ng x sg g cdv bg a (X.env.qual ++ "<lambda>") TT)
    (TB : TabB X.base X.mg c P) (hcode : X.env.code = .ref c) (inT : (P, X.env.qual ++ "<lambda>") ∈ T) (one : ∀ p ∈ T, p.1 = P → p.2 = X.env.qual ++ "<lambda>") (room : Room (k + 2) X.A) (L : LamS X.env.scope scope) (nodef : defaultsOf params X.env = ([], []))
    (noargs : ∀ (q : Str) (cl : List (Str × Addr)) (pm cv ctv : Value), bindArgs (PySem.W.kla_fn "<lambda>" q params body scope cl pm cv ctv) ⟨[], []⟩ = pure [])
    (walk : ∀ (E : XK) (A : Around) (outer : List Env) (t1 : Shared) (H1 : Hp) (f c' : Addr), Room k (A.deeper (lamEnv X scope t1.heap.objs.size f c')) → PE (lamCx X A outer t1 H1 E scope f c') body (t E))
    (hdb : (x == ("__debug__" : Str)) = false) (d1 : (a == ("__debug__" : Str)) = false) (d2 : (a == ("__classdict__" : Str)) = false) :
    PE X (.Call (.Name x p) [.Lambda params body scope lpos] [] pos) (tLam T TT t) := by
  refine ⟨fun pins s0 σ H0 Q I ⟨tabs, wish⟩ => wpAny_Call_Name_kw (ld_glob I hg hm (PySem.W.callWith_K (h₀ := X.base) I.ok.mod.kin hk ?_ rfl rfl) hdb)⟩
  show wpAny _ _ (spliced ((false, eval (.Lambda params body scope lpos) X.env) :: backTo pos (starEach [] X.env))) _ _ s0
  refine Calls.spliced_cons (lam_make2 I TB hcode inT one tabs nodef (L.has I.ok) fun f c' pm' ctv H1 s1 I1 eN T1 there new nofr code => Calls.spliced_nil ⟨I1.kIn, ?_⟩)
  have ran : codeAny (model X.prog X.w) X.A (.call (.ref g) ⟨[.ref f], []⟩) (CR CX0 X.stack X.prog X.w H1 s1 Q E0) s1 := by
    refine run_ofS (N := Ng) (ps := [a]) (us := [.ref f]) (vs := [.ref f]) stands hcg Sg room I1.env0 (hb s1 [.ref f] I1.kIn rfl) (.cons rfl .nil) rfl fun room1 => ?_
    obtain ⟨t1, h1, q1⟩ := gives f c' s1 H1 Q (fun E J R => t E σ J R) (fun W pn xe p1 p2 tk => act_at (i := 0) I1 L there new nofr (noargs _ _ _ _ _) tk room1 (fun E A outer t1 J r => walk E A outer t1 J f c' r) at_ vis d1 d2) code (wish H1 eN T1)
    exact ⟨t1, h1.nox, q1⟩
  refine wpAny_call (codeAny_mono ran fun r s2 out => ?_)
  match r, out with
  | .ok (.ret u), out => exact I1.after out
  | .error e, out => exact (show False from out).elim
end
/-- what comes back from the def that hears: the error and none, or none and the value -/
def THeard (K : PySem.W.Frag) (CS : Addr) : (XK → Hp → VK → Prop) → Hp → VK → Prop := fun tl H Q => ∀ p0, H p0 = none → ∀ (E : XK) (R : VK),
  (∀ cls d J, PySem.W.exmOne K cls (.ref CS) = some true → (∀ a, J a = none → ∀ p, upd J a (kept cls d a) p = none → Q (.ref p) (upd (upd J a (kept cls d a)) p (.tup [.ref a, .non]))) → E cls d J) →
  (∀ v J, (∀ p, J p = none → Q (.ref p) (upd J p (.tup [.non, v]))) → R v J) → tl E (upd H p0 (.tup [.non, .non])) R
structure Heard (P : Program) (w : World) (K : PySem.W.Frag) (mg : Str → Option Value) (base : Heap) (x : Str) (CS : Addr) : Prop where
  ex : ∃ (g : Addr) (pg : Arguments) (bg : List Stmt) (sg : Scope) (dV kV doc pm cdv ct oc : Value) (an od : Option Addr) (osl : Array (Option Value)) (Ng : List Str), mg x = some (.ref g) ∧ PySem.W.keepIn K (.ref g) = true ∧
    K.lookup g = some ⟨oc, od, .func (PySem.W.fnOf x x pg bg sg dV kV doc pm an cdv ct), osl⟩ ∧ PySem.W.codeIn K cdv x = true ∧ L2.Binds K (PySem.W.fnOf x x pg bg sg dV kV doc pm an cdv ct) ["call"] [] ∧ FnScope Ng ["call"] sg ∧ Ng[0]? = some ("call" : Str) ∧ Vis sg "call" ∧
    ∀ (X : Cx) (q : Str), X.prog = P → X.w = w → X.K = K → X.mg = mg → X.base = base → GivesS X Ng x sg g cdv bg "call" q (THeard K CS)
section
variable {X : Cx} {ds : DS} {M : MS} {kk : DV → MS → Prop} {T : List (Addr × Str)} {x : Str} {CS c P : Addr} {k : Nat} {params : Arguments} {body : Expr} {scope : Scope} {p lpos pos : Pos}
theorem ae_heard (HD : Heard X.prog X.w X.K X.mg X.base x CS) (TB : TabB X.base X.mg c P) (hcode : X.env.code = .ref c) (hmT : (P, X.env.qual ++ "<lambda>") ∈ T) (hu : ∀ p ∈ T, p.1 = P → p.2 = X.env.qual ++ "<lambda>") (hr : Room (k + 2) X.A) (TM : TabsM T M)
    (h : ∀ (A : Around) (outer : List Env) (s : Shared) (H : Hp) (E : XK) (f c' : Addr), Room k (A.deeper (lamEnv X scope s.heap.objs.size f c')) →
      AEX (lamCx X A outer s H E scope f c') body ds M (fun d M1 => kk (tuD [.dat .none, d]) M1) (fun C d M1 => PySem.W.exmOne X.K (.ref C) (.ref CS) = some true ∧ kk (tuD [exD C d, .dat .none]) M1))
    (hg : Gl X x := by rfl) (hls : lamSB X.env.scope scope = true := by rfl) (hdef : defaultsOf params X.env = ([], []) := by rfl)
    (hbind : ∀ (q : Str) (cl : List (Str × Addr)) (pm cv ctv : Value), bindArgs (PySem.W.kla_fn "<lambda>" q params body scope cl pm cv ctv) ⟨[], []⟩ = pure [] := by intros; rfl) (hdb : (x == ("__debug__" : Str)) = false := by decide) :
    AE X (.Call (.Name x p) [.Lambda params body scope lpos] [] pos) ds M kk := fun σ G H Q he ho q => by
  obtain ⟨g, pg, bg, sg, dV, kV, doc, pm, cdv, ct, oc, an, od, osl, Ng, h1, h2, h3, h4, h5, h6, h7, h8, h9⟩ := HD.ex
  refine ofE (pe_hear (t := fun E σ H Q => ∀ (A : Around) (outer : List Env) (s : Shared) (H0 : Hp) (f c' : Addr), Room k (A.deeper (lamEnv X scope s.heap.objs.size f c')) → SemE (lamCx X A outer s H0 E scope f c') body σ H Q) hg h1 h2 h3 h4 h5 h6 h7 h8 (h9 X _ rfl rfl rfl rfl rfl) TB hcode hmT hu hr (lamS_by hls) hdef hbind
    (fun E A outer s H0 f c' hr' => ⟨fun pins s' σ' H' Q' I z => (z A outer s H0 f c' hr').run pins s' I⟩) hdb (by decide) (by decide)) ⟨ho.tabs TM, fun H1 eN t => ?_⟩
  obtain ⟨G1, s1, o1⟩ := ho.ext TM eN t
  intro p0 hp0 E R hE hR A outer s H0 f c' hr'
  obtain ⟨o1, s01⟩ := o1.still hp0 (.tup [.non, .non])
  have s1 := s1.trans s01
  refine h A outer s H0 _ f c' hr' σ _ _ _ (he.mono s1) o1 (fun C dd w d σ' G2 M2 H2 s2 o2 e2 i2 z => ?_) fun v d G2 M2 H2 s2 o2 i2 z => hR _ _ fun r hr => ?_
  · refine XW.of (W := fun cls d _ H => E cls d H) (takes_of rfl rfl rfl rfl) (hE _ _ _ z.1 fun a ha r hr => ?_)
    obtain ⟨o3, s3⟩ := o2.still ha (kept (.ref C) (some dd) a) (fun _ y => by unfold kept at y; cases y)
    obtain ⟨o4, s4⟩ := o3.still hr (.tup [.ref a, .non])
    have s24 := s3.trans s4
    refine q (.ref r) _ _ _ _ (s1.trans (s2.trans s24)) o4 (show Is X.K _ (.ref r) (tuD [exD C d, .dat .none]) from ⟨r, _, rfl, upd_same, .cons ?_ (.cons (isd .non) .nil)⟩) z.2
    exact ⟨a, dd, w, rfl, s4 _ _ upd_same, s24 _ _ e2, i2.mono s24⟩
  · obtain ⟨o3, s3⟩ := o2.still hr (.tup [.non, v])
    exact q (.ref r) _ _ _ _ (s1.trans (s2.trans s3)) o3 (show Is X.K _ (.ref r) (tuD [.dat .none, d]) from ⟨r, _, rfl, upd_same, .cons (isd .non) (.cons (i2.mono s3) .nil)⟩) z
end
end A

set_option Elab.async false
set_option linter.all false
set_option maxRecDepth 100000
set_option maxHeartbeats 2000000
/-! comprehensions where what changes is told; tables beside objects that are added -/
namespace A
open PySem PySem.Spec PyProof.Rows L2
section
variable {X : Cx} {ds : DS} {M N : MS} {tg iter elt : Expr} {pos : Pos} {scope : Scope} {own : List (Str × Nat)} {T : List (Addr × Str)} {p q : Addr} {m m' : MO}
/-- the comprehension's value, item by item; nothing changes but the new list at D -/
theorem ae_lcQ {kp : MS → Prop} {k : DV → MS → Prop} (hc : X.calm = true) (hN : X.N.Nodup) (ok : BlkOk X.N X.env.scope scope own) (g : DV → DV)
    (h : AI X tg iter ds M kp fun xs M1 => (∀ D m, M1 D = none → kp (upM M1 D m)) ∧ xs.length < 100000 ∧ (∀ d D acc, d ∈ xs → M1 D = none → ∀ s H C cl fp, AGc (Bk X scope s H C cl fp) tg d (wipeD ds (own.map (·.2))) (upM M1 D (.lst acc)) (own.map (·.2)) fun ds2 => ∀ s H C cl fp,
        AE (Bk X scope s H C cl fp) elt ds2 (upM M1 D (.lst acc)) fun y M2 => y = g d ∧ M2 = upM M1 D (.lst acc)) ∧
      ∀ D, M1 D = none → k (.raw (.ref D)) (upM M1 D (.lst (xs.map g))))
    (hs : ∀ x, foldedSetIterable iter X.env x = pure x := by intro _; rfl) : AE X (.ListComp elt [⟨tg, iter, [], 0⟩] scope pos) ds M k :=
  ae_lc hc hN ok (h.imp fun xs M1 ⟨hk, hl, h1, h2⟩ D hD => ⟨fun i acc M' => acc = (xs.take i).map g ∧ M' = M1, fun i acc M' ⟨_, e⟩ => by rw [e]; exact hk D _ hD, ⟨rfl, rfl⟩, fun i d acc M' hx ⟨e1, e2⟩ => by
    subst e1 e2
    have hi : i < xs.length := (List.getElem?_eq_some_iff.mp hx).1
    refine ⟨by rw [List.length_map, List.length_take]; omega, fun s H C cl fp => ?_⟩
    intro v σ G H' Q he ho iv kk'
    refine h1 d D _ (List.mem_of_getElem? hx) hD s H C cl fp v σ G H' Q he ho iv fun σ' ds' w e2 k2 => kk' σ' ds' w e2 fun s H C cl fp => (k2 s H C cl fp).imp fun y M2 ⟨e3, e4⟩ => ⟨_, e4, ?_, rfl⟩
    rw [e3, List.take_add_one, hx, List.map_append]
    rfl, fun acc M' ⟨e1, e2⟩ => by
    subst e1 e2
    rw [List.take_length]
    exact h2 D hD⟩) hs
theorem TabsM.add (h : TabsM T M) (hle : Le M N) (hN : N p = some m) (hm : ∀ q, m ≠ .tab q := by intro _ z; cases z) : TabsM T (upM M p m) := h.up (by
  cases e : M p with
  | none => exact .inl rfl
  | some m' =>
    have y := hle _ _ e
    rw [hN] at y
    cases y
    exact .inr ⟨_, rfl, hm⟩) hm
theorem le_add (hle : Le M N) (hN : N p = some m) : Le (upM M p m) N := fun a n e => by
  by_cases h : a = p
  · subst h; rw [upM_same] at e; rw [← e]; exact hN
  · rw [upM_ne h] at e; exact hle _ _ e
theorem add_at (hle : Le M N) (hN : N p = some m) (hM : M q = some m') : upM M p m q = some m' := by
  by_cases h : q = p
  · subst h
    have y := hle _ _ hM
    rw [hN] at y
    rw [upM_same, y]
  · rw [upM_ne h]; exact hM
theorem TabsM.drop (h : TabsM T M) (hq : M q = some m) (hm : ∀ z, m ≠ .tab z := by intro _ z; cases z) : TabsM T (fun a => if a = q then none else M a) := by
  refine ⟨fun r hr => ?_, fun a z e => ?_⟩
  · have y := h.1 r hr
    have ne : r.1 ≠ q := fun e => by rw [e, hq] at y; exact hm _ (Option.some.inj y)
    show (if r.1 = q then none else M r.1) = _
    rw [if_neg ne]; exact y
  · have e' : (if a = q then none else M a) = some (.tab z) := e
    split at e'
    · cases e'
    · exact h.2 a z e'
end
end A

set_option Elab.async false
set_option linter.all false
set_option maxRecDepth 100000
set_option maxHeartbeats 2000000
/-! the end of a law that hands lambdas on -/
namespace A
open PySem PySem.Spec PyProof.Rows L2 LamX
/-- what a law promises at a script, the tables of its makers of lambdas among what may change -/
def S_lawT (TT : List (Addr × Str)) : DS1 := fun vs M k => ∃ ns : List Int, vs = [.dat (.list (ns.map .int))] ∧ TabsM TT M ∧ k (.dat (.bool true)) M
/-- the heap without tables stands still -/
def noTbl (H : Hp) : Hp := fun b => match H b with | some (.tbl _) => none | o => o
theorem noTbl_ok {K : PySem.W.Frag} {H : Hp} : Ok K (noTbl H) (fun _ => none) H := by
  refine ⟨fun b o e => ?_, fun b m e => (by cases e), fun b ps e => ?_⟩
  · unfold noTbl at e
    split at e
    · cases e
    · exact e
  · unfold noTbl at e
    split at e
    · cases e
    · next h => exact h ps e
theorem noTbl_seq {K : PySem.W.Frag} {H : Hp} {a : Addr} {xs : List V} (hS : SqL K H a xs) : SqL K (noTbl H) a xs := by
  rcases hS with (h | ⟨o, h⟩) | h
  · exact .inl (.inl (by unfold noTbl; rw [h]))
  · exact .inl (.inr ⟨o, by unfold noTbl; rw [h]⟩)
  · exact .inr h
theorem dpAll_is {K : PySem.W.Frag} {G : Hp} : ∀ ns : List Int, DpAll K G (ns.map V.int) (ns.map PyData.int)
  | [] => .nil
  | n :: r => .cons (.int n) (dpAll_is r)
theorem sp_lawT {K : PySem.W.Frag} {H : Hp} {a : Addr} {ns : List Int} {TT : List (Addr × Str)} (hu : ∀ p ∈ TT, ∀ r ∈ TT, p.1 = r.1 → p.2 = r.2) (hT : ∀ p ∈ TT, H p.1 = some (.tbl #[])) (hS : SqL K H a (ns.map V.int)) : spM K (S_lawT TT) [.ref a] H (fun v _ => v = .bl true) fun _ _ _ => False := by
  refine ⟨fun b => match H b with | some (.tbl _) => none | o => o, fun b => (TT.find? fun p => decide (p.1 = b)).map fun p => .tab p.2, [.dat (.list (ns.map .int))], fun d _ => d = .dat (.bool true), ⟨fun b o e => ?_, fun b m e => ?_, fun b ps e => ?_⟩, .cons (isd (.lst ?_ (dpAll_is ns))) .nil, ⟨ns, rfl, ⟨fun p hp => ?_, fun b q e => ?_⟩, rfl⟩, fun v d G2 M' H2 _ _ i e => by subst e; exact dp_bl_inv i⟩
  · split at e
    · cases e
    · exact e
  · obtain ⟨p, hf, rfl⟩ := Option.map_eq_some_iff.mp e
    have hp := List.mem_of_find?_eq_some hf
    have eb : p.1 = b := of_decide_eq_true (List.find?_some (p := fun p : Addr × Str => decide (p.1 = b)) hf)
    have hb := hT p hp
    rw [eb] at hb
    refine ⟨by rw [hb], #[], hb, trivial, fun pos cv hc => ?_⟩
    have z : codeAmong pos [] = some cv := hc
    simp [codeAmong] at z
  · split at e
    · cases e
    · next h => exact h ps e
  · rcases hS with (h | ⟨o, h⟩) | h
    · exact .inl (.inl (by dsimp only; rw [h]))
    · exact .inl (.inr ⟨o, by dsimp only; rw [h]⟩)
    · exact .inr h
  · cases hf : TT.find? fun r => decide (r.1 = p.1) with
    | none =>
      have y := List.find?_eq_none.mp hf p hp
      simp at y
    | some r =>
      have hr := List.mem_of_find?_eq_some hf
      have er : r.1 = p.1 := of_decide_eq_true (List.find?_some (p := fun r : Addr × Str => decide (r.1 = p.1)) hf)
      show (TT.find? fun r => decide (r.1 = p.1)).map (fun p => MO.tab p.2) = _
      rw [hf, Option.map_some, hu r hr p hp er]
  · obtain ⟨p, hf, e2⟩ := Option.map_eq_some_iff.mp e
    have hp := List.mem_of_find?_eq_some hf
    have eb : p.1 = b := of_decide_eq_true (List.find?_some (p := fun p : Addr × Str => decide (p.1 = b)) hf)
    cases e2
    rw [← eb]; exact hp
/-- one maker of lambdas: its name, its code object, its table -/
structure TabAt (q : Program) (K : PySem.W.Frag) (x : Str) (c P : Addr) : Prop where
  rec_ : ((recsOf q).find? fun e => e.name == x).isSome = true
  at_ : PySem.W.tabIn K x = some (c, P)
  free : K.lookup P = none
theorem walkT {l : PySem.W.OpenLaw} {k : Nat} {q : Program} {loose : List Str} {XP : (Str → Option Value) → Heap → Prop} {YP : World → Heap → Prop} {d : DefRec} {K : Params → PySem.W.Frag} (hn : l.most = some 63) (hdf : d.params.defaults = []) (hr : Room k callerA)
    (hY : ∀ (w : World) (h : Heap), YP w h → (K w.params).In h)
    (F : ∀ (w : World) (mg : Str → Option Value) (fa : Addr) (h : Heap), (K w.params).In h → h.Ns mainGlobals mg → mg d.name = some (.ref fa) →
      ∃ (fd : FuncData) (cs : List (Str × Addr × Addr)) (TT : List (Addr × Str)), (∀ p ∈ cs, TabAt q (K w.params) p.1 p.2.1 p.2.2) ∧ (∀ p ∈ TT, p.1 ∈ cs.map (·.2.2)) ∧ (∀ p ∈ TT, ∀ r ∈ TT, p.1 = r.1 → p.2 = r.2) ∧ (∀ (s : Shared) (u : Value), BindsTo s fd ⟨[u], []⟩ [("script", u)]) ∧
        ∀ base : Heap, (K w.params).In base → base.Ns mainGlobals mg → (∀ p ∈ cs, TabB base mg p.2.1 p.2.2) → FnOk l.prog w (K w.params) mg base CX0 k fa fd ["script"] (spM (K w.params) (S_lawT TT))) :
    PySem.W.WalkO q loose XP YP l.row.toRowW d [] (fun f vs => PySem.call f vs) := by
  refine Att.attach_callB hn hdf fun w s₀ s₁ mg mb fa o pm cd doc a vs ns G Y ho hd hcd hmg hobj hints hlen hbits hg => ?_
  have KX := hY w _ Y
  obtain ⟨fd, cs, TT, hcs, hTT, hu, hb, hF⟩ := F w mg fa _ KX G.T.g hmg
  have tab : ∀ p ∈ cs, PySem.W.CodeHd s₁.heap p.2.1 p.2.2 ∧ s₁.heap.get? p.2.2 = some (PySem.W.tabObj #[]) := fun p hp => by
    obtain ⟨h1, h2, _⟩ := hcs p hp
    obtain ⟨dx, hx⟩ := Option.isSome_iff_exists.mp h1
    exact PySem.W.tab_of G.T KX hx h2
  have back : ∀ p ∈ cs.map (·.2), ∃ r ∈ cs, r.2 = p := fun p hp => by
    obtain ⟨r, h1, h2⟩ := List.mem_map.mp hp
    exact ⟨r, h1, h2⟩
  refine law_callTs (CX := CX0) (cs := cs.map (·.2)) KX G.T.g G.T.b G.T.builtins G.T.nolimit hg (fun p hp => ?_) (fun p hp => ?_) (fun p hp => ?_) G.T.bmain hobj hints (Nat.le_trans hlen (by decide)) hr (fun base h1 h2 h3 => hF base h1 h2 fun p hp => h3 p.2 (List.mem_map.mpr ⟨p, hp, rfl⟩)) hb (fun H hH hS => sp_lawT hu (fun p hp => ?_) hS) fun H e s' z => z
  · obtain ⟨r, h1, rfl⟩ := back p hp
    exact (tab r h1).2
  · obtain ⟨r, h1, rfl⟩ := back p hp
    exact (hcs r h1).free
  · obtain ⟨r, h1, rfl⟩ := back p hp
    exact (tab r h1).1
  · obtain ⟨r, h1, h2⟩ := List.mem_map.mp (hTT p hp)
    rw [← h2]
    exact hH r.2 (List.mem_map.mpr ⟨r, h1, rfl⟩)
/-- the code object of a def of the module -/
theorem code_of {K : PySem.W.Frag} {x : Str} {f c P : Addr} {fd : FuncData} {oc : Value} {od : Option Addr} {sl : Array (Option Value)} (ht : PySem.W.tabIn K x = some (c, P)) (hm : PySem.W.nsIn K mainGlobals x = some (some (.ref f))) (hl : K.lookup f = some ⟨oc, od, .func fd, sl⟩) : fd.code = .ref c := by
  unfold PySem.W.tabIn at ht
  rw [hm] at ht
  dsimp only at ht
  rw [hl] at ht
  dsimp only at ht
  split at ht
  · rename_i c2 hc
    split at ht
    · split at ht
      · cases ht; exact hc
      · cases ht
    · cases ht
  · cases ht
end A

set_option Elab.async false
set_option linter.all false
set_option maxRecDepth 100000
set_option maxHeartbeats 2000000
/-! an own error class from what stands behind the top -/
namespace A
open PySem PySem.Spec PyProof.Rows L2
theorem errC_mk {K : PySem.W.Frag} {C CS fI : Addr} {nm q : Str} {N : Addr} {bs bm : List Value} {sn : List Str} {sub : List Value} {ab : Bool} {col : Option Bool} {dd : Option Addr} {k0 k1 k2 k3 k5 : Option Value}
    (l : K.lookup C = some (excClassObj nm q C N bs bm true sn sub ab col dd k0 k1 k2 k3 k5 "ValueError.__new__")) (b : PySem.HandSPX.refsVE bm = true)
    (sa : PySem.W.findIn K (.ref C) "__setattr__" = some (some (.builtin "object.__setattr__"))) (ex : PySem.W.subIn K (.ref C) (.type "BaseException") = some true) (ty : PySem.W.typeIn K (.ref C) = some (.type "type")) (kc : PySem.W.keepIn K (.ref C) = true)
    (ini : PySem.W.findIn K (.ref C) "__init__" = some (some (.ref fI))) (ti : PySem.W.typeIn K (.ref fI) = some (.type "function")) (nv : PySem.W.findIn K (.ref C) "value" = some none)
    (ga : PySem.W.findIn K (.ref C) "__getattribute__" = some (some (.builtin "BaseException.__getattribute__"))) (gg : PySem.W.findIn K (.ref C) "__getattr__" = some none) (hd : PySem.W.hasDictIn K C = true)
    (ha : PySem.W.findIn K (.ref C) "__class__" = some (some (.builtin "object.__class__"))) (hn : PySem.W.specialIn K (.builtin "object.__class__") "__get__" = some (some (.builtin "getset_descriptor.__get__"))) (tk : PySem.W.takesIn K (.builtin "object.__class__") = some true)
    (ob : PySem.W.mroIn K C (.type "object") = some true) (ca : PySem.W.exmOne K (.ref C) (.ref CS) = some true) : ErrC K C CS fI :=
  ⟨⟨⟨nm, q, N, bs, bm, sn, sub, ab, col, dd, k0, k1, k2, k3, k5, l, b⟩, sa, ex, ty, kc⟩, ini, ti, nv, ga, gg, hd, ha, hn, tk, ob, ca⟩
end A

set_option Elab.async false
set_option linter.all false
set_option maxRecDepth 100000
set_option maxHeartbeats 2000000
/-! defs that are called where no repr is under way -/
namespace A
open PySem PySem.Spec PyProof.Rows L2 LamX
/-- a def's promise where no repr runs around it -/
structure FnG (P : Program) (w : World) (K : PySem.W.Frag) (mg : Str → Option Value) (base : Heap) (k : Nat) (f : Addr) (fd : FuncData) (ps : List Str) (sp : Sp) : Prop where
  len : ∀ vs H Q E, sp vs H Q E → vs.length = ps.length
  run : ∀ (A : Around) (outer : List Env) (s : Shared) (H : Hp) (args : Args) (us : List Value) (vs : List V) (Q : VK) (E : XK), Room k A → A.guards = some [] → Env0 P w K mg base A outer s H → BindsTo s fd args (ps.zip us) → Vals vs us → sp vs H Q E →
    codeAny (model P w) A (.call (.ref f) args) (CR CX0 outer P w H s Q E) s
structure DefG (P : Program) (w : World) (K : PySem.W.Frag) (mg : Str → Option Value) (base : Heap) (x : Str) (k : Nat) (S : DS1) : Prop where
  ex : ∃ (f : Addr) (fd : FuncData) (ps : List Str), FnG P w K mg base k f fd ps (spM K S) ∧ mg x = some (.ref f) ∧ PySem.W.keepIn K (.ref f) = true ∧ Binds K fd ps []
theorem fn_okG {P : Program} {w : World} {K : PySem.W.Frag} {mg : Str → Option Value} {base : Heap} {x qual : Str} {st : Stmt} {f : Addr} {fd : FuncData} {N ps : List Str} {k : Nat} {S : DS1} (F : Fun K x qual st f fd) (hN : FnScope N ps (defScope st))
    (len : ∀ ds M k, S ds M k → ds.length = ps.length)
    (body : ∀ (cdv : Value) (A : Around) (outer : List Env) (s : Shared) (H : Hp) (E : XK) (ds : List DV) (M : MS) (kk : DV → MS → Prop), fd.code = cdv → (cxD P w K mg base N qual (defScope st) f cdv A outer s H E).N = N → N.Nodup → Room k (cxD P w K mg base N qual (defScope st) f cdv A outer s H E).A →
      (cxD P w K mg base N qual (defScope st) f cdv A outer s H E).A.guards = some [] → S ds M kk →
      ASs (cxD P w K mg base N qual (defScope st) f cdv A outer s H E) (defBody st) (ds.map some ++ List.replicate (N.length - ds.length) none) M ⟨fun _ M' => kk (.dat .none) M', kk, fun _ _ => False, fun _ _ => False⟩) : FnG P w K mg base (k + 1) f fd ps (spM K S) := by
  obtain ⟨oc, od, kV, doc, pm, an, cdv, ct, osl, rfl, lk, hcv⟩ := F.ex
  have hlen : ∀ vs H Q E, spM K S vs H Q E → vs.length = ps.length := fun vs H Q E ⟨G, M, ds, kk, ho, hi, hS, q⟩ => by rw [hi.len]; exact len _ _ _ hS
  refine ⟨hlen, fun A outer s H args us vs Q E hr hgd e0 hb rv hsp => ?_⟩
  refine run_ofS (N := N) (ps := ps) (us := us) (vs := vs) lk hcv hN hr e0 hb rv (hlen _ _ _ _ hsp) fun hr1 => ?_
  obtain ⟨G, M, ds, kk, ho, hi, hS, q0⟩ := hsp
  refine ⟨_, semSs.nox, ?_⟩
  refine body cdv A outer s H E ds M kk rfl rfl hN.nd hr1 hgd hS (L2.start N vs) G H _ (env_start hi) ho ⟨fun σ ds' G' M' H' s e o q => ?_, fun v d G' M' H' s o i q => ?_, fun _ _ _ _ _ _ _ _ q => q.elim, fun _ _ _ _ _ _ _ _ q => q.elim⟩
  · exact q0 .non _ G' M' H' s o (isd .non) q
  · exact q0 v d G' M' H' s o i q
theorem defG_ok {P : Program} {w : World} {K : PySem.W.Frag} {mg : Str → Option Value} {base : Heap} {x qual : Str} {st : Stmt} {f : Addr} {fd : FuncData} {N ps : List Str} {k : Nat} {S : DS1} (F : Fun K x qual st f fd) (hm : mg x = some (.ref f)) (hb : Binds K fd ps []) (hN : FnScope N ps (defScope st))
    (len : ∀ ds M k, S ds M k → ds.length = ps.length)
    (body : ∀ (cdv : Value) (A : Around) (outer : List Env) (s : Shared) (H : Hp) (E : XK) (ds : List DV) (M : MS) (kk : DV → MS → Prop), fd.code = cdv → (cxD P w K mg base N qual (defScope st) f cdv A outer s H E).N = N → N.Nodup → Room k (cxD P w K mg base N qual (defScope st) f cdv A outer s H E).A →
      (cxD P w K mg base N qual (defScope st) f cdv A outer s H E).A.guards = some [] → S ds M kk →
      ASs (cxD P w K mg base N qual (defScope st) f cdv A outer s H E) (defBody st) (ds.map some ++ List.replicate (N.length - ds.length) none) M ⟨fun _ M' => kk (.dat .none) M', kk, fun _ _ => False, fun _ _ => False⟩) : DefG P w K mg base x (k + 1) S :=
  ⟨f, fd, ps, fn_okG F hN len body, hm, F.kp, hb⟩
section
variable {X : Cx} {ds : DS} {M : MS} {k : DV → MS → Prop} {e : Expr} {es : List Expr} {pos p : Pos} {x : Str} {S : DS1} {j : Nat}
theorem ae_callG (F : DefG X.prog X.w X.K X.mg X.base x j S) (hr : Room j X.A) (hgd : X.A.guards = some []) (h : AA X (e :: es) ds M fun xs M1 => S xs M1 k) (hg : Gl X x := by rfl)
    (hdb : (x == ("__debug__" : Str)) = false := by decide) (hs : starEach (e :: es) X.env = (false, eval e X.env) :: starEach es X.env := by rfl) (hpl : (backTo pos (starEach es X.env)).any (·.1) = false := by rfl) :
    AE X (.Call (.Name x p) (e :: es) [] pos) ds M k := by
  obtain ⟨f, fd, ps, F, hm, hk, hb⟩ := F.ex
  intro σ G H Q he ho kk
  refine ⟨fun pins s I => wpAny_Call_Name_kw (ld_glob I hg hm (PySem.W.callWith_K (h₀ := X.base) I.ok.mod.kin hk ?_ hs hpl) hdb)⟩
  have args := (semA (X := X) (es := e :: es)).run pos pins s σ H (fun vs H1 => spM X.K S vs H1 Q fun _ _ _ => False) I (h σ G H _ he ho fun vs xs G1 M1 H1 s1 o1 i1 k1 => ⟨G1, M1, xs, k, o1, i1, k1, fun v d G2 M' H2 s2 o2 i2 q => kk v d G2 M' H2 (s1.trans s2) o2 i2 q⟩)
  refine thn args fun us s1 ⟨vs, H1, I1, r, q⟩ => ⟨I1.kIn, ?_⟩
  have hl : us.length = ps.length := by rw [← r.length]; exact F.len _ _ _ _ q
  have b := hb s1 us I1.kIn (by rw [List.append_nil]; exact hl)
  rw [List.append_nil] at b
  refine wpAny_call (codeAny_mono (F.run X.A X.stack s1 H1 ⟨us, []⟩ us vs Q (fun _ _ _ => False) hr hgd I1.env0 b r q) fun r s2 out => ?_)
  match r, out with
  | .ok (.ret u), out => exact I1.after out
  | .error e, out => exact (show False from out).elim
/-! ### repr of data -/
theorem callR_repr (hgd : X.A.guards = some []) : CallR X (.builtin "repr") (fun xs H Q => ∃ (v : V) (d : PyData), xs = [v] ∧ Dp X.K H v d ∧ d.showable = true ∧ d.hasDict = false ∧ X.A.units + (d.depth + 1) < cLine ∧ d.shown.length ≤ sizeLine ∧ Q (.str d.shown) H) := by
  intro pins s σ H xs us Q I r h
  obtain ⟨v, d, rfl, hd, h1, h2, h3, h4, q⟩ := h
  obtain ⟨u, rfl, ru⟩ := vals1 r
  obtain ⟨as, rd⟩ := Dp.reads I d v u hd ru
  have fin : ∀ (h' : Heap) (t : Tok) (tk : Nat), (∀ b o, s.heap.get? b = some o → h'.get? b = some o) → ∃ v H', Inv X pins σ H' { s with heap := h', toks := tk } ∧ RelV v (.str d.shown t) ∧ Q v H' := fun h' t tk k => ⟨.str d.shown, H, I.kept k, ⟨t, rfl⟩, q⟩
  cases hd with
  | non =>
    have y := fin s.heap s.toks (s.toks + 1) fun _ _ z => z
    rw [PyData.shown_none] at y
    cases ru
    exact PySem.P.repr_of_none y
  | bl b =>
    have y := fin s.heap s.toks (s.toks + 1) fun _ _ z => z
    rw [PyData.shown_bool] at y
    cases ru
    exact PySem.P.repr_of_bool y
  | int i =>
    have y := fin s.heap s.toks (s.toks + 1) fun _ _ z => z
    rw [PyData.shown_int] at y
    obtain ⟨t, rfl⟩ := ru
    refine PySem.P.repr_of_int ?_ y
    simpa [PyData.showable] using h1
  | str z =>
    have y := fin s.heap s.toks (s.toks + 1) fun _ _ z => z
    rw [PyData.shown_str] at y h4
    obtain ⟨t, rfl⟩ := ru
    exact PySem.P.repr_of_str y h4
  | lst hs ha =>
    obtain rfl : u = _ := ru
    exact repr_of_reads' rd h1 (fun z => by rw [h2] at z; cases z) hgd h3 (fun _ _ z => z) (fun h' t tk k => fin h' t tk k) h4
  | tup hs ha =>
    obtain rfl : u = _ := ru
    exact repr_of_reads' rd h1 (fun z => by rw [h2] at z; cases z) hgd h3 (fun _ _ z => z) (fun h' t tk k => fin h' t tk k) h4
theorem ae_repr (hgd : X.A.guards = some []) (hu : X.A.units + 64 < cLine) (hm : X.mg "repr" = none) {a : Expr} (h : AA X [a] ds M fun xs M1 => ∃ d : PyData, xs = [.dat d] ∧ d.showable = true ∧ d.hasDict = false ∧ d.depth ≤ 60 ∧ d.shown.length ≤ 1000000 ∧ k (.dat (.str d.shown)) M1) (hg : Gl X "repr" := by rfl)
    (hs : starEach [a] X.env = (false, eval a X.env) :: starEach [] X.env := by rfl) (hpl : (backTo pos (starEach [] X.env)).any (·.1) = false := by rfl) : AE X (.Call (.Name "repr" p) [a] [] pos) ds M k :=
  ae_callB (callR_repr hgd) hm (by decide +kernel) (h.imp fun xs M1 ⟨d, e, h1, h2, h3, h4, q⟩ => by
    subst e
    intro vs G H Q ho iv kk
    obtain ⟨v, rfl, h5⟩ := is1 iv
    exact ⟨v, d, rfl, dp_mono ho.same h5, h1, h2, by omega, Nat.le_trans h4 (by decide), kk _ _ G M1 H (Same.refl _) ho (isd (Dp.str _)) q⟩) hg (by decide) (by decide) hs hpl
end
/-! ### the end of such a law -/
/-- where the law's call begins: the script at a and the tables in cs are tracked, all else is the ground -/
theorem law_begins {P : Program} {w : World} {K : PySem.W.Frag} {mg mb : Str → Option Value} {a : Addr} {cs : List (Addr × Addr)} {t : Shared} {vs : List Value} {ns : List Int}
    (KX : K.In t.heap) (hns : t.heap.Ns mainGlobals mg) (hb : t.heap.Ns builtinsNs mb) (hbb : ∀ x : Str, x ≠ "__name__" → mb x = bootBuiltins x) (hlim : t.heap.NoLimit) (hg : t.gens = #[])
    (tabs : ∀ p ∈ cs, t.heap.get? p.2 = some { cls := .none, data := .fields #[] }) (free : ∀ p ∈ cs, K.lookup p.2 = none) (code : ∀ p ∈ cs, PySem.W.CodeHd t.heap p.1 p.2)
    (main : ∃ (bm : Addr) (ob : Obj), mg "__builtins__" = some (.ref bm) ∧ bm ≠ builtinsNs ∧ t.heap.get? bm = some ob ∧ ob.cls = .type "module" ∧ ob.dict = some builtinsNs ∧ ob.data = .plain)
    (ha : t.heap.get? a = some { cls := .type "list", data := .seq vs.toArray }) (hi : IntsAre vs ns) (hl : ns.length ≤ sizeLine) :
    ∃ (H : Hp) (ground : Heap), K.In ground ∧ ground.Ns mainGlobals mg ∧ (∀ p ∈ cs, TabB ground mg p.1 p.2) ∧ Env0 P w K mg ground callerA [] t H ∧ (∀ p ∈ cs, H p.2 = some (.tbl #[])) ∧ SqL K H a (ns.map V.int) ∧
      ∀ (u : Value) (t' : Shared), CE [] P w H t (fun v _ => v = .bl true) u t' → u = .bool true ∧ OldK t.heap t'.heap ∧ t'.os = t.os ∧ AllBare t'.gens := by
  classical
  have theInts := vals_ints hi
  have len := hi.length
  have emptyT : ∀ b, (∃ p ∈ cs, p.2 = b) → t.heap.get? b = some { cls := .none, data := .fields #[] } := fun b ⟨p, hp, e⟩ => e ▸ tabs p hp
  have aNo : ¬ ∃ p ∈ cs, p.2 = a := fun z => by
    have y := (emptyT a z).symm.trans ha
    cases y
  obtain ⟨H, hH⟩ : ∃ H : Hp, H = fun b => if (∃ p ∈ cs, p.2 = b) then some (.tbl #[]) else if b = a ∧ K.lookup a = none then some (.frz { cls := .type "list", data := .seq vs.toArray } (.lst (ns.map V.int))) else none := ⟨_, rfl⟩
  have atT : ∀ b, (∃ p ∈ cs, p.2 = b) → H b = some (.tbl #[]) := fun b z => by rw [hH]; exact if_pos z
  have atA : K.lookup a = none → H a = some (.frz { cls := .type "list", data := .seq vs.toArray } (.lst (ns.map V.int))) := fun z => by rw [hH]; dsimp only; rw [if_neg aNo, if_pos ⟨rfl, z⟩]
  have atN : ∀ b, (¬ ∃ p ∈ cs, p.2 = b) → ¬ (b = a ∧ K.lookup a = none) → H b = none := fun b z1 z2 => by rw [hH]; dsimp only; rw [if_neg z1, if_neg z2]
  have cases3 : ∀ b, (∃ p ∈ cs, p.2 = b) ∨ (b = a ∧ K.lookup a = none) ∨ H b = none := fun b => by
    by_cases z1 : ∃ p ∈ cs, p.2 = b
    · exact .inl z1
    · by_cases z2 : b = a ∧ K.lookup a = none
      · exact .inr (.inl z2)
      · exact .inr (.inr (atN b z1 z2))
  have okH : HOk P w H t.heap := fun b o e => by
    rcases cases3 b with z | ⟨rfl, z⟩ | z
    · rw [atT b z] at e; cases e; exact emptyT b z
    · rw [atA z] at e; cases e
      exact ⟨ha, by rw [List.length_map]; exact hl, vs, _, theInts, ha⟩
    · rw [z] at e; cases e
  -- what is neither a list nor an empty record of code objects is the ground's
  have untracked : ∀ b o, t.heap.get? b = some o → (∀ x n, o.data ≠ .seq x n) → o.data ≠ .fields #[] → H b = none := fun b o e n1 n2 => by
    rcases cases3 b with z | ⟨rfl, z⟩ | z
    · have y := e.symm.trans (emptyT b z); cases y; exact absurd rfl n2
    · have y := e.symm.trans ha; cases y; exact absurd rfl (n1 _ _)
    · exact z
  have grd : ∀ {b o}, t.heap.get? b = some o → H b = none → (hidT t.heap H).get? b = some o := fun e n => hidT_get e n
  have nsG : ∀ {b : Addr} {m : Str → Option Value}, t.heap.Ns b m → (hidT t.heap H).Ns b m := fun {b m} ⟨o, es, ep, e, d, r⟩ => ⟨o, es, ep, grd e (untracked b o e (fun x n y => by rw [d] at y; cases y) fun y => by rw [d] at y; cases y), d, r⟩
  have kG : K.In (hidT t.heap H) := fun b o e => grd (KX b o e) (by
    rcases cases3 b with ⟨p, hp, rfl⟩ | ⟨rfl, z⟩ | z
    · rw [free p hp] at e; cases e
    · rw [z] at e; cases e
    · exact z)
  have module_ : L2.Mod K mg (hidT t.heap H) := ⟨kG, nsG hns, ⟨mb, nsG hb, hbb⟩, let ⟨mc, h1, h2⟩ := hlim; ⟨mc, nsG h1, h2⟩⟩
  refine ⟨H, hidT t.heap H, kG, nsG hns, fun p hp => ⟨?_, ?_, fun z => ?_⟩, ⟨rfl, module_, fun b o e => of_hidT e, Nat.le_of_eq (hidT_size _ _), trivial, fun b hb => (by cases hb), okH, .of_eq hg⟩, fun p hp => atT p.2 ⟨p, hp, rfl⟩, ?_, fun u t' ⟨v, H', os, bare, un, hok', r', q⟩ => ?_⟩
  · obtain ⟨o, us, file, tf, flags, tg, inF, text, tt, e1, r1, r2, r3, r4⟩ := code p hp
    refine ⟨o, us, file, tf, flags, tg, inF, text, tt, grd e1 (untracked _ o e1 (fun x n y => by rw [r2] at y; cases y) fun y => ?_), r1, r2, r3, r4⟩
    rw [r2] at y
    cases y
    simp at r3
  · obtain ⟨bm, ob, b1, b2, b3, b4, b5, b6⟩ := main
    have n1 : bm ≠ mainGlobals := fun y => by
      obtain ⟨o, es, ep, e, d, _⟩ := hns
      have x := (y ▸ b3).symm.trans e
      cases x
      rw [d] at b6; cases b6
    have n2 : bm ≠ p.2 := fun y => by
      have x := (y ▸ b3).symm.trans (tabs p hp)
      cases x
      cases b6
    exact ⟨bm, ob, b1, b2, n1, n2, grd b3 (untracked bm ob b3 (fun x n y => by rw [b6] at y; cases y) fun y => by rw [b6] at y; cases y), b4, b5, b6⟩
  · obtain ⟨o, es, ep, e, d, _⟩ := hns
    have x := (z ▸ e).symm.trans (tabs p hp)
    cases x
    cases d
  · cases hk : K.lookup a with
    | none => exact .inl (.inr ⟨_, atA hk⟩)
    | some o =>
      have y := (KX a o hk).symm.trans ha
      cases y
      exact .inr ⟨_, vs.toArray, _, hk, rfl, rfl, rfl, by rw [List.size_toArray, len]; exact hl, by simpa using theInts⟩
  · have ev : v = .bl true := q
    subst ev
    have stays : ∀ b o, (¬ ∃ p ∈ cs, p.2 = b) → t.heap.get? b = some o → t'.heap.get? b = some o := fun b o nt e => by
      rcases cases3 b with z | ⟨rfl, z⟩ | z
      · exact absurd z nt
      · obtain ⟨e2, _⟩ := hok' b _ (un.frzs b _ _ (atA z))
        have y := e.symm.trans ha
        cases y
        exact e2
      · exact un.keep b o e z (fun y => by cases y) (fun y => by cases y)
    have grows : ∀ p ∈ cs, ∃ more : Array Value, t'.heap.get? p.2 = some { cls := .none, data := .fields more } := fun p hp => by
      obtain ⟨more, z⟩ := un.tbls p.2 #[] (atT p.2 ⟨p, hp, rfl⟩)
      exact ⟨_, hok' p.2 _ z⟩
    refine ⟨r', ⟨fun b o e => ?_, fun b o e => ?_⟩, os, bare⟩
    · by_cases hb : ∃ p ∈ cs, p.2 = b
      · obtain ⟨p, hp, rfl⟩ := hb
        obtain ⟨more, hm⟩ := grows p hp
        have y := e.symm.trans (tabs p hp)
        cases y
        exact .inr (.inl ⟨((code p hp).tab (tabs p hp)).isCodeTable, rfl, #[], more, rfl, by rw [Array.empty_append]; exact hm⟩)
      · exact .inl (stays b o hb e)
    · by_cases hb : ∃ p ∈ cs, p.2 = b
      · obtain ⟨p, hp, rfl⟩ := hb
        obtain ⟨more, hm⟩ := grows p hp
        exact ⟨_, hm⟩
      · exact ⟨o, stays b o hb e⟩
theorem walkG {l : PySem.W.OpenLaw} {k : Nat} {q : Program} {loose : List Str} {XP : (Str → Option Value) → Heap → Prop} {YP : World → Heap → Prop} {d : DefRec} {K : Params → PySem.W.Frag} (hn : l.most = some 63) (hdf : d.params.defaults = []) (hr : Room k callerA)
    (hY : ∀ (w : World) (h : Heap), YP w h → (K w.params).In h)
    (F : ∀ (w : World) (mg : Str → Option Value) (fa : Addr) (h : Heap), (K w.params).In h → h.Ns mainGlobals mg → mg d.name = some (.ref fa) →
      ∃ (fd : FuncData) (cs : List (Str × Addr × Addr)) (TT : List (Addr × Str)), (∀ p ∈ cs, TabAt q (K w.params) p.1 p.2.1 p.2.2) ∧ (∀ p ∈ TT, p.1 ∈ cs.map (·.2.2)) ∧ (∀ p ∈ TT, ∀ r ∈ TT, p.1 = r.1 → p.2 = r.2) ∧ (∀ (s : Shared) (u : Value), BindsTo s fd ⟨[u], []⟩ [("script", u)]) ∧
        ∀ base : Heap, (K w.params).In base → base.Ns mainGlobals mg → (∀ p ∈ cs, TabB base mg p.2.1 p.2.2) → FnG l.prog w (K w.params) mg base k fa fd ["script"] (spM (K w.params) (S_lawT TT))) :
    PySem.W.WalkO q loose XP YP l.row.toRowW d [] (fun f vs => PySem.call f vs) := by
  refine Att.attach_callB hn hdf fun w s₀ s₁ mg mb fa o pm cd doc a vs ns G Y ho hd hcd hmg hobj hints hlen hbits hg => ?_
  have KX := hY w _ Y
  obtain ⟨fd, cs, TT, hcs, hTT, hu, hb, hF⟩ := F w mg fa _ KX G.T.g hmg
  have tab : ∀ p ∈ cs, PySem.W.CodeHd s₁.heap p.2.1 p.2.2 ∧ s₁.heap.get? p.2.2 = some (PySem.W.tabObj #[]) := fun p hp => by
    obtain ⟨h1, h2, _⟩ := hcs p hp
    obtain ⟨dx, hx⟩ := Option.isSome_iff_exists.mp h1
    exact PySem.W.tab_of G.T KX hx h2
  have back : ∀ p ∈ cs.map (·.2), ∃ r ∈ cs, r.2 = p := fun p hp => by
    obtain ⟨r, h1, h2⟩ := List.mem_map.mp hp
    exact ⟨r, h1, h2⟩
  obtain ⟨H, ground, kG, nG, tG, e0, hT, hS, fin⟩ := law_begins (P := l.prog) (w := w) (cs := cs.map (·.2)) KX G.T.g G.T.b G.T.builtins G.T.nolimit hg (fun p hp => by obtain ⟨r, h1, rfl⟩ := back p hp; exact (tab r h1).2) (fun p hp => by obtain ⟨r, h1, rfl⟩ := back p hp; exact (hcs r h1).free)
    (fun p hp => by obtain ⟨r, h1, rfl⟩ := back p hp; exact (tab r h1).1) G.T.bmain hobj hints (Nat.le_trans hlen (by decide))
  have sp := sp_lawT (K := K w.params) hu (fun p hp => by
    obtain ⟨r, h1, h2⟩ := List.mem_map.mp (hTT p hp)
    rw [← h2]
    exact hT r.2 (List.mem_map.mpr ⟨r, h1, rfl⟩)) hS
  refine codeAny_mono ((hF ground kG nG fun p hp => tG p.2 (List.mem_map.mpr ⟨p, hp, rfl⟩)).run callerA [] s₁ H ⟨[.ref a], []⟩ [.ref a] [.ref a] _ _ hr rfl e0 (hb s₁ (.ref a)) (.cons rfl .nil) sp) fun r s' out => ?_
  match r, out with
  | .ok (.ret u), out =>
    obtain ⟨rfl, z⟩ := fin u s' out
    exact ⟨rfl, z⟩
  | .error e, out => exact (show False from out).elim
end A

set_option Elab.async false
set_option linter.all false
set_option maxRecDepth 100000
set_option maxHeartbeats 2000000
namespace B
open PySem PySem.Spec PyProof.Rows L2 A
noncomputable def top (i : Nat) : Stmt := PySem.Challenge.pw_cornerdrifts_k06_whole_home_exactly_by_s.main.body.getD i (.Pass ⟨0, 0, 0, 0⟩)
noncomputable abbrev s_DriftError_init : Stmt := inClass (top 2) 0
noncomputable abbrev s_is_integer : Stmt := top 8
noncomputable abbrev s_is_fraction : Stmt := top 9
noncomputable abbrev s_lowest : Stmt := top 10
noncomputable abbrev s_added : Stmt := top 11
noncomputable abbrev s_less : Stmt := top 12
noncomputable abbrev s_times : Stmt := top 13
noncomputable abbrev s_sum_of : Stmt := top 14
noncomputable abbrev s_mean_of : Stmt := top 15
noncomputable abbrev s_read_integer : Stmt := top 16
noncomputable abbrev s_read_fraction : Stmt := top 17
noncomputable abbrev s_Book_init : Stmt := inClass (top 21) 0
noncomputable abbrev s_Book_eq : Stmt := inClass (top 21) 1
noncomputable abbrev s_Book_len : Stmt := inClass (top 21) 2
noncomputable abbrev s_read_regions : Stmt := top 22
noncomputable abbrev s_read_step : Stmt := top 23
noncomputable abbrev s_check_chances : Stmt := top 24
noncomputable abbrev s_may_step : Stmt := top 25
noncomputable abbrev s_find_chance : Stmt := top 26
noncomputable abbrev s_drift_of : Stmt := top 28
noncomputable abbrev s_drifts_of : Stmt := top 29
noncomputable abbrev s_turns_by : Stmt := top 30
noncomputable abbrev s_sides_by : Stmt := top 31
noncomputable abbrev s_border_by : Stmt := top 32
noncomputable abbrev s_rising_by : Stmt := top 33
noncomputable abbrev s_told_by : Stmt := top 34
noncomputable abbrev s_border : Stmt := top 35
noncomputable abbrev s_check_plain : Stmt := top 36
noncomputable abbrev s_asked : Stmt := top 37
noncomputable abbrev s_does_come_home : Stmt := top 38
noncomputable abbrev s__law_pot : Stmt := top 40
noncomputable abbrev s__law_take : Stmt := top 41
noncomputable abbrev s__law_of : Stmt := top 42
noncomputable abbrev s__law_some : Stmt := top 43
noncomputable abbrev s__law_cells : Stmt := top 44
noncomputable abbrev s__law_heard : Stmt := top 45
noncomputable abbrev s__law_frac_common : Stmt := top 46
noncomputable abbrev s__law_frac : Stmt := top 47
noncomputable abbrev s__law_frac_plus : Stmt := top 48
noncomputable abbrev s__law_frac_less : Stmt := top 49
noncomputable abbrev s__law_frac_times : Stmt := top 50
noncomputable abbrev s__law_frac_over : Stmt := top 51
noncomputable abbrev s__law_frac_sum : Stmt := top 52
noncomputable abbrev s__law_frac_text : Stmt := top 53
noncomputable abbrev s__law_book_regions : Stmt := top 54
noncomputable abbrev s__law_book_text : Stmt := top 55
noncomputable abbrev s__law_book_drift : Stmt := top 56
noncomputable abbrev s__law_book_turns : Stmt := top 57
noncomputable abbrev s__law_book_sides : Stmt := top 58
noncomputable abbrev s__law_book_border : Stmt := top 59
noncomputable abbrev s__law_book_is_home : Stmt := top 60
noncomputable abbrev s__law_book_exchanged : Stmt := top 61
noncomputable abbrev s__law_book_rows_drawn : Stmt := top 62
noncomputable abbrev s__law_book_drawn : Stmt := top 63
noncomputable abbrev s__law_book_by_hand : Stmt := top 64
noncomputable abbrev s__law_book_plain : Stmt := top 65
noncomputable abbrev s__law_book_of_kind : Stmt := top 66
noncomputable abbrev s__law_same : Stmt := top 67
noncomputable abbrev s__law_turned_flat : Stmt := top 68
noncomputable abbrev s__law_border_drawn : Stmt := top 69
noncomputable abbrev s__law_is_told_right : Stmt := top 70
noncomputable abbrev s__law_right : Stmt := top 71
noncomputable abbrev s_law : Stmt := top 72
structure Txt (K : PySem.W.Frag) (mg : Str → Option Value) (C : Addr) : Prop where
  b_isinstance : mg "isinstance" = none
  b_int : mg "int" = none
  b_str : mg "str" = none
  b_tuple : mg "tuple" = none
  b_bool : mg "bool" = none
  b_len : mg "len" = none
  b_enumerate : mg "enumerate" = none
  b_range : mg "range" = none
  b_list : mg "list" = none
  b_sum : mg "sum" = none
  b_min : mg "min" = none
  b_max : mg "max" = none
  b_abs : mg "abs" = none
  b_all : mg "all" = none
  b_zip : mg "zip" = none
  b_dict : mg "dict" = none
  m_gcd : mg "gcd" = some (.builtin "math.gcd")
  g_ZERO : GlobD K mg "ZERO" (.tuple [.int 0, .int 1])
  g_ONE : GlobD K mg "ONE" (.tuple [.int 1, .int 1])
  g_REGIONS : GlobD K mg "REGIONS" (.tuple [.str "inside", .str "first", .str "second", .str "none"])
  g_MOST_STEPS : GlobD K mg "MOST_STEPS" (.int 12)
  m_Book : mg "Book" = some (.ref C)
  cls_Book : Cls K C
  own_Book : OwnT K C
  n_text : NoAttr K C "text"
  n_inside : NoAttr K C "inside"
  n_first : NoAttr K C "first"
  n_second : NoAttr K C "second"
  n_none : NoAttr K C "none"
end B

set_option Elab.async false
set_option linter.all false
set_option maxRecDepth 100000
set_option maxHeartbeats 4000000
namespace B
open PySem PySem.Spec PyProof.Rows L2 A
local macro_rules | `(tactic| walk_at "nm") => `(tactic| refine ae_nameT (by assumption) rfl ?_)
local macro_rules | `(tactic| walk_at "ag") => `(tactic| refine ag_nameT (by assumption) (by assumption) ?_)
local macro_rules | `(tactic| walk_at "agc") => `(tactic| (refine agc_nameU (by assumption) (by assumption) ?_ ?_; · decide))
local macro_rules | `(tactic| walk_at "set") => `(tactic| refine as_setT (by assumption) (by assumption) ?_)
local macro_rules | `(tactic| walk_at "ax1") => `(tactic| first
  | ((with_reducible show AE _ (Expr.Name _ _) _ _ _); walk_at "nm")
  | ((with_reducible show AA _ (_ :: _) _ _ _); refine aa_cons ?_)
  | ((with_reducible show AA _ [] _ _ _); refine aa_nil ?_)
  | ((with_reducible show AE _ (Expr.Constant _ _ _) _ _ _); first | refine ae_int ?_ | refine ae_str ?_ | refine ae_bl ?_ | refine ae_non ?_)
  | ((with_reducible show AE _ (Expr.BinOp _ Operator.Add _ _) _ _ _); refine ae_add ?_)
  | ((with_reducible show AE _ (Expr.BinOp _ Operator.Sub _ _) _ _ _); refine ae_sub ?_)
  | ((with_reducible show AE _ (Expr.BinOp _ Operator.Mult _ _) _ _ _); refine ae_mul ?_)
  | ((with_reducible show AE _ (Expr.BinOp _ Operator.FloorDiv _ _) _ _ _); refine ae_fdiv ?_)
  | ((with_reducible show AE _ (Expr.BinOp _ Operator.Mod _ _) _ _ _); refine ae_mod ?_)
  | ((with_reducible show AE _ (Expr.Compare _ [CmpOp.Lt] _ _) _ _ _); refine ae_lt ?_)
  | ((with_reducible show AE _ (Expr.Compare _ [CmpOp.LtE] _ _) _ _ _); refine ae_le ?_)
  | ((with_reducible show AE _ (Expr.Compare _ [CmpOp.Gt] _ _) _ _ _); refine ae_gt ?_)
  | ((with_reducible show AE _ (Expr.Compare _ [CmpOp.GtE] _ _) _ _ _); refine ae_ge ?_)
  | ((with_reducible show AE _ (Expr.Compare _ [CmpOp.Eq] _ _) _ _ _); refine ae_eqs ?_)
  | ((with_reducible show AE _ (Expr.Compare _ [CmpOp.NotEq] _ _) _ _ _); refine ae_nes ?_)
  | ((with_reducible show AT _ (Expr.Compare _ [CmpOp.Eq] _ _) _ _ _); refine at_eqs ?_)
  | ((with_reducible show AT _ (Expr.Compare _ [CmpOp.NotEq] _ _) _ _ _); refine at_nes ?_)
  | ((with_reducible show AT _ (Expr.Compare _ [CmpOp.Lt] _ _) _ _ _); refine at_lt ?_)
  | ((with_reducible show AT _ (Expr.Compare _ [CmpOp.LtE] _ _) _ _ _); refine at_le ?_)
  | ((with_reducible show AT _ (Expr.Compare _ [CmpOp.Gt] _ _) _ _ _); refine at_gt ?_)
  | ((with_reducible show AT _ (Expr.Compare _ [CmpOp.GtE] _ _) _ _ _); refine at_ge ?_)
  | ((with_reducible show AT _ (Expr.UnaryOp UnaryOp.Not _ _) _ _ _); refine at_not ?_)
  | ((with_reducible show AT _ (Expr.Call _ _ _ _) _ _ _); refine at_val ?_)
  | ((with_reducible show AR _ rEq (DV.dat (PyData.int _)) (DV.dat (PyData.int _)) _ _); refine ar_eqI ?_)
  | ((with_reducible show AR _ rNe (DV.dat (PyData.int _)) (DV.dat (PyData.int _)) _ _); refine ar_neI ?_)
  | ((with_reducible show AR _ rEq (DV.dat (PyData.str _)) (DV.dat (PyData.str _)) _ _); refine ar_eqS ?_)
  | ((with_reducible show AR _ rNe (DV.dat (PyData.str _)) (DV.dat (PyData.str _)) _ _); refine ar_neS ?_)
  | ((with_reducible show ∃ c, DV.dat (PyData.bool _) = DV.dat (PyData.bool c) ∧ _); refine ⟨_, rfl, ?_⟩)
  | ((with_reducible show AE _ (Expr.Tuple _ _ _) _ _ _); refine ae_tup ?_)
  | ((with_reducible show AE _ (Expr.Subscript _ _ _) _ _ _); refine ae_ixT ?_)
  | ((with_reducible show ∃ i j, DV.dat (PyData.int _) = DV.dat (PyData.int i) ∧ DV.dat (PyData.int _) = DV.dat (PyData.int j) ∧ _); refine ⟨_, _, rfl, rfl, ?_⟩)
  | ((with_reducible show ∃ xs i d, DV.dat (PyData.tuple _) = DV.dat (PyData.tuple xs) ∧ _); refine ⟨_, _, _, rfl, rfl, rfl, ?_⟩))
local macro_rules | `(tactic| walk_at "ax") => `(tactic| repeat (walk_at "ax1"))
local macro_rules | `(tactic| walk_at "ay1") => `(tactic| first
  | walk_at "ax1"
  | ((with_reducible show AE _ (Expr.UnaryOp UnaryOp.USub _ _) _ _ _); refine ae_neg ?_)
  | ((with_reducible show ∃ i, DV.dat (PyData.int _) = DV.dat (PyData.int i) ∧ _); refine ⟨_, rfl, ?_⟩)
  | ((with_reducible show ∃ xs : List PyData, [_, _] = List.map DV.dat xs ∧ _); refine ⟨[_, _], rfl, Nat.le_of_ble_eq_true rfl, ?_⟩)
  | ((with_reducible show ∃ xs : List PyData, [_, _, _] = List.map DV.dat xs ∧ _); refine ⟨[_, _, _], rfl, Nat.le_of_ble_eq_true rfl, ?_⟩))
local macro_rules | `(tactic| walk_at "ay") => `(tactic| repeat (walk_at "ay1"))
variable {P : Program} {w : World} {K : PySem.W.Frag} {mg : Str → Option Value} {base : Heap} {C : Addr}
set_option exponentiation.threshold 10000
/-! ### fractions -/
abbrev frD (f : Int × Int) : PyData := .tuple [.int f.1, .int f.2]
abbrev frV (f : Int × Int) : DV := .dat (frD f)
/-- numbers that the text can work with -/
def Sm (f : Int × Int) : Prop := 0 < f.2 ∧ f.1.natAbs < 2 ^ 2000 ∧ f.2.natAbs < 2 ^ 2000
theorem sizes {a b c d : Int} (ha : a.natAbs < 2 ^ 2000) (hb : b.natAbs < 2 ^ 2000) (hc : c.natAbs < 2 ^ 2000) (hd : d.natAbs < 2 ^ 2000) : (a * d + c * b).natAbs < 2 ^ 4001 := by
  have h1 := wide_lt ha hd
  have h2 := wide_lt hc hb
  have h3 := Int.natAbs_add_le (a * d) (c * b)
  have e : (2 : Nat) ^ 4001 = 2 ^ 4000 + 2 ^ 4000 := by rw [Nat.pow_succ, Nat.mul_two]
  rw [e]
  omega
def S_is_integer : DS1 := fun vs M k => (∃ n : Int, vs = [.dat (.int n)] ∧ k (.dat (.bool true)) M) ∨ (vs = [.dat .none] ∧ k (.dat (.bool false)) M)
theorem sc_is_integer : FnScope ["value"] ["value"] (defScope s_is_integer) := ⟨rfl, rfl, rfl, by decide +kernel, rfl, by decide +kernel, by decide +kernel⟩
theorem d_is_integer (T : Txt K mg C) {f : Addr} {fd : FuncData} (F : Fun K "is_integer" "is_integer" s_is_integer f fd) (hm : mg "is_integer" = some (.ref f)) (hb : Binds K fd ["value"] []) : Def P w K mg base "is_integer" 1 S_is_integer := by
  refine def_ok F hm hb sc_is_integer (fun ds M k h => ?_) (fun cdv A outer s H E ds M kk hl nd hr h => ?_)
  · rcases h with ⟨n, rfl, _⟩ | ⟨rfl, _⟩ <;> rfl
  · rcases h with ⟨n, rfl, q⟩ | ⟨rfl, q⟩
    · refine as_cons (as_ret (ae_and (ae_isinst T.b_isinstance ?_)))
      walk_at "ax"
      refine ae_bltn (v := .ty "int") T.b_int boot_int rfl ?_
      refine aa_nil ⟨_, _, _, _, rfl, .int _, (by decide +kernel : kitB "int" "int" = some true), ?_⟩
      refine ⟨_, rfl, fun h0 => ae_one (ae_not (ae_isinst T.b_isinstance ?_)), fun h0 => (by cases h0)⟩
      walk_at "ax"
      refine ae_bltn (v := .ty "bool") T.b_bool boot_bool rfl ?_
      refine aa_nil ⟨_, _, _, _, rfl, .int _, (by decide +kernel : kitB "int" "bool" = some false), ?_⟩
      exact ⟨_, rfl, q⟩
    · refine as_cons (as_ret (ae_and (ae_isinst T.b_isinstance ?_)))
      walk_at "ax"
      refine ae_bltn (v := .ty "int") T.b_int boot_int rfl ?_
      refine aa_nil ⟨_, _, _, _, rfl, .non, (by decide +kernel : kitB "NoneType" "int" = some false), ?_⟩
      exact ⟨_, rfl, fun h0 => (by cases h0), fun h0 => q⟩
def S_lowest : DS1 := fun vs M k => ∃ a b : Int, vs = [.dat (.int a), .dat (.int b)] ∧ 0 < b ∧ b.natAbs < 2 ^ 8000 ∧ k (frV (Fr.low a b)) M
theorem sc_lowest : FnScope ["top", "bottom", "shared"] ["top", "bottom"] (defScope s_lowest) := ⟨rfl, rfl, rfl, by decide +kernel, rfl, by decide +kernel, by decide +kernel⟩
theorem d_lowest (T : Txt K mg C) {f : Addr} {fd : FuncData} (F : Fun K "lowest" "lowest" s_lowest f fd) (hm : mg "lowest" = some (.ref f)) (hb : Binds K fd ["top", "bottom"] []) : Def P w K mg base "lowest" 1 S_lowest := by
  refine def_ok F hm hb sc_lowest (fun ds M k h => ?_) (fun cdv A outer s H E ds M kk hl nd hr h => ?_)
  · obtain ⟨a, b, rfl, _⟩ := h; rfl
  · obtain ⟨a, b, rfl, h0, h1, q⟩ := h
    have hg : 0 < (Nat.gcd a.natAbs b.natAbs) := Nat.gcd_pos_of_pos_right _ (by omega)
    have hg2 : (Nat.gcd a.natAbs b.natAbs) ≤ b.natAbs := Nat.gcd_le_right _ (by omega)
    have hc : ∀ i, CDivW i ((Nat.gcd a.natAbs b.natAbs : Nat) : Int) := fun i => wide_div (b := 8000) (by omega) (Nat.lt_of_le_of_lt (by omega) h1) (by decide) (by decide)
    walk_at "set"
    refine ae_gcd T.m_gcd ?_
    walk_at "ax"
    refine ⟨_, _, rfl, ?_⟩
    refine as_cons (as_ret ?_)
    walk_at "ax"
    refine ⟨hc _, ?_⟩
    walk_at "ax"
    refine ⟨hc _, ?_⟩
    walk_at "ax"
    exact ⟨[_, _], rfl, Nat.le_of_ble_eq_true rfl, q⟩
def S_added : DS1 := fun vs M k => ∃ f g : Int × Int, vs = [frV f, frV g] ∧ Sm f ∧ Sm g ∧ k (frV (Fr.add f g)) M
theorem sc_added : FnScope ["one", "other"] ["one", "other"] (defScope s_added) := ⟨rfl, rfl, rfl, by decide +kernel, rfl, by decide +kernel, by decide +kernel⟩
theorem d_added (T : Txt K mg C) (D_lowest : Def P w K mg base "lowest" 1 S_lowest) {f : Addr} {fd : FuncData} (F : Fun K "added" "added" s_added f fd) (hm : mg "added" = some (.ref f)) (hb : Binds K fd ["one", "other"] []) : Def P w K mg base "added" 2 S_added := by
  refine def_ok F hm hb sc_added (fun ds M k h => ?_) (fun cdv A outer s H E ds M kk hl nd hr h => ?_)
  · obtain ⟨f, g, rfl, _⟩ := h; rfl
  · obtain ⟨f, g, rfl, ⟨f0, f1, f2⟩, ⟨g0, g1, g2⟩, q⟩ := h
    have cm : ∀ {i j : Int}, i.natAbs < 2 ^ 2000 → j.natAbs < 2 ^ 2000 → CMulW i j := fun hi hj => wide_mul hi hj (by decide) (by decide) (by decide)
    refine as_cons (as_ret (ae_call D_lowest hr ?_))
    walk_at "ax"
    refine ⟨cm f1 g2, ?_⟩
    walk_at "ax"
    refine ⟨cm g1 f2, ?_⟩
    walk_at "ax"
    refine ⟨cm f2 g2, ?_⟩
    walk_at "ax"
    exact ⟨_, _, rfl, Int.mul_pos f0 g0, Nat.lt_of_lt_of_le (wide_lt f2 g2) (Nat.pow_le_pow_right (by decide) (by decide)), q⟩

theorem getF {α : Type} {g : α → PyData} {fs : List α} {i : Nat} {d : DV} (h : ((fs.map g).map DV.dat)[i]? = some d) : ∃ f, fs[i]? = some f ∧ d = .dat (g f) := by
  rw [List.getElem?_map, List.getElem?_map] at h
  cases e : fs[i]? with
  | none => rw [e] at h; cases h
  | some f => rw [e] at h; cases h; exact ⟨f, rfl, rfl⟩
def parts (fs : List (Int × Int)) (i : Nat) : Int × Int := (fs.take i).foldl Fr.add (0, 1)
theorem parts_succ {fs : List (Int × Int)} {i : Nat} {f : Int × Int} (h : fs[i]? = some f) : parts fs (i + 1) = Fr.add (parts fs i) f := by
  unfold parts
  rw [List.take_add_one, h, List.foldl_append]; rfl
theorem parts_all (fs : List (Int × Int)) : parts fs fs.length = Fr.sum fs := by
  unfold parts
  rw [List.take_length]; rfl
def S_sum_of : DS1 := fun vs M k => ∃ fs : List (Int × Int), vs = [.dat (.list (fs.map frD))] ∧ (∀ f ∈ fs, Sm f) ∧ (∀ n, Sm (parts fs n)) ∧ k (frV (Fr.sum fs)) M
theorem sc_sum_of : FnScope ["fractions", "total", "fraction"] ["fractions"] (defScope s_sum_of) := ⟨rfl, rfl, rfl, by decide +kernel, rfl, by decide +kernel, by decide +kernel⟩
theorem d_sum_of (T : Txt K mg C) (D_added : Def P w K mg base "added" 2 S_added) {f : Addr} {fd : FuncData} (F : Fun K "sum_of" "sum_of" s_sum_of f fd) (hm : mg "sum_of" = some (.ref f)) (hb : Binds K fd ["fractions"] []) : Def P w K mg base "sum_of" 3 S_sum_of := by
  refine def_ok F hm hb sc_sum_of (fun ds M k h => ?_) (fun cdv A outer s H E ds M kk hl nd hr h => ?_)
  · obtain ⟨f, rfl, _⟩ := h; rfl
  · obtain ⟨fs, rfl, h1, h2, q⟩ := h
    walk_at "set"
    refine ae_globD T.g_ZERO ?_
    refine as_cons (as_for PassesOwn.never rfl (W := fun i ds' M' => M' = M ∧ ∃ x, ds' = [some (.dat (.list (fs.map frD))), some (frV (parts fs i)), x]) (ai_list ?_))
    walk_at "ax"
    refine ⟨_, rfl, ⟨rfl, _, rfl⟩, fun i d ds' M' hx hw => ?_, fun ds' M' hw => ?_⟩
    · obtain ⟨rfl, x, rfl⟩ := hw
      obtain ⟨f, hf, rfl⟩ := getF hx
      walk_at "ag"
      walk_at "set"
      refine ae_call D_added hr ?_
      walk_at "ax"
      refine ⟨_, f, rfl, h2 i, h1 f (List.mem_of_getElem? hf), ?_⟩
      rw [← parts_succ hf]
      exact as_nil ⟨rfl, _, rfl⟩
    · obtain ⟨rfl, x, rfl⟩ := hw
      refine as_cons (as_ret ?_)
      walk_at "ax"
      rw [List.length_map, List.length_map, parts_all]
      exact q
def optD : Option Int → PyData
  | none => .none
  | some n => .int n
def isFr : Option Int → Option Int → Bool
  | some a, some b => decide (0 < b) && decide (Nat.gcd a.natAbs b.natAbs = 1)
  | _, _ => false
def S_is_fraction : DS1 := fun vs M k => ∃ a b : Option Int, (vs = [.dat (.tuple [optD a, optD b])] ∧ k (.dat (.bool (isFr a b))) M)
theorem sc_is_fraction : FnScope ["value", "top", "bottom"] ["value"] (defScope s_is_fraction) := ⟨rfl, rfl, rfl, by decide +kernel, rfl, by decide +kernel, by decide +kernel⟩
theorem d_is_fraction (T : Txt K mg C) (D_is_integer : Def P w K mg base "is_integer" 1 S_is_integer) {f : Addr} {fd : FuncData} (F : Fun K "is_fraction" "is_fraction" s_is_fraction f fd) (hm : mg "is_fraction" = some (.ref f)) (hb : Binds K fd ["value"] []) : Def P w K mg base "is_fraction" 2 S_is_fraction := by
  refine def_ok F hm hb sc_is_fraction (fun ds M k h => ?_) (fun cdv A outer s H E ds M kk hl nd hr h => ?_)
  · obtain ⟨a, b, rfl, _⟩ := h; rfl
  · obtain ⟨a, b, rfl, q⟩ := h
    refine as_cons (as_ifP false ?_ (fun z => by cases z) fun _ => ?_)
    · refine at_w (aw_or (at_not (at_val (ae_isinst T.b_isinstance ?_))))
      walk_at "ax"
      refine ae_bltn (v := .ty "tuple") T.b_tuple boot_tuple rfl ?_
      refine aa_nil ⟨_, _, _, _, rfl, .tup _, (by decide +kernel : kitB "tuple" "tuple" = some true), _, rfl, fun h => (by cases h), fun _ => ?_⟩
      refine aw_or1 ?_
      walk_at "ax"
      refine ae_len T.b_len ?_
      walk_at "ax"
      refine ⟨_, _, rfl, .tup _, ?_⟩
      walk_at "ax"
      exact ⟨rfl, rfl⟩
    refine as_nil ?_
    refine as_cons (as_asg ?_)
    walk_at "ax"
    refine ag_tup rfl rfl (ags_cons ?_)
    walk_at "ag"
    refine ags_cons ?_
    walk_at "ag"
    refine ags_nil ?_
    refine as_cons (as_ret (ae_and (ae_call D_is_integer hr ?_)))
    walk_at "ax"
    cases a with
    | none => exact .inr ⟨rfl, _, rfl, fun h => (by cases h), fun _ => q⟩
    | some a =>
      refine .inl ⟨_, rfl, _, rfl, fun _ => ?_, fun h => (by cases h)⟩
      refine ae_and (ae_call D_is_integer hr ?_)
      walk_at "ax"
      cases b with
      | none => exact .inr ⟨rfl, _, rfl, fun h => (by cases h), fun _ => q⟩
      | some b =>
        refine .inl ⟨_, rfl, _, rfl, fun _ => ?_, fun h => (by cases h)⟩
        refine ae_and (ae_gt ?_)
        walk_at "ax"
        refine ⟨_, _, rfl, rfl, _, rfl, fun h => ?_, fun h => ?_⟩
        · refine ae_one ?_
          walk_at "ax"
          refine ae_gcd T.m_gcd ?_
          walk_at "ax"
          refine ⟨_, _, rfl, ?_⟩
          walk_at "ax"
          have e : decide (((Nat.gcd a.natAbs b.natAbs : Nat) : Int) = 1) = decide (Nat.gcd a.natAbs b.natAbs = 1) := decide_eq_decide.mpr (by omega)
          rw [e]
          have q : kk (.dat (.bool (decide (0 < b) && decide (Nat.gcd a.natAbs b.natAbs = 1)))) M := q
          rw [h] at q
          exact q
        · have q : kk (.dat (.bool (decide (0 < b) && decide (Nat.gcd a.natAbs b.natAbs = 1)))) M := q
          rw [h] at q
          exact q
end B

set_option Elab.async false
set_option linter.all false
set_option maxRecDepth 100000
set_option maxHeartbeats 4000000
namespace B
open PySem PySem.Spec PyProof.Rows L2 A
local macro_rules | `(tactic| walk_at "nm") => `(tactic| refine ae_nameT (by assumption) rfl ?_)
local macro_rules | `(tactic| walk_at "ag") => `(tactic| refine ag_nameT (by assumption) (by assumption) ?_)
local macro_rules | `(tactic| walk_at "agc") => `(tactic| (refine agc_nameU (by assumption) (by assumption) ?_ ?_; · decide))
local macro_rules | `(tactic| walk_at "set") => `(tactic| refine as_setT (by assumption) (by assumption) ?_)
local macro_rules | `(tactic| walk_at "ax1") => `(tactic| first
  | ((with_reducible show AE _ (Expr.Name _ _) _ _ _); walk_at "nm")
  | ((with_reducible show AA _ (_ :: _) _ _ _); refine aa_cons ?_)
  | ((with_reducible show AA _ [] _ _ _); refine aa_nil ?_)
  | ((with_reducible show AE _ (Expr.Constant _ _ _) _ _ _); first | refine ae_int ?_ | refine ae_str ?_ | refine ae_bl ?_ | refine ae_non ?_)
  | ((with_reducible show AE _ (Expr.BinOp _ Operator.Add _ _) _ _ _); refine ae_add ?_)
  | ((with_reducible show AE _ (Expr.BinOp _ Operator.Sub _ _) _ _ _); refine ae_sub ?_)
  | ((with_reducible show AE _ (Expr.BinOp _ Operator.Mult _ _) _ _ _); refine ae_mul ?_)
  | ((with_reducible show AE _ (Expr.BinOp _ Operator.FloorDiv _ _) _ _ _); refine ae_fdiv ?_)
  | ((with_reducible show AE _ (Expr.BinOp _ Operator.Mod _ _) _ _ _); refine ae_mod ?_)
  | ((with_reducible show AE _ (Expr.Compare _ [CmpOp.Lt] _ _) _ _ _); refine ae_lt ?_)
  | ((with_reducible show AE _ (Expr.Compare _ [CmpOp.LtE] _ _) _ _ _); refine ae_le ?_)
  | ((with_reducible show AE _ (Expr.Compare _ [CmpOp.Gt] _ _) _ _ _); refine ae_gt ?_)
  | ((with_reducible show AE _ (Expr.Compare _ [CmpOp.GtE] _ _) _ _ _); refine ae_ge ?_)
  | ((with_reducible show AE _ (Expr.Compare _ [CmpOp.Eq] _ _) _ _ _); refine ae_eqs ?_)
  | ((with_reducible show AE _ (Expr.Compare _ [CmpOp.NotEq] _ _) _ _ _); refine ae_nes ?_)
  | ((with_reducible show AT _ (Expr.Compare _ [CmpOp.Eq] _ _) _ _ _); refine at_eqs ?_)
  | ((with_reducible show AT _ (Expr.Compare _ [CmpOp.NotEq] _ _) _ _ _); refine at_nes ?_)
  | ((with_reducible show AT _ (Expr.Compare _ [CmpOp.Lt] _ _) _ _ _); refine at_lt ?_)
  | ((with_reducible show AT _ (Expr.Compare _ [CmpOp.LtE] _ _) _ _ _); refine at_le ?_)
  | ((with_reducible show AT _ (Expr.Compare _ [CmpOp.Gt] _ _) _ _ _); refine at_gt ?_)
  | ((with_reducible show AT _ (Expr.Compare _ [CmpOp.GtE] _ _) _ _ _); refine at_ge ?_)
  | ((with_reducible show AT _ (Expr.UnaryOp UnaryOp.Not _ _) _ _ _); refine at_not ?_)
  | ((with_reducible show AT _ (Expr.Call _ _ _ _) _ _ _); refine at_val ?_)
  | ((with_reducible show AR _ rEq (DV.dat (PyData.int _)) (DV.dat (PyData.int _)) _ _); refine ar_eqI ?_)
  | ((with_reducible show AR _ rNe (DV.dat (PyData.int _)) (DV.dat (PyData.int _)) _ _); refine ar_neI ?_)
  | ((with_reducible show AR _ rEq (DV.dat (PyData.str _)) (DV.dat (PyData.str _)) _ _); refine ar_eqS ?_)
  | ((with_reducible show AR _ rNe (DV.dat (PyData.str _)) (DV.dat (PyData.str _)) _ _); refine ar_neS ?_)
  | ((with_reducible show ∃ c, DV.dat (PyData.bool _) = DV.dat (PyData.bool c) ∧ _); refine ⟨_, rfl, ?_⟩)
  | ((with_reducible show AE _ (Expr.Tuple _ _ _) _ _ _); refine ae_tup ?_)
  | ((with_reducible show AE _ (Expr.Subscript _ _ _) _ _ _); refine ae_ixT ?_)
  | ((with_reducible show ∃ i j, DV.dat (PyData.int _) = DV.dat (PyData.int i) ∧ DV.dat (PyData.int _) = DV.dat (PyData.int j) ∧ _); refine ⟨_, _, rfl, rfl, ?_⟩)
  | ((with_reducible show ∃ xs i d, DV.dat (PyData.tuple _) = DV.dat (PyData.tuple xs) ∧ _); refine ⟨_, _, _, rfl, rfl, rfl, ?_⟩))
local macro_rules | `(tactic| walk_at "ax") => `(tactic| repeat (walk_at "ax1"))
local macro_rules | `(tactic| walk_at "ay1") => `(tactic| first
  | walk_at "ax1"
  | ((with_reducible show AE _ (Expr.UnaryOp UnaryOp.USub _ _) _ _ _); refine ae_neg ?_)
  | ((with_reducible show ∃ i, DV.dat (PyData.int _) = DV.dat (PyData.int i) ∧ _); refine ⟨_, rfl, ?_⟩)
  | ((with_reducible show ∃ xs : List PyData, [_, _] = List.map DV.dat xs ∧ _); refine ⟨[_, _], rfl, Nat.le_of_ble_eq_true rfl, ?_⟩)
  | ((with_reducible show ∃ xs : List PyData, [_, _, _] = List.map DV.dat xs ∧ _); refine ⟨[_, _, _], rfl, Nat.le_of_ble_eq_true rfl, ?_⟩))
local macro_rules | `(tactic| walk_at "ay") => `(tactic| repeat (walk_at "ay1"))
variable {P : Program} {w : World} {K : PySem.W.Frag} {mg : Str → Option Value} {base : Heap} {C : Addr}
open TL Wd
def S_read_integer : DS1 := fun vs M k => ∃ z : Str, vs = [.dat (.str z)] ∧ z.length ≤ 640 ∧ k (.dat (optD (readI (tl z)))) M
theorem sc_read_integer : FnScope ["word", "digits"] ["word"] (defScope s_read_integer) := ⟨rfl, rfl, rfl, by decide +kernel, rfl, by decide +kernel, by decide +kernel⟩
theorem str0_iff (z : Str) : decide (z = Str.ofString "0") = (tl z == [48]) := by
  by_cases h : z = Str.ofString "0"
  · subst h; rw [tl_ofString]; simp
  · rw [decide_eq_false h]
    symm
    rw [beq_eq_false_iff_ne]
    intro q
    exact h (ext_tl (by rw [q, tl_ofString]; rfl))
theorem d_read_integer (T : Txt K mg C) {f : Addr} {fd : FuncData} (F : Fun K "read_integer" "read_integer" s_read_integer f fd) (hm : mg "read_integer" = some (.ref f)) (hb : Binds K fd ["word"] []) : Def P w K mg base "read_integer" 1 S_read_integer := by
  refine def_ok F hm hb sc_read_integer (fun ds M k h => ?_) (fun cdv A outer s H E ds M kk hl nd hr h => ?_)
  · obtain ⟨f, rfl, _⟩ := h; rfl
  · obtain ⟨z, rfl, hz, q⟩ := h
    walk_at "set"
    refine ae_bm PySem.F.plainAttrs_str PySem.F.slot_str_removeprefix PySem.F.type_str_removeprefix mt_removeprefix ?_
    walk_at "ax"
    refine ⟨.str _, ?_⟩
    walk_at "ax"
    refine arm_S1 rfl (Nat.le_trans hz (by decide)) ?_
    have hd := tl_removeDash z
    generalize hg : Txt.removeprefix z (Str.ofString "-") = d at hd
    refine as_cons (as_ifP (!digs (noDash (tl z))) ?_ (fun hb => ?_) fun hb => ?_)
    · refine at_not (at_w (aw_and ?_))
      walk_at "ax"
      refine ae_bm0 PySem.F.plainAttrs_str PySem.F.slot_str_isascii PySem.F.type_str_isascii mt_isascii ?_
      walk_at "ax"
      refine ⟨.str _, arm_B0 rfl ?_⟩
      refine ⟨_, rfl, fun h0 => aw_and1 ?_, fun h0 => ?_⟩
      · walk_at "ax"
        refine ae_bm0 PySem.F.plainAttrs_str PySem.F.slot_str_isdigit PySem.F.type_str_isdigit mt_isdigit ?_
        walk_at "ax"
        refine ⟨.str _, arm_B0 rfl ?_⟩
        refine ⟨_, rfl, ?_, rfl⟩
        have e := ascii_digit d
        rw [hd, h0, Bool.true_and] at e
        rw [e]
      · have e := ascii_digit d
        rw [hd, h0, Bool.false_and] at e
        rw [← e]
        exact ⟨rfl, rfl⟩
    · refine as_cons (as_ret ?_)
      walk_at "ax"
      have e : readI (tl z) = none := by
        unfold readI
        rw [Bool.not_eq_true'] at hb
        rw [hb]; rfl
      rw [e] at q
      exact q
    refine as_nil ?_
    rw [Bool.not_eq_false'] at hb
    refine as_cons (as_ifP ((noDash (tl z)).head? == some 48 && !(tl z == [48])) ?_ (fun hc => ?_) fun hc => ?_)
    · refine at_w (aw_and ?_)
      walk_at "ax"
      refine ae_bm PySem.F.plainAttrs_str PySem.F.slot_str_startswith PySem.F.type_str_startswith mt_startswith ?_
      walk_at "ax"
      refine ⟨.str _, ?_⟩
      walk_at "ax"
      refine arm_B1 rfl ⟨_, rfl, fun h0 => aw_and1 ?_, fun h0 => ?_⟩
      · walk_at "ax"
        rw [starts_0, hd] at h0
        rw [h0, str0_iff]
        exact ⟨rfl, rfl⟩
      · rw [starts_0, hd] at h0
        rw [h0]
        exact ⟨rfl, rfl⟩
    · refine as_cons (as_ret ?_)
      walk_at "ax"
      have e : readI (tl z) = none := by
        unfold readI
        rw [hb, hc]; rfl
      rw [e] at q
      exact q
    refine as_nil ?_
    refine as_cons (as_ret (ae_intS T.b_int ?_))
    walk_at "ax"
    obtain ⟨n, hn⟩ : ∃ n, readI (tl z) = some n := by
      unfold readI
      rw [hb, hc]
      exact ⟨_, rfl⟩
    refine ⟨_, n, rfl, readI_text hz hn, hz, ?_⟩
    rw [hn] at q
    exact q

/-- the fraction that a word tells -/
def readF (z : Str) : PyData :=
  let p := Txt.partition z (Str.ofString "/")
  if p.2.1.length != 0 then (if readI (tl p.2.2) = some 1 ∨ isFr (readI (tl p.1)) (readI (tl p.2.2)) = false then .none else .tuple [optD (readI (tl p.1)), optD (readI (tl p.2.2))])
  else (if isFr (readI (tl p.1)) (some 1) = false then .none else .tuple [optD (readI (tl p.1)), .int 1])
theorem part_len {z y : Str} (hy : tl y ≠ []) : (Txt.partition z y).1.length ≤ z.length ∧ (Txt.partition z y).2.1.length ≤ y.length ∧ (Txt.partition z y).2.2.length ≤ z.length := by
  unfold Txt.partition
  split
  · refine ⟨?_, Nat.le_refl _, ?_⟩
    · rw [len_tl, tl_strSub, len_tl z, List.length_take, List.length_drop]; omega
    · rw [len_tl, tl_strSub, len_tl z, List.length_take, List.length_drop]; omega
  · exact ⟨Nat.le_refl _, Nat.zero_le _, Nat.zero_le _⟩
def S_read_fraction : DS1 := fun vs M k => ∃ z : Str, vs = [.dat (.str z)] ∧ z.length ≤ 640 ∧ k (.dat (readF z)) M
theorem sc_read_fraction : FnScope ["word", "top_word", "slash", "bottom_word", "top", "bottom"] ["word"] (defScope s_read_fraction) := ⟨rfl, rfl, rfl, by decide +kernel, rfl, by decide +kernel, by decide +kernel⟩
theorem ar_eqO {K : PySem.W.Frag} {x : Option Int} {y : Int} {M : MS} {k : DV → MS → Prop} (q : k (.dat (.bool (decide (x = some y)))) M) : AR K rEq (.dat (optD x)) (.dat (.int y)) M k := by
  cases x with
  | some x =>
    refine ar_eqI ?_
    have e : decide (x = y) = decide (some x = some y) := decide_eq_decide.mpr (by simp)
    rw [e]; exact q
  | none =>
    intro v w G H Q ho iv iw kk
    have e1 := dp_non_inv iv
    have e2 := dp_int_inv iw
    subst e1 e2
    exact ⟨rfl, kk _ _ G M H (Same.refl _) ho (isd (Dp.bl _)) q⟩
theorem d_read_fraction (T : Txt K mg C) (D_read_integer : Def P w K mg base "read_integer" 1 S_read_integer) (D_is_fraction : Def P w K mg base "is_fraction" 2 S_is_fraction) {f : Addr} {fd : FuncData} (F : Fun K "read_fraction" "read_fraction" s_read_fraction f fd) (hm : mg "read_fraction" = some (.ref f)) (hb : Binds K fd ["word"] []) : Def P w K mg base "read_fraction" 3 S_read_fraction := by
  refine def_ok F hm hb sc_read_fraction (fun ds M k h => ?_) (fun cdv A outer s H E ds M kk hl nd hr h => ?_)
  · obtain ⟨f, rfl, _⟩ := h; rfl
  · obtain ⟨z, rfl, hz, q⟩ := h
    have hy : tl (Str.ofString "/") ≠ [] := by rw [tl_ofString]; exact fun q => nomatch q
    obtain ⟨l1, l2, l3⟩ := part_len (z := z) hy
    refine as_cons (as_asg ?_)
    refine ae_bm PySem.F.plainAttrs_str PySem.F.slot_str_partition PySem.F.type_str_partition mt_partition ?_
    walk_at "ax"
    refine ⟨.str _, ?_⟩
    walk_at "ax"
    refine arm_partition (by decide +kernel) (Nat.le_trans hz (by decide)) ?_
    unfold readF at q
    generalize Txt.partition z (Str.ofString "/") = p at *
    obtain ⟨a, sl, b⟩ := p
    simp only at l1 l2 l3 q ⊢
    refine ag_tup rfl rfl (ags_cons ?_)
    walk_at "ag"
    refine ags_cons ?_
    walk_at "ag"
    refine ags_cons ?_
    walk_at "ag"
    refine ags_nil ?_
    have hsl : sl.length ≤ sizeLine := Nat.le_trans l2 (by decide +kernel)
    walk_at "set"
    refine ae_call D_read_integer (hr.mono (by decide)) ?_
    walk_at "ax"
    refine ⟨a, rfl, by omega, ?_⟩
    have rest : ∀ (bt : Option Int) (ds : DS), ds = [some (.dat (.str z)), some (.dat (.str a)), some (.dat (.str sl)), some (.dat (.str b)), some (.dat (optD (readI (tl a)))), some (.dat (optD bt))] → (∀ r, kk r M ↔ kk r M) →
        kk (.dat (if (sl.length != 0 && decide (bt = some 1)) || !isFr (readI (tl a)) bt then .none else .tuple [optD (readI (tl a)), optD bt])) M →
        ASs (cxD P w K mg base ["word", "top_word", "slash", "bottom_word", "top", "bottom"] "read_fraction" (defScope s_read_fraction) f cdv A outer s H E) ((defBody s_read_fraction).drop 3) ds M ⟨fun _ M' => kk (.dat .none) M', kk, fun _ _ => False, fun _ _ => False⟩ := by
      intro bt ds e _ q
      subst e
      refine as_cons (as_ifP ((sl.length != 0 && decide (bt = some 1)) || !isFr (readI (tl a)) bt) ?_ (fun hb => ?_) fun hb => ?_)
      · refine at_w (aw_or (at_P (sl.length != 0 && decide (bt = some 1)) ?_ ⟨fun h => ?_, fun h => ?_⟩))
        · refine at_w (aw_and (at_tru ?_))
          walk_at "ax"
          refine ⟨_, .str hsl, fun h0 => aw_and1 ?_, fun h0 => ?_⟩
          · refine at_eqs ?_
            walk_at "ax"
            refine ar_eqO ⟨_, rfl, ?_, rfl⟩
            rw [h0]; rfl
          · rw [h0]; exact ⟨rfl, rfl⟩
        · rw [h]; exact ⟨rfl, rfl⟩
        · refine aw_or1 ?_
          refine at_not (at_val (ae_call D_is_fraction (hr.mono (by decide)) ?_))
          walk_at "ax"
          refine ⟨[_, _], rfl, Nat.le_of_ble_eq_true rfl, ?_⟩
          walk_at "ax"
          refine ⟨_, _, rfl, _, rfl, ?_, rfl⟩
          rw [h]; rfl
      · refine as_cons (as_ret ?_)
        walk_at "ax"
        rw [if_pos hb] at q
        exact q
      · refine as_nil ?_
        refine as_cons (as_ret ?_)
        walk_at "ax"
        refine ⟨[_, _], rfl, Nat.le_of_ble_eq_true rfl, ?_⟩
        rw [if_neg (by rw [hb]; exact Bool.false_ne_true)] at q
        exact q
    walk_at "set"
    refine ae_ifP (sl.length != 0) ?_ (fun h => ?_) fun h => ?_
    · refine at_tru ?_
      walk_at "ax"
      exact ⟨_, .str hsl, rfl, rfl⟩
    · refine ae_call D_read_integer (hr.mono (by decide)) ?_
      walk_at "ax"
      refine ⟨b, rfl, by omega, ?_⟩
      refine rest (readI (tl b)) _ rfl (fun _ => Iff.rfl) ?_
      rw [h] at q ⊢
      simp only [if_true, Bool.true_and] at q ⊢
      by_cases h1 : readI (tl b) = some 1
      · simpa [h1] using q
      · cases h2 : isFr (readI (tl a)) (readI (tl b)) <;> simpa [h1, h2] using q
    · walk_at "ax"
      refine rest (some 1) _ rfl (fun _ => Iff.rfl) ?_
      rw [h] at q ⊢
      simp only [Bool.false_eq_true, if_false, Bool.false_and, Bool.false_or] at q ⊢
      cases h2 : isFr (readI (tl a)) (some 1) <;> simpa [h2, optD] using q
end B

set_option Elab.async false
set_option linter.all false
set_option maxRecDepth 100000
set_option maxHeartbeats 4000000
namespace B
open PySem PySem.Spec PyProof.Rows L2 A
local macro_rules | `(tactic| walk_at "nm") => `(tactic| refine ae_nameT (by assumption) rfl ?_)
local macro_rules | `(tactic| walk_at "ag") => `(tactic| refine ag_nameT (by assumption) (by assumption) ?_)
local macro_rules | `(tactic| walk_at "agc") => `(tactic| (refine agc_nameU (by assumption) (by assumption) ?_ ?_; · decide))
local macro_rules | `(tactic| walk_at "set") => `(tactic| refine as_setT (by assumption) (by assumption) ?_)
local macro_rules | `(tactic| walk_at "ax1") => `(tactic| first
  | ((with_reducible show AE _ (Expr.Name _ _) _ _ _); walk_at "nm")
  | ((with_reducible show AA _ (_ :: _) _ _ _); refine aa_cons ?_)
  | ((with_reducible show AA _ [] _ _ _); refine aa_nil ?_)
  | ((with_reducible show AE _ (Expr.Constant _ _ _) _ _ _); first | refine ae_int ?_ | refine ae_str ?_ | refine ae_bl ?_ | refine ae_non ?_)
  | ((with_reducible show AE _ (Expr.BinOp _ Operator.Add _ _) _ _ _); refine ae_add ?_)
  | ((with_reducible show AE _ (Expr.BinOp _ Operator.Sub _ _) _ _ _); refine ae_sub ?_)
  | ((with_reducible show AE _ (Expr.BinOp _ Operator.Mult _ _) _ _ _); refine ae_mul ?_)
  | ((with_reducible show AE _ (Expr.BinOp _ Operator.FloorDiv _ _) _ _ _); refine ae_fdiv ?_)
  | ((with_reducible show AE _ (Expr.BinOp _ Operator.Mod _ _) _ _ _); refine ae_mod ?_)
  | ((with_reducible show AE _ (Expr.Compare _ [CmpOp.Lt] _ _) _ _ _); refine ae_lt ?_)
  | ((with_reducible show AE _ (Expr.Compare _ [CmpOp.LtE] _ _) _ _ _); refine ae_le ?_)
  | ((with_reducible show AE _ (Expr.Compare _ [CmpOp.Gt] _ _) _ _ _); refine ae_gt ?_)
  | ((with_reducible show AE _ (Expr.Compare _ [CmpOp.GtE] _ _) _ _ _); refine ae_ge ?_)
  | ((with_reducible show AE _ (Expr.Compare _ [CmpOp.Eq] _ _) _ _ _); refine ae_eqs ?_)
  | ((with_reducible show AE _ (Expr.Compare _ [CmpOp.NotEq] _ _) _ _ _); refine ae_nes ?_)
  | ((with_reducible show AT _ (Expr.Compare _ [CmpOp.Eq] _ _) _ _ _); refine at_eqs ?_)
  | ((with_reducible show AT _ (Expr.Compare _ [CmpOp.NotEq] _ _) _ _ _); refine at_nes ?_)
  | ((with_reducible show AT _ (Expr.Compare _ [CmpOp.Lt] _ _) _ _ _); refine at_lt ?_)
  | ((with_reducible show AT _ (Expr.Compare _ [CmpOp.LtE] _ _) _ _ _); refine at_le ?_)
  | ((with_reducible show AT _ (Expr.Compare _ [CmpOp.Gt] _ _) _ _ _); refine at_gt ?_)
  | ((with_reducible show AT _ (Expr.Compare _ [CmpOp.GtE] _ _) _ _ _); refine at_ge ?_)
  | ((with_reducible show AT _ (Expr.UnaryOp UnaryOp.Not _ _) _ _ _); refine at_not ?_)
  | ((with_reducible show AT _ (Expr.Call _ _ _ _) _ _ _); refine at_val ?_)
  | ((with_reducible show AR _ rEq (DV.dat (PyData.int _)) (DV.dat (PyData.int _)) _ _); refine ar_eqI ?_)
  | ((with_reducible show AR _ rNe (DV.dat (PyData.int _)) (DV.dat (PyData.int _)) _ _); refine ar_neI ?_)
  | ((with_reducible show AR _ rEq (DV.dat (PyData.str _)) (DV.dat (PyData.str _)) _ _); refine ar_eqS ?_)
  | ((with_reducible show AR _ rNe (DV.dat (PyData.str _)) (DV.dat (PyData.str _)) _ _); refine ar_neS ?_)
  | ((with_reducible show ∃ c, DV.dat (PyData.bool _) = DV.dat (PyData.bool c) ∧ _); refine ⟨_, rfl, ?_⟩)
  | ((with_reducible show AE _ (Expr.Tuple _ _ _) _ _ _); refine ae_tup ?_)
  | ((with_reducible show AE _ (Expr.Subscript _ _ _) _ _ _); refine ae_ixT ?_)
  | ((with_reducible show ∃ i j, DV.dat (PyData.int _) = DV.dat (PyData.int i) ∧ DV.dat (PyData.int _) = DV.dat (PyData.int j) ∧ _); refine ⟨_, _, rfl, rfl, ?_⟩)
  | ((with_reducible show ∃ xs i d, DV.dat (PyData.tuple _) = DV.dat (PyData.tuple xs) ∧ _); refine ⟨_, _, _, rfl, rfl, rfl, ?_⟩))
local macro_rules | `(tactic| walk_at "ax") => `(tactic| repeat (walk_at "ax1"))
local macro_rules | `(tactic| walk_at "ay1") => `(tactic| first
  | walk_at "ax1"
  | ((with_reducible show AE _ (Expr.UnaryOp UnaryOp.USub _ _) _ _ _); refine ae_neg ?_)
  | ((with_reducible show ∃ i, DV.dat (PyData.int _) = DV.dat (PyData.int i) ∧ _); refine ⟨_, rfl, ?_⟩)
  | ((with_reducible show ∃ xs : List PyData, [_, _] = List.map DV.dat xs ∧ _); refine ⟨[_, _], rfl, Nat.le_of_ble_eq_true rfl, ?_⟩)
  | ((with_reducible show ∃ xs : List PyData, [_, _, _] = List.map DV.dat xs ∧ _); refine ⟨[_, _, _], rfl, Nat.le_of_ble_eq_true rfl, ?_⟩))
local macro_rules | `(tactic| walk_at "ay") => `(tactic| repeat (walk_at "ay1"))
variable {P : Program} {w : World} {K : PySem.W.Frag} {mg : Str → Option Value} {base : Heap} {C : Addr}
open TL Wd
theorem hu64 {k : Nat} {A : Around} (hr : Room k A) : A.units + 64 < cLine := by have := hr.un; omega
theorem hu1 {k : Nat} {A : Around} (hr : Room k A) : A.units + 1 < cLine := by have := hr.un; omega
/-! ### steps, regions -/
abbrev Step := Int × Int × Int × Int
abbrev stD (s : Step) : PyData := .tuple [.int s.1, .int s.2.1, frD s.2.2]
def lowI (r : Str) : Int := if r ∈ [("inside" : Str), ("first" : Str)] then -1 else 0
def lowJ (r : Str) : Int := if r ∈ [("inside" : Str), ("second" : Str)] then -1 else 0
def may (r : Str) (i j : Int) : Bool := (decide (lowI r ≤ i) && decide (i ≤ 3)) && (decide (lowJ r ≤ j) && decide (j ≤ 3))
def findC (xs : List Step) (i j : Int) : Int × Int := match xs with
  | [] => (0, 1)
  | s :: r => if s.1 = i ∧ s.2.1 = j then s.2.2 else findC r i j
def S_may_step : DS1 := fun vs M k => ∃ (r : Str) (i j : Int), vs = [.dat (.str r), .dat (.int i), .dat (.int j)] ∧ k (.dat (.bool (may r i j))) M
theorem sc_may_step : FnScope ["region", "i", "j", "low_i", "low_j"] ["region", "i", "j"] (defScope s_may_step) := ⟨rfl, rfl, rfl, by decide +kernel, rfl, by decide +kernel, by decide +kernel⟩
theorem d_may_step (T : Txt K mg C) (D_is_integer : Def P w K mg base "is_integer" 1 S_is_integer) {f : Addr} {fd : FuncData} (F : Fun K "may_step" "may_step" s_may_step f fd) (hm : mg "may_step" = some (.ref f)) (hb : Binds K fd ["region", "i", "j"] []) : Def P w K mg base "may_step" 2 S_may_step := by
  refine def_ok F hm hb sc_may_step (fun ds M k h => ?_) (fun cdv A outer s H E ds M kk hl nd hr h => ?_)
  · obtain ⟨r, i, j, rfl, _⟩ := h; rfl
  · obtain ⟨r, i, j, rfl, q⟩ := h
    walk_at "set"
    refine ae_P (.dat (.int (lowI r))) ?_ ?_
    · refine ae_ifP (decide (r ∈ [("inside" : Str), ("first" : Str)])) (at_inS ?_) (fun h => ?_) (fun h => ?_)
      · walk_at "ax"
        refine ⟨[_, _], rfl, Nat.le_of_ble_eq_true rfl, ?_⟩
        exact ⟨_, [_, _], rfl, rfl, rfl, rfl⟩
      · refine ae_neg ?_
        walk_at "ax"
        refine ⟨_, rfl, ?_, rfl⟩
        unfold lowI; rw [if_pos (of_decide_eq_true h)]
      · walk_at "ax"
        refine ⟨?_, rfl⟩
        unfold lowI; rw [if_neg (of_decide_eq_false h)]
    walk_at "set"
    refine ae_P (.dat (.int (lowJ r))) ?_ ?_
    · refine ae_ifP (decide (r ∈ [("inside" : Str), ("second" : Str)])) (at_inS ?_) (fun h => ?_) (fun h => ?_)
      · walk_at "ax"
        refine ⟨[_, _], rfl, Nat.le_of_ble_eq_true rfl, ?_⟩
        exact ⟨_, [_, _], rfl, rfl, rfl, rfl⟩
      · refine ae_neg ?_
        walk_at "ax"
        refine ⟨_, rfl, ?_, rfl⟩
        unfold lowJ; rw [if_pos (of_decide_eq_true h)]
      · walk_at "ax"
        refine ⟨?_, rfl⟩
        unfold lowJ; rw [if_neg (of_decide_eq_false h)]
    refine as_cons (as_ret (ae_and (ae_call D_is_integer hr ?_)))
    walk_at "ax"
    refine .inl ⟨_, rfl, _, rfl, fun _ => ?_, fun h => (by cases h)⟩
    have q : kk (.dat (.bool ((decide (lowI r ≤ i) && decide (i ≤ 3)) && (decide (lowJ r ≤ j) && decide (j ≤ 3))))) M := q
    refine ae_and (ae_P (.dat (.bool (decide (lowI r ≤ i) && decide (i ≤ 3)))) ?_ ⟨_, rfl, fun h => ?_, fun h => ?_⟩)
    · refine ae_chain op_le op_le ?_
      walk_at "ax"
      refine ⟨fun h => ?_, fun h => ?_⟩
      · walk_at "ax"
        refine ⟨_, rfl, ?_, rfl⟩
        rw [h]; rfl
      · rw [h]; exact ⟨rfl, rfl⟩
    · refine ae_and (ae_call D_is_integer hr ?_)
      walk_at "ax"
      refine .inl ⟨_, rfl, _, rfl, fun _ => ?_, fun h => (by cases h)⟩
      refine ae_one (ae_chain op_le op_le ?_)
      walk_at "ax"
      rw [h] at q
      refine ⟨fun h2 => ?_, fun h2 => ?_⟩
      · walk_at "ax"
        refine ⟨_, rfl, ?_⟩
        rw [h2] at q; exact q
      · rw [h2] at q; exact q
    · rw [h] at q; exact q
abbrev stLs (M : MS) (d : DV) (xs : List Step) : Prop := SeqD M d ((xs.map stD).map .dat)
def S_find_chance : DS1 := fun vs M k => ∃ (d : DV) (xs : List Step) (i j : Int), vs = [d, .dat (.int i), .dat (.int j)] ∧ stLs M d xs ∧ k (frV (findC xs i j)) M
theorem sc_find_chance : FnScope ["steps", "i", "j", "step_i", "step_j", "chance"] ["steps", "i", "j"] (defScope s_find_chance) := ⟨rfl, rfl, rfl, by decide +kernel, rfl, by decide +kernel, by decide +kernel⟩
theorem findC_drop {xs : List Step} {n : Nat} {s : Step} (h : xs[n]? = some s) (i j : Int) : findC (xs.drop n) i j = if s.1 = i ∧ s.2.1 = j then s.2.2 else findC (xs.drop (n + 1)) i j := by
  have hn := (List.getElem?_eq_some_iff.mp h).1
  rw [List.drop_eq_getElem_cons hn]
  have e : xs[n] = s := (List.getElem?_eq_some_iff.mp h).2
  rw [e]; rfl
theorem eqv2 (a b c d : Int) : PyData.eqv (.tuple [.int a, .int b]) (.tuple [.int c, .int d]) = (decide (a = c) && decide (b = d)) := by
  simp [PyData.eqv, PyData.eqvAll]
  try rfl
theorem d_find_chance (T : Txt K mg C) {f : Addr} {fd : FuncData} (F : Fun K "find_chance" "find_chance" s_find_chance f fd) (hm : mg "find_chance" = some (.ref f)) (hb : Binds K fd ["steps", "i", "j"] []) : Def P w K mg base "find_chance" 1 S_find_chance := by
  refine def_ok F hm hb sc_find_chance (fun ds M k h => ?_) (fun cdv A outer s H E ds M kk hl nd hr h => ?_)
  · obtain ⟨d, xs, i, j, rfl, _⟩ := h; rfl
  · obtain ⟨d, xs, i, j, rfl, hd, q⟩ := h
    have hs : SeqD M d ((xs.map stD).map .dat) := hd
    refine as_cons (as_for PassesOwn.never rfl (W := fun n ds' M' => M' = M ∧ kk (frV (findC (xs.drop n) i j)) M ∧ ∃ x y z, ds' = [some d, some (.dat (.int i)), some (.dat (.int j)), x, y, z]) (ai_seq (d := d) (xs := (xs.map stD).map .dat) ?_) (fun _ _ _ h => by rw [h.1]; exact hs))
    walk_at "ax"
    refine ⟨rfl, hs, ⟨rfl, q, _, _, _, rfl⟩, fun n d ds' M' hx hw => ?_, fun ds' M' hw => ?_⟩
    · obtain ⟨rfl, q, x, y, z, rfl⟩ := hw
      obtain ⟨s, hs, rfl⟩ := getF hx
      refine ag_tup rfl rfl (ags_cons ?_)
      walk_at "ag"
      refine ags_cons ?_
      walk_at "ag"
      refine ags_cons ?_
      walk_at "ag"
      refine ags_nil ?_
      rw [findC_drop hs] at q
      refine as_cons (as_ifP (decide (s.1 = i) && decide (s.2.1 = j)) (at_eqD (hu64 hr) ?_) (fun h => ?_) fun h => ?_)
      · walk_at "ax"
        refine ⟨[_, _], rfl, Nat.le_of_ble_eq_true rfl, ?_⟩
        walk_at "ax"
        refine ⟨[_, _], rfl, Nat.le_of_ble_eq_true rfl, ?_⟩
        exact ar_eqD rfl rfl (eqv2 _ _ _ _) ⟨_, rfl, rfl, rfl⟩
      · refine as_cons (as_ret ?_)
        walk_at "ax"
        rw [if_pos (by simpa using h)] at q
        exact q
      · refine as_nil (as_nil ⟨rfl, ?_, _, _, _, rfl⟩)
        rw [if_neg (by simpa using h)] at q
        exact q
    · obtain ⟨rfl, q, x, y, z, rfl⟩ := hw
      refine as_cons (as_ret (ae_globD T.g_ZERO ?_))
      rw [List.length_map, List.length_map, List.drop_length] at q
      exact q
end B

set_option Elab.async false
set_option linter.all false
set_option maxRecDepth 100000
set_option maxHeartbeats 4000000
namespace B
open PySem PySem.Spec PyProof.Rows L2 A
local macro_rules | `(tactic| walk_at "nm") => `(tactic| refine ae_nameT (by assumption) rfl ?_)
local macro_rules | `(tactic| walk_at "ag") => `(tactic| refine ag_nameT (by assumption) (by assumption) ?_)
local macro_rules | `(tactic| walk_at "agc") => `(tactic| (refine agc_nameU (by assumption) (by assumption) ?_ ?_; · decide))
local macro_rules | `(tactic| walk_at "set") => `(tactic| refine as_setT (by assumption) (by assumption) ?_)
local macro_rules | `(tactic| walk_at "ax1") => `(tactic| first
  | ((with_reducible show AE _ (Expr.Name _ _) _ _ _); walk_at "nm")
  | ((with_reducible show AA _ (_ :: _) _ _ _); refine aa_cons ?_)
  | ((with_reducible show AA _ [] _ _ _); refine aa_nil ?_)
  | ((with_reducible show AE _ (Expr.Constant _ _ _) _ _ _); first | refine ae_int ?_ | refine ae_str ?_ | refine ae_bl ?_ | refine ae_non ?_)
  | ((with_reducible show AE _ (Expr.BinOp _ Operator.Add _ _) _ _ _); refine ae_add ?_)
  | ((with_reducible show AE _ (Expr.BinOp _ Operator.Sub _ _) _ _ _); refine ae_sub ?_)
  | ((with_reducible show AE _ (Expr.BinOp _ Operator.Mult _ _) _ _ _); refine ae_mul ?_)
  | ((with_reducible show AE _ (Expr.BinOp _ Operator.FloorDiv _ _) _ _ _); refine ae_fdiv ?_)
  | ((with_reducible show AE _ (Expr.BinOp _ Operator.Mod _ _) _ _ _); refine ae_mod ?_)
  | ((with_reducible show AE _ (Expr.Compare _ [CmpOp.Lt] _ _) _ _ _); refine ae_lt ?_)
  | ((with_reducible show AE _ (Expr.Compare _ [CmpOp.LtE] _ _) _ _ _); refine ae_le ?_)
  | ((with_reducible show AE _ (Expr.Compare _ [CmpOp.Gt] _ _) _ _ _); refine ae_gt ?_)
  | ((with_reducible show AE _ (Expr.Compare _ [CmpOp.GtE] _ _) _ _ _); refine ae_ge ?_)
  | ((with_reducible show AE _ (Expr.Compare _ [CmpOp.Eq] _ _) _ _ _); refine ae_eqs ?_)
  | ((with_reducible show AE _ (Expr.Compare _ [CmpOp.NotEq] _ _) _ _ _); refine ae_nes ?_)
  | ((with_reducible show AT _ (Expr.Compare _ [CmpOp.Eq] _ _) _ _ _); refine at_eqs ?_)
  | ((with_reducible show AT _ (Expr.Compare _ [CmpOp.NotEq] _ _) _ _ _); refine at_nes ?_)
  | ((with_reducible show AT _ (Expr.Compare _ [CmpOp.Lt] _ _) _ _ _); refine at_lt ?_)
  | ((with_reducible show AT _ (Expr.Compare _ [CmpOp.LtE] _ _) _ _ _); refine at_le ?_)
  | ((with_reducible show AT _ (Expr.Compare _ [CmpOp.Gt] _ _) _ _ _); refine at_gt ?_)
  | ((with_reducible show AT _ (Expr.Compare _ [CmpOp.GtE] _ _) _ _ _); refine at_ge ?_)
  | ((with_reducible show AT _ (Expr.UnaryOp UnaryOp.Not _ _) _ _ _); refine at_not ?_)
  | ((with_reducible show AT _ (Expr.Call _ _ _ _) _ _ _); refine at_val ?_)
  | ((with_reducible show AR _ rEq (DV.dat (PyData.int _)) (DV.dat (PyData.int _)) _ _); refine ar_eqI ?_)
  | ((with_reducible show AR _ rNe (DV.dat (PyData.int _)) (DV.dat (PyData.int _)) _ _); refine ar_neI ?_)
  | ((with_reducible show AR _ rEq (DV.dat (PyData.str _)) (DV.dat (PyData.str _)) _ _); refine ar_eqS ?_)
  | ((with_reducible show AR _ rNe (DV.dat (PyData.str _)) (DV.dat (PyData.str _)) _ _); refine ar_neS ?_)
  | ((with_reducible show ∃ c, DV.dat (PyData.bool _) = DV.dat (PyData.bool c) ∧ _); refine ⟨_, rfl, ?_⟩)
  | ((with_reducible show AE _ (Expr.Tuple _ _ _) _ _ _); refine ae_tup ?_)
  | ((with_reducible show AE _ (Expr.Subscript _ _ _) _ _ _); refine ae_ixT ?_)
  | ((with_reducible show ∃ i j, DV.dat (PyData.int _) = DV.dat (PyData.int i) ∧ DV.dat (PyData.int _) = DV.dat (PyData.int j) ∧ _); refine ⟨_, _, rfl, rfl, ?_⟩)
  | ((with_reducible show ∃ xs i d, DV.dat (PyData.tuple _) = DV.dat (PyData.tuple xs) ∧ _); refine ⟨_, _, _, rfl, rfl, rfl, ?_⟩))
local macro_rules | `(tactic| walk_at "ax") => `(tactic| repeat (walk_at "ax1"))
local macro_rules | `(tactic| walk_at "ay1") => `(tactic| first
  | walk_at "ax1"
  | ((with_reducible show AE _ (Expr.UnaryOp UnaryOp.USub _ _) _ _ _); refine ae_neg ?_)
  | ((with_reducible show ∃ i, DV.dat (PyData.int _) = DV.dat (PyData.int i) ∧ _); refine ⟨_, rfl, ?_⟩)
  | ((with_reducible show ∃ xs : List PyData, [_, _] = List.map DV.dat xs ∧ _); refine ⟨[_, _], rfl, Nat.le_of_ble_eq_true rfl, ?_⟩)
  | ((with_reducible show ∃ xs : List PyData, [_, _, _] = List.map DV.dat xs ∧ _); refine ⟨[_, _, _], rfl, Nat.le_of_ble_eq_true rfl, ?_⟩))
local macro_rules | `(tactic| walk_at "ay") => `(tactic| repeat (walk_at "ay1"))
variable {P : Program} {w : World} {K : PySem.W.Frag} {mg : Str → Option Value} {base : Heap} {C : Addr}
open TL Wd
def regs : List Str := [("inside" : Str), ("first" : Str), ("second" : Str), ("none" : Str)]
def S_is_pair : DS1 := fun vs M k => ∃ x y n : Int, vs = [.dat (.tuple [.int x, .int y]), .dat (.int n)] ∧ k (.dat (.bool ((decide (0 ≤ x) && decide (x ≤ n)) && (decide (0 ≤ y) && decide (y ≤ n))))) M
def regOf (x y : Int) : Str := if 0 < x then (if 0 < y then "inside" else "first") else if 0 < y then "second" else "none"
def S_region_at : DS1 := fun vs M k => ∃ x y : Int, vs = [.dat (.tuple [.int x, .int y])] ∧ 0 ≤ x ∧ x ≤ 10 ^ 9 ∧ 0 ≤ y ∧ y ≤ 10 ^ 9 ∧ k (.dat (.str (regOf x y))) M
/-- a book's fields -/
abbrev Own := Str → List Step
def rowsD (xs : List Step) : PyData := .tuple (xs.map stD)
def bkF (t : Str) (o : Own) : List (Str × PyData) := [("text", .str t), ("inside", rowsD (o "inside")), ("first", rowsD (o "first")), ("second", rowsD (o "second")), ("none", rowsD (o "none"))]
def S_steps_of (C : Addr) : DS1 := fun vs M k => ∃ (t : Str) (o : Own) (r : Str), vs = [.obj C (bkF t o), .dat (.str r)] ∧ r ∈ regs ∧ k (.dat (rowsD (o r))) M
def S_chance_of (C : Addr) : DS1 := fun vs M k => ∃ (t : Str) (o : Own) (r : Str) (i j : Int), vs = [.obj C (bkF t o), .dat (.str r), .dat (.int i), .dat (.int j)] ∧ r ∈ regs ∧ may r i j = true ∧ k (frV (findC (o r) i j)) M
end B

set_option Elab.async false
set_option linter.all false
set_option maxRecDepth 100000
set_option maxHeartbeats 4000000
namespace B
open PySem PySem.Spec PyProof.Rows L2 A
local macro_rules | `(tactic| walk_at "nm") => `(tactic| refine ae_nameT (by assumption) rfl ?_)
local macro_rules | `(tactic| walk_at "ag") => `(tactic| refine ag_nameT (by assumption) (by assumption) ?_)
local macro_rules | `(tactic| walk_at "agc") => `(tactic| (refine agc_nameU (by assumption) (by assumption) ?_ ?_; · decide))
local macro_rules | `(tactic| walk_at "set") => `(tactic| refine as_setT (by assumption) (by assumption) ?_)
local macro_rules | `(tactic| walk_at "ax1") => `(tactic| first
  | ((with_reducible show AE _ (Expr.Name _ _) _ _ _); walk_at "nm")
  | ((with_reducible show AA _ (_ :: _) _ _ _); refine aa_cons ?_)
  | ((with_reducible show AA _ [] _ _ _); refine aa_nil ?_)
  | ((with_reducible show AE _ (Expr.Constant _ _ _) _ _ _); first | refine ae_int ?_ | refine ae_str ?_ | refine ae_bl ?_ | refine ae_non ?_)
  | ((with_reducible show AE _ (Expr.BinOp _ Operator.Add _ _) _ _ _); refine ae_add ?_)
  | ((with_reducible show AE _ (Expr.BinOp _ Operator.Sub _ _) _ _ _); refine ae_sub ?_)
  | ((with_reducible show AE _ (Expr.BinOp _ Operator.Mult _ _) _ _ _); refine ae_mul ?_)
  | ((with_reducible show AE _ (Expr.BinOp _ Operator.FloorDiv _ _) _ _ _); refine ae_fdiv ?_)
  | ((with_reducible show AE _ (Expr.BinOp _ Operator.Mod _ _) _ _ _); refine ae_mod ?_)
  | ((with_reducible show AE _ (Expr.Compare _ [CmpOp.Lt] _ _) _ _ _); refine ae_lt ?_)
  | ((with_reducible show AE _ (Expr.Compare _ [CmpOp.LtE] _ _) _ _ _); refine ae_le ?_)
  | ((with_reducible show AE _ (Expr.Compare _ [CmpOp.Gt] _ _) _ _ _); refine ae_gt ?_)
  | ((with_reducible show AE _ (Expr.Compare _ [CmpOp.GtE] _ _) _ _ _); refine ae_ge ?_)
  | ((with_reducible show AE _ (Expr.Compare _ [CmpOp.Eq] _ _) _ _ _); refine ae_eqs ?_)
  | ((with_reducible show AE _ (Expr.Compare _ [CmpOp.NotEq] _ _) _ _ _); refine ae_nes ?_)
  | ((with_reducible show AT _ (Expr.Compare _ [CmpOp.Eq] _ _) _ _ _); refine at_eqs ?_)
  | ((with_reducible show AT _ (Expr.Compare _ [CmpOp.NotEq] _ _) _ _ _); refine at_nes ?_)
  | ((with_reducible show AT _ (Expr.Compare _ [CmpOp.Lt] _ _) _ _ _); refine at_lt ?_)
  | ((with_reducible show AT _ (Expr.Compare _ [CmpOp.LtE] _ _) _ _ _); refine at_le ?_)
  | ((with_reducible show AT _ (Expr.Compare _ [CmpOp.Gt] _ _) _ _ _); refine at_gt ?_)
  | ((with_reducible show AT _ (Expr.Compare _ [CmpOp.GtE] _ _) _ _ _); refine at_ge ?_)
  | ((with_reducible show AT _ (Expr.UnaryOp UnaryOp.Not _ _) _ _ _); refine at_not ?_)
  | ((with_reducible show AT _ (Expr.Call _ _ _ _) _ _ _); refine at_val ?_)
  | ((with_reducible show AR _ rEq (DV.dat (PyData.int _)) (DV.dat (PyData.int _)) _ _); refine ar_eqI ?_)
  | ((with_reducible show AR _ rNe (DV.dat (PyData.int _)) (DV.dat (PyData.int _)) _ _); refine ar_neI ?_)
  | ((with_reducible show AR _ rEq (DV.dat (PyData.str _)) (DV.dat (PyData.str _)) _ _); refine ar_eqS ?_)
  | ((with_reducible show AR _ rNe (DV.dat (PyData.str _)) (DV.dat (PyData.str _)) _ _); refine ar_neS ?_)
  | ((with_reducible show ∃ c, DV.dat (PyData.bool _) = DV.dat (PyData.bool c) ∧ _); refine ⟨_, rfl, ?_⟩)
  | ((with_reducible show AE _ (Expr.Tuple _ _ _) _ _ _); refine ae_tup ?_)
  | ((with_reducible show AE _ (Expr.Subscript _ _ _) _ _ _); refine ae_ixT ?_)
  | ((with_reducible show ∃ i j, DV.dat (PyData.int _) = DV.dat (PyData.int i) ∧ DV.dat (PyData.int _) = DV.dat (PyData.int j) ∧ _); refine ⟨_, _, rfl, rfl, ?_⟩)
  | ((with_reducible show ∃ xs i d, DV.dat (PyData.tuple _) = DV.dat (PyData.tuple xs) ∧ _); refine ⟨_, _, _, rfl, rfl, rfl, ?_⟩))
local macro_rules | `(tactic| walk_at "ax") => `(tactic| repeat (walk_at "ax1"))
local macro_rules | `(tactic| walk_at "ay1") => `(tactic| first
  | walk_at "ax1"
  | ((with_reducible show AE _ (Expr.UnaryOp UnaryOp.USub _ _) _ _ _); refine ae_neg ?_)
  | ((with_reducible show ∃ i, DV.dat (PyData.int _) = DV.dat (PyData.int i) ∧ _); refine ⟨_, rfl, ?_⟩)
  | ((with_reducible show ∃ xs : List PyData, [_, _] = List.map DV.dat xs ∧ _); refine ⟨[_, _], rfl, Nat.le_of_ble_eq_true rfl, ?_⟩)
  | ((with_reducible show ∃ xs : List PyData, [_, _, _] = List.map DV.dat xs ∧ _); refine ⟨[_, _, _], rfl, Nat.le_of_ble_eq_true rfl, ?_⟩))
local macro_rules | `(tactic| walk_at "ay") => `(tactic| repeat (walk_at "ay1"))
variable {P : Program} {w : World} {K : PySem.W.Frag} {mg : Str → Option Value} {base : Heap} {C : Addr}
open TL Wd
set_option exponentiation.threshold 10000
/-! ### the texts of steps -/
abbrev numS (n : Int) : Str := toString n
def fracS (f : Int × Int) : Str := if f.2 = 1 then numS f.1 else numS f.1 ++ Str.ofString "/" ++ numS f.2
theorem tl_numS (n : Int) : tl (numS n) = numI n := tl_numI n
theorem numI_free {n : Int} {s : Nat} (h : s < 45 ∨ s = 46 ∨ s = 47 ∨ 57 < s) : s ∉ numI n := by
  unfold numI
  split
  · intro hm
    rcases List.mem_cons.mp hm with e | e
    · omega
    · exact numL_free (by omega) e
  · exact numL_free (by omega)
theorem numL_len : ∀ (k n : Nat), n < 10 ^ (k + 1) → (numL n).length ≤ k + 1
  | 0, n, h => by rw [numL_lt (by simpa using h)]; exact Nat.le_refl _
  | k + 1, n, h => by
    by_cases h1 : n < 10
    · rw [numL_lt h1]; simp
    · rw [numL_step (by omega)]
      have := numL_len k (n / 10) (by rw [Nat.pow_succ] at h; omega)
      rw [List.length_append]
      simp; omega
/-- a fraction that the texts can tell -/
structure GoodF (f : Int × Int) : Prop where
  can : Fr.Can f
  top : f.1.natAbs < 10 ^ 300
  bot : f.2.natAbs < 10 ^ 300
theorem numS_len {n : Int} (h : n.natAbs < 10 ^ 300) : (numS n).length ≤ 301 := by
  rw [len_tl, tl_numS]
  unfold numI
  have := numL_len 299 n.natAbs h
  split
  · rw [List.length_cons]; omega
  · omega
theorem slash_tl : tl (Str.ofString "/") = 47 :: [] := by rw [tl_ofString]; rfl
theorem fracS_len {f : Int × Int} (h : GoodF f) : (fracS f).length ≤ 603 := by
  unfold fracS
  have h1 := numS_len h.top
  have h2 := numS_len h.bot
  split
  · omega
  · rw [len_tl] at h1 h2
    rw [len_tl, tl_append, tl_append, List.length_append, List.length_append, slash_tl]
    simp only [List.length_cons, List.length_nil]; omega
theorem fracS_free {f : Int × Int} {s : Nat} (h : s < 45 ∨ s = 46 ∨ 57 < s) : s ∉ tl (fracS f) := by
  unfold fracS
  split
  · rw [tl_numS]; exact numI_free (by omega)
  · rw [tl_append, tl_append, tl_numS, tl_numS, slash_tl]
    intro hm
    rcases List.mem_append.mp hm with hm | hm
    · rcases List.mem_append.mp hm with hm | hm
      · exact numI_free (by omega) hm
      · simp at hm; omega
    · exact numI_free (by omega) hm
theorem readF_frac {f : Int × Int} (h : Fr.Can f) : readF (fracS f) = frD f := by
  unfold readF fracS
  by_cases h1 : f.2 = 1
  · rw [if_pos h1]
    have e : Txt.partition (numS f.1) (Str.ofString "/") = (numS f.1, Str.empty, Str.empty) := partition_none slash_tl (by rw [tl_numS]; exact numI_free (by omega))
    rw [e]
    simp only
    rw [tl_numS, readI_num]
    have e2 : (Str.empty.length != 0) = false := rfl
    rw [e2]
    simp [isFr, optD, h1]
  · rw [if_neg h1]
    have e : Txt.partition (numS f.1 ++ Str.ofString "/" ++ numS f.2) (Str.ofString "/") = (numS f.1, Str.ofString "/", numS f.2) := partition_app slash_tl (by rw [tl_numS]; exact numI_free (by omega))
    rw [e]
    simp only
    rw [tl_numS, tl_numS, readI_num, readI_num]
    have e2 : ((Str.ofString "/").length != 0) = true := by decide +kernel
    rw [e2]
    obtain ⟨h2, h3⟩ := h
    simp [isFr, optD, h1, h2, h3]
def lineS (s : Step) : Str := Txt.join (Str.ofString " ") [Str.ofString "step", numS s.1, numS s.2.1, fracS s.2.2]
theorem sp_tl : tl (Str.ofString " ") = 32 :: [] := by rw [tl_ofString]; rfl
theorem step_tl : tl (Str.ofString "step") = [115, 116, 101, 112] := by rw [tl_ofString]; rfl
theorem split_line (s : Step) : Txt.split (lineS s) (Str.ofString " ") = [Str.ofString "step", numS s.1, numS s.2.1, fracS s.2.2] := by
  refine split_join sp_tl (by decide +kernel) (by simp) fun p hp => ?_
  simp only [List.mem_cons, List.not_mem_nil, or_false] at hp
  rcases hp with rfl | rfl | rfl | rfl
  · rw [step_tl]; decide
  · rw [tl_numS]; exact numI_free (by omega)
  · rw [tl_numS]; exact numI_free (by omega)
  · exact fracS_free (by omega)
theorem tl_line (s : Step) : tl (lineS s) = [115, 116, 101, 112] ++ (32 :: (numI s.1 ++ (32 :: (numI s.2.1 ++ (32 :: tl (fracS s.2.2)))))) := by
  unfold lineS
  rw [TL.join_eq, tl_join]
  simp only [List.map]
  rw [step_tl, tl_numS, tl_numS, sp_tl]
  rfl
structure GoodS (s : Step) : Prop where
  i : s.1.natAbs < 10 ^ 300
  j : s.2.1.natAbs < 10 ^ 300
  f : GoodF s.2.2
  pos : 0 < s.2.2.1
theorem line_len {s : Step} (h : GoodS s) : (lineS s).length ≤ 2000 := by
  rw [len_tl, tl_line]
  have h1 := numS_len h.i
  have h2 := numS_len h.j
  have h3 := fracS_len h.f
  rw [len_tl, tl_numS] at h1 h2
  rw [len_tl] at h3
  simp only [List.length_append, List.length_cons, List.length_nil]
  omega
theorem line_free (s : Step) : 10 ∉ tl (lineS s) := by
  rw [tl_line]
  intro hm
  simp only [List.mem_append, List.mem_cons, List.not_mem_nil, or_false] at hm
  rcases hm with (e | e | e | e) | e | e | e | e | e | e
  all_goals first | omega | exact numI_free (by omega) e | exact fracS_free (by omega) e
theorem line_head (s : Step) : ∃ r, tl (lineS s) = 115 :: 116 :: r := ⟨_, tl_line s⟩
end B

set_option Elab.async false
set_option linter.all false
set_option maxRecDepth 100000
set_option maxHeartbeats 4000000
namespace B
open PySem PySem.Spec PyProof.Rows L2 A
local macro_rules | `(tactic| walk_at "nm") => `(tactic| refine ae_nameT (by assumption) rfl ?_)
local macro_rules | `(tactic| walk_at "ag") => `(tactic| refine ag_nameT (by assumption) (by assumption) ?_)
local macro_rules | `(tactic| walk_at "agc") => `(tactic| (refine agc_nameU (by assumption) (by assumption) ?_ ?_; · decide))
local macro_rules | `(tactic| walk_at "set") => `(tactic| refine as_setT (by assumption) (by assumption) ?_)
local macro_rules | `(tactic| walk_at "ax1") => `(tactic| first
  | ((with_reducible show AE _ (Expr.Name _ _) _ _ _); walk_at "nm")
  | ((with_reducible show AA _ (_ :: _) _ _ _); refine aa_cons ?_)
  | ((with_reducible show AA _ [] _ _ _); refine aa_nil ?_)
  | ((with_reducible show AE _ (Expr.Constant _ _ _) _ _ _); first | refine ae_int ?_ | refine ae_str ?_ | refine ae_bl ?_ | refine ae_non ?_)
  | ((with_reducible show AE _ (Expr.BinOp _ Operator.Add _ _) _ _ _); refine ae_add ?_)
  | ((with_reducible show AE _ (Expr.BinOp _ Operator.Sub _ _) _ _ _); refine ae_sub ?_)
  | ((with_reducible show AE _ (Expr.BinOp _ Operator.Mult _ _) _ _ _); refine ae_mul ?_)
  | ((with_reducible show AE _ (Expr.BinOp _ Operator.FloorDiv _ _) _ _ _); refine ae_fdiv ?_)
  | ((with_reducible show AE _ (Expr.BinOp _ Operator.Mod _ _) _ _ _); refine ae_mod ?_)
  | ((with_reducible show AE _ (Expr.Compare _ [CmpOp.Lt] _ _) _ _ _); refine ae_lt ?_)
  | ((with_reducible show AE _ (Expr.Compare _ [CmpOp.LtE] _ _) _ _ _); refine ae_le ?_)
  | ((with_reducible show AE _ (Expr.Compare _ [CmpOp.Gt] _ _) _ _ _); refine ae_gt ?_)
  | ((with_reducible show AE _ (Expr.Compare _ [CmpOp.GtE] _ _) _ _ _); refine ae_ge ?_)
  | ((with_reducible show AE _ (Expr.Compare _ [CmpOp.Eq] _ _) _ _ _); refine ae_eqs ?_)
  | ((with_reducible show AE _ (Expr.Compare _ [CmpOp.NotEq] _ _) _ _ _); refine ae_nes ?_)
  | ((with_reducible show AT _ (Expr.Compare _ [CmpOp.Eq] _ _) _ _ _); refine at_eqs ?_)
  | ((with_reducible show AT _ (Expr.Compare _ [CmpOp.NotEq] _ _) _ _ _); refine at_nes ?_)
  | ((with_reducible show AT _ (Expr.Compare _ [CmpOp.Lt] _ _) _ _ _); refine at_lt ?_)
  | ((with_reducible show AT _ (Expr.Compare _ [CmpOp.LtE] _ _) _ _ _); refine at_le ?_)
  | ((with_reducible show AT _ (Expr.Compare _ [CmpOp.Gt] _ _) _ _ _); refine at_gt ?_)
  | ((with_reducible show AT _ (Expr.Compare _ [CmpOp.GtE] _ _) _ _ _); refine at_ge ?_)
  | ((with_reducible show AT _ (Expr.UnaryOp UnaryOp.Not _ _) _ _ _); refine at_not ?_)
  | ((with_reducible show AT _ (Expr.Call _ _ _ _) _ _ _); refine at_val ?_)
  | ((with_reducible show AR _ rEq (DV.dat (PyData.int _)) (DV.dat (PyData.int _)) _ _); refine ar_eqI ?_)
  | ((with_reducible show AR _ rNe (DV.dat (PyData.int _)) (DV.dat (PyData.int _)) _ _); refine ar_neI ?_)
  | ((with_reducible show AR _ rEq (DV.dat (PyData.str _)) (DV.dat (PyData.str _)) _ _); refine ar_eqS ?_)
  | ((with_reducible show AR _ rNe (DV.dat (PyData.str _)) (DV.dat (PyData.str _)) _ _); refine ar_neS ?_)
  | ((with_reducible show ∃ c, DV.dat (PyData.bool _) = DV.dat (PyData.bool c) ∧ _); refine ⟨_, rfl, ?_⟩)
  | ((with_reducible show AE _ (Expr.Tuple _ _ _) _ _ _); refine ae_tup ?_)
  | ((with_reducible show AE _ (Expr.Subscript _ _ _) _ _ _); refine ae_ixT ?_)
  | ((with_reducible show ∃ i j, DV.dat (PyData.int _) = DV.dat (PyData.int i) ∧ DV.dat (PyData.int _) = DV.dat (PyData.int j) ∧ _); refine ⟨_, _, rfl, rfl, ?_⟩)
  | ((with_reducible show ∃ xs i d, DV.dat (PyData.tuple _) = DV.dat (PyData.tuple xs) ∧ _); refine ⟨_, _, _, rfl, rfl, rfl, ?_⟩))
local macro_rules | `(tactic| walk_at "ax") => `(tactic| repeat (walk_at "ax1"))
local macro_rules | `(tactic| walk_at "ay1") => `(tactic| first
  | walk_at "ax1"
  | ((with_reducible show AE _ (Expr.UnaryOp UnaryOp.USub _ _) _ _ _); refine ae_neg ?_)
  | ((with_reducible show ∃ i, DV.dat (PyData.int _) = DV.dat (PyData.int i) ∧ _); refine ⟨_, rfl, ?_⟩)
  | ((with_reducible show ∃ xs : List PyData, [_, _] = List.map DV.dat xs ∧ _); refine ⟨[_, _], rfl, Nat.le_of_ble_eq_true rfl, ?_⟩)
  | ((with_reducible show ∃ xs : List PyData, [_, _, _] = List.map DV.dat xs ∧ _); refine ⟨[_, _, _], rfl, Nat.le_of_ble_eq_true rfl, ?_⟩))
local macro_rules | `(tactic| walk_at "ay") => `(tactic| repeat (walk_at "ay1"))
variable {P : Program} {w : World} {K : PySem.W.Frag} {mg : Str → Option Value} {base : Heap} {C : Addr}
open TL Wd
set_option exponentiation.threshold 10000
def S_read_step : DS1 := fun vs M k => ∃ (s : Step) (n : Int) (r : Str) (d : DV) (xs : List Step), vs = [.dat (.str (lineS s)), .dat (.int n), .dat (.str r), d] ∧ GoodS s ∧ may r s.1 s.2.1 = true ∧ SeqD M d ((xs.map stD).map .dat) ∧ LenD M d xs.length ∧ xs.length < 12 ∧ findC xs s.1 s.2.1 = (0, 1) ∧ k (.dat (stD s)) M
theorem sc_read_step : FnScope ["line", "number", "region", "ahead", "words", "i", "j", "chance"] ["line", "number", "region", "ahead"] (defScope s_read_step) := ⟨rfl, rfl, rfl, by decide +kernel, rfl, by decide +kernel, by decide +kernel⟩
theorem len_le {n : Int} (h : n.natAbs < 10 ^ 300) : (numS n).length ≤ 640 := by have := numS_len h; omega
theorem d_read_step (T : Txt K mg C) (D_read_integer : Def P w K mg base "read_integer" 1 S_read_integer) (D_read_fraction : Def P w K mg base "read_fraction" 3 S_read_fraction) (D_may_step : Def P w K mg base "may_step" 2 S_may_step) (D_find_chance : Def P w K mg base "find_chance" 1 S_find_chance) {f : Addr} {fd : FuncData} (F : Fun K "read_step" "read_step" s_read_step f fd) (hm : mg "read_step" = some (.ref f)) (hb : Binds K fd ["line", "number", "region", "ahead"] []) : Def P w K mg base "read_step" 4 S_read_step := by
  refine def_ok F hm hb sc_read_step (fun ds M k h => ?_) (fun cdv A outer s H E ds M kk hl nd hr h => ?_)
  · obtain ⟨s, n, r, d, xs, rfl, _⟩ := h; rfl
  · obtain ⟨st, n, r, d, xs, rfl, hs, hmay, hd, hlen, hlt, hf, q⟩ := h
    walk_at "set"
    refine ae_bm PySem.F.plainAttrs_str PySem.F.slot_str_split PySem.F.type_str_split mt_split ?_
    walk_at "ax"
    refine ⟨.str _, ?_⟩
    walk_at "ax"
    refine arm_split rfl (Nat.le_trans (Nat.add_le_add_right (line_len hs) 2) (by decide)) ?_
    rw [split_line]
    refine as_cons (as_ifP false ?_ (fun z => by cases z) fun _ => ?_)
    · refine at_w (aw_or (at_nes ?_))
      refine ae_len T.b_len ?_
      walk_at "ax"
      refine ⟨_, _, rfl, .lst _, ?_⟩
      walk_at "ax"
      refine ⟨fun h => (by cases h), fun _ => aw_or1 (at_nes (ae_ixL ?_))⟩
      walk_at "ax"
      refine ⟨_, _, _, rfl, rfl, rfl, ?_⟩
      walk_at "ax"
      refine ⟨?_, rfl⟩
      rw [decide_eq_true rfl]; rfl
    refine as_nil ?_
    refine as_cons (as_par3 5 6 7 rfl nd ?_)
    refine aa_cons (ae_call D_read_integer (hr.mono (by decide)) (aa_cons (ae_ixL ?_)))
    walk_at "ax"
    refine ⟨_, _, _, rfl, rfl, rfl, aa_nil ⟨numS st.1, rfl, len_le hs.i, ?_⟩⟩
    rw [tl_numS, readI_num]
    refine aa_cons (ae_call D_read_integer (hr.mono (by decide)) (aa_cons (ae_ixL ?_)))
    walk_at "ax"
    refine ⟨_, _, _, rfl, rfl, rfl, aa_nil ⟨numS st.2.1, rfl, len_le hs.j, ?_⟩⟩
    rw [tl_numS, readI_num]
    refine aa_cons (ae_call D_read_fraction hr (aa_cons (ae_ixL ?_)))
    walk_at "ax"
    refine ⟨_, _, _, rfl, rfl, rfl, aa_nil ⟨fracS st.2.2, rfl, Nat.le_trans (fracS_len hs.f) (by decide), ?_⟩⟩
    rw [readF_frac hs.f.can]
    refine aa_nil ⟨_, _, _, rfl, ?_⟩
    refine as_cons (as_ifP false ?_ (fun z => by cases z) fun _ => ?_)
    · refine at_w (aw_or (at_not (at_val (ae_call D_may_step (hr.mono (by decide)) ?_))))
      walk_at "ax"
      refine ⟨r, st.1, st.2.1, rfl, _, rfl, ?_⟩
      rw [hmay]
      refine ⟨fun h => (by cases h), fun _ => aw_or (at_isN ?_)⟩
      walk_at "ax"
      refine ⟨_, rfl, fun h => (by cases h), fun _ => aw_or1 (at_le (ae_ixT ?_))⟩
      walk_at "ax"
      refine ⟨?_, rfl⟩
      have := hs.pos
      exact decide_eq_false (by omega)
    refine as_nil ?_
    refine as_cons (as_ifP false ?_ (fun z => by cases z) fun _ => ?_)
    · refine at_w (aw_or (at_eqs ?_))
      refine ae_len T.b_len ?_
      walk_at "ax"
      refine ⟨_, _, rfl, hlen, ?_⟩
      refine ae_globD T.g_MOST_STEPS ?_
      walk_at "ax"
      refine ⟨fun h => (by have := of_decide_eq_true h; omega), fun _ => aw_or1 (at_neD (hu64 hr) ?_)⟩
      refine ae_call D_find_chance (hr.mono (by decide)) ?_
      walk_at "ax"
      refine ⟨d, xs, st.1, st.2.1, rfl, hd, ?_⟩
      rw [hf]
      refine ae_globD T.g_ZERO ?_
      exact ar_neD rfl rfl (eqv2 _ _ _ _) ⟨_, rfl, rfl, rfl⟩
    refine as_nil ?_
    refine as_cons (as_ret ?_)
    walk_at "ax"
    exact ⟨[_, _, _], rfl, Nat.le_of_ble_eq_true rfl, q⟩
end B

set_option Elab.async false
set_option linter.all false
set_option maxRecDepth 100000
set_option maxHeartbeats 4000000
namespace B
open PySem PySem.Spec PyProof.Rows L2 A
local macro_rules | `(tactic| walk_at "nm") => `(tactic| refine ae_nameT (by assumption) rfl ?_)
local macro_rules | `(tactic| walk_at "ag") => `(tactic| refine ag_nameT (by assumption) (by assumption) ?_)
local macro_rules | `(tactic| walk_at "agc") => `(tactic| (refine agc_nameU (by assumption) (by assumption) ?_ ?_; · decide))
local macro_rules | `(tactic| walk_at "set") => `(tactic| refine as_setT (by assumption) (by assumption) ?_)
local macro_rules | `(tactic| walk_at "ax1") => `(tactic| first
  | ((with_reducible show AE _ (Expr.Name _ _) _ _ _); walk_at "nm")
  | ((with_reducible show AA _ (_ :: _) _ _ _); refine aa_cons ?_)
  | ((with_reducible show AA _ [] _ _ _); refine aa_nil ?_)
  | ((with_reducible show AE _ (Expr.Constant _ _ _) _ _ _); first | refine ae_int ?_ | refine ae_str ?_ | refine ae_bl ?_ | refine ae_non ?_)
  | ((with_reducible show AE _ (Expr.BinOp _ Operator.Add _ _) _ _ _); refine ae_add ?_)
  | ((with_reducible show AE _ (Expr.BinOp _ Operator.Sub _ _) _ _ _); refine ae_sub ?_)
  | ((with_reducible show AE _ (Expr.BinOp _ Operator.Mult _ _) _ _ _); refine ae_mul ?_)
  | ((with_reducible show AE _ (Expr.BinOp _ Operator.FloorDiv _ _) _ _ _); refine ae_fdiv ?_)
  | ((with_reducible show AE _ (Expr.BinOp _ Operator.Mod _ _) _ _ _); refine ae_mod ?_)
  | ((with_reducible show AE _ (Expr.Compare _ [CmpOp.Lt] _ _) _ _ _); refine ae_lt ?_)
  | ((with_reducible show AE _ (Expr.Compare _ [CmpOp.LtE] _ _) _ _ _); refine ae_le ?_)
  | ((with_reducible show AE _ (Expr.Compare _ [CmpOp.Gt] _ _) _ _ _); refine ae_gt ?_)
  | ((with_reducible show AE _ (Expr.Compare _ [CmpOp.GtE] _ _) _ _ _); refine ae_ge ?_)
  | ((with_reducible show AE _ (Expr.Compare _ [CmpOp.Eq] _ _) _ _ _); refine ae_eqs ?_)
  | ((with_reducible show AE _ (Expr.Compare _ [CmpOp.NotEq] _ _) _ _ _); refine ae_nes ?_)
  | ((with_reducible show AT _ (Expr.Compare _ [CmpOp.Eq] _ _) _ _ _); refine at_eqs ?_)
  | ((with_reducible show AT _ (Expr.Compare _ [CmpOp.NotEq] _ _) _ _ _); refine at_nes ?_)
  | ((with_reducible show AT _ (Expr.Compare _ [CmpOp.Lt] _ _) _ _ _); refine at_lt ?_)
  | ((with_reducible show AT _ (Expr.Compare _ [CmpOp.LtE] _ _) _ _ _); refine at_le ?_)
  | ((with_reducible show AT _ (Expr.Compare _ [CmpOp.Gt] _ _) _ _ _); refine at_gt ?_)
  | ((with_reducible show AT _ (Expr.Compare _ [CmpOp.GtE] _ _) _ _ _); refine at_ge ?_)
  | ((with_reducible show AT _ (Expr.UnaryOp UnaryOp.Not _ _) _ _ _); refine at_not ?_)
  | ((with_reducible show AT _ (Expr.Call _ _ _ _) _ _ _); refine at_val ?_)
  | ((with_reducible show AR _ rEq (DV.dat (PyData.int _)) (DV.dat (PyData.int _)) _ _); refine ar_eqI ?_)
  | ((with_reducible show AR _ rNe (DV.dat (PyData.int _)) (DV.dat (PyData.int _)) _ _); refine ar_neI ?_)
  | ((with_reducible show AR _ rEq (DV.dat (PyData.str _)) (DV.dat (PyData.str _)) _ _); refine ar_eqS ?_)
  | ((with_reducible show AR _ rNe (DV.dat (PyData.str _)) (DV.dat (PyData.str _)) _ _); refine ar_neS ?_)
  | ((with_reducible show ∃ c, DV.dat (PyData.bool _) = DV.dat (PyData.bool c) ∧ _); refine ⟨_, rfl, ?_⟩)
  | ((with_reducible show AE _ (Expr.Tuple _ _ _) _ _ _); refine ae_tup ?_)
  | ((with_reducible show AE _ (Expr.Subscript _ _ _) _ _ _); refine ae_ixT ?_)
  | ((with_reducible show ∃ i j, DV.dat (PyData.int _) = DV.dat (PyData.int i) ∧ DV.dat (PyData.int _) = DV.dat (PyData.int j) ∧ _); refine ⟨_, _, rfl, rfl, ?_⟩)
  | ((with_reducible show ∃ xs i d, DV.dat (PyData.tuple _) = DV.dat (PyData.tuple xs) ∧ _); refine ⟨_, _, _, rfl, rfl, rfl, ?_⟩))
local macro_rules | `(tactic| walk_at "ax") => `(tactic| repeat (walk_at "ax1"))
local macro_rules | `(tactic| walk_at "ay1") => `(tactic| first
  | walk_at "ax1"
  | ((with_reducible show AE _ (Expr.UnaryOp UnaryOp.USub _ _) _ _ _); refine ae_neg ?_)
  | ((with_reducible show ∃ i, DV.dat (PyData.int _) = DV.dat (PyData.int i) ∧ _); refine ⟨_, rfl, ?_⟩)
  | ((with_reducible show ∃ xs : List PyData, [_, _] = List.map DV.dat xs ∧ _); refine ⟨[_, _], rfl, Nat.le_of_ble_eq_true rfl, ?_⟩)
  | ((with_reducible show ∃ xs : List PyData, [_, _, _] = List.map DV.dat xs ∧ _); refine ⟨[_, _, _], rfl, Nat.le_of_ble_eq_true rfl, ?_⟩))
local macro_rules | `(tactic| walk_at "ay") => `(tactic| repeat (walk_at "ay1"))
variable {P : Program} {w : World} {K : PySem.W.Frag} {mg : Str → Option Value} {base : Heap} {C : Addr}
open TL Wd
set_option exponentiation.threshold 10000
abbrev chD (d : DV) : DV := match d with
  | .dat (.tuple [_, _, c]) => .dat c
  | d => d
abbrev frs (g : List Step) : List (Int × Int) := g.map (·.2.2)
structure GoodR (g : List Step) : Prop where
  sm : ∀ s ∈ g, Sm s.2.2
  ps : ∀ n, Sm (parts (frs g) n)
  one : Fr.sum (frs g) = (1, 1)
  len : g.length ≤ 1000
  den : ∃ (t : Int) (wt : Step → Int), 0 < t ∧ t ≤ 100000000 ∧ (∀ s ∈ g, 0 ≤ wt s ∧ s.2.2 = Fr.low (wt s) t) ∧ (g.map wt).sum = t
abbrev stV (g : List Step) : List DV := (g.map stD).map .dat
/-- a list of lists of steps -/
structure Grp (M : MS) (q : Addr) (ps : List Addr) (gs : List (List Step)) : Prop where
  at_ : M q = some (.lst (ps.map fun p => .raw (.ref p)))
  len : ps.length = gs.length
  inn : ∀ (j : Nat) (p : Addr) (g : List Step), ps[j]? = some p → gs[j]? = some g → M p = some (.lst (stV g))
def S_check_chances : DS1 := fun vs M k => ∃ (q1 q2 : Addr) (n : Int) (ps : List Addr) (gs : List (List Step)), vs = [.raw (.ref q1), .raw (.ref q2), .dat (.int n)] ∧ Grp M q1 ps gs ∧ gs.length = 4 ∧ (∀ g ∈ gs, GoodR g) ∧ k (.dat .none) M
theorem sc_check_chances : FnScope ["found", "last_lines", "many_lines", "at", "_", "chance"] ["found", "last_lines", "many_lines"] (defScope s_check_chances) := ⟨rfl, rfl, rfl, by decide +kernel, rfl, by decide +kernel, by decide +kernel⟩
theorem get_rng {lo : Int} {n i : Nat} {d : DV} (h : (rngD lo n)[i]? = some d) : i < n ∧ d = .dat (.int (lo + i)) := by
  unfold rngD at h
  rw [List.getElem?_map] at h
  by_cases hi : i < n
  · rw [List.getElem?_range hi] at h
    cases h; exact ⟨hi, rfl⟩
  · rw [List.getElem?_eq_none (by rw [List.length_range]; omega)] at h; cases h
theorem atI_nat {α : Type} {xs : List α} {i : Nat} {x : α} (h : xs[i]? = some x) : atI xs (i : Int) = some x := by
  have hi := (List.getElem?_eq_some_iff.mp h).1
  unfold atI ixN
  rw [if_pos (by omega), if_pos (by omega)]
  simpa using h
theorem lcP_up {M : MS} {d : DV} {xs : List DV} (h : SeqD M d xs) (D : Addr) (m : MO) (hD : M D = none) : SeqD (upM M D m) d xs := by
  cases h with
  | lst xs => exact .lst xs
  | tup xs => exact .tup xs
  | chg h => exact .chg (by rw [upM_ne (fun e => by rw [e, hD] at h; cases h)]; exact h)
theorem freeze_up {M : MS} {D : Addr} {m : MO} (hD : M D = none) : (fun a => if a = D then none else upM M D m a) = M := by
  funext a
  by_cases h : a = D
  · subst h; rw [if_pos rfl, hD]
  · rw [if_neg h, upM_ne h]
/-- a new list, frozen at once -/
theorem wk_new {M : MS} {D : Addr} {xs : List PyData} (hD : M D = none) : Wk (.raw (.ref D)) (upM M D (.lst (xs.map .dat))) (.dat (.list xs)) M := by
  have := Wk.freeze (q := D) (xs := xs) (M := upM M D (.lst (xs.map .dat))) upM_same
  rw [freeze_up hD] at this
  exact this
theorem d_check_chances (T : Txt K mg C) (D_sum_of : Def P w K mg base "sum_of" 3 S_sum_of) {f : Addr} {fd : FuncData} (F : Fun K "check_chances" "check_chances" s_check_chances f fd) (hm : mg "check_chances" = some (.ref f)) (hb : Binds K fd ["found", "last_lines", "many_lines"] []) : Def P w K mg base "check_chances" 4 S_check_chances := by
  refine def_ok F hm hb sc_check_chances (fun ds M k h => ?_) (fun cdv A outer s H E ds M kk hl nd hr h => ?_)
  · obtain ⟨q1, q2, n, ps, gs, rfl, _⟩ := h; rfl
  · obtain ⟨q1, q2, n, ps, gs, rfl, hg, h4, hgood, q⟩ := h
    refine as_cons (as_for PassesOwn.never rfl (W := fun i ds' M' => M' = M ∧ ∃ x y z, ds' = [some (.raw (.ref q1)), some (.raw (.ref q2)), some (.dat (.int n)), x, y, z]) (ai_range1 T.b_range ?_))
    refine aa_cons (ae_len T.b_len (aa_cons (ae_globD T.g_REGIONS (aa_nil ⟨_, _, rfl, .tup _, aa_nil ⟨_, rfl, by decide, by decide, ?_⟩⟩))))
    refine ⟨⟨rfl, _, _, _, rfl⟩, fun i d ds' M' hx hw => ?_, fun ds' M' hw => ?_⟩
    · obtain ⟨rfl, x, y, z, rfl⟩ := hw
      obtain ⟨hi, rfl⟩ := get_rng hx
      have hi : i < 4 := hi
      rw [show (0 : Int) + (i : Int) = (i : Int) by omega]
      obtain ⟨p, hp⟩ : ∃ p, ps[i]? = some p := ⟨_, List.getElem?_eq_getElem (by rw [hg.len, h4]; exact hi)⟩
      obtain ⟨g, hgi⟩ : ∃ g, gs[i]? = some g := ⟨_, List.getElem?_eq_getElem (by rw [h4]; exact hi)⟩
      have hMp := hg.inn i p g hp hgi
      have hgd := hgood g (List.mem_of_getElem? hgi)
      walk_at "ag"
      refine as_cons (as_ifP false ?_ (fun z => by cases z) fun _ => ?_)
      · refine at_eqs ?_
        walk_at "ax"
        refine ae_len T.b_len ?_
        walk_at "ax"
        refine ⟨_, _, rfl, .chg hg.at_, ?_⟩
        walk_at "ax"
        refine ⟨decide_eq_false ?_, rfl⟩
        rw [List.length_map, hg.len, h4]; omega
      refine as_nil (as_cons (as_ifP false ?_ (fun z => by cases z) fun _ => ?_))
      · refine at_neD (hu64 hr) (ae_call D_sum_of hr (aa_cons (ae_wk (ae_lcP rfl nd (blkOk_by (own := [("_", 4), ("chance", 5)]) rfl) chD (ai_seq (d := .raw (.ref p)) (xs := stV g) (ae_ixM ?_))))))
        walk_at "ax"
        refine ⟨q1, _, _, _, rfl, rfl, hg.at_, atI_nat (by rw [List.getElem?_map, hp]; rfl), rfl, .chg hMp, ?_⟩
        refine ⟨fun D m hD => lcP_up (.chg hMp) D m hD, by rw [List.length_map, List.length_map]; have := hgd.len; omega, fun d M2 hd hle s H C cl fp => ?_, fun D hD => ?_⟩
        · obtain ⟨y, hy, rfl⟩ := List.mem_map.mp hd
          obtain ⟨st, hst, rfl⟩ := List.mem_map.mp hy
          refine agc_tup rfl rfl (agcs_cons ?_)
          walk_at "agc"
          refine agcs_cons ?_
          walk_at "agc"
          refine agcs_cons ?_
          walk_at "agc"
          refine agcs_nil fun s H C cl fp => ?_
          walk_at "ax"
          exact ⟨rfl, rfl⟩
        · have e : (stV g).map chD = ((frs g).map frD).map .dat := by
            rw [List.map_map, List.map_map, List.map_map, List.map_map]; rfl
          rw [e]
          refine ⟨_, _, wk_new hD, aa_nil ⟨_, rfl, fun f hf => ?_, hgd.ps, ?_⟩⟩
          · obtain ⟨st, hst, rfl⟩ := List.mem_map.mp hf
            exact hgd.sm st hst
          · rw [hgd.one]
            refine ae_globD T.g_ONE (ar_neD rfl rfl (eqv2 _ _ _ _) ⟨_, rfl, rfl, rfl⟩)
      exact as_nil (as_nil ⟨rfl, _, _, _, rfl⟩)
    · obtain ⟨rfl, x, y, z, rfl⟩ := hw
      exact as_nil q
end B

set_option Elab.async false
set_option linter.all false
set_option maxRecDepth 100000
set_option maxHeartbeats 4000000
namespace B
open PySem PySem.Spec PyProof.Rows L2 A
local macro_rules | `(tactic| walk_at "nm") => `(tactic| refine ae_nameT (by assumption) rfl ?_)
local macro_rules | `(tactic| walk_at "ag") => `(tactic| refine ag_nameT (by assumption) (by assumption) ?_)
local macro_rules | `(tactic| walk_at "agc") => `(tactic| (refine agc_nameU (by assumption) (by assumption) ?_ ?_; · decide))
local macro_rules | `(tactic| walk_at "set") => `(tactic| refine as_setT (by assumption) (by assumption) ?_)
local macro_rules | `(tactic| walk_at "ax1") => `(tactic| first
  | ((with_reducible show AE _ (Expr.Name _ _) _ _ _); walk_at "nm")
  | ((with_reducible show AA _ (_ :: _) _ _ _); refine aa_cons ?_)
  | ((with_reducible show AA _ [] _ _ _); refine aa_nil ?_)
  | ((with_reducible show AE _ (Expr.Constant _ _ _) _ _ _); first | refine ae_int ?_ | refine ae_str ?_ | refine ae_bl ?_ | refine ae_non ?_)
  | ((with_reducible show AE _ (Expr.BinOp _ Operator.Add _ _) _ _ _); refine ae_add ?_)
  | ((with_reducible show AE _ (Expr.BinOp _ Operator.Sub _ _) _ _ _); refine ae_sub ?_)
  | ((with_reducible show AE _ (Expr.BinOp _ Operator.Mult _ _) _ _ _); refine ae_mul ?_)
  | ((with_reducible show AE _ (Expr.BinOp _ Operator.FloorDiv _ _) _ _ _); refine ae_fdiv ?_)
  | ((with_reducible show AE _ (Expr.BinOp _ Operator.Mod _ _) _ _ _); refine ae_mod ?_)
  | ((with_reducible show AE _ (Expr.Compare _ [CmpOp.Lt] _ _) _ _ _); refine ae_lt ?_)
  | ((with_reducible show AE _ (Expr.Compare _ [CmpOp.LtE] _ _) _ _ _); refine ae_le ?_)
  | ((with_reducible show AE _ (Expr.Compare _ [CmpOp.Gt] _ _) _ _ _); refine ae_gt ?_)
  | ((with_reducible show AE _ (Expr.Compare _ [CmpOp.GtE] _ _) _ _ _); refine ae_ge ?_)
  | ((with_reducible show AE _ (Expr.Compare _ [CmpOp.Eq] _ _) _ _ _); refine ae_eqs ?_)
  | ((with_reducible show AE _ (Expr.Compare _ [CmpOp.NotEq] _ _) _ _ _); refine ae_nes ?_)
  | ((with_reducible show AT _ (Expr.Compare _ [CmpOp.Eq] _ _) _ _ _); refine at_eqs ?_)
  | ((with_reducible show AT _ (Expr.Compare _ [CmpOp.NotEq] _ _) _ _ _); refine at_nes ?_)
  | ((with_reducible show AT _ (Expr.Compare _ [CmpOp.Lt] _ _) _ _ _); refine at_lt ?_)
  | ((with_reducible show AT _ (Expr.Compare _ [CmpOp.LtE] _ _) _ _ _); refine at_le ?_)
  | ((with_reducible show AT _ (Expr.Compare _ [CmpOp.Gt] _ _) _ _ _); refine at_gt ?_)
  | ((with_reducible show AT _ (Expr.Compare _ [CmpOp.GtE] _ _) _ _ _); refine at_ge ?_)
  | ((with_reducible show AT _ (Expr.UnaryOp UnaryOp.Not _ _) _ _ _); refine at_not ?_)
  | ((with_reducible show AT _ (Expr.Call _ _ _ _) _ _ _); refine at_val ?_)
  | ((with_reducible show AR _ rEq (DV.dat (PyData.int _)) (DV.dat (PyData.int _)) _ _); refine ar_eqI ?_)
  | ((with_reducible show AR _ rNe (DV.dat (PyData.int _)) (DV.dat (PyData.int _)) _ _); refine ar_neI ?_)
  | ((with_reducible show AR _ rEq (DV.dat (PyData.str _)) (DV.dat (PyData.str _)) _ _); refine ar_eqS ?_)
  | ((with_reducible show AR _ rNe (DV.dat (PyData.str _)) (DV.dat (PyData.str _)) _ _); refine ar_neS ?_)
  | ((with_reducible show ∃ c, DV.dat (PyData.bool _) = DV.dat (PyData.bool c) ∧ _); refine ⟨_, rfl, ?_⟩)
  | ((with_reducible show AE _ (Expr.Tuple _ _ _) _ _ _); refine ae_tup ?_)
  | ((with_reducible show AE _ (Expr.Subscript _ _ _) _ _ _); refine ae_ixT ?_)
  | ((with_reducible show ∃ i j, DV.dat (PyData.int _) = DV.dat (PyData.int i) ∧ DV.dat (PyData.int _) = DV.dat (PyData.int j) ∧ _); refine ⟨_, _, rfl, rfl, ?_⟩)
  | ((with_reducible show ∃ xs i d, DV.dat (PyData.tuple _) = DV.dat (PyData.tuple xs) ∧ _); refine ⟨_, _, _, rfl, rfl, rfl, ?_⟩))
local macro_rules | `(tactic| walk_at "ax") => `(tactic| repeat (walk_at "ax1"))
local macro_rules | `(tactic| walk_at "ay1") => `(tactic| first
  | walk_at "ax1"
  | ((with_reducible show AE _ (Expr.UnaryOp UnaryOp.USub _ _) _ _ _); refine ae_neg ?_)
  | ((with_reducible show ∃ i, DV.dat (PyData.int _) = DV.dat (PyData.int i) ∧ _); refine ⟨_, rfl, ?_⟩)
  | ((with_reducible show ∃ xs : List PyData, [_, _] = List.map DV.dat xs ∧ _); refine ⟨[_, _], rfl, Nat.le_of_ble_eq_true rfl, ?_⟩)
  | ((with_reducible show ∃ xs : List PyData, [_, _, _] = List.map DV.dat xs ∧ _); refine ⟨[_, _, _], rfl, Nat.le_of_ble_eq_true rfl, ?_⟩))
local macro_rules | `(tactic| walk_at "ay") => `(tactic| repeat (walk_at "ay1"))
variable {P : Program} {w : World} {K : PySem.W.Frag} {mg : Str → Option Value} {base : Heap} {C : Addr}
open TL Wd
abbrev Blk := Str × List Step
def flat (bs : List Blk) : List Str := bs.flatMap fun b => b.1 :: b.2.map lineS
theorem flat_app (a b : List Blk) : flat (a ++ b) = flat a ++ flat b := List.flatMap_append
theorem flat_cons (b : Blk) (bs : List Blk) : flat (b :: bs) = b.1 :: (b.2.map lineS ++ flat bs) := rfl
def AtB (bs : List Blk) (i : Nat) (gs : List (List Step)) : Prop :=
  (i = 0 ∧ gs = []) ∨ ∃ bs1 r xs bs2 j, bs = bs1 ++ (r, xs) :: bs2 ∧ j ≤ xs.length ∧ i = (flat bs1).length + 1 + j ∧ gs = bs1.map (·.2) ++ [xs.take j]
theorem AtB.step {bs : List Blk} {i : Nat} {gs : List (List Step)} {x : Str} (h : AtB bs i gs) (hx : (flat bs)[i]? = some x) :
    (∃ b, bs[gs.length]? = some b ∧ x = b.1 ∧ AtB bs (i + 1) (gs ++ [[]])) ∨
    (∃ gs0 g b s, gs = gs0 ++ [g] ∧ bs[gs0.length]? = some b ∧ b.2[g.length]? = some s ∧ g = b.2.take g.length ∧ x = lineS s ∧ AtB bs (i + 1) (gs0 ++ [g ++ [s]])) := by
  rcases h with ⟨rfl, rfl⟩ | ⟨bs1, r, xs, bs2, j, rfl, hj, rfl, rfl⟩
  · cases bs with
    | nil => cases hx
    | cons b bs =>
      rw [flat_cons] at hx
      cases hx
      exact .inl ⟨b, rfl, rfl, .inr ⟨[], b.1, b.2, bs, 0, rfl, Nat.zero_le _, rfl, rfl⟩⟩
  · rw [flat_app, flat_cons, show (flat bs1).length + 1 + j = (flat bs1).length + (1 + j) by omega, List.getElem?_append_right (by omega), Nat.add_sub_cancel_left, Nat.add_comm 1 j, List.getElem?_cons_succ] at hx
    by_cases hlt : j < xs.length
    · refine .inr ⟨bs1.map (·.2), xs.take j, (r, xs), xs[j], rfl, ?_, ?_, ?_, ?_, ?_⟩
      · rw [List.length_map, List.getElem?_append_right (Nat.le_refl _), Nat.sub_self]; rfl
      · rw [List.length_take, Nat.min_eq_left hj]; exact List.getElem?_eq_getElem hlt
      · rw [List.length_take, Nat.min_eq_left hj]
      · rw [List.getElem?_append_left (by rw [List.length_map]; exact hlt), List.getElem?_map, List.getElem?_eq_getElem hlt] at hx
        cases hx; rfl
      · refine .inr ⟨bs1, r, xs, bs2, j + 1, rfl, hlt, by omega, ?_⟩
        rw [List.take_add_one, List.getElem?_eq_getElem hlt]; rfl
    · have e : j = xs.length := by omega
      subst e
      rw [List.getElem?_append_right (by rw [List.length_map]; exact Nat.le_refl _), List.length_map, Nat.sub_self] at hx
      cases bs2 with
      | nil => cases hx
      | cons b bs2 =>
        rw [flat_cons] at hx
        cases hx
        refine .inl ⟨b, ?_, rfl, .inr ⟨bs1 ++ [(r, xs)], b.1, b.2, bs2, 0, by simp, Nat.zero_le _, ?_, ?_⟩⟩
        · rw [List.length_append, List.length_map, List.getElem?_append_right (by omega)]
          have : bs1.length + [xs.take xs.length].length - bs1.length = 1 := by simp
          rw [this]; rfl
        · have e : flat [(r, xs)] = r :: (xs.map lineS ++ []) := rfl
          rw [flat_app, List.length_append, e, List.length_cons, List.length_append, List.length_map, List.length_nil]; omega
        · rw [List.map_append, List.take_length]; rfl
theorem AtB.done {bs : List Blk} {gs : List (List Step)} (h : AtB bs (flat bs).length gs) : gs = bs.map (·.2) := by
  rcases h with ⟨h0, rfl⟩ | ⟨bs1, r, xs, bs2, j, rfl, hj, hi, rfl⟩
  · cases bs with
    | nil => rfl
    | cons b bs => rw [flat_cons] at h0; cases h0
  · rw [flat_app, flat_cons, List.length_append, List.length_cons, List.length_append, List.length_map] at hi
    dsimp only at hi
    have hb : bs2 = [] := by
      cases bs2 with
      | nil => rfl
      | cons b bs2 => rw [flat_cons, List.length_cons] at hi; omega
    subst hb
    have e : flat ([] : List Blk) = [] := rfl
    rw [e, List.length_nil] at hi
    have e2 : j = xs.length := by omega
    subst e2
    rw [List.take_length, List.map_append]; rfl
theorem enum_get {c : Int} {xs : List PyData} {i : Nat} {d : DV} (h : (enumD c xs)[i]? = some d) : ∃ x, xs[i]? = some x ∧ d = .dat (.tuple [.int (c + i), x]) := by
  unfold enumD at h
  rw [List.getElem?_map] at h
  by_cases hi : i < xs.length
  · rw [List.getElem?_range hi] at h
    cases h
    refine ⟨xs[i], List.getElem?_eq_getElem hi, ?_⟩
    have e : xs.getD i .none = xs[i] := by rw [List.getD_eq_getElem?_getD, List.getElem?_eq_getElem hi]; rfl
    simp only [e]
  · rw [List.getElem?_eq_none (by rw [List.length_range]; omega)] at h; cases h
theorem enum_len {c : Int} {xs : List PyData} : (enumD c xs).length = xs.length := by unfold enumD; rw [List.length_map, List.length_range]
theorem cut_tail {α : Type} {xs : List α} : A.cutD xs (some 1) none = xs.drop 1 := by
  unfold A.cutD
  have e1 : HT.sIx xs.length xs.length none = xs.length := rfl
  cases xs with
  | nil => rfl
  | cons x xs =>
    have e2 : HT.sIx (x :: xs).length 0 (some 1) = 1 := by
      simp [HT.sIx]
      try omega
    rw [e1, e2]
    simp
/-- a book's blocks -/
def blks (o : Own) : List Blk := regs.map fun r => (r, o r)
structure GoodO (o : Own) : Prop where
  r : ∀ x ∈ regs, GoodR (o x)
  s : ∀ x ∈ regs, ∀ s ∈ o x, GoodS s ∧ may x s.1 s.2.1 = true
  len : ∀ x ∈ regs, (o x).length ≤ 12
  nd : ∀ x ∈ regs, (o x).Pairwise fun s t => ¬(s.1 = t.1 ∧ s.2.1 = t.2.1)
theorem findC_none {xs : List Step} {i j : Int} (h : ∀ s ∈ xs, ¬(s.1 = i ∧ s.2.1 = j)) : findC xs i j = (0, 1) := by
  induction xs with
  | nil => rfl
  | cons s r ih =>
    unfold findC
    rw [if_neg (h s List.mem_cons_self)]
    exact ih fun t ht => h t (List.mem_cons_of_mem _ ht)
theorem find_ahead {xs : List Step} (h : xs.Pairwise fun s t => ¬(s.1 = t.1 ∧ s.2.1 = t.2.1)) {j : Nat} {s : Step} (hj : xs[j]? = some s) : findC (xs.take j) s.1 s.2.1 = (0, 1) := by
  refine findC_none fun t ht => ?_
  have hlt := (List.getElem?_eq_some_iff.mp hj).1
  have e := (List.getElem?_eq_some_iff.mp hj).2
  have e2 : xs = xs.take j ++ s :: xs.drop (j + 1) := by
    conv => lhs; rw [← List.take_append_drop j xs, List.drop_eq_getElem_cons hlt, e]
  rw [e2] at h
  exact (List.pairwise_append.mp h).2.2 t ht s List.mem_cons_self
theorem line_noreg (s : Step) : lineS s ∉ regs := by
  intro h
  have hl := tl_line s
  simp only [regs, List.mem_cons, List.not_mem_nil, or_false] at h
  rcases h with e | e | e | e
  all_goals
    rw [e] at hl
    have : ∀ z : String, Str.ofString z = z := fun _ => rfl
    first
      | (have h2 : tl (Str.ofString "inside") = _ := tl_ofString _; exact absurd (h2.symm.trans hl) (fun q => by injection q with q1 q2; exact absurd q1 (by decide)))
      | (have h2 : tl (Str.ofString "first") = _ := tl_ofString _; exact absurd (h2.symm.trans hl) (fun q => by injection q with q1 q2; exact absurd q1 (by decide)))
      | (have h2 : tl (Str.ofString "none") = _ := tl_ofString _; exact absurd (h2.symm.trans hl) (fun q => by injection q with q1 q2; exact absurd q1 (by decide)))
      | (have h2 : tl (Str.ofString "second") = _ := tl_ofString _; exact absurd (h2.symm.trans hl) (fun q => by injection q with q1 q2; injection q2 with q3 q4; exact absurd q3 (by decide)))
end B

set_option Elab.async false
set_option linter.all false
set_option maxRecDepth 100000
set_option maxHeartbeats 4000000
namespace B
open PySem PySem.Spec PyProof.Rows L2 A
local macro_rules | `(tactic| walk_at "nm") => `(tactic| refine ae_nameT (by assumption) rfl ?_)
local macro_rules | `(tactic| walk_at "ag") => `(tactic| refine ag_nameT (by assumption) (by assumption) ?_)
local macro_rules | `(tactic| walk_at "agc") => `(tactic| (refine agc_nameU (by assumption) (by assumption) ?_ ?_; · decide))
local macro_rules | `(tactic| walk_at "set") => `(tactic| refine as_setT (by assumption) (by assumption) ?_)
local macro_rules | `(tactic| walk_at "ax1") => `(tactic| first
  | ((with_reducible show AE _ (Expr.Name _ _) _ _ _); walk_at "nm")
  | ((with_reducible show AA _ (_ :: _) _ _ _); refine aa_cons ?_)
  | ((with_reducible show AA _ [] _ _ _); refine aa_nil ?_)
  | ((with_reducible show AE _ (Expr.Constant _ _ _) _ _ _); first | refine ae_int ?_ | refine ae_str ?_ | refine ae_bl ?_ | refine ae_non ?_)
  | ((with_reducible show AE _ (Expr.BinOp _ Operator.Add _ _) _ _ _); refine ae_add ?_)
  | ((with_reducible show AE _ (Expr.BinOp _ Operator.Sub _ _) _ _ _); refine ae_sub ?_)
  | ((with_reducible show AE _ (Expr.BinOp _ Operator.Mult _ _) _ _ _); refine ae_mul ?_)
  | ((with_reducible show AE _ (Expr.BinOp _ Operator.FloorDiv _ _) _ _ _); refine ae_fdiv ?_)
  | ((with_reducible show AE _ (Expr.BinOp _ Operator.Mod _ _) _ _ _); refine ae_mod ?_)
  | ((with_reducible show AE _ (Expr.Compare _ [CmpOp.Lt] _ _) _ _ _); refine ae_lt ?_)
  | ((with_reducible show AE _ (Expr.Compare _ [CmpOp.LtE] _ _) _ _ _); refine ae_le ?_)
  | ((with_reducible show AE _ (Expr.Compare _ [CmpOp.Gt] _ _) _ _ _); refine ae_gt ?_)
  | ((with_reducible show AE _ (Expr.Compare _ [CmpOp.GtE] _ _) _ _ _); refine ae_ge ?_)
  | ((with_reducible show AE _ (Expr.Compare _ [CmpOp.Eq] _ _) _ _ _); refine ae_eqs ?_)
  | ((with_reducible show AE _ (Expr.Compare _ [CmpOp.NotEq] _ _) _ _ _); refine ae_nes ?_)
  | ((with_reducible show AT _ (Expr.Compare _ [CmpOp.Eq] _ _) _ _ _); refine at_eqs ?_)
  | ((with_reducible show AT _ (Expr.Compare _ [CmpOp.NotEq] _ _) _ _ _); refine at_nes ?_)
  | ((with_reducible show AT _ (Expr.Compare _ [CmpOp.Lt] _ _) _ _ _); refine at_lt ?_)
  | ((with_reducible show AT _ (Expr.Compare _ [CmpOp.LtE] _ _) _ _ _); refine at_le ?_)
  | ((with_reducible show AT _ (Expr.Compare _ [CmpOp.Gt] _ _) _ _ _); refine at_gt ?_)
  | ((with_reducible show AT _ (Expr.Compare _ [CmpOp.GtE] _ _) _ _ _); refine at_ge ?_)
  | ((with_reducible show AT _ (Expr.UnaryOp UnaryOp.Not _ _) _ _ _); refine at_not ?_)
  | ((with_reducible show AT _ (Expr.Call _ _ _ _) _ _ _); refine at_val ?_)
  | ((with_reducible show AR _ rEq (DV.dat (PyData.int _)) (DV.dat (PyData.int _)) _ _); refine ar_eqI ?_)
  | ((with_reducible show AR _ rNe (DV.dat (PyData.int _)) (DV.dat (PyData.int _)) _ _); refine ar_neI ?_)
  | ((with_reducible show AR _ rEq (DV.dat (PyData.str _)) (DV.dat (PyData.str _)) _ _); refine ar_eqS ?_)
  | ((with_reducible show AR _ rNe (DV.dat (PyData.str _)) (DV.dat (PyData.str _)) _ _); refine ar_neS ?_)
  | ((with_reducible show ∃ c, DV.dat (PyData.bool _) = DV.dat (PyData.bool c) ∧ _); refine ⟨_, rfl, ?_⟩)
  | ((with_reducible show AE _ (Expr.Tuple _ _ _) _ _ _); refine ae_tup ?_)
  | ((with_reducible show AE _ (Expr.Subscript _ _ _) _ _ _); refine ae_ixT ?_)
  | ((with_reducible show ∃ i j, DV.dat (PyData.int _) = DV.dat (PyData.int i) ∧ DV.dat (PyData.int _) = DV.dat (PyData.int j) ∧ _); refine ⟨_, _, rfl, rfl, ?_⟩)
  | ((with_reducible show ∃ xs i d, DV.dat (PyData.tuple _) = DV.dat (PyData.tuple xs) ∧ _); refine ⟨_, _, _, rfl, rfl, rfl, ?_⟩))
local macro_rules | `(tactic| walk_at "ax") => `(tactic| repeat (walk_at "ax1"))
local macro_rules | `(tactic| walk_at "ay1") => `(tactic| first
  | walk_at "ax1"
  | ((with_reducible show AE _ (Expr.UnaryOp UnaryOp.USub _ _) _ _ _); refine ae_neg ?_)
  | ((with_reducible show ∃ i, DV.dat (PyData.int _) = DV.dat (PyData.int i) ∧ _); refine ⟨_, rfl, ?_⟩)
  | ((with_reducible show ∃ xs : List PyData, [_, _] = List.map DV.dat xs ∧ _); refine ⟨[_, _], rfl, Nat.le_of_ble_eq_true rfl, ?_⟩)
  | ((with_reducible show ∃ xs : List PyData, [_, _, _] = List.map DV.dat xs ∧ _); refine ⟨[_, _, _], rfl, Nat.le_of_ble_eq_true rfl, ?_⟩))
local macro_rules | `(tactic| walk_at "ay") => `(tactic| repeat (walk_at "ay1"))
variable {P : Program} {w : World} {K : PySem.W.Frag} {mg : Str → Option Value} {base : Heap} {C : Addr}
open TL Wd
theorem nodup_two {α : Type} {l : List α} (h : l.Nodup) {i j : Nat} {a : α} (hij : i < j) (h1 : l[i]? = some a) (h2 : l[j]? = some a) : False := by
  obtain ⟨hi, e1⟩ := List.getElem?_eq_some_iff.mp h1
  obtain ⟨hj, e2⟩ := List.getElem?_eq_some_iff.mp h2
  exact (List.pairwise_iff_getElem.mp h) i j hi hj hij (e1.trans e2.symm)
structure Inv9 (M M' : MS) (q1 q2 : Addr) (gs : List (List Step)) (ps : List Addr) (zs : List DV) : Prop where
  le : Le M M'
  g : Grp M' q1 ps gs
  l : M' q2 = some (.lst zs)
  ln : zs.length = gs.length
  n1 : M q1 = none
  n2 : M q2 = none
  np : ∀ p ∈ ps, M p = none
  d12 : q1 ≠ q2
  d1 : q1 ∉ ps
  d2 : q2 ∉ ps
  nd : ps.Nodup
theorem Inv9.alive {M M' : MS} {q1 q2 : Addr} {gs : List (List Step)} {ps : List Addr} {zs : List DV} (h : Inv9 M M' q1 q2 gs ps zs) {p : Addr} (hp : p ∈ ps) : ∃ g, M' p = some (.lst (stV g)) := by
  obtain ⟨j, hj, rfl⟩ := List.mem_iff_getElem.mp hp
  have hj2 : j < gs.length := by rw [← h.g.len]; exact hj
  exact ⟨_, h.g.inn j _ _ (List.getElem?_eq_getElem hj) (List.getElem?_eq_getElem hj2)⟩
theorem Inv9.head {M M' : MS} {q1 q2 : Addr} {gs : List (List Step)} {ps : List Addr} {zs : List DV} (h : Inv9 M M' q1 q2 gs ps zs) {p : Addr} (hp : M' p = none) (z : DV) :
    Inv9 M (upM (upM (upM M' p (.lst [])) q1 (.lst ((ps.map fun p => .raw (.ref p)) ++ [.raw (.ref p)]))) q2 (.lst (zs ++ [z]))) q1 q2 (gs ++ [[]]) (ps ++ [p]) (zs ++ [z]) := by
  have e1 : p ≠ q1 := fun e => by rw [e, h.g.at_] at hp; cases hp
  have e2 : p ≠ q2 := fun e => by rw [e, h.l] at hp; cases hp
  have e3 : p ∉ ps := fun e => by obtain ⟨g, hg⟩ := h.alive e; rw [hg] at hp; cases hp
  have hMp : M p = none := by
    cases hm : M p with
    | none => rfl
    | some m => rw [h.le p m hm] at hp; cases hp
  refine ⟨((h.le.up hMp).up h.n1).up h.n2, ⟨?_, ?_, fun j p' g' hj hg => ?_⟩, upM_same, ?_, h.n1, h.n2, fun p' hp' => ?_, h.d12, ?_, ?_, ?_⟩
  · rw [upM_ne h.d12, upM_same, List.map_append]; rfl
  · rw [List.length_append, List.length_append, h.g.len]; rfl
  · by_cases hlt : j < ps.length
    · rw [List.getElem?_append_left hlt] at hj
      rw [List.getElem?_append_left (by rw [← h.g.len]; exact hlt)] at hg
      have hm := List.mem_of_getElem? hj
      rw [upM_ne (fun e => h.d2 (by rw [← e]; exact hm)), upM_ne (fun e => h.d1 (by rw [← e]; exact hm)), upM_ne (fun e => e3 (by rw [← e]; exact hm))]
      exact h.g.inn j p' g' hj hg
    · have hlt2 := (List.getElem?_eq_some_iff.mp hj).1
      rw [List.length_append, List.length_singleton] at hlt2
      have e : j = ps.length := by omega
      subst e
      rw [List.getElem?_append_right (Nat.le_refl _), Nat.sub_self] at hj
      rw [List.getElem?_append_right (by rw [h.g.len]; exact Nat.le_refl _), h.g.len, Nat.sub_self] at hg
      cases hj; cases hg
      rw [upM_ne e2, upM_ne e1, upM_same]; rfl
  · rw [List.length_append, List.length_append, h.ln]; rfl
  · rcases List.mem_append.mp hp' with q | q
    · exact h.np p' q
    · rw [List.mem_singleton.mp q]; exact hMp
  · intro q
    rcases List.mem_append.mp q with q | q
    · exact h.d1 q
    · exact e1 (List.mem_singleton.mp q).symm
  · intro q
    rcases List.mem_append.mp q with q | q
    · exact h.d2 q
    · exact e2 (List.mem_singleton.mp q).symm
  · exact List.nodup_append.mpr ⟨h.nd, by simp, fun a ha b hb e => e3 (by rw [← List.mem_singleton.mp hb, ← e]; exact ha)⟩
theorem Inv9.step {M M' : MS} {q1 q2 : Addr} {gs0 : List (List Step)} {g : List Step} {ps : List Addr} {zs ws : List DV} (h : Inv9 M M' q1 q2 (gs0 ++ [g]) ps zs) {p : Addr} (hp : ps[gs0.length]? = some p) (s : Step) (hw : ws.length = zs.length) :
    Inv9 M (upM (upM M' p (.lst (stV g ++ [.dat (stD s)]))) q2 (.lst ws)) q1 q2 (gs0 ++ [g ++ [s]]) ps ws := by
  have hm := List.mem_of_getElem? hp
  have e1 : q1 ≠ p := fun e => h.d1 (e ▸ hm)
  have e2 : p ≠ q2 := fun e => h.d2 (e ▸ hm)
  refine ⟨(h.le.up (h.np p hm)).up h.n2, ⟨?_, ?_, fun j p' g' hj hg => ?_⟩, upM_same, ?_, h.n1, h.n2, h.np, h.d12, h.d1, h.d2, h.nd⟩
  · rw [upM_ne h.d12, upM_ne e1]; exact h.g.at_
  · rw [h.g.len, List.length_append, List.length_append]; rfl
  · have hm' := List.mem_of_getElem? hj
    rw [upM_ne (fun e => h.d2 (by rw [← e]; exact hm'))]
    have hl := h.g.len
    rw [List.length_append, List.length_singleton] at hl
    by_cases hlt : j < gs0.length
    · rw [List.getElem?_append_left hlt] at hg
      have ne : p' ≠ p := fun e => by
        subst e
        exact nodup_two h.nd hlt hj hp
      rw [upM_ne ne]
      exact h.g.inn j p' g' hj (by rw [List.getElem?_append_left hlt]; exact hg)
    · have hlt2 := (List.getElem?_eq_some_iff.mp hj).1
      have e : j = gs0.length := by omega
      subst e
      rw [hp] at hj
      cases hj
      rw [List.getElem?_append_right (Nat.le_refl _), Nat.sub_self] at hg
      cases hg
      rw [upM_same, stV, stV, List.map_append, List.map_append]; rfl
  · rw [hw, h.ln, List.length_append, List.length_append]; rfl
def unD : DV → PyData
  | .dat d => d
  | _ => .none
def tupM (M : MS) : DV → DV
  | .raw (.ref p) => match M p with
    | some (.lst xs) => .dat (.tuple (xs.map unD))
    | _ => .raw (.ref p)
  | d => d
theorem un_stV (g : List Step) : (stV g).map unD = g.map stD := by
  rw [stV, List.map_map, List.map_map]; rfl
theorem tupM_at {M : MS} {p : Addr} {g : List Step} (h : M p = some (.lst (stV g))) : tupM M (.raw (.ref p)) = .dat (rowsD g) := by
  show (match M p with
    | some (.lst xs) => DV.dat (.tuple (xs.map unD))
    | _ => .raw (.ref p)) = _
  rw [h]
  simp only
  rw [un_stV]; rfl
theorem Grp.tups {M : MS} {q : Addr} {ps : List Addr} {gs : List (List Step)} (h : Grp M q ps gs) : (ps.map fun p => DV.raw (.ref p)).map (tupM M) = (gs.map rowsD).map .dat := by
  apply List.ext_getElem?
  intro j
  rw [List.getElem?_map, List.getElem?_map, List.getElem?_map, List.getElem?_map]
  cases hp : ps[j]? with
  | none =>
    have : gs[j]? = none := by
      rw [List.getElem?_eq_none_iff] at hp ⊢
      rw [← h.len]; exact hp
    rw [this]; rfl
  | some p =>
    have hj := (List.getElem?_eq_some_iff.mp hp).1
    have hg : gs[j]? = some (gs[j]'(by rw [← h.len]; exact hj)) := List.getElem?_eq_getElem _
    rw [hg]
    show some (tupM M (.raw (.ref p))) = _
    rw [tupM_at (h.inn j p _ hp hg)]; rfl
theorem blk_get {o : Own} {n : Nat} {b : Blk} (h : (blks o)[n]? = some b) : regs[n]? = some b.1 ∧ b.2 = o b.1 ∧ b.1 ∈ regs ∧ n < 4 := by
  unfold blks at h
  rw [List.getElem?_map] at h
  cases e : regs[n]? with
  | none => rw [e] at h; cases h
  | some r =>
    rw [e] at h
    cases h
    exact ⟨rfl, rfl, List.mem_of_getElem? e, (List.getElem?_eq_some_iff.mp e).1⟩
def bookLns (o : Own) : List Str := Str.ofString "book" :: flat (blks o)
def S_read_regions : DS1 := fun vs M k => ∃ o : Own, vs = [.dat (.list ((bookLns o).map .str))] ∧ GoodO o ∧ k (.dat (.list (regs.map fun r => rowsD (o r)))) M
theorem sc_read_regions : FnScope ["lines", "found", "last_lines", "number", "line", "steps"] ["lines"] (defScope s_read_regions) := ⟨rfl, rfl, rfl, by decide +kernel, rfl, by decide +kernel, by decide +kernel⟩
theorem atI_last {α : Type} {xs : List α} {x : α} (h : xs[xs.length - 1]? = some x) : atI xs (-1) = some x := by
  have hi := (List.getElem?_eq_some_iff.mp h).1
  unfold atI ixN
  rw [if_neg (by omega), if_pos (by omega)]
  have e : (-1 + (xs.length : Int)).toNat = xs.length - 1 := by omega
  show xs[(-1 + (xs.length : Int)).toNat]? = _
  rw [e]; exact h
theorem d_read_regions (T : Txt K mg C) (D_read_step : Def P w K mg base "read_step" 4 S_read_step) (D_check_chances : Def P w K mg base "check_chances" 4 S_check_chances) {f : Addr} {fd : FuncData} (F : Fun K "read_regions" "read_regions" s_read_regions f fd) (hm : mg "read_regions" = some (.ref f)) (hb : Binds K fd ["lines"] []) : Def P w K mg base "read_regions" 5 S_read_regions := by
  refine def_ok F hm hb sc_read_regions (fun ds M k h => ?_) (fun cdv A outer s H E ds M kk hl nd hr h => ?_)
  · obtain ⟨o, rfl, _⟩ := h; rfl
  · obtain ⟨o, rfl, ho, q⟩ := h
    refine as_cons (as_ifP false ?_ (fun z => by cases z) fun _ => ?_)
    · refine at_nes (ae_ixL ?_)
      walk_at "ax"
      refine ⟨_, _, _, rfl, rfl, (show atI ((bookLns o).map PyData.str) 0 = some (.str (Str.ofString "book")) from atI_nat (i := 0) rfl), ?_⟩
      walk_at "ax"
      refine ⟨?_, rfl⟩
      rw [decide_eq_true rfl]; rfl
    refine as_nil ?_
    walk_at "set"
    refine ae_lst (aa_nil ⟨Nat.zero_le _, fun q1 h1 => ?_⟩)
    walk_at "set"
    refine ae_lst (aa_nil ⟨Nat.zero_le _, fun q2 h2 => ?_⟩)
    have n12 : q1 ≠ q2 := fun e => by rw [← e, upM_same] at h2; cases h2
    rw [upM_ne (fun e => n12 e.symm)] at h2
    refine as_cons (as_for PassesOwn.never rfl (W := fun i ds' M' => ∃ gs ps zs x y, Inv9 M M' q1 q2 gs ps zs ∧ AtB (blks o) i gs ∧ ds' = [some (.dat (.list ((bookLns o).map .str))), some (.raw (.ref q1)), some (.raw (.ref q2)), x, y, none]) (ai_enumS T.b_enumerate (aa_cons (ae_sl ?_))))
    walk_at "ax"
    refine ao_some ?_
    walk_at "ax"
    refine ⟨_, rfl, ao_none ⟨_, rfl, aa_nil ⟨_, rfl, ?_⟩⟩⟩
    rw [cut_tail]
    have el : ((bookLns o).map PyData.str).drop 1 = (flat (blks o)).map PyData.str := rfl
    rw [el]
    refine ⟨⟨[], [], [], none, none, ⟨?_, ⟨?_, rfl, fun j p g hj => by cases hj⟩, upM_same, rfl, h1, h2, by simp, n12, by simp, by simp, .nil⟩, .inl ⟨rfl, rfl⟩, rfl⟩, fun i d ds' M' hx hw => ?_, fun ds' M' hw => ?_⟩
    · exact ((Le.refl M).up h1).up h2
    · rw [upM_ne n12, upM_same]; rfl
    · obtain ⟨gs, ps, zs, x, y, I, ha, rfl⟩ := hw
      obtain ⟨x1, hx1, rfl⟩ := enum_get hx
      rw [List.getElem?_map] at hx1
      obtain ⟨ln, hln, e⟩ := Option.map_eq_some_iff.mp hx1
      subst e
      refine ag_tup rfl rfl (ags_cons ?_)
      walk_at "ag"
      refine ags_cons ?_
      walk_at "ag"
      refine ags_nil ?_
      have el : ((ps.map fun p => DV.raw (.ref p)).length : Int) = (gs.length : Nat) := by rw [List.length_map, I.g.len]
      rcases ha.step hln with ⟨b, hb1, rfl, ha'⟩ | ⟨gs0, g, b, st, rfl, hb1, hst, hg, rfl, ha'⟩
      · obtain ⟨hr1, hr2, hr3, hr4⟩ := blk_get hb1
        refine as_cons (as_ifP true ?_ (fun _ => ?_) (fun z => by cases z))
        · refine at_w (aw_and (at_lt (ae_len T.b_len ?_)))
          walk_at "ax"
          refine ⟨_, _, rfl, .chg I.g.at_, ?_⟩
          refine ae_len T.b_len (aa_cons (ae_globD T.g_REGIONS (aa_nil ⟨_, _, rfl, .tup _, ?_⟩)))
          rw [el]
          refine ⟨_, _, rfl, rfl, fun _ => aw_and1 (at_eqs ?_), fun h => ?_⟩
          · walk_at "nm"
            refine ae_ixT (ae_globD T.g_REGIONS (ae_len T.b_len ?_))
            walk_at "ax"
            refine ⟨_, _, rfl, .chg I.g.at_, ?_⟩
            rw [el]
            refine ⟨regs.map .str, _, .str b.1, rfl, rfl, atI_nat (by rw [List.getElem?_map, hr1]; rfl), ?_⟩
            walk_at "ax"
            exact ⟨decide_eq_true rfl, rfl⟩
          · exact absurd (of_decide_eq_false h) (by show ¬¬((gs.length : Nat) : Int) < ((4 : Nat) : Int); omega)
        · refine as_cons (as_expr (ae_bm PySem.F.plainAttrs_list PySem.F.slot_list_append PySem.F.type_list_append mt_append ?_))
          walk_at "nm"
          refine ⟨.chg I.g.at_, aa_cons (ae_lst (aa_nil ⟨Nat.zero_le _, fun p hp => aa_nil ?_⟩))⟩
          have e1 : q1 ≠ p := fun e => by rw [← e, I.g.at_] at hp; cases hp
          have e2 : q2 ≠ p := fun e => by rw [← e, I.l] at hp; cases hp
          refine arm_append (ys := ps.map fun p => .raw (.ref p)) (by rw [upM_ne e1]; exact I.g.at_) (by rw [List.length_map, I.g.len]; omega) ?_
          refine as_cons (as_expr (ae_bm PySem.F.plainAttrs_list PySem.F.slot_list_append PySem.F.type_list_append mt_append ?_))
          walk_at "nm"
          have hl2 : (upM (upM M' p (.lst [])) q1 (.lst ((ps.map fun p => .raw (.ref p)) ++ [.raw (.ref p)]))) q2 = some (.lst zs) := by rw [upM_ne I.d12.symm, upM_ne e2]; exact I.l
          refine ⟨.chg hl2, ?_⟩
          walk_at "ax"
          refine arm_append hl2 (by rw [I.ln]; omega) ?_
          exact as_nil (as_nil ⟨_, _, _, _, _, I.head hp _, ha', rfl⟩)
      · obtain ⟨hr1, hr2, hr3, hr4⟩ := blk_get hb1
        have hlen : ps.length = gs0.length + 1 := by rw [I.g.len, List.length_append]; rfl
        obtain ⟨p, hp⟩ : ∃ p, ps[gs0.length]? = some p := ⟨_, List.getElem?_eq_getElem (by omega)⟩
        have hMp := I.g.inn gs0.length p g hp (by rw [List.getElem?_append_right (Nat.le_refl _), Nat.sub_self]; rfl)
        have hmem : st ∈ o b.1 := by rw [← hr2]; exact List.mem_of_getElem? hst
        have hgl : g.length < 12 := by
          have h1 := (List.getElem?_eq_some_iff.mp hst).1
          rw [hr2] at h1
          have h2 := ho.len b.1 hr3
          omega
        have hf : findC g st.1 st.2.1 = (0, 1) := by
          have hnd := ho.nd b.1 hr3
          rw [← hr2] at hnd
          rw [hg]; exact find_ahead hnd hst
        have hat : atI (ps.map fun p => DV.raw (.ref p)) (-1) = some (.raw (.ref p)) := atI_last (by
          rw [List.length_map, List.getElem?_map, hlen, Nat.add_sub_cancel, hp]; rfl)
        refine as_cons (as_ifP false ?_ (fun z => by cases z) (fun _ => ?_))
        · refine at_w (aw_and (at_lt (ae_len T.b_len ?_)))
          walk_at "ax"
          refine ⟨_, _, rfl, .chg I.g.at_, ?_⟩
          refine ae_len T.b_len (aa_cons (ae_globD T.g_REGIONS (aa_nil ⟨_, _, rfl, .tup _, ?_⟩)))
          rw [el]
          refine ⟨_, _, rfl, rfl, fun h => aw_and1 (at_eqs ?_), fun h => ⟨rfl, rfl⟩⟩
          have hlt : (gs0 ++ [g]).length < regs.length := by
            have h := of_decide_eq_true h
            show _ < 4
            have h : ((gs0 ++ [g]).length : Int) < ((4 : Nat) : Int) := h
            omega
          walk_at "nm"
          refine ae_ixT (ae_globD T.g_REGIONS (ae_len T.b_len ?_))
          walk_at "ax"
          refine ⟨_, _, rfl, .chg I.g.at_, ?_⟩
          rw [el]
          refine ⟨regs.map .str, _, .str (regs[(gs0 ++ [g]).length]), rfl, rfl, atI_nat (by rw [List.getElem?_map, List.getElem?_eq_getElem hlt]; rfl), ?_⟩
          walk_at "ax"
          refine ⟨decide_eq_false fun e => line_noreg st ?_, rfl⟩
          rw [e]; exact List.getElem_mem _
        · refine as_cons (as_ifP true ?_ (fun _ => ?_) (fun z => by cases z))
          · refine at_tru ?_
            walk_at "ax"
            refine ⟨_, .chg I.g.at_, ?_, rfl⟩
            cases hps : ps with
            | nil => rw [hps] at hlen; cases hlen
            | cons _ _ => rfl
          · refine as_cons (as_expr (ae_bm PySem.F.plainAttrs_list PySem.F.slot_list_append PySem.F.type_list_append mt_append (ae_ixM ?_)))
            walk_at "nm"
            refine ae_neg ?_
            walk_at "ax"
            refine ⟨_, rfl, q1, _, _, _, rfl, rfl, I.g.at_, hat, .chg hMp, aa_cons (ae_call D_read_step hr ?_)⟩
            refine aa_cons ?_
            walk_at "nm"
            refine aa_cons ?_
            walk_at "nm"
            refine aa_cons (ae_ixT (ae_globD T.g_REGIONS (ae_sub (ae_len T.b_len ?_))))
            walk_at "ax"
            refine ⟨_, _, rfl, .chg I.g.at_, ?_⟩
            walk_at "ax"
            have e3 : (((ps.map fun p => DV.raw (.ref p)).length : Nat) : Int) - 1 = ((gs0.length : Nat) : Int) := by rw [List.length_map, hlen]; omega
            rw [e3]
            refine ⟨regs.map .str, _, .str b.1, rfl, rfl, atI_nat (by rw [List.getElem?_map, hr1]; rfl), ?_⟩
            refine aa_cons (ae_ixM ?_)
            walk_at "nm"
            refine ae_neg ?_
            walk_at "ax"
            refine ⟨_, rfl, q1, _, _, _, rfl, rfl, I.g.at_, hat, ?_⟩
            refine aa_nil ⟨st, _, b.1, _, g, rfl, (ho.s b.1 hr3 st hmem).1, (ho.s b.1 hr3 st hmem).2, .chg hMp, ?_, hgl, hf, ?_⟩
            · have := LenD.chg hMp
              rw [List.length_map, List.length_map] at this
              exact this
            · refine aa_nil (arm_append hMp (by rw [List.length_map, List.length_map]; omega) ?_)
              have hm := List.mem_of_getElem? hp
              have e2 : q2 ≠ p := fun e => I.d2 (e ▸ hm)
              refine as_cons (as_setI ?_)
              walk_at "nm"
              walk_at "nm"
              refine ae_neg ?_
              walk_at "ax"
              refine ⟨_, rfl, q2, zs, _, zs.length - 1, rfl, rfl, by rw [upM_ne e2]; exact I.l, ?_, ?_⟩
              · have hz : zs.length = gs0.length + 1 := by rw [I.ln, List.length_append]; rfl
                unfold ixN
                rw [if_neg (by omega), if_pos (by omega)]
                congr 1; omega
              · exact as_nil (as_nil (as_nil ⟨_, _, _, _, _, I.step hp st (by rw [List.length_set]), ha', rfl⟩))
    · obtain ⟨gs, ps, zs, x, y, I, ha, rfl⟩ := hw
      rw [enum_len, List.length_map] at ha
      have hgs := ha.done
      have e4 : gs = regs.map o := by rw [hgs]; rfl
      refine as_cons (as_expr (ae_call D_check_chances hr ?_))
      refine aa_cons ?_
      walk_at "nm"
      refine aa_cons ?_
      walk_at "nm"
      refine aa_cons (ae_len T.b_len ?_)
      walk_at "ax"
      refine ⟨_, _, rfl, .lst _, aa_nil ⟨q1, q2, _, ps, gs, rfl, I.g, by rw [e4]; rfl, fun g hg => ?_, ?_⟩⟩
      · rw [e4] at hg
        obtain ⟨r, hr, rfl⟩ := List.mem_map.mp hg
        exact ho.r r hr
      · refine as_cons (as_ret (ae_wk (ae_lcP rfl nd (blkOk_by (own := [("steps", 5)]) rfl) (tupM M') (ai_seq (d := .raw (.ref q1)) (xs := ps.map fun p => .raw (.ref p)) ?_))))
        walk_at "ax"
        refine ⟨rfl, .chg I.g.at_, fun D m hD => lcP_up (.chg I.g.at_) D m hD, by rw [List.length_map, I.g.len, e4, List.length_map]; decide, fun d M2 hd hle s H C cl fp => ?_, fun D hD => ?_⟩
        · obtain ⟨p, hp, rfl⟩ := List.mem_map.mp hd
          obtain ⟨g, hg⟩ := I.alive hp
          walk_at "agc"
          intro s H C cl fp
          refine ae_tupleOf T.b_tuple ?_
          walk_at "ax"
          refine ⟨_, g.map stD, rfl, .chg (hle _ _ hg), ?_, rfl⟩
          rw [tupM_at hg]; rfl
        · rw [I.g.tups]
          refine ⟨_, _, (wk_new hD).trans (.forget I.le), ?_⟩
          rw [e4, List.map_map]
          exact q
end B

set_option Elab.async false
set_option linter.all false
set_option maxRecDepth 100000
set_option maxHeartbeats 4000000
namespace B
open PySem PySem.Spec PyProof.Rows L2 A
local macro_rules | `(tactic| walk_at "nm") => `(tactic| refine ae_nameT (by assumption) rfl ?_)
local macro_rules | `(tactic| walk_at "ag") => `(tactic| refine ag_nameT (by assumption) (by assumption) ?_)
local macro_rules | `(tactic| walk_at "agc") => `(tactic| (refine agc_nameU (by assumption) (by assumption) ?_ ?_; · decide))
local macro_rules | `(tactic| walk_at "set") => `(tactic| refine as_setT (by assumption) (by assumption) ?_)
local macro_rules | `(tactic| walk_at "ax1") => `(tactic| first
  | ((with_reducible show AE _ (Expr.Name _ _) _ _ _); walk_at "nm")
  | ((with_reducible show AA _ (_ :: _) _ _ _); refine aa_cons ?_)
  | ((with_reducible show AA _ [] _ _ _); refine aa_nil ?_)
  | ((with_reducible show AE _ (Expr.Constant _ _ _) _ _ _); first | refine ae_int ?_ | refine ae_str ?_ | refine ae_bl ?_ | refine ae_non ?_)
  | ((with_reducible show AE _ (Expr.BinOp _ Operator.Add _ _) _ _ _); refine ae_add ?_)
  | ((with_reducible show AE _ (Expr.BinOp _ Operator.Sub _ _) _ _ _); refine ae_sub ?_)
  | ((with_reducible show AE _ (Expr.BinOp _ Operator.Mult _ _) _ _ _); refine ae_mul ?_)
  | ((with_reducible show AE _ (Expr.BinOp _ Operator.FloorDiv _ _) _ _ _); refine ae_fdiv ?_)
  | ((with_reducible show AE _ (Expr.BinOp _ Operator.Mod _ _) _ _ _); refine ae_mod ?_)
  | ((with_reducible show AE _ (Expr.Compare _ [CmpOp.Lt] _ _) _ _ _); refine ae_lt ?_)
  | ((with_reducible show AE _ (Expr.Compare _ [CmpOp.LtE] _ _) _ _ _); refine ae_le ?_)
  | ((with_reducible show AE _ (Expr.Compare _ [CmpOp.Gt] _ _) _ _ _); refine ae_gt ?_)
  | ((with_reducible show AE _ (Expr.Compare _ [CmpOp.GtE] _ _) _ _ _); refine ae_ge ?_)
  | ((with_reducible show AE _ (Expr.Compare _ [CmpOp.Eq] _ _) _ _ _); refine ae_eqs ?_)
  | ((with_reducible show AE _ (Expr.Compare _ [CmpOp.NotEq] _ _) _ _ _); refine ae_nes ?_)
  | ((with_reducible show AT _ (Expr.Compare _ [CmpOp.Eq] _ _) _ _ _); refine at_eqs ?_)
  | ((with_reducible show AT _ (Expr.Compare _ [CmpOp.NotEq] _ _) _ _ _); refine at_nes ?_)
  | ((with_reducible show AT _ (Expr.Compare _ [CmpOp.Lt] _ _) _ _ _); refine at_lt ?_)
  | ((with_reducible show AT _ (Expr.Compare _ [CmpOp.LtE] _ _) _ _ _); refine at_le ?_)
  | ((with_reducible show AT _ (Expr.Compare _ [CmpOp.Gt] _ _) _ _ _); refine at_gt ?_)
  | ((with_reducible show AT _ (Expr.Compare _ [CmpOp.GtE] _ _) _ _ _); refine at_ge ?_)
  | ((with_reducible show AT _ (Expr.UnaryOp UnaryOp.Not _ _) _ _ _); refine at_not ?_)
  | ((with_reducible show AT _ (Expr.Call _ _ _ _) _ _ _); refine at_val ?_)
  | ((with_reducible show AR _ rEq (DV.dat (PyData.int _)) (DV.dat (PyData.int _)) _ _); refine ar_eqI ?_)
  | ((with_reducible show AR _ rNe (DV.dat (PyData.int _)) (DV.dat (PyData.int _)) _ _); refine ar_neI ?_)
  | ((with_reducible show AR _ rEq (DV.dat (PyData.str _)) (DV.dat (PyData.str _)) _ _); refine ar_eqS ?_)
  | ((with_reducible show AR _ rNe (DV.dat (PyData.str _)) (DV.dat (PyData.str _)) _ _); refine ar_neS ?_)
  | ((with_reducible show ∃ c, DV.dat (PyData.bool _) = DV.dat (PyData.bool c) ∧ _); refine ⟨_, rfl, ?_⟩)
  | ((with_reducible show AE _ (Expr.Tuple _ _ _) _ _ _); refine ae_tup ?_)
  | ((with_reducible show AE _ (Expr.Subscript _ _ _) _ _ _); refine ae_ixT ?_)
  | ((with_reducible show ∃ i j, DV.dat (PyData.int _) = DV.dat (PyData.int i) ∧ DV.dat (PyData.int _) = DV.dat (PyData.int j) ∧ _); refine ⟨_, _, rfl, rfl, ?_⟩)
  | ((with_reducible show ∃ xs i d, DV.dat (PyData.tuple _) = DV.dat (PyData.tuple xs) ∧ _); refine ⟨_, _, _, rfl, rfl, rfl, ?_⟩))
local macro_rules | `(tactic| walk_at "ax") => `(tactic| repeat (walk_at "ax1"))
local macro_rules | `(tactic| walk_at "ay1") => `(tactic| first
  | walk_at "ax1"
  | ((with_reducible show AE _ (Expr.UnaryOp UnaryOp.USub _ _) _ _ _); refine ae_neg ?_)
  | ((with_reducible show ∃ i, DV.dat (PyData.int _) = DV.dat (PyData.int i) ∧ _); refine ⟨_, rfl, ?_⟩)
  | ((with_reducible show ∃ xs : List PyData, [_, _] = List.map DV.dat xs ∧ _); refine ⟨[_, _], rfl, Nat.le_of_ble_eq_true rfl, ?_⟩)
  | ((with_reducible show ∃ xs : List PyData, [_, _, _] = List.map DV.dat xs ∧ _); refine ⟨[_, _, _], rfl, Nat.le_of_ble_eq_true rfl, ?_⟩))
local macro_rules | `(tactic| walk_at "ay") => `(tactic| repeat (walk_at "ay1"))
variable {P : Program} {w : World} {K : PySem.W.Frag} {mg : Str → Option Value} {base : Heap} {C : Addr}
open TL Wd
theorem joinL_len (y : List Nat) : ∀ ps : List (List Nat), (joinL y ps).length ≤ (ps.map (·.length)).sum + ps.length * y.length
  | [] => Nat.zero_le _
  | [x] => by simp [joinL]
  | x :: z :: r => by
    have := joinL_len y (z :: r)
    show (x ++ (y ++ joinL y (z :: r))).length ≤ _
    rw [List.length_append, List.length_append, List.map_cons, List.sum_cons, List.length_cons (a := x), Nat.succ_mul]
    omega
theorem sum_le {ns : List Nat} {b : Nat} (h : ∀ n ∈ ns, n ≤ b) : ns.sum ≤ ns.length * b := by
  induction ns with
  | nil => simp
  | cons n r ih =>
    rw [List.sum_cons, List.length_cons, Nat.succ_mul]
    have h1 := h n List.mem_cons_self
    have h2 := ih fun m hm => h m (List.mem_cons_of_mem _ hm)
    omega
abbrev nlS : Str := Str.ofString "\n"
theorem nl_tl : tl nlS = 10 :: [] := by rw [tl_ofString]; rfl
def bookTx (o : Own) : Str := Txt.join nlS (bookLns o)
theorem mem_flat {o : Own} {x : Str} (h : x ∈ flat (blks o)) : x ∈ regs ∨ ∃ r ∈ regs, ∃ s ∈ o r, x = lineS s := by
  obtain ⟨b, hb, hx⟩ := List.mem_flatMap.mp h
  obtain ⟨r, hr, rfl⟩ := List.mem_map.mp hb
  rcases List.mem_cons.mp hx with e | e
  · exact .inl (e ▸ hr)
  · obtain ⟨s, hs, rfl⟩ := List.mem_map.mp e
    exact .inr ⟨r, hr, s, hs, rfl⟩
theorem reg_ok {x : Str} (h : x ∈ regs) : 10 ∉ tl x ∧ x.length ≤ 2000 := by
  simp only [regs, List.mem_cons, List.not_mem_nil, or_false] at h
  rcases h with rfl | rfl | rfl | rfl
  · exact ⟨by have e : tl ("inside" : Str) = _ := tl_ofString _; rw [e]; decide, by decide +kernel⟩
  · exact ⟨by have e : tl ("first" : Str) = _ := tl_ofString _; rw [e]; decide, by decide +kernel⟩
  · exact ⟨by have e : tl ("second" : Str) = _ := tl_ofString _; rw [e]; decide, by decide +kernel⟩
  · exact ⟨by have e : tl ("none" : Str) = _ := tl_ofString _; rw [e]; decide, by decide +kernel⟩
theorem lns_ok {o : Own} (ho : GoodO o) {x : Str} (h : x ∈ bookLns o) : 10 ∉ tl x ∧ x.length ≤ 2000 := by
  rcases List.mem_cons.mp h with rfl | h
  · exact ⟨by rw [tl_ofString]; decide, by decide +kernel⟩
  · rcases mem_flat h with h | ⟨r, hr, s, hs, rfl⟩
    · exact reg_ok h
    · exact ⟨line_free s, line_len (ho.s r hr s hs).1⟩
theorem lns_len {o : Own} (ho : GoodO o) : (bookLns o).length ≤ 53 := by
  have h1 := ho.len "inside" (by simp [regs])
  have h2 := ho.len "first" (by simp [regs])
  have h3 := ho.len "second" (by simp [regs])
  have h4 := ho.len "none" (by simp [regs])
  show (Str.ofString "book" :: ((("inside" : Str) :: (o "inside").map lineS) ++ ((("first" : Str) :: (o "first").map lineS) ++ ((("second" : Str) :: (o "second").map lineS) ++ ((("none" : Str) :: (o "none").map lineS) ++ []))))).length ≤ 53
  simp only [List.length_cons, List.length_append, List.length_map, List.length_nil]
  omega
theorem bookTx_len {o : Own} (ho : GoodO o) : (bookTx o).length ≤ 200000 := by
  unfold bookTx
  rw [TL.join_eq, len_tl, tl_join, nl_tl]
  have h1 := joinL_len [10] ((bookLns o).map tl)
  have h2 : (((bookLns o).map tl).map (·.length)).sum ≤ (((bookLns o).map tl).map (·.length)).length * 2000 := sum_le fun n hn => by
    rw [List.map_map] at hn
    obtain ⟨x, hx, rfl⟩ := List.mem_map.mp hn
    show (tl x).length ≤ _
    rw [← len_tl]
    exact (lns_ok ho hx).2
  rw [List.length_map, List.length_map] at h2
  rw [List.length_map] at h1
  have h3 := lns_len ho
  simp only [List.length_cons, List.length_nil] at h1
  have h4 : (bookLns o).length * 2000 ≤ 53 * 2000 := Nat.mul_le_mul_right _ h3
  omega
theorem split_book {o : Own} (ho : GoodO o) : Txt.split (bookTx o) nlS = bookLns o :=
  split_join nl_tl (by decide +kernel) (by simp [bookLns]) fun p hp => (lns_ok ho hp).1
def S_init (C : Addr) : DS1 := fun vs M k => ∃ (q : Addr) (o : Own), vs = [.raw (.ref q), .dat (.str (bookTx o))] ∧ M q = some (.ins C []) ∧ GoodO o ∧ k (.dat .none) (upM M q (.ins C ((bkF (bookTx o) o).map fun p => (p.1, DV.dat p.2))))
theorem sc_Book_init : FnScope ["self", "text", "inside", "first", "second", "none"] ["self", "text"] (defScope s_Book_init) := ⟨rfl, rfl, rfl, by decide +kernel, rfl, by decide +kernel, by decide +kernel⟩
theorem f_Book_init (T : Txt K mg C) (D_read_regions : Def P w K mg base "read_regions" 5 S_read_regions) {f : Addr} {fd : FuncData} (F : Fun K "__init__" "Book.__init__" s_Book_init f fd) : FnOk P w K mg base CX0 6 f fd ["self", "text"] (spM K (S_init C)) := by
  refine fn_ok F sc_Book_init (fun ds M k h => ?_) (fun cdv A outer s H E ds M kk hl nd hr h => ?_)
  · obtain ⟨q, o, rfl, _⟩ := h; rfl
  · obtain ⟨q1, o, rfl, hM, ho, q⟩ := h
    refine as_cons (as_ifP false ?_ (fun z => by cases z) fun _ => ?_)
    · refine at_not (at_val (ae_isinst T.b_isinstance ?_))
      walk_at "ax"
      refine ae_bltn (v := .ty "str") T.b_str (by decide +kernel) rfl ?_
      exact aa_nil ⟨_, _, _, _, rfl, .str _, (by decide +kernel : kitB "str" "str" = some true), _, rfl, rfl, rfl⟩
    refine as_nil (as_cons (as_asg (ae_call D_read_regions hr (aa_cons (ae_bm PySem.F.plainAttrs_str PySem.F.slot_str_split PySem.F.type_str_split mt_split ?_)))))
    walk_at "nm"
    refine ⟨.str _, ?_⟩
    walk_at "ax"
    refine arm_split rfl (Nat.le_trans (Nat.add_le_add_right (bookTx_len ho) 2) (by decide)) ?_
    rw [split_book ho]
    refine aa_nil ⟨o, rfl, ho, ?_⟩
    refine ag_unl rfl (.lst _) rfl (fun _ e => by cases e) (ags_cons ?_)
    walk_at "ag"
    refine ags_cons ?_
    walk_at "ag"
    refine ags_cons ?_
    walk_at "ag"
    refine ags_cons ?_
    walk_at "ag"
    refine ags_nil ?_
    refine as_cons (as_fld ?_)
    walk_at "nm"
    walk_at "nm"
    refine ⟨q1, C, _, rfl, hM, T.cls_Book, T.n_text, Nat.le_of_ble_eq_true rfl, ?_⟩
    refine as_cons (as_fld ?_)
    walk_at "nm"
    walk_at "nm"
    refine ⟨q1, C, _, rfl, upM_same, T.cls_Book, T.n_inside, Nat.le_of_ble_eq_true rfl, ?_⟩
    rw [upM_upM]
    refine as_cons (as_fld ?_)
    walk_at "nm"
    walk_at "nm"
    refine ⟨q1, C, _, rfl, upM_same, T.cls_Book, T.n_first, Nat.le_of_ble_eq_true rfl, ?_⟩
    rw [upM_upM]
    refine as_cons (as_fld ?_)
    walk_at "nm"
    walk_at "nm"
    refine ⟨q1, C, _, rfl, upM_same, T.cls_Book, T.n_second, Nat.le_of_ble_eq_true rfl, ?_⟩
    rw [upM_upM]
    refine as_cons (as_fld ?_)
    walk_at "nm"
    walk_at "nm"
    refine ⟨q1, C, _, rfl, upM_same, T.cls_Book, T.n_none, Nat.le_of_ble_eq_true rfl, ?_⟩
    rw [upM_upM]
    refine as_nil ?_
    exact q
end B

set_option Elab.async false
set_option linter.all false
set_option maxRecDepth 100000
set_option maxHeartbeats 4000000
namespace B
open PySem PySem.Spec PyProof.Rows L2 A
local macro_rules | `(tactic| walk_at "nm") => `(tactic| refine ae_nameT (by assumption) rfl ?_)
local macro_rules | `(tactic| walk_at "ag") => `(tactic| refine ag_nameT (by assumption) (by assumption) ?_)
local macro_rules | `(tactic| walk_at "agc") => `(tactic| (refine agc_nameU (by assumption) (by assumption) ?_ ?_; · decide))
local macro_rules | `(tactic| walk_at "set") => `(tactic| refine as_setT (by assumption) (by assumption) ?_)
local macro_rules | `(tactic| walk_at "ax1") => `(tactic| first
  | ((with_reducible show AE _ (Expr.Name _ _) _ _ _); walk_at "nm")
  | ((with_reducible show AA _ (_ :: _) _ _ _); refine aa_cons ?_)
  | ((with_reducible show AA _ [] _ _ _); refine aa_nil ?_)
  | ((with_reducible show AE _ (Expr.Constant _ _ _) _ _ _); first | refine ae_int ?_ | refine ae_str ?_ | refine ae_bl ?_ | refine ae_non ?_)
  | ((with_reducible show AE _ (Expr.BinOp _ Operator.Add _ _) _ _ _); refine ae_add ?_)
  | ((with_reducible show AE _ (Expr.BinOp _ Operator.Sub _ _) _ _ _); refine ae_sub ?_)
  | ((with_reducible show AE _ (Expr.BinOp _ Operator.Mult _ _) _ _ _); refine ae_mul ?_)
  | ((with_reducible show AE _ (Expr.BinOp _ Operator.FloorDiv _ _) _ _ _); refine ae_fdiv ?_)
  | ((with_reducible show AE _ (Expr.BinOp _ Operator.Mod _ _) _ _ _); refine ae_mod ?_)
  | ((with_reducible show AE _ (Expr.Compare _ [CmpOp.Lt] _ _) _ _ _); refine ae_lt ?_)
  | ((with_reducible show AE _ (Expr.Compare _ [CmpOp.LtE] _ _) _ _ _); refine ae_le ?_)
  | ((with_reducible show AE _ (Expr.Compare _ [CmpOp.Gt] _ _) _ _ _); refine ae_gt ?_)
  | ((with_reducible show AE _ (Expr.Compare _ [CmpOp.GtE] _ _) _ _ _); refine ae_ge ?_)
  | ((with_reducible show AE _ (Expr.Compare _ [CmpOp.Eq] _ _) _ _ _); refine ae_eqs ?_)
  | ((with_reducible show AE _ (Expr.Compare _ [CmpOp.NotEq] _ _) _ _ _); refine ae_nes ?_)
  | ((with_reducible show AT _ (Expr.Compare _ [CmpOp.Eq] _ _) _ _ _); refine at_eqs ?_)
  | ((with_reducible show AT _ (Expr.Compare _ [CmpOp.NotEq] _ _) _ _ _); refine at_nes ?_)
  | ((with_reducible show AT _ (Expr.Compare _ [CmpOp.Lt] _ _) _ _ _); refine at_lt ?_)
  | ((with_reducible show AT _ (Expr.Compare _ [CmpOp.LtE] _ _) _ _ _); refine at_le ?_)
  | ((with_reducible show AT _ (Expr.Compare _ [CmpOp.Gt] _ _) _ _ _); refine at_gt ?_)
  | ((with_reducible show AT _ (Expr.Compare _ [CmpOp.GtE] _ _) _ _ _); refine at_ge ?_)
  | ((with_reducible show AT _ (Expr.UnaryOp UnaryOp.Not _ _) _ _ _); refine at_not ?_)
  | ((with_reducible show AT _ (Expr.Call _ _ _ _) _ _ _); refine at_val ?_)
  | ((with_reducible show AR _ rEq (DV.dat (PyData.int _)) (DV.dat (PyData.int _)) _ _); refine ar_eqI ?_)
  | ((with_reducible show AR _ rNe (DV.dat (PyData.int _)) (DV.dat (PyData.int _)) _ _); refine ar_neI ?_)
  | ((with_reducible show AR _ rEq (DV.dat (PyData.str _)) (DV.dat (PyData.str _)) _ _); refine ar_eqS ?_)
  | ((with_reducible show AR _ rNe (DV.dat (PyData.str _)) (DV.dat (PyData.str _)) _ _); refine ar_neS ?_)
  | ((with_reducible show ∃ c, DV.dat (PyData.bool _) = DV.dat (PyData.bool c) ∧ _); refine ⟨_, rfl, ?_⟩)
  | ((with_reducible show AE _ (Expr.Tuple _ _ _) _ _ _); refine ae_tup ?_)
  | ((with_reducible show AE _ (Expr.Subscript _ _ _) _ _ _); refine ae_ixT ?_)
  | ((with_reducible show ∃ i j, DV.dat (PyData.int _) = DV.dat (PyData.int i) ∧ DV.dat (PyData.int _) = DV.dat (PyData.int j) ∧ _); refine ⟨_, _, rfl, rfl, ?_⟩)
  | ((with_reducible show ∃ xs i d, DV.dat (PyData.tuple _) = DV.dat (PyData.tuple xs) ∧ _); refine ⟨_, _, _, rfl, rfl, rfl, ?_⟩))
local macro_rules | `(tactic| walk_at "ax") => `(tactic| repeat (walk_at "ax1"))
local macro_rules | `(tactic| walk_at "ay1") => `(tactic| first
  | walk_at "ax1"
  | ((with_reducible show AE _ (Expr.UnaryOp UnaryOp.USub _ _) _ _ _); refine ae_neg ?_)
  | ((with_reducible show ∃ i, DV.dat (PyData.int _) = DV.dat (PyData.int i) ∧ _); refine ⟨_, rfl, ?_⟩)
  | ((with_reducible show ∃ xs : List PyData, [_, _] = List.map DV.dat xs ∧ _); refine ⟨[_, _], rfl, Nat.le_of_ble_eq_true rfl, ?_⟩)
  | ((with_reducible show ∃ xs : List PyData, [_, _, _] = List.map DV.dat xs ∧ _); refine ⟨[_, _, _], rfl, Nat.le_of_ble_eq_true rfl, ?_⟩))
local macro_rules | `(tactic| walk_at "ay") => `(tactic| repeat (walk_at "ay1"))
variable {P : Program} {w : World} {K : PySem.W.Frag} {mg : Str → Option Value} {base : Heap} {C : Addr}
open TL Wd
set_option exponentiation.threshold 10000
abbrev potO (o s c : Int) : MO := .lst [.dat (.int o), .dat (.int s), .dat (.int c)]
structure PotB (o s c : Int) (n : Nat) : Prop where
  o0 : 0 ≤ o
  o1 : o < 10 ^ 300
  s0 : 0 ≤ s
  s1 : s < 2 ^ 61
  c0 : 0 ≤ c
  c1 : c ≤ n
theorem cutD_map {α β : Type} (f : α → β) (xs : List α) (i j : Option Int) : A.cutD (xs.map f) i j = (A.cutD xs i j).map f := by
  unfold A.cutD
  rw [List.length_map, List.map_take, List.map_drop]
def S_pot : DS1 := fun vs M k => ∃ (ns : List Int) (p : Nat), vs = [.dat (.list (ns.map .int)), .dat (.int p)] ∧ p < 9 ∧ ∀ q o s, M q = none → PotB o s 0 0 → k (.raw (.ref q)) (upM M q (potO o s 0))
theorem sc__law_pot : FnScope ["script", "place", "cell", "own", "small"] ["script", "place"] (defScope s__law_pot) := ⟨rfl, rfl, rfl, by decide +kernel, rfl, by decide +kernel, by decide +kernel⟩
theorem d__law_pot (T : Txt K mg C) {f : Addr} {fd : FuncData} (F : Fun K "_law_pot" "_law_pot" s__law_pot f fd) (hm : mg "_law_pot" = some (.ref f)) (hb : Binds K fd ["script", "place"] []) : Def P w K mg base "_law_pot" 1 S_pot := by
  refine def_ok F hm hb sc__law_pot (fun ds M k h => ?_) (fun cdv A outer s H E ds M kk hl nd hr h => ?_)
  · obtain ⟨ns, p, rfl, _⟩ := h; rfl
  · obtain ⟨ns, p, rfl, hp, q⟩ := h
    walk_at "set"
    refine AE.imp (k := fun d M1 => (∃ c : Int, d = .dat (.int c)) ∧ M1 = M) ?_ (fun d M1 ⟨⟨c, e⟩, e2⟩ => ?_)
    · refine ae_if ?_
      refine at_lt ?_
      walk_at "nm"
      refine ae_len T.b_len ?_
      walk_at "ax"
      refine ⟨_, _, rfl, .lst _, _, _, rfl, rfl, fun h => ?_, fun h => ?_⟩
      · refine ae_ixL ?_
        walk_at "ax"
        have hlt : p < (ns.map PyData.int).length := by
          have := of_decide_eq_true h
          omega
        have hlt2 : p < ns.length := by rw [List.length_map] at hlt; exact hlt
        exact ⟨_, _, .int ns[p], rfl, rfl, atI_nat (by rw [List.getElem?_map, List.getElem?_eq_getElem hlt2]; rfl), ⟨_, rfl⟩, rfl⟩
      · refine ae_add (ae_add (ae_mod (ae_sum rfl T.b_sum (aa_cons (ae_sl ?_)))))
        walk_at "ax"
        refine ao_none (ao_some ?_)
        walk_at "ax"
        refine ⟨_, rfl, _, rfl, aa_nil ⟨_, _root_.A.cutD ns none (some 1), rfl, .inl (by rw [cutD_map]), ?_⟩⟩
        walk_at "ax"
        refine ⟨by decide, ?_⟩
        walk_at "ax"
        refine ⟨wide_mul (a := 20) (b := 20) (by decide) (Nat.lt_of_lt_of_le (m := 9) (by omega) (by decide)) (by decide) (by decide) (by decide), ?_⟩
        walk_at "ax"
        exact ⟨⟨_, rfl⟩, rfl⟩
    subst e
    subst e2
    walk_at "set"
    refine ae_mul (ae_mod (ae_intI T.b_int (aa_cons (ae_abs T.b_abs ?_))))
    walk_at "ax"
    refine ⟨_, rfl, aa_nil (.inl ⟨_, rfl, ae_powW (ae_powW ?_)⟩)⟩
    walk_at "ax"
    refine ⟨⟨by decide +kernel, by decide +kernel⟩, ?_⟩
    walk_at "ax"
    refine ⟨⟨by decide +kernel, by decide +kernel⟩, ?_⟩
    walk_at "ax"
    refine ⟨by decide +kernel, ae_intI T.b_int (aa_cons (ae_ge (ae_abs T.b_abs ?_)))⟩
    walk_at "ax"
    refine ⟨_, rfl, ae_pow ?_⟩
    walk_at "ax"
    refine ⟨⟨by decide +kernel, by decide +kernel, by decide +kernel⟩, ?_⟩
    walk_at "ax"
    refine .inr ⟨_, rfl, ?_⟩
    generalize (if c < 0 then -c else c) = a
    have e300 : ((10 : Int) ^ (60 : Int).toNat) ^ (5 : Int).toNat = 10 ^ 300 := by decide +kernel
    rw [e300]
    have m0 : 0 ≤ a % (10 : Int) ^ 300 := Int.emod_nonneg _ (by decide +kernel)
    have m1 : a % (10 : Int) ^ 300 < 10 ^ 300 := Int.emod_lt_of_pos _ (by decide +kernel)
    generalize a % (10 : Int) ^ 300 = o at m0 m1
    have ho : o.natAbs < 2 ^ 1000 := Nat.lt_of_lt_of_le (m := 10 ^ 300) (by
      have e : ((10 : Int) ^ 300) = ((10 ^ 300 : Nat) : Int) := by decide +kernel
      rw [e] at m1; omega) (by decide +kernel)
    have key : ∀ b : Int, b = 1 ∨ b = 0 → 0 ≤ o * b ∧ o * b < 10 ^ 300 ∧ CMulW o b := by
      intro b hb
      rcases hb with rfl | rfl
      · rw [Int.mul_one]; exact ⟨m0, m1, wide_mul (b := 1) ho (by decide) (by decide) (by decide) (by decide)⟩
      · rw [Int.mul_zero]; exact ⟨Int.le_refl _, by decide +kernel, wide_mul (b := 1) ho (by decide) (by decide) (by decide) (by decide)⟩
    obtain ⟨k1, k2, k3⟩ := key (if (decide (10 ^ (18 : Int).toNat ≤ a)) = true then 1 else 0) (by split; exact .inl rfl; exact .inr rfl)
    refine ⟨_, _, rfl, rfl, k3, ?_⟩
    generalize o * (if (decide (10 ^ (18 : Int).toNat ≤ a)) = true then 1 else 0) = own at k1 k2
    walk_at "set"
    refine ae_mod (ae_intI T.b_int ?_)
    walk_at "ax"
    refine .inl ⟨_, rfl, ?_⟩
    walk_at "ax"
    refine ⟨by decide, ?_⟩
    have s0 : 0 ≤ c % 2305843009213693951 := Int.emod_nonneg _ (by decide)
    have s1 : c % 2305843009213693951 < 2305843009213693951 := Int.emod_lt_of_pos _ (by decide)
    generalize c % 2305843009213693951 = sm at s0 s1
    refine as_cons (as_ret (ae_lst ?_))
    walk_at "ax"
    refine ae_intI T.b_int ?_
    walk_at "ax"
    refine ⟨wide_mul (a := 61) (b := 20) (by omega) (by decide) (by decide) (by decide) (by decide), ?_⟩
    walk_at "ax"
    refine ⟨wide_mul (a := 20) (b := 20) (by decide) (Nat.lt_of_lt_of_le (m := 9) (by omega) (by decide)) (by decide) (by decide) (by decide), ?_⟩
    walk_at "ax"
    refine ⟨wide_mul (a := 40) (b := 20) (wide_lt (a := 20) (b := 20) (by decide) (Nat.lt_of_lt_of_le (m := 9) (by omega) (by decide))) (Nat.lt_of_lt_of_le (m := 9) (by omega) (by decide)) (by decide) (by decide) (by decide), ?_⟩
    walk_at "ax"
    refine .inl ⟨_, rfl, ?_⟩
    walk_at "ax"
    refine ⟨by decide, ?_⟩
    walk_at "ax"
    refine ⟨Nat.le_of_ble_eq_true rfl, fun p1 hp1 => q p1 _ _ hp1 ⟨k1, k2, Int.emod_nonneg _ (by decide), Int.lt_trans (Int.emod_lt_of_pos _ (by decide)) (by decide), Int.le_refl _, Int.le_refl _⟩⟩
end B

set_option Elab.async false
set_option linter.all false
set_option maxRecDepth 100000
set_option maxHeartbeats 4000000
namespace B
open PySem PySem.Spec PyProof.Rows L2 A
local macro_rules | `(tactic| walk_at "nm") => `(tactic| refine ae_nameT (by assumption) rfl ?_)
local macro_rules | `(tactic| walk_at "ag") => `(tactic| refine ag_nameT (by assumption) (by assumption) ?_)
local macro_rules | `(tactic| walk_at "agc") => `(tactic| (refine agc_nameU (by assumption) (by assumption) ?_ ?_; · decide))
local macro_rules | `(tactic| walk_at "set") => `(tactic| refine as_setT (by assumption) (by assumption) ?_)
local macro_rules | `(tactic| walk_at "ax1") => `(tactic| first
  | ((with_reducible show AE _ (Expr.Name _ _) _ _ _); walk_at "nm")
  | ((with_reducible show AA _ (_ :: _) _ _ _); refine aa_cons ?_)
  | ((with_reducible show AA _ [] _ _ _); refine aa_nil ?_)
  | ((with_reducible show AE _ (Expr.Constant _ _ _) _ _ _); first | refine ae_int ?_ | refine ae_str ?_ | refine ae_bl ?_ | refine ae_non ?_)
  | ((with_reducible show AE _ (Expr.BinOp _ Operator.Add _ _) _ _ _); refine ae_add ?_)
  | ((with_reducible show AE _ (Expr.BinOp _ Operator.Sub _ _) _ _ _); refine ae_sub ?_)
  | ((with_reducible show AE _ (Expr.BinOp _ Operator.Mult _ _) _ _ _); refine ae_mul ?_)
  | ((with_reducible show AE _ (Expr.BinOp _ Operator.FloorDiv _ _) _ _ _); refine ae_fdiv ?_)
  | ((with_reducible show AE _ (Expr.BinOp _ Operator.Mod _ _) _ _ _); refine ae_mod ?_)
  | ((with_reducible show AE _ (Expr.Compare _ [CmpOp.Lt] _ _) _ _ _); refine ae_lt ?_)
  | ((with_reducible show AE _ (Expr.Compare _ [CmpOp.LtE] _ _) _ _ _); refine ae_le ?_)
  | ((with_reducible show AE _ (Expr.Compare _ [CmpOp.Gt] _ _) _ _ _); refine ae_gt ?_)
  | ((with_reducible show AE _ (Expr.Compare _ [CmpOp.GtE] _ _) _ _ _); refine ae_ge ?_)
  | ((with_reducible show AE _ (Expr.Compare _ [CmpOp.Eq] _ _) _ _ _); refine ae_eqs ?_)
  | ((with_reducible show AE _ (Expr.Compare _ [CmpOp.NotEq] _ _) _ _ _); refine ae_nes ?_)
  | ((with_reducible show AT _ (Expr.Compare _ [CmpOp.Eq] _ _) _ _ _); refine at_eqs ?_)
  | ((with_reducible show AT _ (Expr.Compare _ [CmpOp.NotEq] _ _) _ _ _); refine at_nes ?_)
  | ((with_reducible show AT _ (Expr.Compare _ [CmpOp.Lt] _ _) _ _ _); refine at_lt ?_)
  | ((with_reducible show AT _ (Expr.Compare _ [CmpOp.LtE] _ _) _ _ _); refine at_le ?_)
  | ((with_reducible show AT _ (Expr.Compare _ [CmpOp.Gt] _ _) _ _ _); refine at_gt ?_)
  | ((with_reducible show AT _ (Expr.Compare _ [CmpOp.GtE] _ _) _ _ _); refine at_ge ?_)
  | ((with_reducible show AT _ (Expr.UnaryOp UnaryOp.Not _ _) _ _ _); refine at_not ?_)
  | ((with_reducible show AT _ (Expr.Call _ _ _ _) _ _ _); refine at_val ?_)
  | ((with_reducible show AR _ rEq (DV.dat (PyData.int _)) (DV.dat (PyData.int _)) _ _); refine ar_eqI ?_)
  | ((with_reducible show AR _ rNe (DV.dat (PyData.int _)) (DV.dat (PyData.int _)) _ _); refine ar_neI ?_)
  | ((with_reducible show AR _ rEq (DV.dat (PyData.str _)) (DV.dat (PyData.str _)) _ _); refine ar_eqS ?_)
  | ((with_reducible show AR _ rNe (DV.dat (PyData.str _)) (DV.dat (PyData.str _)) _ _); refine ar_neS ?_)
  | ((with_reducible show ∃ c, DV.dat (PyData.bool _) = DV.dat (PyData.bool c) ∧ _); refine ⟨_, rfl, ?_⟩)
  | ((with_reducible show AE _ (Expr.Tuple _ _ _) _ _ _); refine ae_tup ?_)
  | ((with_reducible show AE _ (Expr.Subscript _ _ _) _ _ _); refine ae_ixT ?_)
  | ((with_reducible show ∃ i j, DV.dat (PyData.int _) = DV.dat (PyData.int i) ∧ DV.dat (PyData.int _) = DV.dat (PyData.int j) ∧ _); refine ⟨_, _, rfl, rfl, ?_⟩)
  | ((with_reducible show ∃ xs i d, DV.dat (PyData.tuple _) = DV.dat (PyData.tuple xs) ∧ _); refine ⟨_, _, _, rfl, rfl, rfl, ?_⟩))
local macro_rules | `(tactic| walk_at "ax") => `(tactic| repeat (walk_at "ax1"))
local macro_rules | `(tactic| walk_at "ay1") => `(tactic| first
  | walk_at "ax1"
  | ((with_reducible show AE _ (Expr.UnaryOp UnaryOp.USub _ _) _ _ _); refine ae_neg ?_)
  | ((with_reducible show ∃ i, DV.dat (PyData.int _) = DV.dat (PyData.int i) ∧ _); refine ⟨_, rfl, ?_⟩)
  | ((with_reducible show ∃ xs : List PyData, [_, _] = List.map DV.dat xs ∧ _); refine ⟨[_, _], rfl, Nat.le_of_ble_eq_true rfl, ?_⟩)
  | ((with_reducible show ∃ xs : List PyData, [_, _, _] = List.map DV.dat xs ∧ _); refine ⟨[_, _, _], rfl, Nat.le_of_ble_eq_true rfl, ?_⟩))
local macro_rules | `(tactic| walk_at "ay") => `(tactic| repeat (walk_at "ay1"))
variable {P : Program} {w : World} {K : PySem.W.Frag} {mg : Str → Option Value} {base : Heap} {C : Addr}
open TL Wd
set_option exponentiation.threshold 10000
def S_take : DS1 := fun vs M k => ∃ (q : Addr) (m o s c : Int) (n : Nat), vs = [.raw (.ref q), .dat (.int m)] ∧ M q = some (potO o s c) ∧ PotB o s c n ∧ n ≤ 1000000 ∧ 0 < m ∧ m < 2 ^ 40 ∧ ∀ d o' s' c', PotB o' s' c' (n + 1) → 0 ≤ d → d < m → k (.dat (.int d)) (upM M q (potO o' s' c'))
theorem sc__law_take : FnScope ["pot", "upto", "digit", "prime", "blend"] ["pot", "upto"] (defScope s__law_take) := ⟨rfl, rfl, rfl, by decide +kernel, rfl, by decide +kernel, by decide +kernel⟩
theorem primes {i : Int} (h0 : 0 ≤ i) (h1 : i < 5) : ∃ p : Int, atI [PyData.int 2147483647, .int 2147483629, .int 2147483587, .int 2147483579, .int 2147483563] i = some (.int p) ∧ 0 < p ∧ p < 2 ^ 31 := by
  have : i = 0 ∨ i = 1 ∨ i = 2 ∨ i = 3 ∨ i = 4 := by omega
  rcases this with rfl | rfl | rfl | rfl | rfl
  all_goals exact ⟨_, rfl, by decide, by decide⟩
theorem d__law_take (T : Txt K mg C) {f : Addr} {fd : FuncData} (F : Fun K "_law_take" "_law_take" s__law_take f fd) (hm : mg "_law_take" = some (.ref f)) (hb : Binds K fd ["pot", "upto"] []) : Def P w K mg base "_law_take" 1 S_take := by
  refine def_ok F hm hb sc__law_take (fun ds M k h => ?_) (fun cdv A outer s H E ds M kk hl nd hr h => ?_)
  · obtain ⟨q, m, o, s, c, n, rfl, _⟩ := h; rfl
  · obtain ⟨q1, m, o, sm, c, n, rfl, hM, hp, hn, m0, m1, q⟩ := h
    have o2 := hp.o1
    have e300 : ((10 : Int) ^ 300) = ((10 ^ 300 : Nat) : Int) := by decide +kernel
    have mm : CDivW o m := wide_div (b := 40) m0 (by omega) (by decide) (by decide)
    refine as_cons (as_if (at_gt (ae_ixM (ae_nameT (by assumption) rfl (ae_int ⟨q1, _, _, _, rfl, rfl, hM, rfl, ?_⟩)))))
    walk_at "ax"
    refine ⟨fun h => ?_, fun h => ?_⟩
    · walk_at "set"
      refine ae_mod (ae_intI T.b_int (aa_cons (ae_ixM (ae_nameT (by assumption) rfl (ae_int ⟨q1, _, _, _, rfl, rfl, hM, rfl, aa_nil ?_⟩)))))
      refine .inl ⟨_, rfl, ?_⟩
      walk_at "ax"
      refine ⟨m0, ?_⟩
      refine as_cons (as_setI (ae_fdiv (ae_ixM (ae_nameT (by assumption) rfl (ae_int ⟨q1, _, _, _, rfl, rfl, hM, rfl, ?_⟩)))))
      walk_at "ax"
      refine ⟨mm, ?_⟩
      walk_at "ax"
      refine ⟨q1, _, _, 0, rfl, rfl, hM, rfl, ?_⟩
      refine as_cons (as_ret ?_)
      walk_at "nm"
      refine q _ (o / m) sm c ⟨Int.ediv_nonneg hp.o0 (by omega), Int.lt_of_le_of_lt (Int.ediv_le_self _ hp.o0) hp.o1, hp.s0, hp.s1, hp.c0, by have := hp.c1; omega⟩ (Int.emod_nonneg _ (by omega)) (Int.emod_lt_of_pos _ m0)
    · refine as_nil (as_cons (as_setI (ae_add (ae_ixM (ae_nameT (by assumption) rfl (ae_int ⟨q1, _, _, _, rfl, rfl, hM, rfl, ?_⟩))))))
      walk_at "ax"
      refine ⟨q1, _, _, 2, rfl, rfl, hM, rfl, ?_⟩
      have hM2 : upM M q1 (.lst [.dat (.int o), .dat (.int sm), .dat (.int (c + 1))]) q1 = some (.lst [.dat (.int o), .dat (.int sm), .dat (.int (c + 1))]) := upM_same
      show ASs _ _ _ (upM M q1 (.lst [.dat (.int o), .dat (.int sm), .dat (.int (c + 1))])) _
      have c1 := hp.c1
      have c0 := hp.c0
      have s0 := hp.s0
      have s1 := hp.s1
      have qq : ∀ d, 0 ≤ d → d < m → kk (.dat (.int d)) (upM M q1 (potO o sm (c + 1))) := fun d => q d o sm (c + 1) ⟨hp.o0, hp.o1, hp.s0, hp.s1, by omega, by omega⟩
      have hc0 : 0 ≤ c + 1 := by omega
      have hc1 : (c + 1).natAbs < 2 ^ 20 := by omega
      generalize c + 1 = z at hM2 qq hc0 hc1
      generalize upM M q1 (.lst [.dat (.int o), .dat (.int sm), .dat (.int z)]) = M2 at hM2 qq
      have i0 : 0 ≤ z % 5 := Int.emod_nonneg _ (by decide)
      have i1 : z % 5 < 5 := Int.emod_lt_of_pos _ (by decide)
      obtain ⟨pr, hpr, p0, p1⟩ := primes i0 i1
      walk_at "set"
      refine ae_ixL (ae_lstD ?_)
      walk_at "ax"
      refine ⟨[_, _, _, _, _], rfl, Nat.le_of_ble_eq_true rfl, ae_mod (ae_intI T.b_int (aa_cons (ae_ixM (ae_nameT (by assumption) rfl (ae_int ⟨q1, _, _, _, rfl, rfl, hM2, rfl, aa_nil ?_⟩)))))⟩
      refine .inl ⟨_, rfl, ?_⟩
      walk_at "ax"
      refine ⟨by decide, _, _, _, rfl, rfl, hpr, ?_⟩
      walk_at "set"
      refine ae_mod (ae_intI T.b_int (aa_cons (ae_pow (ae_intI T.b_int (aa_cons (ae_add (ae_add (ae_ixM (ae_nameT (by assumption) rfl (ae_int ⟨q1, _, _, _, rfl, rfl, hM2, rfl, ?_⟩))))))))))
      refine ae_mul (ae_mul (ae_int (ae_ixM (ae_nameT (by assumption) rfl (ae_int ⟨q1, _, _, _, rfl, rfl, hM2, rfl, ?_⟩)))))
      have b1 : (100271 * z).natAbs < 2 ^ 37 := wide_lt (a := 17) (b := 20) (by decide) hc1
      have b2 : (100271 * z * z).natAbs < 2 ^ 57 := wide_lt (a := 37) (b := 20) b1 hc1
      refine ⟨_, _, rfl, rfl, wide_mul (a := 17) (b := 20) (by decide) hc1 (by decide) (by decide) (by decide), ?_⟩
      refine (ae_ixM (ae_nameT (by assumption) rfl (ae_int ⟨q1, _, _, _, rfl, rfl, hM2, rfl, ?_⟩)))
      refine ⟨_, _, rfl, rfl, wide_mul (a := 37) (b := 20) b1 hc1 (by decide) (by decide) (by decide), ?_⟩
      walk_at "ax"
      refine .inl ⟨_, rfl, ?_⟩
      walk_at "ax"
      refine ⟨⟨by decide, by decide, by omega⟩, aa_nil (.inl ⟨_, rfl, ?_⟩)⟩
      walk_at "ax"
      refine ⟨p0, ?_⟩
      generalize (sm + 100271 * z * z + 1069) ^ (3 : Int).toNat = y
      have y0 : 0 ≤ y % pr := Int.emod_nonneg _ (by omega)
      have y1 : y % pr < pr := Int.emod_lt_of_pos _ p0
      generalize y % pr = x at y0 y1
      walk_at "set"
      refine ae_mod (ae_intI T.b_int (aa_cons (ae_mul ?_)))
      walk_at "nm"
      refine ae_add (ae_mod (ae_intI T.b_int ?_))
      walk_at "ax"
      refine .inl ⟨_, rfl, ?_⟩
      walk_at "ax"
      refine ⟨by decide, ae_mul (ae_int (ae_ixM (ae_nameT (by assumption) rfl (ae_int ⟨q1, _, _, _, rfl, rfl, hM2, rfl, ?_⟩))))⟩
      refine ⟨_, _, rfl, rfl, wide_mul (a := 14) (b := 20) (by decide) hc1 (by decide) (by decide) (by decide), ?_⟩
      have x0 : 0 ≤ x % 10961 := Int.emod_nonneg _ (by decide)
      have x1 : x % 10961 < 10961 := Int.emod_lt_of_pos _ (by decide)
      refine ⟨_, _, rfl, rfl, _, _, rfl, rfl, wide_mul (a := 31) (b := 36) (by omega) (by omega) (by decide) (by decide) (by decide), ?_⟩
      refine aa_nil (.inl ⟨_, rfl, ?_⟩)
      walk_at "ax"
      refine ⟨by decide, ?_⟩
      refine as_cons (as_ret (ae_mod (ae_intI T.b_int ?_)))
      walk_at "ax"
      refine ⟨wide_div (b := 14) (by decide) (by decide) (by decide) (by decide), ?_⟩
      walk_at "ax"
      refine .inl ⟨_, rfl, ?_⟩
      walk_at "ax"
      exact ⟨m0, qq _ (Int.emod_nonneg _ (by omega)) (Int.emod_lt_of_pos _ m0)⟩
end B

set_option Elab.async false
set_option linter.all false
set_option maxRecDepth 100000
set_option maxHeartbeats 4000000
namespace B
open PySem PySem.Spec PyProof.Rows L2 A
local macro_rules | `(tactic| walk_at "nm") => `(tactic| refine ae_nameT (by assumption) rfl ?_)
local macro_rules | `(tactic| walk_at "ag") => `(tactic| refine ag_nameT (by assumption) (by assumption) ?_)
local macro_rules | `(tactic| walk_at "agc") => `(tactic| (refine agc_nameU (by assumption) (by assumption) ?_ ?_; · decide))
local macro_rules | `(tactic| walk_at "set") => `(tactic| refine as_setT (by assumption) (by assumption) ?_)
local macro_rules | `(tactic| walk_at "ax1") => `(tactic| first
  | ((with_reducible show AE _ (Expr.Name _ _) _ _ _); walk_at "nm")
  | ((with_reducible show AA _ (_ :: _) _ _ _); refine aa_cons ?_)
  | ((with_reducible show AA _ [] _ _ _); refine aa_nil ?_)
  | ((with_reducible show AE _ (Expr.Constant _ _ _) _ _ _); first | refine ae_int ?_ | refine ae_str ?_ | refine ae_bl ?_ | refine ae_non ?_)
  | ((with_reducible show AE _ (Expr.BinOp _ Operator.Add _ _) _ _ _); refine ae_add ?_)
  | ((with_reducible show AE _ (Expr.BinOp _ Operator.Sub _ _) _ _ _); refine ae_sub ?_)
  | ((with_reducible show AE _ (Expr.BinOp _ Operator.Mult _ _) _ _ _); refine ae_mul ?_)
  | ((with_reducible show AE _ (Expr.BinOp _ Operator.FloorDiv _ _) _ _ _); refine ae_fdiv ?_)
  | ((with_reducible show AE _ (Expr.BinOp _ Operator.Mod _ _) _ _ _); refine ae_mod ?_)
  | ((with_reducible show AE _ (Expr.Compare _ [CmpOp.Lt] _ _) _ _ _); refine ae_lt ?_)
  | ((with_reducible show AE _ (Expr.Compare _ [CmpOp.LtE] _ _) _ _ _); refine ae_le ?_)
  | ((with_reducible show AE _ (Expr.Compare _ [CmpOp.Gt] _ _) _ _ _); refine ae_gt ?_)
  | ((with_reducible show AE _ (Expr.Compare _ [CmpOp.GtE] _ _) _ _ _); refine ae_ge ?_)
  | ((with_reducible show AE _ (Expr.Compare _ [CmpOp.Eq] _ _) _ _ _); refine ae_eqs ?_)
  | ((with_reducible show AE _ (Expr.Compare _ [CmpOp.NotEq] _ _) _ _ _); refine ae_nes ?_)
  | ((with_reducible show AT _ (Expr.Compare _ [CmpOp.Eq] _ _) _ _ _); refine at_eqs ?_)
  | ((with_reducible show AT _ (Expr.Compare _ [CmpOp.NotEq] _ _) _ _ _); refine at_nes ?_)
  | ((with_reducible show AT _ (Expr.Compare _ [CmpOp.Lt] _ _) _ _ _); refine at_lt ?_)
  | ((with_reducible show AT _ (Expr.Compare _ [CmpOp.LtE] _ _) _ _ _); refine at_le ?_)
  | ((with_reducible show AT _ (Expr.Compare _ [CmpOp.Gt] _ _) _ _ _); refine at_gt ?_)
  | ((with_reducible show AT _ (Expr.Compare _ [CmpOp.GtE] _ _) _ _ _); refine at_ge ?_)
  | ((with_reducible show AT _ (Expr.UnaryOp UnaryOp.Not _ _) _ _ _); refine at_not ?_)
  | ((with_reducible show AT _ (Expr.Call _ _ _ _) _ _ _); refine at_val ?_)
  | ((with_reducible show AR _ rEq (DV.dat (PyData.int _)) (DV.dat (PyData.int _)) _ _); refine ar_eqI ?_)
  | ((with_reducible show AR _ rNe (DV.dat (PyData.int _)) (DV.dat (PyData.int _)) _ _); refine ar_neI ?_)
  | ((with_reducible show AR _ rEq (DV.dat (PyData.str _)) (DV.dat (PyData.str _)) _ _); refine ar_eqS ?_)
  | ((with_reducible show AR _ rNe (DV.dat (PyData.str _)) (DV.dat (PyData.str _)) _ _); refine ar_neS ?_)
  | ((with_reducible show ∃ c, DV.dat (PyData.bool _) = DV.dat (PyData.bool c) ∧ _); refine ⟨_, rfl, ?_⟩)
  | ((with_reducible show AE _ (Expr.Tuple _ _ _) _ _ _); refine ae_tup ?_)
  | ((with_reducible show AE _ (Expr.Subscript _ _ _) _ _ _); refine ae_ixT ?_)
  | ((with_reducible show ∃ i j, DV.dat (PyData.int _) = DV.dat (PyData.int i) ∧ DV.dat (PyData.int _) = DV.dat (PyData.int j) ∧ _); refine ⟨_, _, rfl, rfl, ?_⟩)
  | ((with_reducible show ∃ xs i d, DV.dat (PyData.tuple _) = DV.dat (PyData.tuple xs) ∧ _); refine ⟨_, _, _, rfl, rfl, rfl, ?_⟩))
local macro_rules | `(tactic| walk_at "ax") => `(tactic| repeat (walk_at "ax1"))
local macro_rules | `(tactic| walk_at "ay1") => `(tactic| first
  | walk_at "ax1"
  | ((with_reducible show AE _ (Expr.UnaryOp UnaryOp.USub _ _) _ _ _); refine ae_neg ?_)
  | ((with_reducible show ∃ i, DV.dat (PyData.int _) = DV.dat (PyData.int i) ∧ _); refine ⟨_, rfl, ?_⟩)
  | ((with_reducible show ∃ xs : List PyData, [_, _] = List.map DV.dat xs ∧ _); refine ⟨[_, _], rfl, Nat.le_of_ble_eq_true rfl, ?_⟩)
  | ((with_reducible show ∃ xs : List PyData, [_, _, _] = List.map DV.dat xs ∧ _); refine ⟨[_, _, _], rfl, Nat.le_of_ble_eq_true rfl, ?_⟩))
local macro_rules | `(tactic| walk_at "ay") => `(tactic| repeat (walk_at "ay1"))
variable {P : Program} {w : World} {K : PySem.W.Frag} {mg : Str → Option Value} {base : Heap} {C : Addr}
open TL Wd
set_option exponentiation.threshold 10000
/-- the pot moves on -/
def PotK (q : Addr) (n : Nat) (M : MS) (k : MS → Prop) : Prop := ∀ o s c, PotB o s c n → k (upM M q (potO o s c))
structure PotAt (M : MS) (q : Addr) (n : Nat) : Prop where
  ex : ∃ o s c, M q = some (potO o s c) ∧ PotB o s c n
theorem PotAt.mk' {M : MS} {q : Addr} {o s c : Int} {n : Nat} (h : PotB o s c n) : PotAt (upM M q (potO o s c)) q n := ⟨o, s, c, upM_same, h⟩
def S_of : DS1 := fun vs M k => ∃ (q : Addr) (xs : List PyData) (n : Nat), vs = [.raw (.ref q), .dat (.list xs)] ∧ PotAt M q n ∧ n ≤ 1000000 ∧ xs ≠ [] ∧ xs.length < 2 ^ 30 ∧ ∀ d ∈ xs, PotK q (n + 1) M fun M' => k (.dat d) M'
theorem sc__law_of : FnScope ["pot", "some"] ["pot", "some"] (defScope s__law_of) := ⟨rfl, rfl, rfl, by decide +kernel, rfl, by decide +kernel, by decide +kernel⟩
theorem atI_in {α : Type} {xs : List α} {i : Int} (h0 : 0 ≤ i) (h1 : i < xs.length) : ∃ x, xs[i.toNat]? = some x ∧ atI xs i = some x ∧ x ∈ xs := by
  have hl : i.toNat < xs.length := by omega
  refine ⟨xs[i.toNat], List.getElem?_eq_getElem hl, ?_, List.getElem_mem hl⟩
  have := atI_nat (i := i.toNat) (List.getElem?_eq_getElem hl)
  rw [Int.toNat_of_nonneg h0] at this
  exact this
theorem d__law_of (T : Txt K mg C) (D_take : Def P w K mg base "_law_take" 1 S_take) {f : Addr} {fd : FuncData} (F : Fun K "_law_of" "_law_of" s__law_of f fd) (hm : mg "_law_of" = some (.ref f)) (hb : Binds K fd ["pot", "some"] []) : Def P w K mg base "_law_of" 2 S_of := by
  refine def_ok F hm hb sc__law_of (fun ds M k h => ?_) (fun cdv A outer s H E ds M kk hl nd hr h => ?_)
  · obtain ⟨q, xs, n, rfl, _⟩ := h; rfl
  · obtain ⟨q1, xs, n, rfl, ⟨o, sm, c, hM, hp⟩, hn, hne, hlen, q⟩ := h
    have hpos : 0 < xs.length := List.length_pos_iff.mpr hne
    refine as_cons (as_ret (ae_ixL ?_))
    walk_at "nm"
    refine ae_call D_take hr ?_
    refine aa_cons ?_
    walk_at "nm"
    refine aa_cons (ae_len T.b_len ?_)
    walk_at "ax"
    refine ⟨_, _, rfl, .lst _, aa_nil ⟨q1, _, o, sm, c, n, rfl, hM, hp, hn, by omega, by omega, fun d o' s' c' hp' h0 h1 => ?_⟩⟩
    obtain ⟨x, _, h2, h3⟩ := atI_in (xs := xs) h0 h1
    exact ⟨_, _, x, rfl, rfl, h2, q x h3 o' s' c' hp'⟩
theorem le_upq {N M : MS} {q : Addr} {a b : MO} (h : Le (upM N q a) M) : Le (upM N q b) (upM M q b) := fun x m hx => by
  by_cases e : x = q
  · subst e; rw [upM_same] at hx ⊢; exact hx
  · rw [upM_ne e] at hx ⊢
    exact h x m (by rw [upM_ne e]; exact hx)
theorem perm_erase {α : Type} {rs : List α} {j : Nat} {y : α} (h : rs[j]? = some y) : (y :: rs.eraseIdx j).Perm rs := by
  induction rs generalizing j with
  | nil => cases h
  | cons a r ih =>
    cases j with
    | zero => cases h; exact .refl _
    | succ j =>
      rw [List.getElem?_cons_succ] at h
      rw [List.eraseIdx_cons_succ]
      exact (List.Perm.swap a y _).trans ((ih h).cons a)
theorem map_erase {α β : Type} (f : α → β) : ∀ (xs : List α) (j : Nat), (xs.map f).eraseIdx j = (xs.eraseIdx j).map f
  | [], _ => rfl
  | x :: r, 0 => rfl
  | x :: r, j + 1 => by rw [List.map_cons, List.eraseIdx_cons_succ, List.eraseIdx_cons_succ, List.map_cons, map_erase f r j]
def S_some : DS1 := fun vs M k => ∃ (q : Addr) (xs : List PyData) (m n : Nat), vs = [.raw (.ref q), .dat (.list xs), .dat (.int m)] ∧ PotAt M q n ∧ m ≤ xs.length ∧ xs.length ≤ 100 ∧ n + m ≤ 1000000 ∧ ∀ ys rs : List PyData, ys.length = m → (ys ++ rs).Perm xs → PotK q (n + m) M fun M' => k (.dat (.list ys)) M'
theorem sc__law_some : FnScope ["pot", "pool", "many", "rests", "found", "lap"] ["pot", "pool", "many"] (defScope s__law_some) := ⟨rfl, rfl, rfl, by decide +kernel, rfl, by decide +kernel, by decide +kernel⟩
theorem d__law_some (T : Txt K mg C) (D_take : Def P w K mg base "_law_take" 1 S_take) {f : Addr} {fd : FuncData} (F : Fun K "_law_some" "_law_some" s__law_some f fd) (hm : mg "_law_some" = some (.ref f)) (hb : Binds K fd ["pot", "pool", "many"] []) : Def P w K mg base "_law_some" 2 S_some := by
  refine def_ok F hm hb sc__law_some (fun ds M k h => ?_) (fun cdv A outer s H E ds M kk hl nd hr h => ?_)
  · obtain ⟨q, xs, m, n, rfl, _⟩ := h; rfl
  · obtain ⟨q1, xs, m, n, rfl, ⟨o, sm, c, hM, hp⟩, hmx, hx100, hn, q⟩ := h
    refine as_cons (as_par 3 4 rfl nd (aa_cons (ae_listOf T.b_list ?_)))
    walk_at "ax"
    refine ⟨_, _, rfl, .lst _, fun r hr0 => aa_cons (ae_lst (aa_nil ⟨Nat.zero_le _, fun p hp0 => aa_nil ⟨_, _, rfl, ?_⟩⟩))⟩
    have npr : p ≠ r := fun e => by rw [e, upM_same] at hp0; cases hp0
    have hpM : M p = none := by rw [upM_ne npr] at hp0; exact hp0
    have nqr : q1 ≠ r := fun e => by rw [← e, hM] at hr0; cases hr0
    have nqp : q1 ≠ p := fun e => by rw [← e, hM] at hpM; cases hpM
    refine as_cons (as_for PassesOwn.never rfl (W := fun i ds' M' => ∃ (ys rs : List PyData) (o s c : Int) (x : Option DV), i ≤ m ∧ ys.length = i ∧ (ys ++ rs).Perm xs ∧ PotB o s c (n + i) ∧ Le (upM M q1 (potO o s c)) M' ∧ M' r = some (.lst (rs.map .dat)) ∧ M' p = some (.lst (ys.map .dat)) ∧ ds' = [some (.raw (.ref q1)), some (.dat (.list xs)), some (.dat (.int m)), some (.raw (.ref r)), some (.raw (.ref p)), x]) (ai_range1 T.b_range ?_))
    walk_at "ax"
    refine ⟨_, rfl, by omega, by omega, ⟨[], xs, o, sm, c, none, Nat.zero_le _, rfl, .refl _, hp, ?_, ?_, upM_same, rfl⟩, fun i d ds' M' hxi hw => ?_, fun ds' M' hw => ?_⟩
    · rw [upM_self hM]
      exact ((Le.refl M).up hr0).up hpM
    · rw [upM_ne npr.symm, upM_same]
    · obtain ⟨ys, rs, o, sm, c, x, him, hyl, hperm, hpb, hle, hMr, hMp, rfl⟩ := hw
      obtain ⟨hi, rfl⟩ := get_rng hxi
      have hi : i < m := by simpa using hi
      walk_at "ag"
      have hll := hperm.length_eq
      rw [List.length_append, hyl] at hll
      refine as_cons (as_expr (ae_bm PySem.F.plainAttrs_list PySem.F.slot_list_append PySem.F.type_list_append mt_append ?_))
      walk_at "nm"
      refine ⟨.chg hMp, aa_cons (ae_bm PySem.F.plainAttrs_list PySem.F.slot_list_pop PySem.F.type_list_pop mt_popAt ?_)⟩
      walk_at "nm"
      refine ⟨.chg hMr, aa_cons (ae_call D_take hr ?_)⟩
      refine aa_cons ?_
      walk_at "nm"
      refine aa_cons (ae_len T.b_len ?_)
      walk_at "ax"
      refine ⟨_, _, rfl, .chg hMr, aa_nil ⟨q1, _, o, sm, c, n + i, rfl, hle _ _ upM_same, hpb, by omega, by rw [List.length_map]; omega, by rw [List.length_map]; omega, fun d o' s' c' hp' h0 h1 => ?_⟩⟩
      rw [List.length_map] at h1
      obtain ⟨y, hy, _, _⟩ := atI_in (xs := rs) h0 h1
      have e : d = ((d.toNat : Nat) : Int) := (Int.toNat_of_nonneg h0).symm
      rw [e]
      generalize d.toNat = j at hy
      refine aa_nil (arm_popAt (j := j) (ys := rs.map .dat) (y := .dat y) (by rw [upM_ne nqr.symm]; exact hMr) (by rw [List.length_map]; omega) (by rw [List.getElem?_map, hy]; rfl) ?_)
      refine aa_nil (arm_append (ys := ys.map .dat) (by rw [upM_ne npr, upM_ne nqp.symm]; exact hMp) (by rw [List.length_map]; omega) ?_)
      refine as_nil ⟨ys ++ [y], rs.eraseIdx j, o', s', c', _, by omega, by rw [List.length_append, hyl]; rfl, ?_, hp', ?_, ?_, ?_, rfl⟩
      · rw [List.append_assoc]
        exact (List.Perm.append_left ys (perm_erase hy)).trans hperm
      · exact ((le_upq hle).up (by rw [upM_ne nqr.symm]; exact hr0)).up (by rw [upM_ne nqp.symm]; exact hpM)
      · rw [upM_ne npr.symm, upM_same, map_erase]
      · rw [upM_same, List.map_append]; rfl
    · obtain ⟨ys, rs, o, sm, c, x, him, hyl, hperm, hpb, hle, hMr, hMp, rfl⟩ := hw
      have em : (rngD 0 (m : Int).toNat).length = m := by unfold rngD; rw [List.length_map, List.length_range]; omega
      rw [em] at hyl hpb
      refine as_cons (as_ret (ae_wk ?_))
      walk_at "nm"
      refine ⟨_, _, (Wk.freeze hMp).trans (.forget (N := upM M q1 (potO o sm c)) fun a mo ha => ?_), q ys rs hyl hperm o sm c hpb⟩
      have hap : a ≠ p := fun e => by rw [e, upM_ne nqp.symm, hpM] at ha; cases ha
      simp only [hap, if_false]
      exact hle a mo ha
def S_cells : DS1 := fun vs M k => ∃ (xs : List PyData) (m : Nat), 1 ≤ m ∧ m ≤ 9 ∧ vs = [.dat (.list xs), .dat (.int (m : Nat))] ∧ ∀ n : Nat, 1 ≤ n → n ≤ m → k (.dat (.list ((List.range n).map fun i => .int ((0 : Int) + (i : Nat))))) M
theorem sc__law_cells : FnScope ["script", "most"] ["script", "most"] (defScope s__law_cells) := ⟨rfl, rfl, rfl, by decide +kernel, rfl, by decide +kernel, by decide +kernel⟩
theorem d__law_cells (T : Txt K mg C) {f : Addr} {fd : FuncData} (F : Fun K "_law_cells" "_law_cells" s__law_cells f fd) (hm : mg "_law_cells" = some (.ref f)) (hb : Binds K fd ["script", "most"] []) : Def P w K mg base "_law_cells" 1 S_cells := by
  refine def_ok F hm hb sc__law_cells (fun ds M k h => ?_) (fun cdv A outer s H E ds M kk hl nd hr h => ?_)
  · obtain ⟨xs, m, _, _, rfl, _⟩ := h; rfl
  · obtain ⟨xs, m, m1, m9, rfl, q⟩ := h
    refine as_cons (as_ret (ae_wk (ae_listR1 rfl T.b_list T.b_range (ae_max2 rfl T.b_max ?_))))
    walk_at "ax"
    refine ae_min2 rfl T.b_min ?_
    walk_at "ax"
    refine ae_len T.b_len ?_
    walk_at "ax"
    refine ⟨_, _, rfl, .lst _, ?_⟩
    walk_at "ax"
    refine ⟨_, _, rfl, ?_⟩
    walk_at "ax"
    refine ⟨_, _, rfl, ?_⟩
    generalize (xs.length : Int) = z
    have hz : 1 ≤ (if (if z < (m : Int) then z else (m : Int)) > (1 : Int) then (if z < (m : Int) then z else (m : Int)) else 1) ∧ (if (if z < (m : Int) then z else (m : Int)) > (1 : Int) then (if z < (m : Int) then z else (m : Int)) else 1) ≤ m := by
      split <;> split <;> omega
    generalize (if (if z < (m : Int) then z else (m : Int)) > (1 : Int) then (if z < (m : Int) then z else (m : Int)) else 1) = y at hz
    refine ⟨y, rfl, RgOk.of_le (by decide) (by omega) (by decide) (by omega), fun p hp => ?_⟩
    have e : rngD 0 y.toNat = ((List.range y.toNat).map fun i => PyData.int ((0 : Int) + (i : Nat))).map .dat := by unfold rngD; rw [List.map_map]; rfl
    rw [e]
    exact ⟨_, _, wk_new hp, q _ (by omega) (by omega)⟩
end B

set_option Elab.async false
set_option linter.all false
set_option maxRecDepth 100000
set_option maxHeartbeats 4000000
namespace B
open PySem PySem.Spec PyProof.Rows L2 A
local macro_rules | `(tactic| walk_at "nm") => `(tactic| refine ae_nameT (by assumption) rfl ?_)
local macro_rules | `(tactic| walk_at "ag") => `(tactic| refine ag_nameT (by assumption) (by assumption) ?_)
local macro_rules | `(tactic| walk_at "agc") => `(tactic| (refine agc_nameU (by assumption) (by assumption) ?_ ?_; · decide))
local macro_rules | `(tactic| walk_at "set") => `(tactic| refine as_setT (by assumption) (by assumption) ?_)
local macro_rules | `(tactic| walk_at "ax1") => `(tactic| first
  | ((with_reducible show AE _ (Expr.Name _ _) _ _ _); walk_at "nm")
  | ((with_reducible show AA _ (_ :: _) _ _ _); refine aa_cons ?_)
  | ((with_reducible show AA _ [] _ _ _); refine aa_nil ?_)
  | ((with_reducible show AE _ (Expr.Constant _ _ _) _ _ _); first | refine ae_int ?_ | refine ae_str ?_ | refine ae_bl ?_ | refine ae_non ?_)
  | ((with_reducible show AE _ (Expr.BinOp _ Operator.Add _ _) _ _ _); refine ae_add ?_)
  | ((with_reducible show AE _ (Expr.BinOp _ Operator.Sub _ _) _ _ _); refine ae_sub ?_)
  | ((with_reducible show AE _ (Expr.BinOp _ Operator.Mult _ _) _ _ _); refine ae_mul ?_)
  | ((with_reducible show AE _ (Expr.BinOp _ Operator.FloorDiv _ _) _ _ _); refine ae_fdiv ?_)
  | ((with_reducible show AE _ (Expr.BinOp _ Operator.Mod _ _) _ _ _); refine ae_mod ?_)
  | ((with_reducible show AE _ (Expr.Compare _ [CmpOp.Lt] _ _) _ _ _); refine ae_lt ?_)
  | ((with_reducible show AE _ (Expr.Compare _ [CmpOp.LtE] _ _) _ _ _); refine ae_le ?_)
  | ((with_reducible show AE _ (Expr.Compare _ [CmpOp.Gt] _ _) _ _ _); refine ae_gt ?_)
  | ((with_reducible show AE _ (Expr.Compare _ [CmpOp.GtE] _ _) _ _ _); refine ae_ge ?_)
  | ((with_reducible show AE _ (Expr.Compare _ [CmpOp.Eq] _ _) _ _ _); refine ae_eqs ?_)
  | ((with_reducible show AE _ (Expr.Compare _ [CmpOp.NotEq] _ _) _ _ _); refine ae_nes ?_)
  | ((with_reducible show AT _ (Expr.Compare _ [CmpOp.Eq] _ _) _ _ _); refine at_eqs ?_)
  | ((with_reducible show AT _ (Expr.Compare _ [CmpOp.NotEq] _ _) _ _ _); refine at_nes ?_)
  | ((with_reducible show AT _ (Expr.Compare _ [CmpOp.Lt] _ _) _ _ _); refine at_lt ?_)
  | ((with_reducible show AT _ (Expr.Compare _ [CmpOp.LtE] _ _) _ _ _); refine at_le ?_)
  | ((with_reducible show AT _ (Expr.Compare _ [CmpOp.Gt] _ _) _ _ _); refine at_gt ?_)
  | ((with_reducible show AT _ (Expr.Compare _ [CmpOp.GtE] _ _) _ _ _); refine at_ge ?_)
  | ((with_reducible show AT _ (Expr.UnaryOp UnaryOp.Not _ _) _ _ _); refine at_not ?_)
  | ((with_reducible show AT _ (Expr.Call _ _ _ _) _ _ _); refine at_val ?_)
  | ((with_reducible show AR _ rEq (DV.dat (PyData.int _)) (DV.dat (PyData.int _)) _ _); refine ar_eqI ?_)
  | ((with_reducible show AR _ rNe (DV.dat (PyData.int _)) (DV.dat (PyData.int _)) _ _); refine ar_neI ?_)
  | ((with_reducible show AR _ rEq (DV.dat (PyData.str _)) (DV.dat (PyData.str _)) _ _); refine ar_eqS ?_)
  | ((with_reducible show AR _ rNe (DV.dat (PyData.str _)) (DV.dat (PyData.str _)) _ _); refine ar_neS ?_)
  | ((with_reducible show ∃ c, DV.dat (PyData.bool _) = DV.dat (PyData.bool c) ∧ _); refine ⟨_, rfl, ?_⟩)
  | ((with_reducible show AE _ (Expr.Tuple _ _ _) _ _ _); refine ae_tup ?_)
  | ((with_reducible show AE _ (Expr.Subscript _ _ _) _ _ _); refine ae_ixT ?_)
  | ((with_reducible show ∃ i j, DV.dat (PyData.int _) = DV.dat (PyData.int i) ∧ DV.dat (PyData.int _) = DV.dat (PyData.int j) ∧ _); refine ⟨_, _, rfl, rfl, ?_⟩)
  | ((with_reducible show ∃ xs i d, DV.dat (PyData.tuple _) = DV.dat (PyData.tuple xs) ∧ _); refine ⟨_, _, _, rfl, rfl, rfl, ?_⟩))
local macro_rules | `(tactic| walk_at "ax") => `(tactic| repeat (walk_at "ax1"))
local macro_rules | `(tactic| walk_at "ay1") => `(tactic| first
  | walk_at "ax1"
  | ((with_reducible show AE _ (Expr.UnaryOp UnaryOp.USub _ _) _ _ _); refine ae_neg ?_)
  | ((with_reducible show ∃ i, DV.dat (PyData.int _) = DV.dat (PyData.int i) ∧ _); refine ⟨_, rfl, ?_⟩)
  | ((with_reducible show ∃ xs : List PyData, [_, _] = List.map DV.dat xs ∧ _); refine ⟨[_, _], rfl, Nat.le_of_ble_eq_true rfl, ?_⟩)
  | ((with_reducible show ∃ xs : List PyData, [_, _, _] = List.map DV.dat xs ∧ _); refine ⟨[_, _, _], rfl, Nat.le_of_ble_eq_true rfl, ?_⟩))
local macro_rules | `(tactic| walk_at "ay") => `(tactic| repeat (walk_at "ay1"))
variable {P : Program} {w : World} {K : PySem.W.Frag} {mg : Str → Option Value} {base : Heap} {C : Addr}
open TL Wd
set_option exponentiation.threshold 10000
def S_common : DS1 := fun vs M k => ∃ a b : Int, vs = [.dat (.int a), .dat (.int b)] ∧ k (.dat (.int ((Nat.gcd a.natAbs b.natAbs : Nat) : Int))) M
theorem sc__law_frac_common : FnScope ["one", "other"] ["one", "other"] (defScope s__law_frac_common) := ⟨rfl, rfl, rfl, by decide +kernel, rfl, by decide +kernel, by decide +kernel⟩
theorem abs_if (a : Int) : (if a < 0 then -a else a) = (a.natAbs : Int) := by split <;> omega
theorem d__law_frac_common (T : Txt K mg C) {f : Addr} {fd : FuncData} (F : Fun K "_law_frac_common" "_law_frac_common" s__law_frac_common f fd) (hm : mg "_law_frac_common" = some (.ref f)) (hb : Binds K fd ["one", "other"] []) : Def P w K mg base "_law_frac_common" 1 S_common := by
  refine def_ok F hm hb sc__law_frac_common (fun ds M k h => ?_) (fun cdv A outer s H E ds M kk hl nd hr h => ?_)
  · obtain ⟨a, b, rfl, _⟩ := h; rfl
  · obtain ⟨a, b, rfl, q⟩ := h
    refine as_cons (as_par 0 1 rfl nd (aa_cons (ae_abs T.b_abs ?_)))
    walk_at "ax"
    refine ⟨_, rfl, aa_cons (ae_abs T.b_abs ?_)⟩
    walk_at "ax"
    refine ⟨_, rfl, aa_nil ⟨_, _, rfl, ?_⟩⟩
    rw [abs_if, abs_if]
    refine as_cons (as_while (W := fun m ds' M' => M' = M ∧ ∃ x y : Nat, Nat.gcd x y = Nat.gcd a.natAbs b.natAbs ∧ y = m ∧ ds' = [some (.dat (.int x)), some (.dat (.int y))]) b.natAbs PassesOwn.never ⟨rfl, _, _, rfl, rfl, rfl⟩ fun m ds' M' hw => ?_)
    obtain ⟨rfl, x, y, hg, rfl, rfl⟩ := hw
    walk_at "ax"
    refine ⟨fun h => ?_, fun h => ?_⟩
    · have hy : 0 < y := by have := of_decide_eq_true h; omega
      refine as_cons (as_par 0 1 rfl nd (aa_cons ?_))
      walk_at "ax"
      refine ae_intI T.b_int ?_
      walk_at "ax"
      refine .inl ⟨_, rfl, ?_⟩
      walk_at "ax"
      refine ⟨by omega, ?_⟩
      walk_at "ax"
      refine ⟨_, _, rfl, as_nil ⟨x % y, Nat.mod_lt _ hy, rfl, y, x % y, ?_, rfl, rfl⟩⟩
      rw [← hg, Nat.gcd_comm x y, Nat.gcd_rec y x, Nat.gcd_comm]
    · have hy : y = 0 := by have := of_decide_eq_false h; omega
      subst hy
      refine as_cons (as_ret ?_)
      walk_at "ax"
      rw [Nat.gcd_zero_right] at hg
      rw [hg]
      exact q
def S_frac : DS1 := fun vs M k => ∃ a b : Int, vs = [.dat (.int a), .dat (.int b)] ∧ 0 < b ∧ b.natAbs < 2 ^ 8000 ∧ k (frV (Fr.low a b)) M
theorem sc__law_frac : FnScope ["top", "bottom", "by"] ["top", "bottom"] (defScope s__law_frac) := ⟨rfl, rfl, rfl, by decide +kernel, rfl, by decide +kernel, by decide +kernel⟩
theorem d__law_frac (T : Txt K mg C) (D_common : Def P w K mg base "_law_frac_common" 1 S_common) {f : Addr} {fd : FuncData} (F : Fun K "_law_frac" "_law_frac" s__law_frac f fd) (hm : mg "_law_frac" = some (.ref f)) (hb : Binds K fd ["top", "bottom"] []) : Def P w K mg base "_law_frac" 2 S_frac := by
  refine def_ok F hm hb sc__law_frac (fun ds M k h => ?_) (fun cdv A outer s H E ds M kk hl nd hr h => ?_)
  · obtain ⟨a, b, rfl, _⟩ := h; rfl
  · obtain ⟨a, b, rfl, h0, h1, q⟩ := h
    have hg : 0 < (Nat.gcd a.natAbs b.natAbs) := Nat.gcd_pos_of_pos_right _ (by omega)
    have hg2 : (Nat.gcd a.natAbs b.natAbs) ≤ b.natAbs := Nat.gcd_le_right _ (by omega)
    have hc : ∀ i, CDivW i ((Nat.gcd a.natAbs b.natAbs : Nat) : Int) := fun i => wide_div (b := 8000) (by omega) (Nat.lt_of_le_of_lt (by omega) h1) (by decide) (by decide)
    walk_at "set"
    refine ae_call D_common hr ?_
    walk_at "ax"
    refine ⟨_, _, rfl, ?_⟩
    walk_at "set"
    refine ae_if ?_
    walk_at "ax"
    refine ⟨fun _ => ?_, fun h => absurd (of_decide_eq_false h) (by omega)⟩
    walk_at "ax"
    refine as_cons (as_ret ?_)
    walk_at "ax"
    refine ⟨hc _, ?_⟩
    walk_at "ax"
    refine ⟨hc _, ?_⟩
    walk_at "ax"
    exact ⟨[_, _], rfl, Nat.le_of_ble_eq_true rfl, q⟩
theorem sc__law_frac_plus : FnScope ["one", "other"] ["one", "other"] (defScope s__law_frac_plus) := ⟨rfl, rfl, rfl, by decide +kernel, rfl, by decide +kernel, by decide +kernel⟩
theorem d__law_frac_plus (T : Txt K mg C) (D_frac : Def P w K mg base "_law_frac" 2 S_frac) {f : Addr} {fd : FuncData} (F : Fun K "_law_frac_plus" "_law_frac_plus" s__law_frac_plus f fd) (hm : mg "_law_frac_plus" = some (.ref f)) (hb : Binds K fd ["one", "other"] []) : Def P w K mg base "_law_frac_plus" 3 S_added := by
  refine def_ok F hm hb sc__law_frac_plus (fun ds M k h => ?_) (fun cdv A outer s H E ds M kk hl nd hr h => ?_)
  · obtain ⟨f, g, rfl, _⟩ := h; rfl
  · obtain ⟨f, g, rfl, ⟨f0, f1, f2⟩, ⟨g0, g1, g2⟩, q⟩ := h
    have cm : ∀ {i j : Int}, i.natAbs < 2 ^ 2000 → j.natAbs < 2 ^ 2000 → CMulW i j := fun hi hj => wide_mul hi hj (by decide) (by decide) (by decide)
    refine as_cons (as_ret (ae_call D_frac hr ?_))
    walk_at "ax"
    refine ⟨cm f1 g2, ?_⟩
    walk_at "ax"
    refine ⟨cm g1 f2, ?_⟩
    walk_at "ax"
    refine ⟨cm f2 g2, ?_⟩
    walk_at "ax"
    exact ⟨_, _, rfl, Int.mul_pos f0 g0, Nat.lt_of_lt_of_le (wide_lt f2 g2) (Nat.pow_le_pow_right (by decide) (by decide)), q⟩
def S_fsum : DS1 := fun vs M k => ∃ (d : DV) (fs : List (Int × Int)), vs = [d] ∧ SeqD M d ((fs.map frD).map .dat) ∧ (∀ f ∈ fs, Sm f) ∧ (∀ n, Sm (parts fs n)) ∧ k (frV (Fr.sum fs)) M
theorem sc__law_frac_sum : FnScope ["some", "found", "one"] ["some"] (defScope s__law_frac_sum) := ⟨rfl, rfl, rfl, by decide +kernel, rfl, by decide +kernel, by decide +kernel⟩
theorem d__law_frac_sum (T : Txt K mg C) (D_plus : Def P w K mg base "_law_frac_plus" 3 S_added) {f : Addr} {fd : FuncData} (F : Fun K "_law_frac_sum" "_law_frac_sum" s__law_frac_sum f fd) (hm : mg "_law_frac_sum" = some (.ref f)) (hb : Binds K fd ["some"] []) : Def P w K mg base "_law_frac_sum" 4 S_fsum := by
  refine def_ok F hm hb sc__law_frac_sum (fun ds M k h => ?_) (fun cdv A outer s H E ds M kk hl nd hr h => ?_)
  · obtain ⟨d, fs, rfl, _⟩ := h; rfl
  · obtain ⟨d, fs, rfl, hd, h1, h2, q⟩ := h
    walk_at "set"
    walk_at "ax"
    refine ⟨[_, _], rfl, Nat.le_of_ble_eq_true rfl, ?_⟩
    refine as_cons (as_for PassesOwn.never rfl (W := fun i ds' M' => M' = M ∧ ∃ x, ds' = [some d, some (frV (parts fs i)), x]) (ai_seq (d := d) (xs := (fs.map frD).map .dat) ?_) (fun _ _ _ h => by rw [h.1]; exact hd))
    walk_at "ax"
    refine ⟨rfl, hd, ⟨rfl, _, rfl⟩, fun i d ds' M' hx hw => ?_, fun ds' M' hw => ?_⟩
    · obtain ⟨rfl, x, rfl⟩ := hw
      obtain ⟨f, hf, rfl⟩ := getF hx
      walk_at "ag"
      walk_at "set"
      refine ae_call D_plus hr ?_
      walk_at "ax"
      refine ⟨_, f, rfl, h2 i, h1 f (List.mem_of_getElem? hf), ?_⟩
      rw [← parts_succ hf]
      exact as_nil ⟨rfl, _, rfl⟩
    · obtain ⟨rfl, x, rfl⟩ := hw
      refine as_cons (as_ret ?_)
      walk_at "ax"
      rw [List.length_map, List.length_map, parts_all]
      exact q
def S_fis : DS1 := fun vs M k => ∃ f : Int × Int, vs = [frV f] ∧ Fr.Can f ∧ k (.dat (.bool true)) M
def S_fsame : DS1 := fun vs M k => ∃ f : Int × Int, vs = [frV f, frV f] ∧ Fr.Can f ∧ k (.dat (.bool true)) M
def S_ftext : DS1 := fun vs M k => ∃ f : Int × Int, vs = [frV f] ∧ GoodF f ∧ k (.dat (.str (fracS f))) M
theorem sc__law_frac_text : FnScope ["one"] ["one"] (defScope s__law_frac_text) := ⟨rfl, rfl, rfl, by decide +kernel, rfl, by decide +kernel, by decide +kernel⟩
theorem log_ok {n : Int} (h : n.natAbs < 10 ^ 300) : n.natAbs.log2 < 1920 := Nat.lt_of_lt_of_le (PySem.Flt.log2_lt_of (k := 1000) (by decide) (Nat.lt_of_lt_of_le h (by decide +kernel))) (by decide)
theorem d__law_frac_text (T : Txt K mg C) {f : Addr} {fd : FuncData} (F : Fun K "_law_frac_text" "_law_frac_text" s__law_frac_text f fd) (hm : mg "_law_frac_text" = some (.ref f)) (hb : Binds K fd ["one"] []) : Def P w K mg base "_law_frac_text" 1 S_ftext := by
  refine def_ok F hm hb sc__law_frac_text (fun ds M k h => ?_) (fun cdv A outer s H E ds M kk hl nd hr h => ?_)
  · obtain ⟨f, rfl, _⟩ := h; rfl
  · obtain ⟨f, rfl, hg, q⟩ := h
    unfold fracS at q
    have l1 := numS_len hg.top
    have l2 := numS_len hg.bot
    refine as_cons (as_ret (ae_if ?_))
    walk_at "ax"
    refine ⟨fun h => ?_, fun h => ?_⟩
    · rw [if_pos (of_decide_eq_true h)] at q
      refine ae_strI T.b_str (aa_cons (ae_intI T.b_int ?_))
      walk_at "ax"
      exact .inl ⟨_, rfl, aa_nil ⟨_, rfl, log_ok hg.top, q⟩⟩
    · rw [if_neg (of_decide_eq_false h)] at q
      refine ae_cat (ae_cat (ae_strI T.b_str (aa_cons (ae_intI T.b_int ?_))))
      walk_at "ax"
      refine .inl ⟨_, rfl, aa_nil ⟨_, rfl, log_ok hg.top, ?_⟩⟩
      walk_at "ax"
      have e1 : (Str.ofString "/").length = 1 := by decide +kernel
      have e2 : (numS f.1 ++ Str.ofString "/").length = (numS f.1).length + 1 := by
        rw [len_tl, tl_append, List.length_append, slash_tl, ← len_tl]; rfl
      refine ⟨_, _, rfl, rfl, Nat.le_trans (m := 1000) (by rw [e1]; exact Nat.le_trans (Nat.add_le_add_right l1 1) (by decide)) (by decide), ae_strI T.b_str (aa_cons (ae_intI T.b_int ?_))⟩
      walk_at "ax"
      exact .inl ⟨_, rfl, aa_nil ⟨_, rfl, log_ok hg.bot, _, _, rfl, rfl, Nat.le_trans (m := 1000) (by rw [e2]; exact Nat.le_trans (Nat.add_le_add (Nat.add_le_add_right l1 1) l2) (by decide)) (by decide), q⟩⟩
end B

set_option Elab.async false
set_option linter.all false
set_option maxRecDepth 100000
set_option maxHeartbeats 4000000
namespace B
open PySem PySem.Spec PyProof.Rows L2 A
local macro_rules | `(tactic| walk_at "nm") => `(tactic| refine ae_nameT (by assumption) rfl ?_)
local macro_rules | `(tactic| walk_at "ag") => `(tactic| refine ag_nameT (by assumption) (by assumption) ?_)
local macro_rules | `(tactic| walk_at "agc") => `(tactic| (refine agc_nameU (by assumption) (by assumption) ?_ ?_; · decide))
local macro_rules | `(tactic| walk_at "set") => `(tactic| refine as_setT (by assumption) (by assumption) ?_)
local macro_rules | `(tactic| walk_at "ax1") => `(tactic| first
  | ((with_reducible show AE _ (Expr.Name _ _) _ _ _); walk_at "nm")
  | ((with_reducible show AA _ (_ :: _) _ _ _); refine aa_cons ?_)
  | ((with_reducible show AA _ [] _ _ _); refine aa_nil ?_)
  | ((with_reducible show AE _ (Expr.Constant _ _ _) _ _ _); first | refine ae_int ?_ | refine ae_str ?_ | refine ae_bl ?_ | refine ae_non ?_)
  | ((with_reducible show AE _ (Expr.BinOp _ Operator.Add _ _) _ _ _); refine ae_add ?_)
  | ((with_reducible show AE _ (Expr.BinOp _ Operator.Sub _ _) _ _ _); refine ae_sub ?_)
  | ((with_reducible show AE _ (Expr.BinOp _ Operator.Mult _ _) _ _ _); refine ae_mul ?_)
  | ((with_reducible show AE _ (Expr.BinOp _ Operator.FloorDiv _ _) _ _ _); refine ae_fdiv ?_)
  | ((with_reducible show AE _ (Expr.BinOp _ Operator.Mod _ _) _ _ _); refine ae_mod ?_)
  | ((with_reducible show AE _ (Expr.Compare _ [CmpOp.Lt] _ _) _ _ _); refine ae_lt ?_)
  | ((with_reducible show AE _ (Expr.Compare _ [CmpOp.LtE] _ _) _ _ _); refine ae_le ?_)
  | ((with_reducible show AE _ (Expr.Compare _ [CmpOp.Gt] _ _) _ _ _); refine ae_gt ?_)
  | ((with_reducible show AE _ (Expr.Compare _ [CmpOp.GtE] _ _) _ _ _); refine ae_ge ?_)
  | ((with_reducible show AE _ (Expr.Compare _ [CmpOp.Eq] _ _) _ _ _); refine ae_eqs ?_)
  | ((with_reducible show AE _ (Expr.Compare _ [CmpOp.NotEq] _ _) _ _ _); refine ae_nes ?_)
  | ((with_reducible show AT _ (Expr.Compare _ [CmpOp.Eq] _ _) _ _ _); refine at_eqs ?_)
  | ((with_reducible show AT _ (Expr.Compare _ [CmpOp.NotEq] _ _) _ _ _); refine at_nes ?_)
  | ((with_reducible show AT _ (Expr.Compare _ [CmpOp.Lt] _ _) _ _ _); refine at_lt ?_)
  | ((with_reducible show AT _ (Expr.Compare _ [CmpOp.LtE] _ _) _ _ _); refine at_le ?_)
  | ((with_reducible show AT _ (Expr.Compare _ [CmpOp.Gt] _ _) _ _ _); refine at_gt ?_)
  | ((with_reducible show AT _ (Expr.Compare _ [CmpOp.GtE] _ _) _ _ _); refine at_ge ?_)
  | ((with_reducible show AT _ (Expr.UnaryOp UnaryOp.Not _ _) _ _ _); refine at_not ?_)
  | ((with_reducible show AT _ (Expr.Call _ _ _ _) _ _ _); refine at_val ?_)
  | ((with_reducible show AR _ rEq (DV.dat (PyData.int _)) (DV.dat (PyData.int _)) _ _); refine ar_eqI ?_)
  | ((with_reducible show AR _ rNe (DV.dat (PyData.int _)) (DV.dat (PyData.int _)) _ _); refine ar_neI ?_)
  | ((with_reducible show AR _ rEq (DV.dat (PyData.str _)) (DV.dat (PyData.str _)) _ _); refine ar_eqS ?_)
  | ((with_reducible show AR _ rNe (DV.dat (PyData.str _)) (DV.dat (PyData.str _)) _ _); refine ar_neS ?_)
  | ((with_reducible show ∃ c, DV.dat (PyData.bool _) = DV.dat (PyData.bool c) ∧ _); refine ⟨_, rfl, ?_⟩)
  | ((with_reducible show AE _ (Expr.Tuple _ _ _) _ _ _); refine ae_tup ?_)
  | ((with_reducible show AE _ (Expr.Subscript _ _ _) _ _ _); refine ae_ixT ?_)
  | ((with_reducible show ∃ i j, DV.dat (PyData.int _) = DV.dat (PyData.int i) ∧ DV.dat (PyData.int _) = DV.dat (PyData.int j) ∧ _); refine ⟨_, _, rfl, rfl, ?_⟩)
  | ((with_reducible show ∃ xs i d, DV.dat (PyData.tuple _) = DV.dat (PyData.tuple xs) ∧ _); refine ⟨_, _, _, rfl, rfl, rfl, ?_⟩))
local macro_rules | `(tactic| walk_at "ax") => `(tactic| repeat (walk_at "ax1"))
local macro_rules | `(tactic| walk_at "ay1") => `(tactic| first
  | walk_at "ax1"
  | ((with_reducible show AE _ (Expr.UnaryOp UnaryOp.USub _ _) _ _ _); refine ae_neg ?_)
  | ((with_reducible show ∃ i, DV.dat (PyData.int _) = DV.dat (PyData.int i) ∧ _); refine ⟨_, rfl, ?_⟩)
  | ((with_reducible show ∃ xs : List PyData, [_, _] = List.map DV.dat xs ∧ _); refine ⟨[_, _], rfl, Nat.le_of_ble_eq_true rfl, ?_⟩)
  | ((with_reducible show ∃ xs : List PyData, [_, _, _] = List.map DV.dat xs ∧ _); refine ⟨[_, _, _], rfl, Nat.le_of_ble_eq_true rfl, ?_⟩))
local macro_rules | `(tactic| walk_at "ay") => `(tactic| repeat (walk_at "ay1"))
variable {P : Program} {w : World} {K : PySem.W.Frag} {mg : Str → Option Value} {base : Heap} {C : Addr}
open TL Wd
set_option exponentiation.threshold 10000
theorem ads_cons {X : Cx} {ds : DS} {M : MS} {e v : Expr} {ks : List (Option Expr)} {vs : List Expr} {k : List (DV × DV) → MS → Prop} (h : AE X e ds M fun d M1 => AE X v ds M1 fun y M2 => ADs X ds ks vs M2 fun r M3 => k ((d, y) :: r) M3) : ADs X ds (some e :: ks) (v :: vs) M k := h
theorem ads_nil {X : Cx} {ds : DS} {M : MS} {k : List (DV × DV) → MS → Prop} (h : k [] M) : ADs X ds [] [] M k := h
def S_bregs : DS1 := fun vs M k => vs = [] ∧ k (.dat (.tuple (regs.map .str))) M
theorem sc__law_book_regions : FnScope [] [] (defScope s__law_book_regions) := ⟨rfl, rfl, rfl, by decide +kernel, rfl, by decide +kernel, by decide +kernel⟩
theorem d__law_book_regions (T : Txt K mg C) {f : Addr} {fd : FuncData} (F : Fun K "_law_book_regions" "_law_book_regions" s__law_book_regions f fd) (hm : mg "_law_book_regions" = some (.ref f)) (hb : Binds K fd [] []) : Def P w K mg base "_law_book_regions" 1 S_bregs := by
  refine def_ok F hm hb sc__law_book_regions (fun ds M k h => ?_) (fun cdv A outer s H E ds M kk hl nd hr h => ?_)
  · obtain ⟨rfl, _⟩ := h; rfl
  · obtain ⟨rfl, q⟩ := h
    refine as_cons (as_ret ?_)
    walk_at "ax"
    exact ⟨[_, _, _, _], rfl, Nat.le_of_ble_eq_true rfl, q⟩
/-- the drawn chances, a dict -/
def ownK (o : Own) : List (Key × DV) := regs.map fun r => ((.inr r : Key), DV.dat (.list ((o r).map stD)))
theorem own_val {o : Own} {r : Str} (h : r ∈ regs) : valD (ownK o) (.inr r) = some (.dat (.list ((o r).map stD))) := by
  simp only [regs, List.mem_cons, List.not_mem_nil, or_false] at h
  rcases h with rfl | rfl | rfl | rfl <;> rfl
def lowKs : List (Str × DV) := [("inside", .dat (.tuple [.int (-1), .int (-1)])), ("first", .dat (.tuple [.int (-1), .int 0])), ("second", .dat (.tuple [.int 0, .int (-1)])), ("none", .dat (.tuple [.int 0, .int 0]))]
theorem low_val {r : Str} (h : r ∈ regs) : valD (mergeD [] (lowKs.map fun kv => (.inr kv.1, kv.2))) (.inr r) = some (.dat (.tuple [.int (lowI r), .int (lowJ r)])) := by
  simp only [regs, List.mem_cons, List.not_mem_nil, or_false] at h
  rcases h with rfl | rfl | rfl | rfl <;> rfl
def S_bcan : DS1 := fun vs M k => ∃ (r : Str) (i j : Int), vs = [.dat (.str r), .dat (.int i), .dat (.int j)] ∧ r ∈ regs ∧ k (.dat (.bool (may r i j))) M
def S_brat : DS1 := fun vs M k => ∃ x y : Int, vs = [.dat (.int x), .dat (.int y)] ∧ k (.dat (.str (regOf x y))) M
end B

set_option Elab.async false
set_option linter.all false
set_option maxRecDepth 100000
set_option maxHeartbeats 4000000
namespace B
open PySem PySem.Spec PyProof.Rows L2 A
local macro_rules | `(tactic| walk_at "nm") => `(tactic| refine ae_nameT (by assumption) rfl ?_)
local macro_rules | `(tactic| walk_at "ag") => `(tactic| refine ag_nameT (by assumption) (by assumption) ?_)
local macro_rules | `(tactic| walk_at "agc") => `(tactic| (refine agc_nameU (by assumption) (by assumption) ?_ ?_; · decide))
local macro_rules | `(tactic| walk_at "set") => `(tactic| refine as_setT (by assumption) (by assumption) ?_)
local macro_rules | `(tactic| walk_at "ax1") => `(tactic| first
  | ((with_reducible show AE _ (Expr.Name _ _) _ _ _); walk_at "nm")
  | ((with_reducible show AA _ (_ :: _) _ _ _); refine aa_cons ?_)
  | ((with_reducible show AA _ [] _ _ _); refine aa_nil ?_)
  | ((with_reducible show AE _ (Expr.Constant _ _ _) _ _ _); first | refine ae_int ?_ | refine ae_str ?_ | refine ae_bl ?_ | refine ae_non ?_)
  | ((with_reducible show AE _ (Expr.BinOp _ Operator.Add _ _) _ _ _); refine ae_add ?_)
  | ((with_reducible show AE _ (Expr.BinOp _ Operator.Sub _ _) _ _ _); refine ae_sub ?_)
  | ((with_reducible show AE _ (Expr.BinOp _ Operator.Mult _ _) _ _ _); refine ae_mul ?_)
  | ((with_reducible show AE _ (Expr.BinOp _ Operator.FloorDiv _ _) _ _ _); refine ae_fdiv ?_)
  | ((with_reducible show AE _ (Expr.BinOp _ Operator.Mod _ _) _ _ _); refine ae_mod ?_)
  | ((with_reducible show AE _ (Expr.Compare _ [CmpOp.Lt] _ _) _ _ _); refine ae_lt ?_)
  | ((with_reducible show AE _ (Expr.Compare _ [CmpOp.LtE] _ _) _ _ _); refine ae_le ?_)
  | ((with_reducible show AE _ (Expr.Compare _ [CmpOp.Gt] _ _) _ _ _); refine ae_gt ?_)
  | ((with_reducible show AE _ (Expr.Compare _ [CmpOp.GtE] _ _) _ _ _); refine ae_ge ?_)
  | ((with_reducible show AE _ (Expr.Compare _ [CmpOp.Eq] _ _) _ _ _); refine ae_eqs ?_)
  | ((with_reducible show AE _ (Expr.Compare _ [CmpOp.NotEq] _ _) _ _ _); refine ae_nes ?_)
  | ((with_reducible show AT _ (Expr.Compare _ [CmpOp.Eq] _ _) _ _ _); refine at_eqs ?_)
  | ((with_reducible show AT _ (Expr.Compare _ [CmpOp.NotEq] _ _) _ _ _); refine at_nes ?_)
  | ((with_reducible show AT _ (Expr.Compare _ [CmpOp.Lt] _ _) _ _ _); refine at_lt ?_)
  | ((with_reducible show AT _ (Expr.Compare _ [CmpOp.LtE] _ _) _ _ _); refine at_le ?_)
  | ((with_reducible show AT _ (Expr.Compare _ [CmpOp.Gt] _ _) _ _ _); refine at_gt ?_)
  | ((with_reducible show AT _ (Expr.Compare _ [CmpOp.GtE] _ _) _ _ _); refine at_ge ?_)
  | ((with_reducible show AT _ (Expr.UnaryOp UnaryOp.Not _ _) _ _ _); refine at_not ?_)
  | ((with_reducible show AT _ (Expr.Call _ _ _ _) _ _ _); refine at_val ?_)
  | ((with_reducible show AR _ rEq (DV.dat (PyData.int _)) (DV.dat (PyData.int _)) _ _); refine ar_eqI ?_)
  | ((with_reducible show AR _ rNe (DV.dat (PyData.int _)) (DV.dat (PyData.int _)) _ _); refine ar_neI ?_)
  | ((with_reducible show AR _ rEq (DV.dat (PyData.str _)) (DV.dat (PyData.str _)) _ _); refine ar_eqS ?_)
  | ((with_reducible show AR _ rNe (DV.dat (PyData.str _)) (DV.dat (PyData.str _)) _ _); refine ar_neS ?_)
  | ((with_reducible show ∃ c, DV.dat (PyData.bool _) = DV.dat (PyData.bool c) ∧ _); refine ⟨_, rfl, ?_⟩)
  | ((with_reducible show AE _ (Expr.Tuple _ _ _) _ _ _); refine ae_tup ?_)
  | ((with_reducible show AE _ (Expr.Subscript _ _ _) _ _ _); refine ae_ixT ?_)
  | ((with_reducible show ∃ i j, DV.dat (PyData.int _) = DV.dat (PyData.int i) ∧ DV.dat (PyData.int _) = DV.dat (PyData.int j) ∧ _); refine ⟨_, _, rfl, rfl, ?_⟩)
  | ((with_reducible show ∃ xs i d, DV.dat (PyData.tuple _) = DV.dat (PyData.tuple xs) ∧ _); refine ⟨_, _, _, rfl, rfl, rfl, ?_⟩))
local macro_rules | `(tactic| walk_at "ax") => `(tactic| repeat (walk_at "ax1"))
local macro_rules | `(tactic| walk_at "ay1") => `(tactic| first
  | walk_at "ax1"
  | ((with_reducible show AE _ (Expr.UnaryOp UnaryOp.USub _ _) _ _ _); refine ae_neg ?_)
  | ((with_reducible show ∃ i, DV.dat (PyData.int _) = DV.dat (PyData.int i) ∧ _); refine ⟨_, rfl, ?_⟩)
  | ((with_reducible show ∃ xs : List PyData, [_, _] = List.map DV.dat xs ∧ _); refine ⟨[_, _], rfl, Nat.le_of_ble_eq_true rfl, ?_⟩)
  | ((with_reducible show ∃ xs : List PyData, [_, _, _] = List.map DV.dat xs ∧ _); refine ⟨[_, _, _], rfl, Nat.le_of_ble_eq_true rfl, ?_⟩))
local macro_rules | `(tactic| walk_at "ay") => `(tactic| repeat (walk_at "ay1"))
variable {P : Program} {w : World} {K : PySem.W.Frag} {mg : Str → Option Value} {base : Heap} {C : Addr}
open TL Wd
set_option exponentiation.threshold 10000
def S_btext : DS1 := fun vs M k => ∃ (p : Addr) (o : Own), vs = [.raw (.ref p)] ∧ M p = some (.dK (ownK o)) ∧ GoodO o ∧ k (.dat (.str (bookTx o))) M
theorem sc__law_book_text : FnScope ["own", "rows", "region", "i", "j", "chance"] ["own"] (defScope s__law_book_text) := ⟨rfl, rfl, rfl, by decide +kernel, rfl, by decide +kernel, by decide +kernel⟩
abbrev lnD (d : DV) : DV := match d with
  | .dat (.tuple [.int i, .int j, .tuple [.int a, .int b]]) => .dat (.str (lineS (i, j, a, b)))
  | d => d
abbrev strV (ys : List Str) : List DV := ys.map fun y => .dat (.str y)
theorem flat_succ {o : Own} {i : Nat} {r : Str} (h : regs[i]? = some r) : flat ((blks o).take (i + 1)) = flat ((blks o).take i) ++ (r :: (o r).map lineS) := by
  rw [List.take_add_one, flat_app]
  have e : (blks o)[i]? = some (r, o r) := by unfold blks; rw [List.getElem?_map, h]; rfl
  rw [e]
  show _ ++ (r :: ((o r).map lineS ++ [])) = _
  rw [List.append_nil]
theorem flat_le {o : Own} (ho : GoodO o) (i : Nat) : (flat ((blks o).take i)).length ≤ 52 := by
  have h1 : flat (blks o) = flat ((blks o).take i) ++ flat ((blks o).drop i) := by rw [← flat_app, List.take_append_drop]
  have h2 := lns_len ho
  rw [bookLns, List.length_cons, h1, List.length_append] at h2
  omega
theorem d__law_book_text (T : Txt K mg C) (D_bregs : Def P w K mg base "_law_book_regions" 1 S_bregs) (D_ftext : Def P w K mg base "_law_frac_text" 1 S_ftext) {f : Addr} {fd : FuncData} (F : Fun K "_law_book_text" "_law_book_text" s__law_book_text f fd) (hm : mg "_law_book_text" = some (.ref f)) (hb : Binds K fd ["own"] []) : Def P w K mg base "_law_book_text" 2 S_btext := by
  refine def_ok F hm hb sc__law_book_text (fun ds M k h => ?_) (fun cdv A outer s H E ds M kk hl nd hr h => ?_)
  · obtain ⟨p, o, rfl, _⟩ := h; rfl
  · obtain ⟨p, o, rfl, hM, ho, q⟩ := h
    walk_at "set"
    refine ae_lst ?_
    walk_at "ax"
    refine ⟨Nat.le_of_ble_eq_true rfl, fun r hr0 => ?_⟩
    have npr : p ≠ r := fun e => by rw [← e, hM] at hr0; cases hr0
    refine as_cons (as_for PassesOwn.never rfl (W := fun i ds' M' => Le M M' ∧ M' r = some (.lst (strV (Str.ofString "book" :: flat ((blks o).take i)))) ∧ ∃ x, ds' = [some (.raw (.ref p)), some (.raw (.ref r)), x, none, none, none]) (ai_tup (ae_call0 D_bregs hr ⟨rfl, _, rfl, ?_⟩)))
    refine ⟨⟨(Le.refl M).up hr0, upM_same, _, rfl⟩, fun i d ds' M' hx hw => ?_, fun ds' M' hw => ?_⟩
    · obtain ⟨hle, hMr, x, rfl⟩ := hw
      obtain ⟨rg, hrg, rfl⟩ := getF hx
      have hin := List.mem_of_getElem? hrg
      have hfl := flat_le ho i
      walk_at "ag"
      refine as_cons (as_expr (ae_bm PySem.F.plainAttrs_list PySem.F.slot_list_append PySem.F.type_list_append mt_append ?_))
      walk_at "nm"
      refine ⟨.chg hMr, ?_⟩
      walk_at "ax"
      refine arm_append hMr (by rw [List.length_map, List.length_cons]; omega) ?_
      have hle2 : Le M (upM M' r (.lst (strV (Str.ofString "book" :: flat ((blks o).take i)) ++ [.dat (.str rg)]))) := hle.up hr0
      have hMr2 : upM M' r (.lst (strV (Str.ofString "book" :: flat ((blks o).take i)) ++ [.dat (.str rg)])) r = _ := upM_same
      generalize upM M' r (.lst (strV (Str.ofString "book" :: flat ((blks o).take i)) ++ [.dat (.str rg)])) = M2 at hle2 hMr2
      refine as_cons (as_expr (ae_bm PySem.F.plainAttrs_list PySem.F.slot_list_extend PySem.F.type_list_extend mt_extend ?_))
      walk_at "nm"
      refine ⟨.chg hMr2, aa_cons (ae_lcP rfl nd (blkOk_by (own := [("i", 3), ("j", 4), ("chance", 5)]) rfl) lnD (ai_list (ae_dget (hu1 hr) ?_)))⟩
      walk_at "ax"
      refine ⟨p, _, rg, _, rfl, rfl, hle2 _ _ hM, own_val hin, _, rfl, fun _ _ _ => trivial, by rw [List.length_map, List.length_map]; have := ho.len rg hin; omega, fun d M3 hd hle3 s H C cl fp => ?_, fun D hD => ?_⟩
      · obtain ⟨y, hy, rfl⟩ := List.mem_map.mp hd
        obtain ⟨st, hst, rfl⟩ := List.mem_map.mp hy
        have hg := (ho.s rg hin st hst).1
        refine agc_tup rfl rfl (agcs_cons ?_)
        walk_at "agc"
        refine agcs_cons ?_
        walk_at "agc"
        refine agcs_cons ?_
        walk_at "agc"
        refine agcs_nil fun s H C cl fp => ?_
        refine ae_join ?_
        walk_at "ax"
        refine ⟨_, rfl, aa_cons (ae_lstD ?_)⟩
        walk_at "ax"
        refine ae_strI T.b_str ?_
        walk_at "ax"
        refine ⟨_, rfl, log_ok hg.i, aa_cons (ae_strI T.b_str ?_)⟩
        walk_at "ax"
        refine ⟨_, rfl, log_ok hg.j, aa_cons (ae_call D_ftext hr ?_)⟩
        walk_at "ax"
        refine ⟨_, rfl, hg.f, aa_nil ⟨[_, _, _, _], rfl, Nat.le_of_ble_eq_true rfl, aa_nil ⟨_, [_, _, _, _], rfl, .inl rfl, ?_, rfl, rfl⟩⟩⟩
        have l1 := numS_len hg.i
        have l2 := numS_len hg.j
        have l3 := fracS_len hg.f
        have e1 : (Str.ofString "step").length = 4 := by decide +kernel
        have e2 : (Str.ofString " ").length = 1 := by decide +kernel
        show (Str.ofString "step").length + ((numS st.1).length + ((numS st.2.1).length + ((fracS st.2.2).length + 0))) + 4 * (Str.ofString " ").length ≤ 16777216
        rw [e1, e2]
        generalize (numS st.1).length = a at l1
        generalize (numS st.2.1).length = b at l2
        generalize (fracS st.2.2).length = c at l3
        omega
      · have e : (((o rg).map stD).map DV.dat).map lnD = strV ((o rg).map lineS) := by
          rw [strV, List.map_map, List.map_map, List.map_map]; rfl
        rw [e]
        have nrD : r ≠ D := fun e => by rw [← e, hMr2] at hD; cases hD
        refine aa_nil (arm_extend (r := D) (by rw [upM_ne nrD]; exact hMr2) upM_same ?_ ?_)
        · rw [List.length_append, List.length_map, List.length_map, List.length_map, List.length_cons]
          have := ho.len rg hin
          simp only [List.length_cons, List.length_nil]
          omega
        · have hDM : M D = none := by
            cases hm : M D with
            | none => rfl
            | some m => rw [hle2 D m hm] at hD; cases hD
          refine as_nil ⟨(hle2.up hDM).up hr0, ?_, _, rfl⟩
          rw [upM_same, flat_succ hrg, strV, strV, strV, List.map_cons, List.map_cons, List.map_append, List.map_cons]
          simp only [List.cons_append, List.append_assoc, List.nil_append, List.singleton_append]
    · obtain ⟨hle, hMr, x, rfl⟩ := hw
      refine as_cons (as_ret (ae_wk (ae_join ?_)))
      walk_at "ax"
      have e : Str.ofString "book" :: flat ((blks o).take (List.map DV.dat (List.map PyData.str regs)).length) = bookLns o := rfl
      rw [e] at hMr
      refine ⟨_, rfl, aa_cons ?_⟩
      walk_at "nm"
      refine aa_nil ⟨_, bookLns o, rfl, .inr (.inr ⟨r, rfl, hMr⟩), ?_, _, M, .forget hle, q⟩
      have h1 : ((bookLns o).map (·.length)).sum ≤ ((bookLns o).map (·.length)).length * 2000 := sum_le fun n hn => by
        obtain ⟨x, hx, rfl⟩ := List.mem_map.mp hn
        exact (lns_ok ho hx).2
      have h2 := lns_len ho
      rw [List.length_map] at h1
      have h3 : (bookLns o).length * 2000 ≤ 53 * 2000 := Nat.mul_le_mul_right _ h2
      have e1 : nlS.length = 1 := by decide +kernel
      show ((bookLns o).map (·.length)).sum + (bookLns o).length * nlS.length ≤ 16777216
      rw [e1]
      omega
end B

set_option Elab.async false
set_option linter.all false
set_option maxRecDepth 100000
set_option maxHeartbeats 4000000
namespace B
open PySem PySem.Spec PyProof.Rows L2 A
local macro_rules | `(tactic| walk_at "nm") => `(tactic| refine ae_nameT (by assumption) rfl ?_)
local macro_rules | `(tactic| walk_at "ag") => `(tactic| refine ag_nameT (by assumption) (by assumption) ?_)
local macro_rules | `(tactic| walk_at "agc") => `(tactic| (refine agc_nameU (by assumption) (by assumption) ?_ ?_; · decide))
local macro_rules | `(tactic| walk_at "set") => `(tactic| refine as_setT (by assumption) (by assumption) ?_)
local macro_rules | `(tactic| walk_at "ax1") => `(tactic| first
  | ((with_reducible show AE _ (Expr.Name _ _) _ _ _); walk_at "nm")
  | ((with_reducible show AA _ (_ :: _) _ _ _); refine aa_cons ?_)
  | ((with_reducible show AA _ [] _ _ _); refine aa_nil ?_)
  | ((with_reducible show AE _ (Expr.Constant _ _ _) _ _ _); first | refine ae_int ?_ | refine ae_str ?_ | refine ae_bl ?_ | refine ae_non ?_)
  | ((with_reducible show AE _ (Expr.BinOp _ Operator.Add _ _) _ _ _); refine ae_add ?_)
  | ((with_reducible show AE _ (Expr.BinOp _ Operator.Sub _ _) _ _ _); refine ae_sub ?_)
  | ((with_reducible show AE _ (Expr.BinOp _ Operator.Mult _ _) _ _ _); refine ae_mul ?_)
  | ((with_reducible show AE _ (Expr.BinOp _ Operator.FloorDiv _ _) _ _ _); refine ae_fdiv ?_)
  | ((with_reducible show AE _ (Expr.BinOp _ Operator.Mod _ _) _ _ _); refine ae_mod ?_)
  | ((with_reducible show AE _ (Expr.Compare _ [CmpOp.Lt] _ _) _ _ _); refine ae_lt ?_)
  | ((with_reducible show AE _ (Expr.Compare _ [CmpOp.LtE] _ _) _ _ _); refine ae_le ?_)
  | ((with_reducible show AE _ (Expr.Compare _ [CmpOp.Gt] _ _) _ _ _); refine ae_gt ?_)
  | ((with_reducible show AE _ (Expr.Compare _ [CmpOp.GtE] _ _) _ _ _); refine ae_ge ?_)
  | ((with_reducible show AE _ (Expr.Compare _ [CmpOp.Eq] _ _) _ _ _); refine ae_eqs ?_)
  | ((with_reducible show AE _ (Expr.Compare _ [CmpOp.NotEq] _ _) _ _ _); refine ae_nes ?_)
  | ((with_reducible show AT _ (Expr.Compare _ [CmpOp.Eq] _ _) _ _ _); refine at_eqs ?_)
  | ((with_reducible show AT _ (Expr.Compare _ [CmpOp.NotEq] _ _) _ _ _); refine at_nes ?_)
  | ((with_reducible show AT _ (Expr.Compare _ [CmpOp.Lt] _ _) _ _ _); refine at_lt ?_)
  | ((with_reducible show AT _ (Expr.Compare _ [CmpOp.LtE] _ _) _ _ _); refine at_le ?_)
  | ((with_reducible show AT _ (Expr.Compare _ [CmpOp.Gt] _ _) _ _ _); refine at_gt ?_)
  | ((with_reducible show AT _ (Expr.Compare _ [CmpOp.GtE] _ _) _ _ _); refine at_ge ?_)
  | ((with_reducible show AT _ (Expr.UnaryOp UnaryOp.Not _ _) _ _ _); refine at_not ?_)
  | ((with_reducible show AT _ (Expr.Call _ _ _ _) _ _ _); refine at_val ?_)
  | ((with_reducible show AR _ rEq (DV.dat (PyData.int _)) (DV.dat (PyData.int _)) _ _); refine ar_eqI ?_)
  | ((with_reducible show AR _ rNe (DV.dat (PyData.int _)) (DV.dat (PyData.int _)) _ _); refine ar_neI ?_)
  | ((with_reducible show AR _ rEq (DV.dat (PyData.str _)) (DV.dat (PyData.str _)) _ _); refine ar_eqS ?_)
  | ((with_reducible show AR _ rNe (DV.dat (PyData.str _)) (DV.dat (PyData.str _)) _ _); refine ar_neS ?_)
  | ((with_reducible show ∃ c, DV.dat (PyData.bool _) = DV.dat (PyData.bool c) ∧ _); refine ⟨_, rfl, ?_⟩)
  | ((with_reducible show AE _ (Expr.Tuple _ _ _) _ _ _); refine ae_tup ?_)
  | ((with_reducible show AE _ (Expr.Subscript _ _ _) _ _ _); refine ae_ixT ?_)
  | ((with_reducible show ∃ i j, DV.dat (PyData.int _) = DV.dat (PyData.int i) ∧ DV.dat (PyData.int _) = DV.dat (PyData.int j) ∧ _); refine ⟨_, _, rfl, rfl, ?_⟩)
  | ((with_reducible show ∃ xs i d, DV.dat (PyData.tuple _) = DV.dat (PyData.tuple xs) ∧ _); refine ⟨_, _, _, rfl, rfl, rfl, ?_⟩))
local macro_rules | `(tactic| walk_at "ax") => `(tactic| repeat (walk_at "ax1"))
local macro_rules | `(tactic| walk_at "ay1") => `(tactic| first
  | walk_at "ax1"
  | ((with_reducible show AE _ (Expr.UnaryOp UnaryOp.USub _ _) _ _ _); refine ae_neg ?_)
  | ((with_reducible show ∃ i, DV.dat (PyData.int _) = DV.dat (PyData.int i) ∧ _); refine ⟨_, rfl, ?_⟩)
  | ((with_reducible show ∃ xs : List PyData, [_, _] = List.map DV.dat xs ∧ _); refine ⟨[_, _], rfl, Nat.le_of_ble_eq_true rfl, ?_⟩)
  | ((with_reducible show ∃ xs : List PyData, [_, _, _] = List.map DV.dat xs ∧ _); refine ⟨[_, _, _], rfl, Nat.le_of_ble_eq_true rfl, ?_⟩))
local macro_rules | `(tactic| walk_at "ay") => `(tactic| repeat (walk_at "ay1"))
variable {P : Program} {w : World} {K : PySem.W.Frag} {mg : Str → Option Value} {base : Heap} {C : Addr}
open TL Wd
set_option exponentiation.threshold 10000
theorem find_filter {xs : List Step} (h : xs.Pairwise fun s t => ¬(s.1 = t.1 ∧ s.2.1 = t.2.1)) (i j : Int) :
    (xs.filter (fun s => decide (s.1 = i) && decide (s.2.1 = j)) = [] ∧ findC xs i j = (0, 1)) ∨ ∃ s ∈ xs, xs.filter (fun s => decide (s.1 = i) && decide (s.2.1 = j)) = [s] ∧ findC xs i j = s.2.2 := by
  induction xs with
  | nil => exact .inl ⟨rfl, rfl⟩
  | cons s r ih =>
    obtain ⟨h1, h2⟩ := List.pairwise_cons.mp h
    rw [List.filter_cons]
    unfold findC
    by_cases hs : s.1 = i ∧ s.2.1 = j
    · refine .inr ⟨s, List.mem_cons_self, ?_, if_pos hs⟩
      rw [if_pos (by simp [hs])]
      have : r.filter (fun s => decide (s.1 = i) && decide (s.2.1 = j)) = [] := by
        rw [List.filter_eq_nil_iff]
        intro t ht hh
        rw [Bool.and_eq_true, decide_eq_true_eq, decide_eq_true_eq] at hh
        exact h1 t ht ⟨hs.1.trans hh.1.symm, hs.2.trans hh.2.symm⟩
      rw [this]
    · rw [if_neg (by simpa using hs), if_neg hs]
      rcases ih h2 with q | ⟨t, ht, q⟩
      · exact .inl q
      · exact .inr ⟨t, List.mem_cons_of_mem _ ht, q⟩
theorem sum_single {f : Int × Int} (h : Fr.Can f) : Fr.sum [f] = f := by
  show Fr.add (0, 1) f = f
  unfold Fr.add
  simp only [Int.zero_mul, Int.zero_add, Int.mul_one, Int.one_mul]
  exact Fr.low_self h
theorem sm_one : Sm (0, 1) := ⟨by decide, by decide +kernel, by decide +kernel⟩
theorem GoodF.sm {f : Int × Int} (h : GoodF f) : Sm f := ⟨h.can.1, Nat.lt_of_lt_of_le h.top (by decide +kernel), Nat.lt_of_lt_of_le h.bot (by decide +kernel)⟩
def S_bchance : DS1 := fun vs M k => ∃ (p : Addr) (o : Own) (r : Str) (i j : Int), vs = [.raw (.ref p), .dat (.str r), .dat (.int i), .dat (.int j)] ∧ M p = some (.dK (ownK o)) ∧ GoodO o ∧ r ∈ regs ∧ k (frV (findC (o r) i j)) M
def isAt (i j : Int) : DV → Bool
  | .dat (.tuple [.int a, .int b, _]) => decide (a = i) && decide (b = j)
  | _ => false
end B

set_option Elab.async false
set_option linter.all false
set_option maxRecDepth 100000
set_option maxHeartbeats 4000000
namespace B
open PySem PySem.Spec PyProof.Rows L2 A
local macro_rules | `(tactic| walk_at "nm") => `(tactic| refine ae_nameT (by assumption) rfl ?_)
local macro_rules | `(tactic| walk_at "ag") => `(tactic| refine ag_nameT (by assumption) (by assumption) ?_)
local macro_rules | `(tactic| walk_at "agc") => `(tactic| (refine agc_nameU (by assumption) (by assumption) ?_ ?_; · decide))
local macro_rules | `(tactic| walk_at "set") => `(tactic| refine as_setT (by assumption) (by assumption) ?_)
local macro_rules | `(tactic| walk_at "ax1") => `(tactic| first
  | ((with_reducible show AE _ (Expr.Name _ _) _ _ _); walk_at "nm")
  | ((with_reducible show AA _ (_ :: _) _ _ _); refine aa_cons ?_)
  | ((with_reducible show AA _ [] _ _ _); refine aa_nil ?_)
  | ((with_reducible show AE _ (Expr.Constant _ _ _) _ _ _); first | refine ae_int ?_ | refine ae_str ?_ | refine ae_bl ?_ | refine ae_non ?_)
  | ((with_reducible show AE _ (Expr.BinOp _ Operator.Add _ _) _ _ _); refine ae_add ?_)
  | ((with_reducible show AE _ (Expr.BinOp _ Operator.Sub _ _) _ _ _); refine ae_sub ?_)
  | ((with_reducible show AE _ (Expr.BinOp _ Operator.Mult _ _) _ _ _); refine ae_mul ?_)
  | ((with_reducible show AE _ (Expr.BinOp _ Operator.FloorDiv _ _) _ _ _); refine ae_fdiv ?_)
  | ((with_reducible show AE _ (Expr.BinOp _ Operator.Mod _ _) _ _ _); refine ae_mod ?_)
  | ((with_reducible show AE _ (Expr.Compare _ [CmpOp.Lt] _ _) _ _ _); refine ae_lt ?_)
  | ((with_reducible show AE _ (Expr.Compare _ [CmpOp.LtE] _ _) _ _ _); refine ae_le ?_)
  | ((with_reducible show AE _ (Expr.Compare _ [CmpOp.Gt] _ _) _ _ _); refine ae_gt ?_)
  | ((with_reducible show AE _ (Expr.Compare _ [CmpOp.GtE] _ _) _ _ _); refine ae_ge ?_)
  | ((with_reducible show AE _ (Expr.Compare _ [CmpOp.Eq] _ _) _ _ _); refine ae_eqs ?_)
  | ((with_reducible show AE _ (Expr.Compare _ [CmpOp.NotEq] _ _) _ _ _); refine ae_nes ?_)
  | ((with_reducible show AT _ (Expr.Compare _ [CmpOp.Eq] _ _) _ _ _); refine at_eqs ?_)
  | ((with_reducible show AT _ (Expr.Compare _ [CmpOp.NotEq] _ _) _ _ _); refine at_nes ?_)
  | ((with_reducible show AT _ (Expr.Compare _ [CmpOp.Lt] _ _) _ _ _); refine at_lt ?_)
  | ((with_reducible show AT _ (Expr.Compare _ [CmpOp.LtE] _ _) _ _ _); refine at_le ?_)
  | ((with_reducible show AT _ (Expr.Compare _ [CmpOp.Gt] _ _) _ _ _); refine at_gt ?_)
  | ((with_reducible show AT _ (Expr.Compare _ [CmpOp.GtE] _ _) _ _ _); refine at_ge ?_)
  | ((with_reducible show AT _ (Expr.UnaryOp UnaryOp.Not _ _) _ _ _); refine at_not ?_)
  | ((with_reducible show AT _ (Expr.Call _ _ _ _) _ _ _); refine at_val ?_)
  | ((with_reducible show AR _ rEq (DV.dat (PyData.int _)) (DV.dat (PyData.int _)) _ _); refine ar_eqI ?_)
  | ((with_reducible show AR _ rNe (DV.dat (PyData.int _)) (DV.dat (PyData.int _)) _ _); refine ar_neI ?_)
  | ((with_reducible show AR _ rEq (DV.dat (PyData.str _)) (DV.dat (PyData.str _)) _ _); refine ar_eqS ?_)
  | ((with_reducible show AR _ rNe (DV.dat (PyData.str _)) (DV.dat (PyData.str _)) _ _); refine ar_neS ?_)
  | ((with_reducible show ∃ c, DV.dat (PyData.bool _) = DV.dat (PyData.bool c) ∧ _); refine ⟨_, rfl, ?_⟩)
  | ((with_reducible show AE _ (Expr.Tuple _ _ _) _ _ _); refine ae_tup ?_)
  | ((with_reducible show AE _ (Expr.Subscript _ _ _) _ _ _); refine ae_ixT ?_)
  | ((with_reducible show ∃ i j, DV.dat (PyData.int _) = DV.dat (PyData.int i) ∧ DV.dat (PyData.int _) = DV.dat (PyData.int j) ∧ _); refine ⟨_, _, rfl, rfl, ?_⟩)
  | ((with_reducible show ∃ xs i d, DV.dat (PyData.tuple _) = DV.dat (PyData.tuple xs) ∧ _); refine ⟨_, _, _, rfl, rfl, rfl, ?_⟩))
local macro_rules | `(tactic| walk_at "ax") => `(tactic| repeat (walk_at "ax1"))
local macro_rules | `(tactic| walk_at "ay1") => `(tactic| first
  | walk_at "ax1"
  | ((with_reducible show AE _ (Expr.UnaryOp UnaryOp.USub _ _) _ _ _); refine ae_neg ?_)
  | ((with_reducible show ∃ i, DV.dat (PyData.int _) = DV.dat (PyData.int i) ∧ _); refine ⟨_, rfl, ?_⟩)
  | ((with_reducible show ∃ xs : List PyData, [_, _] = List.map DV.dat xs ∧ _); refine ⟨[_, _], rfl, Nat.le_of_ble_eq_true rfl, ?_⟩)
  | ((with_reducible show ∃ xs : List PyData, [_, _, _] = List.map DV.dat xs ∧ _); refine ⟨[_, _, _], rfl, Nat.le_of_ble_eq_true rfl, ?_⟩))
local macro_rules | `(tactic| walk_at "ay") => `(tactic| repeat (walk_at "ay1"))
variable {P : Program} {w : World} {K : PySem.W.Frag} {mg : Str → Option Value} {base : Heap} {C : Addr}
open TL Wd
set_option exponentiation.threshold 10000
structure RowsOk (r : Str) (g : List Step) : Prop where
  gr : GoodR g
  s : ∀ s ∈ g, GoodS s ∧ may r s.1 s.2.1 = true
  len : g.length ≤ 12
  nd : g.Pairwise fun s t => ¬(s.1 = t.1 ∧ s.2.1 = t.2.1)
theorem GoodO.of {o : Own} (h : ∀ r ∈ regs, RowsOk r (o r)) : GoodO o := ⟨fun r hr => (h r hr).gr, fun r hr => (h r hr).s, fun r hr => (h r hr).len, fun r hr => (h r hr).nd⟩
def rowsOf (st : List (Int × Int)) (ws : List Int) : List Step := (st.zip ws).map fun x => (x.1.1, x.1.2, Fr.low x.2 ws.sum)
theorem isum_le {ws : List Int} {b : Int} (h : ∀ w ∈ ws, 0 ≤ w ∧ w ≤ b) : 0 ≤ ws.sum ∧ ws.sum ≤ ws.length * b := by
  induction ws with
  | nil => simp
  | cons w r ih =>
    have h1 := h w List.mem_cons_self
    have h2 := ih fun x hx => h x (List.mem_cons_of_mem _ hx)
    rw [List.sum_cons, List.length_cons, Int.natCast_succ, Int.add_mul, Int.one_mul]
    omega
theorem sum_take_le {ws : List Int} (h : ∀ w ∈ ws, 0 ≤ w) (n : Nat) : 0 ≤ (ws.take n).sum ∧ (ws.take n).sum ≤ ws.sum := by
  induction ws generalizing n with
  | nil => simp
  | cons w r ih =>
    have h1 := h w List.mem_cons_self
    cases n with
    | zero =>
      have h2 := ih (fun x hx => h x (List.mem_cons_of_mem _ hx)) r.length
      rw [List.take_length] at h2
      rw [List.take_zero, List.sum_cons]
      simp only [List.sum_nil]
      omega
    | succ n =>
      have h2 := ih (fun x hx => h x (List.mem_cons_of_mem _ hx)) n
      rw [List.take_succ_cons, List.sum_cons, List.sum_cons]
      omega
theorem low_small {n d : Int} (hn : n.natAbs ≤ 1000000000) (hd : 0 < d) (hd2 : d ≤ 1000000000) : GoodF (Fr.low n d) := by
  obtain ⟨h1, h2⟩ := Fr.low_le (n := n) hd
  have e : (1000000000 : Nat) < 10 ^ 300 := by decide +kernel
  exact ⟨Fr.low_can hd, Nat.lt_of_le_of_lt (Nat.le_trans h1 hn) e, Nat.lt_of_le_of_lt (Nat.le_trans h2 (by omega)) e⟩
theorem low_pos {n d : Int} (hn : 0 < n) (hd : 0 < d) : 0 < (Fr.low n d).1 := by
  obtain ⟨h1, _⟩ := Fr.low_mul (a := n) (b := d)
  have hg := Fr.gpos (a := n) hd
  rcases Int.lt_trichotomy (Fr.low n d).1 0 with h | h | h
  · have := Int.mul_neg_of_neg_of_pos h (show (0 : Int) < ((Nat.gcd n.natAbs d.natAbs : Nat) : Int) by omega)
    omega
  · rw [h, Int.zero_mul] at h1; omega
  · exact h
theorem frs_rows {st : List (Int × Int)} {ws : List Int} (hl : ws.length = st.length) : frs (rowsOf st ws) = ws.map (Fr.low · ws.sum) := by
  unfold frs rowsOf
  rw [List.map_map]
  generalize ws.sum = t
  induction ws generalizing st with
  | nil => cases st with
    | nil => rfl
    | cons _ _ => cases hl
  | cons w r ih =>
    cases st with
    | nil => cases hl
    | cons s st =>
      rw [List.zip_cons_cons, List.map_cons, List.map_cons, ih (by simpa using hl)]; rfl
theorem may_le {r : Str} {i j : Int} (h : may r i j = true) : i.natAbs ≤ 3 ∧ j.natAbs ≤ 3 := by
  unfold may at h
  simp only [Bool.and_eq_true, decide_eq_true_eq] at h
  have h1 : -1 ≤ lowI r := by unfold lowI; split <;> omega
  have h2 : -1 ≤ lowJ r := by unfold lowJ; split <;> omega
  omega
theorem low_back {w t : Int} (ht : 0 < t) : (Fr.low w t).1 * t / (Fr.low w t).2 = w := by
  have h := Fr.low_val (a := w) (b := t)
  have hc := (Fr.low_can (a := w) ht).1
  unfold Fr.Val at h
  rw [h]
  exact Int.mul_ediv_cancel _ (by omega)
theorem le_sum {ws : List Int} (h : ∀ w ∈ ws, 0 ≤ w) {w : Int} (hw : w ∈ ws) : w ≤ ws.sum := by
  induction ws with
  | nil => cases hw
  | cons a r ih =>
    have h2 := sum_take_le (ws := r) (fun x hx => h x (List.mem_cons_of_mem _ hx)) r.length
    rw [List.take_length] at h2
    have h3 := h a List.mem_cons_self
    rw [List.sum_cons]
    rcases List.mem_cons.mp hw with rfl | hw
    · omega
    · have := ih (fun x hx => h x (List.mem_cons_of_mem _ hx)) hw; omega
theorem rows_gen {r : Str} {st : List (Int × Int)} {ws : List Int} (hn : st.Nodup) (hm : ∀ x ∈ st, may r x.1 x.2 = true) (hl : ws.length = st.length) (hw0 : ∀ w ∈ ws, 1 ≤ w) (h1 : 1 ≤ st.length) (h5 : st.length ≤ 12) (hS : ws.sum ≤ 1000000) : RowsOk r (rowsOf st ws) := by
  have hw : ∀ w ∈ ws, 1 ≤ w ∧ w ≤ ws.sum := fun w h => ⟨hw0 w h, le_sum (fun x hx => by have := hw0 x hx; omega) h⟩
  have hpos : 0 < ws.sum := by
    cases hws : ws with
    | nil => rw [hws, List.length_nil] at hl; omega
    | cons w r =>
      have h2 := hw w (by rw [hws]; exact List.mem_cons_self)
      rw [hws] at h2; omega
  have hfr : ∀ s ∈ rowsOf st ws, ∃ x ∈ st, ∃ w ∈ ws, s = (x.1, x.2, Fr.low w ws.sum) := by
    intro s hs
    obtain ⟨x, hx, rfl⟩ := List.mem_map.mp hs
    obtain ⟨a, b⟩ := x
    obtain ⟨h1, h2⟩ := List.of_mem_zip hx
    exact ⟨a, h1, b, h2, rfl⟩
  have hgs : ∀ s ∈ rowsOf st ws, GoodS s ∧ may r s.1 s.2.1 = true := by
    intro s hs
    obtain ⟨x, hx, w, hw', rfl⟩ := hfr s hs
    have hw2 := hw w hw'
    have hmx := hm x hx
    have e : (3 : Nat) < 10 ^ 300 := by decide +kernel
    obtain ⟨l1, l2⟩ := may_le hmx
    exact ⟨⟨Nat.lt_of_le_of_lt l1 e, Nat.lt_of_le_of_lt l2 e, low_small (by omega) hpos (by omega), low_pos (by omega) hpos⟩, hmx⟩
  refine ⟨⟨fun s hs => (hgs s hs).1.f.sm, fun n => ?_, ?_, ?_, ws.sum, fun s => s.2.2.1 * ws.sum / s.2.2.2, hpos, by omega, fun s hs => ?_, ?_⟩, hgs, ?_, ?_⟩
  · rw [frs_rows hl]
    unfold parts
    rw [← List.map_take]
    have e := Fr.sum_low hpos (ws.take n) 0
    rw [Fr.low_zero hpos, Int.zero_add] at e
    rw [e]
    obtain ⟨t0, t1⟩ := sum_take_le (ws := ws) (fun w h => by have := hw w h; omega) n
    exact (low_small (by omega) hpos (by omega)).sm
  · rw [frs_rows hl, Fr.sum_lows hpos, Fr.low_one hpos]
  · unfold rowsOf; rw [List.length_map, List.length_zip]; omega
  · obtain ⟨x, hx, w, hw', rfl⟩ := hfr s hs
    show 0 ≤ (Fr.low w ws.sum).1 * ws.sum / (Fr.low w ws.sum).2 ∧ Fr.low w ws.sum = Fr.low ((Fr.low w ws.sum).1 * ws.sum / (Fr.low w ws.sum).2) ws.sum
    rw [low_back hpos]
    have := hw w hw'
    exact ⟨by omega, rfl⟩
  · have e : (rowsOf st ws).map (fun s => s.2.2.1 * ws.sum / s.2.2.2) = ws := by
      have h2 := congrArg (List.map fun f : Int × Int => f.1 * ws.sum / f.2) (frs_rows hl)
      rw [frs, List.map_map, List.map_map] at h2
      refine Eq.trans h2 ?_
      have h3 : ((fun f : Int × Int => f.1 * ws.sum / f.2) ∘ fun x => Fr.low x ws.sum) = id := by
        funext w; exact low_back hpos
      rw [h3, List.map_id]
    rw [e]
  · unfold rowsOf; rw [List.length_map, List.length_zip]; omega
  · unfold rowsOf
    rw [List.pairwise_map]
    have : ∀ {st : List (Int × Int)} {ws : List Int}, st.Nodup → (st.zip ws).Pairwise fun a b => a.1 ≠ b.1 := by
      intro st
      induction st with
      | nil => intro ws _; simp
      | cons a st ih =>
        intro ws h
        cases ws with
        | nil => simp
        | cons w ws =>
          rw [List.zip_cons_cons]
          obtain ⟨h1, h2⟩ := List.nodup_cons.mp h
          refine List.pairwise_cons.mpr ⟨fun b hb e => h1 ?_, ih h2⟩
          obtain ⟨h3, _⟩ := List.of_mem_zip (a := b.1) (b := b.2) hb
          have e' : a = b.1 := e
          rw [e']; exact h3
    refine (this hn).imp fun {a b} h q => h ?_
    exact Prod.ext q.1 q.2
def DenS (g : List Step) : Prop := g.length ≤ 5 ∧ ∃ (t : Int) (wt : Step → Int), 0 < t ∧ t ≤ 50 ∧ (∀ s ∈ g, 0 ≤ wt s ∧ s.2.2 = Fr.low (wt s) t) ∧ (g.map wt).sum = t
abbrev DrO (o : Own) : Prop := ∀ r ∈ regs, RowsOk r (o r) ∧ DenS (o r)
theorem DrO.good {o : Own} (h : DrO o) : GoodO o := GoodO.of fun r hr => (h r hr).1
theorem rows_den {st : List (Int × Int)} {ws : List Int} (hl : ws.length = st.length) (hw : ∀ w ∈ ws, 1 ≤ w) (h1 : 1 ≤ st.length) (h5 : st.length ≤ 5) (hS : ws.sum ≤ 50) : DenS (rowsOf st ws) := by
  have hpos : 0 < ws.sum := by
    cases hws : ws with
    | nil => rw [hws, List.length_nil] at hl; omega
    | cons w r =>
      have h2 := le_sum (ws := ws) (fun x hx => by have := hw x hx; omega) (w := w) (by rw [hws]; exact List.mem_cons_self)
      have h3 := hw w (by rw [hws]; exact List.mem_cons_self)
      rw [hws] at h2; omega
  refine ⟨by unfold rowsOf; rw [List.length_map, List.length_zip]; omega, ws.sum, fun s => s.2.2.1 * ws.sum / s.2.2.2, hpos, hS, fun s hs => ?_, ?_⟩
  · obtain ⟨x, hx, rfl⟩ := List.mem_map.mp hs
    obtain ⟨a, b⟩ := x
    obtain ⟨h1, h2⟩ := List.of_mem_zip hx
    show 0 ≤ (Fr.low b ws.sum).1 * ws.sum / (Fr.low b ws.sum).2 ∧ Fr.low b ws.sum = Fr.low ((Fr.low b ws.sum).1 * ws.sum / (Fr.low b ws.sum).2) ws.sum
    rw [low_back hpos]
    have := hw b h2
    exact ⟨by omega, rfl⟩
  · have e : (rowsOf st ws).map (fun s => s.2.2.1 * ws.sum / s.2.2.2) = ws := by
      have h2 := congrArg (List.map fun f : Int × Int => f.1 * ws.sum / f.2) (frs_rows hl)
      rw [frs, List.map_map, List.map_map] at h2
      refine Eq.trans h2 ?_
      have h3 : ((fun f : Int × Int => f.1 * ws.sum / f.2) ∘ fun x => Fr.low x ws.sum) = id := by
        funext w; exact low_back hpos
      rw [h3, List.map_id]
    rw [e]
theorem rows_ok {r : Str} {st : List (Int × Int)} {ws : List Int} (hn : st.Nodup) (hm : ∀ x ∈ st, may r x.1 x.2 = true) (hl : ws.length = st.length) (hw : ∀ w ∈ ws, 1 ≤ w ∧ w ≤ 10) (h1 : 1 ≤ st.length) (h5 : st.length ≤ 5) : RowsOk r (rowsOf st ws) ∧ DenS (rowsOf st ws) := by
  have hs := isum_le (ws := ws) (b := 10) fun w h => ⟨by have := hw w h; omega, (hw w h).2⟩
  have ht : ws.sum ≤ 50 := by
    have : (ws.length : Int) * 10 ≤ 5 * 10 := by omega
    omega
  exact ⟨rows_gen hn hm hl (fun w h => (hw w h).1) h1 (by omega) (by omega), rows_den hl (fun w h => (hw w h).1) h1 h5 ht⟩
end B

set_option Elab.async false
set_option linter.all false
set_option maxRecDepth 100000
set_option maxHeartbeats 4000000
namespace B
open PySem PySem.Spec PyProof.Rows L2 A
local macro_rules | `(tactic| walk_at "nm") => `(tactic| refine ae_nameT (by assumption) rfl ?_)
local macro_rules | `(tactic| walk_at "ag") => `(tactic| refine ag_nameT (by assumption) (by assumption) ?_)
local macro_rules | `(tactic| walk_at "agc") => `(tactic| (refine agc_nameU (by assumption) (by assumption) ?_ ?_; · decide))
local macro_rules | `(tactic| walk_at "set") => `(tactic| refine as_setT (by assumption) (by assumption) ?_)
local macro_rules | `(tactic| walk_at "ax1") => `(tactic| first
  | ((with_reducible show AE _ (Expr.Name _ _) _ _ _); walk_at "nm")
  | ((with_reducible show AA _ (_ :: _) _ _ _); refine aa_cons ?_)
  | ((with_reducible show AA _ [] _ _ _); refine aa_nil ?_)
  | ((with_reducible show AE _ (Expr.Constant _ _ _) _ _ _); first | refine ae_int ?_ | refine ae_str ?_ | refine ae_bl ?_ | refine ae_non ?_)
  | ((with_reducible show AE _ (Expr.BinOp _ Operator.Add _ _) _ _ _); refine ae_add ?_)
  | ((with_reducible show AE _ (Expr.BinOp _ Operator.Sub _ _) _ _ _); refine ae_sub ?_)
  | ((with_reducible show AE _ (Expr.BinOp _ Operator.Mult _ _) _ _ _); refine ae_mul ?_)
  | ((with_reducible show AE _ (Expr.BinOp _ Operator.FloorDiv _ _) _ _ _); refine ae_fdiv ?_)
  | ((with_reducible show AE _ (Expr.BinOp _ Operator.Mod _ _) _ _ _); refine ae_mod ?_)
  | ((with_reducible show AE _ (Expr.Compare _ [CmpOp.Lt] _ _) _ _ _); refine ae_lt ?_)
  | ((with_reducible show AE _ (Expr.Compare _ [CmpOp.LtE] _ _) _ _ _); refine ae_le ?_)
  | ((with_reducible show AE _ (Expr.Compare _ [CmpOp.Gt] _ _) _ _ _); refine ae_gt ?_)
  | ((with_reducible show AE _ (Expr.Compare _ [CmpOp.GtE] _ _) _ _ _); refine ae_ge ?_)
  | ((with_reducible show AE _ (Expr.Compare _ [CmpOp.Eq] _ _) _ _ _); refine ae_eqs ?_)
  | ((with_reducible show AE _ (Expr.Compare _ [CmpOp.NotEq] _ _) _ _ _); refine ae_nes ?_)
  | ((with_reducible show AT _ (Expr.Compare _ [CmpOp.Eq] _ _) _ _ _); refine at_eqs ?_)
  | ((with_reducible show AT _ (Expr.Compare _ [CmpOp.NotEq] _ _) _ _ _); refine at_nes ?_)
  | ((with_reducible show AT _ (Expr.Compare _ [CmpOp.Lt] _ _) _ _ _); refine at_lt ?_)
  | ((with_reducible show AT _ (Expr.Compare _ [CmpOp.LtE] _ _) _ _ _); refine at_le ?_)
  | ((with_reducible show AT _ (Expr.Compare _ [CmpOp.Gt] _ _) _ _ _); refine at_gt ?_)
  | ((with_reducible show AT _ (Expr.Compare _ [CmpOp.GtE] _ _) _ _ _); refine at_ge ?_)
  | ((with_reducible show AT _ (Expr.UnaryOp UnaryOp.Not _ _) _ _ _); refine at_not ?_)
  | ((with_reducible show AT _ (Expr.Call _ _ _ _) _ _ _); refine at_val ?_)
  | ((with_reducible show AR _ rEq (DV.dat (PyData.int _)) (DV.dat (PyData.int _)) _ _); refine ar_eqI ?_)
  | ((with_reducible show AR _ rNe (DV.dat (PyData.int _)) (DV.dat (PyData.int _)) _ _); refine ar_neI ?_)
  | ((with_reducible show AR _ rEq (DV.dat (PyData.str _)) (DV.dat (PyData.str _)) _ _); refine ar_eqS ?_)
  | ((with_reducible show AR _ rNe (DV.dat (PyData.str _)) (DV.dat (PyData.str _)) _ _); refine ar_neS ?_)
  | ((with_reducible show ∃ c, DV.dat (PyData.bool _) = DV.dat (PyData.bool c) ∧ _); refine ⟨_, rfl, ?_⟩)
  | ((with_reducible show AE _ (Expr.Tuple _ _ _) _ _ _); refine ae_tup ?_)
  | ((with_reducible show AE _ (Expr.Subscript _ _ _) _ _ _); refine ae_ixT ?_)
  | ((with_reducible show ∃ i j, DV.dat (PyData.int _) = DV.dat (PyData.int i) ∧ DV.dat (PyData.int _) = DV.dat (PyData.int j) ∧ _); refine ⟨_, _, rfl, rfl, ?_⟩)
  | ((with_reducible show ∃ xs i d, DV.dat (PyData.tuple _) = DV.dat (PyData.tuple xs) ∧ _); refine ⟨_, _, _, rfl, rfl, rfl, ?_⟩))
local macro_rules | `(tactic| walk_at "ax") => `(tactic| repeat (walk_at "ax1"))
local macro_rules | `(tactic| walk_at "ay1") => `(tactic| first
  | walk_at "ax1"
  | ((with_reducible show AE _ (Expr.UnaryOp UnaryOp.USub _ _) _ _ _); refine ae_neg ?_)
  | ((with_reducible show ∃ i, DV.dat (PyData.int _) = DV.dat (PyData.int i) ∧ _); refine ⟨_, rfl, ?_⟩)
  | ((with_reducible show ∃ xs : List PyData, [_, _] = List.map DV.dat xs ∧ _); refine ⟨[_, _], rfl, Nat.le_of_ble_eq_true rfl, ?_⟩)
  | ((with_reducible show ∃ xs : List PyData, [_, _, _] = List.map DV.dat xs ∧ _); refine ⟨[_, _, _], rfl, Nat.le_of_ble_eq_true rfl, ?_⟩))
local macro_rules | `(tactic| walk_at "ay") => `(tactic| repeat (walk_at "ay1"))
variable {P : Program} {w : World} {K : PySem.W.Frag} {mg : Str → Option Value} {base : Heap} {C : Addr}
open TL Wd
set_option exponentiation.threshold 10000
def rngI (lo : Int) (n : Nat) : List Int := (List.range n).map fun i => lo + (i : Nat)
theorem rng_I (lo : Int) (n : Nat) : rngD lo n = ((rngI lo n).map PyData.int).map .dat := by
  unfold rngD rngI; rw [List.map_map, List.map_map]; rfl
def poolI (a b m : Int) : List (Int × Int) := (rngI a (m + 1 - a).toNat).flatMap fun i => (rngI b (m + 1 - b).toNat).map fun j => (i, j)
theorem pool_ok {r : Str} {m : Int} (hr : r ∈ regs) (h1 : 1 ≤ m) (h3 : m ≤ 3) : (poolI (lowI r) (lowJ r) m).Nodup ∧ 4 ≤ (poolI (lowI r) (lowJ r) m).length ∧ (poolI (lowI r) (lowJ r) m).length ≤ 25 ∧ ∀ x ∈ poolI (lowI r) (lowJ r) m, may r x.1 x.2 = true := by
  have hm : m = 1 ∨ m = 2 ∨ m = 3 := by omega
  simp only [regs, List.mem_cons, List.not_mem_nil, or_false] at hr
  rcases hr with rfl | rfl | rfl | rfl <;> rcases hm with rfl | rfl | rfl <;> decide +kernel
theorem PotB.mono {o s c : Int} {n n' : Nat} (h : PotB o s c n) (hn : n ≤ n') : PotB o s c n' := ⟨h.o0, h.o1, h.s0, h.s1, h.c0, by have := h.c1; omega⟩
theorem upM_swap {M : MS} {q D : Addr} {a b L : MO} (h : q ≠ D) : upM (upM (upM M q a) D L) q b = upM (upM M q b) D L := by
  funext x
  unfold upM
  by_cases h1 : x = q
  · subst h1; simp [h]
  · simp [h1]
theorem upM_twice {M : MS} {q : Addr} {a b : MO} : upM (upM M q a) q b = upM M q b := upM_upM
abbrev prD (i : Int) : DV → DV
  | .dat (.int j) => .dat (frD (i, j))
  | d => d
abbrev rwD (t : Int) : DV → DV
  | .dat (.tuple [.tuple [.int a, .int b], .int w]) => .dat (stD (a, b, Fr.low w t))
  | d => d
theorem of_pairs {ys : List PyData} {pool : List (Int × Int)} (h : ∀ y ∈ ys, y ∈ pool.map frD) : ∃ st : List (Int × Int), ys = st.map frD ∧ ∀ x ∈ st, x ∈ pool := by
  induction ys with
  | nil => exact ⟨[], rfl, by simp⟩
  | cons y r ih =>
    obtain ⟨st, e, hs⟩ := ih fun x hx => h x (List.mem_cons_of_mem _ hx)
    obtain ⟨x, hx, rfl⟩ := List.mem_map.mp (h y List.mem_cons_self)
    refine ⟨x :: st, by rw [e]; rfl, fun z hz => ?_⟩
    rcases List.mem_cons.mp hz with rfl | hz
    · exact hx
    · exact hs z hz
theorem nodup_of_map {α β : Type} {f : α → β} {xs : List α} (h : (xs.map f).Nodup) : xs.Nodup := by
  have h : (xs.map f).Pairwise (· ≠ ·) := h
  rw [List.pairwise_map] at h
  exact h.imp fun hab e => hab (by rw [e])
theorem frD_inj {x y : Int × Int} (h : frD x = frD y) : x = y := by
  injection h with h
  injection h with h1 h2
  injection h2 with h2 _
  injection h1 with h1
  injection h2 with h2
  exact Prod.ext h1 h2
theorem nodup_map {xs : List (Int × Int)} (h : xs.Nodup) : (xs.map frD).Nodup := by
  show (xs.map frD).Pairwise (· ≠ ·)
  rw [List.pairwise_map]
  exact List.Pairwise.imp (fun hab e => hab (frD_inj e)) h
theorem zip_st {st : List (Int × Int)} {ws : List Int} (t : Int) : (A.pairD (st.map frD) (ws.map PyData.int)).map (rwD t) = (((st.zip ws).map fun x => ((x.1.1, x.1.2, Fr.low x.2 t) : Step)).map stD).map .dat := by
  unfold A.pairD
  rw [List.map_map, List.map_map, List.map_map]
  induction st generalizing ws with
  | nil => rfl
  | cons s st ih =>
    cases ws with
    | nil => rfl
    | cons w ws =>
      rw [List.map_cons, List.map_cons, List.zip_cons_cons, List.zip_cons_cons, List.map_cons, List.map_cons, ih]
      rfl
def S_rows : DS1 := fun vs M k => ∃ (q : Addr) (r : Str) (m lean : Int) (n : Nat), vs = [.raw (.ref q), .dat (.str r), .dat (.int m), .dat (.int lean)] ∧ PotAt M q n ∧ n ≤ 900000 ∧ r ∈ regs ∧ 1 ≤ m ∧ m ≤ 3 ∧ 0 ≤ lean ∧ lean ≤ 6 ∧ ∀ rows, RowsOk r rows ∧ DenS rows → PotK q (n + 11) M fun M' => k (.dat (.list (rows.map stD))) M'
theorem sc__law_book_rows_drawn : FnScope ["pot", "region", "most", "lean", "low", "pool", "i", "steps", "weighed", "j", "step", "weight"] ["pot", "region", "most", "lean"] (defScope s__law_book_rows_drawn) := ⟨rfl, rfl, rfl, by decide +kernel, rfl, by decide +kernel, by decide +kernel⟩
theorem d__law_book_rows_drawn (T : Txt K mg C) (D_take : Def P w K mg base "_law_take" 1 S_take) (D_some : Def P w K mg base "_law_some" 2 S_some) (D_frac : Def P w K mg base "_law_frac" 2 S_frac) {f : Addr} {fd : FuncData} (F : Fun K "_law_book_rows_drawn" "_law_book_rows_drawn" s__law_book_rows_drawn f fd) (hm : mg "_law_book_rows_drawn" = some (.ref f)) (hb : Binds K fd ["pot", "region", "most", "lean"] []) : Def P w K mg base "_law_book_rows_drawn" 3 S_rows := by
  refine def_ok F hm hb sc__law_book_rows_drawn (fun ds M k h => ?_) (fun cdv A outer s H E ds M kk hl nd hr h => ?_)
  · obtain ⟨q, r, m, lean, n, rfl, _⟩ := h; rfl
  · obtain ⟨q1, r, m, lean, n, rfl, ⟨o, sm, c, hM, hp⟩, hn, hin, m1, m3, le0, le6, q⟩ := h
    obtain ⟨pk1, pk2, pk3, pk4⟩ := pool_ok hin m1 m3
    have lI : -1 ≤ lowI r ∧ lowI r ≤ 0 := by unfold lowI; split <;> omega
    have lJ : -1 ≤ lowJ r ∧ lowJ r ≤ 0 := by unfold lowJ; split <;> omega
    walk_at "set"
    refine ae_wk (ae_dget (hu1 hr) (ae_disp fun p hpD => ads_cons ?_))
    walk_at "ay"
    refine ads_cons ?_
    walk_at "ay"
    refine ads_cons ?_
    walk_at "ay"
    refine ads_cons ?_
    walk_at "ay"
    refine ads_nil ⟨lowKs, rfl, by decide, upM_same, ?_⟩
    rw [upM_upM]
    walk_at "nm"
    refine ⟨p, _, r, _, rfl, rfl, upM_same, low_val hin, _, M, .forget (Le.up (Le.refl M) hpD), ?_⟩
    walk_at "set"
    refine ae_lst (aa_nil ⟨Nat.zero_le _, fun pl hpl => ?_⟩)
    have nqp : q1 ≠ pl := fun e => by rw [← e, hM] at hpl; cases hpl
    refine as_cons (as_for PassesOwn.never rfl (W := fun i ds' M' => Le M M' ∧ M' pl = some (.lst ((((rngI (lowI r) (m + 1 - lowI r).toNat).take i).flatMap fun i => (rngI (lowJ r) (m + 1 - lowJ r).toNat).map fun j => (i, j)).map frD |>.map .dat)) ∧ ∃ x, ds' = [some (.raw (.ref q1)), some (.dat (.str r)), some (.dat (.int m)), some (.dat (.int lean)), some (.dat (.tuple [.int (lowI r), .int (lowJ r)])), some (.raw (.ref pl)), x, none, none, none, none, none]) (ai_range2 T.b_range ?_))
    walk_at "ax"
    refine ⟨_, _, rfl, by omega, ⟨(Le.refl M).up hpl, upM_same, _, rfl⟩, fun i d ds' M' hx hw => ?_, fun ds' M' hw => ?_⟩
    · obtain ⟨hle, hMp, x, rfl⟩ := hw
      rw [rng_I, List.getElem?_map, List.getElem?_map] at hx
      obtain ⟨iv, hiv, rfl⟩ : ∃ iv, (rngI (lowI r) (m + 1 - lowI r).toNat)[i]? = some iv ∧ d = .dat (.int iv) := by
        cases e : (rngI (lowI r) (m + 1 - lowI r).toNat)[i]? with
        | none => rw [e] at hx; cases hx
        | some iv => rw [e] at hx; cases hx; exact ⟨iv, rfl, rfl⟩
      walk_at "ag"
      refine as_cons (as_expr (ae_bm PySem.F.plainAttrs_list PySem.F.slot_list_extend PySem.F.type_list_extend mt_extend ?_))
      walk_at "nm"
      refine ⟨.chg hMp, aa_cons (ae_lcP rfl nd (blkOk_by (own := [("j", 9)]) rfl) (prD iv) (ai_range2 T.b_range ?_))⟩
      walk_at "ax"
      have lenJ : (rngI (lowJ r) (m + 1 - lowJ r).toNat).length ≤ 5 := by unfold rngI; rw [List.length_map, List.length_range]; omega
      refine ⟨_, _, rfl, by omega, fun _ _ _ => trivial, ?_, fun d M3 hd hle3 s H C cl fp => ?_, fun D hD => ?_⟩
      · rw [rng_I, List.length_map, List.length_map]; omega
      · rw [rng_I] at hd
        obtain ⟨y, hy, rfl⟩ := List.mem_map.mp hd
        obtain ⟨j, hj, rfl⟩ := List.mem_map.mp hy
        walk_at "agc"
        intro s H C cl fp
        walk_at "ax"
        exact ⟨[_, _], rfl, Nat.le_of_ble_eq_true rfl, rfl, rfl⟩
      · rw [rng_I]
        have npD : pl ≠ D := fun e => by rw [← e, hMp] at hD; cases hD
        have hDM : M D = none := by
          cases hm : M D with
          | none => rfl
          | some mo => rw [hle D mo hm] at hD; cases hD
        have hplM : M pl = none := hpl
        have hpre : (((rngI (lowI r) (m + 1 - lowI r).toNat).take (i + 1)).flatMap fun i => (rngI (lowJ r) (m + 1 - lowJ r).toNat).map fun j => (i, j)) = (((rngI (lowI r) (m + 1 - lowI r).toNat).take i).flatMap fun i => (rngI (lowJ r) (m + 1 - lowJ r).toNat).map fun j => (i, j)) ++ (rngI (lowJ r) (m + 1 - lowJ r).toNat).map fun j => (iv, j) := by
          rw [List.take_add_one, hiv, List.flatMap_append]
          show _ ++ (_ ++ []) = _
          rw [List.append_nil]
        have hlen : ((((rngI (lowI r) (m + 1 - lowI r).toNat).take i).flatMap fun i => (rngI (lowJ r) (m + 1 - lowJ r).toNat).map fun j => (i, j))).length ≤ 25 := by
          have e : poolI (lowI r) (lowJ r) m = (((rngI (lowI r) (m + 1 - lowI r).toNat).take i).flatMap fun i => (rngI (lowJ r) (m + 1 - lowJ r).toNat).map fun j => (i, j)) ++ (((rngI (lowI r) (m + 1 - lowI r).toNat).drop i).flatMap fun i => (rngI (lowJ r) (m + 1 - lowJ r).toNat).map fun j => (i, j)) := by
            rw [← List.flatMap_append, List.take_append_drop]; rfl
          rw [e, List.length_append] at pk3
          omega
        refine aa_nil (arm_extend (r := D) (by rw [upM_ne npD]; exact hMp) upM_same ?_ (as_nil ⟨(hle.up hDM).up hplM, ?_, _, rfl⟩))
        · simp only [List.length_map]; omega
        · rw [upM_same, hpre, List.map_append, List.map_append, List.map_map, List.map_map, List.map_map, List.map_map, List.map_map]; rfl
    · obtain ⟨hle, hMp, x, rfl⟩ := hw
      have e1 : (rngI (lowI r) (m + 1 - lowI r).toNat).take (rngD (lowI r) (m + 1 - lowI r).toNat).length = rngI (lowI r) (m + 1 - lowI r).toNat := by
        rw [rng_I, List.length_map, List.length_map, List.take_length]
      rw [e1] at hMp
      change M' pl = some (.lst (((poolI (lowI r) (lowJ r) m).map frD).map .dat)) at hMp
      generalize poolI (lowI r) (lowJ r) m = pool at hMp pk1 pk2 pk3 pk4
      refine ass_freeze 5 rfl hMp (ASs.forget (N := M) (fun a mo ha => ?_) ?_)
      · have : a ≠ pl := fun e => by rw [e, hpl] at ha; cases ha
        simp only [this, if_false]
        exact hle a mo ha
      walk_at "set"
      refine ae_call D_some hr ?_
      refine aa_cons ?_
      walk_at "nm"
      refine aa_cons ?_
      walk_at "nm"
      refine aa_cons (ae_min2 rfl T.b_min (aa_cons (ae_len T.b_len ?_)))
      walk_at "ax"
      refine ⟨_, _, rfl, .lst _, aa_cons (ae_add ?_)⟩
      walk_at "ax"
      refine ae_call D_take (hr.mono (by decide)) ?_
      walk_at "ax"
      refine ⟨q1, 4, o, sm, c, n, rfl, hM, hp, by omega, by decide, by decide, fun t o1 s1 c1 hp1 t0 t4 => ?_⟩
      refine ⟨_, _, rfl, rfl, aa_nil ⟨_, _, rfl, ?_⟩⟩
      obtain ⟨mm, hmm, hm2, hm5, hmp⟩ : ∃ mm : Nat, (if 2 + t < (((pool.map frD).length : Nat) : Int) then 2 + t else (((pool.map frD).length : Nat) : Int)) = (mm : Int) ∧ 2 ≤ mm ∧ mm ≤ 5 ∧ mm ≤ pool.length := by
        rw [List.length_map]
        split
        · exact ⟨(2 + t).toNat, by omega, by omega, by omega, by omega⟩
        · exact ⟨pool.length, rfl, by omega, by omega, Nat.le_refl _⟩
      rw [hmm]
      refine aa_nil ⟨q1, _, mm, n + 1, rfl, .mk' hp1, by rw [List.length_map]; exact hmp, by rw [List.length_map]; omega, by omega, fun ys rs hyl hperm o2 s2 c2 hp2 => ?_⟩
      rw [upM_upM]
      obtain ⟨st, rfl, hst⟩ := of_pairs (ys := ys) (pool := pool) fun y hy => hperm.mem_iff.mp (List.mem_append_left _ hy)
      have hnd : st.Nodup := nodup_of_map (f := frD) (List.nodup_append.mp (hperm.nodup_iff.mpr (nodup_map pk1))).1
      rw [List.length_map] at hyl
      walk_at "set"
      refine ae_wk (ae_lc rfl nd (blkOk_by (own := [("step", 10)]) rfl) (ai_list ?_))
      walk_at "ax"
      refine ⟨_, rfl, fun D hD => ?_⟩
      have nqD : q1 ≠ D := fun e => by rw [← e, upM_same] at hD; cases hD
      have hDM : M D = none := by rw [upM_ne nqD.symm] at hD; exact hD
      refine ⟨fun i acc M' => ∃ (ws : List Int) (o s c : Int), acc = (ws.map PyData.int).map .dat ∧ ws.length = i ∧ (∀ w ∈ ws, 1 ≤ w ∧ w ≤ 10) ∧ PotB o s c (n + 1 + mm + i) ∧ i ≤ mm ∧ M' = upM M q1 (potO o s c), fun _ _ _ _ => trivial, ⟨[], o2, s2, c2, rfl, rfl, by simp, hp2, Nat.zero_le _, rfl⟩, fun i d acc M' hx hw => ?_, fun acc M' hw => ?_⟩
      · obtain ⟨ws, o3, s3, c3, rfl, hwl, hwb, hp3, him, rfl⟩ := hw
        obtain ⟨⟨a, b⟩, hab, rfl⟩ := getF hx
        have hi : i < mm := by rw [← hyl]; exact (List.getElem?_eq_some_iff.mp hab).1
        refine ⟨by simp only [List.length_map]; omega, fun s H C cl fp => ?_⟩
        walk_at "agc"
        intro s H C cl fp
        refine ae_add (ae_add ?_)
        walk_at "ax"
        refine ae_call D_take (hr.mono (by decide)) ?_
        walk_at "ax"
        refine ⟨q1, 4, o3, s3, c3, _, rfl, by rw [upM_ne nqD]; exact upM_same, hp3, by omega, by decide, by decide, fun t o4 s4 c4 hp4 t0 t4 => ?_⟩
        refine ⟨_, _, rfl, rfl, ae_mul ?_⟩
        walk_at "nm"
        refine ae_intI T.b_int ?_
        walk_at "ax"
        refine .inr ⟨_, rfl, ?_⟩
        obtain ⟨bb, hbb, hb01⟩ : ∃ bb : Int, (if (decide (a + b < 0)) = true then (1 : Int) else 0) = bb ∧ 0 ≤ bb ∧ bb ≤ 1 := by
          split
          · exact ⟨1, rfl, by decide, by decide⟩
          · exact ⟨0, rfl, by decide, by decide⟩
        rw [hbb]
        have hmul : 0 ≤ lean * bb ∧ lean * bb ≤ 6 := by
          have : bb = 0 ∨ bb = 1 := by omega
          rcases this with rfl | rfl <;> omega
        refine ⟨_, _, rfl, rfl, wide_mul (a := 3) (b := 1) (by omega) (by omega) (by decide) (by decide) (by decide), _, _, rfl, rfl, ?_⟩
        refine ⟨upM M q1 (potO o4 s4 c4), upM_swap nqD, ws ++ [1 + t + lean * bb], o4, s4, c4, ?_, by rw [List.length_append, hwl]; rfl, fun w hw => ?_, hp4, by omega, rfl⟩
        · rw [List.map_append, List.map_append]; rfl
        · rcases List.mem_append.mp hw with hw | hw
          · exact hwb w hw
          · rw [List.mem_singleton.mp hw]; omega
      · obtain ⟨ws, o3, s3, c3, rfl, hwl, hwb, hp3, him, rfl⟩ := hw
        rw [List.length_map, List.length_map] at hwl
        refine ⟨_, _, wk_new (by rw [upM_ne nqD.symm]; exact hDM), ?_⟩
        refine as_cons (as_ret (ae_wk (ae_lcP rfl nd (blkOk_by (own := [("step", 10), ("weight", 11)]) rfl) (rwD ws.sum) (ai_zipL T.b_zip ?_))))
        walk_at "ax"
        have hs := isum_le (ws := ws) (b := 10) fun w h => ⟨by have := hwb w h; omega, (hwb w h).2⟩
        refine ⟨_, _, rfl, fun _ _ _ => trivial, ?_, fun d M3 hd hle3 s H C cl fp => ?_, fun D hD => ?_⟩
        · unfold _root_.A.pairD; rw [List.length_map, List.length_zip, List.length_map, List.length_map]; omega
        · obtain ⟨⟨x, y⟩, hxy, rfl⟩ := List.mem_map.mp hd
          obtain ⟨h1, h2⟩ := List.of_mem_zip hxy
          obtain ⟨⟨a, b⟩, hab, rfl⟩ := List.mem_map.mp h1
          obtain ⟨w, hw, rfl⟩ := List.mem_map.mp h2
          have hpos : 0 < ws.sum := by
            have h1 := hwb w hw
            obtain ⟨l1, l2, rfl⟩ := List.append_of_mem hw
            have h3 := isum_le (ws := l1) (b := 10) fun x h => ⟨by have := hwb x (List.mem_append_left _ h); omega, (hwb x (List.mem_append_left _ h)).2⟩
            have h4 := isum_le (ws := l2) (b := 10) fun x h => ⟨by have := hwb x (List.mem_append_right _ (List.mem_cons_of_mem _ h)); omega, (hwb x (List.mem_append_right _ (List.mem_cons_of_mem _ h))).2⟩
            rw [List.sum_append, List.sum_cons]; omega
          refine agc_tup rfl rfl (agcs_cons ?_)
          walk_at "agc"
          refine agcs_cons ?_
          walk_at "agc"
          refine agcs_nil fun s H C cl fp => ?_
          walk_at "ax"
          refine ae_call D_frac hr ?_
          walk_at "ax"
          refine ae_sum rfl T.b_sum ?_
          walk_at "ax"
          refine ⟨_, ws, rfl, .inl rfl, aa_nil ⟨_, _, rfl, hpos, ?_, aa_nil ⟨[_, _, _], rfl, Nat.le_of_ble_eq_true rfl, rfl, rfl⟩⟩⟩
          have e : (50 : Nat) < 2 ^ 8000 := by decide +kernel
          exact Nat.lt_of_le_of_lt (by omega) e
        · rw [zip_st]
          refine ⟨_, _, wk_new hD, ?_⟩
          have hrows := rows_ok (r := r) (st := st) (ws := ws) hnd (fun x hx => pk4 x (hst x hx)) hwl hwb (by omega) (by omega)
          exact q (rowsOf st ws) hrows o3 s3 c3 (hp3.mono (by rw [List.length_map, List.length_map]; omega))
end B

set_option Elab.async false
set_option linter.all false
set_option maxRecDepth 100000
set_option maxHeartbeats 4000000
namespace B
open PySem PySem.Spec PyProof.Rows L2 A
local macro_rules | `(tactic| walk_at "nm") => `(tactic| refine ae_nameT (by assumption) rfl ?_)
local macro_rules | `(tactic| walk_at "ag") => `(tactic| refine ag_nameT (by assumption) (by assumption) ?_)
local macro_rules | `(tactic| walk_at "agc") => `(tactic| (refine agc_nameU (by assumption) (by assumption) ?_ ?_; · decide))
local macro_rules | `(tactic| walk_at "set") => `(tactic| refine as_setT (by assumption) (by assumption) ?_)
local macro_rules | `(tactic| walk_at "ax1") => `(tactic| first
  | ((with_reducible show AE _ (Expr.Name _ _) _ _ _); walk_at "nm")
  | ((with_reducible show AA _ (_ :: _) _ _ _); refine aa_cons ?_)
  | ((with_reducible show AA _ [] _ _ _); refine aa_nil ?_)
  | ((with_reducible show AE _ (Expr.Constant _ _ _) _ _ _); first | refine ae_int ?_ | refine ae_str ?_ | refine ae_bl ?_ | refine ae_non ?_)
  | ((with_reducible show AE _ (Expr.BinOp _ Operator.Add _ _) _ _ _); refine ae_add ?_)
  | ((with_reducible show AE _ (Expr.BinOp _ Operator.Sub _ _) _ _ _); refine ae_sub ?_)
  | ((with_reducible show AE _ (Expr.BinOp _ Operator.Mult _ _) _ _ _); refine ae_mul ?_)
  | ((with_reducible show AE _ (Expr.BinOp _ Operator.FloorDiv _ _) _ _ _); refine ae_fdiv ?_)
  | ((with_reducible show AE _ (Expr.BinOp _ Operator.Mod _ _) _ _ _); refine ae_mod ?_)
  | ((with_reducible show AE _ (Expr.Compare _ [CmpOp.Lt] _ _) _ _ _); refine ae_lt ?_)
  | ((with_reducible show AE _ (Expr.Compare _ [CmpOp.LtE] _ _) _ _ _); refine ae_le ?_)
  | ((with_reducible show AE _ (Expr.Compare _ [CmpOp.Gt] _ _) _ _ _); refine ae_gt ?_)
  | ((with_reducible show AE _ (Expr.Compare _ [CmpOp.GtE] _ _) _ _ _); refine ae_ge ?_)
  | ((with_reducible show AE _ (Expr.Compare _ [CmpOp.Eq] _ _) _ _ _); refine ae_eqs ?_)
  | ((with_reducible show AE _ (Expr.Compare _ [CmpOp.NotEq] _ _) _ _ _); refine ae_nes ?_)
  | ((with_reducible show AT _ (Expr.Compare _ [CmpOp.Eq] _ _) _ _ _); refine at_eqs ?_)
  | ((with_reducible show AT _ (Expr.Compare _ [CmpOp.NotEq] _ _) _ _ _); refine at_nes ?_)
  | ((with_reducible show AT _ (Expr.Compare _ [CmpOp.Lt] _ _) _ _ _); refine at_lt ?_)
  | ((with_reducible show AT _ (Expr.Compare _ [CmpOp.LtE] _ _) _ _ _); refine at_le ?_)
  | ((with_reducible show AT _ (Expr.Compare _ [CmpOp.Gt] _ _) _ _ _); refine at_gt ?_)
  | ((with_reducible show AT _ (Expr.Compare _ [CmpOp.GtE] _ _) _ _ _); refine at_ge ?_)
  | ((with_reducible show AT _ (Expr.UnaryOp UnaryOp.Not _ _) _ _ _); refine at_not ?_)
  | ((with_reducible show AT _ (Expr.Call _ _ _ _) _ _ _); refine at_val ?_)
  | ((with_reducible show AR _ rEq (DV.dat (PyData.int _)) (DV.dat (PyData.int _)) _ _); refine ar_eqI ?_)
  | ((with_reducible show AR _ rNe (DV.dat (PyData.int _)) (DV.dat (PyData.int _)) _ _); refine ar_neI ?_)
  | ((with_reducible show AR _ rEq (DV.dat (PyData.str _)) (DV.dat (PyData.str _)) _ _); refine ar_eqS ?_)
  | ((with_reducible show AR _ rNe (DV.dat (PyData.str _)) (DV.dat (PyData.str _)) _ _); refine ar_neS ?_)
  | ((with_reducible show ∃ c, DV.dat (PyData.bool _) = DV.dat (PyData.bool c) ∧ _); refine ⟨_, rfl, ?_⟩)
  | ((with_reducible show AE _ (Expr.Tuple _ _ _) _ _ _); refine ae_tup ?_)
  | ((with_reducible show AE _ (Expr.Subscript _ _ _) _ _ _); refine ae_ixT ?_)
  | ((with_reducible show ∃ i j, DV.dat (PyData.int _) = DV.dat (PyData.int i) ∧ DV.dat (PyData.int _) = DV.dat (PyData.int j) ∧ _); refine ⟨_, _, rfl, rfl, ?_⟩)
  | ((with_reducible show ∃ xs i d, DV.dat (PyData.tuple _) = DV.dat (PyData.tuple xs) ∧ _); refine ⟨_, _, _, rfl, rfl, rfl, ?_⟩))
local macro_rules | `(tactic| walk_at "ax") => `(tactic| repeat (walk_at "ax1"))
local macro_rules | `(tactic| walk_at "ay1") => `(tactic| first
  | walk_at "ax1"
  | ((with_reducible show AE _ (Expr.UnaryOp UnaryOp.USub _ _) _ _ _); refine ae_neg ?_)
  | ((with_reducible show ∃ i, DV.dat (PyData.int _) = DV.dat (PyData.int i) ∧ _); refine ⟨_, rfl, ?_⟩)
  | ((with_reducible show ∃ xs : List PyData, [_, _] = List.map DV.dat xs ∧ _); refine ⟨[_, _], rfl, Nat.le_of_ble_eq_true rfl, ?_⟩)
  | ((with_reducible show ∃ xs : List PyData, [_, _, _] = List.map DV.dat xs ∧ _); refine ⟨[_, _, _], rfl, Nat.le_of_ble_eq_true rfl, ?_⟩))
local macro_rules | `(tactic| walk_at "ay") => `(tactic| repeat (walk_at "ay1"))
variable {P : Program} {w : World} {K : PySem.W.Frag} {mg : Str → Option Value} {base : Heap} {C : Addr}
open TL Wd
set_option exponentiation.threshold 10000
theorem upM_comm {M : MS} {q D : Addr} {a L : MO} (h : q ≠ D) : upM (upM M D L) q a = upM (upM M q a) D L := by
  funext x
  unfold upM
  by_cases h1 : x = q
  · subst h1; simp [h]
  · simp [h1]
theorem putD_new {kvs : List (Key × DV)} {x : Key} {v : DV} (h : ∀ kv ∈ kvs, kv.1 ≠ x) : putD kvs x v = kvs ++ [(x, v)] := by
  unfold putD
  rw [if_neg]
  intro q
  obtain ⟨kv, h1, h2⟩ := List.any_eq_true.mp q
  exact h kv h1 (of_decide_eq_true h2)
abbrev kvL (l : List Blk) : List (Key × DV) := l.map fun b => ((.inr b.1 : Key), DV.dat (.list (b.2.map stD)))
theorem own_of {l : List Blk} (h : l.map (·.1) = regs) (hg : ∀ b ∈ l, RowsOk b.1 b.2 ∧ DenS b.2) : ∃ o : Own, DrO o ∧ kvL l = ownK o := by
  have h4 : l.length = 4 := by have := congrArg List.length h; rw [List.length_map] at this; exact this
  match l, h4 with
  | [(r1, g1), (r2, g2), (r3, g3), (r4, g4)], _ =>
    simp only [regs, List.map_cons, List.map_nil, List.cons.injEq, and_true] at h
    obtain ⟨rfl, rfl, rfl, rfl⟩ := h
    refine ⟨fun x => if x = "inside" then g1 else if x = "first" then g2 else if x = "second" then g3 else g4, fun r hr => ?_, rfl⟩
    simp only [regs, List.mem_cons, List.not_mem_nil, or_false] at hr
    rcases hr with rfl | rfl | rfl | rfl
    · exact hg _ List.mem_cons_self
    · exact hg (("first" : Str), g2) (by simp)
    · exact hg (("second" : Str), g3) (by simp)
    · exact hg (("none" : Str), g4) (by simp)
theorem regs_nd : regs.Nodup := by decide +kernel
def S_drawn : DS1 := fun vs M k => ∃ (q : Addr) (m : Int) (n : Nat), vs = [.raw (.ref q), .dat (.int m)] ∧ PotAt M q n ∧ n ≤ 800000 ∧ 1 ≤ m ∧ m ≤ 3 ∧ ∀ o p x s c, DrO o → M p = none → PotB x s c (n + 45) → k (.raw (.ref p)) (upM (upM M q (potO x s c)) p (.dK (ownK o)))
theorem sc__law_book_drawn : FnScope ["pot", "most", "found", "lean", "region"] ["pot", "most"] (defScope s__law_book_drawn) := ⟨rfl, rfl, rfl, by decide +kernel, rfl, by decide +kernel, by decide +kernel⟩
theorem d__law_book_drawn (T : Txt K mg C) (D_of : Def P w K mg base "_law_of" 2 S_of) (D_bregs : Def P w K mg base "_law_book_regions" 1 S_bregs) (D_rows : Def P w K mg base "_law_book_rows_drawn" 3 S_rows) {f : Addr} {fd : FuncData} (F : Fun K "_law_book_drawn" "_law_book_drawn" s__law_book_drawn f fd) (hm : mg "_law_book_drawn" = some (.ref f)) (hb : Binds K fd ["pot", "most"] []) : Def P w K mg base "_law_book_drawn" 4 S_drawn := by
  refine def_ok F hm hb sc__law_book_drawn (fun ds M k h => ?_) (fun cdv A outer s H E ds M kk hl nd hr h => ?_)
  · obtain ⟨q, m, n, rfl, _⟩ := h; rfl
  · obtain ⟨q1, m, n, rfl, ⟨o, sm, c, hM, hp⟩, hn, m1, m3, q⟩ := h
    refine as_cons (as_par 2 3 rfl nd (aa_cons (ae_dnew fun p hpM => aa_cons (ae_call D_of (hr.mono (by decide)) ?_))))
    have nqp : q1 ≠ p := fun e => by rw [← e, hM] at hpM; cases hpM
    refine aa_cons ?_
    walk_at "nm"
    refine aa_cons (ae_lstD ?_)
    walk_at "ax"
    refine ⟨[_, _, _], rfl, Nat.le_of_ble_eq_true rfl, aa_nil ⟨q1, _, n, rfl, ⟨o, sm, c, by rw [upM_ne nqp]; exact hM, hp⟩, by omega, by simp, by decide, fun d hd o2 s2 c2 hp2 => aa_nil ⟨_, _, rfl, ?_⟩⟩⟩
    obtain ⟨lean, rfl, le0, le6⟩ : ∃ lean : Int, d = .int lean ∧ 0 ≤ lean ∧ lean ≤ 6 := by
      simp only [List.mem_cons, List.not_mem_nil, or_false] at hd
      rcases hd with rfl | rfl | rfl
      · exact ⟨0, rfl, by decide, by decide⟩
      · exact ⟨3, rfl, by decide, by decide⟩
      · exact ⟨6, rfl, by decide, by decide⟩
    rw [upM_comm nqp]
    refine as_cons (as_for PassesOwn.never rfl (W := fun i ds' M' => ∃ (l : List Blk) (o s c : Int) (x : Option DV), l.map (·.1) = regs.take i ∧ (∀ b ∈ l, RowsOk b.1 b.2 ∧ DenS b.2) ∧ PotB o s c (n + 1 + 11 * i) ∧ i ≤ 4 ∧ M' = upM (upM M q1 (potO o s c)) p (.dK (kvL l)) ∧ ds' = [some (.raw (.ref q1)), some (.dat (.int m)), some (.raw (.ref p)), some (.dat (.int lean)), x]) (ai_tup (ae_call0 D_bregs (hr.mono (by decide)) ⟨rfl, _, rfl, ?_⟩)))
    refine ⟨⟨[], o2, s2, c2, none, rfl, by simp, hp2, by decide, rfl, rfl⟩, fun i d ds' M' hx hw => ?_, fun ds' M' hw => ?_⟩
    · obtain ⟨l, o3, s3, c3, x, hl1, hl2, hp3, hi4, rfl, rfl⟩ := hw
      obtain ⟨rg, hrg, rfl⟩ := getF hx
      have hin := List.mem_of_getElem? hrg
      have hi : i < 4 := (List.getElem?_eq_some_iff.mp hrg).1
      walk_at "ag"
      refine as_cons (as_dput (hu1 hr) (ae_call D_rows hr ?_))
      walk_at "ax"
      refine ⟨q1, rg, m, lean, _, rfl, ⟨o3, s3, c3, by rw [upM_ne nqp]; exact upM_same, hp3⟩, by omega, hin, m1, m3, le0, le6, fun rows hrows o4 s4 c4 hp4 => ?_⟩
      walk_at "nm"
      walk_at "nm"
      rw [upM_swap nqp]
      refine ⟨p, _, rg, rfl, rfl, upM_same, ?_, as_nil ⟨l ++ [(rg, rows)], o4, s4, c4, _, ?_, fun b hb => ?_, hp4.mono (by omega), hi, ?_, rfl⟩⟩
      · have h4 : l.length = i := by
          have := congrArg List.length hl1
          rw [List.length_map, List.length_take] at this
          have e : regs.length = 4 := rfl
          omega
        rw [kvL, List.length_map]; omega
      · rw [List.map_append, hl1, List.take_add_one, hrg]; rfl
      · rcases List.mem_append.mp hb with hb | hb
        · exact hl2 b hb
        · rw [List.mem_singleton.mp hb]; exact hrows
      · rw [upM_upM, putD_new fun kv hkv e => ?_, kvL, kvL, List.map_append]; rfl
        obtain ⟨b, hb, rfl⟩ := List.mem_map.mp hkv
        have e1 : b.1 = rg := by injection e
        have h5 : rg ∈ regs.take i := by rw [← hl1, ← e1]; exact List.mem_map_of_mem hb
        obtain ⟨j, hj⟩ := List.getElem?_of_mem h5
        rw [List.getElem?_take] at hj
        split at hj
        · next hlt => exact nodup_two regs_nd hlt hj hrg
        · cases hj
    · obtain ⟨l, o3, s3, c3, x, hl1, hl2, hp3, hi4, rfl, rfl⟩ := hw
      obtain ⟨ow, hg, hk⟩ := own_of (l := l) (by rw [hl1]; rfl) hl2
      refine as_cons (as_ret ?_)
      walk_at "nm"
      rw [hk]
      exact q ow p o3 s3 c3 hg hpM (hp3.mono (by have e : (List.map DV.dat (List.map PyData.str regs)).length = 4 := rfl; omega))
/-- data that _law_is looks through -/
def okD : Nat → PyData → Prop
  | _, .int _ => True
  | _, .str _ => True
  | n + 1, .tuple xs => xs.length ≤ 1000 ∧ ∀ x ∈ xs, okD n x
  | _, _ => False
def S_is (n : Nat) : DS1 := fun vs M k => ∃ d : PyData, vs = [.dat d, .dat d] ∧ okD n d ∧ k (.dat (.bool true)) M
end B

set_option Elab.async false
set_option linter.all false
set_option maxRecDepth 100000
set_option maxHeartbeats 4000000
namespace B
open PySem PySem.Spec PyProof.Rows L2 A
local macro_rules | `(tactic| walk_at "nm") => `(tactic| refine ae_nameT (by assumption) rfl ?_)
local macro_rules | `(tactic| walk_at "ag") => `(tactic| refine ag_nameT (by assumption) (by assumption) ?_)
local macro_rules | `(tactic| walk_at "agc") => `(tactic| (refine agc_nameU (by assumption) (by assumption) ?_ ?_; · decide))
local macro_rules | `(tactic| walk_at "set") => `(tactic| refine as_setT (by assumption) (by assumption) ?_)
local macro_rules | `(tactic| walk_at "ax1") => `(tactic| first
  | ((with_reducible show AE _ (Expr.Name _ _) _ _ _); walk_at "nm")
  | ((with_reducible show AA _ (_ :: _) _ _ _); refine aa_cons ?_)
  | ((with_reducible show AA _ [] _ _ _); refine aa_nil ?_)
  | ((with_reducible show AE _ (Expr.Constant _ _ _) _ _ _); first | refine ae_int ?_ | refine ae_str ?_ | refine ae_bl ?_ | refine ae_non ?_)
  | ((with_reducible show AE _ (Expr.BinOp _ Operator.Add _ _) _ _ _); refine ae_add ?_)
  | ((with_reducible show AE _ (Expr.BinOp _ Operator.Sub _ _) _ _ _); refine ae_sub ?_)
  | ((with_reducible show AE _ (Expr.BinOp _ Operator.Mult _ _) _ _ _); refine ae_mul ?_)
  | ((with_reducible show AE _ (Expr.BinOp _ Operator.FloorDiv _ _) _ _ _); refine ae_fdiv ?_)
  | ((with_reducible show AE _ (Expr.BinOp _ Operator.Mod _ _) _ _ _); refine ae_mod ?_)
  | ((with_reducible show AE _ (Expr.Compare _ [CmpOp.Lt] _ _) _ _ _); refine ae_lt ?_)
  | ((with_reducible show AE _ (Expr.Compare _ [CmpOp.LtE] _ _) _ _ _); refine ae_le ?_)
  | ((with_reducible show AE _ (Expr.Compare _ [CmpOp.Gt] _ _) _ _ _); refine ae_gt ?_)
  | ((with_reducible show AE _ (Expr.Compare _ [CmpOp.GtE] _ _) _ _ _); refine ae_ge ?_)
  | ((with_reducible show AE _ (Expr.Compare _ [CmpOp.Eq] _ _) _ _ _); refine ae_eqs ?_)
  | ((with_reducible show AE _ (Expr.Compare _ [CmpOp.NotEq] _ _) _ _ _); refine ae_nes ?_)
  | ((with_reducible show AT _ (Expr.Compare _ [CmpOp.Eq] _ _) _ _ _); refine at_eqs ?_)
  | ((with_reducible show AT _ (Expr.Compare _ [CmpOp.NotEq] _ _) _ _ _); refine at_nes ?_)
  | ((with_reducible show AT _ (Expr.Compare _ [CmpOp.Lt] _ _) _ _ _); refine at_lt ?_)
  | ((with_reducible show AT _ (Expr.Compare _ [CmpOp.LtE] _ _) _ _ _); refine at_le ?_)
  | ((with_reducible show AT _ (Expr.Compare _ [CmpOp.Gt] _ _) _ _ _); refine at_gt ?_)
  | ((with_reducible show AT _ (Expr.Compare _ [CmpOp.GtE] _ _) _ _ _); refine at_ge ?_)
  | ((with_reducible show AT _ (Expr.UnaryOp UnaryOp.Not _ _) _ _ _); refine at_not ?_)
  | ((with_reducible show AT _ (Expr.Call _ _ _ _) _ _ _); refine at_val ?_)
  | ((with_reducible show AR _ rEq (DV.dat (PyData.int _)) (DV.dat (PyData.int _)) _ _); refine ar_eqI ?_)
  | ((with_reducible show AR _ rNe (DV.dat (PyData.int _)) (DV.dat (PyData.int _)) _ _); refine ar_neI ?_)
  | ((with_reducible show AR _ rEq (DV.dat (PyData.str _)) (DV.dat (PyData.str _)) _ _); refine ar_eqS ?_)
  | ((with_reducible show AR _ rNe (DV.dat (PyData.str _)) (DV.dat (PyData.str _)) _ _); refine ar_neS ?_)
  | ((with_reducible show ∃ c, DV.dat (PyData.bool _) = DV.dat (PyData.bool c) ∧ _); refine ⟨_, rfl, ?_⟩)
  | ((with_reducible show AE _ (Expr.Tuple _ _ _) _ _ _); refine ae_tup ?_)
  | ((with_reducible show AE _ (Expr.Subscript _ _ _) _ _ _); refine ae_ixT ?_)
  | ((with_reducible show ∃ i j, DV.dat (PyData.int _) = DV.dat (PyData.int i) ∧ DV.dat (PyData.int _) = DV.dat (PyData.int j) ∧ _); refine ⟨_, _, rfl, rfl, ?_⟩)
  | ((with_reducible show ∃ xs i d, DV.dat (PyData.tuple _) = DV.dat (PyData.tuple xs) ∧ _); refine ⟨_, _, _, rfl, rfl, rfl, ?_⟩))
local macro_rules | `(tactic| walk_at "ax") => `(tactic| repeat (walk_at "ax1"))
local macro_rules | `(tactic| walk_at "ay1") => `(tactic| first
  | walk_at "ax1"
  | ((with_reducible show AE _ (Expr.UnaryOp UnaryOp.USub _ _) _ _ _); refine ae_neg ?_)
  | ((with_reducible show ∃ i, DV.dat (PyData.int _) = DV.dat (PyData.int i) ∧ _); refine ⟨_, rfl, ?_⟩)
  | ((with_reducible show ∃ xs : List PyData, [_, _] = List.map DV.dat xs ∧ _); refine ⟨[_, _], rfl, Nat.le_of_ble_eq_true rfl, ?_⟩)
  | ((with_reducible show ∃ xs : List PyData, [_, _, _] = List.map DV.dat xs ∧ _); refine ⟨[_, _, _], rfl, Nat.le_of_ble_eq_true rfl, ?_⟩))
local macro_rules | `(tactic| walk_at "ay") => `(tactic| repeat (walk_at "ay1"))
variable {P : Program} {w : World} {K : PySem.W.Frag} {mg : Str → Option Value} {base : Heap} {C : Addr}
open TL Wd
set_option exponentiation.threshold 10000
def keyAt (x : Int × Int) (s : Step) : Bool := decide (s.1 = x.1) && decide (s.2.1 = x.2)
theorem sum_add {α : Type} (cs : List α) (a b : α → Int) : (cs.map fun x => a x + b x).sum = (cs.map a).sum + (cs.map b).sum := by
  induction cs with
  | nil => rfl
  | cons c r ih => simp only [List.map_cons, List.sum_cons, ih]; omega
theorem sum_zero {α : Type} (cs : List α) {a : α → Int} (h : ∀ x ∈ cs, a x = 0) : (cs.map a).sum = 0 := by
  induction cs with
  | nil => rfl
  | cons c r ih => rw [List.map_cons, List.sum_cons, h c List.mem_cons_self, ih fun x hx => h x (List.mem_cons_of_mem _ hx)]; rfl
theorem sum_one {cs : List (Int × Int)} (hn : cs.Nodup) {s : Step} (hs : (s.1, s.2.1) ∈ cs) (w : Int) : (cs.map fun x => if keyAt x s = true then w else 0).sum = w := by
  induction cs with
  | nil => cases hs
  | cons c r ih =>
    obtain ⟨h1, h2⟩ := List.nodup_cons.mp hn
    rw [List.map_cons, List.sum_cons]
    rcases List.mem_cons.mp hs with e | e
    · have hk : keyAt c s = true := by rw [← e]; simp [keyAt]
      have h0 : (r.map fun x => if keyAt x s = true then w else 0).sum = 0 := sum_zero r fun x hx => by
        rw [if_neg]
        intro q
        unfold keyAt at q
        rw [Bool.and_eq_true, decide_eq_true_eq, decide_eq_true_eq] at q
        refine h1 ?_
        have : c = x := by rw [← e]; exact Prod.ext q.1 q.2
        rw [this]; exact hx
      rw [if_pos hk, h0]; omega
    · have hk : ¬ keyAt c s = true := by
        intro q
        unfold keyAt at q
        rw [Bool.and_eq_true, decide_eq_true_eq, decide_eq_true_eq] at q
        have : (s.1, s.2.1) = c := Prod.ext q.1 q.2
        exact h1 (this ▸ e)
      rw [if_neg hk, ih h2 e]; omega
theorem sum_swap {cs : List (Int × Int)} (hn : cs.Nodup) (wt : Step → Int) : ∀ {g : List Step}, (∀ s ∈ g, (s.1, s.2.1) ∈ cs) → (cs.map fun x => ((g.filter (keyAt x)).map wt).sum).sum = (g.map wt).sum
  | [], _ => by
    rw [List.map_nil]
    exact sum_zero cs fun x _ => rfl
  | s :: g, h => by
    have e : (fun x : Int × Int => (((s :: g).filter (keyAt x)).map wt).sum) = fun x => (if keyAt x s = true then wt s else 0) + ((g.filter (keyAt x)).map wt).sum := by
      funext x
      rw [List.filter_cons]
      split
      · rw [List.map_cons, List.sum_cons]
      · omega
    rw [e, sum_add, sum_one hn (h s List.mem_cons_self), sum_swap hn wt fun t ht => h t (List.mem_cons_of_mem _ ht), List.map_cons, List.sum_cons]
def gl : List Int := [-1, 0, 1, 2, 3]
def grid : List (Int × Int) := gl.flatMap fun i => gl.map fun j => (i, j)
theorem grid_nd : grid.Nodup := by decide +kernel
theorem gl_in {i : Int} (h1 : -1 ≤ i) (h3 : i ≤ 3) : i ∈ gl := by
  have : i = -1 ∨ i = 0 ∨ i = 1 ∨ i = 2 ∨ i = 3 := by omega
  rcases this with rfl | rfl | rfl | rfl | rfl <;> decide
theorem grid_in {r : Str} {i j : Int} (h : may r i j = true) : (i, j) ∈ grid := by
  unfold may at h
  simp only [Bool.and_eq_true, decide_eq_true_eq] at h
  have h1 : -1 ≤ lowI r := by unfold lowI; split <;> omega
  have h2 : -1 ≤ lowJ r := by unfold lowJ; split <;> omega
  exact List.mem_flatMap.mpr ⟨i, gl_in (by omega) (by omega), List.mem_map.mpr ⟨j, gl_in (by omega) (by omega), rfl⟩⟩
/-- the chances of cells, as far as they can stand -/
abbrev chs (o : Own) (r : Str) (cs : List (Int × Int)) : List (Int × Int) := (cs.filter fun x => may r x.1 x.2).map fun x => findC (o r) x.1 x.2
theorem find_low {o : Own} (ho : GoodO o) {r : Str} (hr : r ∈ regs) {t : Int} {wt : Step → Int} (ht : 0 < t) (hw : ∀ s ∈ o r, 0 ≤ wt s ∧ s.2.2 = Fr.low (wt s) t) (x : Int × Int) :
    findC (o r) x.1 x.2 = Fr.low (((o r).filter (keyAt x)).map wt).sum t ∧ 0 ≤ (((o r).filter (keyAt x)).map wt).sum := by
  have hf : (o r).filter (keyAt x) = (o r).filter (fun s => decide (s.1 = x.1) && decide (s.2.1 = x.2)) := rfl
  rcases find_filter (ho.nd r hr) x.1 x.2 with ⟨e1, e2⟩ | ⟨s, hs, e1, e2⟩
  · rw [hf, e1, e2]
    exact ⟨(Fr.low_zero ht).symm, Int.le_refl _⟩
  · rw [hf, e1, e2]
    obtain ⟨h1, h2⟩ := hw s hs
    have e : ([s].map wt).sum = wt s := by simp
    rw [e]
    exact ⟨h2, h1⟩
theorem grid_ok {o : Own} (ho : GoodO o) {r : Str} (hr : r ∈ regs) : Fr.sum (chs o r grid) = (1, 1) ∧ (∀ f ∈ chs o r grid, Sm f) ∧ ∀ n, Sm (parts (chs o r grid) n) := by
  obtain ⟨t, wt, ht, ht2, hw, hsum⟩ := (ho.r r hr).den
  have hnd : (grid.filter fun x => may r x.1 x.2).Nodup := List.Pairwise.filter _ grid_nd
  have hsw := sum_swap hnd wt (g := o r) fun s hs => List.mem_filter.mpr ⟨grid_in (ho.s r hr s hs).2, (ho.s r hr s hs).2⟩
  rw [hsum] at hsw
  have hmap : chs o r grid = ((grid.filter fun x => may r x.1 x.2).map fun x => (((o r).filter (keyAt x)).map wt).sum).map (Fr.low · t) := by
    rw [List.map_map]
    exact List.map_congr_left fun x _ => (find_low ho hr ht hw x).1
  have hnn : ∀ w ∈ ((grid.filter fun x => may r x.1 x.2).map fun x => (((o r).filter (keyAt x)).map wt).sum), 0 ≤ w := by
    intro w hw'
    obtain ⟨x, _, rfl⟩ := List.mem_map.mp hw'
    exact (find_low ho hr ht hw x).2
  have hle : ∀ w ∈ ((grid.filter fun x => may r x.1 x.2).map fun x => (((o r).filter (keyAt x)).map wt).sum), w ≤ t := by
    intro w hw'
    obtain ⟨l1, l2, e⟩ := List.append_of_mem hw'
    rw [e] at hnn
    have h1 := (sum_take_le (ws := l1) (fun x hx => hnn x (List.mem_append_left _ hx)) 0).2
    have h2 := (sum_take_le (ws := l2) (fun x hx => hnn x (List.mem_append_right _ (List.mem_cons_of_mem _ hx))) 0).2
    rw [e, List.sum_append, List.sum_cons] at hsw
    rw [List.take_zero, List.sum_nil] at h1 h2
    omega
  rw [hmap]
  generalize ((grid.filter fun x => may r x.1 x.2).map fun x => (((o r).filter (keyAt x)).map wt).sum) = ws at hsw hnn hle
  refine ⟨by rw [Fr.sum_lows ht, hsw, Fr.low_one ht], fun f hf => ?_, fun n => ?_⟩
  · obtain ⟨w, hw', rfl⟩ := List.mem_map.mp hf
    have := hnn w hw'
    have := hle w hw'
    exact (low_small (by omega) ht (by omega)).sm
  · unfold parts
    rw [← List.map_take]
    have e := Fr.sum_low ht (ws.take n) 0
    rw [Fr.low_zero ht, Int.zero_add] at e
    rw [e]
    obtain ⟨t0, t1⟩ := sum_take_le hnn n
    exact (low_small (by omega) ht (by omega)).sm
theorem find_can {o : Own} (ho : GoodO o) {r : Str} (hr : r ∈ regs) (i j : Int) : Fr.Can (findC (o r) i j) := by
  obtain ⟨t, wt, ht, ht2, hw, hsum⟩ := (ho.r r hr).den
  rw [(find_low ho hr ht hw (i, j)).1]
  exact Fr.low_can ht
theorem rows_okD {xs : List Step} (h : xs.length ≤ 1000) : okD 3 (rowsD xs) := by
  refine ⟨by rw [List.length_map]; exact h, fun x hx => ?_⟩
  obtain ⟨s, hs, rfl⟩ := List.mem_map.mp hx
  refine ⟨Nat.le_of_ble_eq_true rfl, fun y hy => ?_⟩
  simp only [List.mem_cons, List.not_mem_nil, or_false] at hy
  rcases hy with rfl | rfl | rfl
  · trivial
  · trivial
  · refine ⟨Nat.le_of_ble_eq_true rfl, fun z hz => ?_⟩
    simp only [List.mem_cons, List.not_mem_nil, or_false] at hz
    rcases hz with rfl | rfl <;> trivial
end B

set_option Elab.async false
set_option linter.all false
set_option maxRecDepth 100000
set_option maxHeartbeats 4000000
namespace B
open PySem PySem.Spec PyProof.Rows L2 A
local macro_rules | `(tactic| walk_at "nm") => `(tactic| refine ae_nameT (by assumption) rfl ?_)
local macro_rules | `(tactic| walk_at "ag") => `(tactic| refine ag_nameT (by assumption) (by assumption) ?_)
local macro_rules | `(tactic| walk_at "agc") => `(tactic| (refine agc_nameU (by assumption) (by assumption) ?_ ?_; · decide))
local macro_rules | `(tactic| walk_at "set") => `(tactic| refine as_setT (by assumption) (by assumption) ?_)
local macro_rules | `(tactic| walk_at "ax1") => `(tactic| first
  | ((with_reducible show AE _ (Expr.Name _ _) _ _ _); walk_at "nm")
  | ((with_reducible show AA _ (_ :: _) _ _ _); refine aa_cons ?_)
  | ((with_reducible show AA _ [] _ _ _); refine aa_nil ?_)
  | ((with_reducible show AE _ (Expr.Constant _ _ _) _ _ _); first | refine ae_int ?_ | refine ae_str ?_ | refine ae_bl ?_ | refine ae_non ?_)
  | ((with_reducible show AE _ (Expr.BinOp _ Operator.Add _ _) _ _ _); refine ae_add ?_)
  | ((with_reducible show AE _ (Expr.BinOp _ Operator.Sub _ _) _ _ _); refine ae_sub ?_)
  | ((with_reducible show AE _ (Expr.BinOp _ Operator.Mult _ _) _ _ _); refine ae_mul ?_)
  | ((with_reducible show AE _ (Expr.BinOp _ Operator.FloorDiv _ _) _ _ _); refine ae_fdiv ?_)
  | ((with_reducible show AE _ (Expr.BinOp _ Operator.Mod _ _) _ _ _); refine ae_mod ?_)
  | ((with_reducible show AE _ (Expr.Compare _ [CmpOp.Lt] _ _) _ _ _); refine ae_lt ?_)
  | ((with_reducible show AE _ (Expr.Compare _ [CmpOp.LtE] _ _) _ _ _); refine ae_le ?_)
  | ((with_reducible show AE _ (Expr.Compare _ [CmpOp.Gt] _ _) _ _ _); refine ae_gt ?_)
  | ((with_reducible show AE _ (Expr.Compare _ [CmpOp.GtE] _ _) _ _ _); refine ae_ge ?_)
  | ((with_reducible show AE _ (Expr.Compare _ [CmpOp.Eq] _ _) _ _ _); refine ae_eqs ?_)
  | ((with_reducible show AE _ (Expr.Compare _ [CmpOp.NotEq] _ _) _ _ _); refine ae_nes ?_)
  | ((with_reducible show AT _ (Expr.Compare _ [CmpOp.Eq] _ _) _ _ _); refine at_eqs ?_)
  | ((with_reducible show AT _ (Expr.Compare _ [CmpOp.NotEq] _ _) _ _ _); refine at_nes ?_)
  | ((with_reducible show AT _ (Expr.Compare _ [CmpOp.Lt] _ _) _ _ _); refine at_lt ?_)
  | ((with_reducible show AT _ (Expr.Compare _ [CmpOp.LtE] _ _) _ _ _); refine at_le ?_)
  | ((with_reducible show AT _ (Expr.Compare _ [CmpOp.Gt] _ _) _ _ _); refine at_gt ?_)
  | ((with_reducible show AT _ (Expr.Compare _ [CmpOp.GtE] _ _) _ _ _); refine at_ge ?_)
  | ((with_reducible show AT _ (Expr.UnaryOp UnaryOp.Not _ _) _ _ _); refine at_not ?_)
  | ((with_reducible show AT _ (Expr.Call _ _ _ _) _ _ _); refine at_val ?_)
  | ((with_reducible show AR _ rEq (DV.dat (PyData.int _)) (DV.dat (PyData.int _)) _ _); refine ar_eqI ?_)
  | ((with_reducible show AR _ rNe (DV.dat (PyData.int _)) (DV.dat (PyData.int _)) _ _); refine ar_neI ?_)
  | ((with_reducible show AR _ rEq (DV.dat (PyData.str _)) (DV.dat (PyData.str _)) _ _); refine ar_eqS ?_)
  | ((with_reducible show AR _ rNe (DV.dat (PyData.str _)) (DV.dat (PyData.str _)) _ _); refine ar_neS ?_)
  | ((with_reducible show ∃ c, DV.dat (PyData.bool _) = DV.dat (PyData.bool c) ∧ _); refine ⟨_, rfl, ?_⟩)
  | ((with_reducible show AE _ (Expr.Tuple _ _ _) _ _ _); refine ae_tup ?_)
  | ((with_reducible show AE _ (Expr.Subscript _ _ _) _ _ _); refine ae_ixT ?_)
  | ((with_reducible show ∃ i j, DV.dat (PyData.int _) = DV.dat (PyData.int i) ∧ DV.dat (PyData.int _) = DV.dat (PyData.int j) ∧ _); refine ⟨_, _, rfl, rfl, ?_⟩)
  | ((with_reducible show ∃ xs i d, DV.dat (PyData.tuple _) = DV.dat (PyData.tuple xs) ∧ _); refine ⟨_, _, _, rfl, rfl, rfl, ?_⟩))
local macro_rules | `(tactic| walk_at "ax") => `(tactic| repeat (walk_at "ax1"))
local macro_rules | `(tactic| walk_at "ay1") => `(tactic| first
  | walk_at "ax1"
  | ((with_reducible show AE _ (Expr.UnaryOp UnaryOp.USub _ _) _ _ _); refine ae_neg ?_)
  | ((with_reducible show ∃ i, DV.dat (PyData.int _) = DV.dat (PyData.int i) ∧ _); refine ⟨_, rfl, ?_⟩)
  | ((with_reducible show ∃ xs : List PyData, [_, _] = List.map DV.dat xs ∧ _); refine ⟨[_, _], rfl, Nat.le_of_ble_eq_true rfl, ?_⟩)
  | ((with_reducible show ∃ xs : List PyData, [_, _, _] = List.map DV.dat xs ∧ _); refine ⟨[_, _, _], rfl, Nat.le_of_ble_eq_true rfl, ?_⟩))
local macro_rules | `(tactic| walk_at "ay") => `(tactic| repeat (walk_at "ay1"))
variable {P : Program} {w : World} {K : PySem.W.Frag} {mg : Str → Option Value} {base : Heap} {C : Addr}
open TL Wd
set_option exponentiation.threshold 10000
open Fr (Bd)
theorem Bd.sm {k : Nat} {f : Int × Int} (h : Bd k f) (hk : k ≤ 2000) : Sm f := ⟨h.b0, (h.mono hk).t, (h.mono hk).b⟩
theorem _root_.Fr.Bd.sm' {f : Int × Int} (h : Bd 30 f) : Sm f := Bd.sm h (by decide)
abbrev mulK (κ : Step → Int) (g : List Step) : List (Int × Int) := g.map fun s => Fr.mul (κ s, 1) s.2.2
def dXY (g : List Step) : (Int × Int) × (Int × Int) := (Fr.sum (mulK (fun s => s.1) g), Fr.sum (mulK (fun s => s.2.1) g))
theorem wsum_le {wt κ : Step → Int} : ∀ {g : List Step} (n : Nat), (∀ s ∈ g, 0 ≤ wt s ∧ (κ s).natAbs ≤ 3) → ((g.take n).map fun s => κ s * wt s).sum.natAbs ≤ 3 * (g.map wt).sum ∧ 0 ≤ (g.map wt).sum
  | [], n, _ => by rw [List.take_nil]; exact ⟨Int.le_refl _, Int.le_refl _⟩
  | s :: g, n, h => by
    obtain ⟨h1, h2⟩ := h s List.mem_cons_self
    have hg := fun m => wsum_le (wt := wt) (κ := κ) (g := g) m fun x hx => h x (List.mem_cons_of_mem _ hx)
    cases n with
    | zero =>
      have := (hg 0).2
      rw [List.take_zero, List.map_nil, List.sum_nil, List.map_cons, List.sum_cons]
      simp only [Int.natAbs_zero]
      omega
    | succ n =>
      obtain ⟨h3, h4⟩ := hg n
      rw [List.take_succ_cons, List.map_cons, List.sum_cons, List.map_cons, List.sum_cons]
      have h5 : (κ s * wt s).natAbs ≤ 3 * wt s := by
        rw [Int.natAbs_mul]
        have : ((wt s).natAbs : Int) = wt s := by omega
        have h6 : (κ s).natAbs * (wt s).natAbs ≤ 3 * (wt s).natAbs := Nat.mul_le_mul_right _ h2
        omega
      have h7 := Int.natAbs_add_le (κ s * wt s) ((g.take n).map fun s => κ s * wt s).sum
      omega
theorem mulK_ok {g : List Step} (hg : GoodR g) {κ : Step → Int} (hκ : ∀ s ∈ g, (κ s).natAbs ≤ 3) : (∀ f ∈ mulK κ g, Sm f) ∧ (∀ n, Sm (parts (mulK κ g) n)) ∧ Bd 30 (Fr.sum (mulK κ g)) := by
  obtain ⟨t, wt, ht, ht2, hw, hsum⟩ := hg.den
  have e : mulK κ g = (g.map fun s => κ s * wt s).map (Fr.low · t) := by
    rw [List.map_map]
    refine List.map_congr_left fun s hs => ?_
    show Fr.mul (κ s, 1) s.2.2 = _
    rw [(hw s hs).2, Fr.mul_low ht]; rfl
  have hb : ∀ n, Bd 30 (parts (mulK κ g) n) := by
    intro n
    rw [e]
    unfold parts
    rw [← List.map_take, ← List.map_take]
    have e1 := Fr.sum_low ht ((g.take n).map fun s => κ s * wt s) 0
    rw [Fr.low_zero ht, Int.zero_add] at e1
    rw [e1]
    obtain ⟨h1, h2⟩ := wsum_le (wt := wt) (κ := κ) n fun s hs => ⟨(hw s hs).1, hκ s hs⟩
    rw [hsum] at h1
    exact Bd.low ht (by omega) (by omega)
  refine ⟨fun f hf => ?_, fun n => Bd.sm (hb n) (by decide), ?_⟩
  · rw [e] at hf
    obtain ⟨w, hw', rfl⟩ := List.mem_map.mp hf
    obtain ⟨s, hs, rfl⟩ := List.mem_map.mp hw'
    have h5 : (κ s * wt s).natAbs ≤ 3 * t := by
      have h1 := (wsum_le (wt := wt) (κ := fun _ => 1) (g := [s]) 1 fun x hx => ⟨by rw [List.mem_singleton.mp hx]; exact (hw s hs).1, by decide⟩)
      obtain ⟨l1, l2, e2⟩ := List.append_of_mem hs
      have h2 := (wsum_le (wt := wt) (κ := κ) (g := l1) 0 fun x hx => ⟨(hw x (by rw [e2]; exact List.mem_append_left _ hx)).1, hκ x (by rw [e2]; exact List.mem_append_left _ hx)⟩).2
      have h3 := (wsum_le (wt := wt) (κ := κ) (g := l2) 0 fun x hx => ⟨(hw x (by rw [e2]; exact List.mem_append_right _ (List.mem_cons_of_mem _ hx))).1, hκ x (by rw [e2]; exact List.mem_append_right _ (List.mem_cons_of_mem _ hx))⟩).2
      have h4 : wt s ≤ t := by rw [← hsum, e2, List.map_append, List.map_cons, List.sum_append, List.sum_cons]; omega
      have h0 := (hw s hs).1
      rw [Int.natAbs_mul]
      have h6 : (κ s).natAbs * (wt s).natAbs ≤ 3 * (wt s).natAbs := Nat.mul_le_mul_right _ (hκ s hs)
      omega
    exact Bd.sm (k := 30) (Bd.low ht (by omega) (by omega)) (by decide)
  · have := hb g.length
    rw [← parts_all]
    rw [List.length_map]
    exact this
def S_less : DS1 := fun vs M k => ∃ f g : Int × Int, vs = [frV f, frV g] ∧ Sm f ∧ Sm g ∧ k (frV (Fr.sub f g)) M
def S_times : DS1 := fun vs M k => ∃ f g : Int × Int, vs = [frV f, frV g] ∧ Sm f ∧ Sm g ∧ k (frV (Fr.mul f g)) M
theorem sc_less : FnScope ["one", "other"] ["one", "other"] (defScope s_less) := ⟨rfl, rfl, rfl, by decide +kernel, rfl, by decide +kernel, by decide +kernel⟩
theorem d_less (T : Txt K mg C) (D_lowest : Def P w K mg base "lowest" 1 S_lowest) {f : Addr} {fd : FuncData} (F : Fun K "less" "less" s_less f fd) (hm : mg "less" = some (.ref f)) (hb : Binds K fd ["one", "other"] []) : Def P w K mg base "less" 2 S_less := by
  refine def_ok F hm hb sc_less (fun ds M k h => ?_) (fun cdv A outer s H E ds M kk hl nd hr h => ?_)
  · obtain ⟨f, g, rfl, _⟩ := h; rfl
  · obtain ⟨f, g, rfl, ⟨f0, f1, f2⟩, ⟨g0, g1, g2⟩, q⟩ := h
    have cm : ∀ {i j : Int}, i.natAbs < 2 ^ 2000 → j.natAbs < 2 ^ 2000 → CMulW i j := fun hi hj => wide_mul hi hj (by decide) (by decide) (by decide)
    refine as_cons (as_ret (ae_call D_lowest hr ?_))
    walk_at "ax"
    refine ⟨cm f1 g2, ?_⟩
    walk_at "ax"
    refine ⟨cm g1 f2, ?_⟩
    walk_at "ax"
    refine ⟨cm f2 g2, ?_⟩
    walk_at "ax"
    exact ⟨_, _, rfl, Int.mul_pos f0 g0, Nat.lt_of_lt_of_le (wide_lt f2 g2) (Nat.pow_le_pow_right (by decide) (by decide)), q⟩
theorem sc_times : FnScope ["one", "other"] ["one", "other"] (defScope s_times) := ⟨rfl, rfl, rfl, by decide +kernel, rfl, by decide +kernel, by decide +kernel⟩
theorem d_times (T : Txt K mg C) (D_lowest : Def P w K mg base "lowest" 1 S_lowest) {f : Addr} {fd : FuncData} (F : Fun K "times" "times" s_times f fd) (hm : mg "times" = some (.ref f)) (hb : Binds K fd ["one", "other"] []) : Def P w K mg base "times" 2 S_times := by
  refine def_ok F hm hb sc_times (fun ds M k h => ?_) (fun cdv A outer s H E ds M kk hl nd hr h => ?_)
  · obtain ⟨f, g, rfl, _⟩ := h; rfl
  · obtain ⟨f, g, rfl, ⟨f0, f1, f2⟩, ⟨g0, g1, g2⟩, q⟩ := h
    have cm : ∀ {i j : Int}, i.natAbs < 2 ^ 2000 → j.natAbs < 2 ^ 2000 → CMulW i j := fun hi hj => wide_mul hi hj (by decide) (by decide) (by decide)
    refine as_cons (as_ret (ae_call D_lowest hr ?_))
    walk_at "ax"
    refine ⟨cm f1 g1, ?_⟩
    walk_at "ax"
    refine ⟨cm f2 g2, ?_⟩
    walk_at "ax"
    exact ⟨_, _, rfl, Int.mul_pos f0 g0, Nat.lt_of_lt_of_le (wide_lt f2 g2) (Nat.pow_le_pow_right (by decide) (by decide)), q⟩
abbrev pairOf (x : (Int × Int) × (Int × Int)) : PyData := .tuple [frD x.1, frD x.2]
abbrev mulD (κ : Step → Int) : DV → DV
  | .dat (.tuple [.int i, .int j, .tuple [.int a, .int b]]) => frV (Fr.mul (κ (i, j, a, b), 1) (a, b))
  | d => d
abbrev Prs := List ((Int × Int) × (Int × Int))
abbrev prsD (ps : Prs) : List PyData := ps.map fun p => .tuple [frD p.1, frD p.2]
abbrev prsM (ps : Prs) : List (Int × Int) := ps.map fun p => Fr.mul p.1 p.2
abbrev mulP : DV → DV
  | .dat (.tuple [.tuple [.int a, .int b], .tuple [.int c, .int d]]) => frV (Fr.mul (a, b) (c, d))
  | d => d
def S_mean_of : DS1 := fun vs M k => ∃ ps : Prs, vs = [.dat (.list (prsD ps))] ∧ (∀ p ∈ ps, Sm p.1 ∧ Sm p.2) ∧ (∀ f ∈ prsM ps, Sm f) ∧ (∀ n, Sm (parts (prsM ps) n)) ∧ ps.length < 1000 ∧ k (frV (Fr.sum (prsM ps))) M
theorem sc_mean_of : FnScope ["outcomes", "worth", "chance"] ["outcomes"] (defScope s_mean_of) := ⟨rfl, rfl, rfl, by decide +kernel, rfl, by decide +kernel, by decide +kernel⟩
theorem d_mean_of (T : Txt K mg C) (D_times : Def P w K mg base "times" 2 S_times) (D_sum_of : Def P w K mg base "sum_of" 3 S_sum_of) {f : Addr} {fd : FuncData} (F : Fun K "mean_of" "mean_of" s_mean_of f fd) (hm : mg "mean_of" = some (.ref f)) (hb : Binds K fd ["outcomes"] []) : Def P w K mg base "mean_of" 4 S_mean_of := by
  refine def_ok F hm hb sc_mean_of (fun ds M k h => ?_) (fun cdv A outer s H E ds M kk hl nd hr h => ?_)
  · obtain ⟨ps, rfl, _⟩ := h; rfl
  · obtain ⟨ps, rfl, h1, h2, h3, h4, q⟩ := h
    refine as_cons (as_ret (ae_call D_sum_of hr (aa_cons (ae_wk (ae_lcP rfl nd (blkOk_by (own := [("worth", 1), ("chance", 2)]) rfl) mulP (ai_list ?_))))))
    walk_at "ax"
    refine ⟨_, rfl, fun _ _ _ => trivial, by rw [List.length_map, List.length_map]; omega, fun d M3 hd hle3 s H C cl fp => ?_, fun D hD => ?_⟩
    · obtain ⟨y, hy, rfl⟩ := List.mem_map.mp hd
      obtain ⟨p, hp, rfl⟩ := List.mem_map.mp hy
      refine agc_tup rfl rfl (agcs_cons ?_)
      walk_at "agc"
      refine agcs_cons ?_
      walk_at "agc"
      refine agcs_nil fun s H C cl fp => ?_
      refine ae_call D_times (hr.mono (by decide)) ?_
      walk_at "ay"
      exact ⟨p.1, p.2, rfl, (h1 p hp).1, (h1 p hp).2, rfl, rfl⟩
    · have e : ((prsD ps).map DV.dat).map mulP = ((prsM ps).map frD).map .dat := by
        rw [List.map_map, List.map_map, List.map_map, List.map_map]; rfl
      rw [e]
      exact ⟨_, _, wk_new hD, aa_nil ⟨_, rfl, h2, h3, q⟩⟩
abbrev keyP (κ : Step → Int) (g : List Step) : Prs := g.map fun s => ((κ s, 1), s.2.2)
theorem keyP_mul (κ : Step → Int) (g : List Step) : prsM (keyP κ g) = mulK κ g := by show List.map _ (List.map _ g) = List.map _ g; rw [List.map_map]; rfl
abbrev prK (κ : Step → Int) : DV → DV
  | .dat (.tuple [.int i, .int j, .tuple [.int a, .int b]]) => .dat (.tuple [frD (κ (i, j, a, b), 1), frD (a, b)])
  | d => d
theorem may_key {o : Own} (ho : GoodO o) {r : Str} (hr : r ∈ regs) : (∀ s ∈ o r, (s.1 : Int).natAbs ≤ 3) ∧ ∀ s ∈ o r, (s.2.1 : Int).natAbs ≤ 3 :=
  ⟨fun s hs => (may_le (ho.s r hr s hs).2).1, fun s hs => (may_le (ho.s r hr s hs).2).2⟩
structure GoodD (g : List Step) : Prop where
  r : GoodR g
  x : ∀ s ∈ g, (s.1 : Int).natAbs ≤ 3
  y : ∀ s ∈ g, (s.2.1 : Int).natAbs ≤ 3
  len : g.length ≤ 12
theorem GoodO.d {o : Own} (ho : GoodO o) {r : Str} (hr : r ∈ regs) : GoodD (o r) := ⟨ho.r r hr, (may_key ho hr).1, (may_key ho hr).2, ho.len r hr⟩
theorem sm_key {i : Int} (h : i.natAbs ≤ 3) : Sm (i, 1) := ⟨by show (0 : Int) < 1; decide, Nat.lt_of_le_of_lt h (by decide +kernel), by show (1 : Int).natAbs < 2 ^ 2000; decide +kernel⟩
def S_drift_of : DS1 := fun vs M k => ∃ g : List Step, vs = [.dat (rowsD g)] ∧ GoodD g ∧ k (.dat (pairOf (dXY g))) M
theorem sc_drift_of : FnScope ["steps", "across", "along", "i", "_", "chance", "j"] ["steps"] (defScope s_drift_of) := ⟨rfl, rfl, rfl, by decide +kernel, rfl, by decide +kernel, by decide +kernel⟩
theorem d_drift_of (T : Txt K mg C) (D_mean_of : Def P w K mg base "mean_of" 4 S_mean_of) {f : Addr} {fd : FuncData} (F : Fun K "drift_of" "drift_of" s_drift_of f fd) (hm : mg "drift_of" = some (.ref f)) (hb : Binds K fd ["steps"] []) : Def P w K mg base "drift_of" 5 S_drift_of := by
  refine def_ok F hm hb sc_drift_of (fun ds M k h => ?_) (fun cdv A outer s H E ds M kk hl nd hr h => ?_)
  · obtain ⟨g, rfl, _⟩ := h; rfl
  · obtain ⟨g, rfl, hg, q⟩ := h
    obtain ⟨x1, x2, x3⟩ := mulK_ok hg.r hg.x
    obtain ⟨y1, y2, y3⟩ := mulK_ok hg.r hg.y
    have hlen := hg.len
    have hsm := hg.r.sm
    walk_at "set"
    refine ae_call D_mean_of hr (aa_cons (ae_wk (ae_lcP rfl nd (blkOk_by (own := [("i", 3), ("_", 4), ("chance", 5)]) rfl) (prK fun s => s.1) (ai_tup ?_))))
    walk_at "ax"
    refine ⟨_, rfl, fun _ _ _ => trivial, by rw [List.length_map, List.length_map]; omega, fun d M3 hd hle3 s H C cl fp => ?_, fun D hD => ?_⟩
    · obtain ⟨y, hy, rfl⟩ := List.mem_map.mp hd
      obtain ⟨st, hst, rfl⟩ := List.mem_map.mp hy
      refine agc_tup rfl rfl (agcs_cons ?_)
      walk_at "agc"
      refine agcs_cons ?_
      walk_at "agc"
      refine agcs_cons ?_
      walk_at "agc"
      refine agcs_nil fun s H C cl fp => ?_
      walk_at "ay"
      exact ⟨rfl, rfl⟩
    · have e : (((g.map stD).map DV.dat).map (prK fun s => s.1)) = (prsD (keyP (fun s => s.1) g)).map .dat := by
        rw [List.map_map, List.map_map, List.map_map, List.map_map]; rfl
      rw [e]
      refine ⟨_, _, wk_new hD, aa_nil ⟨_, rfl, fun p hp => ?_, by rw [keyP_mul]; exact x1, by rw [keyP_mul]; exact x2, by rw [List.length_map]; omega, ?_⟩⟩
      · obtain ⟨s, hs, rfl⟩ := List.mem_map.mp hp
        exact ⟨sm_key (hg.x s hs), hsm s hs⟩
      rw [keyP_mul]
      walk_at "set"
      refine ae_call D_mean_of hr (aa_cons (ae_wk (ae_lcP rfl nd (blkOk_by (own := [("_", 4), ("j", 6), ("chance", 5)]) rfl) (prK fun s => s.2.1) (ai_tup ?_))))
      walk_at "ax"
      refine ⟨_, rfl, fun _ _ _ => trivial, by rw [List.length_map, List.length_map]; omega, fun d M3 hd hle3 s H C cl fp => ?_, fun D hD => ?_⟩
      · obtain ⟨y, hy, rfl⟩ := List.mem_map.mp hd
        obtain ⟨st, hst, rfl⟩ := List.mem_map.mp hy
        refine agc_tup rfl rfl (agcs_cons ?_)
        walk_at "agc"
        refine agcs_cons ?_
        walk_at "agc"
        refine agcs_cons ?_
        walk_at "agc"
        refine agcs_nil fun s H C cl fp => ?_
        walk_at "ay"
        exact ⟨rfl, rfl⟩
      · have e : (((g.map stD).map DV.dat).map (prK fun s => s.2.1)) = (prsD (keyP (fun s => s.2.1) g)).map .dat := by
          rw [List.map_map, List.map_map, List.map_map, List.map_map]; rfl
        rw [e]
        refine ⟨_, _, wk_new hD, aa_nil ⟨_, rfl, fun p hp => ?_, by rw [keyP_mul]; exact y1, by rw [keyP_mul]; exact y2, by rw [List.length_map]; omega, ?_⟩⟩
        · obtain ⟨s, hs, rfl⟩ := List.mem_map.mp hp
          exact ⟨sm_key (hg.y s hs), hsm s hs⟩
        rw [keyP_mul]
        refine as_cons (as_ret ?_)
        walk_at "ay"
        exact q
def S_drift (C : Addr) : DS1 := fun vs M k => ∃ (t : Str) (o : Own) (r : Str), vs = [.obj C (bkF t o), .dat (.str r)] ∧ r ∈ regs ∧ GoodO o ∧ k (.dat (pairOf (dXY (o r)))) M
theorem dxy_bd {o : Own} (ho : GoodO o) {r : Str} (hr : r ∈ regs) : Bd 30 (dXY (o r)).1 ∧ Bd 30 (dXY (o r)).2 := by
  obtain ⟨k1, k2⟩ := may_key ho hr
  exact ⟨(mulK_ok (ho.r r hr) k1).2.2, (mulK_ok (ho.r r hr) k2).2.2⟩
/-- the drifts inside, along first, along second -/
structure Dr3 where
  m : (Int × Int) × (Int × Int)
  a : (Int × Int) × (Int × Int)
  b : (Int × Int) × (Int × Int)
abbrev dr3D (d : Dr3) : PyData := .tuple [pairOf d.m, pairOf d.a, pairOf d.b]
structure Bd3 (k : Nat) (d : Dr3) : Prop where
  m1 : Bd k d.m.1
  m2 : Bd k d.m.2
  a1 : Bd k d.a.1
  a2 : Bd k d.a.2
  b1 : Bd k d.b.1
  b2 : Bd k d.b.2
def drs (o : Own) : Dr3 := ⟨dXY (o "inside"), dXY (o "first"), dXY (o "second")⟩
theorem drs_bd {o : Own} (ho : GoodO o) : Bd3 30 (drs o) := by
  obtain ⟨m1, m2⟩ := dxy_bd ho (r := "inside") (by simp [regs])
  obtain ⟨a1, a2⟩ := dxy_bd ho (r := "first") (by simp [regs])
  obtain ⟨b1, b2⟩ := dxy_bd ho (r := "second") (by simp [regs])
  exact ⟨m1, m2, a1, a2, b1, b2⟩
theorem Bd3.mono {j k : Nat} {d : Dr3} (h : Bd3 j d) (hj : j ≤ k) : Bd3 k d := ⟨h.m1.mono hj, h.m2.mono hj, h.a1.mono hj, h.a2.mono hj, h.b1.mono hj, h.b2.mono hj⟩
def S_drifts_of (C : Addr) : DS1 := fun vs M k => ∃ (t : Str) (o : Own), vs = [.obj C (bkF t o)] ∧ GoodO o ∧ k (.dat (dr3D (drs o))) M
theorem sc_drifts_of : FnScope ["book"] ["book"] (defScope s_drifts_of) := ⟨rfl, rfl, rfl, by decide +kernel, rfl, by decide +kernel, by decide +kernel⟩
theorem d_drifts_of (T : Txt K mg C) (D_drift_of : Def P w K mg base "drift_of" 5 S_drift_of) {f : Addr} {fd : FuncData} (F : Fun K "drifts_of" "drifts_of" s_drifts_of f fd) (hm : mg "drifts_of" = some (.ref f)) (hb : Binds K fd ["book"] []) : Def P w K mg base "drifts_of" 6 (S_drifts_of C) := by
  refine def_ok F hm hb sc_drifts_of (fun ds M k h => ?_) (fun cdv A outer s H E ds M kk hl nd hr h => ?_)
  · obtain ⟨t, o, rfl, _⟩ := h; rfl
  · obtain ⟨t, o, rfl, ho, q⟩ := h
    refine as_cons (as_ret (ae_tup (aa_cons (ae_call D_drift_of hr (aa_cons (ae_fldO rfl ?_))))))
    walk_at "nm"
    refine ⟨_, _, _, rfl, T.cls_Book, T.n_inside, rfl, aa_nil ⟨_, rfl, ho.d (by simp [regs]), aa_cons (ae_call D_drift_of hr (aa_cons (ae_fldO rfl ?_)))⟩⟩
    walk_at "nm"
    refine ⟨_, _, _, rfl, T.cls_Book, T.n_first, rfl, aa_nil ⟨_, rfl, ho.d (by simp [regs]), aa_cons (ae_call D_drift_of hr (aa_cons (ae_fldO rfl ?_)))⟩⟩
    walk_at "nm"
    exact ⟨_, _, _, rfl, T.cls_Book, T.n_second, rfl, aa_nil ⟨_, rfl, ho.d (by simp [regs]), aa_nil ⟨[_, _, _], rfl, Nat.le_of_ble_eq_true rfl, q⟩⟩⟩
/-- the turns -/
def trn3 (d : Dr3) : (Int × Int) × (Int × Int) := (Fr.sub (Fr.mul d.a.2 d.m.1) (Fr.mul d.a.1 d.m.2), Fr.sub (Fr.mul d.b.1 d.m.2) (Fr.mul d.b.2 d.m.1))
def trn (o : Own) : (Int × Int) × (Int × Int) :=
  let m := dXY (o "inside"); let a := dXY (o "first"); let b := dXY (o "second")
  (Fr.sub (Fr.mul a.2 m.1) (Fr.mul a.1 m.2), Fr.sub (Fr.mul b.1 m.2) (Fr.mul b.2 m.1))
theorem trn_drs (o : Own) : trn3 (drs o) = trn o := rfl
def S_turns_by : DS1 := fun vs M k => ∃ d : Dr3, vs = [.dat (dr3D d)] ∧ Bd3 900 d ∧ k (.dat (pairOf (trn3 d))) M
theorem sc_turns_by : FnScope ["drifts", "inside_x", "inside_y", "first_x", "first_y", "second_x", "second_y", "first_turn", "second_turn"] ["drifts"] (defScope s_turns_by) := ⟨rfl, rfl, rfl, by decide +kernel, rfl, by decide +kernel, by decide +kernel⟩
theorem d_turns_by (T : Txt K mg C) (D_times : Def P w K mg base "times" 2 S_times) (D_less : Def P w K mg base "less" 2 S_less) {f : Addr} {fd : FuncData} (F : Fun K "turns_by" "turns_by" s_turns_by f fd) (hm : mg "turns_by" = some (.ref f)) (hb : Binds K fd ["drifts"] []) : Def P w K mg base "turns_by" 3 S_turns_by := by
  refine def_ok F hm hb sc_turns_by (fun ds M k h => ?_) (fun cdv A outer s H E ds M kk hl nd hr h => ?_)
  · obtain ⟨d, rfl, _⟩ := h; rfl
  · obtain ⟨d, rfl, ⟨m1, m2, a1, a2, b1, b2⟩, q⟩ := h
    have sm' : ∀ {f : Int × Int}, Bd 900 f → Sm f := fun h => Bd.sm h (by decide)
    refine as_cons (as_asg ?_)
    walk_at "nm"
    refine ag_tup rfl rfl (ags_cons (ag_tup rfl rfl (ags_cons ?_)))
    walk_at "ag"
    refine ags_cons ?_
    walk_at "ag"
    refine ags_nil (ags_cons (ag_tup rfl rfl (ags_cons ?_)))
    walk_at "ag"
    refine ags_cons ?_
    walk_at "ag"
    refine ags_nil (ags_cons (ag_tup rfl rfl (ags_cons ?_)))
    walk_at "ag"
    refine ags_cons ?_
    walk_at "ag"
    refine ags_nil (ags_nil ?_)
    walk_at "set"
    refine ae_call D_less hr (aa_cons (ae_call D_times hr ?_))
    walk_at "ax"
    refine ⟨_, _, rfl, sm' a2, sm' m1, aa_cons (ae_call D_times hr ?_)⟩
    walk_at "ax"
    refine ⟨_, _, rfl, sm' a1, sm' m2, aa_nil ⟨_, _, rfl, Bd.sm (a2.mul m1) (by decide), Bd.sm (a1.mul m2) (by decide), ?_⟩⟩
    walk_at "set"
    refine ae_call D_less hr (aa_cons (ae_call D_times hr ?_))
    walk_at "ax"
    refine ⟨_, _, rfl, sm' b1, sm' m2, aa_cons (ae_call D_times hr ?_)⟩
    walk_at "ax"
    refine ⟨_, _, rfl, sm' b2, sm' m1, aa_nil ⟨_, _, rfl, Bd.sm (b1.mul m2) (by decide), Bd.sm (b2.mul m1) (by decide), ?_⟩⟩
    refine as_cons (as_ret ?_)
    walk_at "ay"
    exact q
def S_turns (C : Addr) : DS1 := fun vs M k => ∃ (t : Str) (o : Own), vs = [.obj C (bkF t o)] ∧ GoodO o ∧ k (.dat (pairOf (trn o))) M
/-- the sides that the walk meets by its drift inside -/
def sds3 (d : Dr3) : List Str := (if d.m.2.1 < 0 then [("first" : Str)] else []) ++ (if d.m.1.1 < 0 then [("second" : Str)] else [])
def sds (o : Own) : List Str := (if (dXY (o "inside")).2.1 < 0 then [("first" : Str)] else []) ++ (if (dXY (o "inside")).1.1 < 0 then [("second" : Str)] else [])
theorem sds_drs (o : Own) : sds3 (drs o) = sds o := rfl
def S_sides_by : DS1 := fun vs M k => ∃ d : Dr3, vs = [.dat (dr3D d)] ∧ k (.dat (.tuple ((sds3 d).map .str))) M
theorem sc_sides_by : FnScope ["drifts", "inside_x", "inside_y", "first", "second"] ["drifts"] (defScope s_sides_by) := ⟨rfl, rfl, rfl, by decide +kernel, rfl, by decide +kernel, by decide +kernel⟩
theorem d_sides_by (T : Txt K mg C) {f : Addr} {fd : FuncData} (F : Fun K "sides_by" "sides_by" s_sides_by f fd) (hm : mg "sides_by" = some (.ref f)) (hb : Binds K fd ["drifts"] []) : Def P w K mg base "sides_by" 1 S_sides_by := by
  refine def_ok F hm hb sc_sides_by (fun ds M k h => ?_) (fun cdv A outer s H E ds M kk hl nd hr h => ?_)
  · obtain ⟨d, rfl, _⟩ := h; rfl
  · obtain ⟨d, rfl, q⟩ := h
    refine as_cons (as_asg ?_)
    walk_at "ax"
    refine ag_tup rfl rfl (ags_cons ?_)
    walk_at "ag"
    refine ags_cons ?_
    walk_at "ag"
    refine ags_nil ?_
    unfold sds3 at q
    generalize d.m = mm at q
    walk_at "set"
    refine ae_P (.dat (.tuple ((if mm.2.1 < 0 then [("first" : Str)] else []).map .str))) ?_ ?_
    · refine ae_if ?_
      walk_at "ax"
      refine ⟨fun h => ?_, fun h => ?_⟩
      · rw [if_pos (of_decide_eq_true h)]
        walk_at "ax"
        exact ⟨[_], rfl, Nat.le_of_ble_eq_true rfl, rfl, rfl⟩
      · rw [if_neg (of_decide_eq_false h)]
        walk_at "ax"
        exact ⟨[], rfl, Nat.le_of_ble_eq_true rfl, rfl, rfl⟩
    walk_at "set"
    refine ae_P (.dat (.tuple ((if mm.1.1 < 0 then [("second" : Str)] else []).map .str))) ?_ ?_
    · refine ae_if ?_
      walk_at "ax"
      refine ⟨fun h => ?_, fun h => ?_⟩
      · rw [if_pos (of_decide_eq_true h)]
        walk_at "ax"
        exact ⟨[_], rfl, Nat.le_of_ble_eq_true rfl, rfl, rfl⟩
      · rw [if_neg (of_decide_eq_false h)]
        walk_at "ax"
        exact ⟨[], rfl, Nat.le_of_ble_eq_true rfl, rfl, rfl⟩
    refine as_cons (as_ret (ae_catT ?_))
    walk_at "nm"
    walk_at "nm"
    refine ⟨_, _, rfl, rfl, ?_, ?_⟩
    · rw [List.length_map, List.length_map]
      split <;> split <;> decide
    · rw [← List.map_append]; exact q
def optS : Option Str → PyData
  | none => .none
  | some z => .str z
/-- the border of a book -/
def brd3 (d : Dr3) : Option Str :=
  if d.m.1.1 = 0 then some "x" else if d.m.2.1 = 0 then some "y" else if d.a.2.1 = 0 then some "first" else if d.b.1.1 = 0 then some "second"
  else if ("first" : Str) ∈ sds3 d ∧ (trn3 d).1.1 = 0 then some "first turn" else if ("second" : Str) ∈ sds3 d ∧ (trn3 d).2.1 = 0 then some "second turn" else none
def brd (o : Own) : Option Str :=
  if (dXY (o "inside")).1.1 = 0 then some "x" else if (dXY (o "inside")).2.1 = 0 then some "y" else if (dXY (o "first")).2.1 = 0 then some "first" else if (dXY (o "second")).1.1 = 0 then some "second"
  else if ("first" : Str) ∈ sds o ∧ (trn o).1.1 = 0 then some "first turn" else if ("second" : Str) ∈ sds o ∧ (trn o).2.1 = 0 then some "second turn" else none
theorem brd_drs (o : Own) : brd3 (drs o) = brd o := rfl
def S_border_by : DS1 := fun vs M k => ∃ d : Dr3, vs = [.dat (dr3D d)] ∧ Bd3 900 d ∧ k (.dat (optS (brd3 d))) M
theorem sc_border_by : FnScope ["drifts", "inside_x", "inside_y", "_", "first_y", "second_x", "first_turn", "second_turn", "sides"] ["drifts"] (defScope s_border_by) := ⟨rfl, rfl, rfl, by decide +kernel, rfl, by decide +kernel, by decide +kernel⟩
theorem d_border_by (T : Txt K mg C) (D_turns_by : Def P w K mg base "turns_by" 3 S_turns_by) (D_sides : Def P w K mg base "sides_by" 1 S_sides_by) {f : Addr} {fd : FuncData} (F : Fun K "border_by" "border_by" s_border_by f fd) (hm : mg "border_by" = some (.ref f)) (hb : Binds K fd ["drifts"] []) : Def P w K mg base "border_by" 4 S_border_by := by
  refine def_ok F hm hb sc_border_by (fun ds M k h => ?_) (fun cdv A outer s H E ds M kk hl nd hr h => ?_)
  · obtain ⟨d, rfl, _⟩ := h; rfl
  · obtain ⟨d, rfl, hd, q⟩ := h
    refine as_cons (as_asg ?_)
    walk_at "nm"
    refine ag_tup rfl rfl (ags_cons (ag_tup rfl rfl (ags_cons ?_)))
    walk_at "ag"
    refine ags_cons ?_
    walk_at "ag"
    refine ags_nil (ags_cons (ag_tup rfl rfl (ags_cons ?_)))
    walk_at "ag"
    refine ags_cons ?_
    walk_at "ag"
    refine ags_nil (ags_cons (ag_tup rfl rfl (ags_cons ?_)))
    walk_at "ag"
    refine ags_cons ?_
    walk_at "ag"
    refine ags_nil (ags_nil ?_)
    unfold brd3 at q
    refine as_cons (as_ifP (decide (d.m.1.1 = 0)) (at_eqs ?_) (fun h => ?_) fun h => as_nil ?_)
    · walk_at "ax"
      exact ⟨rfl, rfl⟩
    · refine as_cons (as_ret ?_)
      walk_at "ax"
      rw [if_pos (of_decide_eq_true h)] at q; exact q
    rw [if_neg (of_decide_eq_false h)] at q
    refine as_cons (as_ifP (decide (d.m.2.1 = 0)) (at_eqs ?_) (fun h => ?_) fun h => as_nil ?_)
    · walk_at "ax"
      exact ⟨rfl, rfl⟩
    · refine as_cons (as_ret ?_)
      walk_at "ax"
      rw [if_pos (of_decide_eq_true h)] at q; exact q
    rw [if_neg (of_decide_eq_false h)] at q
    refine as_cons (as_ifP (decide (d.a.2.1 = 0)) (at_eqs ?_) (fun h => ?_) fun h => as_nil ?_)
    · walk_at "ax"
      exact ⟨rfl, rfl⟩
    · refine as_cons (as_ret ?_)
      walk_at "ax"
      rw [if_pos (of_decide_eq_true h)] at q; exact q
    rw [if_neg (of_decide_eq_false h)] at q
    refine as_cons (as_ifP (decide (d.b.1.1 = 0)) (at_eqs ?_) (fun h => ?_) fun h => as_nil ?_)
    · walk_at "ax"
      exact ⟨rfl, rfl⟩
    · refine as_cons (as_ret ?_)
      walk_at "ax"
      rw [if_pos (of_decide_eq_true h)] at q; exact q
    rw [if_neg (of_decide_eq_false h)] at q
    refine as_cons (as_asg (ae_call D_turns_by hr ?_))
    walk_at "ax"
    refine ⟨d, rfl, hd, ?_⟩
    refine ag_tup rfl rfl (ags_cons ?_)
    walk_at "ag"
    refine ags_cons ?_
    walk_at "ag"
    refine ags_nil ?_
    walk_at "set"
    refine ae_call D_sides (hr.mono (by decide)) ?_
    walk_at "ax"
    refine ⟨d, rfl, ?_⟩
    have inS : ∀ {z : Str} {n : Int}, (decide (z ∈ sds3 d) && decide (n = 0)) = true ↔ (z ∈ sds3 d ∧ n = 0) := fun {z n} => by rw [Bool.and_eq_true, decide_eq_true_eq, decide_eq_true_eq]
    refine as_cons (as_ifP (decide (("first" : Str) ∈ sds3 d) && decide ((trn3 d).1.1 = 0)) (at_w (aw_and (at_inS ?_))) (fun h => ?_) fun h => as_nil ?_)
    · walk_at "ax"
      refine ⟨_, sds3 d, rfl, rfl, fun h => aw_and1 (at_eqs ?_), fun h => ?_⟩
      · walk_at "ax"
        rw [h]; exact ⟨rfl, rfl⟩
      · rw [h]; exact ⟨rfl, rfl⟩
    · refine as_cons (as_ret ?_)
      walk_at "ax"
      rw [if_pos (inS.mp h)] at q; exact q
    rw [if_neg (fun z => by rw [inS.mpr z] at h; cases h)] at q
    refine as_cons (as_ifP (decide (("second" : Str) ∈ sds3 d) && decide ((trn3 d).2.1 = 0)) (at_w (aw_and (at_inS ?_))) (fun h => ?_) fun h => as_nil ?_)
    · walk_at "ax"
      refine ⟨_, sds3 d, rfl, rfl, fun h => aw_and1 (at_eqs ?_), fun h => ?_⟩
      · walk_at "ax"
        rw [h]; exact ⟨rfl, rfl⟩
      · rw [h]; exact ⟨rfl, rfl⟩
    · refine as_cons (as_ret ?_)
      walk_at "ax"
      rw [if_pos (inS.mp h)] at q; exact q
    rw [if_neg (fun z => by rw [inS.mpr z] at h; cases h)] at q
    refine as_cons (as_ret ?_)
    walk_at "ax"
    exact q
def S_border (C : Addr) : DS1 := fun vs M k => ∃ (t : Str) (o : Own), vs = [.obj C (bkF t o)] ∧ GoodO o ∧ k (.dat (optS (brd o))) M
theorem sc_border : FnScope ["book"] ["book"] (defScope s_border) := ⟨rfl, rfl, rfl, by decide +kernel, rfl, by decide +kernel, by decide +kernel⟩
theorem d_border (T : Txt K mg C) (D_drifts_of : Def P w K mg base "drifts_of" 6 (S_drifts_of C)) (D_border_by : Def P w K mg base "border_by" 4 S_border_by) {f : Addr} {fd : FuncData} (F : Fun K "border" "border" s_border f fd) (hm : mg "border" = some (.ref f)) (hb : Binds K fd ["book"] []) : Def P w K mg base "border" 8 (S_border C) := by
  refine def_ok F hm hb sc_border (fun ds M k h => ?_) (fun cdv A outer s H E ds M kk hl nd hr h => ?_)
  · obtain ⟨t, o, rfl, _⟩ := h; rfl
  · obtain ⟨t, o, rfl, ho, q⟩ := h
    refine as_cons (as_ret (ae_call D_border_by (hr.mono (by decide)) (aa_cons (ae_call D_drifts_of (hr.mono (by decide)) ?_))))
    walk_at "ax"
    exact ⟨t, o, rfl, ho, aa_nil ⟨_, rfl, (drs_bd ho).mono (by decide), q⟩⟩
end B

set_option Elab.async false
set_option linter.all false
set_option maxRecDepth 100000
set_option maxHeartbeats 4000000
namespace B
open PySem PySem.Spec PyProof.Rows L2 A
local macro_rules | `(tactic| walk_at "nm") => `(tactic| refine ae_nameT (by assumption) rfl ?_)
local macro_rules | `(tactic| walk_at "ag") => `(tactic| refine ag_nameT (by assumption) (by assumption) ?_)
local macro_rules | `(tactic| walk_at "agc") => `(tactic| (refine agc_nameU (by assumption) (by assumption) ?_ ?_; · decide))
local macro_rules | `(tactic| walk_at "set") => `(tactic| refine as_setT (by assumption) (by assumption) ?_)
local macro_rules | `(tactic| walk_at "ax1") => `(tactic| first
  | ((with_reducible show AE _ (Expr.Name _ _) _ _ _); walk_at "nm")
  | ((with_reducible show AA _ (_ :: _) _ _ _); refine aa_cons ?_)
  | ((with_reducible show AA _ [] _ _ _); refine aa_nil ?_)
  | ((with_reducible show AE _ (Expr.Constant _ _ _) _ _ _); first | refine ae_int ?_ | refine ae_str ?_ | refine ae_bl ?_ | refine ae_non ?_)
  | ((with_reducible show AE _ (Expr.BinOp _ Operator.Add _ _) _ _ _); refine ae_add ?_)
  | ((with_reducible show AE _ (Expr.BinOp _ Operator.Sub _ _) _ _ _); refine ae_sub ?_)
  | ((with_reducible show AE _ (Expr.BinOp _ Operator.Mult _ _) _ _ _); refine ae_mul ?_)
  | ((with_reducible show AE _ (Expr.BinOp _ Operator.FloorDiv _ _) _ _ _); refine ae_fdiv ?_)
  | ((with_reducible show AE _ (Expr.BinOp _ Operator.Mod _ _) _ _ _); refine ae_mod ?_)
  | ((with_reducible show AE _ (Expr.Compare _ [CmpOp.Lt] _ _) _ _ _); refine ae_lt ?_)
  | ((with_reducible show AE _ (Expr.Compare _ [CmpOp.LtE] _ _) _ _ _); refine ae_le ?_)
  | ((with_reducible show AE _ (Expr.Compare _ [CmpOp.Gt] _ _) _ _ _); refine ae_gt ?_)
  | ((with_reducible show AE _ (Expr.Compare _ [CmpOp.GtE] _ _) _ _ _); refine ae_ge ?_)
  | ((with_reducible show AE _ (Expr.Compare _ [CmpOp.Eq] _ _) _ _ _); refine ae_eqs ?_)
  | ((with_reducible show AE _ (Expr.Compare _ [CmpOp.NotEq] _ _) _ _ _); refine ae_nes ?_)
  | ((with_reducible show AT _ (Expr.Compare _ [CmpOp.Eq] _ _) _ _ _); refine at_eqs ?_)
  | ((with_reducible show AT _ (Expr.Compare _ [CmpOp.NotEq] _ _) _ _ _); refine at_nes ?_)
  | ((with_reducible show AT _ (Expr.Compare _ [CmpOp.Lt] _ _) _ _ _); refine at_lt ?_)
  | ((with_reducible show AT _ (Expr.Compare _ [CmpOp.LtE] _ _) _ _ _); refine at_le ?_)
  | ((with_reducible show AT _ (Expr.Compare _ [CmpOp.Gt] _ _) _ _ _); refine at_gt ?_)
  | ((with_reducible show AT _ (Expr.Compare _ [CmpOp.GtE] _ _) _ _ _); refine at_ge ?_)
  | ((with_reducible show AT _ (Expr.UnaryOp UnaryOp.Not _ _) _ _ _); refine at_not ?_)
  | ((with_reducible show AT _ (Expr.Call _ _ _ _) _ _ _); refine at_val ?_)
  | ((with_reducible show AR _ rEq (DV.dat (PyData.int _)) (DV.dat (PyData.int _)) _ _); refine ar_eqI ?_)
  | ((with_reducible show AR _ rNe (DV.dat (PyData.int _)) (DV.dat (PyData.int _)) _ _); refine ar_neI ?_)
  | ((with_reducible show AR _ rEq (DV.dat (PyData.str _)) (DV.dat (PyData.str _)) _ _); refine ar_eqS ?_)
  | ((with_reducible show AR _ rNe (DV.dat (PyData.str _)) (DV.dat (PyData.str _)) _ _); refine ar_neS ?_)
  | ((with_reducible show ∃ c, DV.dat (PyData.bool _) = DV.dat (PyData.bool c) ∧ _); refine ⟨_, rfl, ?_⟩)
  | ((with_reducible show AE _ (Expr.Tuple _ _ _) _ _ _); refine ae_tup ?_)
  | ((with_reducible show AE _ (Expr.Subscript _ _ _) _ _ _); refine ae_ixT ?_)
  | ((with_reducible show ∃ i j, DV.dat (PyData.int _) = DV.dat (PyData.int i) ∧ DV.dat (PyData.int _) = DV.dat (PyData.int j) ∧ _); refine ⟨_, _, rfl, rfl, ?_⟩)
  | ((with_reducible show ∃ xs i d, DV.dat (PyData.tuple _) = DV.dat (PyData.tuple xs) ∧ _); refine ⟨_, _, _, rfl, rfl, rfl, ?_⟩))
local macro_rules | `(tactic| walk_at "ax") => `(tactic| repeat (walk_at "ax1"))
local macro_rules | `(tactic| walk_at "ay1") => `(tactic| first
  | walk_at "ax1"
  | ((with_reducible show AE _ (Expr.UnaryOp UnaryOp.USub _ _) _ _ _); refine ae_neg ?_)
  | ((with_reducible show ∃ i, DV.dat (PyData.int _) = DV.dat (PyData.int i) ∧ _); refine ⟨_, rfl, ?_⟩)
  | ((with_reducible show ∃ xs : List PyData, [_, _] = List.map DV.dat xs ∧ _); refine ⟨[_, _], rfl, Nat.le_of_ble_eq_true rfl, ?_⟩)
  | ((with_reducible show ∃ xs : List PyData, [_, _, _] = List.map DV.dat xs ∧ _); refine ⟨[_, _, _], rfl, Nat.le_of_ble_eq_true rfl, ?_⟩))
local macro_rules | `(tactic| walk_at "ay") => `(tactic| repeat (walk_at "ay1"))
variable {P : Program} {w : World} {K : PySem.W.Frag} {mg : Str → Option Value} {base : Heap} {C : Addr}
open TL Wd
set_option exponentiation.threshold 10000
open Fr (Bd)
theorem sc__law_frac_less : FnScope ["one", "other"] ["one", "other"] (defScope s__law_frac_less) := ⟨rfl, rfl, rfl, by decide +kernel, rfl, by decide +kernel, by decide +kernel⟩
theorem d__law_frac_less (T : Txt K mg C) (D_frac : Def P w K mg base "_law_frac" 2 S_frac) {f : Addr} {fd : FuncData} (F : Fun K "_law_frac_less" "_law_frac_less" s__law_frac_less f fd) (hm : mg "_law_frac_less" = some (.ref f)) (hb : Binds K fd ["one", "other"] []) : Def P w K mg base "_law_frac_less" 3 S_less := by
  refine def_ok F hm hb sc__law_frac_less (fun ds M k h => ?_) (fun cdv A outer s H E ds M kk hl nd hr h => ?_)
  · obtain ⟨f, g, rfl, _⟩ := h; rfl
  · obtain ⟨f, g, rfl, ⟨f0, f1, f2⟩, ⟨g0, g1, g2⟩, q⟩ := h
    have cm : ∀ {i j : Int}, i.natAbs < 2 ^ 2000 → j.natAbs < 2 ^ 2000 → CMulW i j := fun hi hj => wide_mul hi hj (by decide) (by decide) (by decide)
    refine as_cons (as_ret (ae_call D_frac hr ?_))
    walk_at "ax"
    refine ⟨cm f1 g2, ?_⟩
    walk_at "ax"
    refine ⟨cm g1 f2, ?_⟩
    walk_at "ax"
    refine ⟨cm f2 g2, ?_⟩
    walk_at "ax"
    exact ⟨_, _, rfl, Int.mul_pos f0 g0, Nat.lt_of_lt_of_le (wide_lt f2 g2) (Nat.pow_le_pow_right (by decide) (by decide)), q⟩
theorem sc__law_frac_times : FnScope ["one", "other"] ["one", "other"] (defScope s__law_frac_times) := ⟨rfl, rfl, rfl, by decide +kernel, rfl, by decide +kernel, by decide +kernel⟩
theorem d__law_frac_times (T : Txt K mg C) (D_frac : Def P w K mg base "_law_frac" 2 S_frac) {f : Addr} {fd : FuncData} (F : Fun K "_law_frac_times" "_law_frac_times" s__law_frac_times f fd) (hm : mg "_law_frac_times" = some (.ref f)) (hb : Binds K fd ["one", "other"] []) : Def P w K mg base "_law_frac_times" 3 S_times := by
  refine def_ok F hm hb sc__law_frac_times (fun ds M k h => ?_) (fun cdv A outer s H E ds M kk hl nd hr h => ?_)
  · obtain ⟨f, g, rfl, _⟩ := h; rfl
  · obtain ⟨f, g, rfl, ⟨f0, f1, f2⟩, ⟨g0, g1, g2⟩, q⟩ := h
    have cm : ∀ {i j : Int}, i.natAbs < 2 ^ 2000 → j.natAbs < 2 ^ 2000 → CMulW i j := fun hi hj => wide_mul hi hj (by decide) (by decide) (by decide)
    refine as_cons (as_ret (ae_call D_frac hr ?_))
    walk_at "ax"
    refine ⟨cm f1 g1, ?_⟩
    walk_at "ax"
    refine ⟨cm f2 g2, ?_⟩
    walk_at "ax"
    exact ⟨_, _, rfl, Int.mul_pos f0 g0, Nat.lt_of_lt_of_le (wide_lt f2 g2) (Nat.pow_le_pow_right (by decide) (by decide)), q⟩
def S_bdrift : DS1 := fun vs M k => ∃ (p : Addr) (o : Own) (r : Str), vs = [.raw (.ref p), .dat (.str r)] ∧ M p = some (.dK (ownK o)) ∧ GoodO o ∧ r ∈ regs ∧ k (.dat (pairOf (dXY (o r)))) M
theorem sc__law_book_drift : FnScope ["own", "region", "rows", "means", "place", "row"] ["own", "region"] (defScope s__law_book_drift) := ⟨rfl, rfl, rfl, by decide +kernel, rfl, by decide +kernel, by decide +kernel⟩
def axD (xs : List Step) : DV → DV
  | .dat (.int n) => if n = 0 then frV (dXY xs).1 else frV (dXY xs).2
  | d => d
theorem d__law_book_drift (T : Txt K mg C) (D_ftimes : Def P w K mg base "_law_frac_times" 3 S_times) (D_fsum : Def P w K mg base "_law_frac_sum" 4 S_fsum) {f : Addr} {fd : FuncData} (F : Fun K "_law_book_drift" "_law_book_drift" s__law_book_drift f fd) (hm : mg "_law_book_drift" = some (.ref f)) (hb : Binds K fd ["own", "region"] []) : Def P w K mg base "_law_book_drift" 5 S_bdrift := by
  refine def_ok F hm hb sc__law_book_drift (fun ds M k h => ?_) (fun cdv A outer s H E ds M kk hl nd hr h => ?_)
  · obtain ⟨p, o, r, rfl, _⟩ := h; rfl
  · obtain ⟨p, o, r, rfl, hM, ho, hin, q⟩ := h
    obtain ⟨k1, k2⟩ := may_key ho hin
    obtain ⟨x1, x2, x3⟩ := mulK_ok (ho.r r hin) k1
    obtain ⟨y1, y2, y3⟩ := mulK_ok (ho.r r hin) k2
    have hlen := ho.len r hin
    have hsm := (ho.r r hin).sm
    have one : ∀ {i : Int}, i.natAbs ≤ 3 → Sm (i, 1) := fun h => ⟨by show (0 : Int) < 1; decide, Nat.lt_of_le_of_lt h (by decide +kernel), by show (1 : Int).natAbs < 2 ^ 2000; decide +kernel⟩
    walk_at "set"
    refine ae_dget (hu1 hr) ?_
    walk_at "nm"
    walk_at "nm"
    refine ⟨p, _, r, _, rfl, rfl, hM, own_val hin, ?_⟩
    refine as_cons (as_setLcP 3 rfl nd (blkOk_by (own := [("place", 4)]) rfl) (axD (o r)) (ai_tup ?_))
    walk_at "ay"
    refine ⟨_, rfl, fun _ _ _ => trivial, Nat.lt_of_lt_of_le (m := 3) (Nat.le_of_ble_eq_true rfl) (by decide), fun d M3 hd hle3 s H C cl fp => ?_, fun D hD => ?_⟩
    · obtain ⟨y, hy, rfl⟩ := List.mem_map.mp hd
      walk_at "agc"
      intro s H C cl fp
      refine ae_call D_fsum hr (aa_cons ?_)
      simp only [List.mem_cons, List.not_mem_nil, or_false] at hy
      rcases hy with rfl | rfl
      · refine ae_wk (ae_lcP rfl nd (blkOk_by (own := [("row", 5)]) rfl) (mulD fun s => s.1) (ai_list ?_))
        walk_at "ax"
        refine ⟨_, rfl, fun _ _ _ => trivial, by rw [List.length_map, List.length_map]; omega, fun d M4 hd hle4 s H C cl fp => ?_, fun D hD => ?_⟩
        · obtain ⟨y, hy, rfl⟩ := List.mem_map.mp hd
          obtain ⟨st, hst, rfl⟩ := List.mem_map.mp hy
          walk_at "agc"
          intro s H C cl fp
          refine ae_call D_ftimes (hr.mono (by decide)) ?_
          walk_at "ay"
          exact ⟨(st.1, 1), st.2.2, rfl, one (k1 st hst), hsm st hst, rfl, rfl⟩
        · have e : (((o r).map stD).map DV.dat).map (mulD fun s => s.1) = ((mulK (fun s => s.1) (o r)).map frD).map .dat := by
            rw [mulK, List.map_map, List.map_map, List.map_map, List.map_map]; rfl
          rw [e]
          exact ⟨_, _, wk_new hD, aa_nil ⟨_, _, rfl, .lst _, x1, x2, rfl, rfl⟩⟩
      · refine ae_wk (ae_lcP rfl nd (blkOk_by (own := [("row", 5)]) rfl) (mulD fun s => s.2.1) (ai_list ?_))
        walk_at "ax"
        refine ⟨_, rfl, fun _ _ _ => trivial, by rw [List.length_map, List.length_map]; omega, fun d M4 hd hle4 s H C cl fp => ?_, fun D hD => ?_⟩
        · obtain ⟨y, hy, rfl⟩ := List.mem_map.mp hd
          obtain ⟨st, hst, rfl⟩ := List.mem_map.mp hy
          walk_at "agc"
          intro s H C cl fp
          refine ae_call D_ftimes (hr.mono (by decide)) ?_
          walk_at "ay"
          exact ⟨(st.2.1, 1), st.2.2, rfl, one (k2 st hst), hsm st hst, rfl, rfl⟩
        · have e : (((o r).map stD).map DV.dat).map (mulD fun s => s.2.1) = ((mulK (fun s => s.2.1) (o r)).map frD).map .dat := by
            rw [mulK, List.map_map, List.map_map, List.map_map, List.map_map]; rfl
          rw [e]
          exact ⟨_, _, wk_new hD, aa_nil ⟨_, _, rfl, .lst _, y1, y2, rfl, rfl⟩⟩
    · have e : (([PyData.int 0, PyData.int 1].map DV.dat).map (axD (o r))) = [frD (dXY (o r)).1, frD (dXY (o r)).2].map DV.dat := rfl
      rw [e]
      refine ass_freeze 3 rfl upM_same ?_
      rw [freeze_up hD]
      refine as_cons (as_ret (ae_tup (aa_cons (ae_ixL ?_))))
      walk_at "ax"
      refine ⟨_, _, _, rfl, rfl, rfl, aa_cons (ae_ixL ?_)⟩
      walk_at "ax"
      exact ⟨_, _, _, rfl, rfl, rfl, aa_nil ⟨[_, _], rfl, Nat.le_of_ble_eq_true rfl, q⟩⟩
end B

set_option Elab.async false
set_option linter.all false
set_option maxRecDepth 100000
set_option maxHeartbeats 4000000
namespace B
open PySem PySem.Spec PyProof.Rows L2 A
local macro_rules | `(tactic| walk_at "nm") => `(tactic| refine ae_nameT (by assumption) rfl ?_)
local macro_rules | `(tactic| walk_at "ag") => `(tactic| refine ag_nameT (by assumption) (by assumption) ?_)
local macro_rules | `(tactic| walk_at "agc") => `(tactic| (refine agc_nameU (by assumption) (by assumption) ?_ ?_; · decide))
local macro_rules | `(tactic| walk_at "set") => `(tactic| refine as_setT (by assumption) (by assumption) ?_)
local macro_rules | `(tactic| walk_at "ax1") => `(tactic| first
  | ((with_reducible show AE _ (Expr.Name _ _) _ _ _); walk_at "nm")
  | ((with_reducible show AA _ (_ :: _) _ _ _); refine aa_cons ?_)
  | ((with_reducible show AA _ [] _ _ _); refine aa_nil ?_)
  | ((with_reducible show AE _ (Expr.Constant _ _ _) _ _ _); first | refine ae_int ?_ | refine ae_str ?_ | refine ae_bl ?_ | refine ae_non ?_)
  | ((with_reducible show AE _ (Expr.BinOp _ Operator.Add _ _) _ _ _); refine ae_add ?_)
  | ((with_reducible show AE _ (Expr.BinOp _ Operator.Sub _ _) _ _ _); refine ae_sub ?_)
  | ((with_reducible show AE _ (Expr.BinOp _ Operator.Mult _ _) _ _ _); refine ae_mul ?_)
  | ((with_reducible show AE _ (Expr.BinOp _ Operator.FloorDiv _ _) _ _ _); refine ae_fdiv ?_)
  | ((with_reducible show AE _ (Expr.BinOp _ Operator.Mod _ _) _ _ _); refine ae_mod ?_)
  | ((with_reducible show AE _ (Expr.Compare _ [CmpOp.Lt] _ _) _ _ _); refine ae_lt ?_)
  | ((with_reducible show AE _ (Expr.Compare _ [CmpOp.LtE] _ _) _ _ _); refine ae_le ?_)
  | ((with_reducible show AE _ (Expr.Compare _ [CmpOp.Gt] _ _) _ _ _); refine ae_gt ?_)
  | ((with_reducible show AE _ (Expr.Compare _ [CmpOp.GtE] _ _) _ _ _); refine ae_ge ?_)
  | ((with_reducible show AE _ (Expr.Compare _ [CmpOp.Eq] _ _) _ _ _); refine ae_eqs ?_)
  | ((with_reducible show AE _ (Expr.Compare _ [CmpOp.NotEq] _ _) _ _ _); refine ae_nes ?_)
  | ((with_reducible show AT _ (Expr.Compare _ [CmpOp.Eq] _ _) _ _ _); refine at_eqs ?_)
  | ((with_reducible show AT _ (Expr.Compare _ [CmpOp.NotEq] _ _) _ _ _); refine at_nes ?_)
  | ((with_reducible show AT _ (Expr.Compare _ [CmpOp.Lt] _ _) _ _ _); refine at_lt ?_)
  | ((with_reducible show AT _ (Expr.Compare _ [CmpOp.LtE] _ _) _ _ _); refine at_le ?_)
  | ((with_reducible show AT _ (Expr.Compare _ [CmpOp.Gt] _ _) _ _ _); refine at_gt ?_)
  | ((with_reducible show AT _ (Expr.Compare _ [CmpOp.GtE] _ _) _ _ _); refine at_ge ?_)
  | ((with_reducible show AT _ (Expr.UnaryOp UnaryOp.Not _ _) _ _ _); refine at_not ?_)
  | ((with_reducible show AT _ (Expr.Call _ _ _ _) _ _ _); refine at_val ?_)
  | ((with_reducible show AR _ rEq (DV.dat (PyData.int _)) (DV.dat (PyData.int _)) _ _); refine ar_eqI ?_)
  | ((with_reducible show AR _ rNe (DV.dat (PyData.int _)) (DV.dat (PyData.int _)) _ _); refine ar_neI ?_)
  | ((with_reducible show AR _ rEq (DV.dat (PyData.str _)) (DV.dat (PyData.str _)) _ _); refine ar_eqS ?_)
  | ((with_reducible show AR _ rNe (DV.dat (PyData.str _)) (DV.dat (PyData.str _)) _ _); refine ar_neS ?_)
  | ((with_reducible show ∃ c, DV.dat (PyData.bool _) = DV.dat (PyData.bool c) ∧ _); refine ⟨_, rfl, ?_⟩)
  | ((with_reducible show AE _ (Expr.Tuple _ _ _) _ _ _); refine ae_tup ?_)
  | ((with_reducible show AE _ (Expr.Subscript _ _ _) _ _ _); refine ae_ixT ?_)
  | ((with_reducible show ∃ i j, DV.dat (PyData.int _) = DV.dat (PyData.int i) ∧ DV.dat (PyData.int _) = DV.dat (PyData.int j) ∧ _); refine ⟨_, _, rfl, rfl, ?_⟩)
  | ((with_reducible show ∃ xs i d, DV.dat (PyData.tuple _) = DV.dat (PyData.tuple xs) ∧ _); refine ⟨_, _, _, rfl, rfl, rfl, ?_⟩))
local macro_rules | `(tactic| walk_at "ax") => `(tactic| repeat (walk_at "ax1"))
local macro_rules | `(tactic| walk_at "ay1") => `(tactic| first
  | walk_at "ax1"
  | ((with_reducible show AE _ (Expr.UnaryOp UnaryOp.USub _ _) _ _ _); refine ae_neg ?_)
  | ((with_reducible show ∃ i, DV.dat (PyData.int _) = DV.dat (PyData.int i) ∧ _); refine ⟨_, rfl, ?_⟩)
  | ((with_reducible show ∃ xs : List PyData, [_, _] = List.map DV.dat xs ∧ _); refine ⟨[_, _], rfl, Nat.le_of_ble_eq_true rfl, ?_⟩)
  | ((with_reducible show ∃ xs : List PyData, [_, _, _] = List.map DV.dat xs ∧ _); refine ⟨[_, _, _], rfl, Nat.le_of_ble_eq_true rfl, ?_⟩))
local macro_rules | `(tactic| walk_at "ay") => `(tactic| repeat (walk_at "ay1"))
variable {P : Program} {w : World} {K : PySem.W.Frag} {mg : Str → Option Value} {base : Heap} {C : Addr}
open TL Wd
set_option exponentiation.threshold 10000
open Fr (Bd)
def S_bturns : DS1 := fun vs M k => ∃ (p : Addr) (o : Own), vs = [.raw (.ref p)] ∧ M p = some (.dK (ownK o)) ∧ GoodO o ∧ k (.dat (pairOf (trn o))) M
theorem sc__law_book_turns : FnScope ["own", "mx", "my", "ax", "ay", "bx", "by", "first", "region"] ["own"] (defScope s__law_book_turns) := ⟨rfl, rfl, rfl, by decide +kernel, rfl, by decide +kernel, by decide +kernel⟩
abbrev drD (o : Own) : DV → DV
  | .dat (.str r) => .dat (pairOf (dXY (o r)))
  | d => d
theorem d__law_book_turns (T : Txt K mg C) (D_bdrift : Def P w K mg base "_law_book_drift" 5 S_bdrift) (D_ftimes : Def P w K mg base "_law_frac_times" 3 S_times) (D_fless : Def P w K mg base "_law_frac_less" 3 S_less) {f : Addr} {fd : FuncData} (F : Fun K "_law_book_turns" "_law_book_turns" s__law_book_turns f fd) (hm : mg "_law_book_turns" = some (.ref f)) (hb : Binds K fd ["own"] []) : Def P w K mg base "_law_book_turns" 6 S_bturns := by
  refine def_ok F hm hb sc__law_book_turns (fun ds M k h => ?_) (fun cdv A outer s H E ds M kk hl nd hr h => ?_)
  · obtain ⟨p, o, rfl, _⟩ := h; rfl
  · obtain ⟨p, o, rfl, hM, ho, q⟩ := h
    have r1 : ("inside" : Str) ∈ regs := by simp [regs]
    have r2 : ("first" : Str) ∈ regs := by simp [regs]
    have r3 : ("second" : Str) ∈ regs := by simp [regs]
    obtain ⟨m1, m2⟩ := dxy_bd ho r1
    obtain ⟨a1, a2⟩ := dxy_bd ho r2
    obtain ⟨b1, b2⟩ := dxy_bd ho r3
    refine as_cons (as_asg (ae_wk (ae_lcP rfl nd (blkOk_by (own := [("region", 8)]) rfl) (drD o) (ai_tup ?_))))
    walk_at "ay"
    refine ⟨_, rfl, fun _ _ _ => trivial, Nat.lt_of_lt_of_le (m := 4) (Nat.le_of_ble_eq_true rfl) (by decide), fun d M3 hd hle3 s H C cl fp => ?_, fun D hD => ?_⟩
    · obtain ⟨y, hy, rfl⟩ := List.mem_map.mp hd
      obtain ⟨r, hr', rfl⟩ : ∃ r ∈ regs, y = .str r := by
        simp only [List.mem_cons, List.not_mem_nil, or_false] at hy
        rcases hy with rfl | rfl | rfl
        · exact ⟨_, r1, rfl⟩
        · exact ⟨_, r2, rfl⟩
        · exact ⟨_, r3, rfl⟩
      walk_at "agc"
      intro s H C cl fp
      refine ae_call D_bdrift hr ?_
      walk_at "ax"
      exact ⟨p, o, r, rfl, hle3 _ _ hM, ho, hr', rfl, rfl⟩
    · have e : (([PyData.str "inside", PyData.str "first", PyData.str "second"].map DV.dat).map (drD o)) = [pairOf (dXY (o "inside")), pairOf (dXY (o "first")), pairOf (dXY (o "second"))].map DV.dat := rfl
      rw [e]
      refine ⟨_, _, wk_new hD, ?_⟩
      refine ag_unl rfl (.lst _) rfl (fun _ e => by cases e) (ags_cons (ag_tup rfl rfl (ags_cons ?_)))
      walk_at "ag"
      refine ags_cons ?_
      walk_at "ag"
      refine ags_nil (ags_cons (ag_tup rfl rfl (ags_cons ?_)))
      walk_at "ag"
      refine ags_cons ?_
      walk_at "ag"
      refine ags_nil (ags_cons (ag_tup rfl rfl (ags_cons ?_)))
      walk_at "ag"
      refine ags_cons ?_
      walk_at "ag"
      refine ags_nil (ags_nil ?_)
      have q : kk (.dat (pairOf (Fr.sub (Fr.mul (dXY (o "first")).2 (dXY (o "inside")).1) (Fr.mul (dXY (o "first")).1 (dXY (o "inside")).2), Fr.sub (Fr.mul (dXY (o "second")).1 (dXY (o "inside")).2) (Fr.mul (dXY (o "second")).2 (dXY (o "inside")).1)))) M := q
      walk_at "set"
      refine ae_call D_fless (hr.mono (by decide)) (aa_cons (ae_call D_ftimes (hr.mono (by decide)) ?_))
      walk_at "ax"
      refine ⟨_, _, rfl, a2.sm' , m1.sm', aa_cons (ae_call D_ftimes (hr.mono (by decide)) ?_)⟩
      walk_at "ax"
      refine ⟨_, _, rfl, a1.sm', m2.sm', aa_nil ⟨_, _, rfl, Bd.sm (a2.mul m1) (by decide), Bd.sm (a1.mul m2) (by decide), ?_⟩⟩
      refine as_cons (as_ret (ae_tup (aa_cons ?_)))
      walk_at "nm"
      refine aa_cons (ae_call D_fless (hr.mono (by decide)) (aa_cons (ae_call D_ftimes (hr.mono (by decide)) ?_)))
      walk_at "ax"
      refine ⟨_, _, rfl, b1.sm' , m2.sm', aa_cons (ae_call D_ftimes (hr.mono (by decide)) ?_)⟩
      walk_at "ax"
      refine ⟨_, _, rfl, b2.sm', m1.sm', aa_nil ⟨_, _, rfl, Bd.sm (b1.mul m2) (by decide), Bd.sm (b2.mul m1) (by decide), ?_⟩⟩
      exact aa_nil ⟨[_, _], rfl, Nat.le_of_ble_eq_true rfl, q⟩
end B

set_option Elab.async false
set_option linter.all false
set_option maxRecDepth 100000
set_option maxHeartbeats 4000000
namespace B
open PySem PySem.Spec PyProof.Rows L2 A
local macro_rules | `(tactic| walk_at "nm") => `(tactic| refine ae_nameT (by assumption) rfl ?_)
local macro_rules | `(tactic| walk_at "ag") => `(tactic| refine ag_nameT (by assumption) (by assumption) ?_)
local macro_rules | `(tactic| walk_at "agc") => `(tactic| (refine agc_nameU (by assumption) (by assumption) ?_ ?_; · decide))
local macro_rules | `(tactic| walk_at "set") => `(tactic| refine as_setT (by assumption) (by assumption) ?_)
local macro_rules | `(tactic| walk_at "ax1") => `(tactic| first
  | ((with_reducible show AE _ (Expr.Name _ _) _ _ _); walk_at "nm")
  | ((with_reducible show AA _ (_ :: _) _ _ _); refine aa_cons ?_)
  | ((with_reducible show AA _ [] _ _ _); refine aa_nil ?_)
  | ((with_reducible show AE _ (Expr.Constant _ _ _) _ _ _); first | refine ae_int ?_ | refine ae_str ?_ | refine ae_bl ?_ | refine ae_non ?_)
  | ((with_reducible show AE _ (Expr.BinOp _ Operator.Add _ _) _ _ _); refine ae_add ?_)
  | ((with_reducible show AE _ (Expr.BinOp _ Operator.Sub _ _) _ _ _); refine ae_sub ?_)
  | ((with_reducible show AE _ (Expr.BinOp _ Operator.Mult _ _) _ _ _); refine ae_mul ?_)
  | ((with_reducible show AE _ (Expr.BinOp _ Operator.FloorDiv _ _) _ _ _); refine ae_fdiv ?_)
  | ((with_reducible show AE _ (Expr.BinOp _ Operator.Mod _ _) _ _ _); refine ae_mod ?_)
  | ((with_reducible show AE _ (Expr.Compare _ [CmpOp.Lt] _ _) _ _ _); refine ae_lt ?_)
  | ((with_reducible show AE _ (Expr.Compare _ [CmpOp.LtE] _ _) _ _ _); refine ae_le ?_)
  | ((with_reducible show AE _ (Expr.Compare _ [CmpOp.Gt] _ _) _ _ _); refine ae_gt ?_)
  | ((with_reducible show AE _ (Expr.Compare _ [CmpOp.GtE] _ _) _ _ _); refine ae_ge ?_)
  | ((with_reducible show AE _ (Expr.Compare _ [CmpOp.Eq] _ _) _ _ _); refine ae_eqs ?_)
  | ((with_reducible show AE _ (Expr.Compare _ [CmpOp.NotEq] _ _) _ _ _); refine ae_nes ?_)
  | ((with_reducible show AT _ (Expr.Compare _ [CmpOp.Eq] _ _) _ _ _); refine at_eqs ?_)
  | ((with_reducible show AT _ (Expr.Compare _ [CmpOp.NotEq] _ _) _ _ _); refine at_nes ?_)
  | ((with_reducible show AT _ (Expr.Compare _ [CmpOp.Lt] _ _) _ _ _); refine at_lt ?_)
  | ((with_reducible show AT _ (Expr.Compare _ [CmpOp.LtE] _ _) _ _ _); refine at_le ?_)
  | ((with_reducible show AT _ (Expr.Compare _ [CmpOp.Gt] _ _) _ _ _); refine at_gt ?_)
  | ((with_reducible show AT _ (Expr.Compare _ [CmpOp.GtE] _ _) _ _ _); refine at_ge ?_)
  | ((with_reducible show AT _ (Expr.UnaryOp UnaryOp.Not _ _) _ _ _); refine at_not ?_)
  | ((with_reducible show AT _ (Expr.Call _ _ _ _) _ _ _); refine at_val ?_)
  | ((with_reducible show AR _ rEq (DV.dat (PyData.int _)) (DV.dat (PyData.int _)) _ _); refine ar_eqI ?_)
  | ((with_reducible show AR _ rNe (DV.dat (PyData.int _)) (DV.dat (PyData.int _)) _ _); refine ar_neI ?_)
  | ((with_reducible show AR _ rEq (DV.dat (PyData.str _)) (DV.dat (PyData.str _)) _ _); refine ar_eqS ?_)
  | ((with_reducible show AR _ rNe (DV.dat (PyData.str _)) (DV.dat (PyData.str _)) _ _); refine ar_neS ?_)
  | ((with_reducible show ∃ c, DV.dat (PyData.bool _) = DV.dat (PyData.bool c) ∧ _); refine ⟨_, rfl, ?_⟩)
  | ((with_reducible show AE _ (Expr.Tuple _ _ _) _ _ _); refine ae_tup ?_)
  | ((with_reducible show AE _ (Expr.Subscript _ _ _) _ _ _); refine ae_ixT ?_)
  | ((with_reducible show ∃ i j, DV.dat (PyData.int _) = DV.dat (PyData.int i) ∧ DV.dat (PyData.int _) = DV.dat (PyData.int j) ∧ _); refine ⟨_, _, rfl, rfl, ?_⟩)
  | ((with_reducible show ∃ xs i d, DV.dat (PyData.tuple _) = DV.dat (PyData.tuple xs) ∧ _); refine ⟨_, _, _, rfl, rfl, rfl, ?_⟩))
local macro_rules | `(tactic| walk_at "ax") => `(tactic| repeat (walk_at "ax1"))
local macro_rules | `(tactic| walk_at "ay1") => `(tactic| first
  | walk_at "ax1"
  | ((with_reducible show AE _ (Expr.UnaryOp UnaryOp.USub _ _) _ _ _); refine ae_neg ?_)
  | ((with_reducible show ∃ i, DV.dat (PyData.int _) = DV.dat (PyData.int i) ∧ _); refine ⟨_, rfl, ?_⟩)
  | ((with_reducible show ∃ xs : List PyData, [_, _] = List.map DV.dat xs ∧ _); refine ⟨[_, _], rfl, Nat.le_of_ble_eq_true rfl, ?_⟩)
  | ((with_reducible show ∃ xs : List PyData, [_, _, _] = List.map DV.dat xs ∧ _); refine ⟨[_, _, _], rfl, Nat.le_of_ble_eq_true rfl, ?_⟩))
local macro_rules | `(tactic| walk_at "ay") => `(tactic| repeat (walk_at "ay1"))
variable {P : Program} {w : World} {K : PySem.W.Frag} {mg : Str → Option Value} {base : Heap} {C : Addr}
open TL Wd
set_option exponentiation.threshold 10000
theorem ar_eqB {K : PySem.W.Frag} {x y : Bool} {M : MS} {k : DV → MS → Prop} (q : k (.dat (.bool (decide (x = y)))) M) : AR K rEq (.dat (.bool x)) (.dat (.bool y)) M k := fun v w G H Q ho iv iw kk => by
  have e1 := dp_bl_inv iv
  have e2 := dp_bl_inv iw
  subst e1 e2
  refine ⟨rfl, ?_⟩
  have e : decide (V.bl x = V.bl y) = decide (x = y) := decide_eq_decide.mpr ⟨fun h => V.bl.inj h, fun h => by rw [h]⟩
  rw [e]
  exact kk _ _ G M H (Same.refl _) ho (isd (Dp.bl _)) q
theorem ar_eqN {K : PySem.W.Frag} {M : MS} {k : DV → MS → Prop} (q : k (.dat (.bool true)) M) : AR K rEq (.dat .none) (.dat .none) M k := fun v w G H Q ho iv iw kk => by
  have e1 := dp_non_inv iv
  have e2 := dp_non_inv iw
  subst e1 e2
  refine ⟨rfl, ?_⟩
  exact kk _ _ G M H (Same.refl _) ho (isd (Dp.bl _)) q
def okN : Nat → PyData → Prop
  | _, .int _ => True
  | _, .str _ => True
  | _, .none => True
  | _, .bool _ => True
  | n + 1, .tuple xs => xs.length ≤ 1000 ∧ ∀ x ∈ xs, okN n x
  | _, _ => False
def S_same (n : Nat) : DS1 := fun vs M k => ∃ d : PyData, vs = [.dat d, .dat d] ∧ okN n d ∧ k (.dat (.bool true)) M
theorem sc__law_same : FnScope ["one", "other", "mine", "its"] ["one", "other"] (defScope s__law_same) := ⟨rfl, rfl, rfl, by decide +kernel, rfl, by decide +kernel, by decide +kernel⟩
theorem same_scal (T : Txt K mg C) {f : Addr} {cdv : Value} {A : Around} {outer : List Env} {s : Shared} {H : Hp} {E : XK} {M : MS} {kk : DV → MS → Prop} {d : PyData} (hd : d = .none ∨ (∃ i, d = .int i) ∨ (∃ z, d = .str z) ∨ ∃ b, d = .bool b)
    (hl : (cxD P w K mg base ["one", "other", "mine", "its"] "_law_same" (defScope s__law_same) f cdv A outer s H E).N = (["one", "other", "mine", "its"] : List Str)) (q : kk (.dat (.bool true)) M) :
    ASs (cxD P w K mg base ["one", "other", "mine", "its"] "_law_same" (defScope s__law_same) f cdv A outer s H E) (defBody s__law_same) [some (.dat d), some (.dat d), none, none] M ⟨fun _ M' => kk (.dat .none) M', kk, fun _ _ => False, fun _ _ => False⟩ := by
  obtain ⟨ty, rb, hty, ht1, ht2, heq⟩ : ∃ ty rb, TyD M (.dat d) ty ∧ kitB ty "tuple" = some false ∧ kitB ty "bool" = some rb ∧ ∀ {X : PySem.W.Frag} {k : DV → MS → Prop}, k (.dat (.bool true)) M → AR X rEq (.dat d) (.dat d) M k := by
    rcases hd with rfl | ⟨i, rfl⟩ | ⟨z, rfl⟩ | ⟨b, rfl⟩
    · exact ⟨_, false, .non, by decide +kernel, by decide +kernel, fun h => ar_eqN h⟩
    · exact ⟨_, false, .int _, by decide +kernel, by decide +kernel, fun h => ar_eqI (by rw [decide_eq_true rfl]; exact h)⟩
    · exact ⟨_, false, .str _, by decide +kernel, by decide +kernel, fun h => ar_eqS (by rw [decide_eq_true rfl]; exact h)⟩
    · exact ⟨_, true, .bl _, by decide +kernel, by decide +kernel, fun h => ar_eqB (by rw [decide_eq_true rfl]; exact h)⟩
  refine as_cons (as_ifP false (at_w (aw_or (at_val (ae_isinst T.b_isinstance ?_)))) (fun z => by cases z) fun _ => as_nil ?_)
  · walk_at "ax"
    refine ae_bltn (v := .ty "tuple") T.b_tuple boot_tuple rfl ?_
    refine aa_nil ⟨_, _, _, _, rfl, hty, ht1, _, rfl, fun h => (by cases h), fun _ => aw_or1 (at_val (ae_isinst T.b_isinstance ?_))⟩
    walk_at "ax"
    refine ae_bltn (v := .ty "tuple") T.b_tuple boot_tuple rfl ?_
    exact aa_nil ⟨_, _, _, _, rfl, hty, ht1, _, rfl, rfl, rfl⟩
  refine as_cons (as_ret (ae_and (ae_eqs (ae_isinst T.b_isinstance ?_))))
  walk_at "ax"
  refine ae_bltn (v := .ty "bool") T.b_bool boot_bool rfl ?_
  refine aa_nil ⟨_, _, _, _, rfl, hty, ht2, ae_isinst T.b_isinstance ?_⟩
  walk_at "ax"
  refine ae_bltn (v := .ty "bool") T.b_bool boot_bool rfl ?_
  refine aa_nil ⟨_, _, _, _, rfl, hty, ht2, ar_eqB ⟨_, rfl, fun _ => ae_one (ae_eqs ?_), fun h => (by rw [decide_eq_true rfl] at h; cases h)⟩⟩
  walk_at "nm"
  walk_at "nm"
  exact heq q
theorem d__law_same (T : Txt K mg C) {f : Addr} {fd : FuncData} (F : Fun K "_law_same" "_law_same" s__law_same f fd) (hm : mg "_law_same" = some (.ref f)) (hb : Binds K fd ["one", "other"] []) : ∀ n, Def P w K mg base "_law_same" (n + 1) (S_same n)
  | 0 => by
    refine def_ok F hm hb sc__law_same (fun ds M k h => ?_) (fun cdv A outer s H E ds M kk hl nd hr h => ?_)
    · obtain ⟨d, rfl, _⟩ := h; rfl
    · obtain ⟨d, rfl, hd, q⟩ := h
      refine same_scal T ?_ hl q
      cases d <;> first | exact .inl rfl | exact .inr (.inl ⟨_, rfl⟩) | exact .inr (.inr (.inl ⟨_, rfl⟩)) | exact .inr (.inr (.inr ⟨_, rfl⟩)) | exact hd.elim
  | n + 1 => by
    have IH := d__law_same T F hm hb n
    refine def_ok F hm hb sc__law_same (fun ds M k h => ?_) (fun cdv A outer s H E ds M kk hl nd hr h => ?_)
    · obtain ⟨d, rfl, _⟩ := h; rfl
    · obtain ⟨d, rfl, hd, q⟩ := h
      cases d with
      | none => exact same_scal T (.inl rfl) hl q
      | int i => exact same_scal T (.inr (.inl ⟨_, rfl⟩)) hl q
      | str z => exact same_scal T (.inr (.inr (.inl ⟨_, rfl⟩))) hl q
      | bool b => exact same_scal T (.inr (.inr (.inr ⟨_, rfl⟩))) hl q
      | tuple xs =>
        obtain ⟨hx1, hx2⟩ : xs.length ≤ 1000 ∧ ∀ x ∈ xs, okN n x := hd
        refine as_cons (as_ifP true (at_w (aw_or (at_val (ae_isinst T.b_isinstance ?_)))) (fun _ => ?_) (fun z => by cases z))
        · walk_at "ax"
          refine ae_bltn (v := .ty "tuple") T.b_tuple boot_tuple rfl ?_
          exact aa_nil ⟨_, _, _, _, rfl, .tup _, (by decide +kernel : kitB "tuple" "tuple" = some true), _, rfl, fun _ => ⟨rfl, rfl⟩, fun h => (by cases h)⟩
        refine as_cons (as_ifP false (at_w (aw_or (at_not (at_val (ae_isinst T.b_isinstance ?_))))) (fun z => by cases z) fun _ => as_nil ?_)
        · walk_at "ax"
          refine ae_bltn (v := .ty "tuple") T.b_tuple boot_tuple rfl ?_
          refine aa_nil ⟨_, _, _, _, rfl, .tup _, (by decide +kernel : kitB "tuple" "tuple" = some true), _, rfl, fun h => (by cases h), fun _ => aw_or (at_not (at_val (ae_isinst T.b_isinstance ?_)))⟩
          walk_at "ax"
          refine ae_bltn (v := .ty "tuple") T.b_tuple boot_tuple rfl ?_
          refine aa_nil ⟨_, _, _, _, rfl, .tup _, (by decide +kernel : kitB "tuple" "tuple" = some true), _, rfl, fun h => (by cases h), fun _ => aw_or1 (at_nes (ae_len T.b_len ?_))⟩
          walk_at "ax"
          refine ⟨_, _, rfl, .tup _, ae_len T.b_len ?_⟩
          walk_at "ax"
          refine ⟨_, _, rfl, .tup _, ?_⟩
          walk_at "ax"
          rw [decide_eq_true rfl]
          exact ⟨rfl, rfl⟩
        refine as_cons (as_ret (ae_wk (ae_all rfl T.b_all (aa_cons (ae_lcP rfl nd (blkOk_by (own := [("mine", 2), ("its", 3)]) rfl) (fun _ => .dat (.bool true)) (ai_zipT T.b_zip ?_))))))
        walk_at "ax"
        refine ⟨_, _, rfl, fun _ _ _ => trivial, by unfold _root_.A.pairD; rw [List.length_map, List.length_zip]; omega, fun d M3 hd hle3 s H C cl fp => ?_, fun D hD => ?_⟩
        · obtain ⟨⟨x, y⟩, hxy, rfl⟩ := List.mem_map.mp hd
          have hxx : x = y ∧ x ∈ xs := by
            obtain ⟨h1, h2⟩ := List.of_mem_zip hxy
            refine ⟨?_, h1⟩
            obtain ⟨j, hj⟩ := List.getElem?_of_mem hxy
            rw [List.getElem?_zip_eq_some] at hj
            obtain ⟨h3, h4⟩ := hj
            rw [h3] at h4; injection h4
          obtain ⟨rfl, hx⟩ := hxx
          refine agc_tup rfl rfl (agcs_cons ?_)
          walk_at "agc"
          refine agcs_cons ?_
          walk_at "agc"
          refine agcs_nil fun s H C cl fp => ?_
          refine ae_call IH hr ?_
          walk_at "ax"
          exact ⟨x, rfl, hx2 x hx, rfl, rfl⟩
        · refine aa_nil ⟨D, (_root_.A.pairD xs xs).map fun _ => true, rfl, ?_, ?_⟩
          · rw [upM_same, List.map_map]; rfl
          · have e : ((_root_.A.pairD xs xs).map fun _ => true).all id = true := List.all_eq_true.mpr fun b hb => by
              obtain ⟨_, _, rfl⟩ := List.mem_map.mp hb; rfl
            rw [e]
            exact ⟨_, M, .forget (Le.up (Le.refl M) hD), q⟩
      | _ => exact hd.elim
end B

set_option Elab.async false
set_option linter.all false
set_option maxRecDepth 100000
set_option maxHeartbeats 4000000
namespace B
open PySem PySem.Spec PyProof.Rows L2 A
local macro_rules | `(tactic| walk_at "nm") => `(tactic| refine ae_nameT (by assumption) rfl ?_)
local macro_rules | `(tactic| walk_at "ag") => `(tactic| refine ag_nameT (by assumption) (by assumption) ?_)
local macro_rules | `(tactic| walk_at "agc") => `(tactic| (refine agc_nameU (by assumption) (by assumption) ?_ ?_; · decide))
local macro_rules | `(tactic| walk_at "set") => `(tactic| refine as_setT (by assumption) (by assumption) ?_)
local macro_rules | `(tactic| walk_at "ax1") => `(tactic| first
  | ((with_reducible show AE _ (Expr.Name _ _) _ _ _); walk_at "nm")
  | ((with_reducible show AA _ (_ :: _) _ _ _); refine aa_cons ?_)
  | ((with_reducible show AA _ [] _ _ _); refine aa_nil ?_)
  | ((with_reducible show AE _ (Expr.Constant _ _ _) _ _ _); first | refine ae_int ?_ | refine ae_str ?_ | refine ae_bl ?_ | refine ae_non ?_)
  | ((with_reducible show AE _ (Expr.BinOp _ Operator.Add _ _) _ _ _); refine ae_add ?_)
  | ((with_reducible show AE _ (Expr.BinOp _ Operator.Sub _ _) _ _ _); refine ae_sub ?_)
  | ((with_reducible show AE _ (Expr.BinOp _ Operator.Mult _ _) _ _ _); refine ae_mul ?_)
  | ((with_reducible show AE _ (Expr.BinOp _ Operator.FloorDiv _ _) _ _ _); refine ae_fdiv ?_)
  | ((with_reducible show AE _ (Expr.BinOp _ Operator.Mod _ _) _ _ _); refine ae_mod ?_)
  | ((with_reducible show AE _ (Expr.Compare _ [CmpOp.Lt] _ _) _ _ _); refine ae_lt ?_)
  | ((with_reducible show AE _ (Expr.Compare _ [CmpOp.LtE] _ _) _ _ _); refine ae_le ?_)
  | ((with_reducible show AE _ (Expr.Compare _ [CmpOp.Gt] _ _) _ _ _); refine ae_gt ?_)
  | ((with_reducible show AE _ (Expr.Compare _ [CmpOp.GtE] _ _) _ _ _); refine ae_ge ?_)
  | ((with_reducible show AE _ (Expr.Compare _ [CmpOp.Eq] _ _) _ _ _); refine ae_eqs ?_)
  | ((with_reducible show AE _ (Expr.Compare _ [CmpOp.NotEq] _ _) _ _ _); refine ae_nes ?_)
  | ((with_reducible show AT _ (Expr.Compare _ [CmpOp.Eq] _ _) _ _ _); refine at_eqs ?_)
  | ((with_reducible show AT _ (Expr.Compare _ [CmpOp.NotEq] _ _) _ _ _); refine at_nes ?_)
  | ((with_reducible show AT _ (Expr.Compare _ [CmpOp.Lt] _ _) _ _ _); refine at_lt ?_)
  | ((with_reducible show AT _ (Expr.Compare _ [CmpOp.LtE] _ _) _ _ _); refine at_le ?_)
  | ((with_reducible show AT _ (Expr.Compare _ [CmpOp.Gt] _ _) _ _ _); refine at_gt ?_)
  | ((with_reducible show AT _ (Expr.Compare _ [CmpOp.GtE] _ _) _ _ _); refine at_ge ?_)
  | ((with_reducible show AT _ (Expr.UnaryOp UnaryOp.Not _ _) _ _ _); refine at_not ?_)
  | ((with_reducible show AT _ (Expr.Call _ _ _ _) _ _ _); refine at_val ?_)
  | ((with_reducible show AR _ rEq (DV.dat (PyData.int _)) (DV.dat (PyData.int _)) _ _); refine ar_eqI ?_)
  | ((with_reducible show AR _ rNe (DV.dat (PyData.int _)) (DV.dat (PyData.int _)) _ _); refine ar_neI ?_)
  | ((with_reducible show AR _ rEq (DV.dat (PyData.str _)) (DV.dat (PyData.str _)) _ _); refine ar_eqS ?_)
  | ((with_reducible show AR _ rNe (DV.dat (PyData.str _)) (DV.dat (PyData.str _)) _ _); refine ar_neS ?_)
  | ((with_reducible show ∃ c, DV.dat (PyData.bool _) = DV.dat (PyData.bool c) ∧ _); refine ⟨_, rfl, ?_⟩)
  | ((with_reducible show AE _ (Expr.Tuple _ _ _) _ _ _); refine ae_tup ?_)
  | ((with_reducible show AE _ (Expr.Subscript _ _ _) _ _ _); refine ae_ixT ?_)
  | ((with_reducible show ∃ i j, DV.dat (PyData.int _) = DV.dat (PyData.int i) ∧ DV.dat (PyData.int _) = DV.dat (PyData.int j) ∧ _); refine ⟨_, _, rfl, rfl, ?_⟩)
  | ((with_reducible show ∃ xs i d, DV.dat (PyData.tuple _) = DV.dat (PyData.tuple xs) ∧ _); refine ⟨_, _, _, rfl, rfl, rfl, ?_⟩))
local macro_rules | `(tactic| walk_at "ax") => `(tactic| repeat (walk_at "ax1"))
local macro_rules | `(tactic| walk_at "ay1") => `(tactic| first
  | walk_at "ax1"
  | ((with_reducible show AE _ (Expr.UnaryOp UnaryOp.USub _ _) _ _ _); refine ae_neg ?_)
  | ((with_reducible show ∃ i, DV.dat (PyData.int _) = DV.dat (PyData.int i) ∧ _); refine ⟨_, rfl, ?_⟩)
  | ((with_reducible show ∃ xs : List PyData, [_, _] = List.map DV.dat xs ∧ _); refine ⟨[_, _], rfl, Nat.le_of_ble_eq_true rfl, ?_⟩)
  | ((with_reducible show ∃ xs : List PyData, [_, _, _] = List.map DV.dat xs ∧ _); refine ⟨[_, _, _], rfl, Nat.le_of_ble_eq_true rfl, ?_⟩))
local macro_rules | `(tactic| walk_at "ay") => `(tactic| repeat (walk_at "ay1"))
variable {P : Program} {w : World} {K : PySem.W.Frag} {mg : Str → Option Value} {base : Heap} {C : Addr}
open TL Wd
set_option exponentiation.threshold 10000
/-- the sides as the law tells them -/
def sdl (o : Own) : List Str := (if (dXY (o "inside")).2.1 < 0 ∧ (dXY (o "inside")).1.1 ≠ 0 then [("first" : Str)] else []) ++ (if (dXY (o "inside")).1.1 < 0 ∧ (dXY (o "inside")).2.1 ≠ 0 then [("second" : Str)] else [])
def S_bsides : DS1 := fun vs M k => ∃ (p : Addr) (o : Own), vs = [.raw (.ref p)] ∧ M p = some (.dK (ownK o)) ∧ GoodO o ∧ k (.dat (.tuple ((sdl o).map .str))) M
theorem sc__law_book_sides : FnScope ["own", "mx", "my", "found"] ["own"] (defScope s__law_book_sides) := ⟨rfl, rfl, rfl, by decide +kernel, rfl, by decide +kernel, by decide +kernel⟩
theorem and_dec {a b : Int} : (decide (a < 0) && !decide (b = 0)) = true ↔ (a < 0 ∧ b ≠ 0) := by simp
theorem d__law_book_sides (T : Txt K mg C) (D_bdrift : Def P w K mg base "_law_book_drift" 5 S_bdrift) {f : Addr} {fd : FuncData} (F : Fun K "_law_book_sides" "_law_book_sides" s__law_book_sides f fd) (hm : mg "_law_book_sides" = some (.ref f)) (hb : Binds K fd ["own"] []) : Def P w K mg base "_law_book_sides" 6 S_bsides := by
  refine def_ok F hm hb sc__law_book_sides (fun ds M k h => ?_) (fun cdv A outer s H E ds M kk hl nd hr h => ?_)
  · obtain ⟨p, o, rfl, _⟩ := h; rfl
  · obtain ⟨p, o, rfl, hM, ho, q⟩ := h
    refine as_cons (as_asg (ae_call D_bdrift hr ?_))
    walk_at "ax"
    refine ⟨p, o, _, rfl, hM, ho, by simp [regs], ?_⟩
    refine ag_tup rfl rfl (ags_cons ?_)
    walk_at "ag"
    refine ags_cons ?_
    walk_at "ag"
    refine ags_nil ?_
    unfold sdl at q
    generalize dXY (o "inside") = mm at q
    walk_at "set"
    refine AE.imp (k := fun d M1 => ∃ r, M r = none ∧ d = .raw (.ref r) ∧ M1 = upM M r (.lst ((if mm.2.1 < 0 ∧ mm.1.1 ≠ 0 then [("first" : Str)] else []).map fun z => .dat (.str z)))) ?_ (fun d M1 ⟨r, hr0, e1, e2⟩ => ?_)
    · refine ae_ifP (decide (mm.2.1 < 0) && !decide (mm.1.1 = 0)) (at_w (aw_and ?_)) (fun h => ?_) fun h => ?_
      · walk_at "ax"
        refine ⟨fun h => aw_and1 ?_, fun h => ?_⟩
        · walk_at "ax"
          rw [h]; exact ⟨rfl, rfl⟩
        · rw [h]; exact ⟨rfl, rfl⟩
      · rw [if_pos (and_dec.mp h)]
        refine ae_lst ?_
        walk_at "ax"
        exact ⟨Nat.le_of_ble_eq_true rfl, fun r hr0 => ⟨r, hr0, rfl, rfl⟩⟩
      · rw [if_neg (fun z => by rw [and_dec.mpr z] at h; cases h)]
        refine ae_lst (aa_nil ⟨Nat.zero_le _, fun r hr0 => ⟨r, hr0, rfl, rfl⟩⟩)
    subst e1
    subst e2
    refine as_cons (as_ret (ae_wk (ae_tupleOf T.b_tuple (aa_cons (ae_catM ?_)))))
    walk_at "nm"
    refine AE.imp (k := fun d M1 => ∃ r2, upM M r (.lst ((if mm.2.1 < 0 ∧ mm.1.1 ≠ 0 then [("first" : Str)] else []).map fun z => .dat (.str z))) r2 = none ∧ d = .raw (.ref r2) ∧ M1 = upM (upM M r (.lst ((if mm.2.1 < 0 ∧ mm.1.1 ≠ 0 then [("first" : Str)] else []).map fun z => .dat (.str z)))) r2 (.lst ((if mm.1.1 < 0 ∧ mm.2.1 ≠ 0 then [("second" : Str)] else []).map fun z => .dat (.str z)))) ?_ (fun d M1 ⟨r2, hr2, e1, e2⟩ => ?_)
    · refine ae_ifP (decide (mm.1.1 < 0) && !decide (mm.2.1 = 0)) (at_w (aw_and ?_)) (fun h => ?_) fun h => ?_
      · walk_at "ax"
        refine ⟨fun h => aw_and1 ?_, fun h => ?_⟩
        · walk_at "ax"
          rw [h]; exact ⟨rfl, rfl⟩
        · rw [h]; exact ⟨rfl, rfl⟩
      · have e := and_dec.mp h
        rw [if_pos (c := mm.1.1 < 0 ∧ mm.2.1 ≠ 0) e]
        refine ae_lst ?_
        walk_at "ax"
        exact ⟨Nat.le_of_ble_eq_true rfl, fun r hr0 => ⟨r, hr0, rfl, rfl⟩⟩
      · rw [if_neg (c := mm.1.1 < 0 ∧ mm.2.1 ≠ 0) (fun z => by rw [and_dec.mpr z] at h; cases h)]
        refine ae_lst (aa_nil ⟨Nat.zero_le _, fun r hr0 => ⟨r, hr0, rfl, rfl⟩⟩)
    subst e1
    subst e2
    have hl1 : (if mm.2.1 < 0 ∧ mm.1.1 ≠ 0 then [("first" : Str)] else []).length ≤ 1 := by split <;> decide
    have hl2 : (if mm.1.1 < 0 ∧ mm.2.1 ≠ 0 then [("second" : Str)] else []).length ≤ 1 := by split <;> decide
    generalize (if mm.2.1 < 0 ∧ mm.1.1 ≠ 0 then [("first" : Str)] else []) = l1 at q hr2 hl1
    generalize (if mm.1.1 < 0 ∧ mm.2.1 ≠ 0 then [("second" : Str)] else []) = l2 at q hl2
    have nrr : r ≠ r2 := fun e => by rw [← e, upM_same] at hr2; cases hr2
    have hr2M : M r2 = none := by rw [upM_ne nrr.symm] at hr2; exact hr2
    refine ⟨r, r2, _, _, rfl, rfl, by rw [upM_ne nrr]; exact upM_same, upM_same, by rw [List.length_map, List.length_map]; omega, fun p hp => aa_nil ⟨_, (l1 ++ l2).map .str, rfl, .chg ?_, ?_⟩⟩
    · rw [upM_same, List.map_map, List.map_append]; rfl
    · have hle : Le M (upM (upM M r (.lst (l1.map fun z => .dat (.str z)))) r2 (.lst (l2.map fun z => .dat (.str z)))) := ((Le.refl M).up hr0).up hr2M
      refine ⟨_, M, .forget (hle.up ?_), q⟩
      cases hm : M p with
      | none => rfl
      | some mo => rw [hle p mo hm] at hp; cases hp
end B

set_option Elab.async false
set_option linter.all false
set_option maxRecDepth 100000
set_option maxHeartbeats 4000000
namespace B
open PySem PySem.Spec PyProof.Rows L2 A
local macro_rules | `(tactic| walk_at "nm") => `(tactic| refine ae_nameT (by assumption) rfl ?_)
local macro_rules | `(tactic| walk_at "ag") => `(tactic| refine ag_nameT (by assumption) (by assumption) ?_)
local macro_rules | `(tactic| walk_at "agc") => `(tactic| (refine agc_nameU (by assumption) (by assumption) ?_ ?_; · decide))
local macro_rules | `(tactic| walk_at "set") => `(tactic| refine as_setT (by assumption) (by assumption) ?_)
local macro_rules | `(tactic| walk_at "ax1") => `(tactic| first
  | ((with_reducible show AE _ (Expr.Name _ _) _ _ _); walk_at "nm")
  | ((with_reducible show AA _ (_ :: _) _ _ _); refine aa_cons ?_)
  | ((with_reducible show AA _ [] _ _ _); refine aa_nil ?_)
  | ((with_reducible show AE _ (Expr.Constant _ _ _) _ _ _); first | refine ae_int ?_ | refine ae_str ?_ | refine ae_bl ?_ | refine ae_non ?_)
  | ((with_reducible show AE _ (Expr.BinOp _ Operator.Add _ _) _ _ _); refine ae_add ?_)
  | ((with_reducible show AE _ (Expr.BinOp _ Operator.Sub _ _) _ _ _); refine ae_sub ?_)
  | ((with_reducible show AE _ (Expr.BinOp _ Operator.Mult _ _) _ _ _); refine ae_mul ?_)
  | ((with_reducible show AE _ (Expr.BinOp _ Operator.FloorDiv _ _) _ _ _); refine ae_fdiv ?_)
  | ((with_reducible show AE _ (Expr.BinOp _ Operator.Mod _ _) _ _ _); refine ae_mod ?_)
  | ((with_reducible show AE _ (Expr.Compare _ [CmpOp.Lt] _ _) _ _ _); refine ae_lt ?_)
  | ((with_reducible show AE _ (Expr.Compare _ [CmpOp.LtE] _ _) _ _ _); refine ae_le ?_)
  | ((with_reducible show AE _ (Expr.Compare _ [CmpOp.Gt] _ _) _ _ _); refine ae_gt ?_)
  | ((with_reducible show AE _ (Expr.Compare _ [CmpOp.GtE] _ _) _ _ _); refine ae_ge ?_)
  | ((with_reducible show AE _ (Expr.Compare _ [CmpOp.Eq] _ _) _ _ _); refine ae_eqs ?_)
  | ((with_reducible show AE _ (Expr.Compare _ [CmpOp.NotEq] _ _) _ _ _); refine ae_nes ?_)
  | ((with_reducible show AT _ (Expr.Compare _ [CmpOp.Eq] _ _) _ _ _); refine at_eqs ?_)
  | ((with_reducible show AT _ (Expr.Compare _ [CmpOp.NotEq] _ _) _ _ _); refine at_nes ?_)
  | ((with_reducible show AT _ (Expr.Compare _ [CmpOp.Lt] _ _) _ _ _); refine at_lt ?_)
  | ((with_reducible show AT _ (Expr.Compare _ [CmpOp.LtE] _ _) _ _ _); refine at_le ?_)
  | ((with_reducible show AT _ (Expr.Compare _ [CmpOp.Gt] _ _) _ _ _); refine at_gt ?_)
  | ((with_reducible show AT _ (Expr.Compare _ [CmpOp.GtE] _ _) _ _ _); refine at_ge ?_)
  | ((with_reducible show AT _ (Expr.UnaryOp UnaryOp.Not _ _) _ _ _); refine at_not ?_)
  | ((with_reducible show AT _ (Expr.Call _ _ _ _) _ _ _); refine at_val ?_)
  | ((with_reducible show AR _ rEq (DV.dat (PyData.int _)) (DV.dat (PyData.int _)) _ _); refine ar_eqI ?_)
  | ((with_reducible show AR _ rNe (DV.dat (PyData.int _)) (DV.dat (PyData.int _)) _ _); refine ar_neI ?_)
  | ((with_reducible show AR _ rEq (DV.dat (PyData.str _)) (DV.dat (PyData.str _)) _ _); refine ar_eqS ?_)
  | ((with_reducible show AR _ rNe (DV.dat (PyData.str _)) (DV.dat (PyData.str _)) _ _); refine ar_neS ?_)
  | ((with_reducible show ∃ c, DV.dat (PyData.bool _) = DV.dat (PyData.bool c) ∧ _); refine ⟨_, rfl, ?_⟩)
  | ((with_reducible show AE _ (Expr.Tuple _ _ _) _ _ _); refine ae_tup ?_)
  | ((with_reducible show AE _ (Expr.Subscript _ _ _) _ _ _); refine ae_ixT ?_)
  | ((with_reducible show ∃ i j, DV.dat (PyData.int _) = DV.dat (PyData.int i) ∧ DV.dat (PyData.int _) = DV.dat (PyData.int j) ∧ _); refine ⟨_, _, rfl, rfl, ?_⟩)
  | ((with_reducible show ∃ xs i d, DV.dat (PyData.tuple _) = DV.dat (PyData.tuple xs) ∧ _); refine ⟨_, _, _, rfl, rfl, rfl, ?_⟩))
local macro_rules | `(tactic| walk_at "ax") => `(tactic| repeat (walk_at "ax1"))
local macro_rules | `(tactic| walk_at "ay1") => `(tactic| first
  | walk_at "ax1"
  | ((with_reducible show AE _ (Expr.UnaryOp UnaryOp.USub _ _) _ _ _); refine ae_neg ?_)
  | ((with_reducible show ∃ i, DV.dat (PyData.int _) = DV.dat (PyData.int i) ∧ _); refine ⟨_, rfl, ?_⟩)
  | ((with_reducible show ∃ xs : List PyData, [_, _] = List.map DV.dat xs ∧ _); refine ⟨[_, _], rfl, Nat.le_of_ble_eq_true rfl, ?_⟩)
  | ((with_reducible show ∃ xs : List PyData, [_, _, _] = List.map DV.dat xs ∧ _); refine ⟨[_, _, _], rfl, Nat.le_of_ble_eq_true rfl, ?_⟩))
local macro_rules | `(tactic| walk_at "ay") => `(tactic| repeat (walk_at "ay1"))
variable {P : Program} {w : World} {K : PySem.W.Frag} {mg : Str → Option Value} {base : Heap} {C : Addr}
open TL Wd
set_option exponentiation.threshold 10000
def selB (l : List (Str × Bool)) : List Str := (l.filter (·.2)).map (·.1)
def mks (b1 b2 b3 b4 b5 b6 : Bool) : List (Str × Bool) := [("x", b1), ("y", b2), ("first", b3), ("second", b4), ("first turn", b5), ("second turn", b6)]
theorem sel_ok : ∀ b1 b2 b3 b4 b5 b6 : Bool, SeqAt.shaped (.list ((selB (mks b1 b2 b3 b4 b5 b6)).map .str)) = true ∧ PyData.eqv (.list ((selB (mks b1 b2 b3 b4 b5 b6)).map .str)) (.list []) = (selB (mks b1 b2 b3 b4 b5 b6)).isEmpty := by decide +kernel
def brl (o : Own) : List Str := selB (mks (decide ((dXY (o "inside")).1.1 = 0)) (decide ((dXY (o "inside")).2.1 = 0)) (decide ((dXY (o "first")).2.1 = 0)) (decide ((dXY (o "second")).1.1 = 0)) (decide (("first" : Str) ∈ sdl o) && decide ((trn o).1.1 = 0)) (decide (("second" : Str) ∈ sdl o) && decide ((trn o).2.1 = 0)))
theorem brl_brd (o : Own) : (brl o).head? = brd o := by
  unfold brl brd
  by_cases h1 : (dXY (o "inside")).1.1 = 0
  · rw [if_pos h1, decide_eq_true h1]; rfl
  rw [if_neg h1, decide_eq_false h1]
  by_cases h2 : (dXY (o "inside")).2.1 = 0
  · rw [if_pos h2, decide_eq_true h2]; rfl
  rw [if_neg h2, decide_eq_false h2]
  have e : sdl o = sds o := by
    unfold sdl sds
    simp [h1, h2]
  rw [e]
  by_cases h3 : (dXY (o "first")).2.1 = 0
  · rw [if_pos h3, decide_eq_true h3]; rfl
  rw [if_neg h3, decide_eq_false h3]
  by_cases h4 : (dXY (o "second")).1.1 = 0
  · rw [if_pos h4, decide_eq_true h4]; rfl
  rw [if_neg h4, decide_eq_false h4]
  by_cases h5 : ("first" : Str) ∈ sds o ∧ (trn o).1.1 = 0
  · rw [if_pos h5, decide_eq_true h5.1, decide_eq_true h5.2]; rfl
  have e5 : (decide (("first" : Str) ∈ sds o) && decide ((trn o).1.1 = 0)) = false := by
    rw [← Bool.not_eq_true, Bool.and_eq_true, decide_eq_true_eq, decide_eq_true_eq]; exact h5
  rw [if_neg h5, e5]
  by_cases h6 : ("second" : Str) ∈ sds o ∧ (trn o).2.1 = 0
  · rw [if_pos h6, decide_eq_true h6.1, decide_eq_true h6.2]; rfl
  have e6 : (decide (("second" : Str) ∈ sds o) && decide ((trn o).2.1 = 0)) = false := by
    rw [← Bool.not_eq_true, Bool.and_eq_true, decide_eq_true_eq, decide_eq_true_eq]; exact h6
  rw [if_neg h6, e6]; rfl
def S_bborder : DS1 := fun vs M k => ∃ (p : Addr) (o : Own), vs = [.raw (.ref p)] ∧ M p = some (.dK (ownK o)) ∧ GoodO o ∧ k (.dat (optS (brd o))) M
theorem sc__law_book_border : FnScope ["own", "mx", "my", "first", "second", "sides", "marks", "words", "word", "is_so"] ["own"] (defScope s__law_book_border) := ⟨rfl, rfl, rfl, by decide +kernel, rfl, by decide +kernel, by decide +kernel⟩
abbrev mkV (l : List (Str × Bool)) : List DV := l.map fun x => .dat (.tuple [.str x.1, .bool x.2])
def mkP : DV → Bool
  | .dat (.tuple [_, .bool b]) => b
  | _ => false
abbrev mkW : DV → DV
  | .dat (.tuple [w, _]) => .dat w
  | d => d
theorem d__law_book_border (T : Txt K mg C) (D_bdrift : Def P w K mg base "_law_book_drift" 5 S_bdrift) (D_bturns : Def P w K mg base "_law_book_turns" 6 S_bturns) (D_bsides : Def P w K mg base "_law_book_sides" 6 S_bsides) {f : Addr} {fd : FuncData} (F : Fun K "_law_book_border" "_law_book_border" s__law_book_border f fd) (hm : mg "_law_book_border" = some (.ref f)) (hb : Binds K fd ["own"] []) : Def P w K mg base "_law_book_border" 7 S_bborder := by
  refine def_ok F hm hb sc__law_book_border (fun ds M k h => ?_) (fun cdv A outer s H E ds M kk hl nd hr h => ?_)
  · obtain ⟨p, o, rfl, _⟩ := h; rfl
  · obtain ⟨p, o, rfl, hM, ho, q⟩ := h
    refine as_cons (as_asg (ae_call D_bdrift (hr.mono (by decide)) ?_))
    walk_at "ax"
    refine ⟨p, o, _, rfl, hM, ho, by simp [regs], ?_⟩
    refine ag_tup rfl rfl (ags_cons ?_)
    walk_at "ag"
    refine ags_cons ?_
    walk_at "ag"
    refine ags_nil (as_cons (as_asg (ae_call D_bturns hr ?_)))
    walk_at "ax"
    refine ⟨p, o, rfl, hM, ho, ?_⟩
    refine ag_tup rfl rfl (ags_cons ?_)
    walk_at "ag"
    refine ags_cons ?_
    walk_at "ag"
    refine ags_nil ?_
    walk_at "set"
    refine ae_call D_bsides hr ?_
    walk_at "ax"
    refine ⟨p, o, rfl, hM, ho, ?_⟩
    walk_at "set"
    refine ae_lst ?_
    walk_at "ay"
    refine ae_call D_bdrift (hr.mono (by decide)) ?_
    walk_at "ax"
    refine ⟨p, o, _, rfl, hM, ho, by simp [regs], ?_⟩
    walk_at "ay"
    refine ⟨Nat.le_of_ble_eq_true rfl, fun r hr0 => ?_⟩
    refine as_cons (as_expr (ae_bm PySem.F.plainAttrs_list PySem.F.slot_list_append PySem.F.type_list_append mt_append ?_))
    walk_at "nm"
    refine ⟨.chg upM_same, ?_⟩
    walk_at "ay"
    have npr : p ≠ r := fun e => by rw [← e, hM] at hr0; cases hr0
    refine ae_call D_bdrift (hr.mono (by decide)) ?_
    walk_at "ax"
    refine ⟨p, o, _, rfl, by rw [upM_ne npr]; exact hM, ho, by simp [regs], ?_⟩
    walk_at "ay"
    refine arm_append upM_same (Nat.lt_of_lt_of_le (m := 5) (Nat.le_of_ble_eq_true rfl) (by decide)) ?_
    rw [upM_upM]
    refine as_cons (as_expr (ae_bm PySem.F.plainAttrs_list PySem.F.slot_list_append PySem.F.type_list_append mt_append ?_))
    walk_at "nm"
    refine ⟨.chg upM_same, aa_cons (ae_tup (aa_cons ?_))⟩
    walk_at "ay"
    refine ae_P (.dat (.bool (decide (("first" : Str) ∈ sdl o) && decide ((trn o).1.1 = 0)))) (ae_and (ae_inS ?_)) ?_
    · walk_at "ax"
      refine ⟨_, sdl o, rfl, rfl, _, rfl, fun h => ae_one ?_, fun h => ?_⟩
      · walk_at "ax"
        rw [h]; exact ⟨rfl, rfl⟩
      · rw [h]; exact ⟨rfl, rfl⟩
    walk_at "ay"
    refine arm_append upM_same (Nat.lt_of_lt_of_le (m := 6) (Nat.le_of_ble_eq_true rfl) (by decide)) ?_
    rw [upM_upM]
    refine as_cons (as_expr (ae_bm PySem.F.plainAttrs_list PySem.F.slot_list_append PySem.F.type_list_append mt_append ?_))
    walk_at "nm"
    refine ⟨.chg upM_same, aa_cons (ae_tup (aa_cons ?_))⟩
    walk_at "ay"
    refine ae_P (.dat (.bool (decide (("second" : Str) ∈ sdl o) && decide ((trn o).2.1 = 0)))) (ae_and (ae_inS ?_)) ?_
    · walk_at "ax"
      refine ⟨_, sdl o, rfl, rfl, _, rfl, fun h => ae_one ?_, fun h => ?_⟩
      · walk_at "ax"
        rw [h]; exact ⟨rfl, rfl⟩
      · rw [h]; exact ⟨rfl, rfl⟩
    walk_at "ay"
    refine arm_append upM_same (Nat.lt_of_lt_of_le (m := 7) (Nat.le_of_ble_eq_true rfl) (by decide)) ?_
    rw [upM_upM]
    rw [← brl_brd] at q
    unfold brl at q
    generalize hb5 : (decide (("first" : Str) ∈ sdl o) && decide ((trn o).1.1 = 0)) = b5 at q
    generalize hb6 : (decide (("second" : Str) ∈ sdl o) && decide ((trn o).2.1 = 0)) = b6 at q
    generalize decide ((dXY (o "inside")).1.1 = 0) = b1 at q
    generalize decide ((dXY (o "inside")).2.1 = 0) = b2 at q
    generalize decide ((dXY (o "first")).2.1 = 0) = b3 at q
    generalize decide ((dXY (o "second")).1.1 = 0) = b4 at q
    obtain ⟨sh1, sh2⟩ := sel_ok b1 b2 b3 b4 b5 b6
    refine as_cons (as_setLcPI 7 rfl nd (blkOk_by (own := [("word", 8), ("is_so", 9)]) rfl) mkP mkW (ai_seq (d := .raw (.ref r)) (xs := mkV (mks b1 b2 b3 b4 b5 b6)) ?_))
    walk_at "nm"
    refine ⟨rfl, .chg upM_same, fun D m hD => lcP_up (.chg upM_same) D m hD, Nat.lt_of_lt_of_le (m := 8) (Nat.le_of_ble_eq_true rfl) (by decide), fun d M3 hd hle3 s H C cl fp => ?_, fun D hD => ?_⟩
    · obtain ⟨⟨wd, b⟩, hy, rfl⟩ := List.mem_map.mp hd
      refine agc_tup rfl rfl (agcs_cons ?_)
      walk_at "agc"
      refine agcs_cons ?_
      walk_at "agc"
      refine agcs_nil fun s H C cl fp => ?_
      refine at_tru ?_
      walk_at "ax"
      refine ⟨_, .bl b, ⟨rfl, fun _ s H C cl fp => ?_⟩, rfl⟩
      walk_at "ax"
      exact ⟨rfl, rfl⟩
    · have e : ((mkV (mks b1 b2 b3 b4 b5 b6)).filter mkP).map mkW = ((selB (mks b1 b2 b3 b4 b5 b6)).map PyData.str).map .dat := by
        unfold selB
        rw [List.filter_map, List.map_map, List.map_map, List.map_map]; rfl
      rw [e]
      refine ass_freeze 7 rfl upM_same ?_
      rw [freeze_up hD]
      generalize selB (mks b1 b2 b3 b4 b5 b6) = ws at q sh1 sh2
      refine ASs.forget (N := M) ((Le.refl M).up hr0) ?_
      refine as_cons (as_ret (ae_ifP (!ws.isEmpty) (at_neD (hu64 hr) ?_) (fun h => ?_) fun h => ?_))
      · walk_at "nm"
        refine ae_lstD (aa_nil ⟨[], rfl, Nat.le_of_ble_eq_true rfl, ar_neD (r := ws.isEmpty) sh1 rfl sh2 ⟨_, rfl, rfl, rfl⟩⟩)
      · cases ws with
        | nil => cases h
        | cons z zs =>
          refine ae_ixL ?_
          walk_at "ax"
          exact ⟨_, _, .str z, rfl, rfl, atI_nat (i := 0) rfl, q⟩
      · cases ws with
        | nil =>
          walk_at "ax"
          exact q
        | cons z zs => cases h
end B

set_option Elab.async false
set_option linter.all false
set_option maxRecDepth 100000
set_option maxHeartbeats 4000000
namespace B
open PySem PySem.Spec PyProof.Rows L2 A
local macro_rules | `(tactic| walk_at "nm") => `(tactic| refine ae_nameT (by assumption) rfl ?_)
local macro_rules | `(tactic| walk_at "ag") => `(tactic| refine ag_nameT (by assumption) (by assumption) ?_)
local macro_rules | `(tactic| walk_at "agc") => `(tactic| (refine agc_nameU (by assumption) (by assumption) ?_ ?_; · decide))
local macro_rules | `(tactic| walk_at "set") => `(tactic| refine as_setT (by assumption) (by assumption) ?_)
local macro_rules | `(tactic| walk_at "ax1") => `(tactic| first
  | ((with_reducible show AE _ (Expr.Name _ _) _ _ _); walk_at "nm")
  | ((with_reducible show AA _ (_ :: _) _ _ _); refine aa_cons ?_)
  | ((with_reducible show AA _ [] _ _ _); refine aa_nil ?_)
  | ((with_reducible show AE _ (Expr.Constant _ _ _) _ _ _); first | refine ae_int ?_ | refine ae_str ?_ | refine ae_bl ?_ | refine ae_non ?_)
  | ((with_reducible show AE _ (Expr.BinOp _ Operator.Add _ _) _ _ _); refine ae_add ?_)
  | ((with_reducible show AE _ (Expr.BinOp _ Operator.Sub _ _) _ _ _); refine ae_sub ?_)
  | ((with_reducible show AE _ (Expr.BinOp _ Operator.Mult _ _) _ _ _); refine ae_mul ?_)
  | ((with_reducible show AE _ (Expr.BinOp _ Operator.FloorDiv _ _) _ _ _); refine ae_fdiv ?_)
  | ((with_reducible show AE _ (Expr.BinOp _ Operator.Mod _ _) _ _ _); refine ae_mod ?_)
  | ((with_reducible show AE _ (Expr.Compare _ [CmpOp.Lt] _ _) _ _ _); refine ae_lt ?_)
  | ((with_reducible show AE _ (Expr.Compare _ [CmpOp.LtE] _ _) _ _ _); refine ae_le ?_)
  | ((with_reducible show AE _ (Expr.Compare _ [CmpOp.Gt] _ _) _ _ _); refine ae_gt ?_)
  | ((with_reducible show AE _ (Expr.Compare _ [CmpOp.GtE] _ _) _ _ _); refine ae_ge ?_)
  | ((with_reducible show AE _ (Expr.Compare _ [CmpOp.Eq] _ _) _ _ _); refine ae_eqs ?_)
  | ((with_reducible show AE _ (Expr.Compare _ [CmpOp.NotEq] _ _) _ _ _); refine ae_nes ?_)
  | ((with_reducible show AT _ (Expr.Compare _ [CmpOp.Eq] _ _) _ _ _); refine at_eqs ?_)
  | ((with_reducible show AT _ (Expr.Compare _ [CmpOp.NotEq] _ _) _ _ _); refine at_nes ?_)
  | ((with_reducible show AT _ (Expr.Compare _ [CmpOp.Lt] _ _) _ _ _); refine at_lt ?_)
  | ((with_reducible show AT _ (Expr.Compare _ [CmpOp.LtE] _ _) _ _ _); refine at_le ?_)
  | ((with_reducible show AT _ (Expr.Compare _ [CmpOp.Gt] _ _) _ _ _); refine at_gt ?_)
  | ((with_reducible show AT _ (Expr.Compare _ [CmpOp.GtE] _ _) _ _ _); refine at_ge ?_)
  | ((with_reducible show AT _ (Expr.UnaryOp UnaryOp.Not _ _) _ _ _); refine at_not ?_)
  | ((with_reducible show AT _ (Expr.Call _ _ _ _) _ _ _); refine at_val ?_)
  | ((with_reducible show AR _ rEq (DV.dat (PyData.int _)) (DV.dat (PyData.int _)) _ _); refine ar_eqI ?_)
  | ((with_reducible show AR _ rNe (DV.dat (PyData.int _)) (DV.dat (PyData.int _)) _ _); refine ar_neI ?_)
  | ((with_reducible show AR _ rEq (DV.dat (PyData.str _)) (DV.dat (PyData.str _)) _ _); refine ar_eqS ?_)
  | ((with_reducible show AR _ rNe (DV.dat (PyData.str _)) (DV.dat (PyData.str _)) _ _); refine ar_neS ?_)
  | ((with_reducible show ∃ c, DV.dat (PyData.bool _) = DV.dat (PyData.bool c) ∧ _); refine ⟨_, rfl, ?_⟩)
  | ((with_reducible show AE _ (Expr.Tuple _ _ _) _ _ _); refine ae_tup ?_)
  | ((with_reducible show AE _ (Expr.Subscript _ _ _) _ _ _); refine ae_ixT ?_)
  | ((with_reducible show ∃ i j, DV.dat (PyData.int _) = DV.dat (PyData.int i) ∧ DV.dat (PyData.int _) = DV.dat (PyData.int j) ∧ _); refine ⟨_, _, rfl, rfl, ?_⟩)
  | ((with_reducible show ∃ xs i d, DV.dat (PyData.tuple _) = DV.dat (PyData.tuple xs) ∧ _); refine ⟨_, _, _, rfl, rfl, rfl, ?_⟩))
local macro_rules | `(tactic| walk_at "ax") => `(tactic| repeat (walk_at "ax1"))
local macro_rules | `(tactic| walk_at "ay1") => `(tactic| first
  | walk_at "ax1"
  | ((with_reducible show AE _ (Expr.UnaryOp UnaryOp.USub _ _) _ _ _); refine ae_neg ?_)
  | ((with_reducible show ∃ i, DV.dat (PyData.int _) = DV.dat (PyData.int i) ∧ _); refine ⟨_, rfl, ?_⟩)
  | ((with_reducible show ∃ xs : List PyData, [_, _] = List.map DV.dat xs ∧ _); refine ⟨[_, _], rfl, Nat.le_of_ble_eq_true rfl, ?_⟩)
  | ((with_reducible show ∃ xs : List PyData, [_, _, _] = List.map DV.dat xs ∧ _); refine ⟨[_, _, _], rfl, Nat.le_of_ble_eq_true rfl, ?_⟩))
local macro_rules | `(tactic| walk_at "ay") => `(tactic| repeat (walk_at "ay1"))
variable {P : Program} {w : World} {K : PySem.W.Frag} {mg : Str → Option Value} {base : Heap} {C : Addr}
open TL Wd
set_option exponentiation.threshold 10000
open Fr (Bd)
def S_fracG : DS1 := fun vs M k => ∃ a b : Int, vs = [.dat (.int a), .dat (.int b)] ∧ b ≠ 0 ∧ b.natAbs < 2 ^ 8000 ∧ k (frV (Fr.lowS a b)) M
theorem wide_divN {i j : Int} {b : Nat} (h : j ≠ 0) (hb : j.natAbs < 2 ^ b) (h0 : 0 < b) (h9 : b ≤ 9000) : CDivNW i j := ⟨h, Nat.lt_of_lt_of_le (PySem.Flt.log2_lt_of h0 hb) h9⟩
theorem fdiv_negdvd {a g : Int} (h : g ∣ a) : a.fdiv (-g) = (-a) / g := by
  rw [Int.fdiv_eq_ediv_of_dvd (Int.neg_dvd.mpr h), Int.ediv_neg, Int.neg_ediv_of_dvd h]
theorem d__law_fracG (T : Txt K mg C) (D_common : Def P w K mg base "_law_frac_common" 1 S_common) {f : Addr} {fd : FuncData} (F : Fun K "_law_frac" "_law_frac" s__law_frac f fd) (hm : mg "_law_frac" = some (.ref f)) (hb : Binds K fd ["top", "bottom"] []) : Def P w K mg base "_law_frac" 2 S_fracG := by
  refine def_ok F hm hb sc__law_frac (fun ds M k h => ?_) (fun cdv A outer s H E ds M kk hl nd hr h => ?_)
  · obtain ⟨a, b, rfl, _⟩ := h; rfl
  · obtain ⟨a, b, rfl, h0, h1, q⟩ := h
    have hg : 0 < (Nat.gcd a.natAbs b.natAbs) := Nat.gcd_pos_of_pos_right _ (by omega)
    have hg2 : (Nat.gcd a.natAbs b.natAbs) ≤ b.natAbs := Nat.gcd_le_right _ (by omega)
    have da : ((Nat.gcd a.natAbs b.natAbs : Nat) : Int) ∣ a := Int.ofNat_dvd_left.mpr (Nat.gcd_dvd_left _ _)
    have db : ((Nat.gcd a.natAbs b.natAbs : Nat) : Int) ∣ b := Int.ofNat_dvd_left.mpr (Nat.gcd_dvd_right _ _)
    walk_at "set"
    refine ae_call D_common hr ?_
    walk_at "ax"
    refine ⟨_, _, rfl, ?_⟩
    walk_at "set"
    refine ae_if ?_
    walk_at "ax"
    refine ⟨fun h => ?_, fun h => ?_⟩
    · have hb0 := of_decide_eq_true h
      walk_at "ax"
      refine as_cons (as_ret (ae_tup (aa_cons (ae_fdivN ?_))))
      walk_at "ax"
      refine ⟨wide_divN (b := 8000) (by omega) (Nat.lt_of_le_of_lt (by omega) h1) (by decide) (by decide), aa_cons (ae_fdivN ?_)⟩
      walk_at "ax"
      refine ⟨wide_divN (b := 8000) (by omega) (Nat.lt_of_le_of_lt (by omega) h1) (by decide) (by decide), aa_nil ⟨[_, _], rfl, Nat.le_of_ble_eq_true rfl, ?_⟩⟩
      rw [Int.fdiv_eq_ediv_of_dvd da, Int.fdiv_eq_ediv_of_dvd db]
      rw [Fr.lowS_pos hb0] at q
      exact q
    · have hb0 := of_decide_eq_false h
      walk_at "ay"
      refine as_cons (as_ret (ae_tup (aa_cons (ae_fdivN ?_))))
      walk_at "ax"
      refine ⟨wide_divN (b := 8000) (by omega) (Nat.lt_of_le_of_lt (by omega) h1) (by decide) (by decide), aa_cons (ae_fdivN ?_)⟩
      walk_at "ax"
      refine ⟨wide_divN (b := 8000) (by omega) (Nat.lt_of_le_of_lt (by omega) h1) (by decide) (by decide), aa_nil ⟨[_, _], rfl, Nat.le_of_ble_eq_true rfl, ?_⟩⟩
      rw [fdiv_negdvd da, fdiv_negdvd db]
      unfold Fr.lowS Fr.low at q
      rw [if_neg (by omega), Int.natAbs_neg, Int.natAbs_neg] at q
      exact q
def S_over : DS1 := fun vs M k => ∃ f g : Int × Int, vs = [frV f, frV g] ∧ Sm f ∧ Sm g ∧ g.1 ≠ 0 ∧ k (frV (Fr.div f g)) M
theorem sc__law_frac_over : FnScope ["one", "other"] ["one", "other"] (defScope s__law_frac_over) := ⟨rfl, rfl, rfl, by decide +kernel, rfl, by decide +kernel, by decide +kernel⟩
theorem d__law_frac_over (T : Txt K mg C) (D_fracG : Def P w K mg base "_law_frac" 2 S_fracG) {f : Addr} {fd : FuncData} (F : Fun K "_law_frac_over" "_law_frac_over" s__law_frac_over f fd) (hm : mg "_law_frac_over" = some (.ref f)) (hb : Binds K fd ["one", "other"] []) : Def P w K mg base "_law_frac_over" 3 S_over := by
  refine def_ok F hm hb sc__law_frac_over (fun ds M k h => ?_) (fun cdv A outer s H E ds M kk hl nd hr h => ?_)
  · obtain ⟨f, g, rfl, _⟩ := h; rfl
  · obtain ⟨f, g, rfl, ⟨f0, f1, f2⟩, ⟨g0, g1, g2⟩, gn, q⟩ := h
    have cm : ∀ {i j : Int}, i.natAbs < 2 ^ 2000 → j.natAbs < 2 ^ 2000 → CMulW i j := fun hi hj => wide_mul hi hj (by decide) (by decide) (by decide)
    refine as_cons (as_ret (ae_call D_fracG hr ?_))
    walk_at "ax"
    refine ⟨cm f1 g2, ?_⟩
    walk_at "ax"
    refine ⟨cm f2 g1, ?_⟩
    walk_at "ax"
    exact ⟨_, _, rfl, Int.mul_ne_zero (by omega) gn, Nat.lt_of_lt_of_le (wide_lt f2 g1) (Nat.pow_le_pow_right (by decide) (by decide)), q⟩
end B

set_option Elab.async false
set_option linter.all false
set_option maxRecDepth 100000
set_option maxHeartbeats 4000000
namespace B
open PySem PySem.Spec PyProof.Rows L2 A
local macro_rules | `(tactic| walk_at "nm") => `(tactic| refine ae_nameT (by assumption) rfl ?_)
local macro_rules | `(tactic| walk_at "ag") => `(tactic| refine ag_nameT (by assumption) (by assumption) ?_)
local macro_rules | `(tactic| walk_at "agc") => `(tactic| (refine agc_nameU (by assumption) (by assumption) ?_ ?_; · decide))
local macro_rules | `(tactic| walk_at "set") => `(tactic| refine as_setT (by assumption) (by assumption) ?_)
local macro_rules | `(tactic| walk_at "ax1") => `(tactic| first
  | ((with_reducible show AE _ (Expr.Name _ _) _ _ _); walk_at "nm")
  | ((with_reducible show AA _ (_ :: _) _ _ _); refine aa_cons ?_)
  | ((with_reducible show AA _ [] _ _ _); refine aa_nil ?_)
  | ((with_reducible show AE _ (Expr.Constant _ _ _) _ _ _); first | refine ae_int ?_ | refine ae_str ?_ | refine ae_bl ?_ | refine ae_non ?_)
  | ((with_reducible show AE _ (Expr.BinOp _ Operator.Add _ _) _ _ _); refine ae_add ?_)
  | ((with_reducible show AE _ (Expr.BinOp _ Operator.Sub _ _) _ _ _); refine ae_sub ?_)
  | ((with_reducible show AE _ (Expr.BinOp _ Operator.Mult _ _) _ _ _); refine ae_mul ?_)
  | ((with_reducible show AE _ (Expr.BinOp _ Operator.FloorDiv _ _) _ _ _); refine ae_fdiv ?_)
  | ((with_reducible show AE _ (Expr.BinOp _ Operator.Mod _ _) _ _ _); refine ae_mod ?_)
  | ((with_reducible show AE _ (Expr.Compare _ [CmpOp.Lt] _ _) _ _ _); refine ae_lt ?_)
  | ((with_reducible show AE _ (Expr.Compare _ [CmpOp.LtE] _ _) _ _ _); refine ae_le ?_)
  | ((with_reducible show AE _ (Expr.Compare _ [CmpOp.Gt] _ _) _ _ _); refine ae_gt ?_)
  | ((with_reducible show AE _ (Expr.Compare _ [CmpOp.GtE] _ _) _ _ _); refine ae_ge ?_)
  | ((with_reducible show AE _ (Expr.Compare _ [CmpOp.Eq] _ _) _ _ _); refine ae_eqs ?_)
  | ((with_reducible show AE _ (Expr.Compare _ [CmpOp.NotEq] _ _) _ _ _); refine ae_nes ?_)
  | ((with_reducible show AT _ (Expr.Compare _ [CmpOp.Eq] _ _) _ _ _); refine at_eqs ?_)
  | ((with_reducible show AT _ (Expr.Compare _ [CmpOp.NotEq] _ _) _ _ _); refine at_nes ?_)
  | ((with_reducible show AT _ (Expr.Compare _ [CmpOp.Lt] _ _) _ _ _); refine at_lt ?_)
  | ((with_reducible show AT _ (Expr.Compare _ [CmpOp.LtE] _ _) _ _ _); refine at_le ?_)
  | ((with_reducible show AT _ (Expr.Compare _ [CmpOp.Gt] _ _) _ _ _); refine at_gt ?_)
  | ((with_reducible show AT _ (Expr.Compare _ [CmpOp.GtE] _ _) _ _ _); refine at_ge ?_)
  | ((with_reducible show AT _ (Expr.UnaryOp UnaryOp.Not _ _) _ _ _); refine at_not ?_)
  | ((with_reducible show AT _ (Expr.Call _ _ _ _) _ _ _); refine at_val ?_)
  | ((with_reducible show AR _ rEq (DV.dat (PyData.int _)) (DV.dat (PyData.int _)) _ _); refine ar_eqI ?_)
  | ((with_reducible show AR _ rNe (DV.dat (PyData.int _)) (DV.dat (PyData.int _)) _ _); refine ar_neI ?_)
  | ((with_reducible show AR _ rEq (DV.dat (PyData.str _)) (DV.dat (PyData.str _)) _ _); refine ar_eqS ?_)
  | ((with_reducible show AR _ rNe (DV.dat (PyData.str _)) (DV.dat (PyData.str _)) _ _); refine ar_neS ?_)
  | ((with_reducible show ∃ c, DV.dat (PyData.bool _) = DV.dat (PyData.bool c) ∧ _); refine ⟨_, rfl, ?_⟩)
  | ((with_reducible show AE _ (Expr.Tuple _ _ _) _ _ _); refine ae_tup ?_)
  | ((with_reducible show AE _ (Expr.Subscript _ _ _) _ _ _); refine ae_ixT ?_)
  | ((with_reducible show ∃ i j, DV.dat (PyData.int _) = DV.dat (PyData.int i) ∧ DV.dat (PyData.int _) = DV.dat (PyData.int j) ∧ _); refine ⟨_, _, rfl, rfl, ?_⟩)
  | ((with_reducible show ∃ xs i d, DV.dat (PyData.tuple _) = DV.dat (PyData.tuple xs) ∧ _); refine ⟨_, _, _, rfl, rfl, rfl, ?_⟩))
local macro_rules | `(tactic| walk_at "ax") => `(tactic| repeat (walk_at "ax1"))
local macro_rules | `(tactic| walk_at "ay1") => `(tactic| first
  | walk_at "ax1"
  | ((with_reducible show AE _ (Expr.UnaryOp UnaryOp.USub _ _) _ _ _); refine ae_neg ?_)
  | ((with_reducible show ∃ i, DV.dat (PyData.int _) = DV.dat (PyData.int i) ∧ _); refine ⟨_, rfl, ?_⟩)
  | ((with_reducible show ∃ xs : List PyData, [_, _] = List.map DV.dat xs ∧ _); refine ⟨[_, _], rfl, Nat.le_of_ble_eq_true rfl, ?_⟩)
  | ((with_reducible show ∃ xs : List PyData, [_, _, _] = List.map DV.dat xs ∧ _); refine ⟨[_, _, _], rfl, Nat.le_of_ble_eq_true rfl, ?_⟩))
local macro_rules | `(tactic| walk_at "ay") => `(tactic| repeat (walk_at "ay1"))
variable {P : Program} {w : World} {K : PySem.W.Frag} {mg : Str → Option Value} {base : Heap} {C : Addr}
open TL Wd
set_option exponentiation.threshold 10000
open Fr (Bd)
theorem dxy_low {g : List Step} (hd : DenS g) (hx : ∀ s ∈ g, (s.1 : Int).natAbs ≤ 3) (hy : ∀ s ∈ g, (s.2.1 : Int).natAbs ≤ 3) : ∃ t wx wy : Int, 0 < t ∧ wx.natAbs ≤ 150 ∧ wy.natAbs ≤ 150 ∧ dXY g = (Fr.low wx t, Fr.low wy t) := by
  obtain ⟨_, t, wt, ht, ht2, hw, hsum⟩ := hd
  have e : ∀ κ : Step → Int, mulK κ g = (g.map fun s => κ s * wt s).map (Fr.low · t) := fun κ => by
    rw [List.map_map]
    refine List.map_congr_left fun s hs => ?_
    show Fr.mul (κ s, 1) s.2.2 = _
    rw [(hw s hs).2, Fr.mul_low ht]; rfl
  have b : ∀ κ : Step → Int, (∀ s ∈ g, (κ s).natAbs ≤ 3) → (g.map fun s => κ s * wt s).sum.natAbs ≤ 150 := fun κ hκ => by
    have := (wsum_le (wt := wt) (κ := κ) (g := g) g.length fun s hs => ⟨(hw s hs).1, hκ s hs⟩).1
    rw [List.take_length, hsum] at this
    omega
  refine ⟨t, _, _, ht, b (fun s => s.1) hx, b (fun s => s.2.1) hy, ?_⟩
  unfold dXY
  rw [e, e, Fr.sum_lows ht, Fr.sum_lows ht]
theorem share_val {N Q : Int} (hN : 0 < N) (hQ : 0 < Q) : Fr.div (1, 2) (Fr.add (1, 1) (N, Q)) = Fr.low Q (2 * (Q + N)) := by
  have e1 : Fr.add (1, 1) (N, Q) = Fr.low (Q + N) Q := by
    unfold Fr.add
    simp only [Int.one_mul, Int.mul_one]
  rw [e1, show ((1 : Int), (2 : Int)) = Fr.low 1 2 by decide +kernel, Fr.div_low (by decide) hQ (by omega), Int.one_mul, Fr.lowS_pos (by omega)]
theorem along_val {N Q : Int} (hN : 0 < N) (hQ : 0 < Q) (hc : Fr.Can (N, Q)) : Fr.mul (Fr.low Q (2 * (Q + N))) (N, Q) = Fr.low N (2 * (Q + N)) := by
  have e := Fr.low_self hc
  rw [← e, Fr.mul_lows (by omega) hQ]
  show Fr.low (Q * N) (2 * (Q + N) * Q) = _
  rw [Int.mul_comm Q N, Fr.low_scale (by omega) hQ]
theorem flat_rows {N Q x1 y1 x2 y2 x3 y3 : Int} (hN : 0 < N) (hQ : 0 < Q) : rowsOf [(x1, y1), (x2, y2), (x3, y3)] [Q, N, Q + N] = [(x1, y1, Fr.low Q (2 * (Q + N))), (x2, y2, Fr.low N (2 * (Q + N))), (x3, y3, (1, 2))] := by
  unfold rowsOf
  have e : [Q, N, Q + N].sum = 2 * (Q + N) := by simp only [List.sum_cons, List.sum_nil]; omega
  rw [e]
  have e2 : Fr.low (Q + N) (2 * (Q + N)) = (1, 2) := by
    have := Fr.low_scale (n := 1) (d := 2) (c := Q + N) (by decide) (by omega)
    rw [Int.one_mul] at this
    rw [this]; decide +kernel
  show [(x1, y1, Fr.low Q (2 * (Q + N))), (x2, y2, Fr.low N (2 * (Q + N))), (x3, y3, Fr.low (Q + N) (2 * (Q + N)))] = _
  rw [e2]
def setO (o : Own) (r : Str) (g : List Step) : Own := fun x => if x = r then g else o x
theorem own_put {o : Own} {r : Str} {g : List Step} (hr : r ∈ regs) : putD (ownK o) (.inr r) (.dat (.list (g.map stD))) = ownK (setO o r g) := by
  unfold ownK setO
  simp only [regs, List.mem_cons, List.not_mem_nil, or_false] at hr
  rcases hr with rfl | rfl | rfl | rfl <;> rfl
theorem own_merge {o : Own} : mergeD [] (ownK o) = ownK o := by
  rfl
theorem own_good {o : Own} {r : Str} {g : List Step} (ho : ∀ x ∈ regs, RowsOk x (o x)) (hg : RowsOk r g) : ∀ x ∈ regs, RowsOk x (setO o r g x) := fun x hx => by
  unfold setO
  by_cases h : x = r
  · rw [if_pos h, h]; exact hg
  · rw [if_neg h]; exact ho x hx
end B

set_option Elab.async false
set_option linter.all false
set_option maxRecDepth 100000
set_option maxHeartbeats 4000000
namespace B
open PySem PySem.Spec PyProof.Rows L2 A
local macro_rules | `(tactic| walk_at "nm") => `(tactic| refine ae_nameT (by assumption) rfl ?_)
local macro_rules | `(tactic| walk_at "ag") => `(tactic| refine ag_nameT (by assumption) (by assumption) ?_)
local macro_rules | `(tactic| walk_at "agc") => `(tactic| (refine agc_nameU (by assumption) (by assumption) ?_ ?_; · decide))
local macro_rules | `(tactic| walk_at "set") => `(tactic| refine as_setT (by assumption) (by assumption) ?_)
local macro_rules | `(tactic| walk_at "ax1") => `(tactic| first
  | ((with_reducible show AE _ (Expr.Name _ _) _ _ _); walk_at "nm")
  | ((with_reducible show AA _ (_ :: _) _ _ _); refine aa_cons ?_)
  | ((with_reducible show AA _ [] _ _ _); refine aa_nil ?_)
  | ((with_reducible show AE _ (Expr.Constant _ _ _) _ _ _); first | refine ae_int ?_ | refine ae_str ?_ | refine ae_bl ?_ | refine ae_non ?_)
  | ((with_reducible show AE _ (Expr.BinOp _ Operator.Add _ _) _ _ _); refine ae_add ?_)
  | ((with_reducible show AE _ (Expr.BinOp _ Operator.Sub _ _) _ _ _); refine ae_sub ?_)
  | ((with_reducible show AE _ (Expr.BinOp _ Operator.Mult _ _) _ _ _); refine ae_mul ?_)
  | ((with_reducible show AE _ (Expr.BinOp _ Operator.FloorDiv _ _) _ _ _); refine ae_fdiv ?_)
  | ((with_reducible show AE _ (Expr.BinOp _ Operator.Mod _ _) _ _ _); refine ae_mod ?_)
  | ((with_reducible show AE _ (Expr.Compare _ [CmpOp.Lt] _ _) _ _ _); refine ae_lt ?_)
  | ((with_reducible show AE _ (Expr.Compare _ [CmpOp.LtE] _ _) _ _ _); refine ae_le ?_)
  | ((with_reducible show AE _ (Expr.Compare _ [CmpOp.Gt] _ _) _ _ _); refine ae_gt ?_)
  | ((with_reducible show AE _ (Expr.Compare _ [CmpOp.GtE] _ _) _ _ _); refine ae_ge ?_)
  | ((with_reducible show AE _ (Expr.Compare _ [CmpOp.Eq] _ _) _ _ _); refine ae_eqs ?_)
  | ((with_reducible show AE _ (Expr.Compare _ [CmpOp.NotEq] _ _) _ _ _); refine ae_nes ?_)
  | ((with_reducible show AT _ (Expr.Compare _ [CmpOp.Eq] _ _) _ _ _); refine at_eqs ?_)
  | ((with_reducible show AT _ (Expr.Compare _ [CmpOp.NotEq] _ _) _ _ _); refine at_nes ?_)
  | ((with_reducible show AT _ (Expr.Compare _ [CmpOp.Lt] _ _) _ _ _); refine at_lt ?_)
  | ((with_reducible show AT _ (Expr.Compare _ [CmpOp.LtE] _ _) _ _ _); refine at_le ?_)
  | ((with_reducible show AT _ (Expr.Compare _ [CmpOp.Gt] _ _) _ _ _); refine at_gt ?_)
  | ((with_reducible show AT _ (Expr.Compare _ [CmpOp.GtE] _ _) _ _ _); refine at_ge ?_)
  | ((with_reducible show AT _ (Expr.UnaryOp UnaryOp.Not _ _) _ _ _); refine at_not ?_)
  | ((with_reducible show AT _ (Expr.Call _ _ _ _) _ _ _); refine at_val ?_)
  | ((with_reducible show AR _ rEq (DV.dat (PyData.int _)) (DV.dat (PyData.int _)) _ _); refine ar_eqI ?_)
  | ((with_reducible show AR _ rNe (DV.dat (PyData.int _)) (DV.dat (PyData.int _)) _ _); refine ar_neI ?_)
  | ((with_reducible show AR _ rEq (DV.dat (PyData.str _)) (DV.dat (PyData.str _)) _ _); refine ar_eqS ?_)
  | ((with_reducible show AR _ rNe (DV.dat (PyData.str _)) (DV.dat (PyData.str _)) _ _); refine ar_neS ?_)
  | ((with_reducible show ∃ c, DV.dat (PyData.bool _) = DV.dat (PyData.bool c) ∧ _); refine ⟨_, rfl, ?_⟩)
  | ((with_reducible show AE _ (Expr.Tuple _ _ _) _ _ _); refine ae_tup ?_)
  | ((with_reducible show AE _ (Expr.Subscript _ _ _) _ _ _); refine ae_ixT ?_)
  | ((with_reducible show ∃ i j, DV.dat (PyData.int _) = DV.dat (PyData.int i) ∧ DV.dat (PyData.int _) = DV.dat (PyData.int j) ∧ _); refine ⟨_, _, rfl, rfl, ?_⟩)
  | ((with_reducible show ∃ xs i d, DV.dat (PyData.tuple _) = DV.dat (PyData.tuple xs) ∧ _); refine ⟨_, _, _, rfl, rfl, rfl, ?_⟩))
local macro_rules | `(tactic| walk_at "ax") => `(tactic| repeat (walk_at "ax1"))
local macro_rules | `(tactic| walk_at "ay1") => `(tactic| first
  | walk_at "ax1"
  | ((with_reducible show AE _ (Expr.UnaryOp UnaryOp.USub _ _) _ _ _); refine ae_neg ?_)
  | ((with_reducible show ∃ i, DV.dat (PyData.int _) = DV.dat (PyData.int i) ∧ _); refine ⟨_, rfl, ?_⟩)
  | ((with_reducible show ∃ xs : List PyData, [_, _] = List.map DV.dat xs ∧ _); refine ⟨[_, _], rfl, Nat.le_of_ble_eq_true rfl, ?_⟩)
  | ((with_reducible show ∃ xs : List PyData, [_, _, _] = List.map DV.dat xs ∧ _); refine ⟨[_, _, _], rfl, Nat.le_of_ble_eq_true rfl, ?_⟩))
local macro_rules | `(tactic| walk_at "ay") => `(tactic| repeat (walk_at "ay1"))
variable {P : Program} {w : World} {K : PySem.W.Frag} {mg : Str → Option Value} {base : Heap} {C : Addr}
open TL Wd
set_option maxHeartbeats 40000000
set_option exponentiation.threshold 10000
open Fr (Bd)
def S_tflat : DS1 := fun vs M k => ∃ (p : Addr) (o : Own) (sd : Str), vs = [.raw (.ref p), .dat (.str sd)] ∧ M p = some (.dK (ownK o)) ∧ DrO o ∧ (sd = "first" ∨ sd = "second") ∧ k (.raw (.ref p)) M ∧ ∀ r o', GoodO o' → M r = none → k (.raw (.ref r)) (upM M r (.dK (ownK o')))
theorem sc__law_turned_flat : FnScope ["own", "side", "mx", "my", "ratio", "size", "share", "sign", "up", "along", "found", "rows", "j", "i", "chance"] ["own", "side"] (defScope s__law_turned_flat) := ⟨rfl, rfl, rfl, by decide +kernel, rfl, by decide +kernel, by decide +kernel⟩
abbrev swD : DV → DV
  | .dat (.tuple [.int i, .int j, c]) => .dat (.tuple [.int j, .int i, c])
  | d => d
abbrev swS (s : Step) : Step := (s.2.1, s.1, s.2.2)
def flatR (s N Q : Int) : List Step := [(0, 1, Fr.low Q (2 * (Q + N))), (s, 0, Fr.low N (2 * (Q + N))), (0, 0, (1, 2))]
theorem flat_ok {sd : Str} (hs : sd = "first" ∨ sd = "second") {s N Q : Int} (h1 : s = 1 ∨ s = -1) (hN : 0 < N) (hQ : 0 < Q) (bN : N ≤ 150) (bQ : Q ≤ 150) : RowsOk sd (if sd = "first" then flatR s N Q else (flatR s N Q).map swS) := by
  rcases hs with rfl | rfl
  · rw [if_pos rfl]
    unfold flatR
    rw [← flat_rows hN hQ]
    refine rows_gen ?_ ?_ rfl ?_ (Nat.le_of_ble_eq_true rfl) (Nat.le_of_ble_eq_true rfl) ?_
    · rcases h1 with rfl | rfl <;> decide
    · rcases h1 with rfl | rfl <;> decide +kernel
    · intro w hw
      simp only [List.mem_cons, List.not_mem_nil, or_false] at hw
      omega
    · simp only [List.sum_cons, List.sum_nil]; omega
  · rw [if_neg (by decide +kernel)]
    have e : (flatR s N Q).map swS = [(1, 0, Fr.low Q (2 * (Q + N))), (0, s, Fr.low N (2 * (Q + N))), (0, 0, (1, 2))] := rfl
    rw [e, ← flat_rows hN hQ]
    refine rows_gen ?_ ?_ rfl ?_ (Nat.le_of_ble_eq_true rfl) (Nat.le_of_ble_eq_true rfl) ?_
    · rcases h1 with rfl | rfl <;> decide
    · rcases h1 with rfl | rfl <;> decide +kernel
    · intro w hw
      simp only [List.mem_cons, List.not_mem_nil, or_false] at hw
      omega
    · simp only [List.sum_cons, List.sum_nil]; omega
theorem ass_ds {X : Cx} {sts : List Stmt} {ds es : DS} {M : MS} {Z : AEnds} (h : ds = es) (q : ASs X sts es M Z) : ASs X sts ds M Z := h ▸ q
theorem d__law_turned_flat (T : Txt K mg C) (D_bdrift : Def P w K mg base "_law_book_drift" 5 S_bdrift) (D_fover : Def P w K mg base "_law_frac_over" 3 S_over) (D_plus : Def P w K mg base "_law_frac_plus" 3 S_added) (D_ftimes : Def P w K mg base "_law_frac_times" 3 S_times) {f : Addr} {fd : FuncData} (F : Fun K "_law_turned_flat" "_law_turned_flat" s__law_turned_flat f fd) (hm : mg "_law_turned_flat" = some (.ref f)) (hb : Binds K fd ["own", "side"] []) : Def P w K mg base "_law_turned_flat" 6 S_tflat := by
  refine def_ok F hm hb sc__law_turned_flat (fun ds M k h => ?_) (fun cdv A outer s H E ds M kk hl nd hr h => ?_)
  · obtain ⟨p, o, sd, rfl, _⟩ := h; rfl
  · obtain ⟨p, o, sd, rfl, hM, hdr, hsd, q1, q2⟩ := h
    have r1 : ("inside" : Str) ∈ regs := by simp [regs]
    have ho := hdr.good
    obtain ⟨k1, k2⟩ := may_key ho r1
    obtain ⟨t, wx, wy, ht, hwx, hwy, hxy⟩ := dxy_low (hdr _ r1).2 k1 k2
    refine as_cons (as_asg (ae_call D_bdrift hr ?_))
    walk_at "ax"
    refine ⟨p, o, _, rfl, hM, ho, r1, ?_⟩
    rw [hxy]
    refine ag_tup rfl rfl (ags_cons ?_)
    walk_at "ag"
    refine ags_cons ?_
    walk_at "ag"
    refine ags_nil ?_
    refine as_cons (as_ifP (decide ((Fr.low wx t).1 = 0) || decide ((Fr.low wy t).1 = 0)) (at_w (aw_or ?_)) (fun h => ?_) fun h => as_nil ?_)
    · walk_at "ax"
      refine ⟨fun h => ?_, fun h => aw_or1 ?_⟩
      · rw [h]; exact ⟨rfl, rfl⟩
      · walk_at "ax"
        rw [h]; exact ⟨rfl, rfl⟩
    · refine as_cons (as_ret ?_)
      walk_at "nm"
      exact q1
    rw [Bool.or_eq_false_iff] at h
    have nx := of_decide_eq_false h.1
    have ny := of_decide_eq_false h.2
    have wx0 : wx ≠ 0 := fun e => nx (by rw [e, Fr.low_zero ht])
    have wy0 : wy ≠ 0 := fun e => ny (by rw [e, Fr.low_zero ht])
    have e150 : (150 : Nat) < 2 ^ 8 := by decide
    have sm1 : Sm (Fr.low wx t) ∧ Sm (Fr.low wy t) := by
      have := dxy_bd ho r1
      rw [hxy] at this
      exact ⟨this.1.sm', this.2.sm'⟩
    have rat : ∀ a b : Int, a ≠ 0 → b ≠ 0 → a.natAbs ≤ 150 → b.natAbs ≤ 150 → Fr.div (Fr.low a t) (Fr.low b t) = Fr.lowS a b ∧ Fr.Can (Fr.lowS a b) ∧ (Fr.lowS a b).1 ≠ 0 ∧ (Fr.lowS a b).1.natAbs ≤ 150 ∧ (Fr.lowS a b).2 ≤ 150 := fun a b ha hb la lb => by
      have c := Fr.lowS_can (n := a) hb
      have l := Fr.lowS_le (n := a) hb
      refine ⟨?_, c, Fr.lowS_ne hb ha, by omega, by have := c.1; omega⟩
      rw [Fr.div_low ht ht hb]
      refine Fr.lowS_cross (Int.mul_ne_zero (by omega) hb) hb ?_
      ac_rfl
    walk_at "set"
    refine AE.imp (k := fun d M1 => (∃ R : Int × Int, d = frV R ∧ Fr.Can R ∧ R.1 ≠ 0 ∧ R.1.natAbs ≤ 150 ∧ R.2 ≤ 150) ∧ M = M1) ?_ (fun d M1 ⟨⟨R, e, rc, r0, rb1, rb2⟩, e2⟩ => ?_)
    · refine ae_if (at_eqs ?_)
      walk_at "ax"
      refine ⟨fun h => ae_call D_fover (hr.mono (by decide)) ?_, fun h => ae_call D_fover (hr.mono (by decide)) ?_⟩
      · walk_at "ax"
        refine ⟨_, _, rfl, sm1.1, sm1.2, ny, ?_⟩
        obtain ⟨e, z⟩ := rat wx wy wx0 wy0 hwx hwy
        rw [e]
        exact ⟨⟨_, rfl, z⟩, rfl⟩
      · walk_at "ax"
        refine ⟨_, _, rfl, sm1.2, sm1.1, nx, ?_⟩
        obtain ⟨e, z⟩ := rat wy wx wy0 wx0 hwy hwx
        rw [e]
        exact ⟨⟨_, rfl, z⟩, rfl⟩
    subst e
    subst e2
    obtain ⟨rP, rQ⟩ := R
    have hQ : 0 < rQ := rc.1
    have hcan : Fr.Can ((rP.natAbs : Int), rQ) := ⟨hQ, by have := rc.2; simpa using this⟩
    have hN : 0 < (rP.natAbs : Int) := by have : rP ≠ 0 := r0; omega
    have bN : (rP.natAbs : Int) ≤ 150 := by have : rP.natAbs ≤ 150 := rb1; omega
    have bQ : rQ ≤ 150 := rb2
    walk_at "set"
    refine ae_tup (aa_cons (ae_abs T.b_abs ?_))
    walk_at "ax"
    refine ⟨_, rfl, ?_⟩
    rw [abs_if]
    generalize (rP.natAbs : Int) = N at hN bN hcan
    walk_at "ay"
    have s2 : Sm (N, rQ) := ⟨hQ, Nat.lt_of_le_of_lt (m := 150) (show N.natAbs ≤ 150 by omega) (by decide +kernel), Nat.lt_of_le_of_lt (m := 150) (show rQ.natAbs ≤ 150 by omega) (by decide +kernel)⟩
    have s11 : Sm (1, 1) := sm_key (i := 1) (by decide)
    have s12 : Sm (1, 2) := ⟨by show (0 : Int) < 2; decide, by show (1 : Int).natAbs < 2 ^ 2000; decide +kernel, by show (2 : Int).natAbs < 2 ^ 2000; decide +kernel⟩
    have bAdd : Bd 20 (Fr.add (1, 1) (N, rQ)) := (Bd.add (j := 2) (k := 8) (f := (1, 1)) (g := (N, rQ)) ⟨by decide, by decide, by decide⟩ ⟨hQ, by show N.natAbs < 2 ^ 8; omega, by show rQ.natAbs < 2 ^ 8; omega⟩).mono (by decide)
    have nAdd : (Fr.add (1, 1) (N, rQ)).1 ≠ 0 := by
      have e1 : Fr.add (1, 1) (N, rQ) = Fr.low (rQ + N) rQ := by
        unfold Fr.add
        simp only [Int.one_mul, Int.mul_one]
      rw [e1]; exact Fr.low_num_ne hQ (by omega)
    walk_at "set"
    refine ae_call D_fover (hr.mono (by decide)) ?_
    walk_at "ay"
    refine ae_call D_plus (hr.mono (by decide)) ?_
    walk_at "ay"
    refine ⟨_, _, rfl, s11, s2, aa_nil ⟨(1, 2), _, rfl, s12, Bd.sm bAdd (by decide), nAdd, ?_⟩⟩
    rw [share_val hN hQ]
    walk_at "set"
    refine AE.imp (k := fun d M1 => (∃ s : Int, d = .dat (.int s) ∧ (s = 1 ∨ s = -1)) ∧ M = M1) ?_ (fun d M1 ⟨⟨sg, e, hsg⟩, e2⟩ => ?_)
    · refine ae_if ?_
      walk_at "ax"
      refine ⟨fun h => ?_, fun h => ?_⟩
      · walk_at "ax"
        exact ⟨⟨_, rfl, .inl rfl⟩, rfl⟩
      · walk_at "ay"
        exact ⟨⟨_, rfl, .inr rfl⟩, rfl⟩
    subst e
    subst e2
    have bsh : Bd 20 (Fr.low rQ (2 * (rQ + N))) := Bd.low (by omega) (by omega) (by omega)
    refine as_cons (as_par 8 9 rfl nd ?_)
    walk_at "ay"
    refine ae_call D_ftimes (hr.mono (by decide)) ?_
    walk_at "ax"
    refine ⟨_, (N, rQ), rfl, Bd.sm bsh (by decide), s2, ?_⟩
    rw [along_val hN hQ hcan]
    walk_at "ay"
    refine ⟨_, _, rfl, ?_⟩
    walk_at "set"
    refine ae_dictItems rfl T.b_dict T.b_list ?_
    walk_at "nm"
    refine ⟨p, _, rfl, hM, fun r hrM => ?_⟩
    rw [own_merge]
    walk_at "set"
    refine ae_P (.dat (.list ((flatR sg N rQ).map stD))) (ae_lstD ?_) ?_
    · walk_at "ay"
      exact ⟨rfl, rfl⟩
    have hfl : (flatR sg N rQ).length = 3 := rfl
    have npr : p ≠ r := fun e => by rw [← e, hM] at hrM; cases hrM
    have hR := flat_ok hsd hsg hN hQ bN bQ
    generalize flatR sg N rQ = rws at hfl hR
    refine ass_ds (es := [some (.raw (.ref p)), some (.dat (.str sd)), some _, some _, some _, some _, some _, some _, some _, some _, some (.raw (.ref r)), some (.dat (.list (rws.map stD))), none, none, none]) rfl ?_
    refine as_cons (as_dput (hu1 hr) ?_)
    refine AE.imp (k := fun d M1 => d = .dat (.list ((if sd = "first" then rws else rws.map swS).map stD)) ∧ upM M r (.dK (ownK o)) = M1) ?_ (fun d M1 ⟨e, e2⟩ => ?_)
    · refine ae_if (at_eqs ?_)
      walk_at "ax"
      refine ⟨fun h => ?_, fun h => ?_⟩
      · walk_at "ax"
        rw [if_pos (of_decide_eq_true h)]
        exact ⟨rfl, rfl⟩
      · rw [if_neg (of_decide_eq_false h)]
        refine ae_wk (ae_lcP rfl nd (blkOk_by (own := [("i", 13), ("j", 12), ("chance", 14)]) rfl) swD (ai_list ?_))
        walk_at "ax"
        refine ⟨_, rfl, fun _ _ _ => trivial, by rw [List.length_map, List.length_map, hfl]; decide, fun d M3 hd hle3 s H C cl fp => ?_, fun D hD => ?_⟩
        · obtain ⟨y, hy, rfl⟩ := List.mem_map.mp hd
          obtain ⟨st, hst, rfl⟩ := List.mem_map.mp hy
          refine agc_tup rfl rfl (agcs_cons ?_)
          walk_at "agc"
          refine agcs_cons ?_
          walk_at "agc"
          refine agcs_cons ?_
          walk_at "agc"
          refine agcs_nil fun s H C cl fp => ?_
          walk_at "ay"
          exact ⟨rfl, rfl⟩
        · have e : ((rws.map stD).map DV.dat).map swD = ((rws.map swS).map stD).map .dat := by
            rw [List.map_map, List.map_map, List.map_map, List.map_map]; rfl
          rw [e]
          exact ⟨_, _, wk_new hD, rfl, rfl⟩
    subst e
    subst e2
    walk_at "ax"
    refine ⟨r, _, sd, rfl, rfl, upM_same, Nat.lt_of_lt_of_le (m := 5) (Nat.le_of_ble_eq_true rfl) (by decide) |> Nat.le_of_lt, ?_⟩
    rw [upM_upM, own_put (by rcases hsd with rfl | rfl <;> simp [regs])]
    refine as_cons (as_ret ?_)
    walk_at "nm"
    exact q2 r _ (GoodO.of (own_good (fun x hx => (hdr x hx).1) hR)) hrM
end B

set_option Elab.async false
set_option linter.all false
set_option maxRecDepth 100000
set_option maxHeartbeats 4000000
namespace B
open PySem PySem.Spec PyProof.Rows L2 A
local macro_rules | `(tactic| walk_at "nm") => `(tactic| refine ae_nameT (by assumption) rfl ?_)
local macro_rules | `(tactic| walk_at "ag") => `(tactic| refine ag_nameT (by assumption) (by assumption) ?_)
local macro_rules | `(tactic| walk_at "agc") => `(tactic| (refine agc_nameU (by assumption) (by assumption) ?_ ?_; · decide))
local macro_rules | `(tactic| walk_at "set") => `(tactic| refine as_setT (by assumption) (by assumption) ?_)
local macro_rules | `(tactic| walk_at "ax1") => `(tactic| first
  | ((with_reducible show AE _ (Expr.Name _ _) _ _ _); walk_at "nm")
  | ((with_reducible show AA _ (_ :: _) _ _ _); refine aa_cons ?_)
  | ((with_reducible show AA _ [] _ _ _); refine aa_nil ?_)
  | ((with_reducible show AE _ (Expr.Constant _ _ _) _ _ _); first | refine ae_int ?_ | refine ae_str ?_ | refine ae_bl ?_ | refine ae_non ?_)
  | ((with_reducible show AE _ (Expr.BinOp _ Operator.Add _ _) _ _ _); refine ae_add ?_)
  | ((with_reducible show AE _ (Expr.BinOp _ Operator.Sub _ _) _ _ _); refine ae_sub ?_)
  | ((with_reducible show AE _ (Expr.BinOp _ Operator.Mult _ _) _ _ _); refine ae_mul ?_)
  | ((with_reducible show AE _ (Expr.BinOp _ Operator.FloorDiv _ _) _ _ _); refine ae_fdiv ?_)
  | ((with_reducible show AE _ (Expr.BinOp _ Operator.Mod _ _) _ _ _); refine ae_mod ?_)
  | ((with_reducible show AE _ (Expr.Compare _ [CmpOp.Lt] _ _) _ _ _); refine ae_lt ?_)
  | ((with_reducible show AE _ (Expr.Compare _ [CmpOp.LtE] _ _) _ _ _); refine ae_le ?_)
  | ((with_reducible show AE _ (Expr.Compare _ [CmpOp.Gt] _ _) _ _ _); refine ae_gt ?_)
  | ((with_reducible show AE _ (Expr.Compare _ [CmpOp.GtE] _ _) _ _ _); refine ae_ge ?_)
  | ((with_reducible show AE _ (Expr.Compare _ [CmpOp.Eq] _ _) _ _ _); refine ae_eqs ?_)
  | ((with_reducible show AE _ (Expr.Compare _ [CmpOp.NotEq] _ _) _ _ _); refine ae_nes ?_)
  | ((with_reducible show AT _ (Expr.Compare _ [CmpOp.Eq] _ _) _ _ _); refine at_eqs ?_)
  | ((with_reducible show AT _ (Expr.Compare _ [CmpOp.NotEq] _ _) _ _ _); refine at_nes ?_)
  | ((with_reducible show AT _ (Expr.Compare _ [CmpOp.Lt] _ _) _ _ _); refine at_lt ?_)
  | ((with_reducible show AT _ (Expr.Compare _ [CmpOp.LtE] _ _) _ _ _); refine at_le ?_)
  | ((with_reducible show AT _ (Expr.Compare _ [CmpOp.Gt] _ _) _ _ _); refine at_gt ?_)
  | ((with_reducible show AT _ (Expr.Compare _ [CmpOp.GtE] _ _) _ _ _); refine at_ge ?_)
  | ((with_reducible show AT _ (Expr.UnaryOp UnaryOp.Not _ _) _ _ _); refine at_not ?_)
  | ((with_reducible show AT _ (Expr.Call _ _ _ _) _ _ _); refine at_val ?_)
  | ((with_reducible show AR _ rEq (DV.dat (PyData.int _)) (DV.dat (PyData.int _)) _ _); refine ar_eqI ?_)
  | ((with_reducible show AR _ rNe (DV.dat (PyData.int _)) (DV.dat (PyData.int _)) _ _); refine ar_neI ?_)
  | ((with_reducible show AR _ rEq (DV.dat (PyData.str _)) (DV.dat (PyData.str _)) _ _); refine ar_eqS ?_)
  | ((with_reducible show AR _ rNe (DV.dat (PyData.str _)) (DV.dat (PyData.str _)) _ _); refine ar_neS ?_)
  | ((with_reducible show ∃ c, DV.dat (PyData.bool _) = DV.dat (PyData.bool c) ∧ _); refine ⟨_, rfl, ?_⟩)
  | ((with_reducible show AE _ (Expr.Tuple _ _ _) _ _ _); refine ae_tup ?_)
  | ((with_reducible show AE _ (Expr.Subscript _ _ _) _ _ _); refine ae_ixT ?_)
  | ((with_reducible show ∃ i j, DV.dat (PyData.int _) = DV.dat (PyData.int i) ∧ DV.dat (PyData.int _) = DV.dat (PyData.int j) ∧ _); refine ⟨_, _, rfl, rfl, ?_⟩)
  | ((with_reducible show ∃ xs i d, DV.dat (PyData.tuple _) = DV.dat (PyData.tuple xs) ∧ _); refine ⟨_, _, _, rfl, rfl, rfl, ?_⟩))
local macro_rules | `(tactic| walk_at "ax") => `(tactic| repeat (walk_at "ax1"))
local macro_rules | `(tactic| walk_at "ay1") => `(tactic| first
  | walk_at "ax1"
  | ((with_reducible show AE _ (Expr.UnaryOp UnaryOp.USub _ _) _ _ _); refine ae_neg ?_)
  | ((with_reducible show ∃ i, DV.dat (PyData.int _) = DV.dat (PyData.int i) ∧ _); refine ⟨_, rfl, ?_⟩)
  | ((with_reducible show ∃ xs : List PyData, [_, _] = List.map DV.dat xs ∧ _); refine ⟨[_, _], rfl, Nat.le_of_ble_eq_true rfl, ?_⟩)
  | ((with_reducible show ∃ xs : List PyData, [_, _, _] = List.map DV.dat xs ∧ _); refine ⟨[_, _, _], rfl, Nat.le_of_ble_eq_true rfl, ?_⟩))
local macro_rules | `(tactic| walk_at "ay") => `(tactic| repeat (walk_at "ay1"))
variable {P : Program} {w : World} {K : PySem.W.Frag} {mg : Str → Option Value} {base : Heap} {C : Addr}
open TL Wd
set_option exponentiation.threshold 10000
set_option maxHeartbeats 40000000
def dropM (M : MS) (q : Addr) : MS := fun a => if a = q then none else M a
theorem drop_up {M : MS} {q : Addr} {x : MO} : dropM (upM M q x) q = dropM M q := by
  funext a
  unfold dropM upM
  by_cases h : a = q
  · rw [if_pos h, if_pos h]
  · rw [if_neg h, if_neg h, if_neg h]
theorem drop_at {M : MS} {q : Addr} : dropM M q q = none := if_pos rfl
theorem drop_none {M : MS} {p q : Addr} (h : M p = none) : dropM M q p = none := by
  unfold dropM
  split
  · rfl
  · exact h
theorem drop_le0 {M : MS} {q : Addr} : Le (dropM M q) M := fun a m h => by
  unfold dropM at h
  split at h
  · cases h
  · exact h
theorem drop_le1 {M N : MS} {q : Addr} {x : MO} (h : Le (dropM M q) N) : Le (dropM M q) (upM N q x) := h.up drop_at
def S_bdrawn : DS1 := fun vs M k => ∃ (q : Addr) (n : Nat), vs = [.raw (.ref q)] ∧ PotAt M q n ∧ n ≤ 700000 ∧ ∀ N p o, GoodO o → N p = some (.dK (ownK o)) → p ≠ q → Le (dropM M q) N → PotAt N q (n + 60) → k (.raw (.ref p)) N
theorem sc__law_border_drawn : FnScope ["pot", "own", "way"] ["pot"] (defScope s__law_border_drawn) := ⟨rfl, rfl, rfl, by decide +kernel, rfl, by decide +kernel, by decide +kernel⟩
theorem in0_ok {a b : Int} (a0 : 0 ≤ a) (a3 : a < 3) (b0 : 0 ≤ b) (b3 : b < 3) : RowsOk "inside" [(1, a - 1, (1, 3)), (-1, b - 1, (1, 3)), (0, 1, (1, 3))] := by
  have ha : a = 0 ∨ a = 1 ∨ a = 2 := by omega
  have hb : b = 0 ∨ b = 1 ∨ b = 2 := by omega
  have e : ∀ x y : Int, ([(1, x, (1, 3)), (-1, y, (1, 3)), (0, 1, (1, 3))] : List Step) = rowsOf [(1, x), (-1, y), (0, 1)] [1, 1, 1] := fun x y => by
    have : Fr.low 1 3 = (1, 3) := by decide +kernel
    show _ = [(1, x, Fr.low 1 3), (-1, y, Fr.low 1 3), (0, 1, Fr.low 1 3)]
    rw [this]
  rw [e]
  refine rows_gen ?_ ?_ rfl (by decide) (Nat.le_of_ble_eq_true rfl) (Nat.le_of_ble_eq_true rfl) (by decide)
  · rcases ha with rfl | rfl | rfl <;> rcases hb with rfl | rfl | rfl <;> decide
  · rcases ha with rfl | rfl | rfl <;> rcases hb with rfl | rfl | rfl <;> decide +kernel
theorem in1_ok {a b c : Int} (a0 : 0 ≤ a) (a3 : a < 3) (b0 : 0 ≤ b) (b3 : b < 3) (hc : c = -1 ∨ c = 0) : RowsOk "inside" [(a - 1, 1, (1, 4)), (b - 1, -1, (1, 4)), (c, 0, (1, 2))] := by
  have ha : a = 0 ∨ a = 1 ∨ a = 2 := by omega
  have hb : b = 0 ∨ b = 1 ∨ b = 2 := by omega
  have e : ∀ x y : Int, ([(x, 1, (1, 4)), (y, -1, (1, 4)), (c, 0, (1, 2))] : List Step) = rowsOf [(x, 1), (y, -1), (c, 0)] [1, 1, 2] := fun x y => by
    have h1 : Fr.low 1 4 = (1, 4) := by decide +kernel
    have h2 : Fr.low 2 4 = (1, 2) := by decide +kernel
    show _ = [(x, 1, Fr.low 1 4), (y, -1, Fr.low 1 4), (c, 0, Fr.low 2 4)]
    rw [h1, h2]
  rw [e]
  refine rows_gen ?_ ?_ rfl (by decide) (Nat.le_of_ble_eq_true rfl) (Nat.le_of_ble_eq_true rfl) (by decide)
  · rcases ha with rfl | rfl | rfl <;> rcases hb with rfl | rfl | rfl <;> rcases hc with rfl | rfl <;> decide
  · rcases ha with rfl | rfl | rfl <;> rcases hb with rfl | rfl | rfl <;> rcases hc with rfl | rfl <;> decide +kernel
theorem fi_ok : RowsOk "first" [(1, 0, (2, 5)), (-1, 0, (3, 5))] := by
  have h1 : ([(1, 0, (2, 5)), (-1, 0, (3, 5))] : List Step) = rowsOf [(1, 0), (-1, 0)] [2, 3] := by decide +kernel
  rw [h1]
  exact rows_gen (by decide) (by decide +kernel) rfl (by decide) (Nat.le_of_ble_eq_true rfl) (Nat.le_of_ble_eq_true rfl) (by decide)
theorem se_ok : RowsOk "second" [(0, 2, (1, 5)), (0, -1, (4, 5))] := by
  have h1 : ([(0, 2, (1, 5)), (0, -1, (4, 5))] : List Step) = rowsOf [(0, 2), (0, -1)] [1, 4] := by decide +kernel
  rw [h1]
  exact rows_gen (by decide) (by decide +kernel) rfl (by decide) (Nat.le_of_ble_eq_true rfl) (Nat.le_of_ble_eq_true rfl) (by decide)
end B

set_option Elab.async false
set_option linter.all false
set_option maxRecDepth 100000
set_option maxHeartbeats 4000000
namespace B
open PySem PySem.Spec PyProof.Rows L2 A
local macro_rules | `(tactic| walk_at "nm") => `(tactic| refine ae_nameT (by assumption) rfl ?_)
local macro_rules | `(tactic| walk_at "ag") => `(tactic| refine ag_nameT (by assumption) (by assumption) ?_)
local macro_rules | `(tactic| walk_at "agc") => `(tactic| (refine agc_nameU (by assumption) (by assumption) ?_ ?_; · decide))
local macro_rules | `(tactic| walk_at "set") => `(tactic| refine as_setT (by assumption) (by assumption) ?_)
local macro_rules | `(tactic| walk_at "ax1") => `(tactic| first
  | ((with_reducible show AE _ (Expr.Name _ _) _ _ _); walk_at "nm")
  | ((with_reducible show AA _ (_ :: _) _ _ _); refine aa_cons ?_)
  | ((with_reducible show AA _ [] _ _ _); refine aa_nil ?_)
  | ((with_reducible show AE _ (Expr.Constant _ _ _) _ _ _); first | refine ae_int ?_ | refine ae_str ?_ | refine ae_bl ?_ | refine ae_non ?_)
  | ((with_reducible show AE _ (Expr.BinOp _ Operator.Add _ _) _ _ _); refine ae_add ?_)
  | ((with_reducible show AE _ (Expr.BinOp _ Operator.Sub _ _) _ _ _); refine ae_sub ?_)
  | ((with_reducible show AE _ (Expr.BinOp _ Operator.Mult _ _) _ _ _); refine ae_mul ?_)
  | ((with_reducible show AE _ (Expr.BinOp _ Operator.FloorDiv _ _) _ _ _); refine ae_fdiv ?_)
  | ((with_reducible show AE _ (Expr.BinOp _ Operator.Mod _ _) _ _ _); refine ae_mod ?_)
  | ((with_reducible show AE _ (Expr.Compare _ [CmpOp.Lt] _ _) _ _ _); refine ae_lt ?_)
  | ((with_reducible show AE _ (Expr.Compare _ [CmpOp.LtE] _ _) _ _ _); refine ae_le ?_)
  | ((with_reducible show AE _ (Expr.Compare _ [CmpOp.Gt] _ _) _ _ _); refine ae_gt ?_)
  | ((with_reducible show AE _ (Expr.Compare _ [CmpOp.GtE] _ _) _ _ _); refine ae_ge ?_)
  | ((with_reducible show AE _ (Expr.Compare _ [CmpOp.Eq] _ _) _ _ _); refine ae_eqs ?_)
  | ((with_reducible show AE _ (Expr.Compare _ [CmpOp.NotEq] _ _) _ _ _); refine ae_nes ?_)
  | ((with_reducible show AT _ (Expr.Compare _ [CmpOp.Eq] _ _) _ _ _); refine at_eqs ?_)
  | ((with_reducible show AT _ (Expr.Compare _ [CmpOp.NotEq] _ _) _ _ _); refine at_nes ?_)
  | ((with_reducible show AT _ (Expr.Compare _ [CmpOp.Lt] _ _) _ _ _); refine at_lt ?_)
  | ((with_reducible show AT _ (Expr.Compare _ [CmpOp.LtE] _ _) _ _ _); refine at_le ?_)
  | ((with_reducible show AT _ (Expr.Compare _ [CmpOp.Gt] _ _) _ _ _); refine at_gt ?_)
  | ((with_reducible show AT _ (Expr.Compare _ [CmpOp.GtE] _ _) _ _ _); refine at_ge ?_)
  | ((with_reducible show AT _ (Expr.UnaryOp UnaryOp.Not _ _) _ _ _); refine at_not ?_)
  | ((with_reducible show AT _ (Expr.Call _ _ _ _) _ _ _); refine at_val ?_)
  | ((with_reducible show AR _ rEq (DV.dat (PyData.int _)) (DV.dat (PyData.int _)) _ _); refine ar_eqI ?_)
  | ((with_reducible show AR _ rNe (DV.dat (PyData.int _)) (DV.dat (PyData.int _)) _ _); refine ar_neI ?_)
  | ((with_reducible show AR _ rEq (DV.dat (PyData.str _)) (DV.dat (PyData.str _)) _ _); refine ar_eqS ?_)
  | ((with_reducible show AR _ rNe (DV.dat (PyData.str _)) (DV.dat (PyData.str _)) _ _); refine ar_neS ?_)
  | ((with_reducible show ∃ c, DV.dat (PyData.bool _) = DV.dat (PyData.bool c) ∧ _); refine ⟨_, rfl, ?_⟩)
  | ((with_reducible show AE _ (Expr.Tuple _ _ _) _ _ _); refine ae_tup ?_)
  | ((with_reducible show AE _ (Expr.Subscript _ _ _) _ _ _); refine ae_ixT ?_)
  | ((with_reducible show ∃ i j, DV.dat (PyData.int _) = DV.dat (PyData.int i) ∧ DV.dat (PyData.int _) = DV.dat (PyData.int j) ∧ _); refine ⟨_, _, rfl, rfl, ?_⟩)
  | ((with_reducible show ∃ xs i d, DV.dat (PyData.tuple _) = DV.dat (PyData.tuple xs) ∧ _); refine ⟨_, _, _, rfl, rfl, rfl, ?_⟩))
local macro_rules | `(tactic| walk_at "ax") => `(tactic| repeat (walk_at "ax1"))
local macro_rules | `(tactic| walk_at "ay1") => `(tactic| first
  | walk_at "ax1"
  | ((with_reducible show AE _ (Expr.UnaryOp UnaryOp.USub _ _) _ _ _); refine ae_neg ?_)
  | ((with_reducible show ∃ i, DV.dat (PyData.int _) = DV.dat (PyData.int i) ∧ _); refine ⟨_, rfl, ?_⟩)
  | ((with_reducible show ∃ xs : List PyData, [_, _] = List.map DV.dat xs ∧ _); refine ⟨[_, _], rfl, Nat.le_of_ble_eq_true rfl, ?_⟩)
  | ((with_reducible show ∃ xs : List PyData, [_, _, _] = List.map DV.dat xs ∧ _); refine ⟨[_, _, _], rfl, Nat.le_of_ble_eq_true rfl, ?_⟩))
local macro_rules | `(tactic| walk_at "ay") => `(tactic| repeat (walk_at "ay1"))
variable {P : Program} {w : World} {K : PySem.W.Frag} {mg : Str → Option Value} {base : Heap} {C : Addr}
open TL Wd
set_option exponentiation.threshold 10000
set_option maxHeartbeats 40000000
theorem d__law_border_drawn (T : Txt K mg C) (D_take : Def P w K mg base "_law_take" 1 S_take) (D_drawn : Def P w K mg base "_law_book_drawn" 4 S_drawn) (D_tflat : Def P w K mg base "_law_turned_flat" 6 S_tflat) {f : Addr} {fd : FuncData} (F : Fun K "_law_border_drawn" "_law_border_drawn" s__law_border_drawn f fd) (hm : mg "_law_border_drawn" = some (.ref f)) (hb : Binds K fd ["pot"] []) : Def P w K mg base "_law_border_drawn" 7 S_bdrawn := by
  refine def_ok F hm hb sc__law_border_drawn (fun ds M k h => ?_) (fun cdv A outer s H E ds M kk hl nd hr h => ?_)
  · obtain ⟨q, n, rfl, _⟩ := h; rfl
  · obtain ⟨q1, n, rfl, ⟨o0, s0, c0, hM0, hp0⟩, hn, q⟩ := h
    refine as_cons (as_par 1 2 rfl nd ?_)
    refine aa_cons (ae_call D_drawn (hr.mono (by decide)) ?_)
    walk_at "ax"
    refine ae_call D_take (hr.mono (by decide)) ?_
    walk_at "ax"
    refine ⟨q1, 2, o0, s0, c0, n, rfl, hM0, hp0, by omega, by decide, by decide, fun m o1 s1 c1 hp1 m0 m2 => ?_⟩
    walk_at "ax"
    refine ⟨q1, 1 + m, n + 1, rfl, .mk' hp1, by omega, by omega, by omega, fun o p o2 s2 c2 hdr hpM hp2 => ?_⟩
    rw [upM_upM]
    have npq : p ≠ q1 := fun e => by rw [e, upM_same] at hpM; cases hpM
    rw [upM_ne npq] at hpM
    have hpd : dropM M q1 p = none := drop_none hpM
    have hNq : upM (upM M q1 (potO o2 s2 c2)) p (.dK (ownK o)) q1 = some (potO o2 s2 c2) := by rw [upM_ne npq.symm]; exact upM_same
    have hNp : upM (upM M q1 (potO o2 s2 c2)) p (.dK (ownK o)) p = some (.dK (ownK o)) := upM_same
    have hNl : Le (dropM M q1) (upM (upM M q1 (potO o2 s2 c2)) p (.dK (ownK o))) := (drop_le1 drop_le0).up hpd
    generalize upM (upM M q1 (potO o2 s2 c2)) p (.dK (ownK o)) = N at hNq hNp hNl
    refine aa_cons (ae_call D_take (hr.mono (by decide)) ?_)
    walk_at "ax"
    refine ⟨q1, 7, o2, s2, c2, _, rfl, hNq, hp2, by omega, by decide, by decide, fun wy o3 s3 c3 hp3 w0 w7 => aa_nil ⟨_, _, rfl, ?_⟩⟩
    have hNq : upM N q1 (potO o3 s3 c3) q1 = some (potO o3 s3 c3) := upM_same
    have hNp : upM N q1 (potO o3 s3 c3) p = some (.dK (ownK o)) := by rw [upM_ne npq]; exact hNp
    have hNl := drop_le1 (x := potO o3 s3 c3) hNl
    generalize upM N q1 (potO o3 s3 c3) = N at hNq hNp hNl
    have hgo : ∀ x ∈ regs, RowsOk x (o x) := fun x hx => (hdr x hx).1
    have r1 : ("inside" : Str) ∈ regs := by simp [regs]
    have hlen : (ownK o).length ≤ 1000 := Nat.le_of_ble_eq_true rfl
    have fin : ∀ {N o' o3 s3 c3}, GoodO o' → N p = some (.dK (ownK o')) → Le (dropM M q1) N → N q1 = some (potO o3 s3 c3) → PotB o3 s3 c3 (n + 50) → kk (.raw (.ref p)) N := fun hg h1 h2 h3 h4 => q _ p _ hg h1 npq h2 ⟨_, _, _, h3, h4.mono (by omega)⟩
    refine ass_ds (es := [some (.raw (.ref q1)), some (.raw (.ref p)), some (.dat (.int wy))]) rfl ?_
    refine as_cons (as_ifP (decide (wy = 0)) (at_eqs ?_) (fun h => ?_) fun h => ?_)
    · walk_at "ax"
      exact ⟨rfl, rfl⟩
    · refine as_cons (as_dput (hu1 hr) (ae_lstD ?_))
      walk_at "ay"
      refine ae_call D_take (hr.mono (by decide)) ?_
      walk_at "ax"
      refine ⟨q1, 3, o3, s3, c3, _, rfl, hNq, hp3, by omega, by decide, by decide, fun a o4 s4 c4 hp4 a0 a3 => ?_⟩
      have hNq : upM N q1 (potO o4 s4 c4) q1 = some (potO o4 s4 c4) := upM_same
      have hNp : upM N q1 (potO o4 s4 c4) p = some (.dK (ownK o)) := by rw [upM_ne npq]; exact hNp
      have hNl := drop_le1 (x := potO o4 s4 c4) hNl
      generalize upM N q1 (potO o4 s4 c4) = N at hNq hNp hNl
      walk_at "ay"
      refine ae_call D_take (hr.mono (by decide)) ?_
      walk_at "ax"
      refine ⟨q1, 3, o4, s4, c4, _, rfl, hNq, hp4, by omega, by decide, by decide, fun b o5 s5 c5 hp5 b0 b3 => ?_⟩
      have hNq : upM N q1 (potO o5 s5 c5) q1 = some (potO o5 s5 c5) := upM_same
      have hNp : upM N q1 (potO o5 s5 c5) p = some (.dK (ownK o)) := by rw [upM_ne npq]; exact hNp
      have hNl := drop_le1 (x := potO o5 s5 c5) hNl
      generalize upM N q1 (potO o5 s5 c5) = N at hNq hNp hNl
      walk_at "ay"
      refine ⟨p, _, _, rfl, rfl, hNp, hlen, as_nil ?_⟩
      refine as_cons (as_ret ?_)
      walk_at "nm"
      have e := own_put (o := o) (g := [(1, a - 1, (1, 3)), (-1, b - 1, (1, 3)), (0, 1, (1, 3))]) r1
      refine fin (o' := setO o "inside" [(1, a - 1, (1, 3)), (-1, b - 1, (1, 3)), (0, 1, (1, 3))]) (GoodO.of (own_good hgo (in0_ok a0 a3 b0 b3))) ?_ (hNl.up hpd) (by rw [upM_ne npq.symm]; exact hNq) (hp5.mono (by omega))
      rw [← e]; exact upM_same
    refine as_cons (as_ifP (decide (wy = 1)) (at_eqs ?_) (fun h => ?_) fun h => ?_)
    · walk_at "ax"
      exact ⟨rfl, rfl⟩
    · refine as_cons (as_dput (hu1 hr) (ae_lstD ?_))
      walk_at "ay"
      refine ae_call D_take (hr.mono (by decide)) ?_
      walk_at "ax"
      refine ⟨q1, 3, o3, s3, c3, _, rfl, hNq, hp3, by omega, by decide, by decide, fun a o4 s4 c4 hp4 a0 a3 => ?_⟩
      have hNq : upM N q1 (potO o4 s4 c4) q1 = some (potO o4 s4 c4) := upM_same
      have hNp : upM N q1 (potO o4 s4 c4) p = some (.dK (ownK o)) := by rw [upM_ne npq]; exact hNp
      have hNl := drop_le1 (x := potO o4 s4 c4) hNl
      generalize upM N q1 (potO o4 s4 c4) = N at hNq hNp hNl
      walk_at "ay"
      refine ae_call D_take (hr.mono (by decide)) ?_
      walk_at "ax"
      refine ⟨q1, 3, o4, s4, c4, _, rfl, hNq, hp4, by omega, by decide, by decide, fun b o5 s5 c5 hp5 b0 b3 => ?_⟩
      have hNq : upM N q1 (potO o5 s5 c5) q1 = some (potO o5 s5 c5) := upM_same
      have hNp : upM N q1 (potO o5 s5 c5) p = some (.dK (ownK o)) := by rw [upM_ne npq]; exact hNp
      have hNl := drop_le1 (x := potO o5 s5 c5) hNl
      generalize upM N q1 (potO o5 s5 c5) = N at hNq hNp hNl
      walk_at "ay"
      refine ⟨p, _, _, rfl, rfl, hNp, hlen, ?_⟩
      have e := own_put (o := o) (g := [(a - 1, 1, (1, 4)), (b - 1, -1, (1, 4)), (-1, 0, (1, 2))]) r1
      have hNp : upM N p (.dK (putD (ownK o) (.inr "inside") (.dat (.list [.tuple [.int (a - 1), .int 1, .tuple [.int 1, .int 4]], .tuple [.int (b - 1), .int (-1), .tuple [.int 1, .int 4]], .tuple [.int (-1), .int 0, .tuple [.int 1, .int 2]]])))) p = some (.dK (ownK (setO o "inside" [(a - 1, 1, (1, 4)), (b - 1, -1, (1, 4)), (-1, 0, (1, 2))]))) := by
        rw [← e]; exact upM_same
      have hNq : upM N p (.dK (putD (ownK o) (.inr "inside") (.dat (.list [.tuple [.int (a - 1), .int 1, .tuple [.int 1, .int 4]], .tuple [.int (b - 1), .int (-1), .tuple [.int 1, .int 4]], .tuple [.int (-1), .int 0, .tuple [.int 1, .int 2]]])))) q1 = some (potO o5 s5 c5) := by rw [upM_ne npq.symm]; exact hNq
      have hNl := hNl.up (m := .dK (putD (ownK o) (.inr "inside") (.dat (.list [.tuple [.int (a - 1), .int 1, .tuple [.int 1, .int 4]], .tuple [.int (b - 1), .int (-1), .tuple [.int 1, .int 4]], .tuple [.int (-1), .int 0, .tuple [.int 1, .int 2]]])))) hpd
      refine as_cons ?_
      show AS _ _ _ (upM N p (.dK (putD (ownK o) (.inr "inside") (.dat (.list [.tuple [.int (a - 1), .int 1, .tuple [.int 1, .int 4]], .tuple [.int (b - 1), .int (-1), .tuple [.int 1, .int 4]], .tuple [.int (-1), .int 0, .tuple [.int 1, .int 2]]]))))) _
      generalize upM N p (.dK (putD (ownK o) (.inr "inside") (.dat (.list [.tuple [.int (a - 1), .int 1, .tuple [.int 1, .int 4]], .tuple [.int (b - 1), .int (-1), .tuple [.int 1, .int 4]], .tuple [.int (-1), .int 0, .tuple [.int 1, .int 2]]])))) = N at hNq hNp hNl
      have hv : valD (ownK (setO o "inside" [(a - 1, 1, (1, 4)), (b - 1, -1, (1, 4)), (-1, 0, (1, 2))])) (.inr "inside") = some (.dat (.list ([(a - 1, 1, (1, 4)), (b - 1, -1, (1, 4)), (-1, 0, (1, 2))].map stD))) := own_val r1
      refine as_dput (hu1 hr) ?_
      refine AE.imp (k := fun d M1 => (∃ c : Int, (c = -1 ∨ c = 0) ∧ d = .dat (.list ([(a - 1, 1, (1, 4)), (b - 1, -1, (1, 4)), (c, 0, (1, 2))].map stD))) ∧ N = M1) ?_ (fun d M1 ⟨⟨c, hc, e⟩, e2⟩ => ?_)
      · refine ae_if (at_eqs (ae_ixT (ae_ixL (ae_dget (hu1 hr) ?_))))
        walk_at "ax"
        refine ⟨p, _, _, _, rfl, rfl, hNp, hv, ?_⟩
        walk_at "ax"
        refine ⟨_, _, _, rfl, rfl, rfl, ?_⟩
        walk_at "ax"
        refine ⟨fun h => ae_dget (hu1 hr) ?_, fun h => ae_wk (ae_catM (ae_slM (ae_dget (hu1 hr) ?_)))⟩
        · walk_at "ax"
          exact ⟨p, _, _, _, rfl, rfl, hNp, hv, ⟨-1, .inl rfl, rfl⟩, rfl⟩
        · walk_at "ax"
          refine ⟨p, _, _, _, rfl, rfl, hNp, hv, ao_none (ao_some ?_)⟩
          walk_at "ax"
          refine ⟨_, rfl, _, rfl, fun l1 hl1 => ae_lst ?_⟩
          walk_at "ay"
          refine ⟨Nat.le_of_ble_eq_true rfl, fun l2 hl2 => ?_⟩
          have nll : l1 ≠ l2 := fun e => by rw [← e, upM_same] at hl2; cases hl2
          refine ⟨l1, l2, _, _, rfl, rfl, by rw [upM_ne nll]; exact upM_same, upM_same, Nat.le_of_ble_eq_true rfl, fun l3 hl3 => ?_⟩
          have hl2N : N l2 = none := by rw [upM_ne nll.symm] at hl2; exact hl2
          have hle := ((Le.refl N).up (m := .lst ((_root_.A.cutD ([(a - 1, 1, (1, 4)), (b - 1, -1, (1, 4)), (-1, 0, (1, 2))].map stD) none (some 2)).map .dat)) hl1).up (m := .lst [.dat (.tuple [.int 0, .int 0, .tuple [.int 1, .int 2]])]) hl2N
          refine ⟨_, N, .trans (.freeze (xs := [stD (a - 1, 1, (1, 4)), stD (b - 1, -1, (1, 4)), stD (0, 0, (1, 2))]) upM_same) (.forget ?_), ⟨0, .inr rfl, rfl⟩, rfl⟩
          rw [freeze_up hl3]
          exact hle
      subst e
      subst e2
      walk_at "ax"
      refine ⟨p, _, _, rfl, rfl, hNp, Nat.le_of_ble_eq_true rfl, as_nil (as_nil ?_)⟩
      refine as_cons (as_ret ?_)
      walk_at "nm"
      rw [own_put r1]
      refine fin (GoodO.of (own_good (own_good hgo (in1_ok a0 a3 b0 b3 (.inl rfl))) (in1_ok a0 a3 b0 b3 hc))) upM_same (hNl.up hpd) (by rw [upM_ne npq.symm]; exact hNq) (hp5.mono (by omega))
    refine as_cons (as_ifP (decide (wy = 2)) (at_eqs ?_) (fun h => ?_) fun h => ?_)
    · walk_at "ax"
      exact ⟨rfl, rfl⟩
    · refine as_cons (as_dput (hu1 hr) (ae_lstD ?_))
      walk_at "ay"
      refine ⟨p, _, _, rfl, rfl, hNp, hlen, as_nil (as_nil (as_nil ?_))⟩
      refine as_cons (as_ret ?_)
      walk_at "nm"
      have e := own_put (o := o) (r := "first") (g := [(1, 0, (2, 5)), (-1, 0, (3, 5))]) (by simp [regs])
      refine fin (o' := setO o "first" [(1, 0, (2, 5)), (-1, 0, (3, 5))]) (GoodO.of (own_good hgo fi_ok)) ?_ (hNl.up hpd) (by rw [upM_ne npq.symm]; exact hNq) (hp3.mono (by omega))
      rw [← e]; exact upM_same
    refine as_cons (as_ifP (decide (wy = 3)) (at_eqs ?_) (fun h => ?_) fun h => ?_)
    · walk_at "ax"
      exact ⟨rfl, rfl⟩
    · refine as_cons (as_dput (hu1 hr) (ae_lstD ?_))
      walk_at "ay"
      refine ⟨p, _, _, rfl, rfl, hNp, hlen, as_nil (as_nil (as_nil (as_nil ?_)))⟩
      refine as_cons (as_ret ?_)
      walk_at "nm"
      have e := own_put (o := o) (r := "second") (g := [(0, 2, (1, 5)), (0, -1, (4, 5))]) (by simp [regs])
      refine fin (o' := setO o "second" [(0, 2, (1, 5)), (0, -1, (4, 5))]) (GoodO.of (own_good hgo se_ok)) ?_ (hNl.up hpd) (by rw [upM_ne npq.symm]; exact hNq) (hp3.mono (by omega))
      rw [← e]; exact upM_same
    refine as_cons (as_ifP (decide (wy = 4)) (at_eqs ?_) (fun h => ?_) fun h => ?_)
    · walk_at "ax"
      exact ⟨rfl, rfl⟩
    · refine as_cons (as_ret (ae_call D_tflat hr ?_))
      walk_at "ax"
      refine ⟨p, o, "first", rfl, hNp, hdr, .inl rfl, fin hdr.good hNp hNl hNq (hp3.mono (by omega)), fun r o' hg hrN => ?_⟩
      have nrq : r ≠ q1 := fun e => by rw [e, hNq] at hrN; cases hrN
      have hrd : dropM M q1 r = none := by
        cases hm : dropM M q1 r with
        | none => rfl
        | some mo => rw [hNl _ _ hm] at hrN; cases hrN
      exact q _ r _ hg upM_same nrq (hNl.up hrd) ⟨_, _, _, by rw [upM_ne nrq.symm]; exact hNq, hp3.mono (by omega)⟩
    refine as_cons (as_ifP (decide (wy = 5)) (at_eqs ?_) (fun h => ?_) fun h => as_nil (as_nil (as_nil (as_nil (as_nil (as_nil ?_))))))
    · walk_at "ax"
      exact ⟨rfl, rfl⟩
    · refine as_cons (as_ret (ae_call D_tflat hr ?_))
      walk_at "ax"
      refine ⟨p, o, "second", rfl, hNp, hdr, .inr rfl, fin hdr.good hNp hNl hNq (hp3.mono (by omega)), fun r o' hg hrN => ?_⟩
      have nrq : r ≠ q1 := fun e => by rw [e, hNq] at hrN; cases hrN
      have hrd : dropM M q1 r = none := by
        cases hm : dropM M q1 r with
        | none => rfl
        | some mo => rw [hNl _ _ hm] at hrN; cases hrN
      exact q _ r _ hg upM_same nrq (hNl.up hrd) ⟨_, _, _, by rw [upM_ne nrq.symm]; exact hNq, hp3.mono (by omega)⟩
    refine as_cons (as_ret ?_)
    walk_at "nm"
    exact fin hdr.good hNp hNl hNq (hp3.mono (by omega))
end B

set_option Elab.async false
set_option linter.all false
set_option maxRecDepth 100000
set_option maxHeartbeats 4000000
namespace B
open PySem PySem.Spec PyProof.Rows L2 A
local macro_rules | `(tactic| walk_at "nm") => `(tactic| refine ae_nameT (by assumption) rfl ?_)
local macro_rules | `(tactic| walk_at "ag") => `(tactic| refine ag_nameT (by assumption) (by assumption) ?_)
local macro_rules | `(tactic| walk_at "agc") => `(tactic| (refine agc_nameU (by assumption) (by assumption) ?_ ?_; · decide))
local macro_rules | `(tactic| walk_at "set") => `(tactic| refine as_setT (by assumption) (by assumption) ?_)
local macro_rules | `(tactic| walk_at "ax1") => `(tactic| first
  | ((with_reducible show AE _ (Expr.Name _ _) _ _ _); walk_at "nm")
  | ((with_reducible show AA _ (_ :: _) _ _ _); refine aa_cons ?_)
  | ((with_reducible show AA _ [] _ _ _); refine aa_nil ?_)
  | ((with_reducible show AE _ (Expr.Constant _ _ _) _ _ _); first | refine ae_int ?_ | refine ae_str ?_ | refine ae_bl ?_ | refine ae_non ?_)
  | ((with_reducible show AE _ (Expr.BinOp _ Operator.Add _ _) _ _ _); refine ae_add ?_)
  | ((with_reducible show AE _ (Expr.BinOp _ Operator.Sub _ _) _ _ _); refine ae_sub ?_)
  | ((with_reducible show AE _ (Expr.BinOp _ Operator.Mult _ _) _ _ _); refine ae_mul ?_)
  | ((with_reducible show AE _ (Expr.BinOp _ Operator.FloorDiv _ _) _ _ _); refine ae_fdiv ?_)
  | ((with_reducible show AE _ (Expr.BinOp _ Operator.Mod _ _) _ _ _); refine ae_mod ?_)
  | ((with_reducible show AE _ (Expr.Compare _ [CmpOp.Lt] _ _) _ _ _); refine ae_lt ?_)
  | ((with_reducible show AE _ (Expr.Compare _ [CmpOp.LtE] _ _) _ _ _); refine ae_le ?_)
  | ((with_reducible show AE _ (Expr.Compare _ [CmpOp.Gt] _ _) _ _ _); refine ae_gt ?_)
  | ((with_reducible show AE _ (Expr.Compare _ [CmpOp.GtE] _ _) _ _ _); refine ae_ge ?_)
  | ((with_reducible show AE _ (Expr.Compare _ [CmpOp.Eq] _ _) _ _ _); refine ae_eqs ?_)
  | ((with_reducible show AE _ (Expr.Compare _ [CmpOp.NotEq] _ _) _ _ _); refine ae_nes ?_)
  | ((with_reducible show AT _ (Expr.Compare _ [CmpOp.Eq] _ _) _ _ _); refine at_eqs ?_)
  | ((with_reducible show AT _ (Expr.Compare _ [CmpOp.NotEq] _ _) _ _ _); refine at_nes ?_)
  | ((with_reducible show AT _ (Expr.Compare _ [CmpOp.Lt] _ _) _ _ _); refine at_lt ?_)
  | ((with_reducible show AT _ (Expr.Compare _ [CmpOp.LtE] _ _) _ _ _); refine at_le ?_)
  | ((with_reducible show AT _ (Expr.Compare _ [CmpOp.Gt] _ _) _ _ _); refine at_gt ?_)
  | ((with_reducible show AT _ (Expr.Compare _ [CmpOp.GtE] _ _) _ _ _); refine at_ge ?_)
  | ((with_reducible show AT _ (Expr.UnaryOp UnaryOp.Not _ _) _ _ _); refine at_not ?_)
  | ((with_reducible show AT _ (Expr.Call _ _ _ _) _ _ _); refine at_val ?_)
  | ((with_reducible show AR _ rEq (DV.dat (PyData.int _)) (DV.dat (PyData.int _)) _ _); refine ar_eqI ?_)
  | ((with_reducible show AR _ rNe (DV.dat (PyData.int _)) (DV.dat (PyData.int _)) _ _); refine ar_neI ?_)
  | ((with_reducible show AR _ rEq (DV.dat (PyData.str _)) (DV.dat (PyData.str _)) _ _); refine ar_eqS ?_)
  | ((with_reducible show AR _ rNe (DV.dat (PyData.str _)) (DV.dat (PyData.str _)) _ _); refine ar_neS ?_)
  | ((with_reducible show ∃ c, DV.dat (PyData.bool _) = DV.dat (PyData.bool c) ∧ _); refine ⟨_, rfl, ?_⟩)
  | ((with_reducible show AE _ (Expr.Tuple _ _ _) _ _ _); refine ae_tup ?_)
  | ((with_reducible show AE _ (Expr.Subscript _ _ _) _ _ _); refine ae_ixT ?_)
  | ((with_reducible show ∃ i j, DV.dat (PyData.int _) = DV.dat (PyData.int i) ∧ DV.dat (PyData.int _) = DV.dat (PyData.int j) ∧ _); refine ⟨_, _, rfl, rfl, ?_⟩)
  | ((with_reducible show ∃ xs i d, DV.dat (PyData.tuple _) = DV.dat (PyData.tuple xs) ∧ _); refine ⟨_, _, _, rfl, rfl, rfl, ?_⟩))
local macro_rules | `(tactic| walk_at "ax") => `(tactic| repeat (walk_at "ax1"))
local macro_rules | `(tactic| walk_at "ay1") => `(tactic| first
  | walk_at "ax1"
  | ((with_reducible show AE _ (Expr.UnaryOp UnaryOp.USub _ _) _ _ _); refine ae_neg ?_)
  | ((with_reducible show ∃ i, DV.dat (PyData.int _) = DV.dat (PyData.int i) ∧ _); refine ⟨_, rfl, ?_⟩)
  | ((with_reducible show ∃ xs : List PyData, [_, _] = List.map DV.dat xs ∧ _); refine ⟨[_, _], rfl, Nat.le_of_ble_eq_true rfl, ?_⟩)
  | ((with_reducible show ∃ xs : List PyData, [_, _, _] = List.map DV.dat xs ∧ _); refine ⟨[_, _, _], rfl, Nat.le_of_ble_eq_true rfl, ?_⟩))
local macro_rules | `(tactic| walk_at "ay") => `(tactic| repeat (walk_at "ay1"))
variable {P : Program} {w : World} {K : PySem.W.Frag} {mg : Str → Option Value} {base : Heap} {C : Addr}
open TL Wd
theorem rev_is {K : PySem.W.Frag} {G : Hp} {vs : List V} {zs : List DV} (h : IsAll K G vs zs) : IsAll K G vs.reverse zs.reverse := by
  induction h with
  | nil => exact .nil
  | cons h t ih =>
    rw [List.reverse_cons, List.reverse_cons]
    exact ih.snoc h
abbrev rv : {α : Type} → List α → List α := fun l => l.reverse
theorem ok_pair (x : (Int × Int) × (Int × Int)) : okN 2 (pairOf x) := by
  refine ⟨Nat.le_of_ble_eq_true rfl, fun y hy => ?_⟩
  simp only [List.mem_cons, List.not_mem_nil, or_false] at hy
  rcases hy with rfl | rfl
  all_goals
    refine ⟨Nat.le_of_ble_eq_true rfl, fun z hz => ?_⟩
    simp only [List.mem_cons, List.not_mem_nil, or_false] at hz
    rcases hz with rfl | rfl <;> trivial
theorem ok_opt (x : Option Str) : okN 0 (optS x) := by cases x <;> trivial
theorem ok_strs {l : List Str} (h : l.length ≤ 1000) : okN 1 (.tuple (l.map .str)) := ⟨by rw [List.length_map]; exact h, fun y hy => by
  obtain ⟨z, _, rfl⟩ := List.mem_map.mp hy
  trivial⟩
end B

set_option Elab.async false
set_option linter.all false
set_option maxRecDepth 100000
set_option maxHeartbeats 4000000
namespace B
open PySem PySem.Spec PyProof.Rows L2 A
local macro_rules | `(tactic| walk_at "nm") => `(tactic| refine ae_nameT (by assumption) rfl ?_)
local macro_rules | `(tactic| walk_at "ag") => `(tactic| refine ag_nameT (by assumption) (by assumption) ?_)
local macro_rules | `(tactic| walk_at "agc") => `(tactic| (refine agc_nameU (by assumption) (by assumption) ?_ ?_; · decide))
local macro_rules | `(tactic| walk_at "set") => `(tactic| refine as_setT (by assumption) (by assumption) ?_)
local macro_rules | `(tactic| walk_at "ax1") => `(tactic| first
  | ((with_reducible show AE _ (Expr.Name _ _) _ _ _); walk_at "nm")
  | ((with_reducible show AA _ (_ :: _) _ _ _); refine aa_cons ?_)
  | ((with_reducible show AA _ [] _ _ _); refine aa_nil ?_)
  | ((with_reducible show AE _ (Expr.Constant _ _ _) _ _ _); first | refine ae_int ?_ | refine ae_str ?_ | refine ae_bl ?_ | refine ae_non ?_)
  | ((with_reducible show AE _ (Expr.BinOp _ Operator.Add _ _) _ _ _); refine ae_add ?_)
  | ((with_reducible show AE _ (Expr.BinOp _ Operator.Sub _ _) _ _ _); refine ae_sub ?_)
  | ((with_reducible show AE _ (Expr.BinOp _ Operator.Mult _ _) _ _ _); refine ae_mul ?_)
  | ((with_reducible show AE _ (Expr.BinOp _ Operator.FloorDiv _ _) _ _ _); refine ae_fdiv ?_)
  | ((with_reducible show AE _ (Expr.BinOp _ Operator.Mod _ _) _ _ _); refine ae_mod ?_)
  | ((with_reducible show AE _ (Expr.Compare _ [CmpOp.Lt] _ _) _ _ _); refine ae_lt ?_)
  | ((with_reducible show AE _ (Expr.Compare _ [CmpOp.LtE] _ _) _ _ _); refine ae_le ?_)
  | ((with_reducible show AE _ (Expr.Compare _ [CmpOp.Gt] _ _) _ _ _); refine ae_gt ?_)
  | ((with_reducible show AE _ (Expr.Compare _ [CmpOp.GtE] _ _) _ _ _); refine ae_ge ?_)
  | ((with_reducible show AE _ (Expr.Compare _ [CmpOp.Eq] _ _) _ _ _); refine ae_eqs ?_)
  | ((with_reducible show AE _ (Expr.Compare _ [CmpOp.NotEq] _ _) _ _ _); refine ae_nes ?_)
  | ((with_reducible show AT _ (Expr.Compare _ [CmpOp.Eq] _ _) _ _ _); refine at_eqs ?_)
  | ((with_reducible show AT _ (Expr.Compare _ [CmpOp.NotEq] _ _) _ _ _); refine at_nes ?_)
  | ((with_reducible show AT _ (Expr.Compare _ [CmpOp.Lt] _ _) _ _ _); refine at_lt ?_)
  | ((with_reducible show AT _ (Expr.Compare _ [CmpOp.LtE] _ _) _ _ _); refine at_le ?_)
  | ((with_reducible show AT _ (Expr.Compare _ [CmpOp.Gt] _ _) _ _ _); refine at_gt ?_)
  | ((with_reducible show AT _ (Expr.Compare _ [CmpOp.GtE] _ _) _ _ _); refine at_ge ?_)
  | ((with_reducible show AT _ (Expr.UnaryOp UnaryOp.Not _ _) _ _ _); refine at_not ?_)
  | ((with_reducible show AT _ (Expr.Call _ _ _ _) _ _ _); refine at_val ?_)
  | ((with_reducible show AR _ rEq (DV.dat (PyData.int _)) (DV.dat (PyData.int _)) _ _); refine ar_eqI ?_)
  | ((with_reducible show AR _ rNe (DV.dat (PyData.int _)) (DV.dat (PyData.int _)) _ _); refine ar_neI ?_)
  | ((with_reducible show AR _ rEq (DV.dat (PyData.str _)) (DV.dat (PyData.str _)) _ _); refine ar_eqS ?_)
  | ((with_reducible show AR _ rNe (DV.dat (PyData.str _)) (DV.dat (PyData.str _)) _ _); refine ar_neS ?_)
  | ((with_reducible show ∃ c, DV.dat (PyData.bool _) = DV.dat (PyData.bool c) ∧ _); refine ⟨_, rfl, ?_⟩)
  | ((with_reducible show AE _ (Expr.Tuple _ _ _) _ _ _); refine ae_tup ?_)
  | ((with_reducible show AE _ (Expr.Subscript _ _ _) _ _ _); refine ae_ixT ?_)
  | ((with_reducible show ∃ i j, DV.dat (PyData.int _) = DV.dat (PyData.int i) ∧ DV.dat (PyData.int _) = DV.dat (PyData.int j) ∧ _); refine ⟨_, _, rfl, rfl, ?_⟩)
  | ((with_reducible show ∃ xs i d, DV.dat (PyData.tuple _) = DV.dat (PyData.tuple xs) ∧ _); refine ⟨_, _, _, rfl, rfl, rfl, ?_⟩))
local macro_rules | `(tactic| walk_at "ax") => `(tactic| repeat (walk_at "ax1"))
local macro_rules | `(tactic| walk_at "ay1") => `(tactic| first
  | walk_at "ax1"
  | ((with_reducible show AE _ (Expr.UnaryOp UnaryOp.USub _ _) _ _ _); refine ae_neg ?_)
  | ((with_reducible show ∃ i, DV.dat (PyData.int _) = DV.dat (PyData.int i) ∧ _); refine ⟨_, rfl, ?_⟩)
  | ((with_reducible show ∃ xs : List PyData, [_, _] = List.map DV.dat xs ∧ _); refine ⟨[_, _], rfl, Nat.le_of_ble_eq_true rfl, ?_⟩)
  | ((with_reducible show ∃ xs : List PyData, [_, _, _] = List.map DV.dat xs ∧ _); refine ⟨[_, _, _], rfl, Nat.le_of_ble_eq_true rfl, ?_⟩))
local macro_rules | `(tactic| walk_at "ay") => `(tactic| repeat (walk_at "ay1"))
variable {P : Program} {w : World} {K : PySem.W.Frag} {mg : Str → Option Value} {base : Heap} {C : Addr}
open TL Wd
/-! the def that hears -/
theorem heard_gives {X : Cx} {q : Str} {g CS : Addr} {cdg : Value} (hm : X.mg "DriftError" = some (.ref CS)) : GivesS X ["call", "caught", "back", "error"] "_law_heard" (defScope s__law_heard) g cdg (defBody s__law_heard) "call" q (THeard X.K CS) := by
  intro f c' s H Q tl act hc h
  have nd : (["call", "caught", "back", "error"] : List Str).Nodup := by decide
  refine ⟨_, pss_cons (ps_asg (pe_tup (pa_cons pe_non (pa_cons pe_non pa_nil))) (pg_tup rfl (pgs_cons (pg_name (i := 1) nd rfl (.inl rfl)) (pgs_cons (pg_name (i := 2) nd rfl (.inl rfl)) pgs_nil)))) (pss_cons (ps_try_keep (C := CS) (i := 3)
    (tb := fun W D σ H => σ[0]? = some (some (.ref f)) ∧ H c' = some (LamX.CodeO c' q) ∧ tl (fun cls d J => W cls d σ J) H fun v J => D.nx (σ.set 2 (some v)) J)
    rfl rfl rfl nd rfl rfl rfl (by decide) hm (fun W pn xe tk _ => ?_) (fun a o cls d pn _ _ => pss_one (ps_set (i := 1) nd rfl (.inl rfl) (pe_var (i := 3) rfl (.inl rfl))))) (pss_one (ps_ret (pe_tup (pa_cons (pe_var (i := 1) rfl (.inl rfl)) (pa_cons (pe_var (i := 2) rfl (.inl rfl)) pa_nil)))))), ?_⟩
  · refine ⟨fun pins s' σ H' D I ⟨h1, h2, h3⟩ => ?_⟩
    exact (pss_one (ps_set (i := 2) nd rfl (.inl rfl) (act W pn xe _ _ tk))).run pins s' σ H' D I ⟨h1, h2, h3⟩
  · refine ⟨sz1000 (Nat.le_of_ble_eq_true rfl), fun p hp => ⟨p, _, rfl, .inl (.inl upd_same), rfl, .non, _, rfl, .non, _, rfl, rfl, ?_⟩⟩
    have nc : c' ≠ p := ne_of_none hc hp
    refine ⟨rfl, by rw [upd_ne nc]; exact hc, ?_⟩
    refine h p hp _ _ (fun cls d J z1 z2 => ⟨z1, fun a ha => ⟨_, rfl, _, rfl, _, rfl, sz1000 (Nat.le_of_ble_eq_true rfl), fun p2 hp2 => z2 a ha p2 hp2⟩⟩) fun v J z => ⟨_, rfl, _, rfl, sz1000 (Nat.le_of_ble_eq_true rfl), fun p2 hp2 => z p2 hp2⟩
theorem hd__law_heard {CS f : Addr} {fd : FuncData} (F : Fun K "_law_heard" "_law_heard" s__law_heard f fd) (hm : mg "_law_heard" = some (.ref f)) (hb : Binds K fd ["call"] []) (hc : mg "DriftError" = some (.ref CS)) : Heard P w K mg base "_law_heard" CS := by
  obtain ⟨oc, od, kV, doc, pm, an, cdv, ct, osl, rfl, lk, hcv⟩ := F.ex
  exact ⟨f, _, _, _, _, kV, doc, pm, cdv, ct, oc, an, od, osl, _, hm, F.kp, lk, hcv, hb, (⟨rfl, rfl, rfl, by decide +kernel, rfl, by decide +kernel, by decide +kernel⟩ : FnScope ["call", "caught", "back", "error"] ["call"] (defScope s__law_heard)), rfl, .inl rfl, fun X q e1 e2 e3 e4 e5 => by subst e1 e2 e3 e4 e5; exact heard_gives hc⟩
end B

set_option Elab.async false
set_option linter.all false
set_option maxRecDepth 100000
set_option maxHeartbeats 4000000
namespace B
open PySem PySem.Spec PyProof.Rows L2 A
local macro_rules | `(tactic| walk_at "nm") => `(tactic| refine ae_nameT (by assumption) rfl ?_)
local macro_rules | `(tactic| walk_at "ag") => `(tactic| refine ag_nameT (by assumption) (by assumption) ?_)
local macro_rules | `(tactic| walk_at "agc") => `(tactic| (refine agc_nameU (by assumption) (by assumption) ?_ ?_; · decide))
local macro_rules | `(tactic| walk_at "set") => `(tactic| refine as_setT (by assumption) (by assumption) ?_)
local macro_rules | `(tactic| walk_at "ax1") => `(tactic| first
  | ((with_reducible show AE _ (Expr.Name _ _) _ _ _); walk_at "nm")
  | ((with_reducible show AA _ (_ :: _) _ _ _); refine aa_cons ?_)
  | ((with_reducible show AA _ [] _ _ _); refine aa_nil ?_)
  | ((with_reducible show AE _ (Expr.Constant _ _ _) _ _ _); first | refine ae_int ?_ | refine ae_str ?_ | refine ae_bl ?_ | refine ae_non ?_)
  | ((with_reducible show AE _ (Expr.BinOp _ Operator.Add _ _) _ _ _); refine ae_add ?_)
  | ((with_reducible show AE _ (Expr.BinOp _ Operator.Sub _ _) _ _ _); refine ae_sub ?_)
  | ((with_reducible show AE _ (Expr.BinOp _ Operator.Mult _ _) _ _ _); refine ae_mul ?_)
  | ((with_reducible show AE _ (Expr.BinOp _ Operator.FloorDiv _ _) _ _ _); refine ae_fdiv ?_)
  | ((with_reducible show AE _ (Expr.BinOp _ Operator.Mod _ _) _ _ _); refine ae_mod ?_)
  | ((with_reducible show AE _ (Expr.Compare _ [CmpOp.Lt] _ _) _ _ _); refine ae_lt ?_)
  | ((with_reducible show AE _ (Expr.Compare _ [CmpOp.LtE] _ _) _ _ _); refine ae_le ?_)
  | ((with_reducible show AE _ (Expr.Compare _ [CmpOp.Gt] _ _) _ _ _); refine ae_gt ?_)
  | ((with_reducible show AE _ (Expr.Compare _ [CmpOp.GtE] _ _) _ _ _); refine ae_ge ?_)
  | ((with_reducible show AE _ (Expr.Compare _ [CmpOp.Eq] _ _) _ _ _); refine ae_eqs ?_)
  | ((with_reducible show AE _ (Expr.Compare _ [CmpOp.NotEq] _ _) _ _ _); refine ae_nes ?_)
  | ((with_reducible show AT _ (Expr.Compare _ [CmpOp.Eq] _ _) _ _ _); refine at_eqs ?_)
  | ((with_reducible show AT _ (Expr.Compare _ [CmpOp.NotEq] _ _) _ _ _); refine at_nes ?_)
  | ((with_reducible show AT _ (Expr.Compare _ [CmpOp.Lt] _ _) _ _ _); refine at_lt ?_)
  | ((with_reducible show AT _ (Expr.Compare _ [CmpOp.LtE] _ _) _ _ _); refine at_le ?_)
  | ((with_reducible show AT _ (Expr.Compare _ [CmpOp.Gt] _ _) _ _ _); refine at_gt ?_)
  | ((with_reducible show AT _ (Expr.Compare _ [CmpOp.GtE] _ _) _ _ _); refine at_ge ?_)
  | ((with_reducible show AT _ (Expr.UnaryOp UnaryOp.Not _ _) _ _ _); refine at_not ?_)
  | ((with_reducible show AT _ (Expr.Call _ _ _ _) _ _ _); refine at_val ?_)
  | ((with_reducible show AR _ rEq (DV.dat (PyData.int _)) (DV.dat (PyData.int _)) _ _); refine ar_eqI ?_)
  | ((with_reducible show AR _ rNe (DV.dat (PyData.int _)) (DV.dat (PyData.int _)) _ _); refine ar_neI ?_)
  | ((with_reducible show AR _ rEq (DV.dat (PyData.str _)) (DV.dat (PyData.str _)) _ _); refine ar_eqS ?_)
  | ((with_reducible show AR _ rNe (DV.dat (PyData.str _)) (DV.dat (PyData.str _)) _ _); refine ar_neS ?_)
  | ((with_reducible show ∃ c, DV.dat (PyData.bool _) = DV.dat (PyData.bool c) ∧ _); refine ⟨_, rfl, ?_⟩)
  | ((with_reducible show AE _ (Expr.Tuple _ _ _) _ _ _); refine ae_tup ?_)
  | ((with_reducible show AE _ (Expr.Subscript _ _ _) _ _ _); refine ae_ixT ?_)
  | ((with_reducible show ∃ i j, DV.dat (PyData.int _) = DV.dat (PyData.int i) ∧ DV.dat (PyData.int _) = DV.dat (PyData.int j) ∧ _); refine ⟨_, _, rfl, rfl, ?_⟩)
  | ((with_reducible show ∃ xs i d, DV.dat (PyData.tuple _) = DV.dat (PyData.tuple xs) ∧ _); refine ⟨_, _, _, rfl, rfl, rfl, ?_⟩))
local macro_rules | `(tactic| walk_at "ax") => `(tactic| repeat (walk_at "ax1"))
local macro_rules | `(tactic| walk_at "ay1") => `(tactic| first
  | walk_at "ax1"
  | ((with_reducible show AE _ (Expr.UnaryOp UnaryOp.USub _ _) _ _ _); refine ae_neg ?_)
  | ((with_reducible show ∃ i, DV.dat (PyData.int _) = DV.dat (PyData.int i) ∧ _); refine ⟨_, rfl, ?_⟩)
  | ((with_reducible show ∃ xs : List PyData, [_, _] = List.map DV.dat xs ∧ _); refine ⟨[_, _], rfl, Nat.le_of_ble_eq_true rfl, ?_⟩)
  | ((with_reducible show ∃ xs : List PyData, [_, _, _] = List.map DV.dat xs ∧ _); refine ⟨[_, _, _], rfl, Nat.le_of_ble_eq_true rfl, ?_⟩))
local macro_rules | `(tactic| walk_at "ay") => `(tactic| repeat (walk_at "ay1"))
variable {P : Program} {w : World} {K : PySem.W.Frag} {mg : Str → Option Value} {base : Heap} {C : Addr}
open TL Wd
set_option exponentiation.threshold 10000
set_option maxHeartbeats 40000000
open Fr (Bd)
def ris3 (d : Dr3) : List Str := (if ("first" : Str) ∈ sds3 d ∧ 0 < (trn3 d).1.1 then [("first" : Str)] else []) ++ (if ("second" : Str) ∈ sds3 d ∧ 0 < (trn3 d).2.1 then [("second" : Str)] else [])
def told3 (d : Dr3) : Str := if (brd3 d).isSome = true then "border" else if sds3 d ≠ [] ∧ ris3 d = [] then "home" else "away"
def S_rising_by : DS1 := fun vs M k => ∃ d : Dr3, vs = [.dat (dr3D d)] ∧ Bd3 900 d ∧ k (.dat (.tuple ((ris3 d).map .str))) M
theorem sc_rising_by : FnScope ["drifts", "sides", "first_turn", "second_turn", "first", "second"] ["drifts"] (defScope s_rising_by) := ⟨rfl, rfl, rfl, by decide +kernel, rfl, by decide +kernel, by decide +kernel⟩
theorem d_rising_by (T : Txt K mg C) (D_sides : Def P w K mg base "sides_by" 1 S_sides_by) (D_turns_by : Def P w K mg base "turns_by" 3 S_turns_by) {f : Addr} {fd : FuncData} (F : Fun K "rising_by" "rising_by" s_rising_by f fd) (hm : mg "rising_by" = some (.ref f)) (hb : Binds K fd ["drifts"] []) : Def P w K mg base "rising_by" 4 S_rising_by := by
  refine def_ok F hm hb sc_rising_by (fun ds M k h => ?_) (fun cdv A outer s H E ds M kk hl nd hr h => ?_)
  · obtain ⟨d, rfl, _⟩ := h; rfl
  · obtain ⟨d, rfl, hd, q⟩ := h
    walk_at "set"
    refine ae_call D_sides (hr.mono (by decide)) ?_
    walk_at "ax"
    refine ⟨d, rfl, ?_⟩
    refine as_cons (as_asg (ae_call D_turns_by hr ?_))
    walk_at "ax"
    refine ⟨d, rfl, hd, ?_⟩
    refine ag_tup rfl rfl (ags_cons ?_)
    walk_at "ag"
    refine ags_cons ?_
    walk_at "ag"
    refine ags_nil ?_
    unfold ris3 at q
    generalize sds3 d = sd at q
    generalize trn3 d = tt at q
    have inS : ∀ {z : Str} {n : Int}, (decide (z ∈ sd) && decide (0 < n)) = true ↔ (z ∈ sd ∧ 0 < n) := fun {z n} => by rw [Bool.and_eq_true, decide_eq_true_eq, decide_eq_true_eq]
    walk_at "set"
    refine ae_P (.dat (.tuple ((if ("first" : Str) ∈ sd ∧ 0 < tt.1.1 then [("first" : Str)] else []).map .str))) (ae_ifP (decide (("first" : Str) ∈ sd) && decide (0 < tt.1.1)) (at_w (aw_and (at_inS ?_))) (fun h => ?_) fun h => ?_) ?_
    · walk_at "ax"
      refine ⟨_, sd, rfl, rfl, fun h => aw_and1 ?_, fun h => ?_⟩
      · walk_at "ax"
        rw [h]; exact ⟨rfl, rfl⟩
      · rw [h]; exact ⟨rfl, rfl⟩
    · rw [if_pos (show ("first" : Str) ∈ sd ∧ 0 < tt.1.1 from inS.mp h)]
      walk_at "ax"
      exact ⟨[_], rfl, Nat.le_of_ble_eq_true rfl, rfl, rfl⟩
    · rw [if_neg (show ¬(("first" : Str) ∈ sd ∧ 0 < tt.1.1) from fun z => by rw [inS.mpr z] at h; cases h)]
      walk_at "ax"
      exact ⟨[], rfl, Nat.le_of_ble_eq_true rfl, rfl, rfl⟩
    walk_at "set"
    refine ae_P (.dat (.tuple ((if ("second" : Str) ∈ sd ∧ 0 < tt.2.1 then [("second" : Str)] else []).map .str))) (ae_ifP (decide (("second" : Str) ∈ sd) && decide (0 < tt.2.1)) (at_w (aw_and (at_inS ?_))) (fun h => ?_) fun h => ?_) ?_
    · walk_at "ax"
      refine ⟨_, sd, rfl, rfl, fun h => aw_and1 ?_, fun h => ?_⟩
      · walk_at "ax"
        rw [h]; exact ⟨rfl, rfl⟩
      · rw [h]; exact ⟨rfl, rfl⟩
    · rw [if_pos (show ("second" : Str) ∈ sd ∧ 0 < tt.2.1 from inS.mp h)]
      walk_at "ax"
      exact ⟨[_], rfl, Nat.le_of_ble_eq_true rfl, rfl, rfl⟩
    · rw [if_neg (show ¬(("second" : Str) ∈ sd ∧ 0 < tt.2.1) from fun z => by rw [inS.mpr z] at h; cases h)]
      walk_at "ax"
      exact ⟨[], rfl, Nat.le_of_ble_eq_true rfl, rfl, rfl⟩
    refine as_cons (as_ret (ae_catT ?_))
    walk_at "nm"
    walk_at "nm"
    refine ⟨_, _, rfl, rfl, ?_, ?_⟩
    · rw [List.length_map, List.length_map]
      split <;> split <;> decide
    · rw [← List.map_append]; exact q
theorem sds_shaped (d : Dr3) : SeqAt.shaped (.tuple ((sds3 d).map .str)) = true := by unfold sds3; split <;> split <;> decide +kernel
theorem ris_shaped (d : Dr3) : SeqAt.shaped (.tuple ((ris3 d).map .str)) = true := by unfold ris3; split <;> split <;> decide +kernel
theorem strs_eq0 (n : List Str) : PyData.eqv (.tuple (n.map .str)) (.tuple []) = decide (n = []) := by
  cases n with
  | nil => rfl
  | cons a r => rw [decide_eq_false (by simp)]; rfl
theorem sds3_len (d : Dr3) : (sds3 d).length ≤ 2 := by unfold sds3; split <;> split <;> decide
theorem ris3_len (d : Dr3) : (ris3 d).length ≤ 2 := by unfold ris3; split <;> split <;> decide
def S_told_by : DS1 := fun vs M k => ∃ d : Dr3, vs = [.dat (dr3D d)] ∧ Bd3 900 d ∧ k (.dat (.str (told3 d))) M
theorem sc_told_by : FnScope ["drifts"] ["drifts"] (defScope s_told_by) := ⟨rfl, rfl, rfl, by decide +kernel, rfl, by decide +kernel, by decide +kernel⟩
theorem d_told_by (T : Txt K mg C) (D_border_by : Def P w K mg base "border_by" 4 S_border_by) (D_sides : Def P w K mg base "sides_by" 1 S_sides_by) (D_rising_by : Def P w K mg base "rising_by" 4 S_rising_by) {f : Addr} {fd : FuncData} (F : Fun K "told_by" "told_by" s_told_by f fd) (hm : mg "told_by" = some (.ref f)) (hb : Binds K fd ["drifts"] []) : Def P w K mg base "told_by" 5 S_told_by := by
  refine def_ok F hm hb sc_told_by (fun ds M k h => ?_) (fun cdv A outer s H E ds M kk hl nd hr h => ?_)
  · obtain ⟨d, rfl, _⟩ := h; rfl
  · obtain ⟨d, rfl, hd, q⟩ := h
    have hno : ∀ o : Option Str, (!isNo (optS o)) = o.isSome := fun o => by cases o <;> rfl
    unfold told3 at q
    refine as_cons (as_ifP (brd3 d).isSome (at_notN (ae_call D_border_by hr ?_)) (fun h => ?_) fun h => as_nil ?_)
    · walk_at "ax"
      exact ⟨d, rfl, hd, _, rfl, hno _, rfl⟩
    · rw [if_pos h] at q
      refine as_cons (as_ret ?_)
      walk_at "ax"
      exact q
    rw [h, if_neg (by decide)] at q
    have l1 := sds3_len d
    have l2 := ris3_len d
    refine as_cons (as_ret (ae_ifP (!decide (sds3 d = []) && decide (ris3 d = [])) (at_w (aw_and (at_neD (hu64 hr) (ae_call D_sides (hr.mono (by decide)) ?_)))) (fun h => ?_) fun h => ?_))
    · walk_at "ax"
      refine ⟨d, rfl, ae_tup ?_⟩
      walk_at "ax"
      refine ⟨[], rfl, Nat.le_of_ble_eq_true rfl, ar_neD (sds_shaped d) rfl (strs_eq0 _) ⟨_, rfl, fun h => aw_and1 (at_eqD (hu64 hr) (ae_call D_rising_by hr ?_)), fun h => ?_⟩⟩
      · walk_at "ax"
        refine ⟨d, rfl, hd, ae_tup ?_⟩
        walk_at "ax"
        exact ⟨[], rfl, Nat.le_of_ble_eq_true rfl, ar_eqD (ris_shaped d) rfl (strs_eq0 _) ⟨_, rfl, by rw [h]; rfl, rfl⟩⟩
      · rw [h]; exact ⟨rfl, rfl⟩
    · rw [Bool.and_eq_true, Bool.not_eq_true', decide_eq_false_iff_not, decide_eq_true_eq] at h
      rw [if_pos h] at q
      walk_at "ax"
      exact q
    · rw [if_neg (fun z => by rw [decide_eq_false z.1, decide_eq_true z.2] at h; cases h)] at q
      walk_at "ax"
      exact q
/-- does the walk come home -/
def homeO (o : Own) : Bool := if 0 < (dXY (o "inside")).1.1 ∧ 0 < (dXY (o "inside")).2.1 then false else (sdl o).all fun s => if s = "first" then decide ((trn o).1.1 < 0) else decide ((trn o).2.1 < 0)
theorem dec_home (B : Prop) [Decidable B] : decide ((if B then ("home" : Str) else "away") = "home") = decide B := by
  by_cases h : B
  · rw [if_pos h, decide_eq_true h]; exact decide_eq_true rfl
  · rw [if_neg h, decide_eq_false h]; decide +kernel
theorem home_cases {mx my t1 t2 : Int} (n1 : mx ≠ 0) (n2 : my ≠ 0) (n5 : my < 0 → t1 ≠ 0) (n6 : mx < 0 → t2 ≠ 0) (sd rs sl : List Str) (es : sd = (if my < 0 then [("first" : Str)] else []) ++ (if mx < 0 then [("second" : Str)] else []))
    (er : rs = (if ("first" : Str) ∈ sd ∧ 0 < t1 then [("first" : Str)] else []) ++ (if ("second" : Str) ∈ sd ∧ 0 < t2 then [("second" : Str)] else [])) (el : sl = sd) :
    decide (sd ≠ [] ∧ rs = []) = if 0 < mx ∧ 0 < my then false else sl.all fun s => if s = "first" then decide (t1 < 0) else decide (t2 < 0) := by
  have w1 : ("second" : Str) ≠ "first" := by decide +kernel
  have w2 : ("first" : Str) ≠ "second" := by decide +kernel
  subst el
  by_cases hx : mx < 0
  · have nx : ¬ (0 < mx ∧ 0 < my) := by omega
    rw [if_neg nx]
    have := n6 hx
    by_cases hy : my < 0
    · have := n5 hy
      rw [if_pos hx, if_pos hy] at es
      subst es er
      by_cases a1 : 0 < t1 <;> by_cases a2 : 0 < t2
      · have b1 : ¬ t1 < 0 := by omega
        simp [a1, a2, b1]
      · have b1 : ¬ t1 < 0 := by omega
        simp [a1, a2, b1]
      · have b2 : ¬ t2 < 0 := by omega
        simp [a1, a2, b2, w1]
      · have b1 : t1 < 0 := by omega
        have b2 : t2 < 0 := by omega
        simp [a1, a2, b1, b2]
    · rw [if_pos hx, if_neg hy] at es
      subst es er
      by_cases a2 : 0 < t2
      · have b2 : ¬ t2 < 0 := by omega
        simp [a2, b2, w1, w2]
      · have b2 : t2 < 0 := by omega
        simp [a2, b2, w1, w2]
  · by_cases hy : my < 0
    · have nx : ¬ (0 < mx ∧ 0 < my) := by omega
      have := n5 hy
      rw [if_neg nx]
      rw [if_neg hx, if_pos hy] at es
      subst es er
      by_cases a1 : 0 < t1
      · have b1 : ¬ t1 < 0 := by omega
        simp [a1, b1, w1, w2]
      · have b1 : t1 < 0 := by omega
        simp [a1, b1, w1, w2]
    · have nx : 0 < mx ∧ 0 < my := by omega
      rw [if_pos nx]
      rw [if_neg hx, if_neg hy] at es
      subst es
      simp
theorem home_told {o : Own} (hp : brd o = none) : decide (told3 (drs o) = "home") = homeO o := by
  have e1 : brd3 (drs o) = none := hp
  have hp2 := hp
  unfold told3 homeO
  rw [e1, Option.isSome_none, if_neg (by decide), dec_home]
  unfold brd at hp2
  have n1 : (dXY (o "inside")).1.1 ≠ 0 := fun h => by rw [if_pos h] at hp2; cases hp2
  rw [if_neg n1] at hp2
  have n2 : (dXY (o "inside")).2.1 ≠ 0 := fun h => by rw [if_pos h] at hp2; cases hp2
  rw [if_neg n2] at hp2
  have n3 : (dXY (o "first")).2.1 ≠ 0 := fun h => by rw [if_pos h] at hp2; cases hp2
  rw [if_neg n3] at hp2
  have n4 : (dXY (o "second")).1.1 ≠ 0 := fun h => by rw [if_pos h] at hp2; cases hp2
  rw [if_neg n4] at hp2
  have n5 : ¬(("first" : Str) ∈ sds o ∧ (trn o).1.1 = 0) := fun h => by rw [if_pos h] at hp2; cases hp2
  rw [if_neg n5] at hp2
  have n6 : ¬(("second" : Str) ∈ sds o ∧ (trn o).2.1 = 0) := fun h => by rw [if_pos h] at hp2; cases hp2
  refine home_cases n1 n2 (fun hy h0 => n5 ⟨?_, h0⟩) (fun hx h0 => n6 ⟨?_, h0⟩) (sds3 (drs o)) (ris3 (drs o)) (sdl o) rfl rfl ?_
  · unfold sds; rw [if_pos hy]; simp
  · unfold sds; rw [if_pos hx]; simp
  · show sdl o = sds o
    unfold sdl sds
    simp [n1, n2]
end B

set_option Elab.async false
set_option linter.all false
set_option maxRecDepth 100000
set_option maxHeartbeats 4000000
namespace B
open PySem PySem.Spec PyProof.Rows L2 A
local macro_rules | `(tactic| walk_at "nm") => `(tactic| refine ae_nameT (by assumption) rfl ?_)
local macro_rules | `(tactic| walk_at "ag") => `(tactic| refine ag_nameT (by assumption) (by assumption) ?_)
local macro_rules | `(tactic| walk_at "agc") => `(tactic| (refine agc_nameU (by assumption) (by assumption) ?_ ?_; · decide))
local macro_rules | `(tactic| walk_at "set") => `(tactic| refine as_setT (by assumption) (by assumption) ?_)
local macro_rules | `(tactic| walk_at "ax1") => `(tactic| first
  | ((with_reducible show AE _ (Expr.Name _ _) _ _ _); walk_at "nm")
  | ((with_reducible show AA _ (_ :: _) _ _ _); refine aa_cons ?_)
  | ((with_reducible show AA _ [] _ _ _); refine aa_nil ?_)
  | ((with_reducible show AE _ (Expr.Constant _ _ _) _ _ _); first | refine ae_int ?_ | refine ae_str ?_ | refine ae_bl ?_ | refine ae_non ?_)
  | ((with_reducible show AE _ (Expr.BinOp _ Operator.Add _ _) _ _ _); refine ae_add ?_)
  | ((with_reducible show AE _ (Expr.BinOp _ Operator.Sub _ _) _ _ _); refine ae_sub ?_)
  | ((with_reducible show AE _ (Expr.BinOp _ Operator.Mult _ _) _ _ _); refine ae_mul ?_)
  | ((with_reducible show AE _ (Expr.BinOp _ Operator.FloorDiv _ _) _ _ _); refine ae_fdiv ?_)
  | ((with_reducible show AE _ (Expr.BinOp _ Operator.Mod _ _) _ _ _); refine ae_mod ?_)
  | ((with_reducible show AE _ (Expr.Compare _ [CmpOp.Lt] _ _) _ _ _); refine ae_lt ?_)
  | ((with_reducible show AE _ (Expr.Compare _ [CmpOp.LtE] _ _) _ _ _); refine ae_le ?_)
  | ((with_reducible show AE _ (Expr.Compare _ [CmpOp.Gt] _ _) _ _ _); refine ae_gt ?_)
  | ((with_reducible show AE _ (Expr.Compare _ [CmpOp.GtE] _ _) _ _ _); refine ae_ge ?_)
  | ((with_reducible show AE _ (Expr.Compare _ [CmpOp.Eq] _ _) _ _ _); refine ae_eqs ?_)
  | ((with_reducible show AE _ (Expr.Compare _ [CmpOp.NotEq] _ _) _ _ _); refine ae_nes ?_)
  | ((with_reducible show AT _ (Expr.Compare _ [CmpOp.Eq] _ _) _ _ _); refine at_eqs ?_)
  | ((with_reducible show AT _ (Expr.Compare _ [CmpOp.NotEq] _ _) _ _ _); refine at_nes ?_)
  | ((with_reducible show AT _ (Expr.Compare _ [CmpOp.Lt] _ _) _ _ _); refine at_lt ?_)
  | ((with_reducible show AT _ (Expr.Compare _ [CmpOp.LtE] _ _) _ _ _); refine at_le ?_)
  | ((with_reducible show AT _ (Expr.Compare _ [CmpOp.Gt] _ _) _ _ _); refine at_gt ?_)
  | ((with_reducible show AT _ (Expr.Compare _ [CmpOp.GtE] _ _) _ _ _); refine at_ge ?_)
  | ((with_reducible show AT _ (Expr.UnaryOp UnaryOp.Not _ _) _ _ _); refine at_not ?_)
  | ((with_reducible show AT _ (Expr.Call _ _ _ _) _ _ _); refine at_val ?_)
  | ((with_reducible show AR _ rEq (DV.dat (PyData.int _)) (DV.dat (PyData.int _)) _ _); refine ar_eqI ?_)
  | ((with_reducible show AR _ rNe (DV.dat (PyData.int _)) (DV.dat (PyData.int _)) _ _); refine ar_neI ?_)
  | ((with_reducible show AR _ rEq (DV.dat (PyData.str _)) (DV.dat (PyData.str _)) _ _); refine ar_eqS ?_)
  | ((with_reducible show AR _ rNe (DV.dat (PyData.str _)) (DV.dat (PyData.str _)) _ _); refine ar_neS ?_)
  | ((with_reducible show ∃ c, DV.dat (PyData.bool _) = DV.dat (PyData.bool c) ∧ _); refine ⟨_, rfl, ?_⟩)
  | ((with_reducible show AE _ (Expr.Tuple _ _ _) _ _ _); refine ae_tup ?_)
  | ((with_reducible show AE _ (Expr.Subscript _ _ _) _ _ _); refine ae_ixT ?_)
  | ((with_reducible show ∃ i j, DV.dat (PyData.int _) = DV.dat (PyData.int i) ∧ DV.dat (PyData.int _) = DV.dat (PyData.int j) ∧ _); refine ⟨_, _, rfl, rfl, ?_⟩)
  | ((with_reducible show ∃ xs i d, DV.dat (PyData.tuple _) = DV.dat (PyData.tuple xs) ∧ _); refine ⟨_, _, _, rfl, rfl, rfl, ?_⟩))
local macro_rules | `(tactic| walk_at "ax") => `(tactic| repeat (walk_at "ax1"))
local macro_rules | `(tactic| walk_at "ay1") => `(tactic| first
  | walk_at "ax1"
  | ((with_reducible show AE _ (Expr.UnaryOp UnaryOp.USub _ _) _ _ _); refine ae_neg ?_)
  | ((with_reducible show ∃ i, DV.dat (PyData.int _) = DV.dat (PyData.int i) ∧ _); refine ⟨_, rfl, ?_⟩)
  | ((with_reducible show ∃ xs : List PyData, [_, _] = List.map DV.dat xs ∧ _); refine ⟨[_, _], rfl, Nat.le_of_ble_eq_true rfl, ?_⟩)
  | ((with_reducible show ∃ xs : List PyData, [_, _, _] = List.map DV.dat xs ∧ _); refine ⟨[_, _, _], rfl, Nat.le_of_ble_eq_true rfl, ?_⟩))
local macro_rules | `(tactic| walk_at "ay") => `(tactic| repeat (walk_at "ay1"))
variable {P : Program} {w : World} {K : PySem.W.Frag} {mg : Str → Option Value} {base : Heap} {C : Addr}
open TL Wd
set_option exponentiation.threshold 10000
set_option maxHeartbeats 40000000
open Fr (Bd)
theorem le_none {M N : MS} {p : Addr} (h : Le M N) (hp : N p = none) : M p = none := by
  cases hm : M p with
  | none => rfl
  | some mo => rw [h _ _ hm] at hp; cases hp
/-! the law's own word: does it come home -/
def tbK (o : Own) : List (Key × DV) := mergeD [] [(.inr "first", frV (trn o).1), (.inr "second", frV (trn o).2)]
theorem tb_val {o : Own} {s : Str} (h : s ∈ sdl o) : valD (tbK o) (.inr s) = some (frV (if s = "first" then (trn o).1 else (trn o).2)) := by
  have : s = "first" ∨ s = "second" := by
    unfold sdl at h
    rcases List.mem_append.mp h with h | h
    · split at h
      · exact .inl (List.mem_singleton.mp h)
      · cases h
    · split at h
      · exact .inr (List.mem_singleton.mp h)
      · cases h
  rcases this with rfl | rfl <;> rfl
def S_bhome : DS1 := fun vs M k => ∃ (p : Addr) (o : Own), vs = [.raw (.ref p)] ∧ M p = some (.dK (ownK o)) ∧ GoodO o ∧ k (.dat (.bool (homeO o))) M
theorem sc__law_book_is_home : FnScope ["own", "mx", "my", "table", "side"] ["own"] (defScope s__law_book_is_home) := ⟨rfl, rfl, rfl, by decide +kernel, rfl, by decide +kernel, by decide +kernel⟩
abbrev below (o : Own) (s : Str) : Bool := if s = "first" then decide ((trn o).1.1 < 0) else decide ((trn o).2.1 < 0)
abbrev belD (o : Own) : DV → DV
  | .dat (.str s) => .dat (.bool (below o s))
  | d => d
theorem d__law_book_is_home (T : Txt K mg C) (D_bdrift : Def P w K mg base "_law_book_drift" 5 S_bdrift) (D_bturns : Def P w K mg base "_law_book_turns" 6 S_bturns) (D_bsides : Def P w K mg base "_law_book_sides" 6 S_bsides) {f : Addr} {fd : FuncData} (F : Fun K "_law_book_is_home" "_law_book_is_home" s__law_book_is_home f fd) (hm : mg "_law_book_is_home" = some (.ref f)) (hb : Binds K fd ["own"] []) : Def P w K mg base "_law_book_is_home" 7 S_bhome := by
  refine def_ok F hm hb sc__law_book_is_home (fun ds M k h => ?_) (fun cdv A outer s H E ds M kk hl nd hr h => ?_)
  · obtain ⟨p, o, rfl, _⟩ := h; rfl
  · obtain ⟨p, o, rfl, hM, ho, q⟩ := h
    refine as_cons (as_asg (ae_call D_bdrift (hr.mono (by decide)) ?_))
    walk_at "ax"
    refine ⟨p, o, _, rfl, hM, ho, by simp [regs], ?_⟩
    refine ag_tup rfl rfl (ags_cons ?_)
    walk_at "ag"
    refine ags_cons ?_
    walk_at "ag"
    refine ags_nil ?_
    unfold homeO at q
    refine as_cons (as_ifP (decide (0 < (dXY (o "inside")).1.1) && decide (0 < (dXY (o "inside")).2.1)) (at_w (aw_and ?_)) (fun h => ?_) fun h => as_nil ?_)
    · walk_at "ax"
      refine ⟨fun h => aw_and1 ?_, fun h => ?_⟩
      · walk_at "ax"
        rw [h]; exact ⟨rfl, rfl⟩
      · rw [h]; exact ⟨rfl, rfl⟩
    · rw [Bool.and_eq_true, decide_eq_true_eq, decide_eq_true_eq] at h
      rw [if_pos h] at q
      refine as_cons (as_ret ?_)
      walk_at "ax"
      exact q
    rw [if_neg (fun z => by rw [decide_eq_true z.1, decide_eq_true z.2] at h; cases h)] at q
    walk_at "set"
    refine ae_dictZip rfl T.b_dict T.b_list T.b_zip (aa_cons ?_)
    walk_at "ay"
    refine ae_call D_bturns (hr.mono (by decide)) ?_
    walk_at "ax"
    refine ⟨p, o, rfl, hM, ho, aa_nil ⟨_, _, _, _, rfl, fun r hr0 => ?_⟩⟩
    have npr : p ≠ r := fun e => by rw [← e, hM] at hr0; cases hr0
    have hMr : upM M r (.dK (tbK o)) r = some (.dK (tbK o)) := upM_same
    have hMp : upM M r (.dK (tbK o)) p = some (.dK (ownK o)) := by rw [upM_ne npr]; exact hM
    have hMl : Le M (upM M r (.dK (tbK o))) := (Le.refl M).up hr0
    show ASs _ _ _ (upM M r (.dK (tbK o))) _
    generalize upM M r (.dK (tbK o)) = N at hMr hMp hMl
    refine as_cons (as_ret ?_)
    refine ae_wk (ae_all rfl T.b_all (aa_cons (ae_lcP rfl nd (blkOk_by (own := [("side", 4)]) rfl) (belD o) (ai_tup (ae_call D_bsides (hr.mono (by decide)) ?_)))))
    walk_at "ax"
    refine ⟨p, o, rfl, hMp, ho, _, rfl, fun _ _ _ => trivial, ?_, fun d M3 hd hle3 s H C cl fp => ?_, fun D hD => ?_⟩
    · rw [List.length_map, List.length_map]
      unfold sdl
      split <;> split <;> decide
    · obtain ⟨y, hy, rfl⟩ := List.mem_map.mp hd
      obtain ⟨z, hz, rfl⟩ := List.mem_map.mp hy
      have hv := tb_val hz
      walk_at "agc"
      intro s H C cl fp
      refine ae_lt (ae_ixT (ae_dget (hu1 hr) ?_))
      walk_at "ax"
      refine ⟨r, _, z, _, rfl, rfl, hle3 _ _ hMr, hv, ?_⟩
      walk_at "ax"
      refine ⟨?_, rfl⟩
      show DV.dat (.bool (decide ((if z = "first" then (trn o).1 else (trn o).2).1 < 0))) = .dat (.bool (below o z))
      unfold below
      split <;> rfl
    · refine aa_nil ⟨D, (sdl o).map (below o), rfl, ?_, _, M, .forget (hMl.trans ((Le.refl N).up hD)), ?_⟩
      · rw [upM_same]
        congr 2
        rw [List.map_map, List.map_map, List.map_map]
        rfl
      · rw [List.all_map]
        exact q
/-! books by hand -/
def handO (b : Bool) : Own := fun r => if r = "inside" then [(1, 0, (3, 8)), (-1, 0, (1, 4)), (0, -1, (3, 8))] else if r = "first" then (if b then [(1, 0, (1, 4)), (-1, 0, (1, 2)), (0, 1, (1, 4))] else [(1, 0, (1, 2)), (-1, 0, (1, 4)), (0, 1, (1, 4))])
  else if r = "second" then [(1, 0, (1, 2)), (0, -1, (1, 2))] else [(1, 0, (1, 2)), (0, 1, (1, 2))]
theorem dr_of {r : Str} {g : List Step} (st : List (Int × Int)) (ws : List Int) (e : g = rowsOf st ws) (hn : st.Nodup) (hm : ∀ x ∈ st, may r x.1 x.2 = true) (hl : ws.length = st.length) (hw0 : ∀ w ∈ ws, 1 ≤ w) (h1 : 1 ≤ st.length) (h5 : st.length ≤ 5) (hS : ws.sum ≤ 50) : RowsOk r g ∧ DenS g := by
  rw [e]
  exact ⟨rows_gen hn hm hl hw0 h1 (by omega) (by omega), rows_den hl hw0 h1 h5 hS⟩
theorem hand_dr (b : Bool) : DrO (handO b) := fun r hr => by
  simp only [regs, List.mem_cons, List.not_mem_nil, or_false] at hr
  rcases hr with rfl | rfl | rfl | rfl
  · exact dr_of [(1, 0), (-1, 0), (0, -1)] [3, 2, 3] (by cases b <;> decide +kernel) (by decide) (by decide +kernel) rfl (by decide) (by decide) (by decide) (by decide)
  · cases b
    · exact dr_of [(1, 0), (-1, 0), (0, 1)] [2, 1, 1] (by decide +kernel) (by decide) (by decide +kernel) rfl (by decide) (by decide) (by decide) (by decide)
    · exact dr_of [(1, 0), (-1, 0), (0, 1)] [1, 2, 1] (by decide +kernel) (by decide) (by decide +kernel) rfl (by decide) (by decide) (by decide) (by decide)
  · exact dr_of [(1, 0), (0, -1)] [1, 1] (by cases b <;> decide +kernel) (by decide) (by decide +kernel) rfl (by decide) (by decide) (by decide) (by decide)
  · exact dr_of [(1, 0), (0, 1)] [1, 1] (by cases b <;> decide +kernel) (by decide) (by decide +kernel) rfl (by decide) (by decide) (by decide) (by decide)
theorem hand_plain (b : Bool) : brd (handO b) = none := by cases b <;> decide +kernel
theorem hand_home (b : Bool) : homeO (handO b) = b := by cases b <;> decide +kernel
abbrev rwV (g : List Step) : DV := .dat (.list (g.map stD))
def S_hand : DS1 := fun vs M k => ∃ b : Bool, vs = [.dat (.bool b)] ∧ ∀ r N, Le M N → M r = none → N r = some (.dK (ownK (handO b))) → k (.raw (.ref r)) N
theorem sc__law_book_by_hand : FnScope ["is_home", "half", "fourth", "ends", "first", "own"] ["is_home"] (defScope s__law_book_by_hand) := ⟨rfl, rfl, rfl, by decide +kernel, rfl, by decide +kernel, by decide +kernel⟩
theorem d__law_book_by_hand (T : Txt K mg C) {f : Addr} {fd : FuncData} (F : Fun K "_law_book_by_hand" "_law_book_by_hand" s__law_book_by_hand f fd) (hm : mg "_law_book_by_hand" = some (.ref f)) (hb : Binds K fd ["is_home"] []) : Def P w K mg base "_law_book_by_hand" 1 S_hand := by
  refine def_ok F hm hb sc__law_book_by_hand (fun ds M k h => ?_) (fun cdv A outer s H E ds M kk hl nd hr h => ?_)
  · obtain ⟨b, rfl, _⟩ := h; rfl
  · obtain ⟨b, rfl, q⟩ := h
    refine as_cons (as_asg (ae_tup ?_))
    walk_at "ay"
    refine ag_tup rfl rfl (ags_cons ?_)
    walk_at "ag"
    refine ags_cons ?_
    walk_at "ag"
    refine ags_nil ?_
    walk_at "set"
    refine ae_P (.dat (.tuple [frD (if b then (1, 4) else (1, 2)), frD (if b then (1, 2) else (1, 4))])) (ae_ifP b (at_val ?_) (fun h => ?_) fun h => ?_) ?_
    · walk_at "ax"
      exact ⟨rfl, rfl⟩
    · subst h
      walk_at "ay"
      exact ⟨rfl, rfl⟩
    · subst h
      walk_at "ay"
      exact ⟨rfl, rfl⟩
    walk_at "set"
    refine ae_lstD ?_
    walk_at "ay"
    have e1 : handO b "first" = [((1 : Int), (0 : Int), (if b then ((1 : Int), (4 : Int)) else (1, 2))), (-1, 0, (if b then (1, 2) else (1, 4))), (0, 1, (1, 4))] := by cases b <;> rfl
    refine ass_ds (es := [some (.dat (.bool b)), some (frV (1, 2)), some (frV (1, 4)), some (.dat (.tuple [frD (if b then (1, 4) else (1, 2)), frD (if b then (1, 2) else (1, 4))])), some (rwV (handO b "first")), none]) (by rw [e1]; rfl) ?_
    walk_at "set"
    refine ae_disp fun p hpD => ads_cons ?_
    walk_at "ax"
    refine ae_lstD ?_
    walk_at "ay"
    refine ads_cons ?_
    walk_at "ax"
    refine ads_nil ⟨[("inside", rwV (handO b "inside")), ("first", rwV (handO b "first"))], rfl, Nat.le_of_ble_eq_true rfl, upM_same, ?_⟩
    rw [upM_upM]
    refine as_cons (as_expr (ae_dupd ?_))
    walk_at "nm"
    refine ⟨p, _, rfl, upM_same, ae_disp fun p2 hpD2 => ads_cons ?_⟩
    walk_at "ax"
    refine ae_lstD ?_
    walk_at "ay"
    refine ads_cons ?_
    walk_at "ax"
    refine ae_lstD ?_
    walk_at "ay"
    refine ads_nil ⟨[("second", rwV (handO b "second")), ("none", rwV (handO b "none"))], rfl, Nat.le_of_ble_eq_true rfl, upM_same, ?_⟩
    rw [upM_upM]
    have npp : p ≠ p2 := fun e => by rw [← e, upM_same] at hpD2; cases hpD2
    refine ⟨p2, _, _, rfl, npp, by rw [upM_ne npp]; exact upM_same, upM_same, Nat.le_of_ble_eq_true rfl, ?_⟩
    refine as_cons (as_ret ?_)
    walk_at "nm"
    refine q p _ ?_ hpD ?_
    · refine Le.up (Le.up (Le.up (Le.refl M) hpD) ?_) hpD
      rw [upM_ne npp.symm] at hpD2; exact hpD2
    · rw [upM_same]; rfl
end B

set_option Elab.async false
set_option linter.all false
set_option maxRecDepth 100000
set_option maxHeartbeats 4000000
namespace B
open PySem PySem.Spec PyProof.Rows L2 A
local macro_rules | `(tactic| walk_at "nm") => `(tactic| refine ae_nameT (by assumption) rfl ?_)
local macro_rules | `(tactic| walk_at "ag") => `(tactic| refine ag_nameT (by assumption) (by assumption) ?_)
local macro_rules | `(tactic| walk_at "agc") => `(tactic| (refine agc_nameU (by assumption) (by assumption) ?_ ?_; · decide))
local macro_rules | `(tactic| walk_at "set") => `(tactic| refine as_setT (by assumption) (by assumption) ?_)
local macro_rules | `(tactic| walk_at "ax1") => `(tactic| first
  | ((with_reducible show AE _ (Expr.Name _ _) _ _ _); walk_at "nm")
  | ((with_reducible show AA _ (_ :: _) _ _ _); refine aa_cons ?_)
  | ((with_reducible show AA _ [] _ _ _); refine aa_nil ?_)
  | ((with_reducible show AE _ (Expr.Constant _ _ _) _ _ _); first | refine ae_int ?_ | refine ae_str ?_ | refine ae_bl ?_ | refine ae_non ?_)
  | ((with_reducible show AE _ (Expr.BinOp _ Operator.Add _ _) _ _ _); refine ae_add ?_)
  | ((with_reducible show AE _ (Expr.BinOp _ Operator.Sub _ _) _ _ _); refine ae_sub ?_)
  | ((with_reducible show AE _ (Expr.BinOp _ Operator.Mult _ _) _ _ _); refine ae_mul ?_)
  | ((with_reducible show AE _ (Expr.BinOp _ Operator.FloorDiv _ _) _ _ _); refine ae_fdiv ?_)
  | ((with_reducible show AE _ (Expr.BinOp _ Operator.Mod _ _) _ _ _); refine ae_mod ?_)
  | ((with_reducible show AE _ (Expr.Compare _ [CmpOp.Lt] _ _) _ _ _); refine ae_lt ?_)
  | ((with_reducible show AE _ (Expr.Compare _ [CmpOp.LtE] _ _) _ _ _); refine ae_le ?_)
  | ((with_reducible show AE _ (Expr.Compare _ [CmpOp.Gt] _ _) _ _ _); refine ae_gt ?_)
  | ((with_reducible show AE _ (Expr.Compare _ [CmpOp.GtE] _ _) _ _ _); refine ae_ge ?_)
  | ((with_reducible show AE _ (Expr.Compare _ [CmpOp.Eq] _ _) _ _ _); refine ae_eqs ?_)
  | ((with_reducible show AE _ (Expr.Compare _ [CmpOp.NotEq] _ _) _ _ _); refine ae_nes ?_)
  | ((with_reducible show AT _ (Expr.Compare _ [CmpOp.Eq] _ _) _ _ _); refine at_eqs ?_)
  | ((with_reducible show AT _ (Expr.Compare _ [CmpOp.NotEq] _ _) _ _ _); refine at_nes ?_)
  | ((with_reducible show AT _ (Expr.Compare _ [CmpOp.Lt] _ _) _ _ _); refine at_lt ?_)
  | ((with_reducible show AT _ (Expr.Compare _ [CmpOp.LtE] _ _) _ _ _); refine at_le ?_)
  | ((with_reducible show AT _ (Expr.Compare _ [CmpOp.Gt] _ _) _ _ _); refine at_gt ?_)
  | ((with_reducible show AT _ (Expr.Compare _ [CmpOp.GtE] _ _) _ _ _); refine at_ge ?_)
  | ((with_reducible show AT _ (Expr.UnaryOp UnaryOp.Not _ _) _ _ _); refine at_not ?_)
  | ((with_reducible show AT _ (Expr.Call _ _ _ _) _ _ _); refine at_val ?_)
  | ((with_reducible show AR _ rEq (DV.dat (PyData.int _)) (DV.dat (PyData.int _)) _ _); refine ar_eqI ?_)
  | ((with_reducible show AR _ rNe (DV.dat (PyData.int _)) (DV.dat (PyData.int _)) _ _); refine ar_neI ?_)
  | ((with_reducible show AR _ rEq (DV.dat (PyData.str _)) (DV.dat (PyData.str _)) _ _); refine ar_eqS ?_)
  | ((with_reducible show AR _ rNe (DV.dat (PyData.str _)) (DV.dat (PyData.str _)) _ _); refine ar_neS ?_)
  | ((with_reducible show ∃ c, DV.dat (PyData.bool _) = DV.dat (PyData.bool c) ∧ _); refine ⟨_, rfl, ?_⟩)
  | ((with_reducible show AE _ (Expr.Tuple _ _ _) _ _ _); refine ae_tup ?_)
  | ((with_reducible show AE _ (Expr.Subscript _ _ _) _ _ _); refine ae_ixT ?_)
  | ((with_reducible show ∃ i j, DV.dat (PyData.int _) = DV.dat (PyData.int i) ∧ DV.dat (PyData.int _) = DV.dat (PyData.int j) ∧ _); refine ⟨_, _, rfl, rfl, ?_⟩)
  | ((with_reducible show ∃ xs i d, DV.dat (PyData.tuple _) = DV.dat (PyData.tuple xs) ∧ _); refine ⟨_, _, _, rfl, rfl, rfl, ?_⟩))
local macro_rules | `(tactic| walk_at "ax") => `(tactic| repeat (walk_at "ax1"))
local macro_rules | `(tactic| walk_at "ay1") => `(tactic| first
  | walk_at "ax1"
  | ((with_reducible show AE _ (Expr.UnaryOp UnaryOp.USub _ _) _ _ _); refine ae_neg ?_)
  | ((with_reducible show ∃ i, DV.dat (PyData.int _) = DV.dat (PyData.int i) ∧ _); refine ⟨_, rfl, ?_⟩)
  | ((with_reducible show ∃ xs : List PyData, [_, _] = List.map DV.dat xs ∧ _); refine ⟨[_, _], rfl, Nat.le_of_ble_eq_true rfl, ?_⟩)
  | ((with_reducible show ∃ xs : List PyData, [_, _, _] = List.map DV.dat xs ∧ _); refine ⟨[_, _, _], rfl, Nat.le_of_ble_eq_true rfl, ?_⟩))
local macro_rules | `(tactic| walk_at "ay") => `(tactic| repeat (walk_at "ay1"))
variable {P : Program} {w : World} {K : PySem.W.Frag} {mg : Str → Option Value} {base : Heap} {C : Addr}
open TL Wd
set_option exponentiation.threshold 10000
set_option maxHeartbeats 40000000
open Fr (Bd)
def exO (o : Own) : Own := fun x => if x = "first" then (o "second").map swS else if x = "second" then (o "first").map swS else (o x).map swS
theorem frs_sw (g : List Step) : frs (g.map swS) = frs g := by show List.map _ (List.map _ g) = _; rw [List.map_map]; rfl
theorem sw_good {g : List Step} (h : GoodR g) : GoodR (g.map swS) := by
  obtain ⟨t, wt, h1, h2, h3, h4⟩ := h.den
  refine ⟨fun s hs => ?_, fun n => ?_, ?_, ?_, t, fun s => wt (swS s), h1, h2, fun s hs => ?_, ?_⟩
  · obtain ⟨x, hx, rfl⟩ := List.mem_map.mp hs
    exact h.sm x hx
  · rw [frs_sw]; exact h.ps n
  · rw [frs_sw]; exact h.one
  · rw [List.length_map]; exact h.len
  · obtain ⟨x, hx, rfl⟩ := List.mem_map.mp hs
    exact h3 x hx
  · rw [List.map_map]
    exact h4
def swR (r : Str) : Str := if r = "first" then "second" else if r = "second" then "first" else r
theorem swR_in {r : Str} (h : r ∈ regs) : swR r ∈ regs := by
  simp only [regs, List.mem_cons, List.not_mem_nil, or_false] at h
  rcases h with rfl | rfl | rfl | rfl <;> decide +kernel
theorem exO_at (o : Own) {r : Str} (h : r ∈ regs) : exO o r = (o (swR r)).map swS := by
  unfold exO swR
  split
  · rfl
  · split <;> rfl
theorem may_sw {r : Str} (h : r ∈ regs) {i j : Int} (hm : may (swR r) i j = true) : may r j i = true := by
  have lows : lowI (swR r) = lowJ r ∧ lowJ (swR r) = lowI r := by
    simp only [regs, List.mem_cons, List.not_mem_nil, or_false] at h
    rcases h with rfl | rfl | rfl | rfl <;> decide +kernel
  unfold may at hm ⊢
  rw [lows.1, lows.2] at hm
  rw [Bool.and_comm]; exact hm
theorem exO_good {o : Own} (ho : GoodO o) : GoodO (exO o) := by
  refine ⟨fun x hx => ?_, fun x hx s hs => ?_, fun x hx => ?_, fun x hx => ?_⟩
  · rw [exO_at o hx]; exact sw_good (ho.r _ (swR_in hx))
  · rw [exO_at o hx] at hs
    obtain ⟨y, hy, rfl⟩ := List.mem_map.mp hs
    obtain ⟨g, m⟩ := ho.s _ (swR_in hx) y hy
    exact ⟨⟨g.j, g.i, g.f, g.pos⟩, may_sw hx m⟩
  · rw [exO_at o hx, List.length_map]; exact ho.len _ (swR_in hx)
  · rw [exO_at o hx, List.pairwise_map]
    exact (ho.nd _ (swR_in hx)).imp fun h q => h ⟨q.2, q.1⟩
theorem get_pair {rs : List Str} {f : Str → PyData} {i : Nat} {d : DV} (h : (_root_.A.pairD (rs.map .str) (rs.map f))[i]? = some d) : ∃ r, rs[i]? = some r ∧ d = .dat (.tuple [.str r, f r]) := by
  unfold _root_.A.pairD at h
  rw [List.getElem?_map, Option.map_eq_some_iff] at h
  obtain ⟨⟨u, v⟩, h1, rfl⟩ := h
  rw [List.getElem?_zip_eq_some, List.getElem?_map, List.getElem?_map] at h1
  obtain ⟨h2, h3⟩ := h1
  obtain ⟨r, hr, rfl⟩ := Option.map_eq_some_iff.mp h2
  rw [hr] at h3
  cases h3
  exact ⟨r, hr, rfl⟩
theorem own_step {o : Own} {i : Nat} {r : Str} (h : regs[i]? = some r) : putD (kvL ((regs.take i).map fun x => (x, o x))) (.inr r) (.dat (.list ((o r).map stD))) = kvL ((regs.take (i + 1)).map fun x => (x, o x)) := by
  rw [putD_new, List.take_add_one, h, Option.toList_some, List.map_append, kvL, kvL, List.map_append]
  · rfl
  · intro kv hkv e
    obtain ⟨b, hb, rfl⟩ := List.mem_map.mp hkv
    obtain ⟨x, hx, rfl⟩ := List.mem_map.mp hb
    have e1 : x = r := by injection e
    subst e1
    obtain ⟨j, hj⟩ := List.getElem?_of_mem hx
    rw [List.getElem?_take] at hj
    split at hj
    · next hlt => exact nodup_two regs_nd hlt hj h
    · cases hj
def S_bexch : DS1 := fun vs M k => ∃ (p : Addr) (o : Own), vs = [.raw (.ref p)] ∧ M p = some (.dK (ownK o)) ∧ GoodO o ∧ ∀ r, M r = none → k (.raw (.ref r)) (upM M r (.dK (ownK (exO o))))
theorem sc__law_book_exchanged : FnScope ["own", "found", "region", "old", "j", "i", "chance"] ["own"] (defScope s__law_book_exchanged) := ⟨rfl, rfl, rfl, by decide +kernel, rfl, by decide +kernel, by decide +kernel⟩
theorem d__law_book_exchanged (T : Txt K mg C) (D_bregs : Def P w K mg base "_law_book_regions" 1 S_bregs) {f : Addr} {fd : FuncData} (F : Fun K "_law_book_exchanged" "_law_book_exchanged" s__law_book_exchanged f fd) (hm : mg "_law_book_exchanged" = some (.ref f)) (hb : Binds K fd ["own"] []) : Def P w K mg base "_law_book_exchanged" 2 S_bexch := by
  refine def_ok F hm hb sc__law_book_exchanged (fun ds M k h => ?_) (fun cdv A outer s H E ds M kk hl nd hr h => ?_)
  · obtain ⟨p, o, rfl, _⟩ := h; rfl
  · obtain ⟨p, o, rfl, hM, ho, q⟩ := h
    walk_at "set"
    refine ae_dnew fun r hr0 => ?_
    have npr : p ≠ r := fun e => by rw [← e, hM] at hr0; cases hr0
    refine as_cons (as_for PassesOwn.never rfl (W := fun i ds' M' => M' = upM M r (.dK (kvL ((regs.take i).map fun x => (x, exO o x)))) ∧ ∃ x1 x2 x3 x4 x5, ds' = [some (.raw (.ref p)), some (.raw (.ref r)), x1, x2, x3, x4, x5]) (ai_zipT T.b_zip (aa_cons (ae_call0 D_bregs hr ⟨rfl, ?_⟩))))
    walk_at "ay"
    refine ⟨[_, _, _, _], rfl, Nat.le_of_ble_eq_true rfl, ?_⟩
    walk_at "ay"
    refine ⟨regs.map .str, regs.map fun x => .str (swR x), rfl, ⟨rfl, _, _, _, _, _, rfl⟩, fun i d ds' M' hx hw => ?_, fun ds' M' hw => ?_⟩
    · obtain ⟨rfl, x1, x2, x3, x4, x5, rfl⟩ := hw
      obtain ⟨rg, hrg, rfl⟩ := get_pair hx
      have hin := List.mem_of_getElem? hrg
      have hln := ho.len _ (swR_in hin)
      refine ag_tup rfl rfl (ags_cons ?_)
      walk_at "ag"
      refine ags_cons ?_
      walk_at "ag"
      refine ags_nil ?_
      refine ass_ds (es := [some (.raw (.ref p)), some (.raw (.ref r)), some (.dat (.str rg)), some (.dat (.str (swR rg))), x3, x4, x5]) rfl ?_
      refine as_cons (as_dput (hu1 hr) (ae_wk (ae_lcP rfl nd (blkOk_by (own := [("i", 5), ("j", 4), ("chance", 6)]) rfl) swD (ai_list (ae_dget (hu1 hr) ?_)))))
      walk_at "ax"
      refine ⟨p, _, _, _, rfl, rfl, by rw [upM_ne npr]; exact hM, own_val (swR_in hin), _, rfl, fun _ _ _ => trivial, by rw [List.length_map, List.length_map]; omega, fun d M3 hd hle3 s H C cl fp => ?_, fun D hD => ?_⟩
      · obtain ⟨y, hy, rfl⟩ := List.mem_map.mp hd
        obtain ⟨st, hst, rfl⟩ := List.mem_map.mp hy
        refine agc_tup rfl rfl (agcs_cons ?_)
        walk_at "agc"
        refine agcs_cons ?_
        walk_at "agc"
        refine agcs_cons ?_
        walk_at "agc"
        refine agcs_nil fun s H C cl fp => ?_
        walk_at "ay"
        exact ⟨rfl, rfl⟩
      · have e : (((o (swR rg)).map stD).map DV.dat).map swD = ((exO o rg).map stD).map .dat := by
          rw [exO_at o hin, List.map_map, List.map_map, List.map_map, List.map_map]; rfl
        rw [e]
        refine ⟨_, _, wk_new hD, ?_⟩
        walk_at "ax"
        refine ⟨r, _, rg, rfl, rfl, upM_same, ?_, as_nil ⟨?_, _, _, _, _, _, rfl⟩⟩
        · rw [kvL, List.length_map, List.length_map, List.length_take]
          have : regs.length = 4 := rfl
          omega
        · rw [upM_upM, own_step hrg]
    · obtain ⟨rfl, x1, x2, x3, x4, x5, rfl⟩ := hw
      refine as_cons (as_ret ?_)
      walk_at "nm"
      exact q r hr0
end B

set_option Elab.async false
set_option linter.all false
set_option maxRecDepth 100000
set_option maxHeartbeats 4000000
namespace B
open PySem PySem.Spec PyProof.Rows L2 A
local macro_rules | `(tactic| walk_at "nm") => `(tactic| refine ae_nameT (by assumption) rfl ?_)
local macro_rules | `(tactic| walk_at "ag") => `(tactic| refine ag_nameT (by assumption) (by assumption) ?_)
local macro_rules | `(tactic| walk_at "agc") => `(tactic| (refine agc_nameU (by assumption) (by assumption) ?_ ?_; · decide))
local macro_rules | `(tactic| walk_at "set") => `(tactic| refine as_setT (by assumption) (by assumption) ?_)
local macro_rules | `(tactic| walk_at "ax1") => `(tactic| first
  | ((with_reducible show AE _ (Expr.Name _ _) _ _ _); walk_at "nm")
  | ((with_reducible show AA _ (_ :: _) _ _ _); refine aa_cons ?_)
  | ((with_reducible show AA _ [] _ _ _); refine aa_nil ?_)
  | ((with_reducible show AE _ (Expr.Constant _ _ _) _ _ _); first | refine ae_int ?_ | refine ae_str ?_ | refine ae_bl ?_ | refine ae_non ?_)
  | ((with_reducible show AE _ (Expr.BinOp _ Operator.Add _ _) _ _ _); refine ae_add ?_)
  | ((with_reducible show AE _ (Expr.BinOp _ Operator.Sub _ _) _ _ _); refine ae_sub ?_)
  | ((with_reducible show AE _ (Expr.BinOp _ Operator.Mult _ _) _ _ _); refine ae_mul ?_)
  | ((with_reducible show AE _ (Expr.BinOp _ Operator.FloorDiv _ _) _ _ _); refine ae_fdiv ?_)
  | ((with_reducible show AE _ (Expr.BinOp _ Operator.Mod _ _) _ _ _); refine ae_mod ?_)
  | ((with_reducible show AE _ (Expr.Compare _ [CmpOp.Lt] _ _) _ _ _); refine ae_lt ?_)
  | ((with_reducible show AE _ (Expr.Compare _ [CmpOp.LtE] _ _) _ _ _); refine ae_le ?_)
  | ((with_reducible show AE _ (Expr.Compare _ [CmpOp.Gt] _ _) _ _ _); refine ae_gt ?_)
  | ((with_reducible show AE _ (Expr.Compare _ [CmpOp.GtE] _ _) _ _ _); refine ae_ge ?_)
  | ((with_reducible show AE _ (Expr.Compare _ [CmpOp.Eq] _ _) _ _ _); refine ae_eqs ?_)
  | ((with_reducible show AE _ (Expr.Compare _ [CmpOp.NotEq] _ _) _ _ _); refine ae_nes ?_)
  | ((with_reducible show AT _ (Expr.Compare _ [CmpOp.Eq] _ _) _ _ _); refine at_eqs ?_)
  | ((with_reducible show AT _ (Expr.Compare _ [CmpOp.NotEq] _ _) _ _ _); refine at_nes ?_)
  | ((with_reducible show AT _ (Expr.Compare _ [CmpOp.Lt] _ _) _ _ _); refine at_lt ?_)
  | ((with_reducible show AT _ (Expr.Compare _ [CmpOp.LtE] _ _) _ _ _); refine at_le ?_)
  | ((with_reducible show AT _ (Expr.Compare _ [CmpOp.Gt] _ _) _ _ _); refine at_gt ?_)
  | ((with_reducible show AT _ (Expr.Compare _ [CmpOp.GtE] _ _) _ _ _); refine at_ge ?_)
  | ((with_reducible show AT _ (Expr.UnaryOp UnaryOp.Not _ _) _ _ _); refine at_not ?_)
  | ((with_reducible show AT _ (Expr.Call _ _ _ _) _ _ _); refine at_val ?_)
  | ((with_reducible show AR _ rEq (DV.dat (PyData.int _)) (DV.dat (PyData.int _)) _ _); refine ar_eqI ?_)
  | ((with_reducible show AR _ rNe (DV.dat (PyData.int _)) (DV.dat (PyData.int _)) _ _); refine ar_neI ?_)
  | ((with_reducible show AR _ rEq (DV.dat (PyData.str _)) (DV.dat (PyData.str _)) _ _); refine ar_eqS ?_)
  | ((with_reducible show AR _ rNe (DV.dat (PyData.str _)) (DV.dat (PyData.str _)) _ _); refine ar_neS ?_)
  | ((with_reducible show ∃ c, DV.dat (PyData.bool _) = DV.dat (PyData.bool c) ∧ _); refine ⟨_, rfl, ?_⟩)
  | ((with_reducible show AE _ (Expr.Tuple _ _ _) _ _ _); refine ae_tup ?_)
  | ((with_reducible show AE _ (Expr.Subscript _ _ _) _ _ _); refine ae_ixT ?_)
  | ((with_reducible show ∃ i j, DV.dat (PyData.int _) = DV.dat (PyData.int i) ∧ DV.dat (PyData.int _) = DV.dat (PyData.int j) ∧ _); refine ⟨_, _, rfl, rfl, ?_⟩)
  | ((with_reducible show ∃ xs i d, DV.dat (PyData.tuple _) = DV.dat (PyData.tuple xs) ∧ _); refine ⟨_, _, _, rfl, rfl, rfl, ?_⟩))
local macro_rules | `(tactic| walk_at "ax") => `(tactic| repeat (walk_at "ax1"))
local macro_rules | `(tactic| walk_at "ay1") => `(tactic| first
  | walk_at "ax1"
  | ((with_reducible show AE _ (Expr.UnaryOp UnaryOp.USub _ _) _ _ _); refine ae_neg ?_)
  | ((with_reducible show ∃ i, DV.dat (PyData.int _) = DV.dat (PyData.int i) ∧ _); refine ⟨_, rfl, ?_⟩)
  | ((with_reducible show ∃ xs : List PyData, [_, _] = List.map DV.dat xs ∧ _); refine ⟨[_, _], rfl, Nat.le_of_ble_eq_true rfl, ?_⟩)
  | ((with_reducible show ∃ xs : List PyData, [_, _, _] = List.map DV.dat xs ∧ _); refine ⟨[_, _, _], rfl, Nat.le_of_ble_eq_true rfl, ?_⟩))
local macro_rules | `(tactic| walk_at "ay") => `(tactic| repeat (walk_at "ay1"))
variable {P : Program} {w : World} {K : PySem.W.Frag} {mg : Str → Option Value} {base : Heap} {C : Addr}
open TL Wd
set_option exponentiation.threshold 10000
set_option maxHeartbeats 40000000
open Fr (Bd)
/-- plainness, by numbers -/
structure PlN (mx my fy sx t1 t2 : Int) : Prop where
  x : mx ≠ 0
  y : my ≠ 0
  f : fy ≠ 0
  s : sx ≠ 0
  a : my < 0 → t1 ≠ 0
  b : mx < 0 → t2 ≠ 0
theorem pl_iff (o : Own) : brd o = none ↔ PlN (dXY (o "inside")).1.1 (dXY (o "inside")).2.1 (dXY (o "first")).2.1 (dXY (o "second")).1.1 (trn o).1.1 (trn o).2.1 := by
  have w1 : ("second" : Str) ≠ "first" := by decide +kernel
  have w2 : ("first" : Str) ≠ "second" := by decide +kernel
  have m1 : ("first" : Str) ∈ sds o ↔ (dXY (o "inside")).2.1 < 0 := by unfold sds; simp [w1, w2]
  have m2 : ("second" : Str) ∈ sds o ↔ (dXY (o "inside")).1.1 < 0 := by unfold sds; simp [w1, w2]
  unfold brd
  constructor
  · intro h
    by_cases h1 : (dXY (o "inside")).1.1 = 0
    · rw [if_pos h1] at h; cases h
    rw [if_neg h1] at h
    by_cases h2 : (dXY (o "inside")).2.1 = 0
    · rw [if_pos h2] at h; cases h
    rw [if_neg h2] at h
    by_cases h3 : (dXY (o "first")).2.1 = 0
    · rw [if_pos h3] at h; cases h
    rw [if_neg h3] at h
    by_cases h4 : (dXY (o "second")).1.1 = 0
    · rw [if_pos h4] at h; cases h
    rw [if_neg h4] at h
    by_cases h5 : ("first" : Str) ∈ sds o ∧ (trn o).1.1 = 0
    · rw [if_pos h5] at h; cases h
    rw [if_neg h5] at h
    by_cases h6 : ("second" : Str) ∈ sds o ∧ (trn o).2.1 = 0
    · rw [if_pos h6] at h; cases h
    exact ⟨h1, h2, h3, h4, fun k e => h5 ⟨m1.mpr k, e⟩, fun k e => h6 ⟨m2.mpr k, e⟩⟩
  · intro h
    rw [if_neg h.x, if_neg h.y, if_neg h.f, if_neg h.s, if_neg fun z => h.a (m1.mp z.1) z.2, if_neg fun z => h.b (m2.mp z.1) z.2]
theorem home_iff {o : Own} (h : brd o = none) : homeO o = decide (¬(0 < (dXY (o "inside")).1.1 ∧ 0 < (dXY (o "inside")).2.1) ∧ ((dXY (o "inside")).2.1 < 0 → (trn o).1.1 < 0) ∧ ((dXY (o "inside")).1.1 < 0 → (trn o).2.1 < 0)) := by
  have p := (pl_iff o).mp h
  unfold homeO sdl
  have w1 : ("second" : Str) ≠ "first" := by decide +kernel
  by_cases h0 : 0 < (dXY (o "inside")).1.1 ∧ 0 < (dXY (o "inside")).2.1
  · rw [if_pos h0, decide_eq_false fun z => z.1 h0]
  rw [if_neg h0]
  by_cases hy : (dXY (o "inside")).2.1 < 0 <;> by_cases hx : (dXY (o "inside")).1.1 < 0 <;> simp [hx, hy, p.x, p.y, w1, h0]
theorem sds_sdl {o : Own} (h : brd o = none) : sdl o = sds o := by
  have p := (pl_iff o).mp h
  unfold sdl sds
  simp [p.x, p.y]
theorem dxy_sw (g : List Step) : dXY (g.map swS) = ((dXY g).2, (dXY g).1) := by
  unfold dXY mulK
  rw [List.map_map, List.map_map]
  rfl
theorem dxy_ex {o : Own} {r : Str} (h : r ∈ regs) : dXY (exO o r) = ((dXY (o (swR r))).2, (dXY (o (swR r))).1) := by rw [exO_at o h, dxy_sw]
theorem ex_in (o : Own) : dXY (exO o "inside") = ((dXY (o "inside")).2, (dXY (o "inside")).1) := dxy_ex (by simp [regs])
theorem ex_fi (o : Own) : dXY (exO o "first") = ((dXY (o "second")).2, (dXY (o "second")).1) := dxy_ex (by simp [regs])
theorem ex_se (o : Own) : dXY (exO o "second") = ((dXY (o "first")).2, (dXY (o "first")).1) := dxy_ex (by simp [regs])
theorem trn_ex (o : Own) : trn (exO o) = ((trn o).2, (trn o).1) := by
  unfold trn
  rw [ex_in, ex_fi, ex_se]
theorem brd_ex {o : Own} (h : brd o = none) : brd (exO o) = none := by
  have p := (pl_iff o).mp h
  rw [pl_iff, ex_in, ex_fi, ex_se, trn_ex]
  exact ⟨p.y, p.x, p.s, p.f, p.b, p.a⟩
theorem home_ex {o : Own} (h : brd o = none) : homeO (exO o) = homeO o := by
  rw [home_iff h, home_iff (brd_ex h), ex_in, trn_ex]
  refine decide_eq_decide.mpr ⟨fun ⟨a, b, c⟩ => ⟨fun z => a ⟨z.2, z.1⟩, c, b⟩, fun ⟨a, b, c⟩ => ⟨fun z => a ⟨z.2, z.1⟩, c, b⟩⟩
theorem isNo_opt (o : Option Str) : isNo (optS o) = o.isNone := by cases o <;> rfl
/-- a plain drawn book -/
def S_bplain : DS1 := fun vs M k => ∃ (q : Addr) (n : Nat), vs = [.raw (.ref q)] ∧ PotAt M q n ∧ n ≤ 700000 ∧ ∀ N p o, DrO o → brd o = none → N p = some (.dK (ownK o)) → p ≠ q → Le (dropM M q) N → PotAt N q (n + 400) → k (.raw (.ref p)) N
theorem sc__law_book_plain : FnScope ["pot", "lap", "own"] ["pot"] (defScope s__law_book_plain) := ⟨rfl, rfl, rfl, by decide +kernel, rfl, by decide +kernel, by decide +kernel⟩
theorem d__law_book_plain (T : Txt K mg C) (D_take : Def P w K mg base "_law_take" 1 S_take) (D_drawn : Def P w K mg base "_law_book_drawn" 4 S_drawn) (D_bborder : Def P w K mg base "_law_book_border" 7 S_bborder) (D_hand : Def P w K mg base "_law_book_by_hand" 1 S_hand) {f : Addr} {fd : FuncData} (F : Fun K "_law_book_plain" "_law_book_plain" s__law_book_plain f fd) (hm : mg "_law_book_plain" = some (.ref f)) (hb : Binds K fd ["pot"] []) : Def P w K mg base "_law_book_plain" 8 S_bplain := by
  refine def_ok F hm hb sc__law_book_plain (fun ds M k h => ?_) (fun cdv A outer s H E ds M kk hl nd hr h => ?_)
  · obtain ⟨q, n, rfl, _⟩ := h; rfl
  · obtain ⟨q1, n, rfl, ⟨o0, s0, c0, hM0, hp0⟩, hn, q⟩ := h
    refine as_cons (as_for PassesOwn.never rfl (W := fun i ds' M' => Le (dropM M q1) M' ∧ i ≤ 8 ∧ (∃ o s c, M' q1 = some (potO o s c) ∧ PotB o s c (n + 46 * i)) ∧ ∃ x y, ds' = [some (.raw (.ref q1)), x, y]) (ai_range1 T.b_range ?_))
    walk_at "ax"
    refine ⟨8, rfl, by decide, by decide, ⟨drop_le0, by decide, ⟨o0, s0, c0, hM0, hp0⟩, _, _, rfl⟩, fun i d ds' M' hx hw => ?_, fun ds' M' hw => ?_⟩
    · obtain ⟨hle, hi8, ⟨o1, s1, c1, hM1, hp1⟩, x, y, rfl⟩ := hw
      obtain ⟨hi, rfl⟩ := get_rng hx
      have hi : i < 8 := hi
      walk_at "ag"
      walk_at "set"
      refine ae_call D_drawn (hr.mono (by decide)) ?_
      walk_at "ax"
      refine ae_call D_take (hr.mono (by decide)) ?_
      walk_at "ax"
      refine ⟨q1, 2, o1, s1, c1, _, rfl, hM1, hp1, by omega, by decide, by decide, fun m o2 s2 c2 hp2 m0 m2 => ?_⟩
      walk_at "ax"
      refine ⟨q1, 1 + m, _, rfl, .mk' hp2, by omega, by omega, by omega, fun o p o3 s3 c3 hdr hpM hp3 => ?_⟩
      rw [upM_upM]
      have npq : p ≠ q1 := fun e => by rw [e, upM_same] at hpM; cases hpM
      rw [upM_ne npq] at hpM
      have hNq : upM (upM M' q1 (potO o3 s3 c3)) p (.dK (ownK o)) q1 = some (potO o3 s3 c3) := by rw [upM_ne npq.symm]; exact upM_same
      have hNp : upM (upM M' q1 (potO o3 s3 c3)) p (.dK (ownK o)) p = some (.dK (ownK o)) := upM_same
      have hNl : Le (dropM M q1) (upM (upM M' q1 (potO o3 s3 c3)) p (.dK (ownK o))) := (drop_le1 hle).up (le_none hle hpM)
      generalize upM (upM M' q1 (potO o3 s3 c3)) p (.dK (ownK o)) = N at hNq hNp hNl
      refine as_cons (as_ifP (brd o).isNone (at_isN (ae_call D_bborder (hr.mono (by decide)) ?_)) (fun h => ?_) fun h => as_nil (as_nil ⟨hNl, hi, ⟨o3, s3, c3, hNq, hp3.mono (by omega)⟩, _, _, rfl⟩))
      · walk_at "ax"
        exact ⟨p, o, rfl, hNp, hdr.good, _, rfl, isNo_opt _, rfl⟩
      · refine as_cons (as_ret ?_)
        walk_at "nm"
        exact q N p o hdr (Option.isNone_iff_eq_none.mp h) hNp npq hNl ⟨o3, s3, c3, hNq, hp3.mono (by omega)⟩
    · obtain ⟨hle, hi8, ⟨o1, s1, c1, hM1, hp1⟩, x, y, rfl⟩ := hw
      refine as_cons (as_ret (ae_call D_hand (hr.mono (by decide)) (aa_cons (ae_eqs (ae_call D_take (hr.mono (by decide)) ?_)))))
      walk_at "ax"
      refine ⟨q1, 2, o1, s1, c1, _, rfl, hM1, hp1, ?_, by decide, by decide, fun m o2 s2 c2 hp2 m0 m2 => ?_⟩
      · have : (rngD 0 (8 : Int).toNat).length = 8 := by decide
        omega
      walk_at "ax"
      refine ⟨_, rfl, fun r N hle2 hr0 hN => ?_⟩
      have nrq : r ≠ q1 := fun e => by rw [e, upM_same] at hr0; cases hr0
      refine q N r _ (hand_dr _) (hand_plain _) hN nrq ((drop_le1 hle).trans hle2) ⟨o2, s2, c2, hle2 _ _ upM_same, hp2.mono ?_⟩
      have : (rngD 0 (8 : Int).toNat).length = 8 := by decide
      omega
end B

set_option Elab.async false
set_option linter.all false
set_option maxRecDepth 100000
set_option maxHeartbeats 4000000
namespace B
open PySem PySem.Spec PyProof.Rows L2 A
local macro_rules | `(tactic| walk_at "nm") => `(tactic| refine ae_nameT (by assumption) rfl ?_)
local macro_rules | `(tactic| walk_at "ag") => `(tactic| refine ag_nameT (by assumption) (by assumption) ?_)
local macro_rules | `(tactic| walk_at "agc") => `(tactic| (refine agc_nameU (by assumption) (by assumption) ?_ ?_; · decide))
local macro_rules | `(tactic| walk_at "set") => `(tactic| refine as_setT (by assumption) (by assumption) ?_)
local macro_rules | `(tactic| walk_at "ax1") => `(tactic| first
  | ((with_reducible show AE _ (Expr.Name _ _) _ _ _); walk_at "nm")
  | ((with_reducible show AA _ (_ :: _) _ _ _); refine aa_cons ?_)
  | ((with_reducible show AA _ [] _ _ _); refine aa_nil ?_)
  | ((with_reducible show AE _ (Expr.Constant _ _ _) _ _ _); first | refine ae_int ?_ | refine ae_str ?_ | refine ae_bl ?_ | refine ae_non ?_)
  | ((with_reducible show AE _ (Expr.BinOp _ Operator.Add _ _) _ _ _); refine ae_add ?_)
  | ((with_reducible show AE _ (Expr.BinOp _ Operator.Sub _ _) _ _ _); refine ae_sub ?_)
  | ((with_reducible show AE _ (Expr.BinOp _ Operator.Mult _ _) _ _ _); refine ae_mul ?_)
  | ((with_reducible show AE _ (Expr.BinOp _ Operator.FloorDiv _ _) _ _ _); refine ae_fdiv ?_)
  | ((with_reducible show AE _ (Expr.BinOp _ Operator.Mod _ _) _ _ _); refine ae_mod ?_)
  | ((with_reducible show AE _ (Expr.Compare _ [CmpOp.Lt] _ _) _ _ _); refine ae_lt ?_)
  | ((with_reducible show AE _ (Expr.Compare _ [CmpOp.LtE] _ _) _ _ _); refine ae_le ?_)
  | ((with_reducible show AE _ (Expr.Compare _ [CmpOp.Gt] _ _) _ _ _); refine ae_gt ?_)
  | ((with_reducible show AE _ (Expr.Compare _ [CmpOp.GtE] _ _) _ _ _); refine ae_ge ?_)
  | ((with_reducible show AE _ (Expr.Compare _ [CmpOp.Eq] _ _) _ _ _); refine ae_eqs ?_)
  | ((with_reducible show AE _ (Expr.Compare _ [CmpOp.NotEq] _ _) _ _ _); refine ae_nes ?_)
  | ((with_reducible show AT _ (Expr.Compare _ [CmpOp.Eq] _ _) _ _ _); refine at_eqs ?_)
  | ((with_reducible show AT _ (Expr.Compare _ [CmpOp.NotEq] _ _) _ _ _); refine at_nes ?_)
  | ((with_reducible show AT _ (Expr.Compare _ [CmpOp.Lt] _ _) _ _ _); refine at_lt ?_)
  | ((with_reducible show AT _ (Expr.Compare _ [CmpOp.LtE] _ _) _ _ _); refine at_le ?_)
  | ((with_reducible show AT _ (Expr.Compare _ [CmpOp.Gt] _ _) _ _ _); refine at_gt ?_)
  | ((with_reducible show AT _ (Expr.Compare _ [CmpOp.GtE] _ _) _ _ _); refine at_ge ?_)
  | ((with_reducible show AT _ (Expr.UnaryOp UnaryOp.Not _ _) _ _ _); refine at_not ?_)
  | ((with_reducible show AT _ (Expr.Call _ _ _ _) _ _ _); refine at_val ?_)
  | ((with_reducible show AR _ rEq (DV.dat (PyData.int _)) (DV.dat (PyData.int _)) _ _); refine ar_eqI ?_)
  | ((with_reducible show AR _ rNe (DV.dat (PyData.int _)) (DV.dat (PyData.int _)) _ _); refine ar_neI ?_)
  | ((with_reducible show AR _ rEq (DV.dat (PyData.str _)) (DV.dat (PyData.str _)) _ _); refine ar_eqS ?_)
  | ((with_reducible show AR _ rNe (DV.dat (PyData.str _)) (DV.dat (PyData.str _)) _ _); refine ar_neS ?_)
  | ((with_reducible show ∃ c, DV.dat (PyData.bool _) = DV.dat (PyData.bool c) ∧ _); refine ⟨_, rfl, ?_⟩)
  | ((with_reducible show AE _ (Expr.Tuple _ _ _) _ _ _); refine ae_tup ?_)
  | ((with_reducible show AE _ (Expr.Subscript _ _ _) _ _ _); refine ae_ixT ?_)
  | ((with_reducible show ∃ i j, DV.dat (PyData.int _) = DV.dat (PyData.int i) ∧ DV.dat (PyData.int _) = DV.dat (PyData.int j) ∧ _); refine ⟨_, _, rfl, rfl, ?_⟩)
  | ((with_reducible show ∃ xs i d, DV.dat (PyData.tuple _) = DV.dat (PyData.tuple xs) ∧ _); refine ⟨_, _, _, rfl, rfl, rfl, ?_⟩))
local macro_rules | `(tactic| walk_at "ax") => `(tactic| repeat (walk_at "ax1"))
local macro_rules | `(tactic| walk_at "ay1") => `(tactic| first
  | walk_at "ax1"
  | ((with_reducible show AE _ (Expr.UnaryOp UnaryOp.USub _ _) _ _ _); refine ae_neg ?_)
  | ((with_reducible show ∃ i, DV.dat (PyData.int _) = DV.dat (PyData.int i) ∧ _); refine ⟨_, rfl, ?_⟩)
  | ((with_reducible show ∃ xs : List PyData, [_, _] = List.map DV.dat xs ∧ _); refine ⟨[_, _], rfl, Nat.le_of_ble_eq_true rfl, ?_⟩)
  | ((with_reducible show ∃ xs : List PyData, [_, _, _] = List.map DV.dat xs ∧ _); refine ⟨[_, _, _], rfl, Nat.le_of_ble_eq_true rfl, ?_⟩))
local macro_rules | `(tactic| walk_at "ay") => `(tactic| repeat (walk_at "ay1"))
variable {P : Program} {w : World} {K : PySem.W.Frag} {mg : Str → Option Value} {base : Heap} {C : Addr}
open TL Wd
set_option exponentiation.threshold 10000
set_option maxHeartbeats 40000000
open Fr (Bd)
/-! own errors; a book that must be plain -/
structure ErrT (K : PySem.W.Frag) (mg : Str → Option Value) (CS fI : Addr) (x : Str) (D : Addr) : Prop where
  m : mg x = some (.ref D)
  e : ErrC K D CS fI
theorem sc_DriftError_init : FnScope ["self", "value"] ["self", "value"] (defScope s_DriftError_init) := ⟨rfl, rfl, rfl, by decide +kernel, rfl, by decide +kernel, by decide +kernel⟩
theorem f_DriftError_init {f : Addr} {fd : FuncData} (F : Fun K "__init__" "DriftError.__init__" s_DriftError_init f fd) : FnOk P w K mg base CX0 1 f fd ["self", "value"] (sp_init K) := by
  refine F.ok sc_DriftError_init (fun vs H Q E h => ?_) (fun cdv A outer s H vs Q E hr h => ?_)
  · obtain ⟨a, C, y, rfl, _⟩ := h; rfl
  · obtain ⟨a, C, y, rfl, hA, T, hn, q⟩ := h
    exact ⟨_, pss_one (ps_ost (pe_var (i := 0) rfl (.inl rfl)) (pe_var (i := 1) rfl (.inl rfl))), _, rfl, _, rfl, a, C, rfl, T, hn, .inl ⟨hA, fun dx h1 h2 => q dx h1 h2⟩⟩
def S_plainX (C CB : Addr) : DSX := fun vs M k kx => ∃ (t : Str) (o : Own), vs = [.obj C (bkF t o)] ∧ GoodO o ∧ (brd o = none → k (.dat .none) M) ∧ ∀ z, brd o = some z → kx CB (.dat (.str z)) M
theorem sc_check_plainX : FnScope ["book", "word"] ["book"] (defScope s_check_plain) := ⟨rfl, rfl, rfl, by decide +kernel, rfl, by decide +kernel, by decide +kernel⟩
theorem dx_check_plain (T : Txt K mg C) (D_border : Def P w K mg base "border" 8 (S_border C)) {CB CS gI : Addr} {fdI : FuncData} (E_Border : ErrT K mg CS gI "Border" CB) (FE : FnOk P w K mg base CX0 1 gI fdI ["self", "value"] (sp_init K)) (hbE : Binds K fdI ["self", "value"] [])
    {f : Addr} {fd : FuncData} (F : Fun K "check_plain" "check_plain" s_check_plain f fd) (hm : mg "check_plain" = some (.ref f)) (hb : Binds K fd ["book"] []) : DefX P w K mg base "check_plain" 9 (S_plainX C CB) := by
  refine defx_ok F hm hb sc_check_plainX (fun ds M k kx h => ?_) (fun cdv A outer s H E ds M kk kx hl nd hr hpo h => ?_)
  · obtain ⟨t, o, rfl, _⟩ := h; rfl
  · obtain ⟨t, o, rfl, ho, q1, q2⟩ := h
    refine asx_setT (by assumption) (by assumption) (aex_of (ae_call D_border hr ?_))
    walk_at "ax"
    refine ⟨t, o, rfl, ho, ?_⟩
    cases hbr : brd o with
    | none =>
      refine asx_cons (asx_ifP false (at_notN ?_) (fun z => by cases z) fun _ => asx_nil (asx_nil (q1 hbr)))
      walk_at "nm"
      exact ⟨_, rfl, rfl, rfl⟩
    | some z =>
      refine asx_cons (asx_ifP true (at_notN ?_) (fun _ => asx_cons (asx_raise E_Border.e FE hbE (hr.mono (by decide)) rfl E_Border.m ?_)) fun z => by cases z)
      · walk_at "nm"
        exact ⟨_, rfl, rfl, rfl⟩
      · walk_at "nm"
        exact q2 z hbr
def S_askedX (C CB : Addr) : DSX := fun vs M k kx => ∃ (t : Str) (o : Own), vs = [.obj C (bkF t o)] ∧ GoodO o ∧ (brd o = none → k (.dat (.tuple ((sds o).map .str))) M) ∧ ∀ z, brd o = some z → kx CB (.dat (.str z)) M
theorem sc_askedX : FnScope ["book"] ["book"] (defScope s_asked) := ⟨rfl, rfl, rfl, by decide +kernel, rfl, by decide +kernel, by decide +kernel⟩
theorem dx_asked (T : Txt K mg C) {CB : Addr} (X_check_plain : DefX P w K mg base "check_plain" 9 (S_plainX C CB)) (D_sides : Def P w K mg base "sides_by" 1 S_sides_by) (D_drifts_of : Def P w K mg base "drifts_of" 6 (S_drifts_of C)) {f : Addr} {fd : FuncData} (F : Fun K "asked" "asked" s_asked f fd) : FnOk P w K mg base (L2.CX P w) 10 f fd ["book"] (spX K (S_askedX C CB)) := by
  refine fn_okX F sc_askedX (fun ds M k kx h => ?_) (fun cdv A outer s H E ds M kk kx hl nd hr hpo h => ?_)
  · obtain ⟨t, o, rfl, _⟩ := h; rfl
  · obtain ⟨t, o, rfl, ho, q1, q2⟩ := h
    refine asx_cons (asx_expr (aex_call X_check_plain hr ?_))
    walk_at "ax"
    refine ⟨t, o, rfl, ho, fun hp => asx_cons (asx_ret (aex_of (ae_call D_sides (hr.mono (by decide)) (aa_cons (ae_call D_drifts_of (hr.mono (by decide)) ?_))))), q2⟩
    walk_at "ax"
    exact ⟨t, o, rfl, ho, aa_nil ⟨_, rfl, q1 hp⟩⟩
def S_doesX (C CB : Addr) : DSX := fun vs M k kx => ∃ (t : Str) (o : Own), vs = [.obj C (bkF t o)] ∧ GoodO o ∧ (brd o = none → k (.dat (.bool (homeO o))) M) ∧ ∀ z, brd o = some z → kx CB (.dat (.str z)) M
theorem sc_does_come_homeX : FnScope ["book"] ["book"] (defScope s_does_come_home) := ⟨rfl, rfl, rfl, by decide +kernel, rfl, by decide +kernel, by decide +kernel⟩
theorem dx_does_come_home (T : Txt K mg C) {CB : Addr} (X_check_plain : DefX P w K mg base "check_plain" 9 (S_plainX C CB)) (D_told_by : Def P w K mg base "told_by" 5 S_told_by) (D_drifts_of : Def P w K mg base "drifts_of" 6 (S_drifts_of C)) {f : Addr} {fd : FuncData} (F : Fun K "does_come_home" "does_come_home" s_does_come_home f fd) : FnOk P w K mg base (L2.CX P w) 10 f fd ["book"] (spX K (S_doesX C CB)) := by
  refine fn_okX F sc_does_come_homeX (fun ds M k kx h => ?_) (fun cdv A outer s H E ds M kk kx hl nd hr hpo h => ?_)
  · obtain ⟨t, o, rfl, _⟩ := h; rfl
  · obtain ⟨t, o, rfl, ho, q1, q2⟩ := h
    refine asx_cons (asx_expr (aex_call X_check_plain hr ?_))
    walk_at "ax"
    refine ⟨t, o, rfl, ho, fun hp => asx_cons (asx_ret (aex_of (ae_eqs (ae_call D_told_by (hr.mono (by decide)) (aa_cons (ae_call D_drifts_of (hr.mono (by decide)) ?_)))))), q2⟩
    walk_at "ax"
    refine ⟨t, o, rfl, ho, aa_nil ⟨_, rfl, (drs_bd ho).mono (by decide), ?_⟩⟩
    walk_at "ax"
    rw [home_told hp]
    exact q1 hp
end B

set_option Elab.async false
set_option linter.all false
set_option maxRecDepth 100000
set_option maxHeartbeats 4000000
namespace B
open PySem PySem.Spec PyProof.Rows L2 A
local macro_rules | `(tactic| walk_at "nm") => `(tactic| refine ae_nameT (by assumption) rfl ?_)
local macro_rules | `(tactic| walk_at "ag") => `(tactic| refine ag_nameT (by assumption) (by assumption) ?_)
local macro_rules | `(tactic| walk_at "agc") => `(tactic| (refine agc_nameU (by assumption) (by assumption) ?_ ?_; · decide))
local macro_rules | `(tactic| walk_at "set") => `(tactic| refine as_setT (by assumption) (by assumption) ?_)
local macro_rules | `(tactic| walk_at "ax1") => `(tactic| first
  | ((with_reducible show AE _ (Expr.Name _ _) _ _ _); walk_at "nm")
  | ((with_reducible show AA _ (_ :: _) _ _ _); refine aa_cons ?_)
  | ((with_reducible show AA _ [] _ _ _); refine aa_nil ?_)
  | ((with_reducible show AE _ (Expr.Constant _ _ _) _ _ _); first | refine ae_int ?_ | refine ae_str ?_ | refine ae_bl ?_ | refine ae_non ?_)
  | ((with_reducible show AE _ (Expr.BinOp _ Operator.Add _ _) _ _ _); refine ae_add ?_)
  | ((with_reducible show AE _ (Expr.BinOp _ Operator.Sub _ _) _ _ _); refine ae_sub ?_)
  | ((with_reducible show AE _ (Expr.BinOp _ Operator.Mult _ _) _ _ _); refine ae_mul ?_)
  | ((with_reducible show AE _ (Expr.BinOp _ Operator.FloorDiv _ _) _ _ _); refine ae_fdiv ?_)
  | ((with_reducible show AE _ (Expr.BinOp _ Operator.Mod _ _) _ _ _); refine ae_mod ?_)
  | ((with_reducible show AE _ (Expr.Compare _ [CmpOp.Lt] _ _) _ _ _); refine ae_lt ?_)
  | ((with_reducible show AE _ (Expr.Compare _ [CmpOp.LtE] _ _) _ _ _); refine ae_le ?_)
  | ((with_reducible show AE _ (Expr.Compare _ [CmpOp.Gt] _ _) _ _ _); refine ae_gt ?_)
  | ((with_reducible show AE _ (Expr.Compare _ [CmpOp.GtE] _ _) _ _ _); refine ae_ge ?_)
  | ((with_reducible show AE _ (Expr.Compare _ [CmpOp.Eq] _ _) _ _ _); refine ae_eqs ?_)
  | ((with_reducible show AE _ (Expr.Compare _ [CmpOp.NotEq] _ _) _ _ _); refine ae_nes ?_)
  | ((with_reducible show AT _ (Expr.Compare _ [CmpOp.Eq] _ _) _ _ _); refine at_eqs ?_)
  | ((with_reducible show AT _ (Expr.Compare _ [CmpOp.NotEq] _ _) _ _ _); refine at_nes ?_)
  | ((with_reducible show AT _ (Expr.Compare _ [CmpOp.Lt] _ _) _ _ _); refine at_lt ?_)
  | ((with_reducible show AT _ (Expr.Compare _ [CmpOp.LtE] _ _) _ _ _); refine at_le ?_)
  | ((with_reducible show AT _ (Expr.Compare _ [CmpOp.Gt] _ _) _ _ _); refine at_gt ?_)
  | ((with_reducible show AT _ (Expr.Compare _ [CmpOp.GtE] _ _) _ _ _); refine at_ge ?_)
  | ((with_reducible show AT _ (Expr.UnaryOp UnaryOp.Not _ _) _ _ _); refine at_not ?_)
  | ((with_reducible show AT _ (Expr.Call _ _ _ _) _ _ _); refine at_val ?_)
  | ((with_reducible show AR _ rEq (DV.dat (PyData.int _)) (DV.dat (PyData.int _)) _ _); refine ar_eqI ?_)
  | ((with_reducible show AR _ rNe (DV.dat (PyData.int _)) (DV.dat (PyData.int _)) _ _); refine ar_neI ?_)
  | ((with_reducible show AR _ rEq (DV.dat (PyData.str _)) (DV.dat (PyData.str _)) _ _); refine ar_eqS ?_)
  | ((with_reducible show AR _ rNe (DV.dat (PyData.str _)) (DV.dat (PyData.str _)) _ _); refine ar_neS ?_)
  | ((with_reducible show ∃ c, DV.dat (PyData.bool _) = DV.dat (PyData.bool c) ∧ _); refine ⟨_, rfl, ?_⟩)
  | ((with_reducible show AE _ (Expr.Tuple _ _ _) _ _ _); refine ae_tup ?_)
  | ((with_reducible show AE _ (Expr.Subscript _ _ _) _ _ _); refine ae_ixT ?_)
  | ((with_reducible show ∃ i j, DV.dat (PyData.int _) = DV.dat (PyData.int i) ∧ DV.dat (PyData.int _) = DV.dat (PyData.int j) ∧ _); refine ⟨_, _, rfl, rfl, ?_⟩)
  | ((with_reducible show ∃ xs i d, DV.dat (PyData.tuple _) = DV.dat (PyData.tuple xs) ∧ _); refine ⟨_, _, _, rfl, rfl, rfl, ?_⟩))
local macro_rules | `(tactic| walk_at "ax") => `(tactic| repeat (walk_at "ax1"))
local macro_rules | `(tactic| walk_at "ay1") => `(tactic| first
  | walk_at "ax1"
  | ((with_reducible show AE _ (Expr.UnaryOp UnaryOp.USub _ _) _ _ _); refine ae_neg ?_)
  | ((with_reducible show ∃ i, DV.dat (PyData.int _) = DV.dat (PyData.int i) ∧ _); refine ⟨_, rfl, ?_⟩)
  | ((with_reducible show ∃ xs : List PyData, [_, _] = List.map DV.dat xs ∧ _); refine ⟨[_, _], rfl, Nat.le_of_ble_eq_true rfl, ?_⟩)
  | ((with_reducible show ∃ xs : List PyData, [_, _, _] = List.map DV.dat xs ∧ _); refine ⟨[_, _, _], rfl, Nat.le_of_ble_eq_true rfl, ?_⟩))
local macro_rules | `(tactic| walk_at "ay") => `(tactic| repeat (walk_at "ay1"))
variable {P : Program} {w : World} {K : PySem.W.Frag} {mg : Str → Option Value} {base : Heap} {C : Addr}
open TL Wd
set_option exponentiation.threshold 10000
set_option maxHeartbeats 40000000
open Fr (Bd)
/-! a book of a kind -/
def S_kind : DS1 := fun vs M k => ∃ (q : Addr) (n : Nat) (b : Bool), vs = [.raw (.ref q), .dat (.bool b)] ∧ PotAt M q n ∧ n ≤ 700000 ∧ ∀ N p o, GoodO o → brd o = none → homeO o = b → N p = some (.dK (ownK o)) → p ≠ q → Le (dropM M q) N → PotAt N q (n + 600) → k (.raw (.ref p)) N
theorem sc__law_book_of_kind : FnScope ["pot", "is_home", "lap", "own"] ["pot", "is_home"] (defScope s__law_book_of_kind) := ⟨rfl, rfl, rfl, by decide +kernel, rfl, by decide +kernel, by decide +kernel⟩
theorem d__law_book_of_kind (T : Txt K mg C) (D_take : Def P w K mg base "_law_take" 1 S_take) (D_drawn : Def P w K mg base "_law_book_drawn" 4 S_drawn) (D_bborder : Def P w K mg base "_law_book_border" 7 S_bborder) (D_bhome : Def P w K mg base "_law_book_is_home" 7 S_bhome) (D_hand : Def P w K mg base "_law_book_by_hand" 1 S_hand) (D_bexch : Def P w K mg base "_law_book_exchanged" 2 S_bexch)
    {f : Addr} {fd : FuncData} (F : Fun K "_law_book_of_kind" "_law_book_of_kind" s__law_book_of_kind f fd) (hm : mg "_law_book_of_kind" = some (.ref f)) (hb : Binds K fd ["pot", "is_home"] []) : Def P w K mg base "_law_book_of_kind" 8 S_kind := by
  refine def_ok F hm hb sc__law_book_of_kind (fun ds M k h => ?_) (fun cdv A outer s H E ds M kk hl nd hr h => ?_)
  · obtain ⟨q, n, b, rfl, _⟩ := h; rfl
  · obtain ⟨q1, n, b, rfl, ⟨o0, s0, c0, hM0, hp0⟩, hn, q⟩ := h
    refine as_cons (as_for PassesOwn.never rfl (W := fun i ds' M' => Le (dropM M q1) M' ∧ i ≤ 12 ∧ (∃ o s c, M' q1 = some (potO o s c) ∧ PotB o s c (n + 46 * i)) ∧ ∃ x y, ds' = [some (.raw (.ref q1)), some (.dat (.bool b)), x, y]) (ai_range1 T.b_range ?_))
    walk_at "ax"
    refine ⟨12, rfl, by decide, by decide, ⟨drop_le0, by decide, ⟨o0, s0, c0, hM0, hp0⟩, _, _, rfl⟩, fun i d ds' M' hx hw => ?_, fun ds' M' hw => ?_⟩
    · obtain ⟨hle, hi8, ⟨o1, s1, c1, hM1, hp1⟩, x, y, rfl⟩ := hw
      obtain ⟨hi, rfl⟩ := get_rng hx
      have hi : i < 12 := hi
      walk_at "ag"
      walk_at "set"
      refine ae_call D_drawn (hr.mono (by decide)) ?_
      walk_at "ax"
      refine ⟨q1, 1, _, rfl, ⟨o1, s1, c1, hM1, hp1⟩, by omega, by omega, by omega, fun o p o3 s3 c3 hdr hpM hp3 => ?_⟩
      have npq : p ≠ q1 := fun e => by rw [e, hM1] at hpM; cases hpM
      have hNq : upM (upM M' q1 (potO o3 s3 c3)) p (.dK (ownK o)) q1 = some (potO o3 s3 c3) := by rw [upM_ne npq.symm]; exact upM_same
      have hNp : upM (upM M' q1 (potO o3 s3 c3)) p (.dK (ownK o)) p = some (.dK (ownK o)) := upM_same
      have hNl : Le (dropM M q1) (upM (upM M' q1 (potO o3 s3 c3)) p (.dK (ownK o))) := (drop_le1 hle).up (le_none hle hpM)
      generalize upM (upM M' q1 (potO o3 s3 c3)) p (.dK (ownK o)) = N at hNq hNp hNl
      refine as_cons (as_ifP ((brd o).isNone && decide (homeO o = b)) (at_w (aw_and (at_isN (ae_call D_bborder (hr.mono (by decide)) ?_)))) (fun h => ?_) fun h => as_nil (as_nil ⟨hNl, hi, ⟨o3, s3, c3, hNq, hp3.mono (by omega)⟩, _, _, rfl⟩))
      · walk_at "ax"
        refine ⟨p, o, rfl, hNp, hdr.good, _, rfl, fun h => aw_and1 (at_eqs (ae_call D_bhome (hr.mono (by decide)) ?_)), fun h => ?_⟩
        · rw [isNo_opt] at h
          walk_at "ax"
          refine ⟨p, o, rfl, hNp, hdr.good, ?_⟩
          walk_at "nm"
          rw [h]
          exact ar_eqB ⟨_, rfl, rfl, rfl⟩
        · rw [isNo_opt] at h
          rw [h]; exact ⟨rfl, rfl⟩
      · rw [Bool.and_eq_true, decide_eq_true_eq] at h
        refine as_cons (as_ret ?_)
        walk_at "nm"
        exact q N p o hdr.good (Option.isNone_iff_eq_none.mp h.1) h.2 hNp npq hNl ⟨o3, s3, c3, hNq, hp3.mono (by omega)⟩
    · obtain ⟨hle, hi8, ⟨o1, s1, c1, hM1, hp1⟩, x, y, rfl⟩ := hw
      have hl12 : (rngD 0 (12 : Int).toNat).length = 12 := by decide
      walk_at "set"
      refine ae_call D_hand (hr.mono (by decide)) ?_
      walk_at "ax"
      refine ⟨b, rfl, fun r N hle2 hr0 hN => ?_⟩
      have hg := (hand_dr b).good
      have nrq : r ≠ q1 := fun e => by rw [e, hM1] at hr0; cases hr0
      have hNq := hle2 _ _ hM1
      have hNl := hle.trans hle2
      refine as_cons (as_ret (ae_if (at_eqs (ae_call D_take (hr.mono (by decide)) ?_))))
      walk_at "ax"
      refine ⟨q1, 2, o1, s1, c1, _, rfl, hNq, hp1, ?_, by decide, by decide, fun m o2 s2 c2 hp2 m0 m2 => ?_⟩
      · omega
      walk_at "ax"
      have h1 : upM N q1 (potO o2 s2 c2) q1 = some (potO o2 s2 c2) := upM_same
      have h2 : upM N q1 (potO o2 s2 c2) r = some (.dK (ownK (handO b))) := by rw [upM_ne nrq]; exact hN
      have h3 := drop_le1 (x := potO o2 s2 c2) hNl
      generalize upM N q1 (potO o2 s2 c2) = N at h1 h2 h3
      refine ⟨fun _ => ae_call D_bexch (hr.mono (by decide)) ?_, fun _ => ?_⟩
      · walk_at "ax"
        refine ⟨r, _, rfl, h2, hg, fun r2 hr2 => ?_⟩
        have n2 : r2 ≠ q1 := fun e => by rw [e, h1] at hr2; cases hr2
        exact q _ r2 _ (exO_good hg) (brd_ex (hand_plain b)) ((home_ex (hand_plain b)).trans (hand_home b)) upM_same n2 (h3.up (le_none h3 hr2)) ⟨o2, s2, c2, by rw [upM_ne n2.symm]; exact h1, hp2.mono (by omega)⟩
      · walk_at "nm"
        exact q _ r _ hg (hand_plain b) (hand_home b) h2 nrq h3 ⟨o2, s2, c2, h1, hp2.mono (by omega)⟩
/-! what is told of one book -/
abbrev lamQ : Str := "_law_is_told_right.<locals>.<lambda>"
def S_istold (TT : List (Addr × Str)) : DS1 := fun vs M k => ∃ (p : Addr) (o : Own), vs = [.raw (.ref p)] ∧ M p = some (.dK (ownK o)) ∧ GoodO o ∧ TabsM TT M ∧ k (.dat (.bool true)) M
theorem sc__law_is_told_right : FnScope ["own", "word", "heard", "caught", "told", "due", "its", "book"] ["own"] (defScope s__law_is_told_right) := ⟨rfl, rfl, rfl, by decide +kernel, rfl, by decide +kernel, by decide +kernel⟩
/-- what was heard: the error with the border's word, or the value -/
def hrd (CB : Addr) (b : Option Str) (d : DV) : DV := match b with
  | none => tuD [.dat .none, d]
  | some z => tuD [exD CB (.dat (.str z)), .dat .none]
theorem d__law_is_told_right (T : Txt K mg C) {CB CS gI : Addr} (E_Border : ErrT K mg CS gI "Border" CB) (HD : Heard P w K mg base "_law_heard" CS) (D_btext : Def P w K mg base "_law_book_text" 2 S_btext) (D_bborder : Def P w K mg base "_law_book_border" 7 S_bborder) (D_bsides : Def P w K mg base "_law_book_sides" 6 S_bsides) (D_bhome : Def P w K mg base "_law_book_is_home" 7 S_bhome)
    (D_same : ∀ n, Def P w K mg base "_law_same" (n + 1) (S_same n)) (KX_asked : DefXK P w K mg base "asked" ["book"] rv 10 (S_askedX C CB)) (X_does : DefX P w K mg base "does_come_home" 10 (S_doesX C CB))
    {gi : Addr} {fdi : FuncData} (Mc : Mk K C gi) (FI : FnOk P w K mg base CX0 6 gi fdi ["self", "text"] (spM K (S_init C))) (hbi : Binds K fdi ["self", "text"] [])
    {cT PT : Addr} (TB : LamX.TabB base mg cT PT) {f : Addr} {fd : FuncData} (F : Fun K "_law_is_told_right" "_law_is_told_right" s__law_is_told_right f fd) (hcd : fd.code = .ref cT) (hm : mg "_law_is_told_right" = some (.ref f)) (hb : Binds K fd ["own"] []) : Def P w K mg base "_law_is_told_right" 13 (S_istold [(PT, lamQ)]) := by
  refine ⟨f, fd, ["own"], fn_okC F hcd sc__law_is_told_right (fun ds M k h => ?_) (fun A outer s H E ds M kk hl nd hr h => ?_), hm, F.kp, hb⟩
  · obtain ⟨p, o, rfl, _⟩ := h; rfl
  · obtain ⟨p, o, rfl, hM, ho, TM, q⟩ := h
    refine as_cons (as_asg (ae_tuT (aa_cons (ae_frz (ae_make Mc FI hbi (hr.mono (by decide)) T.m_Book (aa_cons (ae_call D_btext (hr.mono (by decide)) ?_)))))))
    walk_at "ax"
    refine ⟨p, o, rfl, hM, ho, aa_nil fun bk hb0 => ⟨bk, o, rfl, upM_same, ho, rfl, ?_⟩⟩
    rw [upM_upM]
    refine ⟨bk, C, bkF (bookTx o) o, rfl, upM_same, ?_⟩
    rw [freeze_up hb0]
    refine aa_cons (ae_call D_bborder (hr.mono (by decide)) ?_)
    walk_at "ax"
    refine ⟨p, o, rfl, hM, ho, aa_nil ⟨Nat.le_of_ble_eq_true rfl, ag_tuD rfl rfl (ags_cons ?_)⟩⟩
    walk_at "ag"
    refine ags_cons ?_
    walk_at "ag"
    refine ags_nil ?_
    generalize bookTx o = tx
    refine ass_ds (es := [some (.raw (.ref p)), some (.dat (optS (brd o))), none, none, none, none, none, some (.obj C (bkF tx o))]) rfl ?_
    have hin : (PT, lamQ) ∈ [(PT, lamQ)] := List.mem_singleton.mpr rfl
    have hun : ∀ r ∈ [(PT, lamQ)], r.1 = PT → r.2 = lamQ := fun r hr _ => by rw [List.mem_singleton.mp hr]
    walk_at "set"
    refine ae_lst (aa_cons (ae_P (hrd CB (brd o) (.dat (.tuple ((sds o).map .str)))) (ae_heard (k := 10) HD TB rfl hin hun (hr.mono (by decide)) TM (fun A' outer' s' H' E' f' c' hr' => ?_)) (aa_nil ⟨Nat.le_of_ble_eq_true rfl, fun p1 hp1 => ?_⟩)))
    · have hl' := hl
      refine aex_callK KX_asked hr' (ak_cons ?_) rev_is
      refine ae_nameT hl' rfl ?_
      exact ak_nil ⟨tx, o, rfl, ho, fun hp => ⟨by rw [hp]; rfl, rfl⟩, fun z hz => ⟨E_Border.e.ca, by rw [hz]; rfl, rfl⟩⟩
    have hM1 : upM M p1 (.lst [hrd CB (brd o) (.dat (.tuple ((sds o).map .str)))]) p1 = some (.lst [hrd CB (brd o) (.dat (.tuple ((sds o).map .str)))]) := upM_same
    have np1 : p ≠ p1 := fun e => by rw [← e, hM] at hp1; cases hp1
    refine as_cons (as_expr (ae_bm PySem.F.plainAttrs_list PySem.F.slot_list_append PySem.F.type_list_append mt_append ?_))
    walk_at "nm"
    refine ⟨.chg hM1, aa_cons (ae_P (hrd CB (brd o) (.dat (.bool (homeO o)))) (ae_heard (k := 10) HD TB rfl hin hun (hr.mono (by decide)) (TM.up (.inl hp1) fun _ z => by cases z) (fun A' outer' s' H' E' f' c' hr' => ?_)) (aa_nil (arm_append hM1 (Nat.lt_of_lt_of_le (m := 2) (Nat.le_of_ble_eq_true rfl) (by decide)) ?_)))⟩
    · have hl' := hl
      refine aex_call X_does hr' (aa_cons ?_)
      refine ae_nameT hl' rfl ?_
      exact aa_nil ⟨tx, o, rfl, ho, fun hp => ⟨by rw [hp]; rfl, rfl⟩, fun z hz => ⟨E_Border.e.ca, by rw [hz]; rfl, rfl⟩⟩
    rw [upM_upM]
    have hMl : Le M (upM M p1 (.lst ([hrd CB (brd o) (.dat (.tuple ((sds o).map .str)))] ++ [hrd CB (brd o) (.dat (.bool (homeO o)))]))) := (Le.refl M).up hp1
    have hMp : upM M p1 (.lst ([hrd CB (brd o) (.dat (.tuple ((sds o).map .str)))] ++ [hrd CB (brd o) (.dat (.bool (homeO o)))])) p = some (.dK (ownK o)) := by rw [upM_ne np1]; exact hM
    have hM2 : upM M p1 (.lst ([hrd CB (brd o) (.dat (.tuple ((sds o).map .str)))] ++ [hrd CB (brd o) (.dat (.bool (homeO o)))])) p1 = some (.lst [hrd CB (brd o) (.dat (.tuple ((sds o).map .str))), hrd CB (brd o) (.dat (.bool (homeO o)))]) := upM_same
    generalize upM M p1 (.lst ([hrd CB (brd o) (.dat (.tuple ((sds o).map .str)))] ++ [hrd CB (brd o) (.dat (.bool (homeO o)))])) = N at hMl hMp hM2
    have fin : ∀ D, N D = none → ∀ m, Wk (.dat (.bool true)) (upM N D m) (.dat (.bool true)) M := fun D hD m => .forget (hMl.trans ((Le.refl N).up hD))
    cases hbr : brd o with
    | some z =>
      rw [hbr] at hM2
      refine as_cons (as_ifP true (at_notN ?_) (fun _ => ?_) fun z => by cases z)
      · walk_at "nm"
        exact ⟨_, rfl, rfl, rfl⟩
      refine as_cons (as_ret (ae_wk (ae_all rfl T.b_all (aa_cons (ae_lcP (kp := fun M3 => M3 p1 = some (.lst [hrd CB (some z) (.dat (.tuple ((sds o).map .str))), hrd CB (some z) (.dat (.bool (homeO o)))])) rfl nd (blkOk_by (own := [("caught", 3), ("told", 4)]) rfl) (fun _ => .dat (.bool true)) (ai_listM ?_))))))
      walk_at "nm"
      refine ⟨p1, _, rfl, hM2, rfl, fun D m hD => by rw [upM_ne (fun e => by rw [← e, hM2] at hD; cases hD)]; exact hM2, Nat.lt_of_lt_of_le (m := 3) (Nat.le_of_ble_eq_true rfl) (by decide), fun d M3 hd hle3 s H C' cl fp => ?_, fun D hD => ?_⟩
      · have hd : d = tuD [exD CB (.dat (.str z)), .dat .none] := by
          simp only [hrd, List.mem_cons, List.not_mem_nil, or_false, or_self] at hd
          exact hd
        subst hd
        refine agc_tuD rfl rfl (agcs_cons ?_)
        walk_at "agc"
        refine agcs_cons ?_
        walk_at "agc"
        refine agcs_nil fun s H C' cl fp => ?_
        refine ae_and (ae_isErr (CS := CS) (fI := gI) (D := CB) T.b_isinstance (aa_cons ?_))
        walk_at "nm"
        refine aa_cons (ae_globR E_Border.m (aa_nil ⟨CB, _, true, rfl, E_Border.e, by unfold PySem.W.kitOne; rw [if_pos (by simp)], _, rfl, fun _ => ae_one (ae_eqs (ae_errV (CS := CS) (fI := gI) ?_)), fun h => (by cases h)⟩))
        walk_at "nm"
        refine ⟨CB, _, rfl, E_Border.e, ?_⟩
        walk_at "nm"
        refine ar_eqS ?_
        rw [decide_eq_true rfl]
        exact ⟨rfl, rfl⟩
      · refine aa_nil ⟨D, [true, true], rfl, upM_same, _, _, fin D hD _, q⟩
    | none =>
      rw [hbr] at hM2
      refine as_cons (as_ifP false (at_notN ?_) (fun z => by cases z) fun _ => as_nil ?_)
      · walk_at "nm"
        exact ⟨_, rfl, rfl, rfl⟩
      walk_at "set"
      refine ae_tup (aa_cons (ae_call D_bsides (hr.mono (by decide)) ?_))
      walk_at "ax"
      refine ⟨p, o, rfl, hMp, ho, aa_cons (ae_call D_bhome (hr.mono (by decide)) ?_)⟩
      walk_at "ax"
      refine ⟨p, o, rfl, hMp, ho, aa_nil ⟨[_, _], rfl, Nat.le_of_ble_eq_true rfl, ?_⟩⟩
      refine as_cons (as_ret (ae_wk (ae_all rfl T.b_all (aa_cons (ae_lcP (kp := fun M3 => M3 p1 = some (.lst [hrd CB none (.dat (.tuple ((sds o).map .str))), hrd CB none (.dat (.bool (homeO o)))])) rfl nd (blkOk_by (own := [("caught", 3), ("told", 4), ("its", 6)]) rfl) (fun _ => .dat (.bool true)) (ai_zipMT T.b_zip (aa_cons ?_)))))))
      walk_at "nm"
      refine aa_cons ?_
      walk_at "nm"
      refine aa_nil ⟨p1, _, _, rfl, hM2, rfl, fun D m hD => by rw [upM_ne (fun e => by rw [← e, hM2] at hD; cases hD)]; exact hM2, Nat.lt_of_lt_of_le (m := 3) (Nat.le_of_ble_eq_true rfl) (by decide), fun d M3 hd hle3 s H C' cl fp => ?_, fun D hD => ?_⟩
      · obtain ⟨y, n, hd, hy⟩ : ∃ (y : PyData) (n : Nat), d = tuD [tuD [.dat .none, .dat y], .dat y] ∧ okN n y ∧ n ≤ 1 := by
          simp only [hrd, zipD, List.map_cons, List.map_nil, List.zip_cons_cons, List.zip_nil_right, List.mem_cons, List.not_mem_nil, or_false] at hd
          rcases hd with rfl | rfl
          · exact ⟨_, 1, by rw [sds_sdl hbr], ok_strs (by unfold sds; split <;> split <;> decide), by decide⟩
          · exact ⟨_, 0, rfl, trivial, by decide⟩
        subst hd
        refine agc_tuD rfl rfl (agcs_cons (agc_tuD rfl rfl (agcs_cons ?_)))
        walk_at "agc"
        refine agcs_cons ?_
        walk_at "agc"
        refine agcs_nil (agcs_cons ?_)
        walk_at "agc"
        refine agcs_nil fun s H C' cl fp => ?_
        refine ae_and (ae_isNv ?_)
        walk_at "nm"
        refine ⟨_, noD_dat _, _, rfl, fun _ => ae_one (ae_call (D_same n) (hr.mono (by omega)) ?_), fun h => (by cases h)⟩
        walk_at "ax"
        exact ⟨y, rfl, hy.1, rfl, rfl⟩
      · refine aa_nil ⟨D, [true, true], rfl, upM_same, _, _, fin D hD _, q⟩
end B

set_option Elab.async false
set_option linter.all false
set_option maxRecDepth 100000
set_option maxHeartbeats 4000000
namespace B
open PySem PySem.Spec PyProof.Rows L2 A
local macro_rules | `(tactic| walk_at "nm") => `(tactic| refine ae_nameT (by assumption) rfl ?_)
local macro_rules | `(tactic| walk_at "ag") => `(tactic| refine ag_nameT (by assumption) (by assumption) ?_)
local macro_rules | `(tactic| walk_at "agc") => `(tactic| (refine agc_nameU (by assumption) (by assumption) ?_ ?_; · decide))
local macro_rules | `(tactic| walk_at "set") => `(tactic| refine as_setT (by assumption) (by assumption) ?_)
local macro_rules | `(tactic| walk_at "ax1") => `(tactic| first
  | ((with_reducible show AE _ (Expr.Name _ _) _ _ _); walk_at "nm")
  | ((with_reducible show AA _ (_ :: _) _ _ _); refine aa_cons ?_)
  | ((with_reducible show AA _ [] _ _ _); refine aa_nil ?_)
  | ((with_reducible show AE _ (Expr.Constant _ _ _) _ _ _); first | refine ae_int ?_ | refine ae_str ?_ | refine ae_bl ?_ | refine ae_non ?_)
  | ((with_reducible show AE _ (Expr.BinOp _ Operator.Add _ _) _ _ _); refine ae_add ?_)
  | ((with_reducible show AE _ (Expr.BinOp _ Operator.Sub _ _) _ _ _); refine ae_sub ?_)
  | ((with_reducible show AE _ (Expr.BinOp _ Operator.Mult _ _) _ _ _); refine ae_mul ?_)
  | ((with_reducible show AE _ (Expr.BinOp _ Operator.FloorDiv _ _) _ _ _); refine ae_fdiv ?_)
  | ((with_reducible show AE _ (Expr.BinOp _ Operator.Mod _ _) _ _ _); refine ae_mod ?_)
  | ((with_reducible show AE _ (Expr.Compare _ [CmpOp.Lt] _ _) _ _ _); refine ae_lt ?_)
  | ((with_reducible show AE _ (Expr.Compare _ [CmpOp.LtE] _ _) _ _ _); refine ae_le ?_)
  | ((with_reducible show AE _ (Expr.Compare _ [CmpOp.Gt] _ _) _ _ _); refine ae_gt ?_)
  | ((with_reducible show AE _ (Expr.Compare _ [CmpOp.GtE] _ _) _ _ _); refine ae_ge ?_)
  | ((with_reducible show AE _ (Expr.Compare _ [CmpOp.Eq] _ _) _ _ _); refine ae_eqs ?_)
  | ((with_reducible show AE _ (Expr.Compare _ [CmpOp.NotEq] _ _) _ _ _); refine ae_nes ?_)
  | ((with_reducible show AT _ (Expr.Compare _ [CmpOp.Eq] _ _) _ _ _); refine at_eqs ?_)
  | ((with_reducible show AT _ (Expr.Compare _ [CmpOp.NotEq] _ _) _ _ _); refine at_nes ?_)
  | ((with_reducible show AT _ (Expr.Compare _ [CmpOp.Lt] _ _) _ _ _); refine at_lt ?_)
  | ((with_reducible show AT _ (Expr.Compare _ [CmpOp.LtE] _ _) _ _ _); refine at_le ?_)
  | ((with_reducible show AT _ (Expr.Compare _ [CmpOp.Gt] _ _) _ _ _); refine at_gt ?_)
  | ((with_reducible show AT _ (Expr.Compare _ [CmpOp.GtE] _ _) _ _ _); refine at_ge ?_)
  | ((with_reducible show AT _ (Expr.UnaryOp UnaryOp.Not _ _) _ _ _); refine at_not ?_)
  | ((with_reducible show AT _ (Expr.Call _ _ _ _) _ _ _); refine at_val ?_)
  | ((with_reducible show AR _ rEq (DV.dat (PyData.int _)) (DV.dat (PyData.int _)) _ _); refine ar_eqI ?_)
  | ((with_reducible show AR _ rNe (DV.dat (PyData.int _)) (DV.dat (PyData.int _)) _ _); refine ar_neI ?_)
  | ((with_reducible show AR _ rEq (DV.dat (PyData.str _)) (DV.dat (PyData.str _)) _ _); refine ar_eqS ?_)
  | ((with_reducible show AR _ rNe (DV.dat (PyData.str _)) (DV.dat (PyData.str _)) _ _); refine ar_neS ?_)
  | ((with_reducible show ∃ c, DV.dat (PyData.bool _) = DV.dat (PyData.bool c) ∧ _); refine ⟨_, rfl, ?_⟩)
  | ((with_reducible show AE _ (Expr.Tuple _ _ _) _ _ _); refine ae_tup ?_)
  | ((with_reducible show AE _ (Expr.Subscript _ _ _) _ _ _); refine ae_ixT ?_)
  | ((with_reducible show ∃ i j, DV.dat (PyData.int _) = DV.dat (PyData.int i) ∧ DV.dat (PyData.int _) = DV.dat (PyData.int j) ∧ _); refine ⟨_, _, rfl, rfl, ?_⟩)
  | ((with_reducible show ∃ xs i d, DV.dat (PyData.tuple _) = DV.dat (PyData.tuple xs) ∧ _); refine ⟨_, _, _, rfl, rfl, rfl, ?_⟩))
local macro_rules | `(tactic| walk_at "ax") => `(tactic| repeat (walk_at "ax1"))
local macro_rules | `(tactic| walk_at "ay1") => `(tactic| first
  | walk_at "ax1"
  | ((with_reducible show AE _ (Expr.UnaryOp UnaryOp.USub _ _) _ _ _); refine ae_neg ?_)
  | ((with_reducible show ∃ i, DV.dat (PyData.int _) = DV.dat (PyData.int i) ∧ _); refine ⟨_, rfl, ?_⟩)
  | ((with_reducible show ∃ xs : List PyData, [_, _] = List.map DV.dat xs ∧ _); refine ⟨[_, _], rfl, Nat.le_of_ble_eq_true rfl, ?_⟩)
  | ((with_reducible show ∃ xs : List PyData, [_, _, _] = List.map DV.dat xs ∧ _); refine ⟨[_, _, _], rfl, Nat.le_of_ble_eq_true rfl, ?_⟩))
local macro_rules | `(tactic| walk_at "ay") => `(tactic| repeat (walk_at "ay1"))
variable {P : Program} {w : World} {K : PySem.W.Frag} {mg : Str → Option Value} {base : Heap} {C : Addr}
open TL Wd
set_option exponentiation.threshold 10000
set_option maxHeartbeats 40000000
open Fr (Bd)
theorem drop_tabs {T : List (Addr × Str)} {M : MS} {q : Addr} {m : MO} (h : TabsM T M) (hq : M q = some m) (hm : ∀ z, m ≠ .tab z := by intro _ z; cases z) : TabsM T (dropM M q) := TabsM.drop h hq hm
theorem le_drop_trans {M N O : MS} {q : Addr} (h : Le (dropM M q) N) (g : Le (dropM N q) O) : Le (dropM M q) O := fun a m e => by
  have na : a ≠ q := fun y => by rw [y, drop_at] at e; cases e
  exact g _ _ (by unfold dropM; rw [if_neg na]; exact h _ _ e)
theorem le_drop_at {N O : MS} {p q : Addr} {m : MO} (g : Le (dropM N q) O) (n : p ≠ q) (h : N p = some m) : O p = some m := g _ _ (by unfold dropM; rw [if_neg n]; exact h)
def S_right (TT : List (Addr × Str)) : DS1 := fun vs M k => ∃ (q : Addr) (n : Nat), vs = [.raw (.ref q)] ∧ PotAt M q n ∧ n ≤ 100 ∧ TabsM TT M ∧ k (.dat (.bool true)) (dropM M q)
theorem sc__law_right : FnScope ["pot", "owns", "own"] ["pot"] (defScope s__law_right) := ⟨rfl, rfl, rfl, by decide +kernel, rfl, by decide +kernel, by decide +kernel⟩
theorem d__law_right (T : Txt K mg C) (D_bplain : Def P w K mg base "_law_book_plain" 8 S_bplain) (D_kind : Def P w K mg base "_law_book_of_kind" 8 S_kind) (D_bdrawn : Def P w K mg base "_law_border_drawn" 7 S_bdrawn) {PT : Addr} (D_told : Def P w K mg base "_law_is_told_right" 13 (S_istold [(PT, lamQ)]))
    {f : Addr} {fd : FuncData} (F : Fun K "_law_right" "_law_right" s__law_right f fd) (hm : mg "_law_right" = some (.ref f)) (hb : Binds K fd ["pot"] []) : Def P w K mg base "_law_right" 14 (S_right [(PT, lamQ)]) := by
  refine def_ok F hm hb sc__law_right (fun ds M k h => ?_) (fun cdv A outer s H E ds M kk hl nd hr h => ?_)
  · obtain ⟨q, n, rfl, _⟩ := h; rfl
  · obtain ⟨q1, n, rfl, hp0, hn, TM, q⟩ := h
    walk_at "set"
    refine ae_lst (aa_cons (ae_call D_bplain (hr.mono (by decide)) ?_))
    walk_at "ax"
    refine ⟨q1, n, rfl, hp0, by omega, fun N1 p1 o1 hdr1 hpl1 hN1 n1 hl1 hq1 => aa_cons (ae_call D_kind (hr.mono (by decide)) ?_)⟩
    walk_at "ax"
    refine ⟨q1, _, true, rfl, hq1, by omega, fun N2 p2 o2 hg2 hpl2 _ hN2 n2 hl2 hq2 => aa_cons (ae_call D_kind (hr.mono (by decide)) ?_)⟩
    walk_at "ax"
    refine ⟨q1, _, false, rfl, hq2, by omega, fun N3 p3 o3 hg3 hpl3 _ hN3 n3 hl3 hq3 => aa_cons (ae_call D_bdrawn (hr.mono (by decide)) ?_)⟩
    walk_at "ax"
    refine ⟨q1, _, rfl, hq3, by omega, fun N4 p4 o4 hg4 hN4 n4 hl4 hq4 => aa_nil ⟨Nat.le_of_ble_eq_true rfl, fun r hr0 => ?_⟩⟩
    have k1 : N4 p1 = some (.dK (ownK o1)) := le_drop_at hl4 n1 (le_drop_at hl3 n1 (le_drop_at hl2 n1 hN1))
    have k2 : N4 p2 = some (.dK (ownK o2)) := le_drop_at hl4 n2 (le_drop_at hl3 n2 hN2)
    have k3 : N4 p3 = some (.dK (ownK o3)) := le_drop_at hl4 n3 hN3
    have hle : Le (dropM M q1) N4 := le_drop_trans (le_drop_trans (le_drop_trans hl1 hl2) hl3) hl4
    obtain ⟨po, ps, pc, hPM, _⟩ := hp0
    have t0 : TabsM [(PT, lamQ)] (dropM M q1) := drop_tabs TM hPM
    have t1 := t0.add hle k1
    have l1 := le_add hle k1
    have t2 := t1.add l1 k2
    have l2 := le_add l1 k2
    have t3 := t2.add l2 k3
    have l3 := le_add l2 k3
    have t4 := t3.add l3 hN4
    have l4 := le_add l3 hN4
    have a1 := add_at l3 hN4 (add_at l2 k3 (add_at l1 k2 (upM_same (M := dropM M q1) (a := p1) (m := .dK (ownK o1)))))
    have a2 := add_at l3 hN4 (add_at l2 k3 (upM_same (M := upM (dropM M q1) p1 (.dK (ownK o1))) (a := p2) (m := .dK (ownK o2))))
    have a3 := add_at l3 hN4 (upM_same (M := upM (upM (dropM M q1) p1 (.dK (ownK o1))) p2 (.dK (ownK o2))) (a := p3) (m := .dK (ownK o3)))
    have a4 := upM_same (M := upM (upM (upM (dropM M q1) p1 (.dK (ownK o1))) p2 (.dK (ownK o2))) p3 (.dK (ownK o3))) (a := p4) (m := .dK (ownK o4))
    have l0 : Le (dropM M q1) (upM (upM (upM (upM (dropM M q1) p1 (.dK (ownK o1))) p2 (.dK (ownK o2))) p3 (.dK (ownK o3))) p4 (.dK (ownK o4))) := fun a m e => add_at l3 hN4 (add_at l2 k3 (add_at l1 k2 (add_at hle k1 e)))
    generalize upM (upM (upM (upM (dropM M q1) p1 (.dK (ownK o1))) p2 (.dK (ownK o2))) p3 (.dK (ownK o3))) p4 (.dK (ownK o4)) = L at t4 l4 a1 a2 a3 a4 l0
    have hr1 : L r = none := le_none l4 hr0
    have hq5 : upM L r (.lst [.raw (.ref p1), .raw (.ref p2), .raw (.ref p3), .raw (.ref p4)]) r = some (.lst [.raw (.ref p1), .raw (.ref p2), .raw (.ref p3), .raw (.ref p4)]) := upM_same
    refine ASs.forget (N := upM L r (.lst [.raw (.ref p1), .raw (.ref p2), .raw (.ref p3), .raw (.ref p4)])) (le_add (l4.trans ((Le.refl N4).up hr0)) upM_same) ?_
    have t5 : TabsM [(PT, lamQ)] (upM L r (.lst [.raw (.ref p1), .raw (.ref p2), .raw (.ref p3), .raw (.ref p4)])) := t4.up (.inl hr1) fun _ z => by cases z
    have l5 : Le L (upM L r (.lst [.raw (.ref p1), .raw (.ref p2), .raw (.ref p3), .raw (.ref p4)])) := (Le.refl L).up hr1
    generalize upM L r (.lst [.raw (.ref p1), .raw (.ref p2), .raw (.ref p3), .raw (.ref p4)]) = N at hq5 t5 l5
    refine as_cons (as_ret (ae_wk (ae_all rfl T.b_all (aa_cons (ae_lcQ (kp := fun M3 => M3 r = some (.lst [.raw (.ref p1), .raw (.ref p2), .raw (.ref p3), .raw (.ref p4)])) rfl nd (blkOk_by (own := [("own", 2)]) rfl) (fun _ => .dat (.bool true)) (ai_listM ?_))))))
    walk_at "nm"
    refine ⟨r, _, rfl, hq5, rfl, fun D m hD => by rw [upM_ne (fun e => by rw [← e, hq5] at hD; cases hD)]; exact hq5, Nat.lt_of_lt_of_le (m := 5) (Nat.le_of_ble_eq_true rfl) (by decide), fun d D acc hd hD s H C' cl fp => ?_, fun D hD => ?_⟩
    · have tD : TabsM [(PT, lamQ)] (upM N D (.lst acc)) := t5.up (.inl hD) fun _ z => by cases z
      have lD : Le L (upM N D (.lst acc)) := l5.trans ((Le.refl N).up hD)
      obtain ⟨p, o, ha, ho, rfl⟩ : ∃ (p : Addr) (o : Own), L p = some (.dK (ownK o)) ∧ GoodO o ∧ d = .raw (.ref p) := by
        simp only [List.mem_cons, List.not_mem_nil, or_false] at hd
        rcases hd with hd | hd | hd | hd
        · exact ⟨p1, o1, a1, hdr1.good, hd⟩
        · exact ⟨p2, o2, a2, hg2, hd⟩
        · exact ⟨p3, o3, a3, hg3, hd⟩
        · exact ⟨p4, o4, a4, hg4, hd⟩
      walk_at "agc"
      intro s H C' cl fp
      refine ae_call D_told hr ?_
      walk_at "ax"
      exact ⟨p, o, rfl, lD _ _ ha, ho, tD, rfl, rfl⟩
    · exact aa_nil ⟨D, [true, true, true, true], rfl, upM_same, _, _, .forget ((l0.trans l5).trans ((Le.refl N).up hD)), q⟩
end B

set_option Elab.async false
set_option linter.all false
set_option maxRecDepth 100000
set_option maxHeartbeats 4000000
namespace B
open PySem PySem.Spec PyProof.Rows L2 A
local macro_rules | `(tactic| walk_at "nm") => `(tactic| refine ae_nameT (by assumption) rfl ?_)
local macro_rules | `(tactic| walk_at "ag") => `(tactic| refine ag_nameT (by assumption) (by assumption) ?_)
local macro_rules | `(tactic| walk_at "agc") => `(tactic| (refine agc_nameU (by assumption) (by assumption) ?_ ?_; · decide))
local macro_rules | `(tactic| walk_at "set") => `(tactic| refine as_setT (by assumption) (by assumption) ?_)
local macro_rules | `(tactic| walk_at "ax1") => `(tactic| first
  | ((with_reducible show AE _ (Expr.Name _ _) _ _ _); walk_at "nm")
  | ((with_reducible show AA _ (_ :: _) _ _ _); refine aa_cons ?_)
  | ((with_reducible show AA _ [] _ _ _); refine aa_nil ?_)
  | ((with_reducible show AE _ (Expr.Constant _ _ _) _ _ _); first | refine ae_int ?_ | refine ae_str ?_ | refine ae_bl ?_ | refine ae_non ?_)
  | ((with_reducible show AE _ (Expr.BinOp _ Operator.Add _ _) _ _ _); refine ae_add ?_)
  | ((with_reducible show AE _ (Expr.BinOp _ Operator.Sub _ _) _ _ _); refine ae_sub ?_)
  | ((with_reducible show AE _ (Expr.BinOp _ Operator.Mult _ _) _ _ _); refine ae_mul ?_)
  | ((with_reducible show AE _ (Expr.BinOp _ Operator.FloorDiv _ _) _ _ _); refine ae_fdiv ?_)
  | ((with_reducible show AE _ (Expr.BinOp _ Operator.Mod _ _) _ _ _); refine ae_mod ?_)
  | ((with_reducible show AE _ (Expr.Compare _ [CmpOp.Lt] _ _) _ _ _); refine ae_lt ?_)
  | ((with_reducible show AE _ (Expr.Compare _ [CmpOp.LtE] _ _) _ _ _); refine ae_le ?_)
  | ((with_reducible show AE _ (Expr.Compare _ [CmpOp.Gt] _ _) _ _ _); refine ae_gt ?_)
  | ((with_reducible show AE _ (Expr.Compare _ [CmpOp.GtE] _ _) _ _ _); refine ae_ge ?_)
  | ((with_reducible show AE _ (Expr.Compare _ [CmpOp.Eq] _ _) _ _ _); refine ae_eqs ?_)
  | ((with_reducible show AE _ (Expr.Compare _ [CmpOp.NotEq] _ _) _ _ _); refine ae_nes ?_)
  | ((with_reducible show AT _ (Expr.Compare _ [CmpOp.Eq] _ _) _ _ _); refine at_eqs ?_)
  | ((with_reducible show AT _ (Expr.Compare _ [CmpOp.NotEq] _ _) _ _ _); refine at_nes ?_)
  | ((with_reducible show AT _ (Expr.Compare _ [CmpOp.Lt] _ _) _ _ _); refine at_lt ?_)
  | ((with_reducible show AT _ (Expr.Compare _ [CmpOp.LtE] _ _) _ _ _); refine at_le ?_)
  | ((with_reducible show AT _ (Expr.Compare _ [CmpOp.Gt] _ _) _ _ _); refine at_gt ?_)
  | ((with_reducible show AT _ (Expr.Compare _ [CmpOp.GtE] _ _) _ _ _); refine at_ge ?_)
  | ((with_reducible show AT _ (Expr.UnaryOp UnaryOp.Not _ _) _ _ _); refine at_not ?_)
  | ((with_reducible show AT _ (Expr.Call _ _ _ _) _ _ _); refine at_val ?_)
  | ((with_reducible show AR _ rEq (DV.dat (PyData.int _)) (DV.dat (PyData.int _)) _ _); refine ar_eqI ?_)
  | ((with_reducible show AR _ rNe (DV.dat (PyData.int _)) (DV.dat (PyData.int _)) _ _); refine ar_neI ?_)
  | ((with_reducible show AR _ rEq (DV.dat (PyData.str _)) (DV.dat (PyData.str _)) _ _); refine ar_eqS ?_)
  | ((with_reducible show AR _ rNe (DV.dat (PyData.str _)) (DV.dat (PyData.str _)) _ _); refine ar_neS ?_)
  | ((with_reducible show ∃ c, DV.dat (PyData.bool _) = DV.dat (PyData.bool c) ∧ _); refine ⟨_, rfl, ?_⟩)
  | ((with_reducible show AE _ (Expr.Tuple _ _ _) _ _ _); refine ae_tup ?_)
  | ((with_reducible show AE _ (Expr.Subscript _ _ _) _ _ _); refine ae_ixT ?_)
  | ((with_reducible show ∃ i j, DV.dat (PyData.int _) = DV.dat (PyData.int i) ∧ DV.dat (PyData.int _) = DV.dat (PyData.int j) ∧ _); refine ⟨_, _, rfl, rfl, ?_⟩)
  | ((with_reducible show ∃ xs i d, DV.dat (PyData.tuple _) = DV.dat (PyData.tuple xs) ∧ _); refine ⟨_, _, _, rfl, rfl, rfl, ?_⟩))
local macro_rules | `(tactic| walk_at "ax") => `(tactic| repeat (walk_at "ax1"))
local macro_rules | `(tactic| walk_at "ay1") => `(tactic| first
  | walk_at "ax1"
  | ((with_reducible show AE _ (Expr.UnaryOp UnaryOp.USub _ _) _ _ _); refine ae_neg ?_)
  | ((with_reducible show ∃ i, DV.dat (PyData.int _) = DV.dat (PyData.int i) ∧ _); refine ⟨_, rfl, ?_⟩)
  | ((with_reducible show ∃ xs : List PyData, [_, _] = List.map DV.dat xs ∧ _); refine ⟨[_, _], rfl, Nat.le_of_ble_eq_true rfl, ?_⟩)
  | ((with_reducible show ∃ xs : List PyData, [_, _, _] = List.map DV.dat xs ∧ _); refine ⟨[_, _, _], rfl, Nat.le_of_ble_eq_true rfl, ?_⟩))
local macro_rules | `(tactic| walk_at "ay") => `(tactic| repeat (walk_at "ay1"))
variable {P : Program} {w : World} {K : PySem.W.Frag} {mg : Str → Option Value} {base : Heap} {C : Addr}
open TL Wd
set_option exponentiation.threshold 10000
theorem sc_law : FnScope ["script", "place"] ["script"] (defScope s_law) := ⟨rfl, rfl, rfl, by decide +kernel, rfl, by decide +kernel, by decide +kernel⟩
theorem f_law (T : Txt K mg C) (D_pot : Def P w K mg base "_law_pot" 1 S_pot) (D_cells : Def P w K mg base "_law_cells" 1 S_cells) {PT : Addr} (D_right : Def P w K mg base "_law_right" 14 (S_right [(PT, lamQ)])) {f : Addr} {fd : FuncData} (F : Fun K "law" "law" s_law f fd) : FnOk P w K mg base CX0 15 f fd ["script"] (spM K (S_lawT [(PT, lamQ)])) := by
  refine fn_ok F sc_law (fun ds M k h => ?_) (fun cdv A outer s H E ds M kk hl nd hr h => ?_)
  · obtain ⟨ns, rfl, _⟩ := h; rfl
  · obtain ⟨ns, rfl, TM, q⟩ := h
    refine as_cons (as_ret (ae_wk (ae_all rfl T.b_all (aa_cons (ae_lcQ rfl nd (blkOk_by (own := [("place", 1)]) rfl) (fun _ => .dat (.bool true)) (ai_list (ae_call D_cells (hr.mono (by decide)) ?_)))))))
    walk_at "ax"
    refine ⟨_, 3, by decide, by decide, rfl, fun m hm1 hm2 => ⟨_, rfl, fun _ _ _ => trivial, by rw [List.length_map, List.length_map, List.length_range]; omega, fun d D acc hd hD s H C cl fp => ?_, fun D hD => ?_⟩⟩
    · obtain ⟨y, hy, rfl⟩ := List.mem_map.mp hd
      obtain ⟨i, hi, rfl⟩ := List.mem_map.mp hy
      have hi := List.mem_range.mp hi
      have tD := TM.up (p := D) (m := .lst acc) (.inl hD) fun _ z => by cases z
      rw [show (0 : Int) + (i : Int) = (i : Int) by omega]
      walk_at "agc"
      intro s H C cl fp
      refine ae_call D_right hr (aa_cons (ae_call D_pot (hr.mono (by decide)) ?_))
      walk_at "ax"
      refine ⟨ns, i, rfl, by omega, fun q1 o sm hq hp => aa_nil ⟨q1, 0, rfl, .mk' hp, by decide, tD.up (.inl hq) (fun _ z => by cases z), rfl, ?_⟩⟩
      rw [drop_up]
      funext a
      unfold dropM
      by_cases e : a = q1
      · rw [if_pos e, e, hq]
      · rw [if_neg e]
    · refine aa_nil ⟨D, (List.replicate m true), rfl, ?_, ?_⟩
      · rw [upM_same]
        congr 2
        apply List.ext_getElem?
        intro j
        rw [List.getElem?_map, List.getElem?_map, List.getElem?_map, List.getElem?_map, List.getElem?_replicate]
        by_cases hj : j < m
        · rw [List.getElem?_range hj, if_pos hj]; rfl
        · rw [List.getElem?_eq_none (by rw [List.length_range]; omega), if_neg hj]; rfl
      · have e : (List.replicate m true).all id = true := List.all_eq_true.mpr fun b hb => by rw [(List.mem_replicate.mp hb).2]; rfl
        rw [e]
        exact ⟨_, M, .forget (Le.up (Le.refl M) hD), q⟩
end B

set_option Elab.async false
set_option linter.all false
set_option maxRecDepth 100000
set_option maxHeartbeats 4000000
namespace B
open PySem PySem.Spec PyProof.Rows L2 A
local macro_rules | `(tactic| walk_at "nm") => `(tactic| refine ae_nameT (by assumption) rfl ?_)
local macro_rules | `(tactic| walk_at "ag") => `(tactic| refine ag_nameT (by assumption) (by assumption) ?_)
local macro_rules | `(tactic| walk_at "agc") => `(tactic| (refine agc_nameU (by assumption) (by assumption) ?_ ?_; · decide))
local macro_rules | `(tactic| walk_at "set") => `(tactic| refine as_setT (by assumption) (by assumption) ?_)
local macro_rules | `(tactic| walk_at "ax1") => `(tactic| first
  | ((with_reducible show AE _ (Expr.Name _ _) _ _ _); walk_at "nm")
  | ((with_reducible show AA _ (_ :: _) _ _ _); refine aa_cons ?_)
  | ((with_reducible show AA _ [] _ _ _); refine aa_nil ?_)
  | ((with_reducible show AE _ (Expr.Constant _ _ _) _ _ _); first | refine ae_int ?_ | refine ae_str ?_ | refine ae_bl ?_ | refine ae_non ?_)
  | ((with_reducible show AE _ (Expr.BinOp _ Operator.Add _ _) _ _ _); refine ae_add ?_)
  | ((with_reducible show AE _ (Expr.BinOp _ Operator.Sub _ _) _ _ _); refine ae_sub ?_)
  | ((with_reducible show AE _ (Expr.BinOp _ Operator.Mult _ _) _ _ _); refine ae_mul ?_)
  | ((with_reducible show AE _ (Expr.BinOp _ Operator.FloorDiv _ _) _ _ _); refine ae_fdiv ?_)
  | ((with_reducible show AE _ (Expr.BinOp _ Operator.Mod _ _) _ _ _); refine ae_mod ?_)
  | ((with_reducible show AE _ (Expr.Compare _ [CmpOp.Lt] _ _) _ _ _); refine ae_lt ?_)
  | ((with_reducible show AE _ (Expr.Compare _ [CmpOp.LtE] _ _) _ _ _); refine ae_le ?_)
  | ((with_reducible show AE _ (Expr.Compare _ [CmpOp.Gt] _ _) _ _ _); refine ae_gt ?_)
  | ((with_reducible show AE _ (Expr.Compare _ [CmpOp.GtE] _ _) _ _ _); refine ae_ge ?_)
  | ((with_reducible show AE _ (Expr.Compare _ [CmpOp.Eq] _ _) _ _ _); refine ae_eqs ?_)
  | ((with_reducible show AE _ (Expr.Compare _ [CmpOp.NotEq] _ _) _ _ _); refine ae_nes ?_)
  | ((with_reducible show AT _ (Expr.Compare _ [CmpOp.Eq] _ _) _ _ _); refine at_eqs ?_)
  | ((with_reducible show AT _ (Expr.Compare _ [CmpOp.NotEq] _ _) _ _ _); refine at_nes ?_)
  | ((with_reducible show AT _ (Expr.Compare _ [CmpOp.Lt] _ _) _ _ _); refine at_lt ?_)
  | ((with_reducible show AT _ (Expr.Compare _ [CmpOp.LtE] _ _) _ _ _); refine at_le ?_)
  | ((with_reducible show AT _ (Expr.Compare _ [CmpOp.Gt] _ _) _ _ _); refine at_gt ?_)
  | ((with_reducible show AT _ (Expr.Compare _ [CmpOp.GtE] _ _) _ _ _); refine at_ge ?_)
  | ((with_reducible show AT _ (Expr.UnaryOp UnaryOp.Not _ _) _ _ _); refine at_not ?_)
  | ((with_reducible show AT _ (Expr.Call _ _ _ _) _ _ _); refine at_val ?_)
  | ((with_reducible show AR _ rEq (DV.dat (PyData.int _)) (DV.dat (PyData.int _)) _ _); refine ar_eqI ?_)
  | ((with_reducible show AR _ rNe (DV.dat (PyData.int _)) (DV.dat (PyData.int _)) _ _); refine ar_neI ?_)
  | ((with_reducible show AR _ rEq (DV.dat (PyData.str _)) (DV.dat (PyData.str _)) _ _); refine ar_eqS ?_)
  | ((with_reducible show AR _ rNe (DV.dat (PyData.str _)) (DV.dat (PyData.str _)) _ _); refine ar_neS ?_)
  | ((with_reducible show ∃ c, DV.dat (PyData.bool _) = DV.dat (PyData.bool c) ∧ _); refine ⟨_, rfl, ?_⟩)
  | ((with_reducible show AE _ (Expr.Tuple _ _ _) _ _ _); refine ae_tup ?_)
  | ((with_reducible show AE _ (Expr.Subscript _ _ _) _ _ _); refine ae_ixT ?_)
  | ((with_reducible show ∃ i j, DV.dat (PyData.int _) = DV.dat (PyData.int i) ∧ DV.dat (PyData.int _) = DV.dat (PyData.int j) ∧ _); refine ⟨_, _, rfl, rfl, ?_⟩)
  | ((with_reducible show ∃ xs i d, DV.dat (PyData.tuple _) = DV.dat (PyData.tuple xs) ∧ _); refine ⟨_, _, _, rfl, rfl, rfl, ?_⟩))
local macro_rules | `(tactic| walk_at "ax") => `(tactic| repeat (walk_at "ax1"))
local macro_rules | `(tactic| walk_at "ay1") => `(tactic| first
  | walk_at "ax1"
  | ((with_reducible show AE _ (Expr.UnaryOp UnaryOp.USub _ _) _ _ _); refine ae_neg ?_)
  | ((with_reducible show ∃ i, DV.dat (PyData.int _) = DV.dat (PyData.int i) ∧ _); refine ⟨_, rfl, ?_⟩)
  | ((with_reducible show ∃ xs : List PyData, [_, _] = List.map DV.dat xs ∧ _); refine ⟨[_, _], rfl, Nat.le_of_ble_eq_true rfl, ?_⟩)
  | ((with_reducible show ∃ xs : List PyData, [_, _, _] = List.map DV.dat xs ∧ _); refine ⟨[_, _, _], rfl, Nat.le_of_ble_eq_true rfl, ?_⟩))
local macro_rules | `(tactic| walk_at "ay") => `(tactic| repeat (walk_at "ay1"))
variable {P : Program} {w : World} {K : PySem.W.Frag} {mg : Str → Option Value} {base : Heap} {C : Addr}

open TL Wd
set_option exponentiation.threshold 10000
structure At (K : PySem.W.Frag) (x qual : Str) (st : Stmt) : Prop where
  ex : ∃ (f : Addr) (fd : FuncData), Fun K x qual st f fd ∧ PySem.W.nsIn K mainGlobals x = some (some (.ref f))
theorem at_mk {K : PySem.W.Frag} {x qual : Str} {st : Stmt} {f : Addr} {od an : Option Addr} {sl : Array (Option Value)} {oc kV dc pm cd ct : Value} (a : PySem.W.nsIn K mainGlobals x = some (some (.ref f)))
    (l : K.lookup f = some ⟨oc, od, .func (PySem.W.fnOf x qual (defArgs st) (defBody st) (defScope st) .none kV dc pm an cd ct), sl⟩) (c : PySem.W.codeIn K cd qual = true) (k : PySem.W.keepIn K (.ref f) = true) : At K x qual st := ⟨f, _, fun_mk l c k, a⟩
theorem kb_mk {K : PySem.W.Frag} {x qual : Str} {st : Stmt} {f : Addr} {fd : FuncData} {ps ks : List Str} (F : Fun K x qual st f fd)
    (h : ∀ (kV doc pm : Value) (an : Option Addr) (cdv ct : Value) (us ws : List Value), ws.length + us.length = ps.length → bindArgs (PySem.W.fnOf x qual (defArgs st) (defBody st) (defScope st) .none kV doc pm an cdv ct) ⟨us, ks.zip ws⟩ = pure (ps.zip (us ++ ws.reverse))) : KBinds K fd ps ks (fun us ws => us ++ rv ws) (fun vs zs => vs ++ rv zs) := by
  obtain ⟨oc, od, kV, doc, pm, an, cdv, ct, osl, rfl, lk, hcd⟩ := F.ex
  exact ⟨fun s us ws _ hl =>   .of_eq (h kV doc pm an cdv ct us ws (by rw [List.length_append, List.length_reverse] at hl; omega)), fun r rz => Vals.append r rz.reverse⟩
theorem glob_t2 {K : PySem.W.Frag} {mg : Str → Option Value} {x : Str} {a : Addr} {od : Option Addr} {sl : Array (Option Value)} {n : Nat} {i j : Int} {t1 t2 : Tok} (hm : mg x = some (.ref a)) (hl : K.lookup a = some ⟨.type "tuple", od, .seq #[.int i t1, .int j t2] n, sl⟩) : GlobD K mg x (.tuple [.int i, .int j]) :=
  ⟨.ref a, .ref a, hm, rfl, fun G => .tup (.inr ⟨_, _, n, hl, rfl, rfl, Nat.le_of_ble_eq_true rfl, (show Vals [V.int i, V.int j] [.int i t1, .int j t2] from .cons (show RelV (.int i) (.int i t1) from ⟨t1, rfl⟩) (.cons (show RelV (.int j) (.int j t2) from ⟨t2, rfl⟩) .nil))⟩) (.cons (.int i) (.cons (.int j) .nil))⟩
theorem glob_t4 {K : PySem.W.Frag} {mg : Str → Option Value} {x : Str} {a : Addr} {od : Option Addr} {sl : Array (Option Value)} {n : Nat} {i j k l : Str} {t1 t2 t3 t4 : Tok} (hm : mg x = some (.ref a)) (hl : K.lookup a = some ⟨.type "tuple", od, .seq #[.str i t1, .str j t2, .str k t3, .str l t4] n, sl⟩) : GlobD K mg x (.tuple [.str i, .str j, .str k, .str l]) :=
  ⟨.ref a, .ref a, hm, rfl, fun G => .tup (.inr ⟨_, _, n, hl, rfl, rfl, Nat.le_of_ble_eq_true rfl, (show Vals [V.str i, V.str j, V.str k, V.str l] [.str i t1, .str j t2, .str k t3, .str l t4] from .cons (show RelV (.str i) (.str i t1) from ⟨t1, rfl⟩) (.cons (show RelV (.str j) (.str j t2) from ⟨t2, rfl⟩) (.cons (show RelV (.str k) (.str k t3) from ⟨t3, rfl⟩) (.cons (show RelV (.str l) (.str l t4) from ⟨t4, rfl⟩) .nil))))⟩) (.cons (.str i) (.cons (.str j) (.cons (.str k) (.cons (.str l) .nil))))⟩
theorem dpAll_ints {K : PySem.W.Frag} {H : Hp} : ∀ ns : List Int, DpAll K H (ns.map V.int) (ns.map .int)
  | [] => .nil
  | n :: r => .cons (.int n) (dpAll_ints r)

theorem all_mk {l : PySem.W.OpenLaw} {qq : Program} {w : World} {K : PySem.W.Frag} {h : Heap} {mg : Str → Option Value} {fa C fI ad_ZERO ad_ONE ad_REGIONS CS gI CB cT PT : Addr} (X : K.In h) (G : h.Ns mainGlobals mg) (hfa : mg "law" = some (.ref fa))
    (a_is_integer : At K "is_integer" "is_integer" s_is_integer)
    (a_lowest : At K "lowest" "lowest" s_lowest)
    (a_added : At K "added" "added" s_added)
    (a_sum_of : At K "sum_of" "sum_of" s_sum_of)
    (a_is_fraction : At K "is_fraction" "is_fraction" s_is_fraction)
    (a_read_integer : At K "read_integer" "read_integer" s_read_integer)
    (a_read_fraction : At K "read_fraction" "read_fraction" s_read_fraction)
    (a_may_step : At K "may_step" "may_step" s_may_step)
    (a_find_chance : At K "find_chance" "find_chance" s_find_chance)
    (a_read_step : At K "read_step" "read_step" s_read_step)
    (a_check_chances : At K "check_chances" "check_chances" s_check_chances)
    (a_read_regions : At K "read_regions" "read_regions" s_read_regions)
    (a__law_pot : At K "_law_pot" "_law_pot" s__law_pot)
    (a__law_take : At K "_law_take" "_law_take" s__law_take)
    (a__law_of : At K "_law_of" "_law_of" s__law_of)
    (a__law_some : At K "_law_some" "_law_some" s__law_some)
    (a__law_cells : At K "_law_cells" "_law_cells" s__law_cells)
    (a__law_frac_common : At K "_law_frac_common" "_law_frac_common" s__law_frac_common)
    (a__law_frac : At K "_law_frac" "_law_frac" s__law_frac)
    (a__law_frac_plus : At K "_law_frac_plus" "_law_frac_plus" s__law_frac_plus)
    (a__law_frac_sum : At K "_law_frac_sum" "_law_frac_sum" s__law_frac_sum)
    (a__law_frac_text : At K "_law_frac_text" "_law_frac_text" s__law_frac_text)
    (a__law_book_regions : At K "_law_book_regions" "_law_book_regions" s__law_book_regions)
    (a__law_book_text : At K "_law_book_text" "_law_book_text" s__law_book_text)
    (a__law_book_rows_drawn : At K "_law_book_rows_drawn" "_law_book_rows_drawn" s__law_book_rows_drawn)
    (a__law_book_drawn : At K "_law_book_drawn" "_law_book_drawn" s__law_book_drawn)
    (a_less : At K "less" "less" s_less)
    (a_times : At K "times" "times" s_times)
    (a_mean_of : At K "mean_of" "mean_of" s_mean_of)
    (a_drift_of : At K "drift_of" "drift_of" s_drift_of)
    (a_drifts_of : At K "drifts_of" "drifts_of" s_drifts_of)
    (a_turns_by : At K "turns_by" "turns_by" s_turns_by)
    (a_sides_by : At K "sides_by" "sides_by" s_sides_by)
    (a_border_by : At K "border_by" "border_by" s_border_by)
    (a_border : At K "border" "border" s_border)
    (a__law_frac_less : At K "_law_frac_less" "_law_frac_less" s__law_frac_less)
    (a__law_frac_times : At K "_law_frac_times" "_law_frac_times" s__law_frac_times)
    (a__law_book_drift : At K "_law_book_drift" "_law_book_drift" s__law_book_drift)
    (a__law_book_turns : At K "_law_book_turns" "_law_book_turns" s__law_book_turns)
    (a__law_same : At K "_law_same" "_law_same" s__law_same)
    (a__law_book_sides : At K "_law_book_sides" "_law_book_sides" s__law_book_sides)
    (a__law_book_border : At K "_law_book_border" "_law_book_border" s__law_book_border)
    (a__law_frac_over : At K "_law_frac_over" "_law_frac_over" s__law_frac_over)
    (a__law_turned_flat : At K "_law_turned_flat" "_law_turned_flat" s__law_turned_flat)
    (a__law_border_drawn : At K "_law_border_drawn" "_law_border_drawn" s__law_border_drawn)
    (a__law_heard : At K "_law_heard" "_law_heard" s__law_heard)
    (a_rising_by : At K "rising_by" "rising_by" s_rising_by)
    (a_told_by : At K "told_by" "told_by" s_told_by)
    (a__law_book_is_home : At K "_law_book_is_home" "_law_book_is_home" s__law_book_is_home)
    (a__law_book_by_hand : At K "_law_book_by_hand" "_law_book_by_hand" s__law_book_by_hand)
    (a__law_book_exchanged : At K "_law_book_exchanged" "_law_book_exchanged" s__law_book_exchanged)
    (a__law_book_plain : At K "_law_book_plain" "_law_book_plain" s__law_book_plain)
    (a_check_plain : At K "check_plain" "check_plain" s_check_plain)
    (a_asked : At K "asked" "asked" s_asked)
    (a_does_come_home : At K "does_come_home" "does_come_home" s_does_come_home)
    (a__law_book_of_kind : At K "_law_book_of_kind" "_law_book_of_kind" s__law_book_of_kind)
    (a__law_is_told_right : At K "_law_is_told_right" "_law_is_told_right" s__law_is_told_right)
    (a__law_right : At K "_law_right" "_law_right" s__law_right)
    (a_law : At K "law" "law" s_law)
    {oc kV dc pm cd ct : Value} {od an od_ZERO od_ONE od_REGIONS : Option Addr} {sl sl_ZERO sl_ONE sl_REGIONS : Array (Option Value)} {nn_ZERO nn_ONE nn_REGIONS : Nat} {t0 t1 t2 t3 t4 t5 t6 t7 t8 : Tok}
    (aC : PySem.W.nsIn K mainGlobals "Book" = some (some (.ref C))) (aI : PySem.W.findIn K (.ref C) "__init__" = some (some (.ref fI))) (iI : PySem.W.isFn K (.ref fI) = true)
    (lI : K.lookup fI = some ⟨oc, od, .func (PySem.W.fnOf "__init__" "Book.__init__" (defArgs s_Book_init) (defBody s_Book_init) (defScope s_Book_init) .none kV dc pm an cd ct), sl⟩) (cI : PySem.W.codeIn K cd "Book.__init__" = true) (kI : PySem.W.keepIn K (.ref fI) = true)
    (pg : PySem.W.plainGet K C Str.empty = true) (hd : PySem.W.hasDictIn K C = true) (po : PySem.W.plainOver K C = true) (sa : PySem.W.findIn K (.ref C) "__setattr__" = some (some (.builtin "object.__setattr__"))) (mk : PySem.W.makesIn K C = true) (kc : PySem.W.keepIn K (.ref C) = true)
    (qz_isinstance : PySem.W.nsIn K mainGlobals "isinstance" = some none)
    (qz_int : PySem.W.nsIn K mainGlobals "int" = some none)
    (qz_str : PySem.W.nsIn K mainGlobals "str" = some none)
    (qz_tuple : PySem.W.nsIn K mainGlobals "tuple" = some none)
    (qz_bool : PySem.W.nsIn K mainGlobals "bool" = some none)
    (qz_len : PySem.W.nsIn K mainGlobals "len" = some none)
    (qz_enumerate : PySem.W.nsIn K mainGlobals "enumerate" = some none)
    (qz_range : PySem.W.nsIn K mainGlobals "range" = some none)
    (qz_list : PySem.W.nsIn K mainGlobals "list" = some none)
    (qz_sum : PySem.W.nsIn K mainGlobals "sum" = some none)
    (qz_min : PySem.W.nsIn K mainGlobals "min" = some none)
    (qz_max : PySem.W.nsIn K mainGlobals "max" = some none)
    (qz_abs : PySem.W.nsIn K mainGlobals "abs" = some none)
    (qz_all : PySem.W.nsIn K mainGlobals "all" = some none)
    (qz_zip : PySem.W.nsIn K mainGlobals "zip" = some none)
    (qz_dict : PySem.W.nsIn K mainGlobals "dict" = some none)
    (q_gcd : PySem.W.nsIn K mainGlobals "gcd" = some (some (.builtin "math.gcd")))
    (qg_ZERO : PySem.W.nsIn K mainGlobals "ZERO" = some (some (.ref ad_ZERO))) (ql_ZERO : K.lookup ad_ZERO = some ⟨.type "tuple", od_ZERO, .seq #[.int 0 t0, .int 1 t1] nn_ZERO, sl_ZERO⟩)
    (qg_ONE : PySem.W.nsIn K mainGlobals "ONE" = some (some (.ref ad_ONE))) (ql_ONE : K.lookup ad_ONE = some ⟨.type "tuple", od_ONE, .seq #[.int 1 t2, .int 1 t3] nn_ONE, sl_ONE⟩)
    (qg_REGIONS : PySem.W.nsIn K mainGlobals "REGIONS" = some (some (.ref ad_REGIONS))) (ql_REGIONS : K.lookup ad_REGIONS = some ⟨.type "tuple", od_REGIONS, .seq #[.str "inside" t4, .str "first" t5, .str "second" t6, .str "none" t7] nn_REGIONS, sl_REGIONS⟩)
    (qg_MOST_STEPS : PySem.W.nsIn K mainGlobals "MOST_STEPS" = some (some (.int (12) t8)))
    (qo_ha : PySem.W.findIn K (.ref C) "__class__" = some (some (.builtin "object.__class__"))) (qo_hn : PySem.W.specialIn K (.builtin "object.__class__") "__get__" = some (some (.builtin "getset_descriptor.__get__"))) (qo_tk : PySem.W.takesIn K (.builtin "object.__class__") = some true) (qo_ob : PySem.W.mroIn K C (.type "object") = some true)
    (qf_text : PySem.W.findIn K (.ref C) "text" = some none)
    (qf_inside : PySem.W.findIn K (.ref C) "inside" = some none)
    (qf_first : PySem.W.findIn K (.ref C) "first" = some none)
    (qf_second : PySem.W.findIn K (.ref C) "second" = some none)
    (qf_none : PySem.W.findIn K (.ref C) "none" = some none)
    (nDE : PySem.W.nsIn K mainGlobals "DriftError" = some (some (.ref CS))) {ocD kVD dcD pmD cdD ctD : Value} {odD anD : Option Addr} {slD : Array (Option Value)} (iDE : PySem.W.findIn K (.ref CS) "__init__" = some (some (.ref gI)))
    (lDE : K.lookup gI = some ⟨ocD, odD, .func (PySem.W.fnOf "__init__" "DriftError.__init__" (defArgs s_DriftError_init) (defBody s_DriftError_init) (defScope s_DriftError_init) .none kVD dcD pmD anD cdD ctD), slD⟩) (cDE : PySem.W.codeIn K cdD "DriftError.__init__" = true) (kDE : PySem.W.keepIn K (.ref gI) = true)
    (nBorder : PySem.W.nsIn K mainGlobals "Border" = some (some (.ref CB))) (eBorder : ErrC K CB CS gI)
    (t__law_is_told_right : TabAt qq K "_law_is_told_right" cT PT) :
    ∃ (fd : FuncData) (cs : List (Str × Addr × Addr)) (TT : List (Addr × Str)), (∀ p ∈ cs, TabAt qq K p.1 p.2.1 p.2.2) ∧ (∀ p ∈ TT, p.1 ∈ cs.map (·.2.2)) ∧ (∀ p ∈ TT, ∀ r ∈ TT, p.1 = r.1 → p.2 = r.2) ∧ (∀ (s : Shared) (v : Value), BindsTo s fd ⟨[v], []⟩ [("script", v)]) ∧ ∀ base : Heap, K.In base → base.Ns mainGlobals mg → (∀ p ∈ cs, LamX.TabB base mg p.2.1 p.2.2) → FnOk l.prog w K mg base CX0 15 fa fd ["script"] (spM K (S_lawT TT)) := by
  have T : Txt K mg C := ⟨PySem.W.mg_none_of X G qz_isinstance, PySem.W.mg_none_of X G qz_int, PySem.W.mg_none_of X G qz_str, PySem.W.mg_none_of X G qz_tuple, PySem.W.mg_none_of X G qz_bool, PySem.W.mg_none_of X G qz_len, PySem.W.mg_none_of X G qz_enumerate, PySem.W.mg_none_of X G qz_range, PySem.W.mg_none_of X G qz_list, PySem.W.mg_none_of X G qz_sum, PySem.W.mg_none_of X G qz_min, PySem.W.mg_none_of X G qz_max, PySem.W.mg_none_of X G qz_abs, PySem.W.mg_none_of X G qz_all, PySem.W.mg_none_of X G qz_zip, PySem.W.mg_none_of X G qz_dict, PySem.W.mg_of X G q_gcd, glob_t2 (PySem.W.mg_of X G qg_ZERO) ql_ZERO, glob_t2 (PySem.W.mg_of X G qg_ONE) ql_ONE, glob_t4 (PySem.W.mg_of X G qg_REGIONS) ql_REGIONS, globD_int (PySem.W.mg_of X G qg_MOST_STEPS), PySem.W.mg_of X G aC, ⟨pg, hd, po, sa⟩, ⟨⟨pg, hd, po, sa⟩, qo_ha, qo_hn, qo_tk, qo_ob⟩, qf_text, qf_inside, qf_first, qf_second, qf_none⟩
  obtain ⟨x_is_integer, fd_is_integer, F_is_integer, n_is_integer⟩ := a_is_integer.ex
  have m_is_integer := PySem.W.mg_of X G n_is_integer
  have b_is_integer := F_is_integer.binds (ps := ["value"]) fun _ _ _ _ _ _ us hl => match us, hl with | [_], _ => rfl
  obtain ⟨x_lowest, fd_lowest, F_lowest, n_lowest⟩ := a_lowest.ex
  have m_lowest := PySem.W.mg_of X G n_lowest
  have b_lowest := F_lowest.binds (ps := ["top", "bottom"]) fun _ _ _ _ _ _ us hl => match us, hl with | [_, _], _ => rfl
  obtain ⟨x_added, fd_added, F_added, n_added⟩ := a_added.ex
  have m_added := PySem.W.mg_of X G n_added
  have b_added := F_added.binds (ps := ["one", "other"]) fun _ _ _ _ _ _ us hl => match us, hl with | [_, _], _ => rfl
  obtain ⟨x_sum_of, fd_sum_of, F_sum_of, n_sum_of⟩ := a_sum_of.ex
  have m_sum_of := PySem.W.mg_of X G n_sum_of
  have b_sum_of := F_sum_of.binds (ps := ["fractions"]) fun _ _ _ _ _ _ us hl => match us, hl with | [_], _ => rfl
  obtain ⟨x_is_fraction, fd_is_fraction, F_is_fraction, n_is_fraction⟩ := a_is_fraction.ex
  have m_is_fraction := PySem.W.mg_of X G n_is_fraction
  have b_is_fraction := F_is_fraction.binds (ps := ["value"]) fun _ _ _ _ _ _ us hl => match us, hl with | [_], _ => rfl
  obtain ⟨x_read_integer, fd_read_integer, F_read_integer, n_read_integer⟩ := a_read_integer.ex
  have m_read_integer := PySem.W.mg_of X G n_read_integer
  have b_read_integer := F_read_integer.binds (ps := ["word"]) fun _ _ _ _ _ _ us hl => match us, hl with | [_], _ => rfl
  obtain ⟨x_read_fraction, fd_read_fraction, F_read_fraction, n_read_fraction⟩ := a_read_fraction.ex
  have m_read_fraction := PySem.W.mg_of X G n_read_fraction
  have b_read_fraction := F_read_fraction.binds (ps := ["word"]) fun _ _ _ _ _ _ us hl => match us, hl with | [_], _ => rfl
  obtain ⟨x_may_step, fd_may_step, F_may_step, n_may_step⟩ := a_may_step.ex
  have m_may_step := PySem.W.mg_of X G n_may_step
  have b_may_step := F_may_step.binds (ps := ["region", "i", "j"]) fun _ _ _ _ _ _ us hl => match us, hl with | [_, _, _], _ => rfl
  obtain ⟨x_find_chance, fd_find_chance, F_find_chance, n_find_chance⟩ := a_find_chance.ex
  have m_find_chance := PySem.W.mg_of X G n_find_chance
  have b_find_chance := F_find_chance.binds (ps := ["steps", "i", "j"]) fun _ _ _ _ _ _ us hl => match us, hl with | [_, _, _], _ => rfl
  obtain ⟨x_read_step, fd_read_step, F_read_step, n_read_step⟩ := a_read_step.ex
  have m_read_step := PySem.W.mg_of X G n_read_step
  have b_read_step := F_read_step.binds (ps := ["line", "number", "region", "ahead"]) fun _ _ _ _ _ _ us hl => match us, hl with | [_, _, _, _], _ => rfl
  obtain ⟨x_check_chances, fd_check_chances, F_check_chances, n_check_chances⟩ := a_check_chances.ex
  have m_check_chances := PySem.W.mg_of X G n_check_chances
  have b_check_chances := F_check_chances.binds (ps := ["found", "last_lines", "many_lines"]) fun _ _ _ _ _ _ us hl => match us, hl with | [_, _, _], _ => rfl
  obtain ⟨x_read_regions, fd_read_regions, F_read_regions, n_read_regions⟩ := a_read_regions.ex
  have m_read_regions := PySem.W.mg_of X G n_read_regions
  have b_read_regions := F_read_regions.binds (ps := ["lines"]) fun _ _ _ _ _ _ us hl => match us, hl with | [_], _ => rfl
  obtain ⟨x__law_pot, fd__law_pot, F__law_pot, n__law_pot⟩ := a__law_pot.ex
  have m__law_pot := PySem.W.mg_of X G n__law_pot
  have b__law_pot := F__law_pot.binds (ps := ["script", "place"]) fun _ _ _ _ _ _ us hl => match us, hl with | [_, _], _ => rfl
  obtain ⟨x__law_take, fd__law_take, F__law_take, n__law_take⟩ := a__law_take.ex
  have m__law_take := PySem.W.mg_of X G n__law_take
  have b__law_take := F__law_take.binds (ps := ["pot", "upto"]) fun _ _ _ _ _ _ us hl => match us, hl with | [_, _], _ => rfl
  obtain ⟨x__law_of, fd__law_of, F__law_of, n__law_of⟩ := a__law_of.ex
  have m__law_of := PySem.W.mg_of X G n__law_of
  have b__law_of := F__law_of.binds (ps := ["pot", "some"]) fun _ _ _ _ _ _ us hl => match us, hl with | [_, _], _ => rfl
  obtain ⟨x__law_some, fd__law_some, F__law_some, n__law_some⟩ := a__law_some.ex
  have m__law_some := PySem.W.mg_of X G n__law_some
  have b__law_some := F__law_some.binds (ps := ["pot", "pool", "many"]) fun _ _ _ _ _ _ us hl => match us, hl with | [_, _, _], _ => rfl
  obtain ⟨x__law_cells, fd__law_cells, F__law_cells, n__law_cells⟩ := a__law_cells.ex
  have m__law_cells := PySem.W.mg_of X G n__law_cells
  have b__law_cells := F__law_cells.binds (ps := ["script", "most"]) fun _ _ _ _ _ _ us hl => match us, hl with | [_, _], _ => rfl
  obtain ⟨x__law_frac_common, fd__law_frac_common, F__law_frac_common, n__law_frac_common⟩ := a__law_frac_common.ex
  have m__law_frac_common := PySem.W.mg_of X G n__law_frac_common
  have b__law_frac_common := F__law_frac_common.binds (ps := ["one", "other"]) fun _ _ _ _ _ _ us hl => match us, hl with | [_, _], _ => rfl
  obtain ⟨x__law_frac, fd__law_frac, F__law_frac, n__law_frac⟩ := a__law_frac.ex
  have m__law_frac := PySem.W.mg_of X G n__law_frac
  have b__law_frac := F__law_frac.binds (ps := ["top", "bottom"]) fun _ _ _ _ _ _ us hl => match us, hl with | [_, _], _ => rfl
  obtain ⟨x__law_frac_plus, fd__law_frac_plus, F__law_frac_plus, n__law_frac_plus⟩ := a__law_frac_plus.ex
  have m__law_frac_plus := PySem.W.mg_of X G n__law_frac_plus
  have b__law_frac_plus := F__law_frac_plus.binds (ps := ["one", "other"]) fun _ _ _ _ _ _ us hl => match us, hl with | [_, _], _ => rfl
  obtain ⟨x__law_frac_sum, fd__law_frac_sum, F__law_frac_sum, n__law_frac_sum⟩ := a__law_frac_sum.ex
  have m__law_frac_sum := PySem.W.mg_of X G n__law_frac_sum
  have b__law_frac_sum := F__law_frac_sum.binds (ps := ["some"]) fun _ _ _ _ _ _ us hl => match us, hl with | [_], _ => rfl
  obtain ⟨x__law_frac_text, fd__law_frac_text, F__law_frac_text, n__law_frac_text⟩ := a__law_frac_text.ex
  have m__law_frac_text := PySem.W.mg_of X G n__law_frac_text
  have b__law_frac_text := F__law_frac_text.binds (ps := ["one"]) fun _ _ _ _ _ _ us hl => match us, hl with | [_], _ => rfl
  obtain ⟨x__law_book_regions, fd__law_book_regions, F__law_book_regions, n__law_book_regions⟩ := a__law_book_regions.ex
  have m__law_book_regions := PySem.W.mg_of X G n__law_book_regions
  have b__law_book_regions := F__law_book_regions.binds (ps := []) fun _ _ _ _ _ _ us hl => match us, hl with | [], _ => rfl
  obtain ⟨x__law_book_text, fd__law_book_text, F__law_book_text, n__law_book_text⟩ := a__law_book_text.ex
  have m__law_book_text := PySem.W.mg_of X G n__law_book_text
  have b__law_book_text := F__law_book_text.binds (ps := ["own"]) fun _ _ _ _ _ _ us hl => match us, hl with | [_], _ => rfl
  obtain ⟨x__law_book_rows_drawn, fd__law_book_rows_drawn, F__law_book_rows_drawn, n__law_book_rows_drawn⟩ := a__law_book_rows_drawn.ex
  have m__law_book_rows_drawn := PySem.W.mg_of X G n__law_book_rows_drawn
  have b__law_book_rows_drawn := F__law_book_rows_drawn.binds (ps := ["pot", "region", "most", "lean"]) fun _ _ _ _ _ _ us hl => match us, hl with | [_, _, _, _], _ => rfl
  obtain ⟨x__law_book_drawn, fd__law_book_drawn, F__law_book_drawn, n__law_book_drawn⟩ := a__law_book_drawn.ex
  have m__law_book_drawn := PySem.W.mg_of X G n__law_book_drawn
  have b__law_book_drawn := F__law_book_drawn.binds (ps := ["pot", "most"]) fun _ _ _ _ _ _ us hl => match us, hl with | [_, _], _ => rfl
  obtain ⟨x_less, fd_less, F_less, n_less⟩ := a_less.ex
  have m_less := PySem.W.mg_of X G n_less
  have b_less := F_less.binds (ps := ["one", "other"]) fun _ _ _ _ _ _ us hl => match us, hl with | [_, _], _ => rfl
  obtain ⟨x_times, fd_times, F_times, n_times⟩ := a_times.ex
  have m_times := PySem.W.mg_of X G n_times
  have b_times := F_times.binds (ps := ["one", "other"]) fun _ _ _ _ _ _ us hl => match us, hl with | [_, _], _ => rfl
  obtain ⟨x_mean_of, fd_mean_of, F_mean_of, n_mean_of⟩ := a_mean_of.ex
  have m_mean_of := PySem.W.mg_of X G n_mean_of
  have b_mean_of := F_mean_of.binds (ps := ["outcomes"]) fun _ _ _ _ _ _ us hl => match us, hl with | [_], _ => rfl
  obtain ⟨x_drift_of, fd_drift_of, F_drift_of, n_drift_of⟩ := a_drift_of.ex
  have m_drift_of := PySem.W.mg_of X G n_drift_of
  have b_drift_of := F_drift_of.binds (ps := ["steps"]) fun _ _ _ _ _ _ us hl => match us, hl with | [_], _ => rfl
  obtain ⟨x_drifts_of, fd_drifts_of, F_drifts_of, n_drifts_of⟩ := a_drifts_of.ex
  have m_drifts_of := PySem.W.mg_of X G n_drifts_of
  have b_drifts_of := F_drifts_of.binds (ps := ["book"]) fun _ _ _ _ _ _ us hl => match us, hl with | [_], _ => rfl
  obtain ⟨x_turns_by, fd_turns_by, F_turns_by, n_turns_by⟩ := a_turns_by.ex
  have m_turns_by := PySem.W.mg_of X G n_turns_by
  have b_turns_by := F_turns_by.binds (ps := ["drifts"]) fun _ _ _ _ _ _ us hl => match us, hl with | [_], _ => rfl
  obtain ⟨x_sides_by, fd_sides_by, F_sides_by, n_sides_by⟩ := a_sides_by.ex
  have m_sides_by := PySem.W.mg_of X G n_sides_by
  have b_sides_by := F_sides_by.binds (ps := ["drifts"]) fun _ _ _ _ _ _ us hl => match us, hl with | [_], _ => rfl
  obtain ⟨x_border_by, fd_border_by, F_border_by, n_border_by⟩ := a_border_by.ex
  have m_border_by := PySem.W.mg_of X G n_border_by
  have b_border_by := F_border_by.binds (ps := ["drifts"]) fun _ _ _ _ _ _ us hl => match us, hl with | [_], _ => rfl
  obtain ⟨x_border, fd_border, F_border, n_border⟩ := a_border.ex
  have m_border := PySem.W.mg_of X G n_border
  have b_border := F_border.binds (ps := ["book"]) fun _ _ _ _ _ _ us hl => match us, hl with | [_], _ => rfl
  obtain ⟨x__law_frac_less, fd__law_frac_less, F__law_frac_less, n__law_frac_less⟩ := a__law_frac_less.ex
  have m__law_frac_less := PySem.W.mg_of X G n__law_frac_less
  have b__law_frac_less := F__law_frac_less.binds (ps := ["one", "other"]) fun _ _ _ _ _ _ us hl => match us, hl with | [_, _], _ => rfl
  obtain ⟨x__law_frac_times, fd__law_frac_times, F__law_frac_times, n__law_frac_times⟩ := a__law_frac_times.ex
  have m__law_frac_times := PySem.W.mg_of X G n__law_frac_times
  have b__law_frac_times := F__law_frac_times.binds (ps := ["one", "other"]) fun _ _ _ _ _ _ us hl => match us, hl with | [_, _], _ => rfl
  obtain ⟨x__law_book_drift, fd__law_book_drift, F__law_book_drift, n__law_book_drift⟩ := a__law_book_drift.ex
  have m__law_book_drift := PySem.W.mg_of X G n__law_book_drift
  have b__law_book_drift := F__law_book_drift.binds (ps := ["own", "region"]) fun _ _ _ _ _ _ us hl => match us, hl with | [_, _], _ => rfl
  obtain ⟨x__law_book_turns, fd__law_book_turns, F__law_book_turns, n__law_book_turns⟩ := a__law_book_turns.ex
  have m__law_book_turns := PySem.W.mg_of X G n__law_book_turns
  have b__law_book_turns := F__law_book_turns.binds (ps := ["own"]) fun _ _ _ _ _ _ us hl => match us, hl with | [_], _ => rfl
  obtain ⟨x__law_same, fd__law_same, F__law_same, n__law_same⟩ := a__law_same.ex
  have m__law_same := PySem.W.mg_of X G n__law_same
  have b__law_same := F__law_same.binds (ps := ["one", "other"]) fun _ _ _ _ _ _ us hl => match us, hl with | [_, _], _ => rfl
  obtain ⟨x__law_book_sides, fd__law_book_sides, F__law_book_sides, n__law_book_sides⟩ := a__law_book_sides.ex
  have m__law_book_sides := PySem.W.mg_of X G n__law_book_sides
  have b__law_book_sides := F__law_book_sides.binds (ps := ["own"]) fun _ _ _ _ _ _ us hl => match us, hl with | [_], _ => rfl
  obtain ⟨x__law_book_border, fd__law_book_border, F__law_book_border, n__law_book_border⟩ := a__law_book_border.ex
  have m__law_book_border := PySem.W.mg_of X G n__law_book_border
  have b__law_book_border := F__law_book_border.binds (ps := ["own"]) fun _ _ _ _ _ _ us hl => match us, hl with | [_], _ => rfl
  obtain ⟨x__law_frac_over, fd__law_frac_over, F__law_frac_over, n__law_frac_over⟩ := a__law_frac_over.ex
  have m__law_frac_over := PySem.W.mg_of X G n__law_frac_over
  have b__law_frac_over := F__law_frac_over.binds (ps := ["one", "other"]) fun _ _ _ _ _ _ us hl => match us, hl with | [_, _], _ => rfl
  obtain ⟨x__law_turned_flat, fd__law_turned_flat, F__law_turned_flat, n__law_turned_flat⟩ := a__law_turned_flat.ex
  have m__law_turned_flat := PySem.W.mg_of X G n__law_turned_flat
  have b__law_turned_flat := F__law_turned_flat.binds (ps := ["own", "side"]) fun _ _ _ _ _ _ us hl => match us, hl with | [_, _], _ => rfl
  obtain ⟨x__law_border_drawn, fd__law_border_drawn, F__law_border_drawn, n__law_border_drawn⟩ := a__law_border_drawn.ex
  have m__law_border_drawn := PySem.W.mg_of X G n__law_border_drawn
  have b__law_border_drawn := F__law_border_drawn.binds (ps := ["pot"]) fun _ _ _ _ _ _ us hl => match us, hl with | [_], _ => rfl
  obtain ⟨x__law_heard, fd__law_heard, F__law_heard, n__law_heard⟩ := a__law_heard.ex
  have m__law_heard := PySem.W.mg_of X G n__law_heard
  have b__law_heard := F__law_heard.binds (ps := ["call"]) fun _ _ _ _ _ _ us hl => match us, hl with | [_], _ => rfl
  obtain ⟨x_rising_by, fd_rising_by, F_rising_by, n_rising_by⟩ := a_rising_by.ex
  have m_rising_by := PySem.W.mg_of X G n_rising_by
  have b_rising_by := F_rising_by.binds (ps := ["drifts"]) fun _ _ _ _ _ _ us hl => match us, hl with | [_], _ => rfl
  obtain ⟨x_told_by, fd_told_by, F_told_by, n_told_by⟩ := a_told_by.ex
  have m_told_by := PySem.W.mg_of X G n_told_by
  have b_told_by := F_told_by.binds (ps := ["drifts"]) fun _ _ _ _ _ _ us hl => match us, hl with | [_], _ => rfl
  obtain ⟨x__law_book_is_home, fd__law_book_is_home, F__law_book_is_home, n__law_book_is_home⟩ := a__law_book_is_home.ex
  have m__law_book_is_home := PySem.W.mg_of X G n__law_book_is_home
  have b__law_book_is_home := F__law_book_is_home.binds (ps := ["own"]) fun _ _ _ _ _ _ us hl => match us, hl with | [_], _ => rfl
  obtain ⟨x__law_book_by_hand, fd__law_book_by_hand, F__law_book_by_hand, n__law_book_by_hand⟩ := a__law_book_by_hand.ex
  have m__law_book_by_hand := PySem.W.mg_of X G n__law_book_by_hand
  have b__law_book_by_hand := F__law_book_by_hand.binds (ps := ["is_home"]) fun _ _ _ _ _ _ us hl => match us, hl with | [_], _ => rfl
  obtain ⟨x__law_book_exchanged, fd__law_book_exchanged, F__law_book_exchanged, n__law_book_exchanged⟩ := a__law_book_exchanged.ex
  have m__law_book_exchanged := PySem.W.mg_of X G n__law_book_exchanged
  have b__law_book_exchanged := F__law_book_exchanged.binds (ps := ["own"]) fun _ _ _ _ _ _ us hl => match us, hl with | [_], _ => rfl
  obtain ⟨x__law_book_plain, fd__law_book_plain, F__law_book_plain, n__law_book_plain⟩ := a__law_book_plain.ex
  have m__law_book_plain := PySem.W.mg_of X G n__law_book_plain
  have b__law_book_plain := F__law_book_plain.binds (ps := ["pot"]) fun _ _ _ _ _ _ us hl => match us, hl with | [_], _ => rfl
  obtain ⟨x_check_plain, fd_check_plain, F_check_plain, n_check_plain⟩ := a_check_plain.ex
  have m_check_plain := PySem.W.mg_of X G n_check_plain
  have b_check_plain := F_check_plain.binds (ps := ["book"]) fun _ _ _ _ _ _ us hl => match us, hl with | [_], _ => rfl
  obtain ⟨x_asked, fd_asked, F_asked, n_asked⟩ := a_asked.ex
  have m_asked := PySem.W.mg_of X G n_asked
  have b_asked := F_asked.binds (ps := ["book"]) fun _ _ _ _ _ _ us hl => match us, hl with | [_], _ => rfl
  obtain ⟨x_does_come_home, fd_does_come_home, F_does_come_home, n_does_come_home⟩ := a_does_come_home.ex
  have m_does_come_home := PySem.W.mg_of X G n_does_come_home
  have b_does_come_home := F_does_come_home.binds (ps := ["book"]) fun _ _ _ _ _ _ us hl => match us, hl with | [_], _ => rfl
  obtain ⟨x__law_book_of_kind, fd__law_book_of_kind, F__law_book_of_kind, n__law_book_of_kind⟩ := a__law_book_of_kind.ex
  have m__law_book_of_kind := PySem.W.mg_of X G n__law_book_of_kind
  have b__law_book_of_kind := F__law_book_of_kind.binds (ps := ["pot", "is_home"]) fun _ _ _ _ _ _ us hl => match us, hl with | [_, _], _ => rfl
  obtain ⟨x__law_is_told_right, fd__law_is_told_right, F__law_is_told_right, n__law_is_told_right⟩ := a__law_is_told_right.ex
  have m__law_is_told_right := PySem.W.mg_of X G n__law_is_told_right
  have b__law_is_told_right := F__law_is_told_right.binds (ps := ["own"]) fun _ _ _ _ _ _ us hl => match us, hl with | [_], _ => rfl
  obtain ⟨x__law_right, fd__law_right, F__law_right, n__law_right⟩ := a__law_right.ex
  have m__law_right := PySem.W.mg_of X G n__law_right
  have b__law_right := F__law_right.binds (ps := ["pot"]) fun _ _ _ _ _ _ us hl => match us, hl with | [_], _ => rfl
  obtain ⟨x_law, fd_law, F_law, n_law⟩ := a_law.ex
  have m_law := PySem.W.mg_of X G n_law
  have F_I := fun_mk (st := s_Book_init) lI cI kI
  have F_D := fun_mk (st := s_DriftError_init) lDE cDE kDE
  have b_D := F_D.binds (ps := ["self", "value"]) fun _ _ _ _ _ _ us hl => match us, hl with | [_, _], _ => rfl
  have m_DriftError := PySem.W.mg_of X G nDE
  have E_Border : ErrT K mg CS gI "Border" CB := ⟨PySem.W.mg_of X G nBorder, eBorder⟩
  have cd__law_is_told_right : fd__law_is_told_right.code = .ref cT := by
    obtain ⟨_, _, _, _, _, _, _, _, _, _, lk, _⟩ := F__law_is_told_right.ex
    exact code_of t__law_is_told_right.at_ n__law_is_told_right lk
  have b_I := F_I.binds (ps := ["self", "text"]) fun _ _ _ _ _ _ us hl => match us, hl with | [_, _], _ => rfl
  have kb_asked_0 := kb_mk (ps := ["book"]) (ks := ["book"]) F_asked fun _ _ _ _ _ _ us ws hl => match us, ws, hl with
    | [], [_], _ => rfl
    | [_], [], _ => rfl
  have e := hfa.symm.trans m_law
  cases e
  refine ⟨fd_law, [(("_law_is_told_right" : Str), cT, PT)], [(PT, lamQ)], ?_, ?_, ?_, fun s v => ?_, fun base hK hN hTB => ?_⟩
  · intro p hp
    simp only [List.mem_cons, List.not_mem_nil, or_false] at hp
    rcases hp with rfl
    · exact t__law_is_told_right
  · intro p hp
    simp only [List.mem_cons, List.not_mem_nil, or_false] at hp
    rcases hp with rfl
    all_goals simp
  · intro p hp r hr e
    simp only [List.mem_cons, List.not_mem_nil, or_false] at hp hr
    rw [hp, hr]
  · obtain ⟨oc, od, kV, doc, pm, an, cdv, ct, osl, rfl, lk, hcd⟩ := F_law.ex
    exact .of_eq rfl
  have M0 : (("_law_is_told_right" : Str), cT, PT) ∈ ([(("_law_is_told_right" : Str), cT, PT)] : List (Str × Addr × Addr)) := by simp
  have D_is_integer_0 := d_is_integer (P := l.prog) (w := w) (base := base) T F_is_integer m_is_integer b_is_integer
  have D_lowest_1 := d_lowest (P := l.prog) (w := w) (base := base) T F_lowest m_lowest b_lowest
  have D_added_2 := d_added (P := l.prog) (w := w) (base := base) T D_lowest_1 F_added m_added b_added
  have D_sum_of_3 := d_sum_of (P := l.prog) (w := w) (base := base) T D_added_2 F_sum_of m_sum_of b_sum_of
  have D_is_fraction_4 := d_is_fraction (P := l.prog) (w := w) (base := base) T D_is_integer_0 F_is_fraction m_is_fraction b_is_fraction
  have D_read_integer_5 := d_read_integer (P := l.prog) (w := w) (base := base) T F_read_integer m_read_integer b_read_integer
  have D_read_fraction_6 := d_read_fraction (P := l.prog) (w := w) (base := base) T D_read_integer_5 D_is_fraction_4 F_read_fraction m_read_fraction b_read_fraction
  have D_may_step_7 := d_may_step (P := l.prog) (w := w) (base := base) T D_is_integer_0 F_may_step m_may_step b_may_step
  have D_find_chance_8 := d_find_chance (P := l.prog) (w := w) (base := base) T F_find_chance m_find_chance b_find_chance
  have D_read_step_9 := d_read_step (P := l.prog) (w := w) (base := base) T D_read_integer_5 D_read_fraction_6 D_may_step_7 D_find_chance_8 F_read_step m_read_step b_read_step
  have D_check_chances_10 := d_check_chances (P := l.prog) (w := w) (base := base) T D_sum_of_3 F_check_chances m_check_chances b_check_chances
  have D_read_regions_11 := d_read_regions (P := l.prog) (w := w) (base := base) T D_read_step_9 D_check_chances_10 F_read_regions m_read_regions b_read_regions
  have FOI := f_Book_init (P := l.prog) (w := w) (base := base) T D_read_regions_11 F_I
  have D__law_pot_12 := d__law_pot (P := l.prog) (w := w) (base := base) T F__law_pot m__law_pot b__law_pot
  have D__law_take_13 := d__law_take (P := l.prog) (w := w) (base := base) T F__law_take m__law_take b__law_take
  have D__law_of_14 := d__law_of (P := l.prog) (w := w) (base := base) T D__law_take_13 F__law_of m__law_of b__law_of
  have D__law_some_15 := d__law_some (P := l.prog) (w := w) (base := base) T D__law_take_13 F__law_some m__law_some b__law_some
  have D__law_cells_16 := d__law_cells (P := l.prog) (w := w) (base := base) T F__law_cells m__law_cells b__law_cells
  have D__law_frac_common_17 := d__law_frac_common (P := l.prog) (w := w) (base := base) T F__law_frac_common m__law_frac_common b__law_frac_common
  have D__law_frac_18 := d__law_frac (P := l.prog) (w := w) (base := base) T D__law_frac_common_17 F__law_frac m__law_frac b__law_frac
  have D__law_frac_plus_19 := d__law_frac_plus (P := l.prog) (w := w) (base := base) T D__law_frac_18 F__law_frac_plus m__law_frac_plus b__law_frac_plus
  have D__law_frac_sum_20 := d__law_frac_sum (P := l.prog) (w := w) (base := base) T D__law_frac_plus_19 F__law_frac_sum m__law_frac_sum b__law_frac_sum
  have D__law_frac_text_21 := d__law_frac_text (P := l.prog) (w := w) (base := base) T F__law_frac_text m__law_frac_text b__law_frac_text
  have D__law_book_regions_22 := d__law_book_regions (P := l.prog) (w := w) (base := base) T F__law_book_regions m__law_book_regions b__law_book_regions
  have D__law_book_text_23 := d__law_book_text (P := l.prog) (w := w) (base := base) T D__law_book_regions_22 D__law_frac_text_21 F__law_book_text m__law_book_text b__law_book_text
  have D__law_book_rows_drawn_24 := d__law_book_rows_drawn (P := l.prog) (w := w) (base := base) T D__law_take_13 D__law_some_15 D__law_frac_18 F__law_book_rows_drawn m__law_book_rows_drawn b__law_book_rows_drawn
  have D__law_book_drawn_25 := d__law_book_drawn (P := l.prog) (w := w) (base := base) T D__law_of_14 D__law_book_regions_22 D__law_book_rows_drawn_24 F__law_book_drawn m__law_book_drawn b__law_book_drawn
  have D_less_26 := d_less (P := l.prog) (w := w) (base := base) T D_lowest_1 F_less m_less b_less
  have D_times_27 := d_times (P := l.prog) (w := w) (base := base) T D_lowest_1 F_times m_times b_times
  have D_mean_of_28 := d_mean_of (P := l.prog) (w := w) (base := base) T D_times_27 D_sum_of_3 F_mean_of m_mean_of b_mean_of
  have D_drift_of_29 := d_drift_of (P := l.prog) (w := w) (base := base) T D_mean_of_28 F_drift_of m_drift_of b_drift_of
  have D_drifts_of_30 := d_drifts_of (P := l.prog) (w := w) (base := base) T D_drift_of_29 F_drifts_of m_drifts_of b_drifts_of
  have D_turns_by_31 := d_turns_by (P := l.prog) (w := w) (base := base) T D_times_27 D_less_26 F_turns_by m_turns_by b_turns_by
  have D_sides_by_32 := d_sides_by (P := l.prog) (w := w) (base := base) T F_sides_by m_sides_by b_sides_by
  have D_border_by_33 := d_border_by (P := l.prog) (w := w) (base := base) T D_turns_by_31 D_sides_by_32 F_border_by m_border_by b_border_by
  have D_border_34 := d_border (P := l.prog) (w := w) (base := base) T D_drifts_of_30 D_border_by_33 F_border m_border b_border
  have D__law_frac_less_35 := d__law_frac_less (P := l.prog) (w := w) (base := base) T D__law_frac_18 F__law_frac_less m__law_frac_less b__law_frac_less
  have D__law_frac_times_36 := d__law_frac_times (P := l.prog) (w := w) (base := base) T D__law_frac_18 F__law_frac_times m__law_frac_times b__law_frac_times
  have D__law_book_drift_37 := d__law_book_drift (P := l.prog) (w := w) (base := base) T D__law_frac_times_36 D__law_frac_sum_20 F__law_book_drift m__law_book_drift b__law_book_drift
  have D__law_book_turns_38 := d__law_book_turns (P := l.prog) (w := w) (base := base) T D__law_book_drift_37 D__law_frac_times_36 D__law_frac_less_35 F__law_book_turns m__law_book_turns b__law_book_turns
  have D__law_same_39 := d__law_same (P := l.prog) (w := w) (base := base) T F__law_same m__law_same b__law_same
  have D__law_book_sides_40 := d__law_book_sides (P := l.prog) (w := w) (base := base) T D__law_book_drift_37 F__law_book_sides m__law_book_sides b__law_book_sides
  have D__law_book_border_41 := d__law_book_border (P := l.prog) (w := w) (base := base) T D__law_book_drift_37 D__law_book_turns_38 D__law_book_sides_40 F__law_book_border m__law_book_border b__law_book_border
  have D__law_frac_42 := d__law_fracG (P := l.prog) (w := w) (base := base) T D__law_frac_common_17 F__law_frac m__law_frac b__law_frac
  have D__law_frac_over_43 := d__law_frac_over (P := l.prog) (w := w) (base := base) T D__law_frac_42 F__law_frac_over m__law_frac_over b__law_frac_over
  have D__law_turned_flat_44 := d__law_turned_flat (P := l.prog) (w := w) (base := base) T D__law_book_drift_37 D__law_frac_over_43 D__law_frac_plus_19 D__law_frac_times_36 F__law_turned_flat m__law_turned_flat b__law_turned_flat
  have D__law_border_drawn_45 := d__law_border_drawn (P := l.prog) (w := w) (base := base) T D__law_take_13 D__law_book_drawn_25 D__law_turned_flat_44 F__law_border_drawn m__law_border_drawn b__law_border_drawn
  have HDD := hd__law_heard (P := l.prog) (w := w) (base := base) F__law_heard m__law_heard b__law_heard m_DriftError
  have D_rising_by_46 := d_rising_by (P := l.prog) (w := w) (base := base) T D_sides_by_32 D_turns_by_31 F_rising_by m_rising_by b_rising_by
  have D_told_by_47 := d_told_by (P := l.prog) (w := w) (base := base) T D_border_by_33 D_sides_by_32 D_rising_by_46 F_told_by m_told_by b_told_by
  have D__law_book_is_home_48 := d__law_book_is_home (P := l.prog) (w := w) (base := base) T D__law_book_drift_37 D__law_book_turns_38 D__law_book_sides_40 F__law_book_is_home m__law_book_is_home b__law_book_is_home
  have D__law_book_by_hand_49 := d__law_book_by_hand (P := l.prog) (w := w) (base := base) T F__law_book_by_hand m__law_book_by_hand b__law_book_by_hand
  have D__law_book_exchanged_50 := d__law_book_exchanged (P := l.prog) (w := w) (base := base) T D__law_book_regions_22 F__law_book_exchanged m__law_book_exchanged b__law_book_exchanged
  have D__law_book_plain_51 := d__law_book_plain (P := l.prog) (w := w) (base := base) T D__law_take_13 D__law_book_drawn_25 D__law_book_border_41 D__law_book_by_hand_49 F__law_book_plain m__law_book_plain b__law_book_plain
  have FOD := f_DriftError_init (P := l.prog) (w := w) (base := base) (mg := mg) F_D
  have X_check_plain_52 := dx_check_plain (P := l.prog) (w := w) (base := base) T D_border_34 E_Border FOD b_D F_check_plain m_check_plain b_check_plain
  have FX_asked := dx_asked (P := l.prog) (w := w) (base := base) T X_check_plain_52 D_sides_by_32 D_drifts_of_30 F_asked
  have X_asked_53 : DefX l.prog w K mg base "asked" 10 (S_askedX C CB) := ⟨_, _, _, FX_asked, m_asked, F_asked.kp, b_asked⟩
  have FX_does_come_home := dx_does_come_home (P := l.prog) (w := w) (base := base) T X_check_plain_52 D_told_by_47 D_drifts_of_30 F_does_come_home
  have X_does_come_home_54 : DefX l.prog w K mg base "does_come_home" 10 (S_doesX C CB) := ⟨_, _, _, FX_does_come_home, m_does_come_home, F_does_come_home.kp, b_does_come_home⟩
  have D__law_book_of_kind_55 := d__law_book_of_kind (P := l.prog) (w := w) (base := base) T D__law_take_13 D__law_book_drawn_25 D__law_book_border_41 D__law_book_is_home_48 D__law_book_by_hand_49 D__law_book_exchanged_50 F__law_book_of_kind m__law_book_of_kind b__law_book_of_kind
  have D__law_is_told_right_56 := d__law_is_told_right (P := l.prog) (w := w) (base := base) T E_Border HDD D__law_book_text_23 D__law_book_border_41 D__law_book_sides_40 D__law_book_is_home_48 D__law_same_39 ⟨_, _, _, FX_asked, m_asked, F_asked.kp, kb_asked_0⟩ X_does_come_home_54 ⟨mk, aI, iI, kc⟩ FOI b_I (hTB _ M0) F__law_is_told_right cd__law_is_told_right m__law_is_told_right b__law_is_told_right
  have D__law_right_57 := d__law_right (P := l.prog) (w := w) (base := base) T D__law_book_plain_51 D__law_book_of_kind_55 D__law_border_drawn_45 D__law_is_told_right_56 F__law_right m__law_right b__law_right
  exact f_law T D__law_pot_12 D__law_cells_16 D__law_right_57 F_law
end B

open PySem PySem.W PyProof.Rows in
set_option maxRecDepth 100000 in
set_option maxHeartbeats 0 in
theorem PySem.Challenge.cw_cornerdrifts_k06_whole_home_exactly_by_s_holds : PySem.Challenge.rw_cornerdrifts_k06_whole_home_exactly_by_s.Holds := by
  w_on; o_law; k_head; (case hw => w_witness2)
  k_fill
  refine A.walkT (l := PySem.Challenge.rw_cornerdrifts_k06_whole_home_exactly_by_s) (k := 15) rfl rfl ⟨rfl, by decide, by decide⟩ (fun w h Y => PySem.W.km_in_of Y) ?F
  case F =>
    intro w mg fa h KX G hmg
    refine' B.all_mk KX G hmg ?a_is_integer ?a_lowest ?a_added ?a_sum_of ?a_is_fraction ?a_read_integer ?a_read_fraction ?a_may_step ?a_find_chance ?a_read_step ?a_check_chances ?a_read_regions ?a__law_pot ?a__law_take ?a__law_of ?a__law_some ?a__law_cells ?a__law_frac_common ?a__law_frac ?a__law_frac_plus ?a__law_frac_sum ?a__law_frac_text ?a__law_book_regions ?a__law_book_text ?a__law_book_rows_drawn ?a__law_book_drawn ?a_less ?a_times ?a_mean_of ?a_drift_of ?a_drifts_of ?a_turns_by ?a_sides_by ?a_border_by ?a_border ?a__law_frac_less ?a__law_frac_times ?a__law_book_drift ?a__law_book_turns ?a__law_same ?a__law_book_sides ?a__law_book_border ?a__law_frac_over ?a__law_turned_flat ?a__law_border_drawn ?a__law_heard ?a_rising_by ?a_told_by ?a__law_book_is_home ?a__law_book_by_hand ?a__law_book_exchanged ?a__law_book_plain ?a_check_plain ?a_asked ?a_does_come_home ?a__law_book_of_kind ?a__law_is_told_right ?a__law_right ?a_law ?qaC ?qaI ?qiI ?qlI ?qcI ?qkI ?qpg ?qhd ?qpo ?qsa ?qmk ?qkc ?qz_isinstance ?qz_int ?qz_str ?qz_tuple ?qz_bool ?qz_len ?qz_enumerate ?qz_range ?qz_list ?qz_sum ?qz_min ?qz_max ?qz_abs ?qz_all ?qz_zip ?qz_dict ?q_gcd ?qg_ZERO ?ql_ZERO ?qg_ONE ?ql_ONE ?qg_REGIONS ?ql_REGIONS ?qg_MOST_STEPS ?qo_ha ?qo_hn ?qo_tk ?qo_ob ?qf_text ?qf_inside ?qf_first ?qf_second ?qf_none ?nDE ?iDE ?lDE ?cDE ?kDE ?nBorder ?eBorder ?t__law_is_told_right
    case a_is_integer =>
      refine' B.at_mk ?a ?l ?c ?k
      (case a => k_is)
      (case l => k_is)
      (case c => k_is)
      (case k => k_is)
    case a_lowest =>
      refine' B.at_mk ?a ?l ?c ?k
      (case a => k_is)
      (case l => k_is)
      (case c => k_is)
      (case k => k_is)
    case a_added =>
      refine' B.at_mk ?a ?l ?c ?k
      (case a => k_is)
      (case l => k_is)
      (case c => k_is)
      (case k => k_is)
    case a_sum_of =>
      refine' B.at_mk ?a ?l ?c ?k
      (case a => k_is)
      (case l => k_is)
      (case c => k_is)
      (case k => k_is)
    case a_is_fraction =>
      refine' B.at_mk ?a ?l ?c ?k
      (case a => k_is)
      (case l => k_is)
      (case c => k_is)
      (case k => k_is)
    case a_read_integer =>
      refine' B.at_mk ?a ?l ?c ?k
      (case a => k_is)
      (case l => k_is)
      (case c => k_is)
      (case k => k_is)
    case a_read_fraction =>
      refine' B.at_mk ?a ?l ?c ?k
      (case a => k_is)
      (case l => k_is)
      (case c => k_is)
      (case k => k_is)
    case a_may_step =>
      refine' B.at_mk ?a ?l ?c ?k
      (case a => k_is)
      (case l => k_is)
      (case c => k_is)
      (case k => k_is)
    case a_find_chance =>
      refine' B.at_mk ?a ?l ?c ?k
      (case a => k_is)
      (case l => k_is)
      (case c => k_is)
      (case k => k_is)
    case a_read_step =>
      refine' B.at_mk ?a ?l ?c ?k
      (case a => k_is)
      (case l => k_is)
      (case c => k_is)
      (case k => k_is)
    case a_check_chances =>
      refine' B.at_mk ?a ?l ?c ?k
      (case a => k_is)
      (case l => k_is)
      (case c => k_is)
      (case k => k_is)
    case a_read_regions =>
      refine' B.at_mk ?a ?l ?c ?k
      (case a => k_is)
      (case l => k_is)
      (case c => k_is)
      (case k => k_is)
    case a__law_pot =>
      refine' B.at_mk ?a ?l ?c ?k
      (case a => k_is)
      (case l => k_is)
      (case c => k_is)
      (case k => k_is)
    case a__law_take =>
      refine' B.at_mk ?a ?l ?c ?k
      (case a => k_is)
      (case l => k_is)
      (case c => k_is)
      (case k => k_is)
    case a__law_of =>
      refine' B.at_mk ?a ?l ?c ?k
      (case a => k_is)
      (case l => k_is)
      (case c => k_is)
      (case k => k_is)
    case a__law_some =>
      refine' B.at_mk ?a ?l ?c ?k
      (case a => k_is)
      (case l => k_is)
      (case c => k_is)
      (case k => k_is)
    case a__law_cells =>
      refine' B.at_mk ?a ?l ?c ?k
      (case a => k_is)
      (case l => k_is)
      (case c => k_is)
      (case k => k_is)
    case a__law_frac_common =>
      refine' B.at_mk ?a ?l ?c ?k
      (case a => k_is)
      (case l => k_is)
      (case c => k_is)
      (case k => k_is)
    case a__law_frac =>
      refine' B.at_mk ?a ?l ?c ?k
      (case a => k_is)
      (case l => k_is)
      (case c => k_is)
      (case k => k_is)
    case a__law_frac_plus =>
      refine' B.at_mk ?a ?l ?c ?k
      (case a => k_is)
      (case l => k_is)
      (case c => k_is)
      (case k => k_is)
    case a__law_frac_sum =>
      refine' B.at_mk ?a ?l ?c ?k
      (case a => k_is)
      (case l => k_is)
      (case c => k_is)
      (case k => k_is)
    case a__law_frac_text =>
      refine' B.at_mk ?a ?l ?c ?k
      (case a => k_is)
      (case l => k_is)
      (case c => k_is)
      (case k => k_is)
    case a__law_book_regions =>
      refine' B.at_mk ?a ?l ?c ?k
      (case a => k_is)
      (case l => k_is)
      (case c => k_is)
      (case k => k_is)
    case a__law_book_text =>
      refine' B.at_mk ?a ?l ?c ?k
      (case a => k_is)
      (case l => k_is)
      (case c => k_is)
      (case k => k_is)
    case a__law_book_rows_drawn =>
      refine' B.at_mk ?a ?l ?c ?k
      (case a => k_is)
      (case l => k_is)
      (case c => k_is)
      (case k => k_is)
    case a__law_book_drawn =>
      refine' B.at_mk ?a ?l ?c ?k
      (case a => k_is)
      (case l => k_is)
      (case c => k_is)
      (case k => k_is)
    case a_less =>
      refine' B.at_mk ?a ?l ?c ?k
      (case a => k_is)
      (case l => k_is)
      (case c => k_is)
      (case k => k_is)
    case a_times =>
      refine' B.at_mk ?a ?l ?c ?k
      (case a => k_is)
      (case l => k_is)
      (case c => k_is)
      (case k => k_is)
    case a_mean_of =>
      refine' B.at_mk ?a ?l ?c ?k
      (case a => k_is)
      (case l => k_is)
      (case c => k_is)
      (case k => k_is)
    case a_drift_of =>
      refine' B.at_mk ?a ?l ?c ?k
      (case a => k_is)
      (case l => k_is)
      (case c => k_is)
      (case k => k_is)
    case a_drifts_of =>
      refine' B.at_mk ?a ?l ?c ?k
      (case a => k_is)
      (case l => k_is)
      (case c => k_is)
      (case k => k_is)
    case a_turns_by =>
      refine' B.at_mk ?a ?l ?c ?k
      (case a => k_is)
      (case l => k_is)
      (case c => k_is)
      (case k => k_is)
    case a_sides_by =>
      refine' B.at_mk ?a ?l ?c ?k
      (case a => k_is)
      (case l => k_is)
      (case c => k_is)
      (case k => k_is)
    case a_border_by =>
      refine' B.at_mk ?a ?l ?c ?k
      (case a => k_is)
      (case l => k_is)
      (case c => k_is)
      (case k => k_is)
    case a_border =>
      refine' B.at_mk ?a ?l ?c ?k
      (case a => k_is)
      (case l => k_is)
      (case c => k_is)
      (case k => k_is)
    case a__law_frac_less =>
      refine' B.at_mk ?a ?l ?c ?k
      (case a => k_is)
      (case l => k_is)
      (case c => k_is)
      (case k => k_is)
    case a__law_frac_times =>
      refine' B.at_mk ?a ?l ?c ?k
      (case a => k_is)
      (case l => k_is)
      (case c => k_is)
      (case k => k_is)
    case a__law_book_drift =>
      refine' B.at_mk ?a ?l ?c ?k
      (case a => k_is)
      (case l => k_is)
      (case c => k_is)
      (case k => k_is)
    case a__law_book_turns =>
      refine' B.at_mk ?a ?l ?c ?k
      (case a => k_is)
      (case l => k_is)
      (case c => k_is)
      (case k => k_is)
    case a__law_same =>
      refine' B.at_mk ?a ?l ?c ?k
      (case a => k_is)
      (case l => k_is)
      (case c => k_is)
      (case k => k_is)
    case a__law_book_sides =>
      refine' B.at_mk ?a ?l ?c ?k
      (case a => k_is)
      (case l => k_is)
      (case c => k_is)
      (case k => k_is)
    case a__law_book_border =>
      refine' B.at_mk ?a ?l ?c ?k
      (case a => k_is)
      (case l => k_is)
      (case c => k_is)
      (case k => k_is)
    case a__law_frac_over =>
      refine' B.at_mk ?a ?l ?c ?k
      (case a => k_is)
      (case l => k_is)
      (case c => k_is)
      (case k => k_is)
    case a__law_turned_flat =>
      refine' B.at_mk ?a ?l ?c ?k
      (case a => k_is)
      (case l => k_is)
      (case c => k_is)
      (case k => k_is)
    case a__law_border_drawn =>
      refine' B.at_mk ?a ?l ?c ?k
      (case a => k_is)
      (case l => k_is)
      (case c => k_is)
      (case k => k_is)
    case a__law_heard =>
      refine' B.at_mk ?a ?l ?c ?k
      (case a => k_is)
      (case l => k_is)
      (case c => k_is)
      (case k => k_is)
    case a_rising_by =>
      refine' B.at_mk ?a ?l ?c ?k
      (case a => k_is)
      (case l => k_is)
      (case c => k_is)
      (case k => k_is)
    case a_told_by =>
      refine' B.at_mk ?a ?l ?c ?k
      (case a => k_is)
      (case l => k_is)
      (case c => k_is)
      (case k => k_is)
    case a__law_book_is_home =>
      refine' B.at_mk ?a ?l ?c ?k
      (case a => k_is)
      (case l => k_is)
      (case c => k_is)
      (case k => k_is)
    case a__law_book_by_hand =>
      refine' B.at_mk ?a ?l ?c ?k
      (case a => k_is)
      (case l => k_is)
      (case c => k_is)
      (case k => k_is)
    case a__law_book_exchanged =>
      refine' B.at_mk ?a ?l ?c ?k
      (case a => k_is)
      (case l => k_is)
      (case c => k_is)
      (case k => k_is)
    case a__law_book_plain =>
      refine' B.at_mk ?a ?l ?c ?k
      (case a => k_is)
      (case l => k_is)
      (case c => k_is)
      (case k => k_is)
    case a_check_plain =>
      refine' B.at_mk ?a ?l ?c ?k
      (case a => k_is)
      (case l => k_is)
      (case c => k_is)
      (case k => k_is)
    case a_asked =>
      refine' B.at_mk ?a ?l ?c ?k
      (case a => k_is)
      (case l => k_is)
      (case c => k_is)
      (case k => k_is)
    case a_does_come_home =>
      refine' B.at_mk ?a ?l ?c ?k
      (case a => k_is)
      (case l => k_is)
      (case c => k_is)
      (case k => k_is)
    case a__law_book_of_kind =>
      refine' B.at_mk ?a ?l ?c ?k
      (case a => k_is)
      (case l => k_is)
      (case c => k_is)
      (case k => k_is)
    case a__law_is_told_right =>
      refine' B.at_mk ?a ?l ?c ?k
      (case a => k_is)
      (case l => k_is)
      (case c => k_is)
      (case k => k_is)
    case a__law_right =>
      refine' B.at_mk ?a ?l ?c ?k
      (case a => k_is)
      (case l => k_is)
      (case c => k_is)
      (case k => k_is)
    case a_law =>
      refine' B.at_mk ?a ?l ?c ?k
      (case a => k_is)
      (case l => k_is)
      (case c => k_is)
      (case k => k_is)
    (case qaC => k_is)
    (case qaI => k_is)
    (case qiI => k_is)
    (case qlI => k_is)
    (case qcI => k_is)
    (case qkI => k_is)
    (case qpg => k_is)
    (case qhd => k_is)
    (case qpo => k_is)
    (case qsa => k_is)
    (case qmk => k_is)
    (case qkc => k_is)
    (case qz_isinstance => k_is)
    (case qz_int => k_is)
    (case qz_str => k_is)
    (case qz_tuple => k_is)
    (case qz_bool => k_is)
    (case qz_len => k_is)
    (case qz_enumerate => k_is)
    (case qz_range => k_is)
    (case qz_list => k_is)
    (case qz_sum => k_is)
    (case qz_min => k_is)
    (case qz_max => k_is)
    (case qz_abs => k_is)
    (case qz_all => k_is)
    (case qz_zip => k_is)
    (case qz_dict => k_is)
    (case q_gcd => k_is)
    (case qg_ZERO => k_is)
    (case ql_ZERO => k_is)
    (case qg_ONE => k_is)
    (case ql_ONE => k_is)
    (case qg_REGIONS => k_is)
    (case ql_REGIONS => k_is)
    (case qg_MOST_STEPS => k_is)
    (case qo_ha => k_is)
    (case qo_hn => k_is)
    (case qo_tk => k_is)
    (case qo_ob => k_is)
    (case qf_text => k_is)
    (case qf_inside => k_is)
    (case qf_first => k_is)
    (case qf_second => k_is)
    (case qf_none => k_is)
    (case nDE => k_is)
    (case iDE => k_is)
    (case lDE => k_is)
    (case cDE => k_is)
    (case kDE => k_is)
    (case nBorder => k_is)
    case eBorder =>
      refine' A.errC_mk ?l ?b ?sa ?ex ?ty ?kc ?ini ?ti ?nv ?ga ?gg ?hd ?ha ?hn ?tk ?ob ?ca
      (case l => k_is)
      (case b => first | rfl | kernel_rfl)
      (case sa => k_is)
      (case ex => k_is)
      (case ty => k_is)
      (case kc => k_is)
      (case ini => k_is)
      (case ti => k_is)
      (case nv => k_is)
      (case ga => k_is)
      (case gg => k_is)
      (case hd => k_is)
      (case ha => k_is)
      (case hn => k_is)
      (case tk => k_is)
      (case ob => k_is)
      (case ca => first | kernel_rfl | exact PySem.W.exm_ref (by k_is) (by k_is) (by k_is) (by k_is))
    (case t__law_is_told_right => exact (show _root_.A.TabAt _ _ _ 494 492 from ⟨by rfl, by kernel_rfl, by first | k_is | kernel_rfl⟩))
#print axioms PySem.Challenge.cw_cornerdrifts_k06_whole_home_exactly_by_s_holds
