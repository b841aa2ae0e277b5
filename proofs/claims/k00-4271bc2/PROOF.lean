import PyProof.Rows.All
import Wide.All
import OpenK.AllK
import Wide.FinOn
import HandS.ForExc
import HandS.Comp
import HandS.Text
import HandS.Dict
import HandS.IsInst
import HandS.TupAny
import HandS.Style
import HandS.Wide
import HandS.ExcInit
import HandS.ExcField
import HandS.ExcIs
import HandS.CallLocal
import HandS.Walk
import HandS.EndBits
import HandS.FStrTup
import HandS.ExcOwn
import HandS.Lambda
import KE.KExcIs
import HandS.Evl
import HandS.Ends
import PySem.Challenge.RW_plainmoment_k00_rows_and_ops
set_option Elab.async false
set_option linter.all false
set_option maxRecDepth 100000
set_option maxHeartbeats 2000000
/-! A layer of plain data over the hand layer: what a def does is told by predicates over data, without addresses. -/
namespace DL
open PySem PySem.Spec PyProof.Rows L2

inductive D where
  | non | bl (b : Bool) | int (i : Int) | str (x : Str) | lst (xs : List D) | tup (xs : List D) | src (p : Addr) | fn (f : Addr) | exn (a d : Addr) (t : D) | sq (K : PySem.W.Frag) (ns : List Int)

/-- what is known of an owned address -/
inductive Own where
  | src | hold (o : HO)
def SrcOk (o : HO) : Prop := ∃ a b : Int, o = .lst [.int a, .int b] ∧ 0 ≤ b ∧ b < 2147483647
def ownOk : Own → HO → Prop
  | .src, o => SrcOk o
  | .hold o', o => o = o'
abbrev Ow := List (Addr × Own)
def OwnAt (H : Hp) (p : Addr × Own) : Prop := ∃ o, H p.1 = some o ∧ ownOk p.2 o
structure OwnAll (O : Ow) (H : Hp) : Prop where
  here : ∀ p ∈ O, OwnAt H p
  uq : ∀ p ∈ O, ∀ q ∈ O, p.1 = q.1 → p = q
def Out (O : Ow) (a : Addr) : Prop := ∀ p ∈ O, a ≠ p.1
structure Ext (O : Ow) (H H' : Hp) : Prop where
  keep : ∀ b o, Out O b → H b = some o → H' b = some o
  own : ∀ p ∈ O, OwnAt H p → OwnAt H' p
theorem Ext.refl (O : Ow) (H : Hp) : Ext O H H := ⟨fun _ _ _ h => h, fun _ _ h => h⟩
theorem Ext.trans {O : Ow} {H H1 H2 : Hp} (a : Ext O H H1) (b : Ext O H1 H2) : Ext O H H2 :=
  ⟨fun c o x h => b.keep c o x (a.keep c o x h), fun p hp h => b.own p hp (a.own p hp h)⟩
theorem Ext.same {O : Ow} {H H' : Hp} (a : Same H H') : Ext O H H' :=
  ⟨fun c o _ h => a c o h, fun p _ ⟨o, h, k⟩ => ⟨o, a _ _ h, k⟩⟩
theorem OwnAll.mono {O : Ow} {H H' : Hp} (h : OwnAll O H) (e : Ext O H H') : OwnAll O H' := ⟨fun p hp => e.own p hp (h.here p hp), h.uq⟩
theorem OwnAll.out {O : Ow} {H : Hp} {p : Addr} (h : OwnAll O H) (n : H p = none) : Out O p := fun q hq e => by
  obtain ⟨o, k, _⟩ := h.here q hq
  rw [e, k] at n
  cases n
/-- a new object -/
theorem Ext.new {O : Ow} {H : Hp} {p : Addr} {o : HO} (n : H p = none) : Ext O H (upd H p o) :=
  .same fun b u e => by
    rw [upd_ne (ne_of_none e n)]
    exact e

/-- a list of the module's own objects -/
def KL (K : PySem.W.Frag) (a : Addr) (xs : List V) : Prop := SqL K (fun _ => none) a xs
theorem KL.sq {K : PySem.W.Frag} {a : Addr} {xs : List V} (h : KL K a xs) (H : Hp) : SqL K H a xs := by
  rcases h with h | h
  · rcases h with h | ⟨o, h⟩ <;> cases h
  · exact .inr h
mutual
inductive Dq (O : Ow) (H : Hp) : V → D → Prop
  | non : Dq O H .non .non
  | bl (b : Bool) : Dq O H (.bl b) (.bl b)
  | int (i : Int) : Dq O H (.int i) (.int i)
  | str (x : Str) : Dq O H (.str x) (.str x)
  | lst {a : Addr} {xs : List V} {ds : List D} : Out O a → H a = some (.lst xs) → DqAll O H xs ds → Dq O H (.ref a) (.lst ds)
  | tup {a : Addr} {xs : List V} {ds : List D} : Out O a → Rd H a (.tup xs) → DqAll O H xs ds → Dq O H (.ref a) (.tup ds)
  | src {p : Addr} : (p, Own.src) ∈ O → Dq O H (.ref p) (.src p)
  | fn (f : Addr) : Dq O H (.ref f) (.fn f)
  | exn {a dx : Addr} {v : V} {t : D} : Out O dx → H dx = some (.xd [("told", v)]) → Dq O H v t → Dq O H (.ref a) (.exn a dx t)
  | sq {K : PySem.W.Frag} {a : Addr} {ns : List Int} : ((Out O a ∧ Rd H a (.lst (ns.map V.int))) ∨ KL K a (ns.map V.int)) → Dq O H (.ref a) (.sq K ns)
inductive DqAll (O : Ow) (H : Hp) : List V → List D → Prop
  | nil : DqAll O H [] []
  | cons {v : V} {vs : List V} {d : D} {ds : List D} : Dq O H v d → DqAll O H vs ds → DqAll O H (v :: vs) (d :: ds)
end
theorem rd_keep {O : Ow} {H H' : Hp} {a : Addr} {u : HO} (e : ∀ b o, Out O b → H b = some o → H' b = some o) (x : Out O a) (h : Rd H a u) : Rd H' a u := by
  rcases h with h | ⟨o, h⟩
  · exact .inl (e _ _ x h)
  · exact .inr ⟨o, e _ _ x h⟩
mutual
theorem Dq.keep {O : Ow} {H H' : Hp} (e : ∀ b o, Out O b → H b = some o → H' b = some o) : ∀ {v : V} {d : D}, Dq O H v d → Dq O H' v d
  | _, _, .non => .non
  | _, _, .bl b => .bl b
  | _, _, .int i => .int i
  | _, _, .str x => .str x
  | _, _, .lst x r a => .lst x (e _ _ x r) (a.keep e)
  | _, _, .tup x r a => .tup x (rd_keep e x r) (a.keep e)
  | _, _, .src h => .src h
  | _, _, .fn f => .fn f
  | _, _, .exn x r a => .exn x (e _ _ x r) (a.keep e)
  | _, _, .sq h => .sq (h.imp (fun z => ⟨z.1, rd_keep e z.1 z.2⟩) id)
theorem DqAll.keep {O : Ow} {H H' : Hp} (e : ∀ b o, Out O b → H b = some o → H' b = some o) : ∀ {vs : List V} {ds : List D}, DqAll O H vs ds → DqAll O H' vs ds
  | _, _, .nil => .nil
  | _, _, .cons a b => .cons (a.keep e) (b.keep e)
end
theorem Dq.mono {O : Ow} {H H' : Hp} (e : Ext O H H') {v : V} {d : D} (h : Dq O H v d) : Dq O H' v d := h.keep e.keep
theorem DqAll.mono {O : Ow} {H H' : Hp} (e : Ext O H H') {vs : List V} {ds : List D} (h : DqAll O H vs ds) : DqAll O H' vs ds := h.keep e.keep
mutual
/-- one more owned address, new -/
theorem Dq.more {O : Ow} {H : Hp} {q : Addr} {w : Own} (n : H q = none) : ∀ {v : V} {d : D}, Dq O H v d → Dq (O ++ [(q, w)]) H v d
  | _, _, .non => .non
  | _, _, .bl b => .bl b
  | _, _, .int i => .int i
  | _, _, .str x => .str x
  | _, _, .lst x r a => .lst (out_more n x (.inl r)) r (a.more n)
  | _, _, .tup x r a => .tup (out_more n x r) r (a.more n)
  | _, _, .src h => .src (List.mem_append_left _ h)
  | _, _, .fn f => .fn f
  | _, _, .exn x r a => .exn (out_more n x (.inl r)) r (a.more n)
  | _, _, .sq h => .sq (h.imp (fun z => ⟨out_more n z.1 z.2, z.2⟩) id)
theorem DqAll.more {O : Ow} {H : Hp} {q : Addr} {w : Own} (n : H q = none) : ∀ {vs : List V} {ds : List D}, DqAll O H vs ds → DqAll (O ++ [(q, w)]) H vs ds
  | _, _, .nil => .nil
  | _, _, .cons a b => .cons (a.more n) (b.more n)
theorem out_more {O : Ow} {H : Hp} {q a : Addr} {w : Own} {u : HO} (n : H q = none) (x : Out O a) (r : Rd H a u) : Out (O ++ [(q, w)]) a := fun p hp => by
  rcases List.mem_append.mp hp with h | h
  · exact x p h
  · have e : p = (q, w) := by simpa using h
    subst e
    rcases r with r | ⟨o, r⟩
    · exact ne_of_none r n
    · exact ne_of_none r n
end
mutual
/-- an owned address that is no source is given up -/
theorem Dq.less {O : Ow} {H : Hp} {q : Addr} {o : HO} : ∀ {v : V} {d : D}, Dq (O ++ [(q, .hold o)]) H v d → Dq O H v d
  | _, _, .non => .non
  | _, _, .bl b => .bl b
  | _, _, .int i => .int i
  | _, _, .str x => .str x
  | _, _, .lst x r a => .lst (fun p hp => x p (List.mem_append_left _ hp)) r a.less
  | _, _, .tup x r a => .tup (fun p hp => x p (List.mem_append_left _ hp)) r a.less
  | _, _, .src h => .src (by
      rcases List.mem_append.mp h with h | h
      · exact h
      · simp at h)
  | _, _, .fn f => .fn f
  | _, _, .exn x r a => .exn (fun p hp => x p (List.mem_append_left _ hp)) r a.less
  | _, _, .sq h => .sq (h.imp (fun z => ⟨fun p hp => z.1 p (List.mem_append_left _ hp), z.2⟩) id)
theorem DqAll.less {O : Ow} {H : Hp} {q : Addr} {o : HO} : ∀ {vs : List V} {ds : List D}, DqAll (O ++ [(q, .hold o)]) H vs ds → DqAll O H vs ds
  | _, _, .nil => .nil
  | _, _, .cons a b => .cons a.less b.less
end
mutual
theorem Dq.rehold {O : Ow} {H : Hp} {q : Addr} {o o' : HO} : ∀ {v : V} {d : D}, Dq (O ++ [(q, .hold o)]) H v d → Dq (O ++ [(q, .hold o')]) H v d
  | _, _, .non => .non
  | _, _, .bl b => .bl b
  | _, _, .int i => .int i
  | _, _, .str x => .str x
  | _, _, .lst x r a => .lst (out_rehold x) r a.rehold
  | _, _, .tup x r a => .tup (out_rehold x) r a.rehold
  | _, _, .src h => .src (by
      rcases List.mem_append.mp h with h | h
      · exact List.mem_append_left _ h
      · simp at h)
  | _, _, .fn f => .fn f
  | _, _, .exn x r a => .exn (out_rehold x) r a.rehold
  | _, _, .sq h => .sq (h.imp (fun z => ⟨out_rehold z.1, z.2⟩) id)
theorem DqAll.rehold {O : Ow} {H : Hp} {q : Addr} {o o' : HO} : ∀ {vs : List V} {ds : List D}, DqAll (O ++ [(q, .hold o)]) H vs ds → DqAll (O ++ [(q, .hold o')]) H vs ds
  | _, _, .nil => .nil
  | _, _, .cons a b => .cons a.rehold b.rehold
theorem out_rehold {O : Ow} {q a : Addr} {o o' : HO} (x : Out (O ++ [(q, .hold o)]) a) : Out (O ++ [(q, .hold o')]) a := fun p hp => by
  rcases List.mem_append.mp hp with h | h
  · exact x p (List.mem_append_left _ h)
  · have e : p = (q, .hold o') := by simpa using h
    subst e
    exact x (q, .hold o) (by simp)
end
theorem DqAll.length {O : Ow} {H : Hp} : ∀ {vs : List V} {ds : List D}, DqAll O H vs ds → vs.length = ds.length
  | _, _, .nil => rfl
  | _, _, .cons _ b => by rw [List.length_cons, List.length_cons, b.length]
theorem DqAll.get {O : Ow} {H : Hp} : ∀ {vs : List V} {ds : List D} {i : Nat} {d : D}, DqAll O H vs ds → ds[i]? = some d → ∃ v, vs[i]? = some v ∧ Dq O H v d
  | _, _, _, _, .nil, h => by simp at h
  | _, _, 0, _, .cons a _, h => by simp at h; subst h; exact ⟨_, rfl, a⟩
  | _, _, i + 1, _, .cons _ b, h => by
    obtain ⟨v, e, q⟩ := b.get (i := i) (by simpa using h)
    exact ⟨v, by simpa using e, q⟩
theorem DqAll.append {O : Ow} {H : Hp} : ∀ {vs ws : List V} {ds es : List D}, DqAll O H vs ds → DqAll O H ws es → DqAll O H (vs ++ ws) (ds ++ es)
  | _, _, _, _, .nil, h => h
  | _, _, _, _, .cons a b, h => .cons a (b.append h)
theorem DqAll.take {O : Ow} {H : Hp} : ∀ {vs : List V} {ds : List D} (n : Nat), DqAll O H vs ds → DqAll O H (vs.take n) (ds.take n)
  | _, _, 0, _ => by simpa using DqAll.nil
  | _, _, _ + 1, .nil => .nil
  | _, _, n + 1, .cons a b => .cons a (b.take n)
theorem DqAll.drop {O : Ow} {H : Hp} : ∀ {vs : List V} {ds : List D} (n : Nat), DqAll O H vs ds → DqAll O H (vs.drop n) (ds.drop n)
  | _, _, 0, h => by simpa using h
  | _, _, _ + 1, .nil => .nil
  | _, _, n + 1, .cons _ b => b.drop n

/-! ### the readings -/
abbrev Sl := List (Option D)
structure SlD (O : Ow) (H : Hp) (σ : L2.St) (ds : Sl) : Prop where
  len : ds.length = σ.length
  val : ∀ (i : Nat) (d : D), ds[i]? = some (some d) → ∃ v, σ[i]? = some (some v) ∧ Dq O H v d
theorem SlD.mono {O : Ow} {H H' : Hp} {σ : L2.St} {ds : Sl} (h : SlD O H σ ds) (e : Ext O H H') : SlD O H' σ ds :=
  ⟨h.len, fun i d hd => by
    obtain ⟨v, a, b⟩ := h.val i d hd
    exact ⟨v, a, b.mono e⟩⟩
theorem SlD.set {O : Ow} {H : Hp} {σ : L2.St} {ds : Sl} (h : SlD O H σ ds) (i : Nat) {v : V} {d : D} (q : Dq O H v d) : SlD O H (σ.set i (some v)) (ds.set i (some d)) :=
  ⟨by rw [List.length_set, List.length_set, h.len], fun j e he => by
    by_cases hj : i = j
    · subst hj
      by_cases hi : i < ds.length
      · rw [List.getElem?_set_self hi] at he
        cases he
        exact ⟨v, by rw [List.getElem?_set_self (by rw [← h.len]; exact hi)], q⟩
      · rw [List.getElem?_eq_none (by rw [List.length_set]; omega)] at he
        cases he
    · rw [List.getElem?_set_ne hj] at he
      obtain ⟨u, a, b⟩ := h.val j e he
      exact ⟨u, by rw [List.getElem?_set_ne hj]; exact a, b⟩⟩
theorem SlD.keep {O : Ow} {H H' : Hp} {σ : L2.St} {ds : Sl} (h : SlD O H σ ds) (e : ∀ b o, Out O b → H b = some o → H' b = some o) : SlD O H' σ ds :=
  ⟨h.len, fun i d hd => by
    obtain ⟨v, a, b⟩ := h.val i d hd
    exact ⟨v, a, b.keep e⟩⟩
theorem SlD.more {O : Ow} {H : Hp} {σ : L2.St} {ds : Sl} {q : Addr} {w : Own} (h : SlD O H σ ds) (n : H q = none) : SlD (O ++ [(q, w)]) H σ ds :=
  ⟨h.len, fun i d hd => by
    obtain ⟨v, a, b⟩ := h.val i d hd
    exact ⟨v, a, b.more n⟩⟩
abbrev WE := Sl → (D → Prop) → Prop
abbrev WT := Sl → (Bool → Prop) → Prop
abbrev WA := Sl → (List D → Prop) → Prop
abbrev WS := Sl → (Sl → Prop) → (D → Prop) → (Addr → D → Prop) → Prop
def tW (W : WE) : TE := fun σ H Q => ∃ (O : Ow) (ds : Sl) (P : D → Prop), SlD O H σ ds ∧ OwnAll O H ∧ W ds P ∧ ∀ d, P d → ∀ v H', Ext O H H' → Dq O H' v d → Q v H'
def tTW (W : WT) : TT := fun σ H Q => ∃ (O : Ow) (ds : Sl) (P : Bool → Prop), SlD O H σ ds ∧ OwnAll O H ∧ W ds P ∧ ∀ b, P b → ∀ H', Ext O H H' → Q b H'
def tAW (W : WA) : TA := fun σ H Q => ∃ (O : Ow) (ds : Sl) (P : List D → Prop), SlD O H σ ds ∧ OwnAll O H ∧ W ds P ∧ ∀ es, P es → ∀ vs H', Ext O H H' → DqAll O H' vs es → Q vs H'
def tSW (E : XK) (G : WS) : TS := fun D σ H => ∃ (O : Ow) (ds : Sl) (N : Sl → Prop) (R : DL.D → Prop) (Z : Addr → DL.D → Prop), SlD O H σ ds ∧ OwnAll O H ∧ G ds N R Z ∧
  (∀ ds', N ds' → ∀ σ' H', Ext O H H' → SlD O H' σ' ds' → D.nx σ' H') ∧ (∀ d, R d → ∀ v H', Ext O H H' → Dq O H' v d → D.rt v H') ∧
  ∀ C d, Z C d → ∀ dx v H', Ext O H H' → Out O dx → H' dx = some (.xd [("told", v)]) → Dq O H' v d → E (.ref C) (some dx) H'
section
variable {X : Cx}
theorem PE.weak {e : Expr} {t t' : TE} (h : PE X e t) (k : ∀ σ H Q, t' σ H Q → t σ H Q) : PE X e t' := ⟨fun pins s σ H Q I q => h.run pins s σ H Q I (k σ H Q q)⟩
theorem PT.weak {e : Expr} {t t' : TT} (h : PT X e t) (k : ∀ σ H Q, t' σ H Q → t σ H Q) : PT X e t' := ⟨fun pins s σ H Q I q => h.run pins s σ H Q I (k σ H Q q)⟩
theorem PW.weak {e : Expr} {t t' : TT} (h : PW X e t) (k : ∀ σ H Q, t' σ H Q → t σ H Q) : PW X e t' := ⟨fun wh pins s σ H Q I q => h.run wh pins s σ H Q I (k σ H Q q)⟩
theorem PA.weak {es : List Expr} {t t' : TA} (h : PA X es t) (k : ∀ σ H Q, t' σ H Q → t σ H Q) : PA X es t' := ⟨fun pos pins s σ H Q I q => h.run pos pins s σ H Q I (k σ H Q q)⟩
theorem PS.weak {st : Stmt} {t t' : TS} (h : PS X st t) (k : ∀ D σ H, t' D σ H → t D σ H) : PS X st t' := ⟨fun pins s σ H D I q => h.run pins s σ H D I (k D σ H q)⟩
theorem PSs.weak {st : List Stmt} {t t' : TS} (h : PSs X st t) (k : ∀ D σ H, t' D σ H → t D σ H) : PSs X st t' := ⟨fun pins s σ H D I q => h.run pins s σ H D I (k D σ H q)⟩

/-! ### expressions -/
def wVar (i : Nat) : WE := fun ds P => ∃ d, ds[i]? = some (some d) ∧ P d
theorem we_var {e : Expr} {i : Nat} (h : PE X e (tVar i)) : PE X e (tW (wVar i)) := PE.weak h fun σ H Q ⟨O, ds, P, hS, hO, ⟨d, hd, p⟩, k⟩ => by
  obtain ⟨v, a, b⟩ := hS.val i d hd
  exact ⟨v, a, k d p v H (.refl _ _) b⟩
/-- a flat constant -/
def flat : V → Option D
  | .non => some .non
  | .bl b => some (.bl b)
  | .int i => some (.int i)
  | .str x => some (.str x)
  | _ => none
theorem flat_dq {O : Ow} {H : Hp} {v : V} {d : D} (h : flat v = some d) : Dq O H v d := by
  cases v <;> simp [flat] at h <;> subst h
  · exact .non
  · exact .bl _
  · exact .int _
  · exact .str _
def wC (d : D) : WE := fun _ P => P d
theorem we_c {e : Expr} {v : V} {d : D} (h : PE X e (tC v)) (hf : flat v = some d := by rfl) : PE X e (tW (wC d)) := PE.weak h fun σ H Q ⟨O, ds, P, hS, hO, p, k⟩ => k d p v H (.refl _ _) (flat_dq hf)
theorem we_fn {e : Expr} {f : Addr} (h : PE X e (tC (.ref f))) : PE X e (tW (wC (.fn f))) := PE.weak h fun σ H Q ⟨O, ds, P, hS, hO, p, k⟩ => k _ p _ H (.refl _ _) (.fn f)
/-- a two-place operation on data -/
abbrev DOp := D → D → (D → Prop) → Prop
def rD (f : DOp) : R2 := fun x y H Q => ∃ (O : Ow) (dx dy : D) (P : D → Prop), Dq O H x dx ∧ Dq O H y dy ∧ OwnAll O H ∧ f dx dy P ∧ ∀ d, P d → ∀ v H', Ext O H H' → Dq O H' v d → Q v H'
def wOp (f : DOp) (Wa Wb : WE) : WE := fun ds P => Wa ds fun x => Wb ds fun y => f x y P
theorem op_red {f : DOp} {Wa Wb : WE} {σ : L2.St} {H : Hp} {Q : VK} (h : tW (wOp f Wa Wb) σ H Q) : tOp (rD f) (tW Wa) (tW Wb) σ H Q := by
  obtain ⟨O, ds, P, hS, hO, hW, k⟩ := h
  exact ⟨O, ds, _, hS, hO, hW, fun dx hx v H1 e1 q1 => ⟨O, ds, _, hS.mono e1, hO.mono e1, hx, fun dy hy u H2 e2 q2 =>
    ⟨O, dx, dy, P, q1.mono e2, q2, (hO.mono e1).mono e2, hy, fun d hd w H3 e3 q3 => k d hd w H3 ((e1.trans e2).trans e3) q3⟩⟩⟩
variable {a b c : Expr} {Wa Wb Wc : WE} {pos : Pos}
theorem we_op {op : Operator} {f : DOp} (ho : OpR X (binaryOp op) (rD f)) (ha : PE X a (tW Wa)) (hb : PE X b (tW Wb)) : PE X (.BinOp a op b pos) (tW (wOp f Wa Wb)) :=
  PE.weak (pe_op ho ha hb) fun _ _ _ h => op_red h
theorem we_cmp {op : CmpOp} {f : DOp} (ho : OpR X (compareOp op) (rD f)) (ha : PE X a (tW Wa)) (hb : PE X b (tW Wb)) (hm : behindInMarks op b = false) : PE X (.Compare a [op] [b] pos) (tW (wOp f Wa Wb)) :=
  PE.weak (pe_cmpR ho ha hb hm) fun _ _ _ h => op_red h
/-- a value as a test -/
def wTest (W : WE) : WT := fun ds P => W ds fun d => ∃ b, d = .bl b ∧ P b
theorem test_red {W : WE} {σ : L2.St} {H : Hp} {Q : Bool → Hp → Prop} (h : tTW (wTest W) σ H Q) : tW W σ H fun x H' => ∃ k, x = .bl k ∧ Q k H' := by
  obtain ⟨O, ds, P, hS, hO, hW, k⟩ := h
  refine ⟨O, ds, _, hS, hO, hW, fun d hd v H' e q => ?_⟩
  obtain ⟨b, rfl, p⟩ := hd
  cases q
  exact ⟨b, rfl, k b p H' e⟩
theorem wt_val {e : Expr} {W : WE} (h : PE X e (tW W)) (he : ∀ whole, isTrue e X.env whole = (do let v ← whole; standAt e.pos; holding [v] (truthy v)) := by intro _; rfl) : PT X e (tTW (wTest W)) :=
  PT.weak (pt_val h he) fun _ _ _ h => test_red h
theorem wt_cmp {op : CmpOp} {f : DOp} (ho : OpR X (compareOp op) (rD f)) (ha : PE X a (tW Wa)) (hb : PE X b (tW Wb)) (hm : behindInMarks op b = false) : PT X (.Compare a [op] [b] pos) (tTW (wTest (wOp f Wa Wb))) :=
  PT.weak (pt_cmpR ho ha hb hm) fun σ H Q h => op_red (Q := fun x H' => ∃ k, x = .bl k ∧ Q k H') (test_red h)
def wChain (f g : DOp) (Wa Wb Wc : WE) : WE := fun ds P => Wa ds fun x => Wb ds fun y => f x y fun z => ∃ k, z = .bl k ∧ if k = true then Wc ds fun w => g y w P else P (.bl false)
theorem chain_red {f g : DOp} {σ : L2.St} {H : Hp} {Q : VK} (h : tW (wChain f g Wa Wb Wc) σ H Q) : tChain (rD f) (rD g) (tW Wa) (tW Wb) (tW Wc) σ H Q := by
  obtain ⟨O, ds, P, hS, hO, hW, k⟩ := h
  refine ⟨O, ds, _, hS, hO, hW, fun dx hx v H1 e1 q1 => ⟨O, ds, _, hS.mono e1, hO.mono e1, hx, fun dy hy u H2 e2 q2 => ⟨O, dx, dy, _, q1.mono e2, q2, (hO.mono e1).mono e2, hy, fun z hz w H3 e3 q3 => ?_⟩⟩⟩
  obtain ⟨b, rfl, hz⟩ := hz
  cases q3
  refine ⟨b, rfl, ?_⟩
  cases b with
  | false =>
    rw [if_neg Bool.false_ne_true] at hz ⊢
    exact k _ hz _ _ ((e1.trans e2).trans e3) (.bl false)
  | true =>
    rw [if_pos rfl] at hz ⊢
    exact ⟨O, ds, _, hS.mono ((e1.trans e2).trans e3), ((hO.mono e1).mono e2).mono e3, hz, fun dw hw u' H4 e4 q4 =>
      ⟨O, dy, dw, P, q2.mono (e3.trans e4), q4, (((hO.mono e1).mono e2).mono e3).mono e4, hw, fun d hd w' H5 e5 q5 => k d hd w' H5 ((((e1.trans e2).trans e3).trans e4).trans e5) q5⟩⟩
theorem we_chain {op op' : CmpOp} {f g : DOp} (ho : OpR X (compareOp op) (rD f)) (ho' : OpR X (compareOp op') (rD g)) (ha : PE X a (tW Wa)) (hb : PE X b (tW Wb)) (hc : PE X c (tW Wc))
    (hm : lastMarks [op, op'] [b, c] = false := by with_unfolding_all rfl) : PE X (.Compare a [op, op'] [b, c] pos) (tW (wChain f g Wa Wb Wc)) :=
  PE.weak (pe_chain ho ho' ha hb hc hm) fun _ _ _ h => chain_red h
theorem wt_chain {op op' : CmpOp} {f g : DOp} (ho : OpR X (compareOp op) (rD f)) (ho' : OpR X (compareOp op') (rD g)) (ha : PE X a (tW Wa)) (hb : PE X b (tW Wb)) (hc : PE X c (tW Wc))
    (hm : lastMarks [op, op'] [b, c] = false := by with_unfolding_all rfl) : PT X (.Compare a [op, op'] [b, c] pos) (tTW (wTest (wChain f g Wa Wb Wc))) :=
  PT.weak (pt_chain ho ho' ha hb hc hm) fun σ H Q h => chain_red (Q := fun x H' => ∃ k, x = .bl k ∧ Q k H') (test_red h)
/-- and, or of bools, as values -/
def wAnd (Wa Wb : WE) : WE := fun ds P => Wa ds fun x => ∃ k, x = .bl k ∧ if k = true then Wb ds P else P (.bl false)
def wOr (Wa Wb : WE) : WE := fun ds P => Wa ds fun x => ∃ k, x = .bl k ∧ if k = true then P (.bl true) else Wb ds P
def wNot (Wa : WE) : WE := fun ds P => Wa ds fun x => ∃ k, x = .bl k ∧ P (.bl !k)
variable {rest : List Expr}
theorem we_and (ha : PE X a (tW Wa)) (hb : PE X (.BoolOp .And (b :: rest) pos) (tW Wb)) : PE X (.BoolOp .And (a :: b :: rest) pos) (tW (wAnd Wa Wb)) :=
  PE.weak (pe_and ha hb) fun σ H Q ⟨O, ds, P, hS, hO, hW, k⟩ => ⟨O, ds, _, hS, hO, hW, fun dx hx v H1 e1 q1 => by
    obtain ⟨b, rfl, hx⟩ := hx
    cases q1
    refine ⟨b, rfl, ?_⟩
    cases b with
    | false =>
      rw [if_neg Bool.false_ne_true] at hx ⊢
      exact k _ hx _ _ e1 (.bl false)
    | true =>
      rw [if_pos rfl] at hx ⊢
      exact ⟨O, ds, P, hS.mono e1, hO.mono e1, hx, fun d hd w H2 e2 q2 => k d hd w H2 (e1.trans e2) q2⟩⟩
theorem we_or (ha : PE X a (tW Wa)) (hb : PE X (.BoolOp .Or (b :: rest) pos) (tW Wb)) : PE X (.BoolOp .Or (a :: b :: rest) pos) (tW (wOr Wa Wb)) :=
  PE.weak (pe_or ha hb) fun σ H Q ⟨O, ds, P, hS, hO, hW, k⟩ => ⟨O, ds, _, hS, hO, hW, fun dx hx v H1 e1 q1 => by
    obtain ⟨b, rfl, hx⟩ := hx
    cases q1
    refine ⟨b, rfl, ?_⟩
    cases b with
    | true =>
      rw [if_pos rfl] at hx ⊢
      exact k _ hx _ _ e1 (.bl true)
    | false =>
      rw [if_neg Bool.false_ne_true] at hx ⊢
      exact ⟨O, ds, P, hS.mono e1, hO.mono e1, hx, fun d hd w H2 e2 q2 => k d hd w H2 (e1.trans e2) q2⟩⟩
theorem we_not (ha : PE X a (tW Wa)) : PE X (.UnaryOp .Not a pos) (tW (wNot Wa)) :=
  PE.weak (pe_not ha) fun σ H Q ⟨O, ds, P, hS, hO, hW, k⟩ => ⟨O, ds, _, hS, hO, hW, fun dx hx v H1 e1 q1 => by
    obtain ⟨b, rfl, hx⟩ := hx
    cases q1
    exact ⟨b, rfl, k _ hx _ _ e1 (.bl _)⟩⟩
theorem we_one {op} (ha : PE X a (tW Wa)) : PE X (.BoolOp op [a] pos) (tW Wa) := pe_one ha
/-- .. as tests -/
def wtAnd (T U : WT) : WT := fun ds P => T ds fun b => if b = true then U ds P else P false
def wtOr (T U : WT) : WT := fun ds P => T ds fun b => if b = true then P true else U ds P
def wtNot (T : WT) : WT := fun ds P => T ds fun b => P !b
variable {Ta Tb : WT}
theorem ww_and (ha : PT X a (tTW Ta)) (hb : PW X (.BoolOp .And (b :: rest) pos) (tTW Tb)) : PW X (.BoolOp .And (a :: b :: rest) pos) (tTW (wtAnd Ta Tb)) :=
  PW.weak (pw_and ha hb) fun σ H Q ⟨O, ds, P, hS, hO, hW, k⟩ => ⟨O, ds, _, hS, hO, hW, fun b hb H1 e1 => by
    cases b with
    | false =>
      rw [if_neg Bool.false_ne_true] at hb ⊢
      exact k _ hb _ e1
    | true =>
      rw [if_pos rfl] at hb ⊢
      exact ⟨O, ds, P, hS.mono e1, hO.mono e1, hb, fun d hd H2 e2 => k d hd H2 (e1.trans e2)⟩⟩
theorem ww_or (ha : PT X a (tTW Ta)) (hb : PW X (.BoolOp .Or (b :: rest) pos) (tTW Tb)) : PW X (.BoolOp .Or (a :: b :: rest) pos) (tTW (wtOr Ta Tb)) :=
  PW.weak (pw_or ha hb) fun σ H Q ⟨O, ds, P, hS, hO, hW, k⟩ => ⟨O, ds, _, hS, hO, hW, fun b hb H1 e1 => by
    cases b with
    | true =>
      rw [if_pos rfl] at hb ⊢
      exact k _ hb _ e1
    | false =>
      rw [if_neg Bool.false_ne_true] at hb ⊢
      exact ⟨O, ds, P, hS.mono e1, hO.mono e1, hb, fun d hd H2 e2 => k d hd H2 (e1.trans e2)⟩⟩
theorem wt_not (ha : PT X a (tTW Ta)) : PT X (.UnaryOp .Not a pos) (tTW (wtNot Ta)) :=
  PT.weak (pt_not ha) fun σ H Q ⟨O, ds, P, hS, hO, hW, k⟩ => ⟨O, ds, _, hS, hO, hW, fun b hb H1 e1 => k _ hb _ e1⟩
def wIf (T : WT) (Wa Wb : WE) : WE := fun ds P => T ds fun b => if b = true then Wa ds P else Wb ds P
theorem we_if (hc : PT X c (tTW Ta)) (ha : PE X a (tW Wa)) (hb : PE X b (tW Wb)) : PE X (.IfExp c a b pos) (tW (wIf Ta Wa Wb)) :=
  PE.weak (pe_ifExp hc ha hb) fun σ H Q ⟨O, ds, P, hS, hO, hW, k⟩ => ⟨O, ds, _, hS, hO, hW, fun b hb H1 e1 => by
    cases b with
    | true =>
      rw [if_pos rfl] at hb ⊢
      exact ⟨O, ds, P, hS.mono e1, hO.mono e1, hb, fun d hd w H2 e2 q2 => k d hd w H2 (e1.trans e2) q2⟩
    | false =>
      rw [if_neg Bool.false_ne_true] at hb ⊢
      exact ⟨O, ds, P, hS.mono e1, hO.mono e1, hb, fun d hd w H2 e2 q2 => k d hd w H2 (e1.trans e2) q2⟩⟩

/-! ### arguments, displays, calls -/
def waNil : WA := fun _ P => P []
def waCons (W : WE) (A : WA) : WA := fun ds P => W ds fun d => A ds fun es => P (d :: es)
theorem wa_nil : PA X [] (tAW waNil) := PA.weak pa_nil fun σ H Q ⟨O, ds, P, hS, hO, hW, k⟩ => k [] hW [] H (.refl _ _) .nil
theorem wa_cons {e : Expr} {es : List Expr} {W : WE} {A : WA} (ha : PE X e (tW W)) (hr : PA X es (tAW A)) (hs : starEach (e :: es) X.env = (false, eval e X.env) :: starEach es X.env := by rfl) : PA X (e :: es) (tAW (waCons W A)) :=
  PA.weak (pa_cons ha hr hs) fun σ H Q ⟨O, ds, P, hS, hO, hW, k⟩ => ⟨O, ds, _, hS, hO, hW, fun dx hx v H1 e1 q1 => ⟨O, ds, _, hS.mono e1, hO.mono e1, hx, fun es he vs H2 e2 q2 => k _ he _ H2 (e1.trans e2) (.cons (q1.mono e2) q2)⟩⟩
def wTup (A : WA) : WE := fun ds P => A ds fun es => es.length ≤ sizeLine ∧ P (.tup es)
def wLst (A : WA) : WE := fun ds P => A ds fun es => es.length ≤ sizeLine ∧ P (.lst es)
theorem we_tup {x1} {es : List Expr} {A : WA} (h : PA X es (tAW A)) : PE X (.Tuple es x1 pos) (tW (wTup A)) :=
  PE.weak (pe_tup h) fun σ H Q ⟨O, ds, P, hS, hO, hW, k⟩ => ⟨O, ds, _, hS, hO, hW, fun es ⟨hl, he⟩ vs H1 e1 q1 => ⟨by rw [q1.length]; exact hl, fun p hp =>
    k _ he _ _ (e1.trans (.new hp)) (.tup ((hO.mono e1).out hp) (.of upd_same) (q1.mono (.new hp)))⟩⟩
theorem we_lst {es : List Expr} {A : WA} (h : PA X es (tAW A)) : PE X (.List es pos) (tW (wLst A)) :=
  PE.weak (pe_lst h) fun σ H Q ⟨O, ds, P, hS, hO, hW, k⟩ => ⟨O, ds, _, hS, hO, hW, fun es ⟨hl, he⟩ vs H1 e1 q1 => ⟨by rw [q1.length]; exact hl, fun p hp =>
    k _ he _ _ (e1.trans (.new hp)) (.lst ((hO.mono e1).out hp) upd_same (q1.mono (.new hp)))⟩⟩
/-- a built-in's call by data -/
abbrev DFn := List D → (D → Prop) → Prop
def rF (f : DFn) : List V → Hp → VK → Prop := fun xs H Q => ∃ (O : Ow) (es : List D) (P : D → Prop), DqAll O H xs es ∧ OwnAll O H ∧ f es P ∧ ∀ d, P d → ∀ v H', Ext O H H' → Dq O H' v d → Q v H'
def wCall (f : DFn) (A : WA) : WE := fun ds P => A ds fun es => f es P
theorem call_red {f : DFn} {A : WA} {σ : L2.St} {H : Hp} {Q : VK} (h : tW (wCall f A) σ H Q) : tAW A σ H fun vs H1 => rF f vs H1 Q := by
  obtain ⟨O, ds, P, hS, hO, hW, k⟩ := h
  exact ⟨O, ds, _, hS, hO, hW, fun es he vs H1 e1 q1 => ⟨O, es, P, q1, hO.mono e1, he, fun d hd v H2 e2 q2 => k d hd v H2 (e1.trans e2) q2⟩⟩
/-- the promise of a def: what is known of its arguments and its answer by data; Z: what it may raise, by class and told -/
abbrev DSp := List D → (D → Prop) → (Addr → D → Prop) → Prop
def spD (f : DSp) : Sp := fun vs H Q E => ∃ (O : Ow) (es : List D) (P : D → Prop) (Z : Addr → D → Prop), DqAll O H vs es ∧ OwnAll O H ∧ f es P Z ∧ (∀ d, P d → ∀ v H', Ext O H H' → Dq O H' v d → Q v H') ∧
  ∀ C d, Z C d → ∀ dx v H', Ext O H H' → Out O dx → H' dx = some (.xd [("told", v)]) → Dq O H' v d → E (.ref C) (some dx) H'
/-- .. that may not raise here -/
def quiet (f : DSp) : DFn := fun es P => f es P fun _ _ => False
theorem fn_red {f : DSp} {A : WA} {σ : L2.St} {H : Hp} {Q : VK} {E : XK} (h : tW (wCall (quiet f) A) σ H Q) : tCall (spD f) [] E (tAW A) σ H Q := by
  obtain ⟨O, ds, P, hS, hO, hW, k⟩ := h
  refine ⟨O, ds, _, hS, hO, hW, fun es he vs H1 e1 q1 => ?_⟩
  show spD f (vs ++ []) H1 Q E
  rw [List.append_nil]
  exact ⟨O, es, P, fun _ _ => False, q1, hO.mono e1, he, fun d hd v H2 e2 q2 => k d hd v H2 (e1.trans e2) q2, fun _ _ z => z.elim⟩
end
end DL

set_option maxHeartbeats 2000000
namespace DL
open PySem PySem.Spec PyProof.Rows L2
/-! ### statements -/
def gNext : WS := fun ds N _ _ => N ds
def gSeq (G1 G2 : WS) : WS := fun ds N R Z => G1 ds (fun ds' => G2 ds' N R Z) R Z
def gRet (W : WE) : WS := fun ds _ R _ => W ds R
def gSet (i : Nat) (W : WE) : WS := fun ds N _ _ => W ds fun d => N (ds.set i (some d))
def gIf (T : WT) (G1 G2 : WS) : WS := fun ds N R Z => T ds fun b => if b = true then G1 ds N R Z else G2 ds N R Z
def gDrop (W : WE) : WS := fun ds N _ _ => W ds fun _ => N ds
section
variable {X : Cx} {E : XK} {st : Stmt} {rest : List Stmt} {G1 G2 : WS} {e : Expr} {W : WE} {pos : Pos}
theorem wss_nil : PSs X [] (tSW E gNext) := PSs.weak pss_nil fun D σ H ⟨O, ds, N, R, Z, hS, hO, hG, hN, hR, hZ⟩ => hN ds hG σ H (.refl _ _) hS
theorem wss_cons (h1 : PS X st (tSW E G1)) (h2 : PSs X rest (tSW E G2)) : PSs X (st :: rest) (tSW E (gSeq G1 G2)) :=
  PSs.weak (pss_cons h1 h2) fun D σ H ⟨O, ds, N, R, Z, hS, hO, hG, hN, hR, hZ⟩ => ⟨O, ds, _, R, Z, hS, hO, hG, fun ds' hd σ' H' e1 s1 =>
    ⟨O, ds', N, R, Z, s1, hO.mono e1, hd, fun d2 h2 σ2 H2 e2 s2 => hN d2 h2 σ2 H2 (e1.trans e2) s2, fun d h v H2 e2 q2 => hR d h v H2 (e1.trans e2) q2, fun C d h dx v H2 e2 q2 => hZ C d h dx v H2 (e1.trans e2) q2⟩, hR, hZ⟩
theorem wss_one (h1 : PS X st (tSW E G1)) : PSs X [st] (tSW E G1) := pss_one h1
theorem ws_ret (he : PE X e (tW W)) : PS X (.Return (some e) pos) (tSW E (gRet W)) := PS.weak (ps_ret he) fun D σ H ⟨O, ds, N, R, Z, hS, hO, hG, hN, hR, hZ⟩ => ⟨O, ds, R, hS, hO, hG, hR⟩
theorem ws_drop (he : PE X e (tW W)) (hs : swapsWith e none pos.line X.env = pure false := by rfl) : PS X (.Expr e pos) (tSW E (gDrop W)) :=
  PS.weak (ps_expr he hs) fun D σ H ⟨O, ds, N, R, Z, hS, hO, hG, hN, hR, hZ⟩ => ⟨O, ds, _, hS, hO, hG, fun d hd v H1 e1 _ => hN ds hd σ H1 e1 (hS.mono e1)⟩
theorem ws_set {i : Nat} {x : Str} {pos' : Pos} (hN : X.N.Nodup) (hi : X.N[i]? = some x) (hx : Loc X.env.scope x) (he : PE X e (tW W)) (hs : swapsWith e (some (.Name x pos')) pos.line X.env = pure false := by rfl)
    (hf : X.fn x = true ∨ X.env.scope.names.lookup x = some .local := by first | exact .inl rfl | exact .inr rfl | assumption) : PS X (.Assign [.Name x pos'] e pos) (tSW E (gSet i W)) :=
  PS.weak (ps_set hN hi hx he hs hf) fun D σ H ⟨O, ds, N, R, Z, hS, hO, hG, hN, hR, hZ⟩ => ⟨O, ds, _, hS, hO, hG, fun d hd v H1 e1 q1 => hN _ hd _ H1 e1 ((hS.mono e1).set i q1)⟩
theorem ws_if {c : Expr} {a b : List Stmt} {T : WT} (hc : PT X c (tTW T)) (ha : PSs X a (tSW E G1)) (hb : PSs X b (tSW E G2)) : PS X (.If c a b pos) (tSW E (gIf T G1 G2)) :=
  PS.weak (ps_if hc ha hb) fun D σ H ⟨O, ds, N, R, Z, hS, hO, hG, hN, hR, hZ⟩ => ⟨O, ds, _, hS, hO, hG, fun b hb H1 e1 => by
    cases b with
    | true =>
      rw [if_pos rfl] at hb ⊢
      exact ⟨O, ds, N, R, Z, hS.mono e1, hO.mono e1, hb, fun d2 h2 σ2 H2 e2 s2 => hN d2 h2 σ2 H2 (e1.trans e2) s2, fun d h v H2 e2 q2 => hR d h v H2 (e1.trans e2) q2, fun C d h dx v H2 e2 q2 => hZ C d h dx v H2 (e1.trans e2) q2⟩
    | false =>
      rw [if_neg Bool.false_ne_true] at hb ⊢
      exact ⟨O, ds, N, R, Z, hS.mono e1, hO.mono e1, hb, fun d2 h2 σ2 H2 e2 s2 => hN d2 h2 σ2 H2 (e1.trans e2) s2, fun d h v H2 e2 q2 => hR d h v H2 (e1.trans e2) q2, fun C d h dx v H2 e2 q2 => hZ C d h dx v H2 (e1.trans e2) q2⟩⟩
/-! ### raising an own error that keeps what it is told -/
/-- MomentError.__init__(self, told): self.told = told -/
def spTold (K : PySem.W.Frag) : Sp := fun vs H Q _ => ∃ (a C : Addr) (v : V), vs = [.ref a, v] ∧ OexC K C ∧ PySem.W.findIn K (.ref C) "told" = some none ∧ H a = some (exo a C none) ∧ ∀ dx, H dx = none → dx ≠ a → Q .non (upd (upd H dx (exd dx [("told", v)])) a (exo a C (some dx)))
theorem ok_told {P : Program} {w : World} {K : PySem.W.Frag} {mg : Str → Option Value} {base : Heap} {st : Stmt} {q : Str} {f : Addr} {fd : FuncData} {p1 p2 p3 p4 : Pos} (F : Fun K "__init__" q st f fd) (S : FnScope ["self", "told"] ["self", "told"] (defScope st))
    (hb : defBody st = [.Assign [.Attribute (.Name "self" p1) "told" p2] (.Name "told" p3) p4]) (v0 : (defScope st).names.lookup ("self" : Str) = some NameKind.local) (v1 : (defScope st).names.lookup ("told" : Str) = some NameKind.local) : FnOk P w K mg base CX0 1 f fd ["self", "told"] (spTold K) := by
  refine F.ok S (fun vs H Q E ⟨a, C, v, e, _⟩ => by rw [e]; rfl) (fun cdv A outer s H vs Q E hr ⟨a, C, v, e, T, no, ha, k⟩ => ?_)
  subst e
  rw [hb]
  exact ⟨_, pss_one (ps_ost (pv 0 rfl (.inl v0)) (pv 1 rfl (.inl v1))), _, rfl, _, rfl, a, C, rfl, T, no, .inl ⟨ha, fun dx n1 n2 => k dx n1 n2⟩⟩
/-- raise C(e) -/
def gRaise (C : Addr) (W : WE) : WS := fun ds _ _ Z => W ds fun d => Z C d
theorem ws_raise {CX : CXT} {x : Str} {C fI : Addr} {k : Nat} {fd : FuncData} {ps : List Str} {p p' : Pos} (hc : X.calm = true) (tk : Takes X (fun cls d _ H => E cls d H)) (T : OexC X.K C)
    (iC : PySem.W.findIn X.K (.ref C) "__init__" = some (some (.ref fI))) (tI : PySem.W.typeIn X.K (.ref fI) = some (.type "function"))
    (hno : PySem.W.findIn X.K (.ref C) "told" = some none) (F1 : FnOk X.prog X.w X.K X.mg X.base CX k fI fd ps (spTold X.K)) (hr : Room (k + 1) X.A) (hb : Binds X.K fd ps []) (hx : Passes CX X (fun _ _ _ => False)) (hg : Gl X x) (hm : X.mg x = some (.ref C)) (ha : PE X e (tW W))
    (hdb : (x == ("__debug__" : Str)) = false := by decide) (hs : starEach [e] X.env = (false, eval e X.env) :: starEach [] X.env := by rfl) (hpl : (backTo p' (starEach [] X.env)).any (·.1) = false := by rfl) :
    PS X (.Raise (some (.Call (.Name x p) [e] [] p')) none pos) (tSW E (gRaise C W)) :=
  PS.weak (ps_raise hc tk (pmk_oex T iC tI F1 hr hb .nil hx hg hm (pa_cons ha pa_nil hs) hdb hs hpl)) fun D σ H ⟨O, ds, N, R, Z, hS, hO, hG, hN, hR, hZ⟩ =>
    ⟨O, ds, _, hS, hO, hG, fun d hd v H1 e1 q1 => ⟨by show 1 ≤ 1000; decide, fun a na => ⟨a, C, v, rfl, T, hno, upd_same, fun dx ndx hne => by
      have n1 : H1 dx = none := by
        rw [upd_ne hne] at ndx
        exact ndx
      refine ⟨rfl, dx, [("told", v)], upd_same, by rw [upd_ne hne, upd_same], n1, ?_⟩
      have e2 : Ext O H1 (upd (del (upd (upd (upd H1 a (exo a C none)) dx (exd dx [("told", v)])) a (exo a C (some dx))) a) dx (.xd [("told", v)])) := .same fun b o hb => by
        have h1 : b ≠ dx := ne_of_none hb n1
        have h2 : b ≠ a := ne_of_none hb na
        rw [upd_ne h1, del_ne h2, upd_ne h2, upd_ne h1, upd_ne h2]
        exact hb
      exact hZ C d hd dx v _ (e1.trans e2) ((hO.mono e1).out n1) upd_same (q1.mono e2)⟩⟩⟩
end
/-! ### a def's promise by its body -/
def startD (N : List Str) (es : List D) : Sl := es.map some ++ List.replicate (N.length - es.length) none
theorem start_sl {O : Ow} {H : Hp} {N : List Str} {vs : List V} {es : List D} (h : DqAll O H vs es) : SlD O H (L2.start N vs) (startD N es) := by
  refine ⟨by unfold L2.start startD; simp [h.length], fun i d hd => ?_⟩
  unfold startD at hd
  unfold L2.start
  by_cases hi : i < es.length
  · rw [List.getElem?_append_left (by simpa using hi)] at hd
    rw [List.getElem?_map] at hd
    cases he : es[i]? with
    | none => rw [he] at hd; cases hd
    | some d' =>
      rw [he] at hd
      cases hd
      obtain ⟨v, a, b⟩ := h.get he
      exact ⟨v, by rw [List.getElem?_append_left (by rw [List.length_map, h.length]; exact hi), List.getElem?_map, a]; rfl, b⟩
  · rw [List.getElem?_append_right (by simpa using hi), List.getElem?_replicate] at hd
    split at hd <;> cases hd
section
variable {P : Program} {w : World} {K : PySem.W.Frag} {mg : Str → Option Value} {base : Heap}
/-- a def that raises nothing -/
theorem fn_ok {x qual : Str} {st : Stmt} {f : Addr} {fd : FuncData} {N ps : List Str} {k : Nat} {g : DFn} (F : Fun K x qual st f fd) (S : FnScope N ps (defScope st)) (len : ∀ es P, g es P → es.length = ps.length)
    (hbody : ∀ (cdv : Value) (A : Around) (outer : List Env) (s : Shared) (H : Hp) (E : XK), Room k (A.deeper (envOfC qual (defScope st) s.heap.objs.size f cdv)) →
      ∃ G, PSs (cxOf CX0 P w K mg base N qual (defScope st) f cdv A outer s H E).nox (defBody st) (tSW (fun _ _ _ => False) G) ∧ ∀ es P, g es P → G (startD N es) (fun _ => P .non) P fun _ _ => False) :
    FnOk P w K mg base CX0 (k + 1) f fd ps (spD fun es P _ => g es P) := by
  refine F.ok S (fun vs H Q E ⟨O, es, P, Z, hq, hO, hg, _⟩ => by rw [hq.length]; exact len _ _ hg) (fun cdv A outer s H vs Q E hr ⟨O, es, P, Z, hq, hO, hg, hP, hZ⟩ => ?_)
  obtain ⟨G, h1, h2⟩ := hbody cdv A outer s H E hr
  exact ⟨_, h1, O, startD N es, _, P, _, start_sl hq, hO, h2 es P hg, fun ds' hd σ' H' e1 _ => hP _ hd _ H' e1 .non, hP, fun _ _ z => z.elim⟩
/-- a def that may raise -/
theorem fn_okX {x qual : Str} {st : Stmt} {f : Addr} {fd : FuncData} {N ps : List Str} {k : Nat} {g : DSp} (F : Fun K x qual st f fd) (S : FnScope N ps (defScope st)) (len : ∀ es P Z, g es P Z → es.length = ps.length)
    (hbody : ∀ (cdv : Value) (A : Around) (outer : List Env) (s : Shared) (H : Hp) (E : XK), Room k (A.deeper (envOfC qual (defScope st) s.heap.objs.size f cdv)) →
      ∃ G, PSs (cxOf (L2.CX P w) P w K mg base N qual (defScope st) f cdv A outer s H E) (defBody st) (tSW E G) ∧ ∀ es P Z, g es P Z → G (startD N es) (fun _ => P .non) P Z) :
    FnOk P w K mg base (L2.CX P w) (k + 1) f fd ps (spD g) := by
  refine F.okX S (fun vs H Q E ⟨O, es, P, Z, hq, hO, hg, _⟩ => by rw [hq.length]; exact len _ _ _ hg) (fun cdv A outer s H vs Q E hr ⟨O, es, P, Z, hq, hO, hg, hP, hZ⟩ => ?_)
  obtain ⟨G, h1, h2⟩ := hbody cdv A outer s H E hr
  exact ⟨_, h1, O, startD N es, _, P, Z, start_sl hq, hO, h2 es P Z hg, fun ds' hd σ' H' e1 _ => hP _ hd _ H' e1 .non, hP, hZ⟩
end
/-! ### calls -/
section
variable {X : Cx} {k : Nat} {f : Addr} {fd : FuncData} {ps : List Str} {x : Str} {p pos : Pos} {e : Expr} {es : List Expr} {A : WA}
/-- a def that raises nothing -/
theorem we_call {g : DFn} (F : FnOk X.prog X.w X.K X.mg X.base CX0 k f fd ps (spD fun es P _ => g es P)) (hr : Room k X.A) (hg : Gl X x) (hm : X.mg x = some (.ref f)) (hk : PySem.W.keepIn X.K (.ref f) = true) (hb : Binds X.K fd ps [])
    (ha : PA X (e :: es) (tAW A)) (hdb : (x == ("__debug__" : Str)) = false := by decide) (he : starEach (e :: es) X.env = (false, eval e X.env) :: starEach es X.env := by rfl) (hpl : (backTo pos (starEach es X.env)).any (·.1) = false := by rfl) :
    PE X (.Call (.Name x p) (e :: es) [] pos) (tW (wCall g A)) := PE.weak (pe_call F hr hg hm hk hb .nil pass0 ha hdb he hpl) fun σ H Q h => fn_red (f := fun es P _ => g es P) h
/-- a def that may raise, but not here -/
theorem we_callX {g : DSp} (F : FnOk X.prog X.w X.K X.mg X.base (L2.CX X.prog X.w) k f fd ps (spD g)) (hr : Room k X.A) (hg : Gl X x) (hm : X.mg x = some (.ref f)) (hk : PySem.W.keepIn X.K (.ref f) = true) (hb : Binds X.K fd ps [])
    (ha : PA X (e :: es) (tAW A)) (hdb : (x == ("__debug__" : Str)) = false := by decide) (he : starEach (e :: es) X.env = (false, eval e X.env) :: starEach es X.env := by rfl) (hpl : (backTo pos (starEach es X.env)).any (·.1) = false := by rfl) :
    PE X (.Call (.Name x p) (e :: es) [] pos) (tW (wCall (quiet g) A)) := PE.weak (pe_call F hr hg hm hk hb .nil passL ha hdb he hpl) fun σ H Q h => fn_red h
/-- a built-in -/
theorem we_callB {id : String} {g : DFn} (hc : CallR X (.builtin id) (rF g)) (hg : Gl X x) (hm : X.mg x = none) (hv : bootBuiltins x = some (.builtin id)) (ha : PA X (e :: es) (tAW A)) (hn : x ≠ "__name__" := by decide) (hdb : (x == ("__debug__" : Str)) = false := by decide)
    (he : starEach (e :: es) X.env = (false, eval e X.env) :: starEach es X.env := by rfl) (hpl : (backTo pos (starEach es X.env)).any (·.1) = false := by rfl) : PE X (.Call (.Name x p) (e :: es) [] pos) (tW (wCall g A)) :=
  PE.weak (pe_callB hc hg hm hv ha hn hdb he hpl) fun σ H Q h => call_red h
theorem we_callTy {T : String} {g : DFn} (hc : CallR X (.type T) (rF g)) (hg : Gl X x) (hm : X.mg x = none) (hv : bootBuiltins x = some (.type T)) (ha : PA X (e :: es) (tAW A)) (hn : x ≠ "__name__" := by decide) (hdb : (x == ("__debug__" : Str)) = false := by decide)
    (he : starEach (e :: es) X.env = (false, eval e X.env) :: starEach es X.env := by rfl) (hpl : (backTo pos (starEach es X.env)).any (·.1) = false := by rfl) : PE X (.Call (.Name x p) (e :: es) [] pos) (tW (wCall g A)) :=
  PE.weak (pe_callTy hc hg hm hv ha hn hdb he hpl) fun σ H Q h => call_red h
end
end DL

set_option maxHeartbeats 2000000
namespace DL
open PySem PySem.Spec PyProof.Rows L2
/-! ### data as the library's data -/
mutual
def D.py : D → PyData
  | .non => .none
  | .bl b => .bool b
  | .int i => .int i
  | .str x => .str x
  | .lst xs => .list (D.pys xs)
  | .tup xs => .tuple (D.pys xs)
  | .src _ => .none
  | .fn _ => .none
  | .exn _ _ _ => .none
  | .sq _ _ => .none
def D.pys : List D → List PyData
  | [] => []
  | d :: ds => d.py :: D.pys ds
end
mutual
/-- nothing but data -/
def D.pl : D → Bool
  | .src _ => false
  | .fn _ => false
  | .exn _ _ _ => false
  | .sq _ _ => false
  | .lst xs => D.pls xs
  | .tup xs => D.pls xs
  | _ => true
def D.pls : List D → Bool
  | [] => true
  | d :: ds => d.pl && D.pls ds
end
mutual
theorem Dq.dp {O : Ow} {K : PySem.W.Frag} {H : Hp} : ∀ {v : V} {d : D}, Dq O H v d → d.pl = true → Dp K H v d.py
  | _, _, .non, _ => by unfold D.py; exact .non
  | _, _, .bl b, _ => by unfold D.py; exact .bl b
  | _, _, .int i, _ => by unfold D.py; exact .int i
  | _, _, .str x, _ => by unfold D.py; exact .str x
  | _, _, .lst x r a, h => by
    unfold D.py
    unfold D.pl at h
    exact .lst (.inl (.inl r)) (a.dp h)
  | _, _, .tup x r a, h => by
    unfold D.py
    unfold D.pl at h
    exact .tup (.inl r) (a.dp h)
  | _, _, .src _, h => by
    unfold D.pl at h
    cases h
  | _, _, .fn _, h => by
    unfold D.pl at h
    cases h
  | _, _, .exn _ _ _, h => by
    unfold D.pl at h
    cases h
  | _, _, .sq _, h => by
    unfold D.pl at h
    cases h
theorem DqAll.dp {O : Ow} {K : PySem.W.Frag} {H : Hp} : ∀ {vs : List V} {ds : List D}, DqAll O H vs ds → D.pls ds = true → DpAll K H vs (D.pys ds)
  | _, _, .nil, _ => by unfold D.pys; exact .nil
  | _, _, .cons a b, h => by
    unfold D.pls at h
    unfold D.pys
    obtain ⟨h1, h2⟩ := Bool.and_eq_true_iff.mp h
    exact .cons (a.dp h1) (b.dp h2)
end
/-- may be asked by == -/
def okEq (d : D) : Prop := d.pl = true ∧ SeqAt.shaped d.py = true
def eqD (x y : D) : Bool := PyData.eqv x.py y.py

/-! ### operations -/
def dAdd : DOp := fun x y P => match x, y with
  | .int i, .int j => P (.int (i + j))
  | .str a, .str b => a.length + b.length ≤ sizeLine ∧ P (.str (a ++ b))
  | .tup xs, .tup ys => xs.length + ys.length ≤ sizeLine ∧ P (.tup (xs ++ ys))
  | .lst xs, .lst ys => xs.length + ys.length ≤ sizeLine ∧ P (.lst (xs ++ ys))
  | _, _ => False
def dSub : DOp := fun x y P => match x, y with
  | .int i, .int j => P (.int (i - j))
  | _, _ => False
def dMul : DOp := fun x y P => match x, y with
  | .int i, .int j => CMulW i j ∧ P (.int (i * j))
  | _, _ => False
def dMod : DOp := fun x y P => match x, y with
  | .int i, .int j => 0 < j ∧ P (.int (i % j))
  | _, _ => False
def dFdiv : DOp := fun x y P => match x, y with
  | .int i, .int j => CDivW i j ∧ P (.int (i / j))
  | _, _ => False
def dPow : DOp := fun x y P => match x, y with
  | .int i, .int j => CPow i j ∧ P (.int (i ^ j.toNat))
  | _, _ => False
def dEq : DOp := fun x y P => match x, y with
  | .str a, .str b => P (.bl (decide (a = b)))
  | .int i, .int j => P (.bl (decide (i = j)))
  | .bl a, .bl b => P (.bl (decide (a = b)))
  | x, y => okEq x ∧ okEq y ∧ P (.bl (eqD x y))
def dNe : DOp := fun x y P => match x, y with
  | .str a, .str b => P (.bl (!decide (a = b)))
  | .int i, .int j => P (.bl (!decide (i = j)))
  | .bl a, .bl b => P (.bl (!decide (a = b)))
  | x, y => okEq x ∧ okEq y ∧ P (.bl (!eqD x y))
def dLe : DOp := fun x y P => match x, y with
  | .int i, .int j => P (.bl (decide (i ≤ j)))
  | .str a, .str b => P (.bl (!decide (b.cps.toList < a.cps.toList)))
  | _, _ => False
def dLt : DOp := fun x y P => match x, y with
  | .int i, .int j => P (.bl (decide (i < j)))
  | .str a, .str b => P (.bl (decide (a.cps.toList < b.cps.toList)))
  | _, _ => False
def dGe : DOp := fun x y P => match x, y with
  | .int i, .int j => P (.bl (decide (j ≤ i)))
  | _, _ => False
def dGt : DOp := fun x y P => match x, y with
  | .int i, .int j => P (.bl (decide (j < i)))
  | _, _ => False
/-- is True, is False -/
def dIsB : DOp := fun x y P => match x, y with
  | .bl a, .bl b => P (.bl (decide (a = b)))
  | _, _ => False
/-- the texts of a list of data -/
def strsOf : List D → Option (List Str)
  | [] => some []
  | .str x :: ds => (strsOf ds).map (x :: ·)
  | _ :: _ => none
def boolsOf : List D → Option (List Bool)
  | [] => some []
  | .bl x :: ds => (boolsOf ds).map (x :: ·)
  | _ :: _ => none
theorem strsOf_vs {O : Ow} {H : Hp} : ∀ {ds : List D} {xs : List Str} {vs : List V}, strsOf ds = some xs → DqAll O H vs ds → vs = xs.map V.str
  | [], xs, vs, h, q => by
    cases q
    cases h
    rfl
  | d :: ds, xs, vs, h, q => by
    cases q with
    | cons a b =>
      cases d <;> simp [strsOf] at h
      obtain ⟨ys, h1, rfl⟩ := h
      cases a
      rw [strsOf_vs h1 b]
      rfl
theorem boolsOf_vs {O : Ow} {H : Hp} : ∀ {ds : List D} {xs : List Bool} {vs : List V}, boolsOf ds = some xs → DqAll O H vs ds → vs = xs.map V.bl
  | [], xs, vs, h, q => by
    cases q
    cases h
    rfl
  | d :: ds, xs, vs, h, q => by
    cases q with
    | cons a b =>
      cases d <;> simp [boolsOf] at h
      obtain ⟨ys, h1, rfl⟩ := h
      cases a
      rw [boolsOf_vs h1 b]
      rfl
/-- in: a text in a list or tuple of texts, a sign in a text, a bool in a list of bools -/
def dIn : DOp := fun x y P => match x, y with
  | .str a, .lst ds => ∃ xs, strsOf ds = some xs ∧ P (.bl (decide (a ∈ xs)))
  | .str a, .tup ds => ∃ xs, strsOf ds = some xs ∧ P (.bl (decide (a ∈ xs)))
  | .bl a, .lst ds => ∃ xs, boolsOf ds = some xs ∧ P (.bl (decide (a ∈ xs)))
  | .str a, .str z => ∃ c, a = ⟨#[c]⟩ ∧ P (.bl (decide (c ∈ z.cps.toList)))
  | _, _ => False
theorem inV_str (a : Str) (xs : List Str) : inV (.str a) (xs.map V.str) = decide (a ∈ xs) := by
  unfold inV
  induction xs with
  | nil => rfl
  | cons y ys ih =>
    rw [List.map_cons, List.any_cons, ih]
    show ((y == a) || decide (a ∈ ys)) = decide (a ∈ y :: ys)
    by_cases h : y = a
    · subst h
      simp
    · have h1 : (y == a) = false := beq_eq_false_iff_ne.mpr h
      have h2 : a ≠ y := fun e => h e.symm
      simp [h1, h2]
theorem inV_bl (a : Bool) (xs : List Bool) : inV (.bl a) (xs.map V.bl) = decide (a ∈ xs) := by
  unfold inV
  induction xs with
  | nil => rfl
  | cons y ys ih =>
    rw [List.map_cons, List.any_cons, ih]
    show ((y == a) || decide (a ∈ ys)) = decide (a ∈ y :: ys)
    cases y <;> cases a <;> simp
theorem flat_strs (xs : List Str) : (xs.map V.str).all flatV = true := by
  induction xs with
  | nil => rfl
  | cons y ys ih => rw [List.map_cons, List.all_cons, ih]; rfl
theorem flat_bls (xs : List Bool) : (xs.map V.bl).all flatV = true := by
  induction xs with
  | nil => rfl
  | cons y ys ih => rw [List.map_cons, List.all_cons, ih]; rfl
section
variable {X : Cx}
theorem op_dAdd : OpR X (binaryOp .Add) (rD dAdd) := by
  intro pins s σ H x y v u Q I rx ry ⟨O, dx, dy, P, qx, qy, hO, hg, k⟩
  unfold dAdd at hg
  split at hg
  · cases qx; cases qy
    exact op_add pins s σ H _ _ v u Q I rx ry ⟨_, _, rfl, rfl, k _ hg _ H (.refl _ _) (.int _)⟩
  · cases qx; cases qy
    exact op_add_str pins s σ H _ _ v u Q I rx ry ⟨_, _, rfl, rfl, hg.1, k _ hg.2 _ H (.refl _ _) (.str _)⟩
  · cases qx with
    | tup x1 r1 a1 =>
      cases qy with
      | tup x2 r2 a2 =>
        have z1 := a1.length
        have z2 := a2.length
        refine op_catA pins s σ H _ _ v u Q I rx ry ⟨_, _, _, _, rfl, rfl, .inl r1, .inl r2, by rw [z1, z2]; exact hg.1, fun e => ?_, fun _ e => ?_, fun _ _ p hp => ?_⟩
        · subst e
          cases a1
          exact k _ hg.2 _ H (.refl _ _) (.tup x2 r2 a2)
        · subst e
          cases a2
          refine k _ hg.2 _ H (.refl _ _) ?_
          rw [List.append_nil]
          exact .tup x1 r1 a1
        · exact k _ hg.2 _ _ (.new hp) (.tup (hO.out hp) (.of upd_same) ((a1.append a2).mono (.new hp)))
  · cases qx with
    | lst x1 r1 a1 =>
      cases qy with
      | lst x2 r2 a2 =>
        have z1 := a1.length
        have z2 := a2.length
        exact op_cat pins s σ H _ _ v u Q I rx ry ⟨_, _, _, _, rfl, rfl, r1, r2, by rw [z1, z2]; exact hg.1, fun p hp => k _ hg.2 _ _ (.new hp) (.lst (hO.out hp) upd_same ((a1.append a2).mono (.new hp)))⟩
  · exact hg.elim
theorem op_dSub : OpR X (binaryOp .Sub) (rD dSub) := by
  intro pins s σ H x y v u Q I rx ry ⟨O, dx, dy, P, qx, qy, hO, hg, k⟩
  unfold dSub at hg
  split at hg
  · cases qx; cases qy
    exact op_sub pins s σ H _ _ v u Q I rx ry ⟨_, _, rfl, rfl, k _ hg _ H (.refl _ _) (.int _)⟩
  · exact hg.elim
theorem op_dMul : OpR X (binaryOp .Mult) (rD dMul) := by
  intro pins s σ H x y v u Q I rx ry ⟨O, dx, dy, P, qx, qy, hO, hg, k⟩
  unfold dMul at hg
  split at hg
  · cases qx; cases qy
    exact op_mulW pins s σ H _ _ v u Q I rx ry ⟨_, _, rfl, rfl, hg.1, k _ hg.2 _ H (.refl _ _) (.int _)⟩
  · exact hg.elim
theorem op_dMod : OpR X (binaryOp .Mod) (rD dMod) := by
  intro pins s σ H x y v u Q I rx ry ⟨O, dx, dy, P, qx, qy, hO, hg, k⟩
  unfold dMod at hg
  split at hg
  · cases qx; cases qy
    exact op_mod pins s σ H _ _ v u Q I rx ry ⟨_, _, rfl, rfl, hg.1, k _ hg.2 _ H (.refl _ _) (.int _)⟩
  · exact hg.elim
theorem op_dFdiv : OpR X (binaryOp .FloorDiv) (rD dFdiv) := by
  intro pins s σ H x y v u Q I rx ry ⟨O, dx, dy, P, qx, qy, hO, hg, k⟩
  unfold dFdiv at hg
  split at hg
  · cases qx; cases qy
    exact op_fdivW pins s σ H _ _ v u Q I rx ry ⟨_, _, rfl, rfl, hg.1, k _ hg.2 _ H (.refl _ _) (.int _)⟩
  · exact hg.elim
theorem op_dPow : OpR X (binaryOp .Pow) (rD dPow) := by
  intro pins s σ H x y v u Q I rx ry ⟨O, dx, dy, P, qx, qy, hO, hg, k⟩
  unfold dPow at hg
  split at hg
  · cases qx; cases qy
    exact op_pow pins s σ H _ _ v u Q I rx ry ⟨_, _, rfl, rfl, hg.1, k _ hg.2 _ H (.refl _ _) (.int _)⟩
  · exact hg.elim
theorem op_dEq (hu : X.A.units + 64 < cLine) : OpR X (compareOp .Eq) (rD dEq) := by
  intro pins s σ H x y v u Q I rx ry ⟨O, dx, dy, P, qx, qy, hO, hg, k⟩
  unfold dEq at hg
  split at hg
  · cases qx; cases qy
    exact op_eq pins s σ H _ _ v u Q I rx ry ⟨rfl, k _ (by simpa using hg) _ H (.refl _ _) (.bl _)⟩
  · cases qx; cases qy
    exact op_eq pins s σ H _ _ v u Q I rx ry ⟨rfl, k _ (by simpa using hg) _ H (.refl _ _) (.bl _)⟩
  · cases qx; cases qy
    exact op_eq pins s σ H _ _ v u Q I rx ry ⟨rfl, k _ (by simpa using hg) _ H (.refl _ _) (.bl _)⟩
  · obtain ⟨h1, h2, hg⟩ := hg
    exact op_eqD hu pins s σ H _ _ v u Q I rx ry ⟨_, _, qx.dp h1.1, qy.dp h2.1, h1.2, h2.2, k _ hg _ H (.refl _ _) (.bl _)⟩
theorem op_dNe (hu : X.A.units + 64 < cLine) : OpR X (compareOp .NotEq) (rD dNe) := by
  intro pins s σ H x y v u Q I rx ry ⟨O, dx, dy, P, qx, qy, hO, hg, k⟩
  unfold dNe at hg
  split at hg
  · cases qx; cases qy
    exact op_ne pins s σ H _ _ v u Q I rx ry ⟨rfl, k _ (by simpa using hg) _ H (.refl _ _) (.bl _)⟩
  · cases qx; cases qy
    exact op_ne pins s σ H _ _ v u Q I rx ry ⟨rfl, k _ (by simpa using hg) _ H (.refl _ _) (.bl _)⟩
  · cases qx; cases qy
    exact op_ne pins s σ H _ _ v u Q I rx ry ⟨rfl, k _ (by simpa using hg) _ H (.refl _ _) (.bl _)⟩
  · obtain ⟨h1, h2, hg⟩ := hg
    exact op_neD hu pins s σ H _ _ v u Q I rx ry ⟨_, _, qx.dp h1.1, qy.dp h2.1, h1.2, h2.2, k _ hg _ H (.refl _ _) (.bl _)⟩
theorem op_dLe : OpR X (compareOp .LtE) (rD dLe) := by
  intro pins s σ H x y v u Q I rx ry ⟨O, dx, dy, P, qx, qy, hO, hg, k⟩
  unfold dLe at hg
  split at hg
  · cases qx; cases qy
    exact op_le pins s σ H _ _ v u Q I rx ry ⟨_, _, rfl, rfl, k _ hg _ H (.refl _ _) (.bl _)⟩
  · cases qx; cases qy
    exact op_le_str pins s σ H _ _ v u Q I rx ry ⟨_, _, rfl, rfl, k _ hg _ H (.refl _ _) (.bl _)⟩
  · exact hg.elim
theorem op_dLt : OpR X (compareOp .Lt) (rD dLt) := by
  intro pins s σ H x y v u Q I rx ry ⟨O, dx, dy, P, qx, qy, hO, hg, k⟩
  unfold dLt at hg
  split at hg
  · cases qx; cases qy
    exact op_lt pins s σ H _ _ v u Q I rx ry ⟨_, _, rfl, rfl, k _ hg _ H (.refl _ _) (.bl _)⟩
  · cases qx; cases qy
    exact op_lt_str pins s σ H _ _ v u Q I rx ry ⟨_, _, rfl, rfl, k _ hg _ H (.refl _ _) (.bl _)⟩
  · exact hg.elim
theorem op_dGe : OpR X (compareOp .GtE) (rD dGe) := by
  intro pins s σ H x y v u Q I rx ry ⟨O, dx, dy, P, qx, qy, hO, hg, k⟩
  unfold dGe at hg
  split at hg
  · cases qx; cases qy
    exact op_ge pins s σ H _ _ v u Q I rx ry ⟨_, _, rfl, rfl, k _ hg _ H (.refl _ _) (.bl _)⟩
  · exact hg.elim
theorem op_dGt : OpR X (compareOp .Gt) (rD dGt) := by
  intro pins s σ H x y v u Q I rx ry ⟨O, dx, dy, P, qx, qy, hO, hg, k⟩
  unfold dGt at hg
  split at hg
  · cases qx; cases qy
    exact op_gt pins s σ H _ _ v u Q I rx ry ⟨_, _, rfl, rfl, k _ hg _ H (.refl _ _) (.bl _)⟩
  · exact hg.elim
theorem op_dIsB : OpR X (compareOp .Is) (rD dIsB) := by
  intro pins s σ H x y v u Q I rx ry ⟨O, dx, dy, P, qx, qy, hO, hg, k⟩
  unfold dIsB at hg
  split at hg
  · cases qx; cases qy
    exact op_isBl pins s σ H _ _ v u Q I rx ry ⟨_, _, rfl, rfl, k _ hg _ H (.refl _ _) (.bl _)⟩
  · exact hg.elim
theorem op_dIn : OpR X (compareOp .In) (rD dIn) := by
  intro pins s σ H x y v u Q I rx ry ⟨O, dx, dy, P, qx, qy, hO, hg, k⟩
  unfold dIn at hg
  split at hg
  · obtain ⟨xs, h1, hg⟩ := hg
    cases qx
    cases qy with
    | lst x2 r2 a2 =>
      have e := strsOf_vs h1 a2
      subst e
      exact op_in_seq pins s σ H _ _ v u Q I rx ry ⟨_, _, rfl, .inl (.of r2), rfl, flat_strs _, k _ hg _ H (.refl _ _) (by rw [if_neg Bool.false_ne_true, inV_str]; exact .bl _)⟩
  · obtain ⟨xs, h1, hg⟩ := hg
    cases qx
    cases qy with
    | tup x2 r2 a2 =>
      have e := strsOf_vs h1 a2
      subst e
      exact op_in_seq pins s σ H _ _ v u Q I rx ry ⟨_, _, rfl, .inr (.inl r2), rfl, flat_strs _, k _ hg _ H (.refl _ _) (by rw [if_neg Bool.false_ne_true, inV_str]; exact .bl _)⟩
  · obtain ⟨xs, h1, hg⟩ := hg
    cases qx
    cases qy with
    | lst x2 r2 a2 =>
      have e := boolsOf_vs h1 a2
      subst e
      exact op_in_seq pins s σ H _ _ v u Q I rx ry ⟨_, _, rfl, .inl (.of r2), rfl, flat_bls _, k _ hg _ H (.refl _ _) (by rw [if_neg Bool.false_ne_true, inV_bl]; exact .bl _)⟩
  · obtain ⟨c, h1, hg⟩ := hg
    subst h1
    cases qx
    cases qy
    exact op_in_sign pins s σ H _ _ v u Q I rx ry ⟨_, _, rfl, rfl, k _ hg _ H (.refl _ _) (.bl _)⟩
  · exact hg.elim
end
end DL

set_option maxHeartbeats 2000000
namespace DL
open PySem PySem.Spec PyProof.Rows L2
/-! ### what is gone through -/
def DWalk (O : Ow) (J : It) (xs : List D) (H : Hp) : Prop := ∃ G : Hp → Prop, Walk J xs.length G (fun i H1 x H' => H' = H1 ∧ ∃ d, xs[i]? = some d ∧ Dq O H x d) ∧
  ∀ H2, (∀ b o, Out O b → H b = some o → H2 b = some o) → G H2
abbrev WI := Sl → (List D → Prop) → Prop
def tIW (W : WI) : TI := fun σ H R => ∃ (O : Ow) (ds : Sl) (P : List D → Prop), SlD O H σ ds ∧ OwnAll O H ∧ W ds P ∧ ∀ xs, P xs → ∀ J H', Ext O H H' → DWalk O J xs H' → R J H'
def wiTup (W : WE) : WI := fun ds P => W ds fun d => ∃ xs, d = .tup xs ∧ P xs
def wiLst (W : WE) : WI := fun ds P => W ds fun d => ∃ xs, d = .lst xs ∧ P xs
def signs (z : Str) : List D := z.cps.toList.map fun c => .str ⟨#[c]⟩
def wiStr (W : WE) : WI := fun ds P => W ds fun d => ∃ z, d = .str z ∧ P (signs z)
def intsD (n : Nat) : List D := (List.range n).map fun (k : Nat) => D.int (k : Int)
def wiRange (W : WE) : WI := fun ds P => W ds fun d => ∃ j : Int, d = .int j ∧ -(2 ^ 62) ≤ j ∧ j < 2 ^ 62 ∧ P (intsD j.toNat)
section
variable {X : Cx} {tg e : Expr} {W : WE}
theorem PI.weak {tg e : Expr} {t t' : TI} (h : PI X tg e t) (k : ∀ σ H Q, t' σ H Q → t σ H Q) : PI X tg e t' := ⟨fun pins s σ H Q I q => h.run pins s σ H Q I (k σ H Q q)⟩
theorem wi_tup (h : PE X e (tW W)) : PI X tg e (tIW (wiTup W)) := PI.weak (pi_tup h) fun σ H R ⟨O, ds, P, hS, hO, hW, k⟩ => ⟨O, ds, _, hS, hO, hW, fun d hd v H1 e1 q1 => by
  obtain ⟨xs, rfl, hp⟩ := hd
  cases q1 with
  | @tup a vs _ x r q =>
    refine ⟨a, rfl, ⟨vs, .inl r⟩, k xs hp _ H1 e1 ⟨fun H => SqT X.K H a vs, ?_, fun H2 k2 => .inl (rd_keep k2 x r)⟩⟩
    rw [← q.length]
    exact walk_tup.mono (fun H z => z) fun i H x H' hi z y => by
      obtain ⟨y1, y2⟩ := y
      have hi' : i < xs.length := by rw [← q.length]; exact hi
      obtain ⟨v, e1, q1⟩ := q.get (i := i) (d := xs[i]) (by simp [hi'])
      rw [y2] at e1
      cases e1
      exact ⟨y1, _, by simp [hi'], q1⟩⟩
theorem wi_lst (h : PE X e (tW W)) : PI X tg e (tIW (wiLst W)) := PI.weak (pi_list h) fun σ H R ⟨O, ds, P, hS, hO, hW, k⟩ => ⟨O, ds, _, hS, hO, hW, fun d hd v H1 e1 q1 => by
  obtain ⟨xs, rfl, hp⟩ := hd
  cases q1 with
  | @lst a vs _ x r q =>
    refine ⟨a, rfl, ⟨vs, .of r⟩, k xs hp _ H1 e1 ⟨fun H => SqL X.K H a vs, ?_, fun H2 k2 => .of (k2 _ _ x r)⟩⟩
    rw [← q.length]
    exact walk_list.mono (fun H z => z) fun i H x H' hi z y => by
      obtain ⟨y1, y2⟩ := y
      have hi' : i < xs.length := by rw [← q.length]; exact hi
      obtain ⟨v, e1, q1⟩ := q.get (i := i) (d := xs[i]) (by simp [hi'])
      rw [y2] at e1
      cases e1
      exact ⟨y1, _, by simp [hi'], q1⟩⟩
theorem wi_str (h : PE X e (tW W)) : PI X tg e (tIW (wiStr W)) := PI.weak (pi_str h) fun σ H R ⟨O, ds, P, hS, hO, hW, k⟩ => ⟨O, ds, _, hS, hO, hW, fun d hd v H1 e1 q1 => by
  obtain ⟨z, rfl, hp⟩ := hd
  cases q1
  refine ⟨z, rfl, k _ hp _ H1 e1 ⟨fun _ => True, ?_, fun _ _ => trivial⟩⟩
  have hl : (signs z).length = z.cps.size := by simp [signs]
  rw [hl]
  exact walk_str.mono (fun _ z => z) fun i H x H' hi _ y => by
    obtain ⟨y1, c, y2, rfl⟩ := y
    refine ⟨y1, .str ⟨#[c]⟩, ?_, .str _⟩
    unfold signs
    rw [List.getElem?_map, Array.getElem?_toList, y2]
    rfl⟩
theorem wi_range {p pos : Pos} (hg : Gl X "range") (hm : X.mg "range" = none) (h : PE X e (tW W)) (hs : starEach [e] X.env = [(false, eval e X.env)] := by rfl) : PI X tg (.Call (.Name "range" p) [e] [] pos) (tIW (wiRange W)) :=
  PI.weak (pi_range1 hg hm (pa_cons h pa_nil hs) hs) fun σ H R ⟨O, ds, P, hS, hO, hW, k⟩ => ⟨O, ds, _, hS, hO, hW, fun d hd v H1 e1 q1 => by
    obtain ⟨j, rfl, h1, h2, hp⟩ := hd
    cases q1
    refine ⟨j, rfl, h1, h2, k _ hp _ H1 e1 ⟨fun _ => True, ?_, fun _ _ => trivial⟩⟩
    have hl : (intsD j.toNat).length = j.toNat := by simp [intsD]
    rw [hl]
    exact walk_range.mono (fun _ z => z) fun i H x H' hi _ y => by
      obtain ⟨y1, rfl⟩ := y
      refine ⟨y1, .int (i : Int), ?_, ?_⟩
      · simp [intsD, hi]
      · show Dq O H1 (V.int (0 + (i : Int))) (D.int (i : Int))
        rw [Int.zero_add]
        exact .int _⟩
end
/-! ### a list comprehension -/
def wEach (f : D → (D → Prop) → Prop) : List D → (List D → Prop) → Prop
  | [], P => P []
  | x :: xs, P => f x fun y => wEach f xs fun ys => P (y :: ys)
def wLc (i : Nat) (Wi : WI) (We : WE) : WE := fun ds P => Wi ds fun xs => xs.length < sizeLine ∧ wEach (fun x P' => We (ds.set i (some x)) P') xs fun ys => P (.lst ys)
theorem lc_red {i : Nat} {Wi : WI} {We : WE} {σ : L2.St} {H : Hp} {Q : VK} (h : tW (wLc i Wi We) σ H Q) : tLc (tIW Wi) (gName i) tYes (tW We) [i] σ H Q := by
  obtain ⟨O, ds, P, hS, hO, hW, k⟩ := h
  refine ⟨O, ds, _, hS, hO, hW, fun xs ⟨hl, hx⟩ J H1 e1 ⟨G, w, hG⟩ D nD => ?_⟩
  have S1 := hS.mono e1
  have O1 := hO.mono e1
  have oD : Out O D := O1.out nD
  refine lc_it w (fun j H2 => ∃ acc dacc, H2 D = some (.lst acc) ∧ acc.length = j ∧ DqAll (O ++ [(D, .hold (.lst acc))]) H2 acc dacc ∧ OwnAll O H2 ∧ (∀ b o, Out O b → H1 b = some o → H2 b = some o) ∧
    wEach (fun x P' => We (ds.set i (some x)) P') (xs.drop j) (fun ys => P (.lst (dacc ++ ys)))) ?h0 ?hG ?hs ?hd
  case h0 => exact ⟨[], [], upd_same, rfl, .nil, O1.mono (.new nD), (Ext.new nD).keep, by simpa using hx⟩
  case hG =>
    rintro j H2 _ ⟨_, _, _, _, _, _, kp, _⟩
    exact hG H2 kp
  case hs =>
    rintro j x H2 H' hj ⟨acc, dacc, hD, ha, hq, hO2, kp, hw⟩ ⟨rfl, d, hd, qd⟩
    have ed : xs.drop j = d :: xs.drop (j + 1) := by
      obtain ⟨h1, h2⟩ := List.getElem?_eq_some_iff.mp hd
      rw [List.drop_eq_getElem_cons h1, h2]
    rw [ed] at hw
    refine ⟨?_, ?_⟩
    · show (((σ.set i none).set i (some x)).set i none) = σ.set i none
      rw [List.set_set, List.set_set]
    · unfold tYes
      dsimp only
      simp only [if_true]
      have neD : ∀ p ∈ O, p.1 ≠ D := fun p hp => (oD p hp).symm
      have kp' : ∀ b o, Out (O ++ [(D, .hold (.lst acc))]) b → H1 b = some o → H' b = some o := fun b o hb h => kp b o (fun p hp => hb p (List.mem_append_left _ hp)) h
      have qd' : Dq (O ++ [(D, .hold (.lst acc))]) H' x d := (qd.more nD).keep kp'
      have S2 : SlD (O ++ [(D, .hold (.lst acc))]) H' ((σ.set i none).set i (some x)) (ds.set i (some d)) := by
        rw [List.set_set]
        exact ((S1.more nD).keep kp').set i qd'
      refine ⟨O ++ [(D, .hold (.lst acc))], ds.set i (some d), fun dy => wEach (fun x P' => We (ds.set i (some x)) P') (xs.drop (j + 1)) (fun ys => P (.lst (dacc ++ dy :: ys))), S2, ?_, hw, fun dy hy v H4 e4 q4 => ?_⟩
      · refine ⟨fun p hp => ?_, fun p hp q hq e => ?_⟩
        · rcases List.mem_append.mp hp with h | h
          · exact hO2.here p h
          · have e : p = (D, .hold (.lst acc)) := by simpa using h
            subst e
            exact ⟨_, hD, rfl⟩
        · rcases List.mem_append.mp hp with h | h <;> rcases List.mem_append.mp hq with h' | h'
          · exact hO2.uq p h q h' e
          · have e' : q = (D, .hold (.lst acc)) := by simpa using h'
            subst e'
            exact absurd e (neD p h)
          · have e' : p = (D, .hold (.lst acc)) := by simpa using h
            subst e'
            exact absurd e.symm (neD q h')
          · have e1 : p = (D, .hold (.lst acc)) := by simpa using h
            have e2 : q = (D, .hold (.lst acc)) := by simpa using h'
            rw [e1, e2]
      · obtain ⟨o4, h4, k4⟩ := e4.own (D, .hold (.lst acc)) (by simp) ⟨_, hD, rfl⟩
        have k4' : o4 = .lst acc := k4
        subst k4'
        refine ⟨acc, h4, by omega, acc ++ [v], dacc ++ [dy], upd_same, by simp [ha], ?_, ?_, ?_, ?_⟩
        · refine DqAll.keep (H := H4) (fun b o hb h => ?_) ((hq.mono e4).append (.cons q4 .nil)).rehold
          rw [upd_ne (hb (D, .hold (.lst (acc ++ [v]))) (by simp))]
          exact h
        · refine ⟨fun p hp => ?_, hO2.uq⟩
          obtain ⟨o, h1, h2⟩ := e4.own p (List.mem_append_left _ hp) (hO2.here p hp)
          exact ⟨o, by rw [upd_ne (neD p hp)]; exact h1, h2⟩
        · intro b o hb h
          have hbD : b ≠ D := ne_of_none h nD
          rw [upd_ne hbD]
          refine e4.keep b o (fun p hp => ?_) (kp b o hb h)
          rcases List.mem_append.mp hp with h | h
          · exact hb p h
          · have e : p = (D, .hold (.lst acc)) := by simpa using h
            subst e
            exact hbD
        · rw [show (fun ys => P (DL.D.lst (dacc ++ [dy] ++ ys))) = fun ys => P (.lst (dacc ++ dy :: ys)) from by funext ys; rw [List.append_assoc]; rfl]
          exact hy
  case hd =>
    rintro H2 ⟨acc, dacc, hD, ha, hq, hO2, kp, hw⟩
    rw [List.drop_length] at hw
    have hw' : P (.lst (dacc ++ [])) := hw
    rw [List.append_nil] at hw'
    exact k _ hw' _ H2 (e1.trans ⟨kp, fun p hp _ => hO2.here p hp⟩) (.lst oD hD hq.less)
end DL

set_option maxHeartbeats 2000000
namespace DL
open PySem PySem.Spec PyProof.Rows L2
section
variable {X : Cx} {e a b : Expr} {W Wa Wb : WE} {pos p p2 p3 : Pos}
theorem we_lc {i : Nat} {x : Str} {elt tg iter : Expr} {scope : Scope} {Wi : WI} {We : WE} (hc : X.calm = true) (hN : X.N.Nodup) (hi : PI X tg iter (tIW Wi)) (ok : BlkOk X.N X.env.scope scope [(x, i)])
    (hg : ∀ (s : Shared) (H : Hp) (C : Addr) (cl : List (Str × Addr)) (fp : List Addr), PG (X.blk s H scope (compEnvC scope cl C X.env) fp) tg (gName i))
    (he : ∀ (s : Shared) (H : Hp) (C : Addr) (cl : List (Str × Addr)) (fp : List Addr), PE (X.blk s H scope (compEnvC scope cl C X.env) fp) elt (tW We)) (hs : ∀ x, foldedSetIterable iter X.env x = pure x := by intro _; rfl) :
    PE X (.ListComp elt [⟨tg, iter, [], 0⟩] scope pos) (tW (wLc i Wi We)) :=
  PE.weak (pe_lc (own := [(x, i)]) hc hN hi ok hg (fun _ _ _ _ _ => pts_nil) he hs) fun σ H Q h => lc_red h
/-- for x in range(..), by what holds between the turns -/
def gFor (i : Nat) (Wi : WI) (G : WS) : WS := fun ds N R Z => Wi ds fun xs => ∃ I : Nat → Sl → Prop, I 0 ds ∧ (∀ j x ds', xs[j]? = some x → I j ds' → G (ds'.set i (some x)) (I (j + 1)) R Z) ∧ ∀ ds', I xs.length ds' → N ds'
theorem ws_for {i : Nat} {x : Str} {tg iter : Expr} {body : List Stmt} {E : XK} {G : WS} {Wi : WI} (hp : PassesOwn (model X.prog X.w) X.A X.env X.xe) (hc : X.calm = true) (hi : PI X tg iter (tIW Wi)) (hg : PG X tg (gName i)) (hb : PSs X body (tSW E G))
    (hs : ∀ x, foldedSetIterable iter X.env x = pure x := by intro _; rfl) : PS X (.For tg iter body [] pos) (tSW E (gFor i Wi G)) :=
  PS.weak (ps_for hp hc hi hg hb hs) fun D σ H ⟨O, ds, N, R, Z, hS, hO, hG, hN, hR, hZ⟩ => ⟨O, ds, _, hS, hO, hG, fun xs ⟨I, h0, h1, h2⟩ J H1 e1 ⟨Gd, w, hGd⟩ => by
    refine for_it w (fun j σ2 H2 => ∃ ds', I j ds' ∧ SlD O H2 σ2 ds' ∧ Ext O H1 H2) ⟨ds, h0, hS.mono e1, .refl _ _⟩ (fun j σ2 H2 _ ⟨_, _, _, e2⟩ => hGd H2 e2.keep) ?_ ?_
    · rintro j x σ2 H2 H' hj ⟨ds', hI, hS2, e2⟩ ⟨rfl, d, hd, qd⟩
      have e3 := e1.trans e2
      exact ⟨O, ds'.set i (some d), I (j + 1), R, Z, hS2.set i (qd.mono e2), hO.mono e3, h1 j d ds' hd hI, fun d3 h3 σ3 H3 e4 s3 => ⟨d3, h3, s3, e2.trans e4⟩,
        fun d h v H3 e4 q => hR d h v H3 (e3.trans e4) q, fun C d h dx v H3 e4 q => hZ C d h dx v H3 (e3.trans e4) q⟩
    · rintro σ2 H2 ⟨ds', hI, hS2, e2⟩
      exact hN ds' (h2 ds' hI) σ2 H2 (e1.trans e2) hS2⟩
/-! ### isinstance -/
def tyD : D → Option String
  | .non => some "NoneType"
  | .bl _ => some "bool"
  | .int _ => some "int"
  | .str _ => some "str"
  | .lst _ => some "list"
  | .tup _ => some "tuple"
  | _ => none
theorem ty_of {K : PySem.W.Frag} {O : Ow} {H : Hp} {v : V} {d : D} {t : String} (q : Dq O H v d) (h : tyD d = some t) : TyX K H v (.type t) := by
  cases q <;> simp only [tyD, Option.some.injEq, reduceCtorEq] at h <;> subst h
  · exact .base .non
  · exact .base (.bl _)
  · exact .base (.int _)
  · exact .base (.str _)
  · rename_i a xs ds x r hq
    exact .base (.lst r)
  · rename_i a xs ds x r hq
    rcases r with r | ⟨o, r⟩
    · exact .base (.tup r)
    · exact .fTuple r
def isInt : D → Bool | .int _ => true | .bl _ => true | _ => false
def isStr : D → Bool | .str _ => true | _ => false
def isBl : D → Bool | .bl _ => true | _ => false
def isTup : D → Bool | .tup _ => true | _ => false
def isLst : D → Bool | .lst _ => true | _ => false
/-- what T asks of data -/
structure TyIs (T : String) (f : D → Bool) : Prop where
  is : ∀ d t, tyD d = some t → kitB t T = some (f d)
theorem tyIs_int : TyIs "int" isInt := ⟨fun d t h => by cases d <;> simp only [tyD, Option.some.injEq, reduceCtorEq] at h <;> subst h <;> first | (show kitB _ _ = some true; decide +kernel) | (show kitB _ _ = some false; decide +kernel)⟩
theorem tyIs_str : TyIs "str" isStr := ⟨fun d t h => by cases d <;> simp only [tyD, Option.some.injEq, reduceCtorEq] at h <;> subst h <;> first | (show kitB _ _ = some true; decide +kernel) | (show kitB _ _ = some false; decide +kernel)⟩
theorem tyIs_bool : TyIs "bool" isBl := ⟨fun d t h => by cases d <;> simp only [tyD, Option.some.injEq, reduceCtorEq] at h <;> subst h <;> first | (show kitB _ _ = some true; decide +kernel) | (show kitB _ _ = some false; decide +kernel)⟩
theorem tyIs_tuple : TyIs "tuple" isTup := ⟨fun d t h => by cases d <;> simp only [tyD, Option.some.injEq, reduceCtorEq] at h <;> subst h <;> first | (show kitB _ _ = some true; decide +kernel) | (show kitB _ _ = some false; decide +kernel)⟩
theorem tyIs_list : TyIs "list" isLst := ⟨fun d t h => by cases d <;> simp only [tyD, Option.some.injEq, reduceCtorEq] at h <;> subst h <;> first | (show kitB _ _ = some true; decide +kernel) | (show kitB _ _ = some false; decide +kernel)⟩
def wIsi (f : D → Bool) (W : WE) : WE := fun ds P => W ds fun d => (tyD d).isSome = true ∧ P (.bl (f d))
theorem we_isi {x1 x2 : Str} {T : String} {f : D → Bool} (hT : TyIs T f) (hg : Gl X "isinstance") (hm : X.mg "isinstance" = none) (hg2 : Gl X x2) (hm2 : X.mg x2 = none) (hv2 : bootBuiltins x2 = some (.type T)) (ha : PE X a (tW Wa))
    (hn : x2 ≠ "__name__" := by decide) (hd : (x2 == ("__debug__" : Str)) = false := by decide)
    (hs1 : starEach [a, .Name x2 p2] X.env = (false, eval a X.env) :: starEach [.Name x2 p2] X.env := by rfl) (hs2 : starEach [.Name x2 p2] X.env = (false, eval (.Name x2 p2) X.env) :: starEach [] X.env := by rfl)
    (hpl : (backTo pos (starEach [.Name x2 p2] X.env)).any (·.1) = false := by rfl) : PE X (.Call (.Name "isinstance" p) [a, .Name x2 p2] [] pos) (tW (wIsi f Wa)) :=
  PE.weak (pe_callB call_isi hg hm PyProof.Rows.boot_isinstance (pa_cons ha (pa_cons (pe_bltn (v := .ty T) hg2 hm2 hv2 rfl hn hd) pa_nil hs2) hs1) (by decide) (by decide) hs1 hpl)
    fun σ H Q ⟨O, ds, P, hS, hO, hW, k⟩ => ⟨O, ds, _, hS, hO, hW, fun d ⟨hty, hp⟩ v H1 e1 q1 => by
      obtain ⟨t, ht⟩ := Option.isSome_iff_exists.mp hty
      exact ⟨v, .ty T, _, .type T, f d, rfl, .ty T, ty_of q1 ht, kit_ty (hT.is d t ht), k _ hp _ H1 e1 (.bl _)⟩⟩
/-- isinstance(a, (T, U)) -/
theorem we_isi2 {x2 x3 : Str} {T U : String} {f g : D → Bool} {pt : Pos} {k1} (hT : TyIs T f) (hU : TyIs U g) (hg : Gl X "isinstance") (hm : X.mg "isinstance" = none) (hg2 : Gl X x2) (hm2 : X.mg x2 = none) (hv2 : bootBuiltins x2 = some (.type T))
    (hg3 : Gl X x3) (hm3 : X.mg x3 = none) (hv3 : bootBuiltins x3 = some (.type U)) (ha : PE X a (tW Wa))
    (hn : x2 ≠ "__name__" := by decide) (hd : (x2 == ("__debug__" : Str)) = false := by decide) (hn3 : x3 ≠ "__name__" := by decide) (hd3 : (x3 == ("__debug__" : Str)) = false := by decide)
    (hs1 : starEach [a, .Tuple [.Name x2 p2, .Name x3 p3] k1 pt] X.env = (false, eval a X.env) :: starEach [.Tuple [.Name x2 p2, .Name x3 p3] k1 pt] X.env := by rfl)
    (hs2 : starEach [.Tuple [.Name x2 p2, .Name x3 p3] k1 pt] X.env = (false, eval (.Tuple [.Name x2 p2, .Name x3 p3] k1 pt) X.env) :: starEach [] X.env := by rfl)
    (hs3 : starEach [.Name x2 p2, .Name x3 p3] X.env = (false, eval (.Name x2 p2) X.env) :: starEach [.Name x3 p3] X.env := by rfl) (hs4 : starEach [.Name x3 p3] X.env = (false, eval (.Name x3 p3) X.env) :: starEach [] X.env := by rfl)
    (hpl : (backTo pos (starEach [.Tuple [.Name x2 p2, .Name x3 p3] k1 pt] X.env)).any (·.1) = false := by rfl) : PE X (.Call (.Name "isinstance" p) [a, .Tuple [.Name x2 p2, .Name x3 p3] k1 pt] [] pos) (tW (wIsi (fun d => f d || g d) Wa)) :=
  PE.weak (pe_callB call_isiT hg hm PyProof.Rows.boot_isinstance (pa_cons ha (pa_cons (pe_tup (pa_cons (pe_bltn (v := .ty T) hg2 hm2 hv2 rfl hn hd) (pa_cons (pe_bltn (v := .ty U) hg3 hm3 hv3 rfl hn3 hd3) pa_nil hs4) hs3)) pa_nil hs2) hs1) (by decide) (by decide) hs1 hpl)
    fun σ H Q ⟨O, ds, P, hS, hO, hW, k⟩ => ⟨O, ds, _, hS, hO, hW, fun d ⟨hty, hp⟩ v H1 e1 q1 => by
      obtain ⟨t, ht⟩ := Option.isSome_iff_exists.mp hty
      refine ⟨by show 2 ≤ sizeLine; decide, fun tp np => ⟨v, tp, [.ty T, .ty U], _, [.type T, .type U], f d || g d, rfl, upd_same, .cons (.ty T) (.cons (.ty U) .nil), ty_of (q1.mono (.new np)) ht, ?_, k _ hp _ _ (e1.trans (.new np)) (.bl _)⟩⟩
      refine kitAny_cons (kit_ty (hT.is d t ht)) (fun hf => ?_) (fun hf => by rw [hf]; rfl)
      rw [hf]
      refine kitAny_cons (kit_ty (hU.is d t ht)) (fun hf => ?_) (fun hf => by rw [hf]; rfl)
      rw [hf]
      exact kitAny_nil⟩
/-! ### built-ins -/
def fLen : DFn := fun es P => match es with
  | [.str x] => x.length ≤ sizeLine ∧ P (.int x.length)
  | [.lst xs] => P (.int xs.length)
  | [.tup xs] => P (.int xs.length)
  | _ => False
theorem call_fLen : CallR X (.builtin "len") (rF fLen) := by
  intro pins s σ H xs us Q I r ⟨O, es, P, hq, hO, hg, k⟩
  unfold fLen at hg
  split at hg
  · cases hq with
    | cons a b =>
      cases a; cases b
      exact call_len pins s σ H _ us Q I r ⟨_, _, rfl, ⟨hg.1, rfl⟩, k _ hg.2 _ H (.refl _ _) (.int _)⟩
  · cases hq with
    | cons a b =>
      cases b
      cases a with
      | lst x1 r1 a1 => exact call_len pins s σ H _ us Q I r ⟨_, _, rfl, .inl ⟨_, .of r1, rfl⟩, k _ (by rw [a1.length]; exact hg) _ H (.refl _ _) (.int _)⟩
  · cases hq with
    | cons a b =>
      cases b
      cases a with
      | tup x1 r1 a1 => exact call_len pins s σ H _ us Q I r ⟨_, _, rfl, .inr ⟨_, .inl r1, rfl⟩, k _ (by rw [a1.length]; exact hg) _ H (.refl _ _) (.int _)⟩
  · exact hg.elim
def fAll : DFn := fun es P => match es with
  | [.lst ds] => ∃ bs, boolsOf ds = some bs ∧ P (.bl (bs.all id))
  | _ => False
theorem call_fAll (hc : X.calm = true) : CallR X (.builtin "all") (rF fAll) := by
  intro pins s σ H xs us Q I r ⟨O, es, P, hq, hO, hg, k⟩
  unfold fAll at hg
  split at hg
  · obtain ⟨bs, h1, hg⟩ := hg
    cases hq with
    | cons a b =>
      cases b
      cases a with
      | lst x1 r1 a1 =>
        have e := boolsOf_vs h1 a1
        subst e
        exact cr_all hc pins s σ H _ us Q I r ⟨_, bs, rfl, .of r1, k _ hg _ H (.refl _ _) (.bl _)⟩
  · exact hg.elim
def fAny : DFn := fun es P => match es with
  | [.lst ds] => ∃ bs, boolsOf ds = some bs ∧ P (.bl (bs.any id))
  | _ => False
theorem call_fAny (hc : X.calm = true) : CallR X (.builtin "any") (rF fAny) := by
  intro pins s σ H xs us Q I r ⟨O, es, P, hq, hO, hg, k⟩
  unfold fAny at hg
  split at hg
  · obtain ⟨bs, h1, hg⟩ := hg
    cases hq with
    | cons a b =>
      cases b
      cases a with
      | lst x1 r1 a1 =>
        have e := boolsOf_vs h1 a1
        subst e
        exact cr_any hc pins s σ H _ us Q I r ⟨_, bs, rfl, .of r1, k _ hg _ H (.refl _ _) (.bl _)⟩
  · exact hg.elim
def fMax : DFn := fun es P => match es with
  | [.int i, .int j] => P (.int (if j > i then j else i))
  | _ => False
theorem call_fMax (hc : X.calm = true) : CallR X (.builtin "max") (rF fMax) := by
  intro pins s σ H xs us Q I r ⟨O, es, P, hq, hO, hg, k⟩
  unfold fMax at hg
  split at hg
  · cases hq with
    | cons a b =>
      cases b with
      | cons a2 b2 =>
        cases b2; cases a; cases a2
        exact call_max2 hc pins s σ H _ us Q I r ⟨_, _, rfl, k _ hg _ H (.refl _ _) (.int _)⟩
  · exact hg.elim
def fInt : DFn := fun es P => match es with
  | [.int i] => P (.int i)
  | [.bl b] => P (.int (if b then 1 else 0))
  | _ => False
theorem call_fInt : CallR X (.type "int") (rF fInt) := by
  intro pins s σ H xs us Q I r ⟨O, es, P, hq, hO, hg, k⟩
  unfold fInt at hg
  split at hg
  · cases hq with
    | cons a b =>
      cases b; cases a
      exact call_int1 pins s σ H _ us Q I r (.inl ⟨_, rfl, k _ hg _ H (.refl _ _) (.int _)⟩)
  · cases hq with
    | cons a b =>
      cases b; cases a
      exact call_int1 pins s σ H _ us Q I r (.inr ⟨_, rfl, k _ hg _ H (.refl _ _) (.int _)⟩)
  · exact hg.elim
def fTuple : DFn := fun es P => match es with
  | [.lst ds] => P (.tup ds)
  | [.tup ds] => P (.tup ds)
  | _ => False
theorem call_fTuple : CallR X (.type "tuple") (rF fTuple) := by
  intro pins s σ H xs us Q I r ⟨O, es, P, hq, hO, hg, k⟩
  unfold fTuple at hg
  split at hg
  · cases hq with
    | cons a b =>
      cases b
      cases a with
      | lst x1 r1 a1 => exact call_tuple_of pins s σ H _ us Q I r ⟨_, _, rfl, .inl ⟨.of r1, fun l nl => k _ hg _ _ (.new nl) (.tup (hO.out nl) (.of upd_same) (a1.mono (.new nl)))⟩⟩
  · cases hq with
    | cons a b =>
      cases b
      cases a with
      | tup x1 r1 a1 => exact call_tuple_of pins s σ H _ us Q I r ⟨_, _, rfl, .inr ⟨.inl r1, k _ hg _ H (.refl _ _) (.tup x1 r1 a1)⟩⟩
  · exact hg.elim
def fList : DFn := fun es P => match es with
  | [.lst ds] => P (.lst ds)
  | [.tup ds] => P (.lst ds)
  | _ => False
theorem call_fList : CallR X (.type "list") (rF fList) := by
  intro pins s σ H xs us Q I r ⟨O, es, P, hq, hO, hg, k⟩
  unfold fList at hg
  split at hg
  · cases hq with
    | cons a b =>
      cases b
      cases a with
      | lst x1 r1 a1 => exact call_list_of pins s σ H _ us Q I r ⟨_, _, rfl, .inl (.of r1), fun l nl => k _ hg _ _ (.new nl) (.lst (hO.out nl) upd_same (a1.mono (.new nl)))⟩
  · cases hq with
    | cons a b =>
      cases b
      cases a with
      | tup x1 r1 a1 => exact call_list_of pins s σ H _ us Q I r ⟨_, _, rfl, .inr (.inl r1), fun l nl => k _ hg _ _ (.new nl) (.lst (hO.out nl) upd_same (a1.mono (.new nl)))⟩
  · exact hg.elim
/-! ### subscripts, slices -/
theorem DqAll.atI {O : Ow} {H : Hp} {vs : List V} {ds : List D} {i : Int} {d : D} (h : DqAll O H vs ds) (e : atI ds i = some d) : ∃ v, L2.atI vs i = some v ∧ Dq O H v d := by
  unfold L2.atI at e ⊢
  rw [h.length]
  cases q : ixN ds.length i with
  | none => rw [q] at e; cases e
  | some j =>
    rw [q] at e
    exact h.get (i := j) e
def dIx : DOp := fun x y P => match x, y with
  | .tup ds, .int i => ∃ d, L2.atI ds i = some d ∧ P d
  | .lst ds, .int i => ∃ d, L2.atI ds i = some d ∧ P d
  | .str z, .int i => z.length ≤ sizeLine ∧ ∃ c, L2.atI z.cps.toList i = some c ∧ P (.str ⟨#[c]⟩)
  | _, _ => False
theorem ix_d : IxR X (rD dIx) := by
  intro value slice pins s σ H x y v u Q I rx ry ⟨O, dx, dy, P, qx, qy, hO, hg, k⟩ hs
  unfold dIx at hg
  split at hg
  · obtain ⟨d, h1, hg⟩ := hg
    cases qy
    cases qx with
    | tup x1 r1 a1 =>
      obtain ⟨w, e1, q1⟩ := a1.atI h1
      exact ix_tup value slice pins s σ H _ _ v u Q I rx ry ⟨_, _, _, _, rfl, rfl, .inl r1, e1, k _ hg _ H (.refl _ _) q1⟩ hs
  · obtain ⟨d, h1, hg⟩ := hg
    cases qy
    cases qx with
    | lst x1 r1 a1 =>
      obtain ⟨w, e1, q1⟩ := a1.atI h1
      exact ix_list value slice pins s σ H _ _ v u Q I rx ry ⟨_, _, _, _, rfl, rfl, .of r1, e1, k _ hg _ H (.refl _ _) q1⟩ hs
  · obtain ⟨hz, c, h1, hg⟩ := hg
    cases qy
    cases qx
    exact ix_str value slice pins s σ H _ _ v u Q I rx ry ⟨_, _, _, rfl, rfl, hz, h1, k _ hg _ H (.refl _ _) (.str _)⟩ hs
  · exact hg.elim
theorem we_ix (ha : PE X a (tW Wa)) (hb : PE X b (tW Wb)) (hs : PlainIx b := by exact fun _ _ => rfl) : PE X (.Subscript a b pos) (tW (wOp dIx Wa Wb)) := PE.weak (pe_ix ix_d ha hb hs) fun _ _ _ h => op_red h
abbrev WO := Sl → (Option Int → Prop) → Prop
def tOW (L : WO) : TO := fun σ H Q => ∃ (O : Ow) (ds : Sl) (P : Option Int → Prop), SlD O H σ ds ∧ OwnAll O H ∧ L ds P ∧ ∀ o, P o → ∀ H', Ext O H H' → Q o H'
def woNone : WO := fun _ P => P none
def woSome (W : WE) : WO := fun ds P => W ds fun d => ∃ i, d = .int i ∧ P (some i)
theorem PO.weak {e : Option Expr} {t t' : TO} (h : PO X e t) (k : ∀ σ H Q, t' σ H Q → t σ H Q) : PO X e t' := ⟨fun pins s σ H Q I q => h.run pins s σ H Q I (k σ H Q q)⟩
theorem wo_none : PO X none (tOW woNone) := PO.weak po_none fun σ H Q ⟨O, ds, P, hS, hO, hW, k⟩ => k none hW H (.refl _ _)
theorem wo_some (h : PE X e (tW W)) : PO X (some e) (tOW (woSome W)) := PO.weak (po_some h) fun σ H Q ⟨O, ds, P, hS, hO, hW, k⟩ => ⟨O, ds, _, hS, hO, hW, fun d hd v H1 e1 q1 => by
  obtain ⟨i, rfl, hp⟩ := hd
  cases q1
  exact ⟨i, rfl, k _ hp H1 e1⟩⟩
def cutD (xs : List D) (lo hi : Option Int) : List D := (xs.drop (HT.sIx xs.length 0 lo)).take (HT.sIx xs.length xs.length hi - HT.sIx xs.length 0 lo)
theorem DqAll.cut {O : Ow} {H : Hp} {vs : List V} {ds : List D} (h : DqAll O H vs ds) (lo hi : Option Int) : DqAll O H (cutV vs lo hi) (cutD ds lo hi) := by
  unfold cutV cutD
  rw [h.length]
  exact (h.drop _).take _
def dSlT (x : D) (lo hi : Option Int) (P : D → Prop) : Prop := match x with
  | .tup ds => P (.tup (cutD ds lo hi))
  | _ => False
def dSlL (x : D) (lo hi : Option Int) (P : D → Prop) : Prop := match x with
  | .lst ds => P (.lst (cutD ds lo hi))
  | _ => False
def wSl (f : D → Option Int → Option Int → (D → Prop) → Prop) (W : WE) (lo hi : WO) : WE := fun ds P => W ds fun x => lo ds fun l => hi ds fun h => f x l h P
theorem cut_whole (ds : List D) (lo hi : Option Int) (h : HT.sIx ds.length 0 lo = 0 ∧ HT.sIx ds.length ds.length hi = ds.length) : cutD ds lo hi = ds := by
  unfold cutD
  rw [h.1, h.2]
  simp
theorem we_slT {lo hi : Option Expr} {Lo Hi : WO} (ha : PE X a (tW Wa)) (hl : PO X lo (tOW Lo)) (hh : PO X hi (tOW Hi)) : PE X (.Subscript a (.Slice lo hi none p2) pos) (tW (wSl dSlT Wa Lo Hi)) :=
  PE.weak (pe_slice sl_tupA ha hl hh) fun σ H Q ⟨O, ds, P, hS, hO, hW, k⟩ => ⟨O, ds, _, hS, hO, hW, fun d hd v H1 e1 q1 => ⟨O, ds, _, hS.mono e1, hO.mono e1, hd, fun l hl H2 e2 => ⟨O, ds, _, hS.mono (e1.trans e2), (hO.mono e1).mono e2, hl, fun h hh H3 e3 => by
    have O3 := ((hO.mono e1).mono e2).mono e3
    have q3 := q1.mono (e2.trans e3)
    have E3 := (e1.trans e2).trans e3
    unfold dSlT at hh
    split at hh
    · cases q3 with
      | tup x1 r1 a1 =>
        refine ⟨_, _, rfl, .inl r1, fun hw => ?_, fun hw p np => ?_⟩
        · rw [a1.length] at hw
          rw [cut_whole _ _ _ hw] at hh
          exact k _ hh _ H3 E3 (.tup x1 r1 a1)
        · exact k _ hh _ _ (E3.trans (.new np)) (.tup (O3.out np) (.of upd_same) ((a1.cut _ _).mono (.new np)))
    · exact hh.elim⟩⟩⟩
theorem we_slL {lo hi : Option Expr} {Lo Hi : WO} (ha : PE X a (tW Wa)) (hl : PO X lo (tOW Lo)) (hh : PO X hi (tOW Hi)) : PE X (.Subscript a (.Slice lo hi none p2) pos) (tW (wSl dSlL Wa Lo Hi)) :=
  PE.weak (pe_slice sl_list ha hl hh) fun σ H Q ⟨O, ds, P, hS, hO, hW, k⟩ => ⟨O, ds, _, hS, hO, hW, fun d hd v H1 e1 q1 => ⟨O, ds, _, hS.mono e1, hO.mono e1, hd, fun l hl H2 e2 => ⟨O, ds, _, hS.mono (e1.trans e2), (hO.mono e1).mono e2, hl, fun h hh H3 e3 => by
    have O3 := ((hO.mono e1).mono e2).mono e3
    have q3 := q1.mono (e2.trans e3)
    have E3 := (e1.trans e2).trans e3
    unfold dSlL at hh
    split at hh
    · cases q3 with
      | lst x1 r1 a1 => exact ⟨_, _, rfl, .of r1, fun p np => k _ hh _ _ (E3.trans (.new np)) (.lst (O3.out np) upd_same ((a1.cut _ _).mono (.new np)))⟩
    · exact hh.elim⟩⟩⟩
end
end DL

set_option maxHeartbeats 2000000
namespace DL
open PySem PySem.Spec PyProof.Rows L2
section
variable {X : Cx} {e a b : Expr} {W Wa Wb : WE} {pos p p2 p3 : Pos} {x : Str}
/-- a number of the module's top -/
theorem we_k {i : Int} (hg : Gl X x) (hm : ∃ t, X.mg x = some (.int i t)) (hd : (x == ("__debug__" : Str)) = false := by decide) : PE X (.Name x pos) (tW (wC (.int i))) := by
  obtain ⟨t, hm⟩ := hm
  exact we_c (pe_glob (v := .int i) hg hm ⟨t, rfl⟩ hd)
def dNeg (d : D) (P : D → Prop) : Prop := match d with
  | .int i => P (.int (-i))
  | _ => False
def wNeg (W : WE) : WE := fun ds P => W ds fun d => dNeg d P
theorem we_neg (h : PE X e (tW W)) : PE X (.UnaryOp .USub e pos) (tW (wNeg W)) := PE.weak (pe_un un_neg h) fun σ H Q ⟨O, ds, P, hS, hO, hW, k⟩ => ⟨O, ds, _, hS, hO, hW, fun d hd v H1 e1 q1 => by
  unfold dNeg at hd
  split at hd
  · cases q1
    exact ⟨_, rfl, k _ hd _ H1 e1 (.int _)⟩
  · exact hd.elim⟩
/-- in, of a tuple of texts that the top has made -/
def KTexts (K : PySem.W.Frag) (mg : Str → Option Value) (x : Str) (zs : List Str) : Prop := ∃ (q : Addr), mg x = some (.ref q) ∧ ∃ (o : Obj) (its : Array Value) (n : Nat), K.lookup q = some o ∧ o.cls = .type "tuple" ∧ o.data = .seq its n ∧ its.size ≤ sizeLine ∧ Vals (zs.map V.str) its.toList
def wInK (zs : List Str) (W : WE) : WE := fun ds P => W ds fun d => ∃ a, d = .str a ∧ P (.bl (decide (a ∈ zs)))
theorem inK_red {zs : List Str} {q : Addr} {σ : L2.St} {H : Hp} {Q : VK} (hq : ∀ H : Hp, SqT X.K H q (zs.map V.str)) (h : tW (wInK zs W) σ H Q) : tOp (rIn X.K false) (tW W) (tC (.ref q)) σ H Q := by
  obtain ⟨O, ds, P, hS, hO, hW, k⟩ := h
  refine ⟨O, ds, _, hS, hO, hW, fun d hd v H1 e1 q1 => ?_⟩
  obtain ⟨a, rfl, hp⟩ := hd
  cases q1
  refine ⟨q, _, rfl, .inr (hq H1), rfl, flat_strs _, ?_⟩
  rw [if_neg Bool.false_ne_true, inV_str]
  exact k _ hp _ H1 e1 (.bl _)
theorem we_inK {zs : List Str} (ha : PE X a (tW W)) (hg : Gl X x) (hk : KTexts X.K X.mg x zs) (hd : (x == ("__debug__" : Str)) = false := by decide) (hm : behindInMarks .In (.Name x p2) = false := by with_unfolding_all rfl) :
    PE X (.Compare a [.In] [.Name x p2] pos) (tW (wInK zs W)) := by
  obtain ⟨q, hmg, o, its, n, h1, h2, h3, h4, h5⟩ := hk
  exact PE.weak (pe_cmpR op_in_seq ha (pe_glob (v := .ref q) hg hmg rfl hd) hm) fun σ H Q h => inK_red (fun _ => .inr ⟨o, its, n, h1, h2, h3, h4, h5⟩) h
/-- a[lo:hi] of a tuple or list -/
def dSl (x : D) (lo hi : Option Int) (P : D → Prop) : Prop := match x with
  | .tup ds => P (.tup (cutD ds lo hi))
  | .lst ds => P (.lst (cutD ds lo hi))
  | _ => False
theorem we_sl {lo hi : Option Expr} {Lo Hi : WO} (ha : PE X a (tW Wa)) (hl : PO X lo (tOW Lo)) (hh : PO X hi (tOW Hi)) : PE X (.Subscript a (.Slice lo hi none p2) pos) (tW (wSl dSl Wa Lo Hi)) :=
  PE.weak (pe_slice (sl_tupA.or sl_list) ha hl hh) fun σ H Q ⟨O, ds, P, hS, hO, hW, k⟩ => ⟨O, ds, _, hS, hO, hW, fun d hd v H1 e1 q1 => ⟨O, ds, _, hS.mono e1, hO.mono e1, hd, fun l hl H2 e2 => ⟨O, ds, _, hS.mono (e1.trans e2), (hO.mono e1).mono e2, hl, fun h hh H3 e3 => by
    have O3 := ((hO.mono e1).mono e2).mono e3
    have q3 := q1.mono (e2.trans e3)
    have E3 := (e1.trans e2).trans e3
    unfold dSl at hh
    split at hh
    · cases q3 with
      | tup x1 r1 a1 =>
        refine .inl ⟨_, _, rfl, .inl r1, fun hw => ?_, fun hw p np => ?_⟩
        · rw [a1.length] at hw
          rw [cut_whole _ _ _ hw] at hh
          exact k _ hh _ H3 E3 (.tup x1 r1 a1)
        · exact k _ hh _ _ (E3.trans (.new np)) (.tup (O3.out np) (.of upd_same) ((a1.cut _ _).mono (.new np)))
    · cases q3 with
      | lst x1 r1 a1 => exact .inr ⟨_, _, rfl, .of r1, fun p np => k _ hh _ _ (E3.trans (.new np)) (.lst (O3.out np) upd_same ((a1.cut _ _).mono (.new np)))⟩
    · exact hh.elim⟩⟩⟩
/-- z.join(list of texts) -/
def wJoin (z : Str) (W : WE) : WE := fun ds P => W ds fun d => ∃ es xs, d = .lst es ∧ strsOf es = some xs ∧ (xs.map (·.length)).sum + xs.length * z.length ≤ 16777216 ∧ P (.str (Txt.join z xs))
theorem we_join {z : Str} {j : Nat} {pc pa : Pos} (ha : PE X e (tW W))
    (hbase : attributeBase (.Constant (.str z) j pc) "join" X.env (eval (.Constant (.str z) j pc) X.env) = eval (.Constant (.str z) j pc) X.env := by rfl)
    (hfew : ((backTo pos (starEach [e] X.env)).all (fun x => !x.1) && (backToKw pos (keywordEach [] X.env)).all (fun x => x.1.isSome)
      && decide (([e] : List Expr).length + ([] : List Keyword).length + (if ([] : List Keyword).isEmpty then 0 else 1) < 30)) = true := by rfl)
    (hline : (pa.endLine == pos.line) = true := by rfl) (hs : starEach [e] X.env = (false, eval e X.env) :: starEach [] X.env := by rfl) (hpl : (backTo pos (starEach [] X.env)).any (·.1) = false := by rfl) :
    PE X (.Call (.Attribute (.Constant (.str z) j pc) "join" pa) [e] [] pos) (tW (wJoin z W)) :=
  PE.weak (pe_bm PySem.F.plainAttrs_str PySem.F.slot_str_join PySem.F.type_str_join mt_join pe_str (pa_cons ha pa_nil hs) hbase hfew hline hs hpl) fun σ H Q ⟨O, ds, P, hS, hO, hW, k⟩ =>
    ⟨rfl, O, ds, _, hS, hO, hW, fun d hd v H1 e1 q1 => by
      obtain ⟨es, xs, rfl, h1, h2, hp⟩ := hd
      cases q1 with
      | lst x1 r1 a1 =>
        have ev := strsOf_vs h1 a1
        subst ev
        exact ⟨z, _, xs, rfl, rfl, .inl (.of r1), h2, k _ hp _ H1 e1 (.str _)⟩⟩
/-- repr of data, where nothing is being written -/
def fRepr : DFn := fun es P => match es with
  | [d] => d.pl = true ∧ d.py.showable = true ∧ d.py.hasDict = false ∧ d.py.depth ≤ 60 ∧ d.py.shown.length ≤ sizeLine ∧ P (.str d.py.shown)
  | _ => False
end
/-! ### defs that ask that nothing is being written (repr) -/
structure FnG (P : Program) (w : World) (K : PySem.W.Frag) (mg : Str → Option Value) (base : Heap) (CX : CXT) (k : Nat) (f : Addr) (fd : FuncData) (ps : List Str) (sp : Sp) : Prop where
  len : ∀ vs H Q E, sp vs H Q E → vs.length = ps.length
  go : ∀ (A : Around) (outer : List Env) (s : Shared) (H : Hp) (ar : Args) (us : List Value) (vs : List V) (Q : VK) (E : XK), A.guards = some [] → Room k A → Env0 P w K mg base A outer s H → BindsTo s fd ar (ps.zip us) → Vals vs us → sp vs H Q E →
    codeAny (model P w) A (.call (.ref f) ar) (CR CX outer P w H s Q E) s
section
variable {P : Program} {w : World} {K : PySem.W.Frag} {mg : Str → Option Value} {base : Heap}
theorem FnG.of {CX : CXT} {k : Nat} {f : Addr} {x qual : Str} {st : Stmt} {fd : FuncData} {N ps : List Str} {sp : Sp} (F : Fun K x qual st f fd) (S : FnScope N ps (defScope st)) (len : ∀ vs H Q E, sp vs H Q E → vs.length = ps.length)
    (hb : ∀ (cdv : Value) (A : Around) (outer : List Env) (s : Shared) (H : Hp) (vs : List V) (Q : VK) (E : XK), A.guards = some [] → Room k (A.deeper (envOfC qual (defScope st) s.heap.objs.size f cdv)) → sp vs H Q E →
      ∃ t, PSs (cxOf CX P w K mg base N qual (defScope st) f cdv A outer s H E) (defBody st) t ∧ t { nx := fun _ H' => Q .non H', rt := Q } (L2.start N vs) H) : FnG P w K mg base CX (k + 1) f fd ps sp := by
  obtain ⟨oc, od, kV, doc, pm, an, cdv, ct, osl, rfl, lk, hcd⟩ := F.ex
  refine ⟨len, fun A outer s H ar us vs Q E hgd hr ev hbd hvs hsp => ?_⟩
  have kin : K.In s.heap := ev.mod.kin.keeps fun c u z => (ev.bs c u z).1
  have nol : s.heap.NoLimit := ev.mod.nolimit.keeps fun c u z => (ev.bs c u z).1
  refine codeAny_call_function hr.depth (kin _ _ lk) rfl S.co S.gen rfl (PySem.W.codeRec_of kin hcd) (hbd _ _ _ _ ?_)
  refine wpAny_newFunctionEnv_cells S.kind (fun y hy => ?_) fun env he s1 ic => ?_
  · rcases S.par y.1 (List.of_mem_zip (a := y.1) (b := y.2) hy).1 with z | z
    · exact .inl z
    · exact .inr ⟨z, PySem.W.cellsFrom_some _ _ _ (.inl z)⟩
  · subst he
    refine ⟨nol.keeps ic.toInCall.keep, codeAny_func ?_⟩
    obtain ⟨t, ht, q⟩ := hb cdv A outer s H vs Q E hgd (hr.deeper _) hsp
    have J : Inv (cxOf CX P w K mg base N qual (defScope st) f cdv A outer s H E) [] (L2.start N vs) H s1 := inv_start S hr.hd ev (len _ _ _ _ hsp) hvs ic
    refine wpAny_mono (ht.run [] s1 (L2.start N vs) H _ J q) (fun fl s' z => ?_) fun _ _ z => z
    cases fl with
    | ret u =>
      obtain ⟨v, σ', H', J', rv, q'⟩ := z
      exact ⟨v, H', J'.os, J'.bare, J'.base, J'.hok, rv, q'⟩
    | next =>
      obtain ⟨σ', H', J', q'⟩ := z
      exact ⟨V.non, H', J'.os, J'.bare, J'.base, J'.hok, rfl, q'⟩
    | brk =>
      obtain ⟨_, _, _, q'⟩ := z
      exact q'.elim
    | cont =>
      obtain ⟨_, _, _, q'⟩ := z
      exact q'.elim
/-- as fn_ok -/
theorem fnG_ok {x qual : Str} {st : Stmt} {f : Addr} {fd : FuncData} {N ps : List Str} {k : Nat} {g : DFn} (F : Fun K x qual st f fd) (S : FnScope N ps (defScope st)) (len : ∀ es P, g es P → es.length = ps.length)
    (hbody : ∀ (cdv : Value) (A : Around) (outer : List Env) (s : Shared) (H : Hp) (E : XK), A.guards = some [] → Room k (A.deeper (envOfC qual (defScope st) s.heap.objs.size f cdv)) →
      ∃ G, PSs (cxOf CX0 P w K mg base N qual (defScope st) f cdv A outer s H E).nox (defBody st) (tSW (fun _ _ _ => False) G) ∧ ∀ es P, g es P → G (startD N es) (fun _ => P .non) P fun _ _ => False) :
    FnG P w K mg base CX0 (k + 1) f fd ps (spD fun es P _ => g es P) :=
  FnG.of F S (fun vs H Q E ⟨O, es, P, Z, hq, hO, hg, _⟩ => by rw [hq.length]; exact len _ _ hg) fun cdv A outer s H vs Q E hgd hr ⟨O, es, P, Z, hq, hO, hg, hP, hZ⟩ => by
    obtain ⟨G, h1, h2⟩ := hbody cdv A outer s H E hgd hr
    exact ⟨_, h1.nox, O, startD N es, _, P, _, start_sl hq, hO, h2 es P hg, fun ds' hd σ' H' e1 _ => hP _ hd _ H' e1 .non, hP, fun _ _ z => z.elim⟩
end
section
variable {X : Cx} {k : Nat} {f : Addr} {fd : FuncData} {ps : List Str} {x : Str} {p pos : Pos} {e : Expr} {es : List Expr} {A : WA} {ta : TA}
theorem pe_callG {sp : Sp} (F : FnG X.prog X.w X.K X.mg X.base CX0 k f fd ps sp) (hgd : X.A.guards = some []) (hr : Room k X.A) (hg : Gl X x) (hm : X.mg x = some (.ref f)) (hk : PySem.W.keepIn X.K (.ref f) = true) (hb : Binds X.K fd ps [])
    (ha : PA X (e :: es) ta) (hdb : (x == ("__debug__" : Str)) = false := by decide) (he : starEach (e :: es) X.env = (false, eval e X.env) :: starEach es X.env := by rfl) (hpl : (backTo pos (starEach es X.env)).any (·.1) = false := by rfl) :
    PE X (.Call (.Name x p) (e :: es) [] pos) (tCall sp [] E0 ta) := by
  refine ⟨fun pins s σ H Q I h => ?_⟩
  refine wpAny_Call_Name_kw (ld_glob I hg hm ?_ hdb)
  refine PySem.W.callWith_K (h₀ := X.base) I.ok.mod.kin hk (thn (ha.run pos pins s σ H _ I h) fun us s1 ⟨vs, H1, I1, r, q⟩ => ⟨I1.kIn, ?_⟩) he hpl
  have hl : (us ++ []).length = ps.length := by
    have z := F.len _ _ _ _ q
    rw [List.append_nil] at z ⊢
    rw [← r.length]
    exact z
  refine wpAny_call (codeAny_mono (F.go X.A X.stack s1 H1 ⟨us, []⟩ (us ++ []) (vs ++ []) Q E0 hgd hr I1.env0 (hb s1 us I1.kIn hl) (r.append .nil) q) fun z s' hq => ?_)
  cases z with
  | error _ => exact False.elim hq
  | ok fl =>
    cases fl with
    | ret _ => exact I1.after hq
    | next => exact False.elim hq
    | brk => exact False.elim hq
    | cont => exact False.elim hq
theorem we_callG {g : DFn} (F : FnG X.prog X.w X.K X.mg X.base CX0 k f fd ps (spD fun es P _ => g es P)) (hgd : X.A.guards = some []) (hr : Room k X.A) (hg : Gl X x) (hm : X.mg x = some (.ref f)) (hk : PySem.W.keepIn X.K (.ref f) = true) (hb : Binds X.K fd ps [])
    (ha : PA X (e :: es) (tAW A)) (hdb : (x == ("__debug__" : Str)) = false := by decide) (he : starEach (e :: es) X.env = (false, eval e X.env) :: starEach es X.env := by rfl) (hpl : (backTo pos (starEach es X.env)).any (·.1) = false := by rfl) :
    PE X (.Call (.Name x p) (e :: es) [] pos) (tW (wCall g A)) := PE.weak (pe_callG F hgd hr hg hm hk hb ha hdb he hpl) fun σ H Q h => fn_red (f := fun es P _ => g es P) h
end
end DL

set_option maxHeartbeats 2000000
namespace DL
open PySem PySem.Spec PyProof.Rows L2
section
variable {X : Cx} {e a b : Expr} {W Wa Wb : WE} {pos p p2 p3 : Pos} {x : Str}
theorem call_fRepr (hgd : X.A.guards = some []) (hu : X.A.units + 64 < cLine) : CallR X (.builtin "repr") (rF fRepr) := by
  intro pins s σ H xs us Q I r ⟨O, es, P, hq, hO, hg, k⟩
  unfold fRepr at hg
  split at hg
  · obtain ⟨g1, g2, g3, g4, g5, g6⟩ := hg
    cases hq with
    | cons a b =>
      cases b
      cases r with
      | cons ra rb =>
        cases rb
        rename_i d v u
        have fin : ∀ h' t tk, (∀ b o, s.heap.get? b = some o → h'.get? b = some o) → EP X pins σ Q (.str d.py.shown t) { s with heap := h', toks := tk } :=
          fun h' t tk hk => ⟨.str d.py.shown, H, I.kept hk, ⟨_, rfl⟩, k _ g6 _ H (.refl _ _) (.str _)⟩
        cases a with
        | non =>
          cases ra
          exact PySem.P.repr_of_none (fin s.heap _ _ fun _ _ z => z)
        | bl b =>
          cases ra
          exact PySem.P.repr_of_bool (fin s.heap _ _ fun _ _ z => z)
        | int i =>
          obtain ⟨t, rfl⟩ := ra
          exact PySem.P.repr_of_int (by simpa [D.py, PyData.showable] using g2) (fin s.heap _ _ fun _ _ z => z)
        | str y =>
          obtain ⟨t, rfl⟩ := ra
          exact PySem.P.repr_of_str (fin s.heap _ _ fun _ _ z => z) g5
        | @lst ad xs ds h1 h2 h3 =>
          obtain ⟨as, rd⟩ := Dp.reads I _ _ _ (Dq.dp (.lst h1 h2 h3) g1) ra
          cases ra
          exact repr_of_reads' rd g2 (PyData.noDict_hsm g3) hgd (by omega) (fun _ _ z => z) (fun h' t tk hk => fin h' t tk hk) g5
        | @tup ad xs ds h1 h2 h3 =>
          obtain ⟨as, rd⟩ := Dp.reads I _ _ _ (Dq.dp (.tup h1 h2 h3) g1) ra
          cases ra
          exact repr_of_reads' rd g2 (PyData.noDict_hsm g3) hgd (by omega) (fun _ _ z => z) (fun h' t tk hk => fin h' t tk hk) g5
        | src _ => simp [D.pl] at g1
        | fn _ => simp [D.pl] at g1
        | exn _ _ _ => simp [D.pl] at g1
        | sq _ => simp [D.pl] at g1
  · exact hg.elim
end
end DL
namespace DL
open PySem PySem.Spec PyProof.Rows L2
/-- a def of the top -/
structure Dn (K : PySem.W.Frag) (mg : Str → Option Value) (x : Str) (st : Stmt) (ps : List Str) where
  f : Addr
  fd : FuncData
  F : Fun K x x st f fd
  b : Binds K fd ps []
  m : mg x = some (.ref f)
/-- an own error class of the top -/
structure Ex (K : PySem.W.Frag) (mg : Str → Option Value) (x q : Str) (st : Stmt) where
  C : Addr
  m : mg x = some (.ref C)
  T : OexC K C
  no : PySem.W.findIn K (.ref C) "told" = some none
  fI : Addr
  fd : FuncData
  F : Fun K "__init__" q st fI fd
  b : Binds K fd ["self", "told"] []
  iC : PySem.W.findIn K (.ref C) "__init__" = some (some (.ref fI))
  tI : PySem.W.typeIn K (.ref fI) = some (.type "function")
/-- contracts: a function of data, where ok -/
def pure1 (ok : D → Prop) (f : D → D) : DFn := fun es P => ∃ d, es = [d] ∧ ok d ∧ P (f d)
def pure2 (ok : D → D → Prop) (f : D → D → D) : DFn := fun es P => ∃ a b, es = [a, b] ∧ ok a b ∧ P (f a b)
def pure3 (ok : D → D → D → Prop) (f : D → D → D → D) : DFn := fun es P => ∃ a b c, es = [a, b, c] ∧ ok a b c ∧ P (f a b c)
theorem pure1_len {ok : D → Prop} {f : D → D} {es : List D} {P : D → Prop} (h : pure1 ok f es P) : es.length = 1 := by
  obtain ⟨d, rfl, _⟩ := h
  rfl
theorem pure2_len {ok : D → D → Prop} {f : D → D → D} {es : List D} {P : D → Prop} (h : pure2 ok f es P) : es.length = 2 := by
  obtain ⟨a, b, rfl, _⟩ := h
  rfl
theorem pure3_len {ok : D → D → D → Prop} {f : D → D → D → D} {es : List D} {P : D → Prop} (h : pure3 ok f es P) : es.length = 3 := by
  obtain ⟨a, b, c, rfl, _⟩ := h
  rfl
theorem boot_intT : bootBuiltins "int" = some (.type "int") := by decide +kernel
theorem boot_strT : bootBuiltins "str" = some (.type "str") := by decide +kernel
theorem boot_boolT : bootBuiltins "bool" = some (.type "bool") := by decide +kernel
theorem boot_tupleT : bootBuiltins "tuple" = some (.type "tuple") := by decide +kernel
theorem boot_listT : bootBuiltins "list" = some (.type "list") := by decide +kernel
theorem boot_lenB : bootBuiltins "len" = some (.builtin "len") := by decide +kernel
theorem boot_allB : bootBuiltins "all" = some (.builtin "all") := by decide +kernel
theorem boot_anyB : bootBuiltins "any" = some (.builtin "any") := by decide +kernel
theorem boot_maxB : bootBuiltins "max" = some (.builtin "max") := by decide +kernel
theorem boot_reprB : bootBuiltins "repr" = some (.builtin "repr") := by decide +kernel
end DL

set_option maxHeartbeats 2000000
namespace DL
open PySem PySem.Spec PyProof.Rows L2
theorem wEach_pure {f : D → (D → Prop) → Prop} (g : D → D) : ∀ {xs : List D} {P : List D → Prop}, (∀ x ∈ xs, ∀ P' : D → Prop, P' (g x) → f x P') → P (xs.map g) → wEach f xs P
  | [], _, _, h => h
  | x :: xs, P, hf, h => hf x List.mem_cons_self _ (wEach_pure g (fun y hy => hf y (List.mem_cons_of_mem _ hy)) h)
theorem bools_map {α : Type} (h : α → Bool) : ∀ xs : List α, boolsOf (xs.map fun x => D.bl (h x)) = some (xs.map h)
  | [] => rfl
  | x :: xs => by
    show (boolsOf (xs.map fun x => D.bl (h x))).map (h x :: ·) = some (h x :: xs.map h)
    rw [bools_map h xs]
    rfl
theorem strs_map {α : Type} (h : α → Str) : ∀ xs : List α, strsOf (xs.map fun x => D.str (h x)) = some (xs.map h)
  | [] => rfl
  | x :: xs => by
    show (strsOf (xs.map fun x => D.str (h x))).map (h x :: ·) = some (h x :: xs.map h)
    rw [strs_map h xs]
    rfl
theorem signs_len (z : Str) : (DL.signs z).length = z.length := by
  unfold DL.signs
  rw [List.length_map]
  simp [Str.length]
theorem wEach_signs {f : D → (D → Prop) → Prop} {z : Str} {P : List D → Prop} (g : Nat → D) (hf : ∀ (c : Nat) (P' : D → Prop), P' (g c) → f (.str ⟨#[c]⟩) P') (hp : P (z.cps.toList.map g)) : wEach f (DL.signs z) P := by
  unfold DL.signs
  generalize z.cps.toList = l at hp
  induction l generalizing P with
  | nil => exact hp
  | cons c l ih => exact hf c _ (ih hp)
/-! ### small data -/
def gd : Nat → D → Bool
  | _, .non => true
  | _, .bl _ => true
  | _, .int i => decide (i.natAbs.log2 < 1000)
  | _, .str x => decide (x.length ≤ 100) && PyData.strOk x
  | n + 1, .lst xs => decide (xs.length ≤ 100) && xs.all (gd n)
  | n + 1, .tup xs => decide (xs.length ≤ 100) && xs.all (gd n)
  | _, _ => false
theorem gd_up : ∀ {n : Nat} {d : D}, gd n d = true → gd (n + 1) d = true := by
  intro n
  induction n with
  | zero => intro d h; cases d <;> simp [gd] at h ⊢ <;> exact h
  | succ n ih =>
    intro d h
    cases d with
    | lst xs =>
      simp only [gd, Bool.and_eq_true, List.all_eq_true] at h ⊢
      exact ⟨h.1, fun x hx => ih (h.2 x hx)⟩
    | tup xs =>
      simp only [gd, Bool.and_eq_true, List.all_eq_true] at h ⊢
      exact ⟨h.1, fun x hx => ih (h.2 x hx)⟩
    | _ => simpa [gd] using h
def Good (d : D) : Prop := gd 8 d = true
def tyOk (d : D) : Prop := (tyD d).isSome = true
theorem Good.ty {d : D} (h : Good d) : tyOk d := by
  cases d <;> simp [Good, gd, tyOk, tyD] at h ⊢
theorem Good.tup {xs : List D} (h : Good (.tup xs)) : xs.length ≤ 100 ∧ ∀ x ∈ xs, Good x := by
  unfold Good at h
  simp only [gd, Bool.and_eq_true, List.all_eq_true, decide_eq_true_eq] at h
  exact ⟨h.1, fun x hx => gd_up (h.2 x hx)⟩
theorem Good.lst {xs : List D} (h : Good (.lst xs)) : xs.length ≤ 100 ∧ ∀ x ∈ xs, Good x := by
  unfold Good at h
  simp only [gd, Bool.and_eq_true, List.all_eq_true, decide_eq_true_eq] at h
  exact ⟨h.1, fun x hx => gd_up (h.2 x hx)⟩
theorem Good.str {x : Str} (h : Good (.str x)) : x.length ≤ 100 := by
  unfold Good at h
  simp only [gd, Bool.and_eq_true, decide_eq_true_eq] at h
  exact h.1
theorem line_big {n : Nat} (h : n ≤ 100000) : n ≤ sizeLine := by
  rw [sizeLine_eq]
  omega
/-! ### pure questions of the checks -/
def isNum : D → Bool | .int _ => true | _ => false
def isWithin (d : D) (lo hi : Int) : Bool := match d with | .int i => decide (lo ≤ i) && decide (i ≤ hi) | _ => false
def low (c : Nat) : Bool := decide (97 ≤ c) && decide (c ≤ 122)
def isName : D → Bool
  | .str x => decide (1 ≤ x.length) && decide (x.length ≤ 4) && x.cps.toList.all low
  | _ => false
def isOperand (d : D) : Bool := isWithin d 0 9972 || isName d
def dlen : D → Int
  | .str x => x.length
  | .lst xs => xs.length
  | .tup xs => xs.length
  | _ => 0
theorem tyD_non  : (tyD .non).isSome = true := rfl
theorem isInt_non  : DL.isInt .non = false := rfl
theorem isStr_non  : DL.isStr .non = false := rfl
theorem isBl_non  : DL.isBl .non = false := rfl
theorem isTup_non  : DL.isTup .non = false := rfl
theorem isLst_non  : DL.isLst .non = false := rfl
theorem tyD_bl {b : Bool} : (tyD (.bl b)).isSome = true := rfl
theorem isInt_bl {b : Bool} : DL.isInt (.bl b) = true := rfl
theorem isStr_bl {b : Bool} : DL.isStr (.bl b) = false := rfl
theorem isBl_bl {b : Bool} : DL.isBl (.bl b) = true := rfl
theorem isTup_bl {b : Bool} : DL.isTup (.bl b) = false := rfl
theorem isLst_bl {b : Bool} : DL.isLst (.bl b) = false := rfl
theorem tyD_int {i : Int} : (tyD (.int i)).isSome = true := rfl
theorem isInt_int {i : Int} : DL.isInt (.int i) = true := rfl
theorem isStr_int {i : Int} : DL.isStr (.int i) = false := rfl
theorem isBl_int {i : Int} : DL.isBl (.int i) = false := rfl
theorem isTup_int {i : Int} : DL.isTup (.int i) = false := rfl
theorem isLst_int {i : Int} : DL.isLst (.int i) = false := rfl
theorem tyD_str {x : Str} : (tyD (.str x)).isSome = true := rfl
theorem isInt_str {x : Str} : DL.isInt (.str x) = false := rfl
theorem isStr_str {x : Str} : DL.isStr (.str x) = true := rfl
theorem isBl_str {x : Str} : DL.isBl (.str x) = false := rfl
theorem isTup_str {x : Str} : DL.isTup (.str x) = false := rfl
theorem isLst_str {x : Str} : DL.isLst (.str x) = false := rfl
theorem tyD_lst {xs : List D} : (tyD (.lst xs)).isSome = true := rfl
theorem isInt_lst {xs : List D} : DL.isInt (.lst xs) = false := rfl
theorem isStr_lst {xs : List D} : DL.isStr (.lst xs) = false := rfl
theorem isBl_lst {xs : List D} : DL.isBl (.lst xs) = false := rfl
theorem isTup_lst {xs : List D} : DL.isTup (.lst xs) = false := rfl
theorem isLst_lst {xs : List D} : DL.isLst (.lst xs) = true := rfl
theorem tyD_tup {xs : List D} : (tyD (.tup xs)).isSome = true := rfl
theorem isInt_tup {xs : List D} : DL.isInt (.tup xs) = false := rfl
theorem isStr_tup {xs : List D} : DL.isStr (.tup xs) = false := rfl
theorem isBl_tup {xs : List D} : DL.isBl (.tup xs) = false := rfl
theorem isTup_tup {xs : List D} : DL.isTup (.tup xs) = true := rfl
theorem isLst_tup {xs : List D} : DL.isLst (.tup xs) = false := rfl
theorem ifF {c : Bool} {A B : Prop} (h : c = false) (b : B) : if c = true then A else B := by
  subst h
  exact b
theorem ifT {c : Bool} {A B : Prop} (h : c = true) (a : A) : if c = true then A else B := by
  subst h
  exact a
theorem at_0 {a : D} {r : List D} : atI (a :: r) 0 = some a := atI_nat (j := 0) rfl
theorem at_1 {a b : D} {r : List D} : atI (a :: b :: r) 1 = some b := atI_nat (j := 1) rfl
theorem at_2 {a b c : D} {r : List D} : atI (a :: b :: c :: r) 2 = some c := atI_nat (j := 2) rfl
theorem at_3 {a b c d : D} {r : List D} : atI (a :: b :: c :: d :: r) 3 = some d := atI_nat (j := 3) rfl
theorem at_4 {a b c d e : D} {r : List D} : atI (a :: b :: c :: d :: e :: r) 4 = some e := atI_nat (j := 4) rfl
theorem Good.tyS {d : D} (h : Good d) : (tyD d).isSome = true := h.ty
theorem low_is (c : Nat) : (if (!decide ((⟨#[c]⟩ : Str).cps.toList < ("a" : Str).cps.toList)) = true then !decide (("z" : Str).cps.toList < (⟨#[c]⟩ : Str).cps.toList) else false) = low c := by
  have e1 : ("a" : Str).cps.toList = [97] := by decide
  have e2 : ("z" : Str).cps.toList = [122] := by decide
  rw [e1, e2]
  show (if (!decide ([c] < [97])) = true then !decide ([122] < [c]) else false) = low c
  have h1 : ([c] < [97]) ↔ c < 97 := by simp [List.cons_lt_cons_iff]
  have h2 : ([122] < [c]) ↔ 122 < c := by simp [List.cons_lt_cons_iff]
  unfold low
  by_cases a : c < 97 <;> by_cases b : 122 < c <;> simp [h1, h2, a, b] <;> omega
theorem okEq_int (i : Int) : okEq (.int i) := ⟨by unfold D.pl; rfl, by unfold D.py; rfl⟩
theorem okEq_str {x : Str} (h : PyData.strOk x = true) : okEq (.str x) := ⟨by unfold D.pl; rfl, by unfold D.py SeqAt.shaped PyData.canLay0; rw [h]; rfl⟩
theorem okEq_non : okEq .non := ⟨by unfold D.pl; rfl, by unfold D.py; rfl⟩
theorem okEq_bl (b : Bool) : okEq (.bl b) := ⟨by unfold D.pl; rfl, by unfold D.py; rfl⟩
theorem eqD_int (i j : Int) : eqD (.int i) (.int j) = decide (i = j) := by
  unfold eqD D.py PyData.eqv
  exact Bool.beq_eq_decide_eq i j
theorem eqD_str (x y : Str) : eqD (.str x) (.str y) = decide (x = y) := by
  unfold eqD D.py PyData.eqv
  exact Bool.beq_eq_decide_eq x y
/-! ### a source of draws: a list of two numbers that the law's own defs alone change -/
section
variable {X : Cx} {e : Expr} {W : WE} {pos p1 p2 p3 : Pos} {x : Str} {i j : Nat} {k : Int}
def SrcN (k : Int) (n : Int) : Prop := k = 0 ∨ (k = 1 ∧ 0 ≤ n ∧ n < 2147483647)
def wSrc (i : Nat) (k : Int) : WE := fun ds P => (k = 0 ∨ k = 1) ∧ (∃ p, ds[i]? = some (some (.src p))) ∧ ∀ n : Int, SrcN k n → P (.int n)
theorem src_at {O : Ow} {H : Hp} {p : Addr} (h : OwnAll O H) (hp : (p, Own.src) ∈ O) : ∃ a b : Int, H p = some (.lst [.int a, .int b]) ∧ 0 ≤ b ∧ b < 2147483647 := by
  obtain ⟨o, h1, a, b, rfl, h2⟩ := h.here _ hp
  exact ⟨a, b, h1, h2⟩
theorem we_src (hx : PE X (.Name x p1) (tVar i)) : PE X (.Subscript (.Name x p1) (.Constant (.int k) j p2) pos) (tW (wSrc i k)) :=
  PE.weak (pe_ix ix_list hx pe_int fun _ _ => rfl) fun σ H Q ⟨O, ds, P, hS, hO, ⟨hk, ⟨p, hp⟩, hn⟩, kk⟩ => by
    obtain ⟨v, a, b⟩ := hS.val i _ hp
    cases b with
    | src hp' =>
      obtain ⟨n, m, h1, h2, h3⟩ := src_at hO hp'
      refine ⟨_, a, p, [.int n, .int m], k, ?_⟩
      rcases hk with rfl | rfl
      · exact ⟨.int n, rfl, rfl, .of h1, atI_nat (j := 0) rfl, kk _ (hn n (.inl rfl)) _ H (.refl _ _) (.int _)⟩
      · exact ⟨.int m, rfl, rfl, .of h1, atI_nat (j := 1) rfl, kk _ (hn m (.inr ⟨rfl, h2, h3⟩)) _ H (.refl _ _) (.int _)⟩
def gSrcSet (i : Nat) (k : Int) (W : WE) : WS := fun ds N _ _ => W ds fun d => (k = 0 ∨ k = 1) ∧ (∃ p, ds[i]? = some (some (.src p))) ∧ ∃ n, d = .int n ∧ SrcN k n ∧ N ds
theorem ws_srcSet {E : XK} (hx : PE X (.Name x p1) (tVar i)) (he : PE X e (tW W)) (hs : swapsWithSole [.Subscript (.Name x p1) (.Constant (.int k) j p2) p3] e pos.line X.env = pure false := by rfl)
    (hw : swappedStores [.Subscript (.Name x p1) (.Constant (.int k) j p2) p3] e X.env = pure none := by rfl) : PS X (.Assign [.Subscript (.Name x p1) (.Constant (.int k) j p2) p3] e pos) (tSW E (gSrcSet i k W)) :=
  PS.weak (ps_asg he (pg_sub hx pe_int set_list) hs hw) fun D σ H ⟨O, ds, N, R, Z, hS, hO, hG, hN, hR, hZ⟩ => ⟨O, ds, _, hS, hO, hG, fun d hd v H1 e1 q1 => by
    obtain ⟨hk, ⟨p, hp⟩, n, rfl, hn, hd⟩ := hd
    cases q1
    have S1 := hS.mono e1
    have O1 := hO.mono e1
    obtain ⟨v, a, b⟩ := S1.val i _ hp
    cases b with
    | src hp' =>
      obtain ⟨n0, m0, h1, h2, h3⟩ := src_at O1 hp'
      have fin : ∀ y z : Int, 0 ≤ z → z < 2147483647 → D.nx σ (upd H1 p (.lst [.int y, .int z])) := fun y z hz0 hz1 => by
        have e2 : Ext O H1 (upd H1 p (.lst [.int y, .int z])) := ⟨fun c o hc h => by rw [upd_ne (hc _ hp')]; exact h, fun q hq h => by
          by_cases hqp : q.1 = p
          · have := O1.uq q hq _ hp' hqp
            subst this
            exact ⟨_, upd_same, y, z, rfl, hz0, hz1⟩
          · obtain ⟨o, k1, k2⟩ := h
            exact ⟨o, by rw [upd_ne hqp]; exact k1, k2⟩⟩
        exact hN ds hd σ _ (e1.trans e2) (S1.mono e2)
      refine ⟨_, a, p, [.int n0, .int m0], k, ?_⟩
      rcases hk with rfl | rfl
      · exact ⟨0, rfl, rfl, h1, rfl, fin n m0 h2 h3⟩
      · rcases hn with hn | ⟨_, hn0, hn1⟩
        · cases hn
        · exact ⟨1, rfl, rfl, h1, rfl, fin n0 n hn0 hn1⟩⟩
end
def dMulS : DOp := fun x y P => match x, y with
  | .int i, .int j => CMul i j ∧ P (.int (i * j))
  | _, _ => False
def dFdivS : DOp := fun x y P => match x, y with
  | .int i, .int j => CDiv i j ∧ P (.int (i / j))
  | _, _ => False
section
variable {X : Cx}
theorem op_dMulS : OpR X (binaryOp .Mult) (rD dMulS) := by
  intro pins s σ H x y v u Q I rx ry ⟨O, dx, dy, P, qx, qy, hO, hg, k⟩
  unfold dMulS at hg
  split at hg
  · cases qx; cases qy
    exact op_mul pins s σ H _ _ v u Q I rx ry ⟨_, _, rfl, rfl, hg.1, k _ hg.2 _ H (.refl _ _) (.int _)⟩
  · exact hg.elim
theorem op_dFdivS : OpR X (binaryOp .FloorDiv) (rD dFdivS) := by
  intro pins s σ H x y v u Q I rx ry ⟨O, dx, dy, P, qx, qy, hO, hg, k⟩
  unfold dFdivS at hg
  split at hg
  · cases qx; cases qy
    exact op_fdiv pins s σ H _ _ v u Q I rx ry ⟨_, _, rfl, rfl, hg.1, k _ hg.2 _ H (.refl _ _) (.int _)⟩
  · exact hg.elim
end
end DL

set_option maxHeartbeats 2000000
namespace DL
open PySem PySem.Spec PyProof.Rows L2
/-! ### {k: v, ..}.get(a, b), the keys written texts -/
def zipT : List Str → List WE → List (TE × TE)
  | k :: ks, W :: Ws => (tC (.str k), tW W) :: zipT ks Ws
  | _, _ => []
def wVals : List WE → WA
  | [] => waNil
  | W :: Ws => waCons W (wVals Ws)
def assocD : List Str → List D → Str → Option D
  | k :: ks, e :: es, q => match assocD ks es q with
    | some d => some d
    | none => if q = k then some e else none
  | _, _, _ => none
def keyed : List Str → List V → List (Key × V)
  | k :: ks, v :: vs => (Sum.inr k, v) :: keyed ks vs
  | _, _ => []
theorem assoc_rel {O : Ow} {H : Hp} {q : Str} : ∀ {ks : List Str} {vs : List V} {es : List D} (acc : List (Key × V)), DqAll O H vs es →
    (∃ v d, valV (mergeK acc (keyed ks vs)) (Sum.inr q) = some v ∧ assocD ks es q = some d ∧ Dq O H v d) ∨ (valV (mergeK acc (keyed ks vs)) (Sum.inr q) = valV acc (Sum.inr q) ∧ assocD ks es q = none)
  | [], _, _, acc, _ => .inr ⟨rfl, rfl⟩
  | k :: ks, _, _, acc, .nil => .inr ⟨rfl, rfl⟩
  | k :: ks, _, _, acc, .cons (v := v) (vs := vs) (d := e) (ds := es) a b => by
    show (∃ v' d, valV (mergeK (putK acc (Sum.inr k) v) (keyed ks vs)) (Sum.inr q) = some v' ∧ assocD (k :: ks) (e :: es) q = some d ∧ Dq O H v' d) ∨ (valV (mergeK (putK acc (Sum.inr k) v) (keyed ks vs)) (Sum.inr q) = valV acc (Sum.inr q) ∧ assocD (k :: ks) (e :: es) q = none)
    rcases assoc_rel (q := q) (ks := ks) (putK acc (Sum.inr k) v) b with ⟨v', d, h1, h2, h3⟩ | ⟨h1, h2⟩
    · exact .inl ⟨v', d, h1, by simp only [assocD, h2], h3⟩
    · rw [h1, valV_put]
      by_cases hq : q = k
      · subst hq
        exact .inl ⟨v, e, by rw [if_pos rfl], by simp only [assocD, h2, if_true], a⟩
      · refine .inr ⟨by rw [if_neg (fun z => hq (Sum.inr.inj z))], by simp only [assocD, h2, hq, if_false]⟩
theorem pairs_red {σ : L2.St} : ∀ {ks : List Str} {Ws : List WE} {O : Ow} {ds : Sl} {P : List D → Prop} {H : Hp} {Q : List (V × V) → Hp → Prop}, ks.length = Ws.length → SlD O H σ ds → OwnAll O H → wVals Ws ds P →
    (∀ es, P es → ∀ vs H', Ext O H H' → DqAll O H' vs es → Q ((keyed ks vs).map fun kv => (kV kv.1, kv.2)) H') → tPairs (zipT ks Ws) σ H Q
  | [], [], O, ds, P, H, Q, _, hS, hO, hW, k => k [] hW [] H (.refl _ _) .nil
  | q :: ks, W :: Ws, O, ds, P, H, Q, hl, hS, hO, hW, k => by
    show tW W σ H fun y H2 => tPairs (zipT ks Ws) σ H2 fun ps H3 => Q ((V.str q, y) :: ps) H3
    exact ⟨O, ds, _, hS, hO, hW, fun d hd v H1 e1 q1 => pairs_red (by simpa using hl) (hS.mono e1) (hO.mono e1) hd fun es he vs H2 e2 q2 => k _ he (v :: vs) H2 (e1.trans e2) (.cons (q1.mono e2) q2)⟩
  | [], _ :: _, _, _, _, _, _, h, _, _, _, _ => by cases h
  | _ :: _, [], _, _, _, _, _, h, _, _, _, _ => by cases h
theorem OwnAll.hold {O : Ow} {H : Hp} {p : Addr} {o : HO} (h : OwnAll O H) (op : Out O p) (hp : H p = some o) : OwnAll (O ++ [(p, .hold o)]) H := by
  refine ⟨fun q hq => ?_, fun q hq r hr e => ?_⟩
  · rcases List.mem_append.mp hq with z | z
    · exact h.here q z
    · have z' : q = (p, .hold o) := by simpa using z
      subst z'
      exact ⟨_, hp, rfl⟩
  · rcases List.mem_append.mp hq with z | z <;> rcases List.mem_append.mp hr with z' | z'
    · exact h.uq q z r z' e
    · have y : r = (p, .hold o) := by simpa using z'
      subst y
      exact absurd e.symm (op q z)
    · have y : q = (p, .hold o) := by simpa using z
      subst y
      exact absurd e (op r z')
    · have y1 : q = (p, .hold o) := by simpa using z
      have y2 : r = (p, .hold o) := by simpa using z'
      rw [y1, y2]
theorem OwnAll.less {O : Ow} {H : Hp} {p : Addr} {o : HO} (h : OwnAll (O ++ [(p, .hold o)]) H) : OwnAll O H := ⟨fun q hq => h.here q (List.mem_append_left _ hq), fun q hq r hr e => h.uq q (List.mem_append_left _ hq) r (List.mem_append_left _ hr) e⟩
theorem Ext.hold_at {O : Ow} {H H' : Hp} {p : Addr} {o : HO} (e : Ext (O ++ [(p, .hold o)]) H H') (h : H p = some o) : H' p = some o := by
  obtain ⟨u, h1, h2⟩ := e.own (p, .hold o) (by simp) ⟨_, h, rfl⟩
  have h2' : u = o := h2
  rw [← h2']
  exact h1
/-- from a heap where p was not yet, over a stretch that holds p -/
theorem Ext.drop {O : Ow} {H H' : Hp} {p : Addr} {o : HO} (e : Ext (O ++ [(p, .hold o)]) H H') {H0 : Hp} (e0 : Ext O H0 H) (n : H0 p = none) : Ext O H0 H' :=
  ⟨fun b u hb h => e.keep b u (fun q hq => by
      rcases List.mem_append.mp hq with z | z
      · exact hb q z
      · have y : q = (p, .hold o) := by simpa using z
        subst y
        exact ne_of_none h n) (e0.keep b u hb h),
    fun q hq h => e.own q (List.mem_append_left _ hq) (e0.own q hq h)⟩
def wDGet (ks : List Str) (Ws : List WE) (Wk Wd : WE) : WE := fun ds P => wVals Ws ds fun es => Wk ds fun kd => Wd ds fun xd => ∃ q, kd = .str q ∧ P ((assocD ks es q).getD xd)
section
variable {X : Cx} {e f : Expr} {Wk Wd : WE} {pos pd pa : Pos}
theorem we_dget {keys : List (Option Expr)} {values : List Expr} {trs : List (TE × TE)} {ks : List Str} {Ws : List WE} (hu : X.A.units + 1 < cLine) (hp : PPs X pd keys values trs) (ht : trs = zipT ks Ws) (hl : ks.length = Ws.length) (h15l : ks.length ≤ 15)
    (hall : keys.all (·.isSome) = true) (hkl : keys.length = values.length) (h0 : keys ≠ []) (h15 : keys.length ≤ 15) (he : PE X e (tW Wk)) (hf : PE X f (tW Wd)) (m : M2 X (.Dict keys values pd) "get" pa e f pos) :
    PE X (.Call (.Attribute (.Dict keys values pd) "get" pa) [e, f] [] pos) (tW (wDGet ks Ws Wk Wd)) := by
  subst ht
  refine PE.weak (pe_dget2 hu (pe_disp hp hall hkl h0 h15) he hf m) fun σ H Q ⟨O, ds, P, hS, hO, hW, k⟩ => fun p np => ?_
  have op := hO.out np
  have O1 : OwnAll (O ++ [(p, .hold (.dK []))]) (upd H p (.dK [])) := (hO.mono (.new np)).hold op upd_same
  have S1 : SlD (O ++ [(p, .hold (.dK []))]) (upd H p (.dK [])) σ ds := (hS.more np).keep fun b o _ h => by
    rw [upd_ne (ne_of_none h np)]
    exact h
  refine pairs_red hl S1 O1 hW fun es hes vs H2 e2 q2 => ⟨e2.hold_at upd_same, keyed ks vs, rfl, ?_, ?_⟩
  · have : ∀ (ks : List Str) (vs : List V), (keyed ks vs).length ≤ ks.length := by
      intro ks
      induction ks with
      | nil => intro vs; exact Nat.le_refl _
      | cons k ks ih =>
        intro vs
        cases vs with
        | nil => exact Nat.zero_le _
        | cons v vs => exact Nat.succ_le_succ (ih vs)
    exact Nat.le_trans (this ks vs) h15l
  · have O2 := O1.mono e2
    have E2 : Ext O H H2 := e2.drop (.new np) np
    have neP : ∀ q ∈ O, q.1 ≠ p := fun q hq => (op q hq).symm
    have E3 : Ext O H (upd H2 p (.dK (mergeK [] (keyed ks vs)))) := ⟨fun b o hb h => by rw [upd_ne (ne_of_none h np)]; exact E2.keep b o hb h, fun q hq h => by
      obtain ⟨u, h1, h2⟩ := E2.own q hq h
      exact ⟨u, by rw [upd_ne (neP q hq)]; exact h1, h2⟩⟩
    have K3 : ∀ b o, Out (O ++ [(p, Own.hold (.dK (mergeK [] (keyed ks vs))))]) b → H2 b = some o → upd H2 p (.dK (mergeK [] (keyed ks vs))) b = some o := fun b o hb h => by
      rw [upd_ne (hb (p, .hold (.dK (mergeK [] (keyed ks vs)))) (by simp))]
      exact h
    have q3 := (DqAll.rehold (o' := .dK (mergeK [] (keyed ks vs))) q2).keep K3
    have O3 : OwnAll (O ++ [(p, .hold (.dK (mergeK [] (keyed ks vs))))]) (upd H2 p (.dK (mergeK [] (keyed ks vs)))) := (hO.mono E3).hold op upd_same
    have S3 : SlD (O ++ [(p, .hold (.dK (mergeK [] (keyed ks vs))))]) (upd H2 p (.dK (mergeK [] (keyed ks vs)))) σ ds := (hS.more np).keep fun b o hb h => E3.keep b o (fun q hq => hb q (List.mem_append_left _ hq)) h
    refine ⟨p, rfl, .inl ⟨_, .of upd_same⟩, O ++ [(p, .hold (.dK (mergeK [] (keyed ks vs))))], ds, _, S3, O3, hes, fun kd hkd y H4 e4 q4 => ⟨O ++ [(p, .hold (.dK (mergeK [] (keyed ks vs))))], ds, _, S3.mono e4, O3.mono e4, hkd, fun xd hxd z H5 e5 q5 => ?_⟩⟩
    obtain ⟨q, rfl, hP⟩ := hxd
    cases q4
    have h5 := (e4.trans e5).hold_at upd_same
    have E5 : Ext O H H5 := (e4.trans e5).drop E3 np
    refine ⟨valV (mergeK [] (keyed ks vs)) (Sum.inr q), DGet.k (k := Sum.inr q) h5, ?_⟩
    rcases assoc_rel (q := q) (ks := ks) [] (q3.mono (e4.trans e5)) with ⟨v, d, h1, h2, h3⟩ | ⟨h1, h2⟩
    · rw [h2] at hP
      rw [h1]
      exact k _ hP _ H5 E5 h3.less
    · rw [h2] at hP
      rw [h1]
      exact k _ hP _ H5 E5 q5.less
end
/-! ### pure helps -/
theorem wEach_any {f : D → (D → Prop) → Prop} {Y : D → Prop} : ∀ {xs : List D} {P : List D → Prop}, (∀ x ∈ xs, ∀ P' : D → Prop, (∀ y, Y y → P' y) → f x P') → (∀ ys : List D, ys.length = xs.length → (∀ y ∈ ys, Y y) → P ys) → wEach f xs P
  | [], P, _, h => h [] rfl fun _ z => nomatch z
  | x :: xs, P, hf, h => hf x List.mem_cons_self _ fun y hy => wEach_any (fun z hz => hf z (List.mem_cons_of_mem _ hz)) fun ys hl hys => h (y :: ys) (by rw [List.length_cons, List.length_cons, hl]) fun z hz => by
    rcases List.mem_cons.mp hz with e | e
    · rw [e]
      exact hy
    · exact hys z e
theorem at_some {α : Type} {xs : List α} {r : Int} (h0 : 0 ≤ r) (h1 : r < xs.length) : ∃ d, L2.atI xs r = some d ∧ d ∈ xs := by
  have hn : r.toNat < xs.length := by omega
  refine ⟨xs[r.toNat], ?_, List.getElem_mem hn⟩
  have e : ((r.toNat : Nat) : Int) = r := by omega
  have := atI_nat (xs := xs) (j := r.toNat) (v := xs[r.toNat]) (by simp [hn])
  rwa [e] at this
theorem intsD_len (n : Nat) : (intsD n).length = n := by simp [intsD]
theorem mem_intsD {n : Nat} {x : D} (h : x ∈ intsD n) : ∃ k : Nat, k < n ∧ x = .int (k : Int) := by
  unfold intsD at h
  obtain ⟨k, hk, e⟩ := List.mem_map.mp h
  exact ⟨k, List.mem_range.mp hk, e.symm⟩
end DL

set_option maxHeartbeats 2000000
namespace DL
open PySem PySem.Spec PyProof.Rows L2
/-! ### data small enough to be compared and written -/
def gs : Nat → D → Bool
  | _, .non => true
  | _, .bl _ => true
  | _, .int i => decide (i.natAbs.log2 < 200)
  | _, .str x => decide (x.length ≤ 20) && PyData.strOk x
  | n + 1, .lst xs => decide (xs.length ≤ 12) && xs.all (gs n)
  | n + 1, .tup xs => decide (xs.length ≤ 12) && xs.all (gs n)
  | _, _ => false
/-- how long it is written at most -/
def bsz : Nat → Nat
  | 0 => 250
  | n + 1 => 12 * (bsz n + 2) + 4
structure Wr (n : Nat) (d : D) : Prop where
  pl : d.pl = true
  lay : d.py.canLay0 = true
  dep : d.py.depth ≤ n
  sh : d.py.showable = true
  nd : d.py.hasDict = false
  sz : d.py.shown.length ≤ bsz n
theorem bsz_ge (n : Nat) : 250 ≤ bsz n := by
  induction n with
  | zero => exact Nat.le_refl _
  | succ n ih => unfold bsz; omega
theorem listText_le (ts : List Str) : (listText ts).length ≤ piled ts + 4 := by
  unfold listText
  rw [strLen_append]
  have e : (("]" : Str)).length = 1 := by decide
  rw [e]
  cases ts with
  | nil => decide
  | cons t r =>
    have h := textFrom_length_pos r 1 (("[" : Str) ++ (if (0 : Nat) > 0 then ", " else "" : String) ++ t) (Nat.succ_pos 0)
    have e2 : ((("[" : Str) ++ (if (0 : Nat) > 0 then ", " else "" : String) ++ t)).length = 1 + t.length := by
      rw [strLen_append, strLen_append]; rfl
    have e3 : textFrom 0 "[" (t :: r) = textFrom (0 + 1) (("[" : Str) ++ (if (0 : Nat) > 0 then ", " else "" : String) ++ t) r := rfl
    rw [e3, h, e2, piled_cons]
    omega
theorem wr_all {n : Nat} (ih : ∀ d, gs n d = true → Wr n d) : ∀ xs : List D, (∀ x ∈ xs, gs n x = true) → D.pls xs = true ∧ PyData.canLayAll0 (D.pys xs) = true ∧ PyData.depthAll (D.pys xs) ≤ n ∧ PyData.showableAll (D.pys xs) = true ∧ PyData.hasDictAll (D.pys xs) = false ∧
    piled (PyData.shownAll (D.pys xs)) ≤ xs.length * (bsz n + 2)
  | [], _ => ⟨by simp [D.pls], by simp [D.pys, PyData.canLayAll0], by simp [D.pys, PyData.depthAll], by simp [D.pys, PyData.showableAll], by simp [D.pys, PyData.hasDictAll], by simp [D.pys, PyData.shownAll, piled]⟩
  | x :: xs, h => by
    obtain ⟨a1, a2, a3, a4, a5, a6⟩ := ih x (h x List.mem_cons_self)
    obtain ⟨b1, b2, b3, b4, b5, b6⟩ := wr_all ih xs fun y hy => h y (List.mem_cons_of_mem _ hy)
    refine ⟨by simp [D.pls, a1, b1], by simp [D.pys, PyData.canLayAll0, a2, b2], by simp only [D.pys, PyData.depthAll]; omega, by simp [D.pys, PyData.showableAll, a4, b4], by simp [D.pys, PyData.hasDictAll, a5, b5], ?_⟩
    simp only [D.pys, PyData.shownAll]
    rw [piled_cons, List.length_cons, Nat.succ_mul]
    omega
theorem wr_of : ∀ (n : Nat) (d : D), gs n d = true → Wr n d := by
  intro n
  induction n with
  | zero =>
    intro d h
    cases d with
    | non => exact ⟨rfl, rfl, Nat.zero_le _, rfl, rfl, by decide⟩
    | bl b => exact ⟨rfl, rfl, Nat.zero_le _, rfl, rfl, by cases b <;> decide⟩
    | int i =>
      simp only [gs, decide_eq_true_eq] at h
      refine ⟨rfl, rfl, Nat.zero_le _, ?_, rfl, ?_⟩
      · simp only [D.py, PyData.showable, decide_eq_true_eq]
        omega
      · have := int_text_length_le (k := 200) (by decide) h
        simp only [D.py, PyData.shown, bsz]
        rw [PySem.ofString_length]
        omega
    | str x =>
      simp only [gs, Bool.and_eq_true, decide_eq_true_eq] at h
      refine ⟨rfl, h.2, Nat.zero_le _, rfl, rfl, ?_⟩
      have h2 : ∀ c ∈ x.cps.toList, c < 16 ^ 8 := fun c hc => by
        have h3 := h.2
        unfold PyData.strOk at h3
        simp only [Array.all_eq_true'] at h3
        have h4 := h3 c (by simpa using hc)
        simp only [decide_eq_true_eq] at h4
        exact Nat.lt_of_lt_of_le h4 (by decide)
      have := StrLaws.reprText_len x h2
      simp only [D.py, PyData.shown, bsz]
      omega
    | lst _ => simp [gs] at h
    | tup _ => simp [gs] at h
    | src _ => simp [gs] at h
    | fn _ => simp [gs] at h
    | exn _ _ _ => simp [gs] at h
    | sq _ _ => simp [gs] at h
  | succ n ih =>
    intro d h
    have hb := bsz_ge (n + 1)
    cases d with
    | non => exact ⟨rfl, rfl, Nat.zero_le _, rfl, rfl, Nat.le_trans (by decide) hb⟩
    | bl b => exact ⟨rfl, rfl, Nat.zero_le _, rfl, rfl, Nat.le_trans (by cases b <;> decide) hb⟩
    | int i =>
      simp only [gs, decide_eq_true_eq] at h
      refine ⟨rfl, rfl, Nat.zero_le _, ?_, rfl, ?_⟩
      · simp only [D.py, PyData.showable, decide_eq_true_eq]
        omega
      · have := int_text_length_le (k := 200) (by decide) h
        simp only [D.py, PyData.shown]
        rw [PySem.ofString_length]
        omega
    | str x =>
      simp only [gs, Bool.and_eq_true, decide_eq_true_eq] at h
      refine ⟨rfl, h.2, Nat.zero_le _, rfl, rfl, ?_⟩
      have h2 : ∀ c ∈ x.cps.toList, c < 16 ^ 8 := fun c hc => by
        have h3 := h.2
        unfold PyData.strOk at h3
        simp only [Array.all_eq_true'] at h3
        have h4 := h3 c (by simpa using hc)
        simp only [decide_eq_true_eq] at h4
        exact Nat.lt_of_lt_of_le h4 (by decide)
      have := StrLaws.reprText_len x h2
      simp only [D.py, PyData.shown]
      omega
    | lst xs =>
      simp only [gs, Bool.and_eq_true, decide_eq_true_eq, List.all_eq_true] at h
      obtain ⟨b1, b2, b3, b4, b5, b6⟩ := wr_all ih xs h.2
      refine ⟨by simp [D.pl, b1], by simp [D.py, PyData.canLay0, b2], by simp only [D.py, PyData.depth]; omega, by simp [D.py, PyData.showable, b4], by simp [D.py, PyData.hasDict, b5], ?_⟩
      have h1 := listText_le (PyData.shownAll (D.pys xs))
      have h2 := Nat.mul_le_mul_right (bsz n + 2) h.1
      simp only [D.py, PyData.shown, bsz]
      omega
    | tup xs =>
      simp only [gs, Bool.and_eq_true, decide_eq_true_eq, List.all_eq_true] at h
      obtain ⟨b1, b2, b3, b4, b5, b6⟩ := wr_all ih xs h.2
      refine ⟨by simp [D.pl, b1], by simp [D.py, PyData.canLay0, b2], by simp only [D.py, PyData.depth]; omega, by simp [D.py, PyData.showable, b4], by simp [D.py, PyData.hasDict, b5], ?_⟩
      have h1 := fmt_text (PyData.shownAll (D.pys xs))
      have h2 := Nat.mul_le_mul_right (bsz n + 2) h.1
      simp only [D.py, PyData.shown, bsz]
      omega
    | src _ => simp [gs] at h
    | fn _ => simp [gs] at h
    | exn _ _ _ => simp [gs] at h
    | sq _ _ => simp [gs] at h
theorem gs_gd : ∀ {n : Nat} {d : D}, gs n d = true → gd n d = true := by
  intro n
  induction n with
  | zero =>
    intro d h
    cases d <;> simp only [gs, gd, Bool.and_eq_true, decide_eq_true_eq] at h ⊢
    · omega
    · exact ⟨by omega, h.2⟩
    all_goals cases h
  | succ n ih =>
    intro d h
    cases d <;> simp only [gs, gd, Bool.and_eq_true, decide_eq_true_eq, List.all_eq_true] at h ⊢
    · omega
    · exact ⟨by omega, h.2⟩
    · exact ⟨by omega, fun x hx => ih (h.2 x hx)⟩
    · exact ⟨by omega, fun x hx => ih (h.2 x hx)⟩
    all_goals cases h
theorem gd_le {n m : Nat} {d : D} (h : n ≤ m) (g : gd n d = true) : gd m d = true := by
  induction h with
  | refl => exact g
  | step _ ih => exact gd_up ih
theorem gs_up : ∀ {n : Nat} {d : D}, gs n d = true → gs (n + 1) d = true := by
  intro n
  induction n with
  | zero => intro d h; cases d <;> simp [gs] at h ⊢ <;> exact h
  | succ n ih =>
    intro d h
    cases d with
    | lst xs =>
      simp only [gs, Bool.and_eq_true, List.all_eq_true] at h ⊢
      exact ⟨h.1, fun x hx => ih (h.2 x hx)⟩
    | tup xs =>
      simp only [gs, Bool.and_eq_true, List.all_eq_true] at h ⊢
      exact ⟨h.1, fun x hx => ih (h.2 x hx)⟩
    | _ => simpa [gs] using h
theorem gs_le {n m : Nat} {d : D} (h : n ≤ m) (g : gs n d = true) : gs m d = true := by
  induction h with
  | refl => exact g
  | step _ ih => exact gs_up ih
/-- small data, as the laws draw it -/
def Sm (d : D) : Prop := gs 3 d = true
theorem Sm.good {d : D} (h : Sm d) : Good d := gd_le (by decide) (gs_gd h)
theorem Sm.okEq {d : D} (h : Sm d) : okEq d := ⟨(wr_of 3 d h).pl, by
  have w := wr_of 3 d h
  unfold SeqAt.shaped
  rw [w.lay, decide_eq_true (by have := w.dep; omega)]
  rfl⟩
theorem Sm.wr {d : D} (h : Sm d) {P : D → Prop} (p : P (.str d.py.shown)) : fRepr [d] P := by
  have w := wr_of 3 d h
  refine ⟨w.pl, w.sh, w.nd, by have := w.dep; omega, ?_, p⟩
  have := w.sz
  rw [sizeLine_eq]
  have e : bsz 3 = 436396 := by decide
  omega
theorem eqD_self {d : D} (h : okEq d) : eqD d d = true := SeqAt.eqv_refl d.py (by have h2 := h.2; unfold SeqAt.shaped at h2; exact (Bool.and_eq_true _ _ ▸ h2).1)
theorem cut_drop (xs : List D) (k : Nat) : cutD xs (some (k : Int)) none = xs.drop k := by
  unfold cutD
  rw [HT.sIx_nat, HT.sIx_none]
  by_cases h : k ≤ xs.length
  · rw [Nat.min_eq_left h, List.take_of_length_le (by rw [List.length_drop]; omega)]
  · rw [Nat.min_eq_right (by omega), List.drop_length, List.drop_eq_nil_of_le (by omega)]
    simp
theorem cut_1 (x : D) (r : List D) : cutD (x :: r) (some 1) none = r := cut_drop (x :: r) 1
theorem cut_take (xs : List D) (k : Nat) : cutD xs none (some (k : Int)) = xs.take k := by
  unfold cutD
  rw [HT.sIx_nat, HT.sIx_none]
  rw [List.drop_zero, Nat.sub_zero]
  by_cases h : k ≤ xs.length
  · rw [Nat.min_eq_left h]
  · rw [Nat.min_eq_right (by omega), List.take_of_length_le (Nat.le_refl _), List.take_of_length_le (by omega)]
end DL

set_option maxHeartbeats 2000000
namespace DL
open PySem PySem.Spec PyProof.Rows L2
/-! ### try .. except C as e, the exception a piece of data -/
theorem SlD.unset {O : Ow} {H : Hp} {σ : L2.St} {ds : Sl} (h : SlD O H σ ds) (i : Nat) : SlD O H (σ.set i none) (ds.set i none) :=
  ⟨by rw [List.length_set, List.length_set, h.len], fun j e he => by
    by_cases hj : i = j
    · subst hj
      by_cases hi : i < ds.length
      · rw [List.getElem?_set_self hi] at he
        cases he
      · rw [List.getElem?_eq_none (by rw [List.length_set]; omega)] at he
        cases he
    · rw [List.getElem?_set_ne hj] at he
      obtain ⟨u, a, b⟩ := h.val j e he
      exact ⟨u, by rw [List.getElem?_set_ne hj]; exact a, b⟩⟩
/-- what an own error class must have -/
structure Ex2 (K : PySem.W.Frag) (C M : Addr) : Prop where
  xf : XfC K C
  no : PySem.W.findIn K (.ref C) "told" = some none
  ex : ExcC K C
  em : PySem.W.exmOne K (.ref C) (.ref C) = some true
  ki : PySem.W.kitOne K (.ref C) (.ref M) = some true
def wTold (a : Addr) (cls : Value) (d : Option Addr) (C : Addr) (W : WE) : WE := fun ds P => W ds fun x => ∃ dd t, x = .exn a dd t ∧ cls = .ref C ∧ d = some dd ∧ P t
def fIsE (a : Addr) (cls : Value) (d : Option Addr) (C M : Addr) : DFn := fun es P => ∃ dd t, es = [.exn a dd t, .fn M] ∧ cls = .ref C ∧ d = some dd ∧ P (.bl true)
section
variable {X : Cx} {a C M : Addr} {oe : Obj} {cls : Value} {d : Option Addr} {pn : List (Addr × Obj)} {e : Expr} {W : WE} {pos : Pos}
theorem we_told (T : Ex2 X.K C M) (hz : Zc cls d oe) (hf : ∃ vs, oe.data = .fields vs) (he : PE (X.suite a ((a, oe) :: pn)) e (tW W)) (hb : attributeBase e "told" X.env (eval e X.env) = eval e X.env := by rfl) :
    PE (X.suite a ((a, oe) :: pn)) (.Attribute e "told" pos) (tW (wTold a cls d C W)) :=
  PE.weak (pe_xf T.xf T.no hz hf he hb) fun σ H Q ⟨O, ds, P, hS, hO, hW, k⟩ => ⟨O, ds, _, hS, hO, hW, fun x hx v H1 e1 q1 => by
    obtain ⟨dd, t, rfl, hc, hd, p⟩ := hx
    cases q1 with
    | exn x r q => exact ⟨rfl, hc, dd, _, _, hd, r, rfl, k _ p _ H1 e1 q⟩⟩
theorem call_isX (T : Ex2 X.K C M) (hz : Zc cls d oe) (hf : ∃ vs, oe.data = .fields vs) : CallR (X.suite a ((a, oe) :: pn)) (.builtin "isinstance") (rF (fIsE a cls d C M)) := by
  intro pins s σ H xs us Q I r ⟨O, es, P, hq, hO, ⟨dd, t, he, hc, hd, p⟩, k⟩
  subst he
  subst hc
  subst hd
  cases hq with
  | cons q1 qr =>
    cases qr with
    | cons q2 qr2 =>
      cases qr2
      cases q1 with
      | exn x1 r1 q =>
        cases q2
        cases r with
        | cons ra rb =>
          cases rb with
          | cons rc rd =>
            cases rd
            cases ra
            cases rc
            obtain ⟨at_, _⟩ := I.pin (a, oe) (List.mem_append.mpr (.inl List.mem_cons_self))
            obtain ⟨vs, hv⟩ := hf
            obtain ⟨mA, hns, _⟩ : ObjOk _ _ _ _ dd (.xd _) := I.hok dd _ r1
            obtain ⟨od, ho, _⟩ := lookIn_ns hns
            have J : PySem.W.InstAt s.heap a oe C (some od) := ⟨at_, hz.1, (by unfold PySem.W.notCls; rw [hv] <;> rfl), (by rw [hz.2]; exact ho)⟩
            obtain ⟨cd, hcd, _⟩ := PySem.W.any_some T.ex.hd
            exact PySem.W.kia_one (PySem.W.kitx_exc (by rw [hcd]; rfl) T.ex.hg T.ex.hk T.ex.hs T.ex.ha T.ex.hn T.ex.ht T.ex.hm) I.kIn J T.ki (fun z => nomatch z) fun tk => ⟨.bl true, H, I.kept (t' := tk) fun _ _ z => z, rfl, k _ p _ H (.refl _ _) (.bl true)⟩
end
/-! ### expressions that may raise -/
abbrev WZ := Sl → (D → Prop) → (Addr → D → Prop) → Prop
def tZW (W : WX) (B : WZ) : TE := fun σ H Q => ∃ (O : Ow) (ds : Sl) (P : D → Prop) (Z : Addr → D → Prop), SlD O H σ ds ∧ OwnAll O H ∧ B ds P Z ∧ (∀ d, P d → ∀ v H', Ext O H H' → Dq O H' v d → Q v H') ∧
  ∀ C t, Z C t → ∀ dx v H', Ext O H H' → Out O dx → H' dx = some (.xd [("told", v)]) → Dq O H' v t → W (.ref C) (some dx) σ H'
def wzCall (g : DSp) (A : WA) : WZ := fun ds P Z => A ds fun es => g es P Z
def wzCallL (i : Nat) (ok : Addr → Prop) (g : DSp) (A : WA) : WZ := fun ds P Z => ∃ f, ds[i]? = some (some (.fn f)) ∧ ok f ∧ A ds fun es => g es P Z
section
variable {X : Cx} {k i : Nat} {f : Addr} {fd : FuncData} {ps : List Str} {x : Str} {p pos : Pos} {e : Expr} {es : List Expr} {A : WA} {g : DSp} {W : WX} {ok : Addr → Prop} {CX : CXT} {sp : Sp} {E : L2.St → XK} {t : TA}
theorem zred {σ : L2.St} {H : Hp} {Q : VK} {O : Ow} {ds : Sl} {P : D → Prop} {Z : Addr → D → Prop} (hS : SlD O H σ ds) (hO : OwnAll O H) (hA : A ds fun es => g es P Z) (hP : ∀ d, P d → ∀ v H', Ext O H H' → Dq O H' v d → Q v H')
    (hZ : ∀ C t, Z C t → ∀ dx v H', Ext O H H' → Out O dx → H' dx = some (.xd [("told", v)]) → Dq O H' v t → W (.ref C) (some dx) σ H') : tAW A σ H fun vs H1 => spD g vs H1 Q (L2.WE W σ) :=
  ⟨O, ds, _, hS, hO, hA, fun es he vs H1 e1 q1 => ⟨O, es, P, Z, q1, hO.mono e1, he, fun d hd v H2 e2 q2 => hP d hd v H2 (e1.trans e2) q2, fun C t z dx v H2 e2 ox hx q2 => hZ C t z dx v H2 (e1.trans e2) ox hx q2⟩⟩
theorem we_zcall (F : FnOk X.prog X.w X.K X.mg X.base (L2.CX X.prog X.w) k f fd ps (spD g)) (hr : Room k X.A) (tk : Takes X W) (hg : Gl X x) (hm : X.mg x = some (.ref f)) (hk : PySem.W.keepIn X.K (.ref f) = true) (hb : Binds X.K fd ps [])
    (ha : PA X (e :: es) (tAW A)) (hdb : (x == ("__debug__" : Str)) = false := by decide) (he : starEach (e :: es) X.env = (false, eval e X.env) :: starEach es X.env := by rfl) (hpl : (backTo pos (starEach es X.env)).any (·.1) = false := by rfl) :
    PE X (.Call (.Name x p) (e :: es) [] pos) (tZW W (wzCall g A)) :=
  PE.weak (pe_callS F hr hg hm hk hb (fun σ => passAt tk σ) ha hdb he hpl) fun σ H Q ⟨O, ds, P, Z, hS, hO, hA, hP, hZ⟩ => zred hS hO hA hP hZ
def tCallLS (i : Nat) (ok : Addr → Prop) (sp : Sp) (E : L2.St → XK) (t : TA) : TE := fun σ H Q => ∃ f, σ[i]? = some (some (.ref f)) ∧ ok f ∧ t σ H fun vs H1 => sp vs H1 Q (E σ)
theorem pe_callLS (A : ∀ f, ok f → ∃ fd ps, FnOk X.prog X.w X.K X.mg X.base CX k f fd ps sp ∧ PySem.W.keepIn X.K (.ref f) = true ∧ Binds X.K fd ps []) (room : Room k X.A) (hN : X.N[i]? = some x) (hv : Vis X.env.scope x) (hx : ∀ σ, PassesAt CX X σ (E σ))
    (ha : PA X (e :: es) t) (hdb : (x == ("__debug__" : Str)) = false := by decide) (hcd : (x == ("__classdict__" : Str)) = false := by decide)
    (he : starEach (e :: es) X.env = (false, eval e X.env) :: starEach es X.env := by rfl) (hpl : (backTo pos (starEach es X.env)).any (·.1) = false := by rfl) : PE X (.Call (.Name x p) (e :: es) [] pos) (tCallLS i ok sp E t) := by
  refine ⟨fun pins s σ H Q inv ⟨f, hf, hok, ht⟩ => ?_⟩
  obtain ⟨fd, ps, F, keeps, binds⟩ := A f hok
  refine wpAny_Call_Name_kw (thn ((pe_var (pos := p) hN hv hdb hcd).run pins s σ H (fun v' H' => v' = .ref f ∧ H' = H) inv ⟨.ref f, hf, rfl, rfl⟩) fun u' s' ⟨v', H', inv', rv, rest⟩ => ?_)
  cases rest.1
  cases rest.2
  cases rv
  exact PySem.W.callWith_K (h₀ := X.base) inv.ok.mod.kin keeps (thn (ha.run pos pins s' σ _ _ inv' ht) fun us' s'' ⟨vs', H'', inv'', rvs, q''⟩ => ⟨inv''.kIn, run_fnS F room binds (hx σ) inv'' rvs q''⟩) he hpl
theorem we_zcallL (F : ∀ f, ok f → ∃ fd ps, FnOk X.prog X.w X.K X.mg X.base (L2.CX X.prog X.w) k f fd ps (spD g) ∧ PySem.W.keepIn X.K (.ref f) = true ∧ Binds X.K fd ps []) (hr : Room k X.A) (tk : Takes X W) (hN : X.N[i]? = some x) (hv : Vis X.env.scope x)
    (ha : PA X (e :: es) (tAW A)) (hdb : (x == ("__debug__" : Str)) = false := by decide) (hcd : (x == ("__classdict__" : Str)) = false := by decide)
    (he : starEach (e :: es) X.env = (false, eval e X.env) :: starEach es X.env := by rfl) (hpl : (backTo pos (starEach es X.env)).any (·.1) = false := by rfl) : PE X (.Call (.Name x p) (e :: es) [] pos) (tZW W (wzCallL i ok g A)) :=
  PE.weak (pe_callLS F hr hN hv (fun σ => passAt tk σ) ha hdb hcd he hpl) fun σ H Q ⟨O, ds, P, Z, hS, hO, ⟨f, hf, hok, hA⟩, hP, hZ⟩ => by
    obtain ⟨v, h1, h2⟩ := hS.val i _ hf
    cases h2
    exact ⟨f, h1, hok, zred hS hO hA hP hZ⟩
end
/-! ### try: a statement of one such expression -/
def gTryRet (i : Nat) (C : Addr) (GS : Addr → Value → Option Addr → WS) (B : WZ) : WS := fun ds N R _ => B ds R fun C' t => C' = C ∧ ∀ a dd, GS a (.ref C) (some dd) (ds.set i (some (.exn a dd t))) (fun ds' => N (ds'.set i none)) R fun _ _ => False
def gTryDrop (i : Nat) (C : Addr) (GS : Addr → Value → Option Addr → WS) (B : WZ) : WS := fun ds N R _ => B ds (fun _ => N ds) fun C' t => C' = C ∧ ∀ a dd, GS a (.ref C) (some dd) (ds.set i (some (.exn a dd t))) (fun ds' => N (ds'.set i none)) R fun _ _ => False
section
variable {X : Cx} {x n : Str} {C M : Addr} {i : Nat} {suite : List Stmt} {b₀ : Stmt} {np pos p1 pos' : Pos} {GS : Addr → Value → Option Addr → WS} {B : WZ} {ec : Expr} {E : XK}
theorem ws_tryRet (T : Ex2 X.K C M) (hs : X.stack = X.env :: X.outer) (hf : X.env.frame = some X.env.locals) (hN : X.N.Nodup) (hi : X.N[i]? = some n) (hln : X.env.kindOf n = some .local) (hc : Names X x (.ref C))
    (hb : ∀ (W : WX) (pn : List (Addr × Obj)) (xe : Value → Shared → Prop), Takes (X.tr pn xe) W → PE (X.tr pn xe) ec (tZW W B))
    (hsu : ∀ (a : Addr) (oe : Obj) (cls : Value) (d : Option Addr) (pn : List (Addr × Obj)), Zc cls d oe → (∃ vs, oe.data = .fields vs) → PSs (X.suite a ((a, oe) :: pn)) (b₀ :: suite) (tSW (fun _ _ _ => False) (GS a cls d))) :
    PS X (.Try [.Return (some ec) p1] [.ExceptHandler (some (.Name x np)) (some n) (b₀ :: suite) pos'] [] [] pos) (tSW E (gTryRet i C GS B)) :=
  PS.weak (ps_try_as (i := i) (tb := fun W => tRet (tZW W B)) (ts := fun a cls d => tSW (fun _ _ _ => False) (GS a cls d)) (Wout := fun _ _ _ _ => False) hs hf hN hi hln hc takes0 (fun W pn xe tk _ => pss_one (ps_ret (hb W pn xe tk))) hsu)
    fun D σ H ⟨O, ds, N, R, Z, hS, hO, hG, hNx, hR, hZ⟩ => ⟨O, ds, R, _, hS, hO, hG, hR, fun C' t z dx v H' e1 ox hx q1 => by
      obtain ⟨rfl, hz⟩ := z
      exact ⟨true, T.em, fun _ a _ => ⟨O, _, _, R, _, (hS.mono e1).set i (.exn ox hx q1), hO.mono e1, hz a dx, fun ds' hd σ' H2 e2 s2 => hNx _ hd _ H2 (e1.trans e2) (s2.unset i), fun d hd v H2 e2 q2 => hR d hd v H2 (e1.trans e2) q2, fun _ _ z => z.elim⟩, fun z => nomatch z⟩⟩
theorem ws_tryDrop (T : Ex2 X.K C M) (hs : X.stack = X.env :: X.outer) (hf : X.env.frame = some X.env.locals) (hN : X.N.Nodup) (hi : X.N[i]? = some n) (hln : X.env.kindOf n = some .local) (hc : Names X x (.ref C))
    (hb : ∀ (W : WX) (pn : List (Addr × Obj)) (xe : Value → Shared → Prop), Takes (X.tr pn xe) W → PE (X.tr pn xe) ec (tZW W B))
    (hsu : ∀ (a : Addr) (oe : Obj) (cls : Value) (d : Option Addr) (pn : List (Addr × Obj)), Zc cls d oe → (∃ vs, oe.data = .fields vs) → PSs (X.suite a ((a, oe) :: pn)) (b₀ :: suite) (tSW (fun _ _ _ => False) (GS a cls d)))
    (hw : swapsWith ec none p1.line X.env = pure false := by rfl) :
    PS X (.Try [.Expr ec p1] [.ExceptHandler (some (.Name x np)) (some n) (b₀ :: suite) pos'] [] [] pos) (tSW E (gTryDrop i C GS B)) :=
  PS.weak (ps_try_as (i := i) (tb := fun W => tDrop (tZW W B)) (ts := fun a cls d => tSW (fun _ _ _ => False) (GS a cls d)) (Wout := fun _ _ _ _ => False) hs hf hN hi hln hc takes0 (fun W pn xe tk _ => pss_one (ps_expr (hb W pn xe tk) hw)) hsu)
    fun D σ H ⟨O, ds, N, R, Z, hS, hO, hG, hNx, hR, hZ⟩ => ⟨O, ds, _, _, hS, hO, hG, fun d hd v H' e1 _ => hNx ds hd σ H' e1 (hS.mono e1), fun C' t z dx v H' e1 ox hx q1 => by
      obtain ⟨rfl, hz⟩ := z
      exact ⟨true, T.em, fun _ a _ => ⟨O, _, _, R, _, (hS.mono e1).set i (.exn ox hx q1), hO.mono e1, hz a dx, fun ds' hd σ' H2 e2 s2 => hNx _ hd _ H2 (e1.trans e2) (s2.unset i), fun d hd v H2 e2 q2 => hR d hd v H2 (e1.trans e2) q2, fun _ _ z => z.elim⟩, fun z => nomatch z⟩⟩
end
/-- a weaker promise -/
theorem FnOk.weak {P : Program} {w : World} {K : PySem.W.Frag} {mg : Str → Option Value} {base : Heap} {CX : CXT} {k : Nat} {f : Addr} {fd : FuncData} {ps : List Str} {sp sp' : Sp} (F : FnOk P w K mg base CX k f fd ps sp) (h : ∀ vs H Q E, sp' vs H Q E → sp vs H Q E) :
    FnOk P w K mg base CX k f fd ps sp' := ⟨fun vs H Q E z => F.len vs H Q E (h _ _ _ _ z), fun A outer s H ar us vs Q E hr ev hb hv z => F.run A outer s H ar us vs Q E hr ev hb hv (h _ _ _ _ z)⟩
theorem FnOk.up {P : Program} {w : World} {K : PySem.W.Frag} {mg : Str → Option Value} {base : Heap} {CX : CXT} {k k' : Nat} {f : Addr} {fd : FuncData} {ps : List Str} {sp : Sp} (F : FnOk P w K mg base CX k f fd ps sp) (h : k ≤ k') :
    FnOk P w K mg base CX k' f fd ps sp := ⟨F.len, fun A outer s H ar us vs Q E hr ev hb hv z => F.run A outer s H ar us vs Q E (hr.mono h) ev hb hv z⟩
theorem boot_isinstanceB : bootBuiltins "isinstance" = some (.builtin "isinstance") := by decide +kernel
end DL

set_option maxHeartbeats 2000000
namespace DL
open PySem PySem.Spec PyProof.Rows L2
/-! ### a fresh list that a loop writes to: held by its address, its slot a mere token the while -/
theorem OwnAll.put {O : Ow} {H : Hp} {p : Addr} {o o' : HO} (h : OwnAll (O ++ [(p, .hold o)]) H) (op : Out O p) : OwnAll (O ++ [(p, .hold o')]) (upd H p o') :=
  OwnAll.hold (O := O) ⟨fun q hq => by
    obtain ⟨u, hu, k⟩ := h.less.here q hq
    exact ⟨u, by rw [upd_ne (fun e => op q hq e.symm)]; exact hu, k⟩, h.less.uq⟩ op upd_same
theorem SlD.rehold {O : Ow} {H : Hp} {σ : L2.St} {ds : Sl} {p : Addr} {o o' : HO} (h : SlD (O ++ [(p, .hold o)]) H σ ds) : SlD (O ++ [(p, .hold o')]) H σ ds :=
  ⟨h.len, fun i d hd => by
    obtain ⟨v, a, b⟩ := h.val i d hd
    exact ⟨v, a, b.rehold⟩⟩
theorem SlD.less {O : Ow} {H : Hp} {σ : L2.St} {ds : Sl} {p : Addr} {o : HO} (h : SlD (O ++ [(p, .hold o)]) H σ ds) : SlD O H σ ds :=
  ⟨h.len, fun i d hd => by
    obtain ⟨v, a, b⟩ := h.val i d hd
    exact ⟨v, a, b.less⟩⟩
theorem SlD.put {O : Ow} {H : Hp} {σ : L2.St} {ds : Sl} {i : Nat} {v : V} {d : D} (h : SlD O H σ ds) (hv : σ[i]? = some (some v)) (q : Dq O H v d) : SlD O H σ (ds.set i (some d)) :=
  ⟨by rw [List.length_set, h.len], fun j e he => by
    by_cases hj : i = j
    · subst hj
      by_cases hi : i < ds.length
      · rw [List.getElem?_set_self hi] at he
        cases he
        exact ⟨v, hv, q⟩
      · rw [List.getElem?_eq_none (by rw [List.length_set]; omega)] at he
        cases he
    · rw [List.getElem?_set_ne hj] at he
      exact h.val j e he⟩
theorem DqAll.set {O : Ow} {H : Hp} {v : V} {d : D} (q : Dq O H v d) : ∀ {vs : List V} {ds : List D} (k : Nat), DqAll O H vs ds → DqAll O H (vs.set k v) (ds.set k d)
  | _, _, _, .nil => .nil
  | _, _, 0, .cons _ b => .cons q b
  | _, _, k + 1, .cons a b => .cons a (b.set q k)
theorem Out.hold_ne {O : Ow} {p b : Addr} {o : HO} (h : Out (O ++ [(p, .hold o)]) b) : b ≠ p := h (p, .hold o) (by simp)
theorem Out.hold_out {O : Ow} {p b : Addr} {o : HO} (h : Out (O ++ [(p, .hold o)]) b) : Out O b := fun q hq => h q (List.mem_append_left _ hq)
structure Hd (O : Ow) (p : Addr) (vs : List V) (H : Hp) (σ : L2.St) (ds : Sl) (dv : List D) : Prop where
  sl : SlD (O ++ [(p, .hold (.lst vs))]) H σ ds
  al : DqAll (O ++ [(p, .hold (.lst vs))]) H vs dv
  ow : OwnAll (O ++ [(p, .hold (.lst vs))]) H
theorem Hd.mono {O : Ow} {p : Addr} {vs : List V} {H H' : Hp} {σ : L2.St} {ds : Sl} {dv : List D} (h : Hd O p vs H σ ds dv) (e : Ext (O ++ [(p, .hold (.lst vs))]) H H') : Hd O p vs H' σ ds dv := ⟨h.sl.mono e, h.al.mono e, h.ow.mono e⟩
theorem Hd.at {O : Ow} {p : Addr} {vs : List V} {H : Hp} {σ : L2.St} {ds : Sl} {dv : List D} (h : Hd O p vs H σ ds dv) : H p = some (.lst vs) := by
  obtain ⟨u, h1, h2⟩ := h.ow.here (p, .hold (.lst vs)) (by simp)
  have h2' : u = .lst vs := h2
  rw [← h2']
  exact h1
theorem Hd.store {O : Ow} {p : Addr} {vs : List V} {H : Hp} {σ : L2.St} {ds : Sl} {dv : List D} (h : Hd O p vs H σ ds dv) (op : Out O p) {v : V} {d : D} (k : Nat) (q : Dq (O ++ [(p, .hold (.lst vs))]) H v d) :
    Hd O p (vs.set k v) (upd H p (.lst (vs.set k v))) σ ds (dv.set k d) := by
  have kp : ∀ b o, Out (O ++ [(p, Own.hold (.lst vs))]) b → H b = some o → upd H p (.lst (vs.set k v)) b = some o := fun b o hb hh => by
    rw [upd_ne hb.hold_ne]
    exact hh
  exact ⟨(h.sl.keep kp).rehold, ((h.al.keep kp).set (q.keep kp) k).rehold, h.ow.put op⟩
def gCL (i j : Nat) (Wa Wb : WE) (Wi : WI) (T : WT) (We : WE) : WS := fun ds N _ _ => Wa ds fun x => ∃ xs, x = .lst xs ∧ Wb ds fun y => ∃ ys, y = .lst ys ∧ xs.length + ys.length ≤ sizeLine ∧ ∀ p, Wi (ds.set i (some (.fn p))) fun items =>
  ∃ I : Nat → Sl → List D → Prop, I 0 (ds.set i (some (.fn p))) (xs ++ ys) ∧
    (∀ m x ds' dv, items[m]? = some x → I m ds' dv → (ds'.set j (some x))[i]? = some (some (.fn p)) ∧ T (ds'.set j (some x)) fun b => if b = true then We (ds'.set j (some x)) fun d => ∃ k : Nat, (ds'.set j (some x))[j]? = some (some (.int k)) ∧ k < dv.length ∧ I (m + 1) (ds'.set j (some x)) (dv.set k d) else I (m + 1) (ds'.set j (some x)) dv) ∧
    ∀ ds' dv, I items.length ds' dv → ds'[i]? = some (some (.fn p)) ∧ N (ds'.set i (some (.lst dv)))
section
variable {X : Cx} {i j : Nat} {Wa Wb We : WE} {Wi : WI} {T : WT} {a b c e iter tg : Expr} {xi xj : Str} {p0 p1 p2 p3 pb ps pa pif pf : Pos} {rest : List Stmt} {E : XK} {G2 : WS}
theorem wss_catLoop (hN : X.N.Nodup) (hi : X.N[i]? = some xi) (hx : Loc X.env.scope xi) (ha : PE X a (tW Wa)) (hb : PE X b (tW Wb)) (hp : PassesOwn (model X.prog X.w) X.A X.env X.xe) (hc : X.calm = true) (hit : PI X tg iter (tIW Wi)) (hg : PG X tg (gName j)) (ht : PT X c (tTW T)) (he : PE X e (tW We))
    (hxi : PE X (.Name xi p1) (tVar i)) (hxj : PE X (.Name xj p2) (tVar j)) (h2 : PSs X rest (tSW E G2))
    (hs : swapsWith (.BinOp a .Add b pb) (some (.Name xi p0)) ps.line X.env = pure false := by rfl) (hf : X.fn xi = true ∨ X.env.scope.names.lookup xi = some .local := by first | exact .inl rfl | exact .inr rfl)
    (hs2 : swapsWithSole [.Subscript (.Name xi p1) (.Name xj p2) p3] e pa.line X.env = pure false := by rfl) (hw : swappedStores [.Subscript (.Name xi p1) (.Name xj p2) p3] e X.env = pure none := by rfl)
    (hs3 : ∀ x, foldedSetIterable iter X.env x = pure x := by intro _; rfl) :
    PSs X (.Assign [.Name xi p0] (.BinOp a .Add b pb) ps :: .For tg iter [.If c [.Assign [.Subscript (.Name xi p1) (.Name xj p2) p3] e pa] [] pif] [] pf :: rest) (tSW E (gSeq (gCL i j Wa Wb Wi T We) G2)) :=
  PSs.weak (pss_cons (ps_set hN hi hx (pe_op op_cat ha hb) hs hf) (pss_cons (ps_for hp hc hit hg (pss_one (ps_if ht (pss_one (ps_asg he (pg_sub hxi hxj set_list) hs2 hw)) pss_nil)) hs3) h2)) fun D σ H ⟨O, ds, N, R, Z, hS, hO, hG, hNx, hR, hZ⟩ =>
    ⟨O, ds, _, hS, hO, hG, fun dx hdx vx H1 e1 q1 => by
      obtain ⟨xs, rfl, hw2⟩ := hdx
      refine ⟨O, ds, _, hS.mono e1, hO.mono e1, hw2, fun dy hdy vy H2 e2 q2 => ?_⟩
      obtain ⟨ys, rfl, hsz, hG3⟩ := hdy
      cases q1 with
      | lst o1 r1 a1 =>
        cases q2 with
        | lst o2 r2 a2 =>
          rename_i l1 us1 l2 us2
          refine ⟨_, _, _, _, rfl, rfl, e2.keep _ _ o1 r1, r2, by rw [a1.length, a2.length]; exact hsz, fun p hpn => ?_⟩
          have e12 := e1.trans e2
          have O2 := hO.mono e12
          have op : Out O p := O2.out hpn
          let vs0 := us1 ++ us2
          let H3 := upd H2 p (.lst vs0)
          have kp : ∀ b o, Out (O ++ [(p, Own.hold (.lst vs0))]) b → H2 b = some o → H3 b = some o := fun b o hb hh => by
            show upd H2 p (.lst vs0) b = some o
            rw [upd_ne hb.hold_ne]
            exact hh
          have D0 : Hd O p vs0 H3 (σ.set i (some (.ref p))) (ds.set i (some (.fn p))) (xs ++ ys) :=
            ⟨(((hS.mono e12).more hpn).keep kp).set i (.fn p), (((a1.mono e2).append a2).more hpn).keep kp, OwnAll.hold (O := O) ⟨fun q hq => by
              obtain ⟨u, hu, k⟩ := O2.here q hq
              exact ⟨u, by show upd H2 p (.lst vs0) q.1 = some u; rw [upd_ne (fun e => op q hq e.symm)]; exact hu, k⟩, O2.uq⟩ op upd_same⟩
          have E0 : Ext O H2 H3 := .new hpn
          show tIW Wi _ H3 _
          refine ⟨_, _, _, D0.sl, D0.ow, hG3 p, fun items hI J H4 e4 hwalk => ?_⟩
          obtain ⟨I, h0, h1, h3⟩ := hI
          obtain ⟨Gd, w, hGd⟩ := hwalk
          have D1 := D0.mono e4
          have E1 : Ext O H2 H4 := e4.drop E0 hpn
          refine for_it w (fun m σ' H' => ∃ ds' dv vs, I m ds' dv ∧ Hd O p vs H' σ' ds' dv ∧ Ext O H2 H' ∧ ∀ b o, Out (O ++ [(p, Own.hold (.lst vs0))]) b → H4 b = some o → H' b = some o) ⟨_, _, vs0, h0, D1, E1, fun _ _ _ h => h⟩ (fun m σ' H' _ ⟨_, _, _, _, _, _, k⟩ => hGd H' k) ?_ ?_
          · rintro m x σ' H' H'' hm ⟨ds', dv, vs, hI, hd, E2, kk⟩ ⟨rfl, d, hxd, qd⟩
            obtain ⟨hsl, hT⟩ := h1 m d ds' dv hxd hI
            have hd2 : Hd O p vs H'' (σ'.set j (some x)) (ds'.set j (some d)) dv := ⟨hd.sl.set j ((qd.keep kk).rehold), hd.al, hd.ow⟩
            refine ⟨_, _, _, hd2.sl, hd2.ow, hT, fun bb hbb H5 e5 => ?_⟩
            have hd3 := hd2.mono e5
            have E3 : Ext O H2 H5 := e5.drop E2 hpn
            have k3 : ∀ b o, Out (O ++ [(p, Own.hold (.lst vs0))]) b → H4 b = some o → H5 b = some o := fun b o hb hh => e5.keep b o (out_rehold hb) (kk b o hb hh)
            cases bb with
            | false =>
              rw [if_neg Bool.false_ne_true] at hbb
              show tNext _ _ _
              exact ⟨_, dv, vs, hbb, hd3, E3, k3⟩
            | true =>
              rw [if_pos rfl] at hbb
              show tAsg (tW We) (gSub (tVar i) (tVar j) rSetL) _ _ _
              refine ⟨_, _, _, hd3.sl, hd3.ow, hbb, fun dd hdd v H6 e6 q6 => ?_⟩
              obtain ⟨k, hk, hkl, hI2⟩ := hdd
              have hd4 := hd3.mono e6
              have E4 : Ext O H2 H6 := e6.drop E3 hpn
              obtain ⟨vi, hvi, qi⟩ := hd4.sl.val i _ hsl
              cases qi
              obtain ⟨vj, hvj, qj⟩ := hd4.sl.val j _ hk
              cases qj
              refine ⟨_, hvi, _, hvj, p, vs, k, k, rfl, rfl, hd4.at, Evl.ixN_nat (by rw [hd4.al.length]; exact hkl), ?_⟩
              refine ⟨_, _, vs.set k v, hI2, hd4.store op k q6, ⟨fun b o hb hh => ?_, fun q hq hh => ?_⟩, fun b o hb hh => ?_⟩
              · rw [upd_ne (ne_of_none hh hpn)]
                exact E4.keep b o hb hh
              · obtain ⟨u, hu, ku⟩ := E4.own q hq hh
                exact ⟨u, by rw [upd_ne (fun e => op q hq e.symm)]; exact hu, ku⟩
              · rw [upd_ne hb.hold_ne]
                exact e6.keep b o (out_rehold hb) (k3 b o hb hh)
          · rintro σ' H' ⟨ds', dv, vs, hI, hd, E2, _⟩
            obtain ⟨hsl, hNN⟩ := h3 ds' dv hI
            obtain ⟨vi, hvi, qi⟩ := hd.sl.val i _ hsl
            cases qi
            have eAll := e12.trans E2
            exact ⟨O, _, N, R, Z, (hd.sl.less).put hvi (.lst op hd.at hd.al.less), hd.ow.less, hNN, fun ds2 hd2 σ2 H5 e5 s5 => hNx ds2 hd2 σ2 H5 (eAll.trans e5) s5, fun d hd2 v H5 e5 q5 => hR d hd2 v H5 (eAll.trans e5) q5, fun C d hd2 dx v H5 e5 ox => hZ C d hd2 dx v H5 (eAll.trans e5) ox⟩⟩
end
/-- xs.index(y), bools -/
def wIndex (W Wy : WE) : WE := fun ds P => W ds fun d => ∃ es bs, d = .lst es ∧ boolsOf es = some bs ∧ Wy ds fun y => ∃ c, ∃ k : Nat, y = .bl c ∧ bs[k]? = some c ∧ (∀ m, m < k → bs[m]? ≠ some c) ∧ P (.int (k : Int))
section
variable {X : Cx} {e o : Expr} {W Wy : WE} {pos pa : Pos}
theorem we_index (ho : PE X o (tW W)) (ha : PE X e (tW Wy)) (hbase : attributeBase o "index" X.env (eval o X.env) = eval o X.env := by rfl)
    (hfew : ((backTo pos (starEach [e] X.env)).all (fun x => !x.1) && (backToKw pos (keywordEach [] X.env)).all (fun x => x.1.isSome)
      && decide (([e] : List Expr).length + ([] : List Keyword).length + (if ([] : List Keyword).isEmpty then 0 else 1) < 30)) = true := by rfl)
    (hline : (pa.endLine == pos.line) = true := by rfl) (hs : starEach [e] X.env = (false, eval e X.env) :: starEach [] X.env := by rfl) (hpl : (backTo pos (starEach [] X.env)).any (·.1) = false := by rfl) :
    PE X (.Call (.Attribute o "index" pa) [e] [] pos) (tW (wIndex W Wy)) :=
  PE.weak (pe_bm PySem.F.plainAttrs_list PySem.F.slot_list_index PySem.F.type_list_index mt_index ho (pa_cons ha pa_nil hs) hbase hfew hline hs hpl) fun σ H Q ⟨O, ds, P, hS, hO, hW, k⟩ =>
    ⟨O, ds, _, hS, hO, hW, fun d hd v H1 e1 q1 => by
      obtain ⟨es, bs, rfl, hb, hy⟩ := hd
      cases q1 with
      | lst o1 r1 a1 =>
        have ev := boolsOf_vs hb a1
        subst ev
        refine ⟨.inl ⟨rfl, _, .inl (.of r1)⟩, O, ds, _, hS.mono e1, hO.mono e1, hy, fun dy hdy vy H2 e2 q2 => ?_⟩
        obtain ⟨c, n, rfl, h1, h2, hp⟩ := hdy
        cases q2
        refine ⟨_, _, _, n, .bl c, rfl, rfl, .inl (.of (e2.keep _ _ o1 r1)), rfl, ?_, ?_, ?_, ?_, k _ hp _ _ (e1.trans e2) (.int _)⟩
        · exact List.all_eq_true.mpr fun x hx => by
            obtain ⟨b, _, rfl⟩ := List.mem_map.mp hx
            rfl
        · rw [List.getElem?_map, h1]
          rfl
        · exact beq_self_eq_true c
        · intro m z hm hz
          rw [List.getElem?_map] at hz
          cases hbm : bs[m]? with
          | none => rw [hbm] at hz; cases hz
          | some b =>
            rw [hbm] at hz
            cases hz
            show (b == c) = false
            exact beq_eq_false_iff_ne.mpr fun e => h2 m hm (by rw [hbm, e])⟩
end
end DL

set_option maxHeartbeats 2000000
namespace DL
open PySem PySem.Spec PyProof.Rows L2
/-! ### the script: a list of numbers that nothing writes to -/
def fLenQ (K : PySem.W.Frag) : DFn := fun es P => ∃ ns, es = [.sq K ns] ∧ P (.int (ns.length : Int))
def dIxQ (K : PySem.W.Frag) : DOp := fun x y P => ∃ ns i, x = .sq K ns ∧ y = .int i ∧ ∃ n, L2.atI ns i = some n ∧ P (.int n)
theorem sq_read {O : Ow} {H : Hp} {K : PySem.W.Frag} {a : Addr} {ns : List Int} (h : (Out O a ∧ Rd H a (.lst (ns.map V.int))) ∨ KL K a (ns.map V.int)) : SqL K H a (ns.map V.int) := by
  rcases h with ⟨_, h⟩ | h
  · exact .inl h
  · exact h.sq H
section
variable {X : Cx} {a b : Expr} {Wa Wb : WE} {pos : Pos}
theorem call_fLenQ : CallR X (.builtin "len") (rF (fLenQ X.K)) := by
  intro pins s σ H xs us Q I r ⟨O, es, P, hq, hO, ⟨ns, he, hp⟩, k⟩
  subst he
  cases hq with
  | cons q1 q2 =>
    cases q2
    cases q1 with
    | sq h => exact call_len_seq pins s σ H _ us Q I r ⟨_, _, rfl, .inl (sq_read h), k _ (by rw [List.length_map]; exact hp) _ H (.refl _ _) (.int _)⟩
theorem atI_map {α β : Type} (f : α → β) {xs : List α} {i : Int} {x : α} (h : L2.atI xs i = some x) : L2.atI (xs.map f) i = some (f x) := by
  unfold L2.atI at h ⊢
  rw [List.length_map]
  cases e : ixN xs.length i with
  | none => rw [e] at h; simp at h
  | some n =>
    rw [e] at h
    simp only [Option.bind_some] at h ⊢
    rw [List.getElem?_map, h]
    rfl
theorem ix_q : IxR X (rD (dIxQ X.K)) := by
  intro value slice pins s σ H x y v u Q I rx ry ⟨O, dx, dy, P, qx, qy, hO, ⟨ns, i, ex, ey, n, hn, hp⟩, k⟩ hs
  subst ex
  subst ey
  cases qx with
  | sq h =>
    cases qy
    exact ix_list value slice pins s σ H _ _ v u Q I rx ry ⟨_, _, _, _, rfl, rfl, sq_read h, atI_map V.int hn, k _ hp _ H (.refl _ _) (.int _)⟩ hs
theorem we_ixQ (ha : PE X a (tW Wa)) (hb : PE X b (tW Wb)) (hs : PlainIx b := by exact fun _ _ => rfl) : PE X (.Subscript a b pos) (tW (wOp (dIxQ X.K) Wa Wb)) := PE.weak (pe_ix ix_q ha hb hs) fun _ _ _ h => op_red h
/-- X != e, X a tuple of texts of the module's top -/
def wNeK (zs : List Str) (W : WE) : WE := fun ds P => W ds fun d => okEq d ∧ SeqAt.shaped (.tuple (zs.map PyData.str)) = true ∧ P (.bl (!PyData.eqv (.tuple (zs.map PyData.str)) d.py))
theorem dp_strs {K : PySem.W.Frag} {H : Hp} : ∀ zs : List Str, DpAll K H (zs.map V.str) (zs.map PyData.str)
  | [] => .nil
  | z :: zs => .cons (.str z) (dp_strs zs)
theorem wt_neK {zs : List Str} {x : Str} {p2 : Pos} (hu : X.A.units + 64 < cLine) (hg : Gl X x) (hk : KTexts X.K X.mg x zs) (hb : PE X b (tW Wb)) (hm : behindInMarks .NotEq b = false) (hd : (x == ("__debug__" : Str)) = false := by decide) :
    PT X (.Compare (.Name x p2) [.NotEq] [b] pos) (tTW (wTest (wNeK zs Wb))) := by
  obtain ⟨q, hmg, o, its, n, h1, h2, h3, h4, h5⟩ := hk
  exact PT.weak (pt_cmpR (op_neD hu) (pe_glob (v := .ref q) hg hmg rfl hd) hb hm) fun σ H Q h => by
    obtain ⟨O, ds, P, hS, hO, hW, k⟩ := h
    refine ⟨O, ds, _, hS, hO, hW, fun d hdd v H1 e1 q1 => ?_⟩
    obtain ⟨ok, sh, c, hc, hp⟩ := hdd
    cases hc
    exact ⟨_, _, .tup (.inr ⟨o, its, n, h1, h2, h3, h4, h5⟩) (dp_strs zs), q1.dp ok.1, sh, ok.2, _, rfl, k _ hp H1 e1⟩
end
end DL

set_option maxHeartbeats 4000000
namespace DL
open PySem PySem.Spec PyProof.Rows L2
/-! ### the end, for a law whose defs ask that nothing is being written -/
theorem headG {P : Program} {w : World} {K : PySem.W.Frag} {mg mb : Str → Option Value} {n : Nat} {fl a : Addr} {fd : FuncData} {nm : Str} {sp : Sp} {t : Shared} {us : List Value} {ks : List Int}
    (inK : K.In t.heap) (top : t.heap.Ns mainGlobals mg) (blt : t.heap.Ns builtinsNs mb) (boot : ∀ y : Str, y ≠ "__name__" → mb y = bootBuiltins y) (free : t.heap.NoLimit) (none_ : t.gens = #[])
    (obj : t.heap.get? a = some { cls := .type "list", data := .seq us.toArray }) (are : IntsAre us ks) (few : ks.length ≤ sizeLine) (room : Room n callerA)
    (G : ∀ base : Heap, K.In base → base.Ns mainGlobals mg → FnG P w K mg base CX0 n fl fd [nm] sp) (bind : ∀ (s : Shared) (u : Value), BindsTo s fd ⟨[u], []⟩ [(nm, u)])
    (told : ∀ H : Hp, Only H → SqL K H a (ks.map V.int) → sp [.ref a] H (fun v _ => v = .bl true) fun _ _ _ => False) :
    codeAny (model P w) callerA (.call (.ref fl) ⟨[.ref a], []⟩) (fun z s' => z = .ok (.ret (.bool true)) ∧ OldK t.heap s'.heap ∧ s'.os = t.os ∧ AllBare s'.gens) t := by
  have len := are.length
  have vals := vals_ints are
  have main : ∀ H : Hp, Only H → SqL K H a (ks.map V.int) → HOk P w H t.heap → (∀ c, H c ≠ none → c = a) → (H a ≠ none → K.lookup a = none) →
      codeAny (model P w) callerA (.call (.ref fl) ⟨[.ref a], []⟩) (fun z s' => z = .ok (.ret (.bool true)) ∧ OldK t.heap s'.heap ∧ s'.os = t.os ∧ AllBare s'.gens) t := by
    intro H only seq ho onlyA notK
    have isA : ∀ {c : Addr} {u : HO}, H c = some u → c = a := fun {c u} z => onlyA c (by rw [z]; exact Option.some_ne_none u)
    have under : ∀ {c : Addr} {o : Obj}, t.heap.get? c = some o → H c = none → (hidT t.heap H).get? c = some o := fun z m => hidT_get z m
    have dictFree : ∀ {c : Addr} {o : Obj} {ents : Array DictEntry} {ep : Nat}, t.heap.get? c = some o → o.data = .dict ents ep → H c = none := by
      intro c o ents ep z d
      match q : H c with
      | none => rfl
      | some u =>
        have ec := isA q
        rw [ec, obj] at z
        cases z
        exact absurd (show Data.seq us.toArray _ = Data.dict ents ep from d) (fun y => by cases y)
    have nsUnder : ∀ {c : Addr} {m : Str → Option Value}, t.heap.Ns c m → (hidT t.heap H).Ns c m := by
      rintro c m ⟨o, ents, ep, z, d, r⟩
      exact ⟨o, ents, ep, under z (dictFree z d), d, r⟩
    have inUnder : K.In (hidT t.heap H) := by
      intro c o z
      refine under (inK c o z) ?_
      match q : H c with
      | none => rfl
      | some u =>
        have ec := isA q
        rw [ec] at z q
        have nk := notK (by rw [q]; exact Option.some_ne_none u)
        rw [z] at nk
        cases nk
    obtain ⟨mc, lim1, lim2⟩ := free
    have modU : Mod K mg (hidT t.heap H) := ⟨inUnder, nsUnder top, ⟨mb, nsUnder blt, boot⟩, ⟨mc, nsUnder lim1, lim2⟩⟩
    have env0 : Env0 P w K mg (hidT t.heap H) callerA [] t H := ⟨rfl, modU, fun c o z => of_hidT z, Nat.le_of_eq (hidT_size _ _), trivial, fun c hc => (List.not_mem_nil hc).elim, ho, .of_eq none_⟩
    refine codeAny_mono ((G _ inUnder (nsUnder top)).go callerA [] t H ⟨[.ref a], []⟩ [.ref a] [.ref a] _ _ rfl room env0 (bind t (.ref a)) (.cons rfl .nil) (told H only seq)) fun z s' h => ?_
    match z, h with
    | .error e, h => exact False.elim h
    | .ok .next, h => exact False.elim h
    | .ok .brk, h => exact False.elim h
    | .ok .cont, h => exact False.elim h
    | .ok (.ret u), h =>
      obtain ⟨v, H', os', bare', un', ho', rel, ev⟩ := h
      have ev' : v = .bl true := ev
      subst ev'
      obtain rfl : u = Value.bool true := rel
      refine ⟨rfl, OldK.of_keep fun c o z => ?_, os', bare'⟩
      match q : H c with
      | none => exact un'.keep c o z q (fun y => List.not_mem_nil (show c ∈ ([] : List Addr) from y)) List.not_mem_nil
      | some u =>
        rcases only c with y | ⟨ob, ys, y⟩
        · rw [q] at y
          cases y
        · obtain ⟨z1, _⟩ := ho c _ y
          obtain ⟨z2, _⟩ := ho' c _ (un'.frzs c ob _ y)
          rw [z] at z1
          cases z1
          exact z2
  match kl : K.lookup a with
  | some o =>
    have z := inK a o kl
    rw [obj] at z
    cases z
    exact main (fun _ => none) (fun _ => .inl rfl) (.inr ⟨_, us.toArray, _, kl, rfl, rfl, rfl, by rw [List.size_toArray, len]; exact few, by simpa using vals⟩) (fun c u y => nomatch (show (none : Option HO) = some u from y)) (fun c y => absurd rfl y) fun y => absurd rfl y
  | none =>
    let H : Hp := fun c => if c = a then some (.frz { cls := .type "list", data := .seq us.toArray } (.lst (ks.map V.int))) else none
    have atA : H a = some (.frz { cls := .type "list", data := .seq us.toArray } (.lst (ks.map V.int))) := if_pos rfl
    have off : ∀ {c : Addr}, c ≠ a → H c = none := fun hc => if_neg hc
    refine main H (fun c => ?_) (.inl (.inr ⟨_, atA⟩)) (fun c u y => ?_) (fun c y => ?_) fun _ => kl
    · by_cases hc : c = a
      · rw [hc]
        exact .inr ⟨_, _, atA⟩
      · exact .inl (off hc)
    · by_cases hc : c = a
      · subst hc
        rw [atA] at y
        cases y
        exact ⟨obj, by rw [List.length_map]; exact few, us, _, vals, obj⟩
      · rw [off hc] at y
        cases y
    · by_cases hc : c = a
      · exact hc
      · exact absurd (off hc) y
theorem walkG {l : PySem.W.OpenLaw} {most n : Nat} {q : Program} {loose : List Str} {XP : (Str → Option Value) → Heap → Prop} {YP : World → Heap → Prop} {d : DefRec} {K : Params → PySem.W.Frag} {sp : World → Sp} {nm : Str}
    (hm : l.most = some most) (hs : most ≤ sizeLine) (nodef : d.params.defaults = []) (room : Room n callerA) (parts : ∀ (w : World) (h : Heap), YP w h → (K w.params).In h)
    (F : ∀ (w : World) (mg : Str → Option Value) (fl : Addr) (h : Heap), (K w.params).In h → h.Ns mainGlobals mg → mg d.name = some (.ref fl) →
      ∃ fd : FuncData, (∀ (s : Shared) (u : Value), BindsTo s fd ⟨[u], []⟩ [(nm, u)]) ∧ ∀ base : Heap, (K w.params).In base → base.Ns mainGlobals mg → FnG l.prog w (K w.params) mg base CX0 n fl fd [nm] (sp w))
    (told : ∀ (w : World) (H : Hp) (a : Addr) (ks : List Int), ks.length ≤ most → Only H → SqL (K w.params) H a (ks.map V.int) → sp w [.ref a] H (fun v _ => v = .bl true) fun _ _ _ => False) :
    PySem.W.WalkO q loose XP YP l.row.toRowW d [] (fun f vs => PySem.call f vs) := by
  refine Att.attach_call hm nodef fun w s₀ t mg mb fl o pm cd doc a us ks Gr Y _ _ _ hmg obj are len gens => ?_
  have inK := parts w _ Y
  obtain ⟨fd, bind, hG⟩ := F w mg fl _ inK Gr.T.g hmg
  exact headG inK Gr.T.g Gr.T.b Gr.T.builtins Gr.T.nolimit gens obj are (Nat.le_trans len hs) room hG bind fun H only seq => told w H a ks len only seq
end DL

set_option maxHeartbeats 4000000
namespace DL
open PySem PySem.Spec PyProof.Rows L2
/-! ### what the top has written, out of its written part -/
structure DnF (K : PySem.W.Frag) (x : Str) (st : Stmt) : Prop where
  ex : ∃ (f : Addr) (oc : Value) (od : Option Addr) (kV dc pm : Value) (an : Option Addr) (cd ct : Value) (sl : Array (Option Value)), PySem.W.nsIn K mainGlobals x = some (some (.ref f)) ∧
    K.lookup f = some ⟨oc, od, .func (PySem.W.fnOf x x (defArgs st) (defBody st) (defScope st) .none kV dc pm an cd ct), sl⟩ ∧ PySem.W.codeIn K cd x = true ∧ PySem.W.keepIn K (.ref f) = true
theorem dnF {K : PySem.W.Frag} {x : Str} {st : Stmt} {f : Addr} {oc : Value} {od : Option Addr} {kV dc pm : Value} {an : Option Addr} {cd ct : Value} {sl : Array (Option Value)} (a : PySem.W.nsIn K mainGlobals x = some (some (.ref f)))
    (l : K.lookup f = some ⟨oc, od, .func (PySem.W.fnOf x x (defArgs st) (defBody st) (defScope st) .none kV dc pm an cd ct), sl⟩) (c : PySem.W.codeIn K cd x = true) (k : PySem.W.keepIn K (.ref f) = true) : DnF K x st := ⟨_, _, _, _, _, _, _, _, _, _, a, l, c, k⟩
theorem DnF.dn {K : PySem.W.Frag} {mg : Str → Option Value} {h : Heap} {x : Str} {st : Stmt} {ps : List Str} (F : DnF K x st) (X : K.In h) (G : h.Ns mainGlobals mg)
    (b : ∀ (kV dc pm : Value) (an : Option Addr) (cd ct : Value) (us : List Value), us.length = ps.length → bindArgs (PySem.W.fnOf x x (defArgs st) (defBody st) (defScope st) .none kV dc pm an cd ct) ⟨us, []⟩ = pure (ps.zip us)) : Nonempty (Dn K mg x st ps) := by
  obtain ⟨f, oc, od, kV, dc, pm, an, cd, ct, sl, a, l, c, k⟩ := F.ex
  exact ⟨⟨f, _, fun_mk l c k, (fun_mk l c k).binds b, PySem.W.mg_of X G a⟩⟩
structure ExF (K : PySem.W.Frag) (x q : Str) (st : Stmt) (M : Addr) : Prop where
  ex : ∀ (mg : Str → Option Value) (h : Heap), K.In h → h.Ns mainGlobals mg → (∀ (kV dc pm : Value) (an : Option Addr) (cd ct : Value) (us : List Value), us.length = 2 → bindArgs (PySem.W.fnOf "__init__" q (defArgs st) (defBody st) (defScope st) .none kV dc pm an cd ct) ⟨us, []⟩ = pure ((["self", "told"] : List Str).zip us)) →
    ∃ e : Ex K mg x q st, Ex2 K e.C M
theorem exF {K : PySem.W.Frag} {x q : Str} {st : Stmt} {M C f : Addr} {nm qq : Str} {N : Addr} {bs bm : List Value} {sn : List Str} {sub : List Value} {ab : Bool} {col : Option Bool} {dd : Option Addr} {k0 k1 k2 k3 k5 : Option Value}
    {oc : Value} {od : Option Addr} {kV dc pm : Value} {an : Option Addr} {cd ct : Value} {sl : Array (Option Value)}
    (aC : PySem.W.nsIn K mainGlobals x = some (some (.ref C))) (xL : K.lookup C = some (excClassObj nm qq C N bs bm true sn sub ab col dd k0 k1 k2 k3 k5 "ValueError.__new__")) (vb : PySem.HandSPX.refsVE bm = true)
    (sa : PySem.W.findIn K (.ref C) "__setattr__" = some (some (.builtin "object.__setattr__"))) (ga : PySem.W.findIn K (.ref C) "__getattribute__" = some (some (.builtin "BaseException.__getattribute__")))
    (gg : PySem.W.findIn K (.ref C) "__getattr__" = some none) (no : PySem.W.findIn K (.ref C) "told" = some none) (ai : PySem.W.findIn K (.ref C) "__init__" = some (some (.ref f))) (ti : PySem.W.typeIn K (.ref f) = some (.type "function"))
    (li : K.lookup f = some ⟨oc, od, .func (PySem.W.fnOf "__init__" q (defArgs st) (defBody st) (defScope st) .none kV dc pm an cd ct), sl⟩) (ci : PySem.W.codeIn K cd q = true) (ki : PySem.W.keepIn K (.ref f) = true)
    (kC : PySem.W.keepIn K (.ref C) = true) (eC : PySem.W.subIn K (.ref C) (.type "BaseException") = some true) (tC : PySem.W.typeIn K (.ref C) = some (.type "type")) (hC : PySem.W.hasDictIn K C = true)
    (sC : PySem.W.subIn K (.ref C) (.ref C) = some true) (sM : PySem.W.subIn K (.ref C) (.ref M) = some true) (tM : PySem.W.typeIn K (.ref M) = some (.type "type")) (hM : PySem.W.hasDictIn K M = true)
    (ca : PySem.W.findIn K (.ref C) "__class__" = some (some (.builtin "object.__class__"))) (sg : PySem.W.specialIn K (.builtin "object.__class__") "__get__" = some (some (.builtin "getset_descriptor.__get__")))
    (tk : PySem.W.takesIn K (.builtin "object.__class__") = some true) (mr : PySem.W.mroIn K C (.type "object") = some true) : ExF K x q st M := by
  refine ⟨fun mg h X G b => ⟨⟨C, PySem.W.mg_of X G aC, ⟨⟨_, _, _, _, _, _, _, _, _, _, _, _, _, _, _, xL, vb⟩, sa, eC, tC, kC⟩, no, f, _, fun_mk li ci ki, (fun_mk li ci ki).binds b, ai, ti⟩, ⟨⟨ga, gg, eC, hC⟩, no, ⟨ga, gg, eC, hC, ca, sg, tk, mr⟩, PySem.W.exm_ref eC hC tC sC, ?_⟩⟩⟩
  obtain ⟨cdM, hcM, _⟩ := PySem.W.any_some hM
  show PySem.W.kitOne K (.ref C) (.ref M) = some true
  unfold PySem.W.kitOne
  split
  · rfl
  · have e : ((PySem.W.clsIn K M).isSome && PySem.W.typeIn K (.ref M) == some (.type "type")) = true := by
      rw [hcM, tM] <;> rfl
    show (if ((PySem.W.clsIn K M).isSome && PySem.W.typeIn K (.ref M) == some (.type "type")) = true then PySem.W.subIn K (.ref C) (.ref M) else none) = some true
    rw [if_pos e]
    exact sM
end DL

set_option maxHeartbeats 2000000
namespace K00
open PySem PySem.Spec PyProof.Rows L2 DL
def top (i : Nat) : Stmt := PySem.Challenge.pw_plainmoment_k00_rows_and_ops.main.body.getD i (.Pass ⟨0, 0, 0, 0⟩)
abbrev s_is_number : Stmt := top 2
abbrev s_is_within : Stmt := top 3
abbrev s_is_value : Stmt := top 4
abbrev s_is_name : Stmt := top 5
abbrev s_is_listed : Stmt := top 6
abbrev s_is_tuple_of : Stmt := top 7
abbrev s_is_op : Stmt := top 16
abbrev s_is_operand : Stmt := top 17
abbrev s_is_row_index : Stmt := top 18
abbrev s_is_set : Stmt := top 19
abbrev s_is_call : Stmt := top 20
abbrev s_are_operands : Stmt := top 21
abbrev s_is_pair_row : Stmt := top 22
abbrev s_is_row : Stmt := top 23
abbrev s_reckoned : Stmt := top 24
abbrev s_operands_of : Stmt := top 25
abbrev s_set_by : Stmt := top 26
abbrev s_lpool : Stmt := top 28
abbrev s_ltake : Stmt := top 29
abbrev s_lone : Stmt := top 30
abbrev s_lread : Stmt := top 31
abbrev s_lreckoned : Stmt := top 32
abbrev s_lfits_name : Stmt := top 33
abbrev s_lfits_number : Stmt := top 34
abbrev s_lfits_operand : Stmt := top 35
abbrev s_lfits_op : Stmt := top 36
abbrev s_lfits_many : Stmt := top 37
abbrev s_lfits_row : Stmt := top 38
abbrev s_lstrange : Stmt := top 39
abbrev s_lword_of : Stmt := top 40
abbrev s_lsome_operand : Stmt := top 41
abbrev s_lright_row : Stmt := top 42
abbrev s_lbent : Stmt := top 43
abbrev s_lrefused : Stmt := top 44
abbrev s_lrow_holds : Stmt := top 45
abbrev s_lmade : Stmt := top 46
abbrev s_lop_holds : Stmt := top 47
abbrev s_law : Stmt := top 48
abbrev s_MomentError_init : Stmt := inClass (top 9) 0
theorem sc_is_number : FnScope ["value"] ["value"] (defScope s_is_number) := ⟨rfl, rfl, rfl, by decide +kernel, rfl, by decide +kernel, by decide +kernel⟩
theorem sc_is_within : FnScope ["value", "low", "high"] ["value", "low", "high"] (defScope s_is_within) := ⟨rfl, rfl, rfl, by decide +kernel, rfl, by decide +kernel, by decide +kernel⟩
theorem sc_is_value : FnScope ["value"] ["value"] (defScope s_is_value) := ⟨rfl, rfl, rfl, by decide +kernel, rfl, by decide +kernel, by decide +kernel⟩
theorem sc_is_name : FnScope ["value", "sign"] ["value"] (defScope s_is_name) := ⟨rfl, rfl, rfl, by decide +kernel, rfl, by decide +kernel, by decide +kernel⟩
theorem sc_is_listed : FnScope ["value", "most"] ["value", "most"] (defScope s_is_listed) := ⟨rfl, rfl, rfl, by decide +kernel, rfl, by decide +kernel, by decide +kernel⟩
theorem sc_is_tuple_of : FnScope ["value", "many"] ["value", "many"] (defScope s_is_tuple_of) := ⟨rfl, rfl, rfl, by decide +kernel, rfl, by decide +kernel, by decide +kernel⟩
theorem sc_is_op : FnScope ["value"] ["value"] (defScope s_is_op) := ⟨rfl, rfl, rfl, by decide +kernel, rfl, by decide +kernel, by decide +kernel⟩
theorem sc_is_operand : FnScope ["value"] ["value"] (defScope s_is_operand) := ⟨rfl, rfl, rfl, by decide +kernel, rfl, by decide +kernel, by decide +kernel⟩
theorem sc_is_row_index : FnScope ["value"] ["value"] (defScope s_is_row_index) := ⟨rfl, rfl, rfl, by decide +kernel, rfl, by decide +kernel, by decide +kernel⟩
theorem sc_is_set : FnScope ["value"] ["value"] (defScope s_is_set) := ⟨rfl, rfl, rfl, by decide +kernel, rfl, by decide +kernel, by decide +kernel⟩
theorem sc_is_call : FnScope ["value", "operands"] ["value"] (defScope s_is_call) := ⟨rfl, rfl, rfl, by decide +kernel, rfl, by decide +kernel, by decide +kernel⟩
theorem sc_are_operands : FnScope ["values", "value"] ["values"] (defScope s_are_operands) := ⟨rfl, rfl, rfl, by decide +kernel, rfl, by decide +kernel, by decide +kernel⟩
theorem sc_is_pair_row : FnScope ["word", "part"] ["word", "part"] (defScope s_is_pair_row) := ⟨rfl, rfl, rfl, by decide +kernel, rfl, by decide +kernel, by decide +kernel⟩
theorem sc_is_row : FnScope ["value", "word"] ["value"] (defScope s_is_row) := ⟨rfl, rfl, rfl, by decide +kernel, rfl, by decide +kernel, by decide +kernel⟩
theorem sc_reckoned : FnScope ["op", "one", "other"] ["op", "one", "other"] (defScope s_reckoned) := ⟨rfl, rfl, rfl, by decide +kernel, rfl, by decide +kernel, by decide +kernel⟩
theorem sc_operands_of : FnScope ["row", "word"] ["row"] (defScope s_operands_of) := ⟨rfl, rfl, rfl, by decide +kernel, rfl, by decide +kernel, by decide +kernel⟩
theorem sc_set_by : FnScope ["row"] ["row"] (defScope s_set_by) := ⟨rfl, rfl, rfl, by decide +kernel, rfl, by decide +kernel, by decide +kernel⟩
theorem sc_lpool : FnScope ["_law_script", "_law_k", "_law_cell", "_law_big", "_law_mixed"] ["_law_script", "_law_k"] (defScope s_lpool) := ⟨rfl, rfl, rfl, by decide +kernel, rfl, by decide +kernel, by decide +kernel⟩
theorem sc_ltake : FnScope ["_law_source", "_law_top", "_law_drawn"] ["_law_source", "_law_top"] (defScope s_ltake) := ⟨rfl, rfl, rfl, by decide +kernel, rfl, by decide +kernel, by decide +kernel⟩
theorem sc_lone : FnScope ["_law_source", "_law_things"] ["_law_source", "_law_things"] (defScope s_lone) := ⟨rfl, rfl, rfl, by decide +kernel, rfl, by decide +kernel, by decide +kernel⟩
theorem sc_lread : FnScope ["_law_row"] ["_law_row"] (defScope s_lread) := ⟨rfl, rfl, rfl, by decide +kernel, rfl, by decide +kernel, by decide +kernel⟩
theorem sc_lreckoned : FnScope ["_law_op", "_law_one_here", "_law_other"] ["_law_op", "_law_one_here", "_law_other"] (defScope s_lreckoned) := ⟨rfl, rfl, rfl, by decide +kernel, rfl, by decide +kernel, by decide +kernel⟩
theorem sc_lfits_name : FnScope ["_law_value", "_law_sign"] ["_law_value"] (defScope s_lfits_name) := ⟨rfl, rfl, rfl, by decide +kernel, rfl, by decide +kernel, by decide +kernel⟩
theorem sc_lfits_number : FnScope ["_law_value", "_law_top"] ["_law_value", "_law_top"] (defScope s_lfits_number) := ⟨rfl, rfl, rfl, by decide +kernel, rfl, by decide +kernel, by decide +kernel⟩
theorem sc_lfits_operand : FnScope ["_law_value"] ["_law_value"] (defScope s_lfits_operand) := ⟨rfl, rfl, rfl, by decide +kernel, rfl, by decide +kernel, by decide +kernel⟩
theorem sc_lfits_op : FnScope ["_law_value"] ["_law_value"] (defScope s_lfits_op) := ⟨rfl, rfl, rfl, by decide +kernel, rfl, by decide +kernel, by decide +kernel⟩
theorem sc_lfits_many : FnScope ["_law_value", "_law_one_here"] ["_law_value"] (defScope s_lfits_many) := ⟨rfl, rfl, rfl, by decide +kernel, rfl, by decide +kernel, by decide +kernel⟩
theorem sc_lfits_row : FnScope ["_law_value", "_law_rest", "_law_fine"] ["_law_value"] (defScope s_lfits_row) := ⟨rfl, rfl, rfl, by decide +kernel, rfl, by decide +kernel, by decide +kernel⟩
theorem sc_lstrange : FnScope ["_law_source", "_law_menu"] ["_law_source"] (defScope s_lstrange) := ⟨rfl, rfl, rfl, by decide +kernel, rfl, by decide +kernel, by decide +kernel⟩
theorem sc_lword_of : FnScope ["_law_source", "_law_signs", "_law_k"] ["_law_source"] (defScope s_lword_of) := ⟨rfl, rfl, rfl, by decide +kernel, rfl, by decide +kernel, by decide +kernel⟩
theorem sc_lsome_operand : FnScope ["_law_source"] ["_law_source"] (defScope s_lsome_operand) := ⟨rfl, rfl, rfl, by decide +kernel, rfl, by decide +kernel, by decide +kernel⟩
theorem sc_lright_row : FnScope ["_law_source", "_law_x", "_law_one_here", "_law_other", "_law_kind", "_law_target"] ["_law_source"] (defScope s_lright_row) := ⟨rfl, rfl, rfl, by decide +kernel, rfl, by decide +kernel, by decide +kernel⟩
theorem sc_lbent : FnScope ["_law_source", "_law_row", "_law_way", "_law_at", "_law_odd"] ["_law_source", "_law_row"] (defScope s_lbent) := ⟨rfl, rfl, rfl, by decide +kernel, rfl, by decide +kernel, by decide +kernel⟩
theorem sc_lrefused : FnScope ["_law_action", "_law_value", "e"] ["_law_action", "_law_value"] (defScope s_lrefused) := ⟨rfl, rfl, rfl, by decide +kernel, rfl, by decide +kernel, by decide +kernel⟩
theorem sc_lrow_holds : FnScope ["_law_value", "_law_fine", "_law_due"] ["_law_value"] (defScope s_lrow_holds) := ⟨rfl, rfl, rfl, by decide +kernel, rfl, by decide +kernel, by decide +kernel⟩
theorem sc_lmade : FnScope ["_law_op", "_law_one_here", "_law_other", "e"] ["_law_op", "_law_one_here", "_law_other"] (defScope s_lmade) := ⟨rfl, rfl, rfl, by decide +kernel, rfl, by decide +kernel, by decide +kernel⟩
theorem sc_lop_holds : FnScope ["_law_source", "_law_parts", "_law_at", "_law_wrong", "_law_told", "_law_k", "_law_one_here"] ["_law_source"] (defScope s_lop_holds) := ⟨rfl, rfl, rfl, by decide +kernel, rfl, by decide +kernel, by decide +kernel⟩
theorem sc_law : FnScope ["_law_script", "_law_source", "_law_k", "_law_row", "_law_odd"] ["_law_script"] (defScope s_law) := ⟨rfl, rfl, rfl, by decide +kernel, rfl, by decide +kernel, by decide +kernel⟩
theorem sc_told : FnScope ["self", "told"] ["self", "told"] (defScope s_MomentError_init) := ⟨rfl, rfl, rfl, by decide +kernel, rfl, by decide +kernel, by decide +kernel⟩
/-- what the top has written -/
structure Txt (K : PySem.W.Frag) (mg : Str → Option Value) where
  n_all : mg "all" = none
  n_bool : mg "bool" = none
  n_int : mg "int" = none
  n_isinstance : mg "isinstance" = none
  n_len : mg "len" = none
  n_list : mg "list" = none
  n_max : mg "max" = none
  n_range : mg "range" = none
  n_repr : mg "repr" = none
  n_str : mg "str" = none
  n_tuple : mg "tuple" = none
  m_MODULUS : ∃ t, mg "MODULUS" = some (.int 9973 t)
  m_MOST_ROWS : ∃ t, mg "MOST_ROWS" = some (.int 12 t)
  m_MOST_OPERANDS : ∃ t, mg "MOST_OPERANDS" = some (.int 2 t)
  m_OPS : KTexts K mg "OPS" ["add", "sub", "mul", "less"]
  d_is_number : Dn K mg "is_number" s_is_number ["value"]
  d_is_within : Dn K mg "is_within" s_is_within ["value", "low", "high"]
  d_is_value : Dn K mg "is_value" s_is_value ["value"]
  d_is_name : Dn K mg "is_name" s_is_name ["value"]
  d_is_listed : Dn K mg "is_listed" s_is_listed ["value", "most"]
  d_is_tuple_of : Dn K mg "is_tuple_of" s_is_tuple_of ["value", "many"]
  d_is_op : Dn K mg "is_op" s_is_op ["value"]
  d_is_operand : Dn K mg "is_operand" s_is_operand ["value"]
  d_is_row_index : Dn K mg "is_row_index" s_is_row_index ["value"]
  d_is_set : Dn K mg "_is_set" s_is_set ["value"]
  d_is_call : Dn K mg "_is_call" s_is_call ["value"]
  d_are_operands : Dn K mg "_are_operands" s_are_operands ["values"]
  d_is_pair_row : Dn K mg "_is_pair_row" s_is_pair_row ["word", "part"]
  d_is_row : Dn K mg "is_row" s_is_row ["value"]
  d_reckoned : Dn K mg "reckoned" s_reckoned ["op", "one", "other"]
  d_operands_of : Dn K mg "operands_of" s_operands_of ["row"]
  d_set_by : Dn K mg "set_by" s_set_by ["row"]
  d_lpool : Dn K mg "_law_pool" s_lpool ["_law_script", "_law_k"]
  d_ltake : Dn K mg "_law_take" s_ltake ["_law_source", "_law_top"]
  d_lone : Dn K mg "_law_one" s_lone ["_law_source", "_law_things"]
  d_lread : Dn K mg "_law_read" s_lread ["_law_row"]
  d_lreckoned : Dn K mg "_law_reckoned" s_lreckoned ["_law_op", "_law_one_here", "_law_other"]
  d_lfits_name : Dn K mg "_law_fits_name" s_lfits_name ["_law_value"]
  d_lfits_number : Dn K mg "_law_fits_number" s_lfits_number ["_law_value", "_law_top"]
  d_lfits_operand : Dn K mg "_law_fits_operand" s_lfits_operand ["_law_value"]
  d_lfits_op : Dn K mg "_law_fits_op" s_lfits_op ["_law_value"]
  d_lfits_many : Dn K mg "_law_fits_many" s_lfits_many ["_law_value"]
  d_lfits_row : Dn K mg "_law_fits_row" s_lfits_row ["_law_value"]
  d_lstrange : Dn K mg "_law_strange" s_lstrange ["_law_source"]
  d_lword_of : Dn K mg "_law_word_of" s_lword_of ["_law_source"]
  d_lsome_operand : Dn K mg "_law_some_operand" s_lsome_operand ["_law_source"]
  d_lright_row : Dn K mg "_law_right_row" s_lright_row ["_law_source"]
  d_lbent : Dn K mg "_law_bent" s_lbent ["_law_source", "_law_row"]
  d_lrefused : Dn K mg "_law_refused" s_lrefused ["_law_action", "_law_value"]
  d_lrow_holds : Dn K mg "_law_row_holds" s_lrow_holds ["_law_value"]
  d_lmade : Dn K mg "_law_made" s_lmade ["_law_op", "_law_one_here", "_law_other"]
  d_lop_holds : Dn K mg "_law_op_holds" s_lop_holds ["_law_source"]
  d_law : Dn K mg "law" s_law ["_law_script"]
  a_MomentError : Addr
  m_MomentError : mg "MomentError" = some (.ref a_MomentError)
  x_NoRow : Ex K mg "NoRow" "MomentError.__init__" s_MomentError_init
  x_NoValue : Ex K mg "NoValue" "MomentError.__init__" s_MomentError_init
  x2_NoRow : Ex2 K x_NoRow.C a_MomentError
  x2_NoValue : Ex2 K x_NoValue.C a_MomentError
end K00

set_option maxHeartbeats 2000000
namespace K00
open PySem PySem.Spec PyProof.Rows L2 DL
local macro_rules | `(tactic| walk_at "red") => `(tactic| simp only [gCL, fLenQ, dIxQ, wNeK, wIndex, gTryRet, gTryDrop, wzCall, wzCallL, wTold, fIsE, fRepr, wJoin, wDGet, wVals, dPow, wSrc, gSrcSet, dMulS, dFdivS, fInt, fMax, fTuple, fList, startD, gNext, gSeq, gRet, gSet, gIf, gDrop, gRaise, gFor, wVar, wC, wOp, wTest, wChain, wAnd, wOr, wNot, wtAnd, wtOr, wtNot, wIf, waNil, waCons, wTup, wLst, wCall, quiet, wIsi, wInK, wLc, wiStr, wiTup, wiLst, wiRange, wSl, woNone, woSome, dSl, wNeg, dNeg, fLen, fAll, dEq, dNe, dLe, dLt, dGe, dGt, dAdd, dSub, dMod, dIx, dIn, dIsB, strsOf, boolsOf, DL.tyD_non, at_0, at_1, at_2, at_3, at_4, DL.isInt_non, DL.isStr_non, DL.isBl_non, DL.isTup_non, DL.isLst_non, DL.tyD_bl, DL.isInt_bl, DL.isStr_bl, DL.isBl_bl, DL.isTup_bl, DL.isLst_bl, DL.tyD_int, DL.isInt_int, DL.isStr_int, DL.isBl_int, DL.isTup_int, DL.isLst_int, DL.tyD_str, DL.isInt_str, DL.isStr_str, DL.isBl_str, DL.isTup_str, DL.isLst_str, DL.tyD_lst, DL.isInt_lst, DL.isStr_lst, DL.isBl_lst, DL.isTup_lst, DL.isLst_lst, DL.tyD_tup, DL.isInt_tup, DL.isStr_tup, DL.isBl_tup, DL.isTup_tup, DL.isLst_tup, pure1, pure2, pure3, Option.map_some,
  List.map_cons, List.map_nil, List.length_cons, List.length_nil, List.cons_append, List.nil_append, List.getElem?_cons_zero, List.getElem?_cons_succ, Option.some.injEq, exists_eq_left', exists_eq_left, exists_eq_right, exists_eq_right', D.bl.injEq, D.int.injEq, D.str.injEq, D.tup.injEq, D.lst.injEq, D.fn.injEq, D.sq.injEq, D.exn.injEq, List.cons.injEq, and_true, true_and, and_self, exists_and_left, exists_and_right, Option.isSome_some, List.set_cons_zero, List.set_cons_succ, if_true, Bool.false_eq_true, if_false, Bool.not_true, Bool.not_false, reduceCtorEq, List.replicate, Nat.reduceSub, Nat.reduceAdd])
section
variable {P : Program} {w : World} {K : PySem.W.Frag} {mg : Str → Option Value} {base : Heap}
theorem ok_is_number (T : Txt K mg) : FnOk P w K mg base CX0 1 T.d_is_number.f T.d_is_number.fd ["value"] (spD fun es P _ => (pure1 tyOk fun d => .bl (isNum d)) es P) :=
  fn_ok T.d_is_number.F sc_is_number (fun es P h => by first | exact pure1_len h | exact pure2_len h | exact pure3_len h | (obtain ⟨_, rfl, _⟩ := h; rfl) | (obtain ⟨_, _, rfl, _⟩ := h; rfl) | (obtain ⟨_, _, _, rfl, _⟩ := h; rfl) | (obtain ⟨_, _, _, _, rfl, _⟩ := h; rfl)) (fun cdv A outer s H E hr => ⟨_,
    (wss_one (ws_ret (we_and (we_isi (x1 := "int") tyIs_int rfl T.n_isinstance rfl T.n_int boot_intT (we_var (pv 0))) (we_one (we_not (we_isi (x1 := "bool") tyIs_bool rfl T.n_isinstance rfl T.n_bool boot_boolT (we_var (pv 0)))))))),
    fun es P h => by
      obtain ⟨d, rfl, ok, hp⟩ := h
      cases d <;> simp [tyOk, tyD, isNum] at ok hp <;> walk_at "red" <;> exact hp⟩)
def gWithin : DFn := fun es P => ∃ d lo hi, es = [d, .int lo, .int hi] ∧ tyOk d ∧ P (.bl (isWithin d lo hi))
theorem ok_is_within (T : Txt K mg) : FnOk P w K mg base CX0 2 T.d_is_within.f T.d_is_within.fd ["value", "low", "high"] (spD fun es P _ => (gWithin) es P) :=
  fn_ok T.d_is_within.F sc_is_within (fun es P h => by first | exact pure1_len h | exact pure2_len h | exact pure3_len h | (obtain ⟨_, rfl, _⟩ := h; rfl) | (obtain ⟨_, _, rfl, _⟩ := h; rfl) | (obtain ⟨_, _, _, rfl, _⟩ := h; rfl) | (obtain ⟨_, _, _, _, rfl, _⟩ := h; rfl)) (fun cdv A outer s H E hr => ⟨_,
    (wss_one (ws_ret (we_and (we_call (ok_is_number T) (hr.mono (by decide)) rfl T.d_is_number.m T.d_is_number.F.kp T.d_is_number.b (wa_cons (we_var (pv 0)) wa_nil)) (we_one (we_chain op_dLe op_dLe (we_var (pv 1)) (we_var (pv 0)) (we_var (pv 2))))))),
    fun es P h => by
      obtain ⟨d, lo, hi, rfl, ok, hp⟩ := h
      walk_at "red"
      refine ⟨ok, ?_⟩
      cases d with
      | int j =>
        simp only [isNum, if_true, isWithin] at hp ⊢
        by_cases h1 : lo ≤ j <;> simpa [h1] using hp
      | _ => exact hp⟩)
theorem ok_is_value (T : Txt K mg) : FnOk P w K mg base CX0 3 T.d_is_value.f T.d_is_value.fd ["value"] (spD fun es P _ => (pure1 tyOk fun d => .bl (isWithin d 0 9972)) es P) :=
  fn_ok T.d_is_value.F sc_is_value (fun es P h => by first | exact pure1_len h | exact pure2_len h | exact pure3_len h | (obtain ⟨_, rfl, _⟩ := h; rfl) | (obtain ⟨_, _, rfl, _⟩ := h; rfl) | (obtain ⟨_, _, _, rfl, _⟩ := h; rfl) | (obtain ⟨_, _, _, _, rfl, _⟩ := h; rfl)) (fun cdv A outer s H E hr => ⟨_,
    (wss_one (ws_ret (we_call (ok_is_within T) (hr.mono (by decide)) rfl T.d_is_within.m T.d_is_within.F.kp T.d_is_within.b (wa_cons (we_var (pv 0)) (wa_cons (we_c pe_int) (wa_cons (we_op op_dSub (we_k rfl T.m_MODULUS) (we_c pe_int)) wa_nil)))))),
    fun es P h => by
      obtain ⟨d, rfl, ok, hp⟩ := h
      walk_at "red"
      exact ⟨d, 0, 9972, rfl, ok, hp⟩⟩)
theorem ok_is_name (T : Txt K mg) : FnOk P w K mg base CX0 1 T.d_is_name.f T.d_is_name.fd ["value"] (spD fun es P _ => (pure1 Good fun d => .bl (isName d)) es P) :=
  fn_ok T.d_is_name.F sc_is_name (fun es P h => by first | exact pure1_len h | exact pure2_len h | exact pure3_len h | (obtain ⟨_, rfl, _⟩ := h; rfl) | (obtain ⟨_, _, rfl, _⟩ := h; rfl) | (obtain ⟨_, _, _, rfl, _⟩ := h; rfl) | (obtain ⟨_, _, _, _, rfl, _⟩ := h; rfl)) (fun cdv A outer s H E hr => ⟨_,
    (wss_one (ws_ret (we_and (we_isi (x1 := "str") tyIs_str rfl T.n_isinstance rfl T.n_str boot_strT (we_var (pv 0))) (we_and (we_chain op_dLe op_dLe (we_c pe_int) (we_callB call_fLen rfl T.n_len boot_lenB (wa_cons (we_var (pv 0)) wa_nil)) (we_c pe_int)) (we_one (we_callB (call_fAll rfl) rfl T.n_all boot_allB (wa_cons (we_lc (i := 1) (x := "sign") rfl sc_is_name.nd (wi_str (we_var (pv 0))) (blkOk_by (N := ["value", "sign"]) (sc := defScope s_is_name) (by decide +kernel)) (fun _ _ _ _ _ => pg_name sc_is_name.nd rfl (Or.inl rfl)) (fun _ _ _ _ _ => (we_chain op_dLe op_dLe (we_c pe_str) (we_var (pv 1)) (we_c pe_str)))) wa_nil))))))),
    fun es P h => by
      obtain ⟨d, rfl, ok, hp⟩ := h
      cases d with
      | str x =>
        walk_at "red"
        have hl := ok.str
        refine ⟨line_big (by omega), ?_⟩
        simp only [isName] at hp
        by_cases h1 : 1 ≤ x.length
        · by_cases h2 : x.length ≤ 4
          · rw [decide_eq_true (show (1 : Int) ≤ x.length by omega), decide_eq_true (show (x.length : Int) ≤ 4 by omega)]
            simp only [if_true]
            refine ⟨by rw [signs_len, sizeLine_eq]; omega, wEach_signs (fun c => .bl (low c)) (fun c P' hc => ?_) ⟨_, bools_map low _, ?_⟩⟩
            · rw [← low_is c] at hc
              split at hc <;> rename_i h3 <;> simp only [h3, if_true, if_false] <;> first | exact hc | (simp only [Bool.false_eq_true, if_false]; exact hc)
            · simpa [h1, h2, List.all_map] using hp
          · rw [decide_eq_true (show (1 : Int) ≤ x.length by omega), decide_eq_false (show ¬ (x.length : Int) ≤ 4 by omega)]
            simpa [h2] using hp
        · rw [decide_eq_false (show ¬ (1 : Int) ≤ x.length by omega)]
          simpa [h1] using hp
      | src _ => cases ok
      | fn _ => cases ok
      | exn _ _ _ => cases ok
      | sq _ _ => cases ok
      | _ => walk_at "red"; exact hp⟩)
def lstd : D → Int → Bool
  | .tup xs, m => decide ((xs.length : Int) ≤ m)
  | .lst xs, m => decide ((xs.length : Int) ≤ m)
  | _, _ => false
def tupl : D → Int → Bool
  | .tup xs, m => decide ((xs.length : Int) = m)
  | _, _ => false
def gListed : DFn := fun es P => ∃ d m, es = [d, .int m] ∧ Good d ∧ P (.bl (lstd d m))
theorem ok_is_listed (T : Txt K mg) : FnOk P w K mg base CX0 1 T.d_is_listed.f T.d_is_listed.fd ["value", "most"] (spD fun es P _ => (gListed) es P) :=
  fn_ok T.d_is_listed.F sc_is_listed (fun es P h => by first | exact pure1_len h | exact pure2_len h | exact pure3_len h | (obtain ⟨_, rfl, _⟩ := h; rfl) | (obtain ⟨_, _, rfl, _⟩ := h; rfl) | (obtain ⟨_, _, _, rfl, _⟩ := h; rfl) | (obtain ⟨_, _, _, _, rfl, _⟩ := h; rfl)) (fun cdv A outer s H E hr => ⟨_,
    (wss_one (ws_ret (we_and (we_isi2 tyIs_list tyIs_tuple rfl T.n_isinstance rfl T.n_list boot_listT rfl T.n_tuple boot_tupleT (we_var (pv 0))) (we_one (we_cmp op_dLe (we_callB call_fLen rfl T.n_len boot_lenB (wa_cons (we_var (pv 0)) wa_nil)) (we_var (pv 1)) (nomark _)))))),
    fun es P h => by
      obtain ⟨d, m, rfl, ok, hp⟩ := h
      cases d with
      | src _ => cases ok
      | fn _ => cases ok
      | exn _ _ _ => cases ok
      | sq _ _ => cases ok
      | _ => walk_at "red"; simpa [lstd] using hp⟩)
def gTupleOf : DFn := fun es P => ∃ d m, es = [d, .int m] ∧ Good d ∧ P (.bl (tupl d m))
theorem ok_is_tuple_of (T : Txt K mg) : FnOk P w K mg base CX0 1 T.d_is_tuple_of.f T.d_is_tuple_of.fd ["value", "many"] (spD fun es P _ => (gTupleOf) es P) :=
  fn_ok T.d_is_tuple_of.F sc_is_tuple_of (fun es P h => by first | exact pure1_len h | exact pure2_len h | exact pure3_len h | (obtain ⟨_, rfl, _⟩ := h; rfl) | (obtain ⟨_, _, rfl, _⟩ := h; rfl) | (obtain ⟨_, _, _, rfl, _⟩ := h; rfl) | (obtain ⟨_, _, _, _, rfl, _⟩ := h; rfl)) (fun cdv A outer s H E hr => ⟨_,
    (wss_one (ws_ret (we_and (we_isi (x1 := "tuple") tyIs_tuple rfl T.n_isinstance rfl T.n_tuple boot_tupleT (we_var (pv 0))) (we_one (we_cmp (op_dEq hr.units) (we_callB call_fLen rfl T.n_len boot_lenB (wa_cons (we_var (pv 0)) wa_nil)) (we_var (pv 1)) (nomark _)))))),
    fun es P h => by
      obtain ⟨d, m, rfl, ok, hp⟩ := h
      cases d with
      | src _ => cases ok
      | fn _ => cases ok
      | exn _ _ _ => cases ok
      | sq _ _ => cases ok
      | _ => walk_at "red"; simpa [tupl] using hp⟩)
abbrev OPS : List Str := ["add", "sub", "mul", "less"]
def isOp : D → Bool
  | .str x => decide (x ∈ OPS)
  | _ => false
theorem ok_is_op (T : Txt K mg) : FnOk P w K mg base CX0 1 T.d_is_op.f T.d_is_op.fd ["value"] (spD fun es P _ => (pure1 tyOk fun d => .bl (isOp d)) es P) :=
  fn_ok T.d_is_op.F sc_is_op (fun es P h => by first | exact pure1_len h | exact pure2_len h | exact pure3_len h | (obtain ⟨_, rfl, _⟩ := h; rfl) | (obtain ⟨_, _, rfl, _⟩ := h; rfl) | (obtain ⟨_, _, _, rfl, _⟩ := h; rfl) | (obtain ⟨_, _, _, _, rfl, _⟩ := h; rfl)) (fun cdv A outer s H E hr => ⟨_,
    (wss_one (ws_ret (we_and (we_isi (x1 := "str") tyIs_str rfl T.n_isinstance rfl T.n_str boot_strT (we_var (pv 0))) (we_one (we_inK (we_var (pv 0)) rfl T.m_OPS))))),
    fun es P h => by
      obtain ⟨d, rfl, ok, hp⟩ := h
      cases d with
      | src _ => cases ok
      | fn _ => cases ok
      | exn _ _ _ => cases ok
      | sq _ _ => cases ok
      | _ => walk_at "red"; exact hp⟩)
theorem ok_is_operand (T : Txt K mg) : FnOk P w K mg base CX0 4 T.d_is_operand.f T.d_is_operand.fd ["value"] (spD fun es P _ => (pure1 Good fun d => .bl (isOperand d)) es P) :=
  fn_ok T.d_is_operand.F sc_is_operand (fun es P h => by first | exact pure1_len h | exact pure2_len h | exact pure3_len h | (obtain ⟨_, rfl, _⟩ := h; rfl) | (obtain ⟨_, _, rfl, _⟩ := h; rfl) | (obtain ⟨_, _, _, rfl, _⟩ := h; rfl) | (obtain ⟨_, _, _, _, rfl, _⟩ := h; rfl)) (fun cdv A outer s H E hr => ⟨_,
    (wss_one (ws_ret (we_or (we_call (ok_is_value T) (hr.mono (by decide)) rfl T.d_is_value.m T.d_is_value.F.kp T.d_is_value.b (wa_cons (we_var (pv 0)) wa_nil)) (we_one (we_call (ok_is_name T) (hr.mono (by decide)) rfl T.d_is_name.m T.d_is_name.F.kp T.d_is_name.b (wa_cons (we_var (pv 0)) wa_nil)))))),
    fun es P h => by
      obtain ⟨d, rfl, ok, hp⟩ := h
      walk_at "red"
      refine ⟨ok.ty, ?_⟩
      simp only [isOperand] at hp
      cases h1 : isWithin d 0 9972 <;> rw [h1] at hp <;> simp only [Bool.false_or, Bool.true_or, if_true, Bool.false_eq_true, if_false] at hp ⊢
      · exact ⟨ok, hp⟩
      · exact hp⟩)
theorem ok_is_row_index (T : Txt K mg) : FnOk P w K mg base CX0 3 T.d_is_row_index.f T.d_is_row_index.fd ["value"] (spD fun es P _ => (pure1 tyOk fun d => .bl (isWithin d 0 11)) es P) :=
  fn_ok T.d_is_row_index.F sc_is_row_index (fun es P h => by first | exact pure1_len h | exact pure2_len h | exact pure3_len h | (obtain ⟨_, rfl, _⟩ := h; rfl) | (obtain ⟨_, _, rfl, _⟩ := h; rfl) | (obtain ⟨_, _, _, rfl, _⟩ := h; rfl) | (obtain ⟨_, _, _, _, rfl, _⟩ := h; rfl)) (fun cdv A outer s H E hr => ⟨_,
    (wss_one (ws_ret (we_call (ok_is_within T) (hr.mono (by decide)) rfl T.d_is_within.m T.d_is_within.F.kp T.d_is_within.b (wa_cons (we_var (pv 0)) (wa_cons (we_c pe_int) (wa_cons (we_op op_dSub (we_k rfl T.m_MOST_ROWS) (we_c pe_int)) wa_nil)))))),
    fun es P h => by
      obtain ⟨d, rfl, ok, hp⟩ := h
      walk_at "red"
      exact ⟨d, 0, 11, rfl, ok, hp⟩⟩)
theorem ok_are_operands (T : Txt K mg) : FnOk P w K mg base CX0 5 T.d_are_operands.f T.d_are_operands.fd ["values"] (spD fun es P _ => (fun es P => ∃ ys, es = [.tup ys] ∧ Good (.tup ys) ∧ P (.bl (ys.all isOperand))) es P) :=
  fn_ok T.d_are_operands.F sc_are_operands (fun es P h => by first | exact pure1_len h | exact pure2_len h | exact pure3_len h | (obtain ⟨_, rfl, _⟩ := h; rfl) | (obtain ⟨_, _, rfl, _⟩ := h; rfl) | (obtain ⟨_, _, _, rfl, _⟩ := h; rfl) | (obtain ⟨_, _, _, _, rfl, _⟩ := h; rfl)) (fun cdv A outer s H E hr => ⟨_,
    (wss_one (ws_ret (we_callB (call_fAll rfl) rfl T.n_all boot_allB (wa_cons (we_lc (i := 1) (x := "value") rfl sc_are_operands.nd (wi_tup (we_var (pv 0))) (blkOk_by (N := ["values", "value"]) (sc := defScope s_are_operands) (by decide +kernel)) (fun _ _ _ _ _ => pg_name sc_are_operands.nd rfl (Or.inl rfl)) (fun _ _ _ _ _ => (we_call (ok_is_operand T) (hr.mono (by decide)) rfl T.d_is_operand.m T.d_is_operand.F.kp T.d_is_operand.b (wa_cons (we_var (pv 1)) wa_nil)))) wa_nil)))),
    fun es P h => by
      obtain ⟨ys, rfl, ok, hp⟩ := h
      have hl := ok.tup
      walk_at "red"
      refine ⟨by rw [sizeLine_eq]; omega, wEach_pure (fun d => .bl (isOperand d)) (fun x hx P' hq => ⟨hl.2 x hx, hq⟩) ⟨_, bools_map isOperand _, ?_⟩⟩
      simpa [List.all_map] using hp⟩)
def isSetR : List D → Bool
  | [_, a, b, c, d] => isName a && isOp b && isOperand c && isOperand d
  | _ => false
def isOps : D → Bool
  | .tup ys => decide ((ys.length : Int) ≤ 2) && ys.all isOperand
  | _ => false
def isCallR : List D → Bool
  | [_, a, b, c] => isName a && isName b && isOps c
  | _ => false
theorem ok_is_set (T : Txt K mg) : FnOk P w K mg base CX0 5 T.d_is_set.f T.d_is_set.fd ["value"] (spD fun es P _ => (fun es P => ∃ xs, es = [.tup xs] ∧ Good (.tup xs) ∧ P (.bl (isSetR xs))) es P) :=
  fn_ok T.d_is_set.F sc_is_set (fun es P h => by first | exact pure1_len h | exact pure2_len h | exact pure3_len h | (obtain ⟨_, rfl, _⟩ := h; rfl) | (obtain ⟨_, _, rfl, _⟩ := h; rfl) | (obtain ⟨_, _, _, rfl, _⟩ := h; rfl) | (obtain ⟨_, _, _, _, rfl, _⟩ := h; rfl)) (fun cdv A outer s H E hr => ⟨_,
    (wss_one (ws_ret (we_and (we_cmp (op_dEq hr.units) (we_callB call_fLen rfl T.n_len boot_lenB (wa_cons (we_var (pv 0)) wa_nil)) (we_c pe_int) (nomark _)) (we_and (we_call (ok_is_name T) (hr.mono (by decide)) rfl T.d_is_name.m T.d_is_name.F.kp T.d_is_name.b (wa_cons (we_ix (we_var (pv 0)) (we_c pe_int)) wa_nil)) (we_and (we_call (ok_is_op T) (hr.mono (by decide)) rfl T.d_is_op.m T.d_is_op.F.kp T.d_is_op.b (wa_cons (we_ix (we_var (pv 0)) (we_c pe_int)) wa_nil)) (we_and (we_call (ok_is_operand T) (hr.mono (by decide)) rfl T.d_is_operand.m T.d_is_operand.F.kp T.d_is_operand.b (wa_cons (we_ix (we_var (pv 0)) (we_c pe_int)) wa_nil)) (we_one (we_call (ok_is_operand T) (hr.mono (by decide)) rfl T.d_is_operand.m T.d_is_operand.F.kp T.d_is_operand.b (wa_cons (we_ix (we_var (pv 0)) (we_c pe_int)) wa_nil))))))))),
    fun es P h => by
      obtain ⟨xs, rfl, ok, hp⟩ := h
      have hl := ok.tup
      walk_at "red"
      match xs, hp, hl with
      | [a0, a, b, c, d], hp, hl =>
        have g := hl.2
        simp only [List.mem_cons, List.not_mem_nil, or_false, forall_eq_or_imp, forall_eq] at g
        obtain ⟨g0, g1, g2, g3, g4⟩ := g
        simp only [List.length_cons, List.length_nil, isSetR, at_1, at_2, at_3, at_4, Option.some.injEq, exists_eq_left'] at hp ⊢
        simp only [show decide (((0 + 1 + 1 + 1 + 1 + 1 : Nat) : Int) = 5) = true from rfl, if_true]
        refine ⟨g1, ?_⟩
        cases h1 : isName a <;> simp only [h1, Bool.false_and, Bool.true_and, Bool.false_eq_true, if_true, if_false] at hp ⊢
        · exact hp
        refine ⟨g2.ty, ?_⟩
        cases h2 : isOp b <;> simp only [h2, Bool.false_and, Bool.true_and, Bool.false_eq_true, if_true, if_false] at hp ⊢
        · exact hp
        refine ⟨g3, ?_⟩
        cases h3 : isOperand c <;> simp only [h3, Bool.false_and, Bool.true_and, Bool.false_eq_true, if_true, if_false] at hp ⊢
        · exact hp
        exact ⟨g4, hp⟩
      | [], hp, hl => simpa [isSetR] using hp
      | [_], hp, hl => simpa [isSetR] using hp
      | [_, _], hp, hl => simpa [isSetR] using hp
      | [_, _, _], hp, hl => simpa [isSetR] using hp
      | [_, _, _, _], hp, hl => simpa [isSetR] using hp
      | _ :: _ :: _ :: _ :: _ :: _ :: r, hp, hl =>
        rw [decide_eq_false (by simp only [List.length_cons]; omega)]
        simpa [isSetR] using hp⟩)
theorem ok_is_call (T : Txt K mg) : FnOk P w K mg base CX0 6 T.d_is_call.f T.d_is_call.fd ["value"] (spD fun es P _ => (fun es P => ∃ xs, es = [.tup xs] ∧ Good (.tup xs) ∧ P (.bl (isCallR xs))) es P) :=
  fn_ok T.d_is_call.F sc_is_call (fun es P h => by first | exact pure1_len h | exact pure2_len h | exact pure3_len h | (obtain ⟨_, rfl, _⟩ := h; rfl) | (obtain ⟨_, _, rfl, _⟩ := h; rfl) | (obtain ⟨_, _, _, rfl, _⟩ := h; rfl) | (obtain ⟨_, _, _, _, rfl, _⟩ := h; rfl)) (fun cdv A outer s H E hr => ⟨_,
    (wss_cons (ws_if (PW.pt (ww_or (wt_cmp (op_dNe hr.units) (we_callB call_fLen rfl T.n_len boot_lenB (wa_cons (we_var (pv 0)) wa_nil)) (we_c pe_int) (nomark _)) (ww_or (wt_not (wt_val (we_call (ok_is_name T) (hr.mono (by decide)) rfl T.d_is_name.m T.d_is_name.F.kp T.d_is_name.b (wa_cons (we_ix (we_var (pv 0)) (we_c pe_int)) wa_nil)))) (pw_or1 (wt_not (wt_val (we_call (ok_is_name T) (hr.mono (by decide)) rfl T.d_is_name.m T.d_is_name.F.kp T.d_is_name.b (wa_cons (we_ix (we_var (pv 0)) (we_c pe_int)) wa_nil))))))))
        (wss_one (ws_ret (we_c pe_bl)))
        wss_nil)
      (wss_cons (ws_set (i := 1) sc_is_call.nd rfl (by first | exact .inl rfl | exact .inr rfl) (we_ix (we_var (pv 0)) (we_c pe_int)))
      (wss_one (ws_ret (we_and (we_isi (x1 := "tuple") tyIs_tuple rfl T.n_isinstance rfl T.n_tuple boot_tupleT (we_var (pv 1))) (we_and (we_call (ok_is_listed T) (hr.mono (by decide)) rfl T.d_is_listed.m T.d_is_listed.F.kp T.d_is_listed.b (wa_cons (we_var (pv 1)) (wa_cons (we_k rfl T.m_MOST_OPERANDS) wa_nil))) (we_one (we_call (ok_are_operands T) (hr.mono (by decide)) rfl T.d_are_operands.m T.d_are_operands.F.kp T.d_are_operands.b (wa_cons (we_var (pv 1)) wa_nil))))))))),
    fun es P h => by
      obtain ⟨xs, rfl, ok, hp⟩ := h
      have hl := ok.tup
      walk_at "red"
      match xs, hp, hl with
      | [a0, a, b, c], hp, hl =>
        have g := hl.2
        simp only [List.mem_cons, List.not_mem_nil, or_false, forall_eq_or_imp, forall_eq] at g
        obtain ⟨g0, g1, g2, g3⟩ := g
        simp only [List.length_cons, List.length_nil, isCallR, at_1, at_2, at_3, Option.some.injEq, exists_eq_left'] at hp ⊢
        simp only [show (!decide (((0 + 1 + 1 + 1 + 1 : Nat) : Int) = 4)) = false from rfl, Bool.false_eq_true, if_false]
        refine ⟨g1, ?_⟩
        cases h1 : isName a <;> simp only [h1, Bool.not_true, Bool.not_false, Bool.false_eq_true, if_true, if_false, Bool.false_and, Bool.true_and] at hp ⊢
        · exact hp
        refine ⟨g2, ?_⟩
        cases h2 : isName b <;> simp only [h2, Bool.not_true, Bool.not_false, Bool.false_eq_true, if_true, if_false, Bool.false_and, Bool.true_and] at hp ⊢
        · exact hp
        refine ⟨g3.ty, ?_⟩
        cases c with
        | tup ys =>
          have g4 := g3.tup
          simp only [isTup_tup, if_true]
          refine ⟨_, _, rfl, g3, _, rfl, ?_⟩
          rw [show isOps (.tup ys) = (lstd (.tup ys) 2 && ys.all isOperand) from rfl] at hp
          cases h3 : lstd (.tup ys) 2 <;> simp only [h3, Bool.false_eq_true, if_true, if_false, Bool.false_and, Bool.true_and] at hp ⊢
          · exact hp
          · exact ⟨ys, rfl, g3, hp⟩
        | src _ => cases g3
        | fn _ => cases g3
        | exn _ _ _ => cases g3
        | sq _ _ => cases g3
        | _ => exact hp
      | [], hp, hl => simpa [isCallR] using hp
      | [_], hp, hl => simpa [isCallR] using hp
      | [_, _], hp, hl => simpa [isCallR] using hp
      | [_, _, _], hp, hl => simpa [isCallR] using hp
      | _ :: _ :: _ :: _ :: _ :: r, hp, hl =>
        rw [decide_eq_false (by simp only [List.length_cons]; omega)]
        simpa [isCallR] using hp⟩)
def isPairR (w : Str) (d : D) : Bool := if w = "go" then isWithin d 0 11 else if w = "get" then isName d else decide (w ∈ (["back", "out"] : List Str)) && isOperand d
theorem ok_is_pair_row (T : Txt K mg) : FnOk P w K mg base CX0 5 T.d_is_pair_row.f T.d_is_pair_row.fd ["word", "part"] (spD fun es P _ => (fun es P => ∃ w d, es = [.str w, d] ∧ Good d ∧ P (.bl (isPairR w d))) es P) :=
  fn_ok T.d_is_pair_row.F sc_is_pair_row (fun es P h => by first | exact pure1_len h | exact pure2_len h | exact pure3_len h | (obtain ⟨_, rfl, _⟩ := h; rfl) | (obtain ⟨_, _, rfl, _⟩ := h; rfl) | (obtain ⟨_, _, _, rfl, _⟩ := h; rfl) | (obtain ⟨_, _, _, _, rfl, _⟩ := h; rfl)) (fun cdv A outer s H E hr => ⟨_,
    (wss_cons (ws_if (wt_cmp (op_dEq hr.units) (we_var (pv 0)) (we_c pe_str) (nomark _))
        (wss_one (ws_ret (we_call (ok_is_row_index T) (hr.mono (by decide)) rfl T.d_is_row_index.m T.d_is_row_index.F.kp T.d_is_row_index.b (wa_cons (we_var (pv 1)) wa_nil))))
        wss_nil)
      (wss_cons (ws_if (wt_cmp (op_dEq hr.units) (we_var (pv 0)) (we_c pe_str) (nomark _))
        (wss_one (ws_ret (we_call (ok_is_name T) (hr.mono (by decide)) rfl T.d_is_name.m T.d_is_name.F.kp T.d_is_name.b (wa_cons (we_var (pv 1)) wa_nil))))
        wss_nil)
      (wss_one (ws_ret (we_and (we_cmp op_dIn (we_var (pv 0)) (we_tup (wa_cons (we_c pe_str) (wa_cons (we_c pe_str) wa_nil))) (by with_unfolding_all rfl)) (we_one (we_call (ok_is_operand T) (hr.mono (by decide)) rfl T.d_is_operand.m T.d_is_operand.F.kp T.d_is_operand.b (wa_cons (we_var (pv 1)) wa_nil)))))))),
    fun es P h => by
      obtain ⟨w', d, rfl, ok, hp⟩ := h
      walk_at "red"
      unfold isPairR at hp
      by_cases h1 : w' = "go"
      · simp only [h1, if_true, decide_true] at hp ⊢
        exact ⟨ok.ty, hp⟩
      rw [if_neg h1] at hp
      simp only [h1, decide_false, Bool.false_eq_true, if_false]
      by_cases h2 : w' = "get"
      · simp only [h2, if_true, decide_true] at hp ⊢
        exact ⟨ok, hp⟩
      rw [if_neg h2] at hp
      simp only [h2, decide_false, Bool.false_eq_true, if_false]
      refine ⟨line_big (by omega), ?_⟩
      cases h3 : decide (w' ∈ (["back", "out"] : List Str)) <;> simp only [h3, Bool.false_eq_true, if_true, if_false, Bool.false_and, Bool.true_and] at hp ⊢
      · exact hp
      · exact ⟨ok, hp⟩⟩)
end
end K00

set_option maxHeartbeats 2000000
namespace K00
open PySem PySem.Spec PyProof.Rows L2 DL
local macro_rules | `(tactic| walk_at "red") => `(tactic| simp only [gCL, fLenQ, dIxQ, wNeK, wIndex, gTryRet, gTryDrop, wzCall, wzCallL, wTold, fIsE, fRepr, wJoin, wDGet, wVals, dPow, wSrc, gSrcSet, dMulS, dFdivS, fInt, fMax, fTuple, fList, startD, gNext, gSeq, gRet, gSet, gIf, gDrop, gRaise, gFor, wVar, wC, wOp, wTest, wChain, wAnd, wOr, wNot, wtAnd, wtOr, wtNot, wIf, waNil, waCons, wTup, wLst, wCall, quiet, wIsi, wInK, wLc, wiStr, wiTup, wiLst, wiRange, wSl, woNone, woSome, dSl, wNeg, dNeg, fLen, fAll, dEq, dNe, dLe, dLt, dGe, dGt, dAdd, dSub, dMod, dIx, dIn, dIsB, strsOf, boolsOf, DL.tyD_non, at_0, at_1, at_2, at_3, at_4, DL.isInt_non, DL.isStr_non, DL.isBl_non, DL.isTup_non, DL.isLst_non, DL.tyD_bl, DL.isInt_bl, DL.isStr_bl, DL.isBl_bl, DL.isTup_bl, DL.isLst_bl, DL.tyD_int, DL.isInt_int, DL.isStr_int, DL.isBl_int, DL.isTup_int, DL.isLst_int, DL.tyD_str, DL.isInt_str, DL.isStr_str, DL.isBl_str, DL.isTup_str, DL.isLst_str, DL.tyD_lst, DL.isInt_lst, DL.isStr_lst, DL.isBl_lst, DL.isTup_lst, DL.isLst_lst, DL.tyD_tup, DL.isInt_tup, DL.isStr_tup, DL.isBl_tup, DL.isTup_tup, DL.isLst_tup, pure1, pure2, pure3, Option.map_some,
  List.map_cons, List.map_nil, List.length_cons, List.length_nil, List.cons_append, List.nil_append, List.getElem?_cons_zero, List.getElem?_cons_succ, Option.some.injEq, exists_eq_left', exists_eq_left, exists_eq_right, exists_eq_right', D.bl.injEq, D.int.injEq, D.str.injEq, D.tup.injEq, D.lst.injEq, D.fn.injEq, D.sq.injEq, D.exn.injEq, List.cons.injEq, and_true, true_and, and_self, exists_and_left, exists_and_right, Option.isSome_some, List.set_cons_zero, List.set_cons_succ, if_true, Bool.false_eq_true, if_false, Bool.not_true, Bool.not_false, reduceCtorEq, List.replicate, Nat.reduceSub, Nat.reduceAdd])
section
variable {P : Program} {w : World} {K : PySem.W.Frag} {mg : Str → Option Value} {base : Heap}
def isRowT (w : Str) (xs : List D) : Bool :=
  if w = "set" then isSetR xs else if w = "call" then isCallR xs else if w = "copy" then (match xs with | [_, a, b] => isName a && isOperand b | _ => false)
  else if w = "if" then (match xs with | [_, a, b] => isOperand a && isWithin b 0 11 | _ => false) else match xs with | [_, a] => isPairR w a | _ => false
def isRow : D → Bool
  | .tup (.str w :: x :: r) => isRowT w (.str w :: x :: r)
  | _ => false
theorem ok_is_row (T : Txt K mg) : FnOk P w K mg base CX0 7 T.d_is_row.f T.d_is_row.fd ["value"] (spD fun es P _ => (pure1 Good fun d => .bl (isRow d)) es P) :=
  fn_ok T.d_is_row.F sc_is_row (fun es P h => by first | exact pure1_len h | exact pure2_len h | exact pure3_len h | (obtain ⟨_, rfl, _⟩ := h; rfl) | (obtain ⟨_, _, rfl, _⟩ := h; rfl) | (obtain ⟨_, _, _, rfl, _⟩ := h; rfl) | (obtain ⟨_, _, _, _, rfl, _⟩ := h; rfl)) (fun cdv A outer s H E hr => ⟨_,
    (wss_cons (ws_if (PW.pt (ww_or (wt_not (wt_val (we_isi (x1 := "tuple") tyIs_tuple rfl T.n_isinstance rfl T.n_tuple boot_tupleT (we_var (pv 0))))) (ww_or (wt_cmp op_dLt (we_callB call_fLen rfl T.n_len boot_lenB (wa_cons (we_var (pv 0)) wa_nil)) (we_c pe_int) (nomark _)) (pw_or1 (wt_not (wt_val (we_isi (x1 := "str") tyIs_str rfl T.n_isinstance rfl T.n_str boot_strT (we_ix (we_var (pv 0)) (we_c pe_int)))))))))
        (wss_one (ws_ret (we_c pe_bl)))
        wss_nil)
      (wss_cons (ws_set (i := 1) sc_is_row.nd rfl (by first | exact .inl rfl | exact .inr rfl) (we_ix (we_var (pv 0)) (we_c pe_int)))
      (wss_cons (ws_if (wt_cmp (op_dEq hr.units) (we_var (pv 1)) (we_c pe_str) (nomark _))
        (wss_one (ws_ret (we_call (ok_is_set T) (hr.mono (by decide)) rfl T.d_is_set.m T.d_is_set.F.kp T.d_is_set.b (wa_cons (we_var (pv 0)) wa_nil))))
        wss_nil)
      (wss_cons (ws_if (wt_cmp (op_dEq hr.units) (we_var (pv 1)) (we_c pe_str) (nomark _))
        (wss_one (ws_ret (we_call (ok_is_call T) (hr.mono (by decide)) rfl T.d_is_call.m T.d_is_call.F.kp T.d_is_call.b (wa_cons (we_var (pv 0)) wa_nil))))
        wss_nil)
      (wss_cons (ws_if (wt_cmp (op_dEq hr.units) (we_var (pv 1)) (we_c pe_str) (nomark _))
        (wss_one (ws_ret (we_and (we_cmp (op_dEq hr.units) (we_callB call_fLen rfl T.n_len boot_lenB (wa_cons (we_var (pv 0)) wa_nil)) (we_c pe_int) (nomark _)) (we_and (we_call (ok_is_name T) (hr.mono (by decide)) rfl T.d_is_name.m T.d_is_name.F.kp T.d_is_name.b (wa_cons (we_ix (we_var (pv 0)) (we_c pe_int)) wa_nil)) (we_one (we_call (ok_is_operand T) (hr.mono (by decide)) rfl T.d_is_operand.m T.d_is_operand.F.kp T.d_is_operand.b (wa_cons (we_ix (we_var (pv 0)) (we_c pe_int)) wa_nil)))))))
        wss_nil)
      (wss_cons (ws_if (wt_cmp (op_dEq hr.units) (we_var (pv 1)) (we_c pe_str) (nomark _))
        (wss_one (ws_ret (we_and (we_cmp (op_dEq hr.units) (we_callB call_fLen rfl T.n_len boot_lenB (wa_cons (we_var (pv 0)) wa_nil)) (we_c pe_int) (nomark _)) (we_and (we_call (ok_is_operand T) (hr.mono (by decide)) rfl T.d_is_operand.m T.d_is_operand.F.kp T.d_is_operand.b (wa_cons (we_ix (we_var (pv 0)) (we_c pe_int)) wa_nil)) (we_one (we_call (ok_is_row_index T) (hr.mono (by decide)) rfl T.d_is_row_index.m T.d_is_row_index.F.kp T.d_is_row_index.b (wa_cons (we_ix (we_var (pv 0)) (we_c pe_int)) wa_nil)))))))
        wss_nil)
      (wss_one (ws_ret (we_and (we_call (ok_is_tuple_of T) (hr.mono (by decide)) rfl T.d_is_tuple_of.m T.d_is_tuple_of.F.kp T.d_is_tuple_of.b (wa_cons (we_var (pv 0)) (wa_cons (we_c pe_int) wa_nil))) (we_one (we_call (ok_is_pair_row T) (hr.mono (by decide)) rfl T.d_is_pair_row.m T.d_is_pair_row.F.kp T.d_is_pair_row.b (wa_cons (we_var (pv 1)) (wa_cons (we_ix (we_var (pv 0)) (we_c pe_int)) wa_nil))))))))))))),
    fun es P h => by
      obtain ⟨d, rfl, ok, hp⟩ := h
      match d, ok, hp with
      | .tup (y :: x :: r), ok, hp =>
        have g := ok.tup.2 y List.mem_cons_self
        cases y with
        | str w' =>
          have hl := ok.tup
          have g := hl.2
          walk_at "red"
          refine ifF (decide_eq_false (by omega)) ?_
          simp only [isRow, isRowT] at hp
          by_cases h1 : w' = "set"
          · simp only [h1, if_true, decide_true] at hp ⊢
            exact ⟨h1 ▸ ok, hp⟩
          simp only [h1, if_false, decide_false, Bool.false_eq_true] at hp ⊢
          by_cases h2 : w' = "call"
          · simp only [h2, if_true, decide_true] at hp ⊢
            exact ⟨h2 ▸ ok, hp⟩
          simp only [h2, if_false, decide_false, Bool.false_eq_true] at hp ⊢
          by_cases h3 : w' = "copy"
          · simp only [h3, if_true, decide_true] at hp ⊢
            match r, hp, g with
            | [b], hp, g =>
              simp only [List.mem_cons, List.not_mem_nil, or_false, forall_eq_or_imp, forall_eq] at g
              walk_at "red"
              simp only [show decide (((0 + 1 + 1 + 1 : Nat) : Int) = 3) = true from rfl, if_true]
              refine ⟨g.2.1, ?_⟩
              cases h4 : isName x <;> simp only [h4, Bool.false_eq_true, if_true, if_false, Bool.false_and, Bool.true_and] at hp ⊢
              · exact hp
              · exact ⟨g.2.2, hp⟩
            | [], hp, g => exact hp
            | _ :: _ :: r, hp, g =>
              refine ifF (decide_eq_false (by simp only [List.length_cons]; omega)) ?_
              exact hp
          simp only [h3, if_false, decide_false, Bool.false_eq_true] at hp ⊢
          by_cases h5 : w' = "if"
          · simp only [h5, if_true, decide_true] at hp ⊢
            match r, hp, g with
            | [b], hp, g =>
              simp only [List.mem_cons, List.not_mem_nil, or_false, forall_eq_or_imp, forall_eq] at g
              walk_at "red"
              simp only [show decide (((0 + 1 + 1 + 1 : Nat) : Int) = 3) = true from rfl, if_true]
              refine ⟨g.2.1, ?_⟩
              cases h4 : isOperand x <;> simp only [h4, Bool.false_eq_true, if_true, if_false, Bool.false_and, Bool.true_and] at hp ⊢
              · exact hp
              · exact ⟨g.2.2.ty, hp⟩
            | [], hp, g => exact hp
            | _ :: _ :: r, hp, g =>
              refine ifF (decide_eq_false (by simp only [List.length_cons]; omega)) ?_
              exact hp
          simp only [h5, if_false, decide_false, Bool.false_eq_true] at hp ⊢
          refine ⟨_, 2, rfl, ok, _, rfl, ?_⟩
          match r, hp, g with
          | [], hp, g =>
            simp only [List.mem_cons, List.not_mem_nil, or_false, forall_eq_or_imp, forall_eq] at g
            show if true = true then _ else P (.bl false)
            rw [if_pos rfl]
            exact ⟨w', x, ⟨rfl, rfl⟩, g.2, hp⟩
          | b :: r, hp, g =>
            refine ifF (c := decide ((((D.str w' :: x :: b :: r).length : Nat) : Int) = 2)) ?_ hp
            exact decide_eq_false (by simp only [List.length_cons]; omega)
        | src _ => cases g
        | fn _ => cases g
        | exn _ _ _ => cases g
        | sq _ _ => cases g
        | _ =>
          walk_at "red"
          exact ifF (decide_eq_false (by omega)) hp
      | .tup [], ok, hp => walk_at "red"; exact hp
      | .tup [y], ok, hp => cases y <;> (walk_at "red"; exact ifT rfl hp)
      | .src _, ok, hp => cases ok
      | .fn _, ok, hp => cases ok
      | .exn _ _ _, ok, hp => cases ok
      | .sq _ _, ok, hp => cases ok
      | .non, ok, hp => walk_at "red"; exact hp
      | .bl _, ok, hp => walk_at "red"; exact hp
      | .int _, ok, hp => walk_at "red"; exact hp
      | .str _, ok, hp => walk_at "red"; exact hp
      | .lst _, ok, hp => walk_at "red"; exact hp⟩)
end
end K00

set_option maxHeartbeats 2000000
namespace K00
open PySem PySem.Spec PyProof.Rows L2 DL
local macro_rules | `(tactic| walk_at "red") => `(tactic| simp only [gCL, fLenQ, dIxQ, wNeK, wIndex, gTryRet, gTryDrop, wzCall, wzCallL, wTold, fIsE, fRepr, wJoin, wDGet, wVals, dPow, wSrc, gSrcSet, dMulS, dFdivS, fInt, fMax, fTuple, fList, startD, gNext, gSeq, gRet, gSet, gIf, gDrop, gRaise, gFor, wVar, wC, wOp, wTest, wChain, wAnd, wOr, wNot, wtAnd, wtOr, wtNot, wIf, waNil, waCons, wTup, wLst, wCall, quiet, wIsi, wInK, wLc, wiStr, wiTup, wiLst, wiRange, wSl, woNone, woSome, dSl, wNeg, dNeg, fLen, fAll, dEq, dNe, dLe, dLt, dGe, dGt, dAdd, dSub, dMod, dIx, dIn, dIsB, strsOf, boolsOf, DL.tyD_non, at_0, at_1, at_2, at_3, at_4, DL.isInt_non, DL.isStr_non, DL.isBl_non, DL.isTup_non, DL.isLst_non, DL.tyD_bl, DL.isInt_bl, DL.isStr_bl, DL.isBl_bl, DL.isTup_bl, DL.isLst_bl, DL.tyD_int, DL.isInt_int, DL.isStr_int, DL.isBl_int, DL.isTup_int, DL.isLst_int, DL.tyD_str, DL.isInt_str, DL.isStr_str, DL.isBl_str, DL.isTup_str, DL.isLst_str, DL.tyD_lst, DL.isInt_lst, DL.isStr_lst, DL.isBl_lst, DL.isTup_lst, DL.isLst_lst, DL.tyD_tup, DL.isInt_tup, DL.isStr_tup, DL.isBl_tup, DL.isTup_tup, DL.isLst_tup, pure1, pure2, pure3, Option.map_some,
  List.map_cons, List.map_nil, List.length_cons, List.length_nil, List.cons_append, List.nil_append, List.getElem?_cons_zero, List.getElem?_cons_succ, Option.some.injEq, exists_eq_left', exists_eq_left, exists_eq_right, exists_eq_right', D.bl.injEq, D.int.injEq, D.str.injEq, D.tup.injEq, D.lst.injEq, D.fn.injEq, D.sq.injEq, D.exn.injEq, List.cons.injEq, and_true, true_and, and_self, exists_and_left, exists_and_right, Option.isSome_some, List.set_cons_zero, List.set_cons_succ, if_true, Bool.false_eq_true, if_false, Bool.not_true, Bool.not_false, reduceCtorEq, List.replicate, Nat.reduceSub, Nat.reduceAdd])
section
variable {P : Program} {w : World} {K : PySem.W.Frag} {mg : Str → Option Value} {base : Heap}
def isVal (d : D) : Bool := isWithin d 0 9972
def reck (op : Str) (i j : Int) : Int := if op = "less" then (if i < j then 1 else 0) else if op = "add" then (i + j) % 9973 else if op = "sub" then (i - j) % 9973 else i * j % 9973
def reckD (a b c : D) : D := match a, b, c with
  | .str op, .int i, .int j => .int (reck op i j)
  | _, _, _ => .non
theorem isVal_int {b : D} (h : isVal b = true) : ∃ i : Int, b = .int i ∧ 0 ≤ i ∧ i ≤ 9972 := by
  cases b <;> simp [isVal, isWithin] at h ⊢
  exact h
theorem isOp_str {b : D} (h : isOp b = true) : ∃ x : Str, b = .str x := by
  cases b <;> simp [isOp] at h ⊢
def gReck (C : Addr) : DSp := fun es P Z => ∃ a b c, es = [a, b, c] ∧ Good a ∧ Good b ∧ Good c ∧ (if (!isOp a) = true then Z C a else if (!isVal b) = true then Z C b else if (!isVal c) = true then Z C c else P (reckD a b c))
theorem ok_reckoned (T : Txt K mg) : FnOk P w K mg base (L2.CX P w) 4 T.d_reckoned.f T.d_reckoned.fd ["op", "one", "other"] (spD (gReck T.x_NoValue.C)) :=
  fn_okX T.d_reckoned.F sc_reckoned (fun es P Z h => by first | exact pure1_len h | exact pure2_len h | exact pure3_len h | (obtain ⟨_, rfl, _⟩ := h; rfl) | (obtain ⟨_, _, rfl, _⟩ := h; rfl) | (obtain ⟨_, _, _, rfl, _⟩ := h; rfl) | (obtain ⟨_, _, _, _, rfl, _⟩ := h; rfl)) (fun cdv A outer s H E hr => ⟨_,
    (wss_cons (ws_if (wt_not (wt_val (we_call (ok_is_op T) (hr.mono (by decide)) rfl T.d_is_op.m T.d_is_op.F.kp T.d_is_op.b (wa_cons (we_var (pv 0)) wa_nil))))
        (wss_one (ws_raise rfl (takes_of rfl rfl rfl rfl) T.x_NoValue.T T.x_NoValue.iC T.x_NoValue.tI T.x_NoValue.no (ok_told T.x_NoValue.F sc_told rfl rfl rfl) (hr.mono (by decide)) T.x_NoValue.b pass0 rfl T.x_NoValue.m (we_var (pv 0))))
        wss_nil)
      (wss_cons (ws_if (wt_not (wt_val (we_call (ok_is_value T) (hr.mono (by decide)) rfl T.d_is_value.m T.d_is_value.F.kp T.d_is_value.b (wa_cons (we_var (pv 1)) wa_nil))))
        (wss_one (ws_raise rfl (takes_of rfl rfl rfl rfl) T.x_NoValue.T T.x_NoValue.iC T.x_NoValue.tI T.x_NoValue.no (ok_told T.x_NoValue.F sc_told rfl rfl rfl) (hr.mono (by decide)) T.x_NoValue.b pass0 rfl T.x_NoValue.m (we_var (pv 1))))
        wss_nil)
      (wss_cons (ws_if (wt_not (wt_val (we_call (ok_is_value T) (hr.mono (by decide)) rfl T.d_is_value.m T.d_is_value.F.kp T.d_is_value.b (wa_cons (we_var (pv 2)) wa_nil))))
        (wss_one (ws_raise rfl (takes_of rfl rfl rfl rfl) T.x_NoValue.T T.x_NoValue.iC T.x_NoValue.tI T.x_NoValue.no (ok_told T.x_NoValue.F sc_told rfl rfl rfl) (hr.mono (by decide)) T.x_NoValue.b pass0 rfl T.x_NoValue.m (we_var (pv 2))))
        wss_nil)
      (wss_cons (ws_if (wt_cmp (op_dEq hr.units) (we_var (pv 0)) (we_c pe_str) (nomark _))
        (wss_one (ws_ret (we_if (wt_cmp op_dLt (we_var (pv 1)) (we_var (pv 2)) (nomark _)) (we_c pe_int) (we_c pe_int))))
        wss_nil)
      (wss_cons (ws_if (wt_cmp (op_dEq hr.units) (we_var (pv 0)) (we_c pe_str) (nomark _))
        (wss_one (ws_ret (we_op op_dMod (we_op op_dAdd (we_var (pv 1)) (we_var (pv 2))) (we_k rfl T.m_MODULUS))))
        wss_nil)
      (wss_cons (ws_if (wt_cmp (op_dEq hr.units) (we_var (pv 0)) (we_c pe_str) (nomark _))
        (wss_one (ws_ret (we_op op_dMod (we_op op_dSub (we_var (pv 1)) (we_var (pv 2))) (we_k rfl T.m_MODULUS))))
        wss_nil)
      (wss_one (ws_ret (we_op op_dMod (we_op op_dMul (we_var (pv 1)) (we_var (pv 2))) (we_k rfl T.m_MODULUS)))))))))),
    fun es P Z h => by
      obtain ⟨a, b, c, rfl, ga, gb, gc, hp⟩ := h
      cases h1 : isOp a with
      | false =>
        rw [h1] at hp
        walk_at "red"
        exact ⟨ga.ty, ifT (by rw [h1]; rfl) hp⟩
      | true =>
        rw [h1, if_neg (by decide)] at hp
        obtain ⟨op, rfl⟩ := isOp_str h1
        cases h2 : isVal b with
        | false =>
          rw [h2] at hp
          walk_at "red"
          exact ⟨ga.ty, ifF (by rw [h1]; rfl) ⟨gb.ty, ifT (by rw [show isWithin b 0 9972 = false from h2]; rfl) hp⟩⟩
        | true =>
          rw [h2, if_neg (by decide)] at hp
          obtain ⟨i, rfl, hi0, hi1⟩ := isVal_int h2
          cases h3 : isVal c with
          | false =>
            rw [h3] at hp
            walk_at "red"
            exact ⟨ga.ty, ifF (by rw [h1]; rfl) ⟨gb.ty, ifF (by rw [show isWithin (.int i) 0 9972 = true from h2]; rfl) ⟨gc.ty, ifT (by rw [show isWithin c 0 9972 = false from h3]; rfl) hp⟩⟩⟩
          | true =>
            rw [h3, if_neg (by decide)] at hp
            obtain ⟨j, rfl, hj0, hj1⟩ := isVal_int h3
            walk_at "red"
            refine ⟨ga.ty, ifF (by rw [h1]; rfl) ⟨gb.ty, ifF (by rw [show isWithin (.int i) 0 9972 = true from h2]; rfl) ⟨gc.ty, ifF (by rw [show isWithin (.int j) 0 9972 = true from h3]; rfl) ?_⟩⟩⟩
            simp only [reckD, reck] at hp
            by_cases e1 : op = "less"
            · refine ifT (by simp [e1]) ?_
              rw [if_pos e1] at hp
              by_cases e2 : i < j
              · rw [if_pos e2] at hp
                exact ifT (decide_eq_true e2) hp
              · rw [if_neg e2] at hp
                exact ifF (decide_eq_false e2) hp
            rw [if_neg e1] at hp
            refine ifF (by simp [e1]) ?_
            by_cases e2 : op = "add"
            · rw [if_pos e2] at hp
              exact ifT (by simp [e2]) ⟨by omega, hp⟩
            rw [if_neg e2] at hp
            refine ifF (by simp [e2]) ?_
            by_cases e3 : op = "sub"
            · rw [if_pos e3] at hp
              exact ifT (by simp [e3]) ⟨by omega, hp⟩
            rw [if_neg e3] at hp
            refine ifF (by simp [e3]) ?_
            refine ⟨wide_mul (a := 20) (b := 20) (by omega) (by omega) (by decide) (by decide) (by decide), ?_⟩
            exact ⟨by omega, hp⟩⟩)
theorem isRow_tup {d : D} (h : isRow d = true) : ∃ (w : Str) (x : D) (r : List D), d = .tup (.str w :: x :: r) := by
  unfold isRow at h
  split at h
  · exact ⟨_, _, _, rfl⟩
  · cases h
def opsOf : D → D
  | .tup (.str w :: x :: r) => if w = "set" then .tup (r.drop 1) else if w = "copy" then .tup r else if w = "call" then (match r with | [_, o] => o | _ => .non)
    else if w ∈ (["if", "back", "out"] : List Str) then .tup [x] else .tup []
  | _ => .non
def gOps (C : Addr) : DSp := fun es P Z => ∃ d, es = [d] ∧ Good d ∧ if (!isRow d) = true then Z C d else P (opsOf d)
theorem ok_operands_of (T : Txt K mg) : FnOk P w K mg base (L2.CX P w) 8 T.d_operands_of.f T.d_operands_of.fd ["row"] (spD (gOps T.x_NoRow.C)) :=
  fn_okX T.d_operands_of.F sc_operands_of (fun es P Z h => by first | exact pure1_len h | exact pure2_len h | exact pure3_len h | (obtain ⟨_, rfl, _⟩ := h; rfl) | (obtain ⟨_, _, rfl, _⟩ := h; rfl) | (obtain ⟨_, _, _, rfl, _⟩ := h; rfl) | (obtain ⟨_, _, _, _, rfl, _⟩ := h; rfl)) (fun cdv A outer s H E hr => ⟨_,
    (wss_cons (ws_if (wt_not (wt_val (we_call (ok_is_row T) (hr.mono (by decide)) rfl T.d_is_row.m T.d_is_row.F.kp T.d_is_row.b (wa_cons (we_var (pv 0)) wa_nil))))
        (wss_one (ws_raise rfl (takes_of rfl rfl rfl rfl) T.x_NoRow.T T.x_NoRow.iC T.x_NoRow.tI T.x_NoRow.no (ok_told T.x_NoRow.F sc_told rfl rfl rfl) (hr.mono (by decide)) T.x_NoRow.b pass0 rfl T.x_NoRow.m (we_var (pv 0))))
        wss_nil)
      (wss_cons (ws_set (i := 1) sc_operands_of.nd rfl (by first | exact .inl rfl | exact .inr rfl) (we_ix (we_var (pv 0)) (we_c pe_int)))
      (wss_cons (ws_if (wt_cmp (op_dEq hr.units) (we_var (pv 1)) (we_c pe_str) (nomark _))
        (wss_one (ws_ret (we_sl (we_var (pv 0)) (wo_some (we_c pe_int)) wo_none)))
        wss_nil)
      (wss_cons (ws_if (wt_cmp (op_dEq hr.units) (we_var (pv 1)) (we_c pe_str) (nomark _))
        (wss_one (ws_ret (we_sl (we_var (pv 0)) (wo_some (we_c pe_int)) wo_none)))
        wss_nil)
      (wss_cons (ws_if (wt_cmp (op_dEq hr.units) (we_var (pv 1)) (we_c pe_str) (nomark _))
        (wss_one (ws_ret (we_ix (we_var (pv 0)) (we_c pe_int))))
        wss_nil)
      (wss_cons (ws_if (wt_cmp op_dIn (we_var (pv 1)) (we_tup (wa_cons (we_c pe_str) (wa_cons (we_c pe_str) (wa_cons (we_c pe_str) wa_nil)))) (by with_unfolding_all rfl))
        (wss_one (ws_ret (we_sl (we_var (pv 0)) (wo_some (we_c pe_int)) (wo_some (we_c pe_int)))))
        wss_nil)
      (wss_one (ws_ret (we_tup wa_nil))))))))),
    fun es P Z h => by
      obtain ⟨d, rfl, ok, hp⟩ := h
      cases h1 : isRow d with
      | false =>
        rw [h1] at hp
        walk_at "red"
        exact ⟨ok, ifT (by rw [h1]; rfl) hp⟩
      | true =>
        rw [h1, if_neg (by decide)] at hp
        obtain ⟨w', x, r, rfl⟩ := isRow_tup h1
        walk_at "red"
        refine ⟨ok, ifF (by rw [h1]; rfl) ?_⟩
        simp only [opsOf] at hp
        simp only [isRow, isRowT] at h1
        by_cases e1 : w' = "set"
        · rw [if_pos e1] at hp h1
          refine ifT (decide_eq_true e1) ?_
          match r, h1, hp with
          | [b, c, e], _, hp => exact hp
          | [], h, _ => cases h
          | [_], h, _ => cases h
          | [_, _], h, _ => cases h
          | _ :: _ :: _ :: _ :: _, h, _ => cases h
        rw [if_neg e1] at hp h1
        refine ifF (decide_eq_false e1) ?_
        by_cases e3 : w' = "copy"
        · rw [if_pos e3] at hp
          rw [if_neg (by rw [e3]; decide), if_pos e3] at h1
          refine ifT (decide_eq_true e3) ?_
          match r, h1, hp with
          | [b], _, hp => exact hp
          | [], h, _ => cases h
          | _ :: _ :: _, h, _ => cases h
        rw [if_neg e3] at hp
        refine ifF (decide_eq_false e3) ?_
        by_cases e2 : w' = "call"
        · rw [if_pos e2] at hp h1
          refine ifT (decide_eq_true e2) ?_
          match r, h1, hp with
          | [b, c], _, hp => exact ⟨c, at_3, hp⟩
          | [], h, _ => cases h
          | [_], h, _ => cases h
          | _ :: _ :: _ :: _, h, _ => cases h
        rw [if_neg e2] at hp h1
        rw [if_neg e3] at h1
        refine ifF (decide_eq_false e2) ⟨line_big (by omega), ?_⟩
        by_cases e4 : w' ∈ (["if", "back", "out"] : List Str)
        · rw [if_pos e4] at hp
          refine ifT (decide_eq_true e4) ?_
          match r, h1, hp with
          | [], _, hp => exact hp
          | [b], _, hp => exact hp
          | b :: c :: r, h, _ => simp at h
        · rw [if_neg e4] at hp
          exact ifF (decide_eq_false e4) ⟨Nat.zero_le _, hp⟩⟩)
def setBy : D → D
  | .tup (.str w :: x :: _) => if w ∈ (["set", "copy", "call", "get"] : List Str) then x else .non
  | _ => .non
def gSetBy (C : Addr) : DSp := fun es P Z => ∃ d, es = [d] ∧ Good d ∧ if (!isRow d) = true then Z C d else P (setBy d)
theorem ok_set_by (T : Txt K mg) : FnOk P w K mg base (L2.CX P w) 8 T.d_set_by.f T.d_set_by.fd ["row"] (spD (gSetBy T.x_NoRow.C)) :=
  fn_okX T.d_set_by.F sc_set_by (fun es P Z h => by first | exact pure1_len h | exact pure2_len h | exact pure3_len h | (obtain ⟨_, rfl, _⟩ := h; rfl) | (obtain ⟨_, _, rfl, _⟩ := h; rfl) | (obtain ⟨_, _, _, rfl, _⟩ := h; rfl) | (obtain ⟨_, _, _, _, rfl, _⟩ := h; rfl)) (fun cdv A outer s H E hr => ⟨_,
    (wss_cons (ws_if (wt_not (wt_val (we_call (ok_is_row T) (hr.mono (by decide)) rfl T.d_is_row.m T.d_is_row.F.kp T.d_is_row.b (wa_cons (we_var (pv 0)) wa_nil))))
        (wss_one (ws_raise rfl (takes_of rfl rfl rfl rfl) T.x_NoRow.T T.x_NoRow.iC T.x_NoRow.tI T.x_NoRow.no (ok_told T.x_NoRow.F sc_told rfl rfl rfl) (hr.mono (by decide)) T.x_NoRow.b pass0 rfl T.x_NoRow.m (we_var (pv 0))))
        wss_nil)
      (wss_one (ws_ret (we_if (wt_cmp op_dIn (we_ix (we_var (pv 0)) (we_c pe_int)) (we_tup (wa_cons (we_c pe_str) (wa_cons (we_c pe_str) (wa_cons (we_c pe_str) (wa_cons (we_c pe_str) wa_nil))))) (by with_unfolding_all rfl)) (we_ix (we_var (pv 0)) (we_c pe_int)) (we_c pe_non))))),
    fun es P Z h => by
      obtain ⟨d, rfl, ok, hp⟩ := h
      cases h1 : isRow d with
      | false =>
        rw [h1] at hp
        walk_at "red"
        exact ⟨ok, ifT (by rw [h1]; rfl) hp⟩
      | true =>
        rw [h1, if_neg (by decide)] at hp
        obtain ⟨w', x, r, rfl⟩ := isRow_tup h1
        walk_at "red"
        refine ⟨ok, ifF (by rw [h1]; rfl) ?_⟩
        simp only [setBy] at hp
        refine ⟨line_big (by omega), ?_⟩
        split at hp <;> rename_i e
        · exact ifT (decide_eq_true e) hp
        · exact ifF (decide_eq_false e) hp⟩)
end
end K00

set_option maxHeartbeats 2000000
namespace K00
open PySem PySem.Spec PyProof.Rows L2 DL
local macro_rules | `(tactic| walk_at "red") => `(tactic| simp only [gCL, fLenQ, dIxQ, wNeK, wIndex, gTryRet, gTryDrop, wzCall, wzCallL, wTold, fIsE, fRepr, wJoin, wDGet, wVals, dPow, wSrc, gSrcSet, dMulS, dFdivS, fInt, fMax, fTuple, fList, startD, gNext, gSeq, gRet, gSet, gIf, gDrop, gRaise, gFor, wVar, wC, wOp, wTest, wChain, wAnd, wOr, wNot, wtAnd, wtOr, wtNot, wIf, waNil, waCons, wTup, wLst, wCall, quiet, wIsi, wInK, wLc, wiStr, wiTup, wiLst, wiRange, wSl, woNone, woSome, dSl, wNeg, dNeg, fLen, fAll, dEq, dNe, dLe, dLt, dGe, dGt, dAdd, dSub, dMod, dIx, dIn, dIsB, strsOf, boolsOf, DL.tyD_non, at_0, at_1, at_2, at_3, at_4, DL.isInt_non, DL.isStr_non, DL.isBl_non, DL.isTup_non, DL.isLst_non, DL.tyD_bl, DL.isInt_bl, DL.isStr_bl, DL.isBl_bl, DL.isTup_bl, DL.isLst_bl, DL.tyD_int, DL.isInt_int, DL.isStr_int, DL.isBl_int, DL.isTup_int, DL.isLst_int, DL.tyD_str, DL.isInt_str, DL.isStr_str, DL.isBl_str, DL.isTup_str, DL.isLst_str, DL.tyD_lst, DL.isInt_lst, DL.isStr_lst, DL.isBl_lst, DL.isTup_lst, DL.isLst_lst, DL.tyD_tup, DL.isInt_tup, DL.isStr_tup, DL.isBl_tup, DL.isTup_tup, DL.isLst_tup, pure1, pure2, pure3, Option.map_some,
  List.map_cons, List.map_nil, List.length_cons, List.length_nil, List.cons_append, List.nil_append, List.getElem?_cons_zero, List.getElem?_cons_succ, Option.some.injEq, exists_eq_left', exists_eq_left, exists_eq_right, exists_eq_right', D.bl.injEq, D.int.injEq, D.str.injEq, D.tup.injEq, D.lst.injEq, D.fn.injEq, D.sq.injEq, D.exn.injEq, List.cons.injEq, and_true, true_and, and_self, exists_and_left, exists_and_right, Option.isSome_some, List.set_cons_zero, List.set_cons_succ, if_true, Bool.false_eq_true, if_false, Bool.not_true, Bool.not_false, reduceCtorEq, List.replicate, Nat.reduceSub, Nat.reduceAdd])
section
variable {P : Program} {w : World} {K : PySem.W.Frag} {mg : Str → Option Value} {base : Heap}
def fTake : DFn := fun es P => ∃ p top, es = [.src p, .int top] ∧ 0 < top ∧ top < 1073741824 ∧ ∀ r : Int, 0 ≤ r → r < top → P (.int r)
theorem ok_ltake (T : Txt K mg) : FnOk P w K mg base CX0 1 T.d_ltake.f T.d_ltake.fd ["_law_source", "_law_top"] (spD fun es P _ => (fTake) es P) :=
  fn_ok T.d_ltake.F sc_ltake (fun es P h => by first | exact pure1_len h | exact pure2_len h | exact pure3_len h | (obtain ⟨_, rfl, _⟩ := h; rfl) | (obtain ⟨_, _, rfl, _⟩ := h; rfl) | (obtain ⟨_, _, _, rfl, _⟩ := h; rfl) | (obtain ⟨_, _, _, _, rfl, _⟩ := h; rfl)) (fun cdv A outer s H E hr => ⟨_,
    (wss_cons (ws_if (wt_cmp op_dGt (we_src (pv 0)) (we_c pe_int) (nomark _))
        (wss_cons (ws_set (i := 2) sc_ltake.nd rfl (by first | exact .inl rfl | exact .inr rfl) (we_op op_dMod (we_callTy call_fInt rfl T.n_int boot_intT (wa_cons (we_src (pv 0)) wa_nil)) (we_var (pv 1))))
        (wss_cons (ws_srcSet (pv 0) (we_op op_dFdivS (we_src (pv 0)) (we_var (pv 1))))
        (wss_one (ws_ret (we_var (pv 2))))))
        wss_nil)
      (wss_cons (ws_srcSet (pv 0) (we_op op_dMod (we_callTy call_fInt rfl T.n_int boot_intT (wa_cons (we_op op_dAdd (we_op op_dMulS (we_src (pv 0)) (we_c pe_int)) (we_c pe_int)) wa_nil)) (we_c pe_int)))
      (wss_one (ws_ret (we_op op_dMod (we_callTy call_fInt rfl T.n_int boot_intT (wa_cons (we_op op_dFdivS (we_op op_dMod (we_callTy call_fInt rfl T.n_int boot_intT (wa_cons (we_op op_dMulS (we_src (pv 0)) (we_src (pv 0))) wa_nil)) (we_c pe_int)) (we_c pe_int)) wa_nil)) (we_var (pv 1))))))),
    fun es P h => by
      obtain ⟨p, top, rfl, h0, h1, hp⟩ := h
      walk_at "red"
      have hs : ∀ n : Int, SrcN 1 n → 0 ≤ n ∧ n < 2147483647 := fun n hn => by
        rcases hn with z | z
        · cases z
        · exact z.2
      have hr : ∀ n : Int, P (.int (n % top)) := fun n => hp _ (Int.emod_nonneg _ (by omega)) (Int.emod_lt_of_pos _ h0)
      refine ⟨.inl trivial, ⟨p, rfl⟩, fun n _ => ?_⟩
      by_cases hn : 0 < n
      · exact ifT (decide_eq_true hn) ⟨.inl trivial, ⟨p, rfl⟩, fun m _ => ⟨h0, .inl trivial, ⟨p, rfl⟩, fun q _ => ⟨⟨h0, h1⟩, .inl trivial, ⟨p, rfl⟩, .inl rfl, hr m⟩⟩⟩
      · refine ifF (decide_eq_false hn) ⟨.inr trivial, ⟨p, rfl⟩, fun m hm => ⟨.inr ⟨by decide, by decide⟩, by decide, .inr trivial, ⟨p, rfl⟩, .inr ⟨rfl, Int.emod_nonneg _ (by decide), Int.emod_lt_of_pos _ (by decide)⟩, .inr trivial, ⟨p, rfl⟩, fun a ha => ⟨.inr trivial, ⟨p, rfl⟩, fun b hb => ?_⟩⟩⟩
        have := hs b hb
        exact ⟨.inr ⟨by omega, by omega⟩, by decide, ⟨by decide, by decide⟩, h0, hr _⟩⟩)
def fOne : DFn := fun es P => ∃ p xs, es = [.src p, .lst xs] ∧ xs ≠ [] ∧ xs.length ≤ 1000 ∧ ∀ d ∈ xs, P d
theorem ok_lone (T : Txt K mg) : FnOk P w K mg base CX0 2 T.d_lone.f T.d_lone.fd ["_law_source", "_law_things"] (spD fun es P _ => (fOne) es P) :=
  fn_ok T.d_lone.F sc_lone (fun es P h => by first | exact pure1_len h | exact pure2_len h | exact pure3_len h | (obtain ⟨_, rfl, _⟩ := h; rfl) | (obtain ⟨_, _, rfl, _⟩ := h; rfl) | (obtain ⟨_, _, _, rfl, _⟩ := h; rfl) | (obtain ⟨_, _, _, _, rfl, _⟩ := h; rfl)) (fun cdv A outer s H E hr => ⟨_,
    (wss_one (ws_ret (we_ix (we_var (pv 1)) (we_call (ok_ltake T) (hr.mono (by decide)) rfl T.d_ltake.m T.d_ltake.F.kp T.d_ltake.b (wa_cons (we_var (pv 0)) (wa_cons (we_callB call_fLen rfl T.n_len boot_lenB (wa_cons (we_var (pv 1)) wa_nil)) wa_nil)))))),
    fun es P h => by
      obtain ⟨p, xs, rfl, h0, h1, hp⟩ := h
      have hl : 0 < xs.length := List.length_pos_iff.mpr h0
      walk_at "red"
      refine ⟨p, xs.length, rfl, by omega, by omega, fun r r0 r1 => ?_⟩
      obtain ⟨d, e, m⟩ := at_some r0 r1
      exact ⟨d, e, hp d m⟩⟩)
theorem ok_lreckoned (T : Txt K mg) : FnOk P w K mg base CX0 1 T.d_lreckoned.f T.d_lreckoned.fd ["_law_op", "_law_one_here", "_law_other"] (spD fun es P _ => (fun es P => ∃ op i j, es = [.str op, .int i, .int j] ∧ op ∈ OPS ∧ 0 ≤ i ∧ i ≤ 9972 ∧ 0 ≤ j ∧ j ≤ 9972 ∧ P (.int (reck op i j))) es P) :=
  fn_ok T.d_lreckoned.F sc_lreckoned (fun es P h => by first | exact pure1_len h | exact pure2_len h | exact pure3_len h | (obtain ⟨_, rfl, _⟩ := h; rfl) | (obtain ⟨_, _, rfl, _⟩ := h; rfl) | (obtain ⟨_, _, _, rfl, _⟩ := h; rfl) | (obtain ⟨_, _, _, _, rfl, _⟩ := h; rfl)) (fun cdv A outer s H E hr => ⟨_,
    (wss_cons (ws_if (wt_cmp (op_dEq hr.units) (we_var (pv 0)) (we_c pe_str) (nomark _))
        (wss_one (ws_ret (we_callTy call_fInt rfl T.n_int boot_intT (wa_cons (we_cmp op_dLt (we_var (pv 1)) (we_var (pv 2)) (nomark _)) wa_nil))))
        wss_nil)
      (wss_cons (ws_if (wt_cmp (op_dEq hr.units) (we_var (pv 0)) (we_c pe_str) (nomark _))
        (wss_one (ws_ret (we_op op_dMod (we_callTy call_fInt rfl T.n_int boot_intT (wa_cons (we_op op_dMulS (we_var (pv 1)) (we_var (pv 2))) wa_nil)) (we_c pe_int))))
        wss_nil)
      (wss_one (ws_ret (we_op op_dMod (we_callTy call_fInt rfl T.n_int boot_intT (wa_cons (we_op op_dAdd (we_var (pv 1)) (we_if (wt_cmp (op_dEq hr.units) (we_var (pv 0)) (we_c pe_str) (nomark _)) (we_var (pv 2)) (we_op op_dSub (we_c pe_int) (we_var (pv 2))))) wa_nil)) (we_c pe_int)))))),
    fun es P h => by
      obtain ⟨op, i, j, rfl, ho, i0, i1, j0, j1, hp⟩ := h
      walk_at "red"
      unfold reck at hp
      by_cases e1 : op = "less"
      · rw [if_pos e1] at hp
        refine ifT (decide_eq_true e1) ?_
        by_cases e2 : i < j <;> simpa [e2] using hp
      rw [if_neg e1] at hp
      refine ifF (decide_eq_false e1) ?_
      by_cases e3 : op = "mul"
      · rw [if_neg (by rw [e3]; decide), if_neg (by rw [e3]; decide)] at hp
        exact ifT (decide_eq_true e3) ⟨.inl ⟨by omega, by omega⟩, by decide, hp⟩
      refine ifF (decide_eq_false e3) ?_
      by_cases e2 : op = "add"
      · rw [if_pos e2] at hp
        exact ifT (decide_eq_true e2) ⟨by decide, hp⟩
      rw [if_neg e2] at hp
      refine ifF (decide_eq_false e2) ⟨by decide, ?_⟩
      have e4 : op = "sub" := by simp [OPS, e1, e2, e3] at ho; exact ho
      rw [if_pos e4] at hp
      rw [show i + (9973 - j) = (i - j) + 9973 by omega, Int.add_emod_right]
      exact hp⟩)
theorem abc_low (c : Nat) : decide (c ∈ ("abcdefghijklmnopqrstuvwxyz" : Str).cps.toList) = low c := by
  rw [show ("abcdefghijklmnopqrstuvwxyz" : Str).cps.toList = List.range' 97 26 from by decide +kernel]
  unfold low
  rw [Bool.eq_iff_iff]
  simp only [List.mem_range'_1, decide_eq_true_eq, Bool.and_eq_true]
  omega
theorem ok_lfits_name (T : Txt K mg) : FnOk P w K mg base CX0 1 T.d_lfits_name.f T.d_lfits_name.fd ["_law_value"] (spD fun es P _ => (pure1 Good fun d => .bl (isName d)) es P) :=
  fn_ok T.d_lfits_name.F sc_lfits_name (fun es P h => by first | exact pure1_len h | exact pure2_len h | exact pure3_len h | (obtain ⟨_, rfl, _⟩ := h; rfl) | (obtain ⟨_, _, rfl, _⟩ := h; rfl) | (obtain ⟨_, _, _, rfl, _⟩ := h; rfl) | (obtain ⟨_, _, _, _, rfl, _⟩ := h; rfl)) (fun cdv A outer s H E hr => ⟨_,
    (wss_cons (ws_if (PW.pt (ww_or (wt_not (wt_val (we_isi (x1 := "str") tyIs_str rfl T.n_isinstance rfl T.n_str boot_strT (we_var (pv 0))))) (pw_or1 (wt_not (wt_chain op_dLe op_dLe (we_c pe_int) (we_callB call_fLen rfl T.n_len boot_lenB (wa_cons (we_var (pv 0)) wa_nil)) (we_c pe_int))))))
        (wss_one (ws_ret (we_c pe_bl)))
        wss_nil)
      (wss_one (ws_ret (we_callB (call_fAll rfl) rfl T.n_all boot_allB (wa_cons (we_lc (i := 1) (x := "_law_sign") rfl sc_lfits_name.nd (wi_str (we_var (pv 0))) (blkOk_by (N := ["_law_value", "_law_sign"]) (sc := defScope s_lfits_name) (by decide +kernel)) (fun _ _ _ _ _ => pg_name sc_lfits_name.nd rfl (Or.inl rfl)) (fun _ _ _ _ _ => (we_cmp op_dIn (we_var (pv 1)) (we_c pe_str) (by with_unfolding_all rfl)))) wa_nil))))),
    fun es P h => by
      obtain ⟨d, rfl, ok, hp⟩ := h
      cases d with
      | str x =>
        walk_at "red"
        have hl := ok.str
        refine ⟨line_big (by omega), ?_⟩
        simp only [isName] at hp
        by_cases h1 : 1 ≤ x.length
        · refine ifT (decide_eq_true (show (1 : Int) ≤ x.length by omega)) ?_
          by_cases h2 : x.length ≤ 4
          · refine ifF (by rw [decide_eq_true (show (x.length : Int) ≤ 4 by omega)]; rfl) ⟨by rw [signs_len, sizeLine_eq]; omega, wEach_signs (fun c => .bl (low c)) (fun c P' hc => ⟨c, rfl, by rw [abc_low]; exact hc⟩) ⟨_, bools_map low _, ?_⟩⟩
            simpa [h1, h2, List.all_map] using hp
          · exact ifT (by rw [decide_eq_false (show ¬ (x.length : Int) ≤ 4 by omega)]; rfl) (by simpa [h2] using hp)
        · exact ifF (decide_eq_false (show ¬ (1 : Int) ≤ x.length by omega)) (by simpa [h1] using hp)
      | src _ => cases ok
      | fn _ => cases ok
      | exn _ _ _ => cases ok
      | sq _ _ => cases ok
      | _ => walk_at "red"; exact hp⟩)
theorem ok_lfits_number (T : Txt K mg) : FnOk P w K mg base CX0 1 T.d_lfits_number.f T.d_lfits_number.fd ["_law_value", "_law_top"] (spD fun es P _ => (fun es P => ∃ d top, es = [d, .int top] ∧ Good d ∧ P (.bl (isWithin d 0 top))) es P) :=
  fn_ok T.d_lfits_number.F sc_lfits_number (fun es P h => by first | exact pure1_len h | exact pure2_len h | exact pure3_len h | (obtain ⟨_, rfl, _⟩ := h; rfl) | (obtain ⟨_, _, rfl, _⟩ := h; rfl) | (obtain ⟨_, _, _, rfl, _⟩ := h; rfl) | (obtain ⟨_, _, _, _, rfl, _⟩ := h; rfl)) (fun cdv A outer s H E hr => ⟨_,
    (wss_one (ws_ret (we_and (we_isi (x1 := "int") tyIs_int rfl T.n_isinstance rfl T.n_int boot_intT (we_var (pv 0))) (we_and (we_not (we_isi (x1 := "bool") tyIs_bool rfl T.n_isinstance rfl T.n_bool boot_boolT (we_var (pv 0)))) (we_one (we_chain op_dLe op_dLe (we_c pe_int) (we_var (pv 0)) (we_var (pv 1)))))))),
    fun es P h => by
      obtain ⟨d, top, rfl, ok, hp⟩ := h
      cases d with
      | int i =>
        walk_at "red"
        simp only [isWithin] at hp
        by_cases h1 : 0 ≤ i <;> simpa [h1] using hp
      | src _ => cases ok
      | fn _ => cases ok
      | exn _ _ _ => cases ok
      | sq _ _ => cases ok
      | _ => walk_at "red"; exact hp⟩)
theorem ok_lfits_operand (T : Txt K mg) : FnOk P w K mg base CX0 2 T.d_lfits_operand.f T.d_lfits_operand.fd ["_law_value"] (spD fun es P _ => (pure1 Good fun d => .bl (isOperand d)) es P) :=
  fn_ok T.d_lfits_operand.F sc_lfits_operand (fun es P h => by first | exact pure1_len h | exact pure2_len h | exact pure3_len h | (obtain ⟨_, rfl, _⟩ := h; rfl) | (obtain ⟨_, _, rfl, _⟩ := h; rfl) | (obtain ⟨_, _, _, rfl, _⟩ := h; rfl) | (obtain ⟨_, _, _, _, rfl, _⟩ := h; rfl)) (fun cdv A outer s H E hr => ⟨_,
    (wss_one (ws_ret (we_or (we_call (ok_lfits_name T) (hr.mono (by decide)) rfl T.d_lfits_name.m T.d_lfits_name.F.kp T.d_lfits_name.b (wa_cons (we_var (pv 0)) wa_nil)) (we_one (we_call (ok_lfits_number T) (hr.mono (by decide)) rfl T.d_lfits_number.m T.d_lfits_number.F.kp T.d_lfits_number.b (wa_cons (we_var (pv 0)) (wa_cons (we_c pe_int) wa_nil))))))),
    fun es P h => by
      obtain ⟨d, rfl, ok, hp⟩ := h
      walk_at "red"
      refine ⟨ok, ?_⟩
      simp only [isOperand] at hp
      cases h1 : isName d <;> rw [h1] at hp
      · exact ⟨_, _, ⟨rfl, rfl⟩, ok, by simpa using hp⟩
      · simpa using hp⟩)
theorem ok_lfits_op (T : Txt K mg) : FnOk P w K mg base CX0 1 T.d_lfits_op.f T.d_lfits_op.fd ["_law_value"] (spD fun es P _ => (pure1 Good fun d => .bl (isOp d)) es P) :=
  fn_ok T.d_lfits_op.F sc_lfits_op (fun es P h => by first | exact pure1_len h | exact pure2_len h | exact pure3_len h | (obtain ⟨_, rfl, _⟩ := h; rfl) | (obtain ⟨_, _, rfl, _⟩ := h; rfl) | (obtain ⟨_, _, _, rfl, _⟩ := h; rfl) | (obtain ⟨_, _, _, _, rfl, _⟩ := h; rfl)) (fun cdv A outer s H E hr => ⟨_,
    (wss_one (ws_ret (we_and (we_isi (x1 := "str") tyIs_str rfl T.n_isinstance rfl T.n_str boot_strT (we_var (pv 0))) (we_one (we_cmp op_dIn (we_var (pv 0)) (we_lst (wa_cons (we_c pe_str) (wa_cons (we_c pe_str) (wa_cons (we_c pe_str) (wa_cons (we_c pe_str) wa_nil))))) (by with_unfolding_all rfl)))))),
    fun es P h => by
      obtain ⟨d, rfl, ok, hp⟩ := h
      cases d with
      | src _ => cases ok
      | fn _ => cases ok
      | exn _ _ _ => cases ok
      | sq _ _ => cases ok
      | str x => walk_at "red"; exact ⟨line_big (by omega), hp⟩
      | _ => walk_at "red"; exact hp⟩)
theorem ok_lfits_many (T : Txt K mg) : FnOk P w K mg base CX0 3 T.d_lfits_many.f T.d_lfits_many.fd ["_law_value"] (spD fun es P _ => (pure1 Good fun d => .bl (isOps d)) es P) :=
  fn_ok T.d_lfits_many.F sc_lfits_many (fun es P h => by first | exact pure1_len h | exact pure2_len h | exact pure3_len h | (obtain ⟨_, rfl, _⟩ := h; rfl) | (obtain ⟨_, _, rfl, _⟩ := h; rfl) | (obtain ⟨_, _, _, rfl, _⟩ := h; rfl) | (obtain ⟨_, _, _, _, rfl, _⟩ := h; rfl)) (fun cdv A outer s H E hr => ⟨_,
    (wss_one (ws_ret (we_and (we_isi (x1 := "tuple") tyIs_tuple rfl T.n_isinstance rfl T.n_tuple boot_tupleT (we_var (pv 0))) (we_and (we_cmp op_dLe (we_callB call_fLen rfl T.n_len boot_lenB (wa_cons (we_var (pv 0)) wa_nil)) (we_c pe_int) (nomark _)) (we_one (we_callB (call_fAll rfl) rfl T.n_all boot_allB (wa_cons (we_lc (i := 1) (x := "_law_one_here") rfl sc_lfits_many.nd (wi_tup (we_var (pv 0))) (blkOk_by (N := ["_law_value", "_law_one_here"]) (sc := defScope s_lfits_many) (by decide +kernel)) (fun _ _ _ _ _ => pg_name sc_lfits_many.nd rfl (Or.inl rfl)) (fun _ _ _ _ _ => (we_call (ok_lfits_operand T) (hr.mono (by decide)) rfl T.d_lfits_operand.m T.d_lfits_operand.F.kp T.d_lfits_operand.b (wa_cons (we_var (pv 1)) wa_nil)))) wa_nil))))))),
    fun es P h => by
      obtain ⟨d, rfl, ok, hp⟩ := h
      cases d with
      | tup ys =>
        have hl := ok.tup
        walk_at "red"
        simp only [isOps] at hp
        by_cases h2 : (ys.length : Int) ≤ 2
        · refine ifT (decide_eq_true h2) ⟨by rw [sizeLine_eq]; omega, wEach_pure (fun d => .bl (isOperand d)) (fun x hx P' hq => ⟨hl.2 x hx, hq⟩) ⟨_, bools_map isOperand _, ?_⟩⟩
          simpa [List.all_map, h2] using hp
        · exact ifF (decide_eq_false h2) (by simpa [h2] using hp)
      | src _ => cases ok
      | fn _ => cases ok
      | exn _ _ _ => cases ok
      | sq _ _ => cases ok
      | _ => walk_at "red"; exact hp⟩)
end
end K00

set_option maxHeartbeats 2000000
namespace K00
open PySem PySem.Spec PyProof.Rows L2 DL
local macro_rules | `(tactic| walk_at "red") => `(tactic| simp only [gCL, fLenQ, dIxQ, wNeK, wIndex, gTryRet, gTryDrop, wzCall, wzCallL, wTold, fIsE, fRepr, wJoin, wDGet, wVals, dPow, wSrc, gSrcSet, dMulS, dFdivS, fInt, fMax, fTuple, fList, startD, gNext, gSeq, gRet, gSet, gIf, gDrop, gRaise, gFor, wVar, wC, wOp, wTest, wChain, wAnd, wOr, wNot, wtAnd, wtOr, wtNot, wIf, waNil, waCons, wTup, wLst, wCall, quiet, wIsi, wInK, wLc, wiStr, wiTup, wiLst, wiRange, wSl, woNone, woSome, dSl, wNeg, dNeg, fLen, fAll, dEq, dNe, dLe, dLt, dGe, dGt, dAdd, dSub, dMod, dIx, dIn, dIsB, strsOf, boolsOf, DL.tyD_non, at_0, at_1, at_2, at_3, at_4, DL.isInt_non, DL.isStr_non, DL.isBl_non, DL.isTup_non, DL.isLst_non, DL.tyD_bl, DL.isInt_bl, DL.isStr_bl, DL.isBl_bl, DL.isTup_bl, DL.isLst_bl, DL.tyD_int, DL.isInt_int, DL.isStr_int, DL.isBl_int, DL.isTup_int, DL.isLst_int, DL.tyD_str, DL.isInt_str, DL.isStr_str, DL.isBl_str, DL.isTup_str, DL.isLst_str, DL.tyD_lst, DL.isInt_lst, DL.isStr_lst, DL.isBl_lst, DL.isTup_lst, DL.isLst_lst, DL.tyD_tup, DL.isInt_tup, DL.isStr_tup, DL.isBl_tup, DL.isTup_tup, DL.isLst_tup, pure1, pure2, pure3, Option.map_some,
  List.map_cons, List.map_nil, List.length_cons, List.length_nil, List.cons_append, List.nil_append, List.getElem?_cons_zero, List.getElem?_cons_succ, Option.some.injEq, exists_eq_left', exists_eq_left, exists_eq_right, exists_eq_right', D.bl.injEq, D.int.injEq, D.str.injEq, D.tup.injEq, D.lst.injEq, D.fn.injEq, D.sq.injEq, D.exn.injEq, List.cons.injEq, and_true, true_and, and_self, exists_and_left, exists_and_right, Option.isSome_some, List.set_cons_zero, List.set_cons_succ, if_true, Bool.false_eq_true, if_false, Bool.not_true, Bool.not_false, reduceCtorEq, List.replicate, Nat.reduceSub, Nat.reduceAdd])
section
variable {P : Program} {w : World} {K : PySem.W.Frag} {mg : Str → Option Value} {base : Heap}
theorem isRow_str (w' : Str) (r : List D) : isRow (.tup (.str w' :: r)) = (if w' = "set" then (match r with | [a, b, c, e] => isName a && isOp b && isOperand c && isOperand e | _ => false)
    else if w' = "call" then (match r with | [a, b, c] => isName a && isName b && isOps c | _ => false)
    else if w' = "copy" then (match r with | [a, b] => isName a && isOperand b | _ => false)
    else if w' = "if" then (match r with | [a, b] => isOperand a && isWithin b 0 11 | _ => false)
    else if w' = "go" then (match r with | [a] => isWithin a 0 11 | _ => false)
    else if w' = "get" then (match r with | [a] => isName a | _ => false)
    else (match r with | [a] => decide (w' ∈ (["back", "out"] : List Str)) && isOperand a | _ => false)) := by
  match r with
  | [] => simp only [isRow]; repeat' split
          all_goals rfl
  | [a] =>
    simp only [isRow, isRowT, isSetR, isCallR, isPairR]
    repeat' split
    all_goals rfl
  | [a, b] =>
    simp only [isRow, isRowT, isSetR, isCallR, isPairR]
    repeat' split
    all_goals rfl
  | [a, b, c] =>
    simp only [isRow, isRowT, isSetR, isCallR, isPairR]
    repeat' split
    all_goals rfl
  | [a, b, c, e] =>
    simp only [isRow, isRowT, isSetR, isCallR, isPairR]
    repeat' split
    all_goals rfl
  | a :: b :: c :: e :: f :: r =>
    simp only [isRow, isRowT, isSetR, isCallR, isPairR]
    repeat' split
    all_goals rfl
theorem isRow_nostr {y : D} (h : isStr y = false) (r : List D) : isRow (.tup (y :: r)) = false := by
  cases y with
  | str _ => rw [DL.isStr_str] at h; cases h
  | _ => rfl
theorem lenF {r : List D} {k : Nat} {Q : Prop} {R : Prop} (h : r.length ≠ k) (q : Q) : if decide ((r.length : Int) = (k : Int)) = true then R else Q := ifF (decide_eq_false (by omega)) q
theorem ok_lfits_row (T : Txt K mg) : FnOk P w K mg base CX0 4 T.d_lfits_row.f T.d_lfits_row.fd ["_law_value"] (spD fun es P _ => (pure1 Sm fun d => .bl (isRow d)) es P) :=
  fn_ok T.d_lfits_row.F sc_lfits_row (fun es P h => by first | exact pure1_len h | exact pure2_len h | exact pure3_len h | (obtain ⟨_, rfl, _⟩ := h; rfl) | (obtain ⟨_, _, rfl, _⟩ := h; rfl) | (obtain ⟨_, _, _, rfl, _⟩ := h; rfl) | (obtain ⟨_, _, _, _, rfl, _⟩ := h; rfl)) (fun cdv A outer s H E hr => ⟨_,
    (wss_cons (ws_if (PW.pt (ww_or (wt_not (wt_val (we_isi (x1 := "tuple") tyIs_tuple rfl T.n_isinstance rfl T.n_tuple boot_tupleT (we_var (pv 0))))) (ww_or (wt_cmp (op_dEq hr.units) (we_var (pv 0)) (we_tup wa_nil) (nomark _)) (pw_or1 (wt_not (wt_val (we_isi (x1 := "str") tyIs_str rfl T.n_isinstance rfl T.n_str boot_strT (we_ix (we_var (pv 0)) (we_c pe_int)))))))))
        (wss_one (ws_ret (we_c pe_bl)))
        wss_nil)
      (wss_cons (ws_set (i := 1) sc_lfits_row.nd rfl (by first | exact .inl rfl | exact .inr rfl) (we_sl (we_var (pv 0)) (wo_some (we_c pe_int)) wo_none))
      (wss_cons (ws_if (wt_cmp (op_dEq hr.units) (we_ix (we_var (pv 0)) (we_c pe_int)) (we_c pe_str) (nomark _))
        (wss_cons (ws_set (i := 2) sc_lfits_row.nd rfl (by first | exact .inl rfl | exact .inr rfl) (we_and (we_cmp (op_dEq hr.units) (we_callB call_fLen rfl T.n_len boot_lenB (wa_cons (we_var (pv 1)) wa_nil)) (we_c pe_int) (nomark _)) (we_and (we_call (ok_lfits_name T) (hr.mono (by decide)) rfl T.d_lfits_name.m T.d_lfits_name.F.kp T.d_lfits_name.b (wa_cons (we_ix (we_var (pv 1)) (we_c pe_int)) wa_nil)) (we_one (we_call (ok_lfits_op T) (hr.mono (by decide)) rfl T.d_lfits_op.m T.d_lfits_op.F.kp T.d_lfits_op.b (wa_cons (we_ix (we_var (pv 1)) (we_c pe_int)) wa_nil))))))
        (wss_one (ws_ret (we_and (we_var (pv 2)) (we_and (we_call (ok_lfits_operand T) (hr.mono (by decide)) rfl T.d_lfits_operand.m T.d_lfits_operand.F.kp T.d_lfits_operand.b (wa_cons (we_ix (we_var (pv 1)) (we_c pe_int)) wa_nil)) (we_one (we_call (ok_lfits_operand T) (hr.mono (by decide)) rfl T.d_lfits_operand.m T.d_lfits_operand.F.kp T.d_lfits_operand.b (wa_cons (we_ix (we_var (pv 1)) (we_c pe_int)) wa_nil))))))))
        wss_nil)
      (wss_cons (ws_if (wt_cmp (op_dEq hr.units) (we_ix (we_var (pv 0)) (we_c pe_int)) (we_c pe_str) (nomark _))
        (wss_one (ws_ret (we_and (we_cmp (op_dEq hr.units) (we_callB call_fLen rfl T.n_len boot_lenB (wa_cons (we_var (pv 1)) wa_nil)) (we_c pe_int) (nomark _)) (we_and (we_call (ok_lfits_name T) (hr.mono (by decide)) rfl T.d_lfits_name.m T.d_lfits_name.F.kp T.d_lfits_name.b (wa_cons (we_ix (we_var (pv 1)) (we_c pe_int)) wa_nil)) (we_and (we_call (ok_lfits_name T) (hr.mono (by decide)) rfl T.d_lfits_name.m T.d_lfits_name.F.kp T.d_lfits_name.b (wa_cons (we_ix (we_var (pv 1)) (we_c pe_int)) wa_nil)) (we_one (we_call (ok_lfits_many T) (hr.mono (by decide)) rfl T.d_lfits_many.m T.d_lfits_many.F.kp T.d_lfits_many.b (wa_cons (we_ix (we_var (pv 1)) (we_c pe_int)) wa_nil))))))))
        wss_nil)
      (wss_cons (ws_if (wt_cmp (op_dEq hr.units) (we_ix (we_var (pv 0)) (we_c pe_int)) (we_c pe_str) (nomark _))
        (wss_one (ws_ret (we_and (we_cmp (op_dEq hr.units) (we_callB call_fLen rfl T.n_len boot_lenB (wa_cons (we_var (pv 1)) wa_nil)) (we_c pe_int) (nomark _)) (we_and (we_call (ok_lfits_name T) (hr.mono (by decide)) rfl T.d_lfits_name.m T.d_lfits_name.F.kp T.d_lfits_name.b (wa_cons (we_ix (we_var (pv 1)) (we_c pe_int)) wa_nil)) (we_one (we_call (ok_lfits_operand T) (hr.mono (by decide)) rfl T.d_lfits_operand.m T.d_lfits_operand.F.kp T.d_lfits_operand.b (wa_cons (we_ix (we_var (pv 1)) (we_c pe_int)) wa_nil)))))))
        wss_nil)
      (wss_cons (ws_if (wt_cmp (op_dEq hr.units) (we_ix (we_var (pv 0)) (we_c pe_int)) (we_c pe_str) (nomark _))
        (wss_one (ws_ret (we_and (we_cmp (op_dEq hr.units) (we_callB call_fLen rfl T.n_len boot_lenB (wa_cons (we_var (pv 1)) wa_nil)) (we_c pe_int) (nomark _)) (we_and (we_call (ok_lfits_operand T) (hr.mono (by decide)) rfl T.d_lfits_operand.m T.d_lfits_operand.F.kp T.d_lfits_operand.b (wa_cons (we_ix (we_var (pv 1)) (we_c pe_int)) wa_nil)) (we_one (we_call (ok_lfits_number T) (hr.mono (by decide)) rfl T.d_lfits_number.m T.d_lfits_number.F.kp T.d_lfits_number.b (wa_cons (we_ix (we_var (pv 1)) (we_c pe_int)) (wa_cons (we_c pe_int) wa_nil))))))))
        wss_nil)
      (wss_cons (ws_if (wt_cmp (op_dEq hr.units) (we_ix (we_var (pv 0)) (we_c pe_int)) (we_c pe_str) (nomark _))
        (wss_one (ws_ret (we_and (we_cmp (op_dEq hr.units) (we_callB call_fLen rfl T.n_len boot_lenB (wa_cons (we_var (pv 1)) wa_nil)) (we_c pe_int) (nomark _)) (we_one (we_call (ok_lfits_number T) (hr.mono (by decide)) rfl T.d_lfits_number.m T.d_lfits_number.F.kp T.d_lfits_number.b (wa_cons (we_ix (we_var (pv 1)) (we_c pe_int)) (wa_cons (we_c pe_int) wa_nil)))))))
        wss_nil)
      (wss_cons (ws_if (wt_cmp (op_dEq hr.units) (we_ix (we_var (pv 0)) (we_c pe_int)) (we_c pe_str) (nomark _))
        (wss_one (ws_ret (we_and (we_cmp (op_dEq hr.units) (we_callB call_fLen rfl T.n_len boot_lenB (wa_cons (we_var (pv 1)) wa_nil)) (we_c pe_int) (nomark _)) (we_one (we_call (ok_lfits_name T) (hr.mono (by decide)) rfl T.d_lfits_name.m T.d_lfits_name.F.kp T.d_lfits_name.b (wa_cons (we_ix (we_var (pv 1)) (we_c pe_int)) wa_nil))))))
        wss_nil)
      (wss_one (ws_ret (we_and (we_cmp op_dIn (we_ix (we_var (pv 0)) (we_c pe_int)) (we_lst (wa_cons (we_c pe_str) (wa_cons (we_c pe_str) wa_nil))) (by with_unfolding_all rfl)) (we_and (we_cmp (op_dEq hr.units) (we_callB call_fLen rfl T.n_len boot_lenB (wa_cons (we_var (pv 1)) wa_nil)) (we_c pe_int) (nomark _)) (we_one (we_call (ok_lfits_operand T) (hr.mono (by decide)) rfl T.d_lfits_operand.m T.d_lfits_operand.F.kp T.d_lfits_operand.b (wa_cons (we_ix (we_var (pv 1)) (we_c pe_int)) wa_nil))))))))))))))),
    fun es P h => by
      obtain ⟨d, rfl, ok, hp⟩ := h
      match d, ok, hp with
      | .tup (y :: r), ok, hp =>
        have hg := ok.good
        have g := hg.tup.2
        have gy := g y List.mem_cons_self
        have q : okEq (.tup (y :: r)) := ok.okEq
        have q1 : okEq (.tup []) := ⟨rfl, by decide⟩
        have q0 : eqD (.tup (y :: r)) (.tup []) = false := rfl
        cases hs : isStr y with
        | false =>
          walk_at "red"
          refine ⟨Nat.zero_le _, q, q1, ifF q0 ⟨gy.ty, ifT (by rw [hs]; rfl) ?_⟩⟩
          simpa only [isRow_nostr hs] using hp
        | true =>
          cases y with
          | str w' =>
            walk_at "red"
            simp only [cut_1, q0]
            refine ⟨Nat.zero_le _, q, q1, ifF rfl ?_⟩
            simp only [isRow_str] at hp
            have g1 := fun x hx => g x (List.mem_cons_of_mem _ hx)
            by_cases e1 : w' = "set"
            · refine ifT (decide_eq_true e1) ?_
              rw [if_pos e1] at hp
              by_cases hl : r.length = 4
              · match r, hl, g1, hp with
                | [a, b, c, e], _, g1, hp =>
                  simp only [List.mem_cons, List.not_mem_nil, or_false, forall_eq_or_imp, forall_eq] at g1
                  obtain ⟨ga, gb, gc, ge⟩ := g1
                  refine ifT rfl ⟨_, at_0, ga, ?_⟩
                  cases h2 : isName a
                  · simpa [h2] using hp
                  refine ifT rfl ⟨_, at_1, gb, ?_⟩
                  cases h3 : isOp b
                  · simpa [h2, h3] using hp
                  refine ifT rfl ⟨_, at_2, gc, ?_⟩
                  cases h4 : isOperand c
                  · simpa [h2, h3, h4] using hp
                  exact ifT rfl ⟨_, at_3, ge, by simpa [h2, h3, h4] using hp⟩
              · refine lenF (k := 4) hl ?_
                split at hp
                · exact absurd rfl hl
                · exact hp
            refine ifF (decide_eq_false e1) ?_
            rw [if_neg e1] at hp
            by_cases e1 : w' = "call"
            · refine ifT (decide_eq_true e1) ?_
              rw [if_pos e1] at hp
              by_cases hl : r.length = 3
              · match r, hl, g1, hp with
                | [a, b, c], _, g1, hp =>
                  simp only [List.mem_cons, List.not_mem_nil, or_false, forall_eq_or_imp, forall_eq] at g1
                  obtain ⟨ga, gb, gc⟩ := g1
                  refine ifT rfl ⟨_, at_0, ga, ?_⟩
                  cases h2 : isName a
                  · simpa [h2] using hp
                  refine ifT rfl ⟨_, at_1, gb, ?_⟩
                  cases h3 : isName b
                  · simpa [h2, h3] using hp
                  exact ifT rfl ⟨_, at_2, gc, by simpa [h2, h3] using hp⟩
              · refine lenF (k := 3) hl ?_
                split at hp
                · exact absurd rfl hl
                · exact hp
            refine ifF (decide_eq_false e1) ?_
            rw [if_neg e1] at hp
            by_cases e1 : w' = "copy"
            · refine ifT (decide_eq_true e1) ?_
              rw [if_pos e1] at hp
              by_cases hl : r.length = 2
              · match r, hl, g1, hp with
                | [a, b], _, g1, hp =>
                  simp only [List.mem_cons, List.not_mem_nil, or_false, forall_eq_or_imp, forall_eq] at g1
                  obtain ⟨ga, gb⟩ := g1
                  refine ifT rfl ⟨_, at_0, ga, ?_⟩
                  cases h2 : isName a
                  · simpa [h2] using hp
                  exact ifT rfl ⟨_, at_1, gb, by simpa [h2] using hp⟩
              · refine lenF (k := 2) hl ?_
                split at hp
                · exact absurd rfl hl
                · exact hp
            refine ifF (decide_eq_false e1) ?_
            rw [if_neg e1] at hp
            by_cases e1 : w' = "if"
            · refine ifT (decide_eq_true e1) ?_
              rw [if_pos e1] at hp
              by_cases hl : r.length = 2
              · match r, hl, g1, hp with
                | [a, b], _, g1, hp =>
                  simp only [List.mem_cons, List.not_mem_nil, or_false, forall_eq_or_imp, forall_eq] at g1
                  obtain ⟨ga, gb⟩ := g1
                  refine ifT rfl ⟨_, at_0, ga, ?_⟩
                  cases h2 : isOperand a
                  · simpa [h2] using hp
                  exact ifT rfl ⟨_, at_1, _, _, ⟨rfl, rfl⟩, gb, by simpa [h2] using hp⟩
              · refine lenF (k := 2) hl ?_
                split at hp
                · exact absurd rfl hl
                · exact hp
            refine ifF (decide_eq_false e1) ?_
            rw [if_neg e1] at hp
            by_cases hl : r.length = 1
            · match r, hl, g1, hp with
              | [a], _, g1, hp =>
                have ga := g1 a List.mem_cons_self
                by_cases e1 : w' = "go"
                · rw [if_pos e1] at hp
                  exact ifT (decide_eq_true e1) (ifT rfl ⟨_, at_0, _, _, ⟨rfl, rfl⟩, ga, hp⟩)
                rw [if_neg e1] at hp
                refine ifF (decide_eq_false e1) ?_
                by_cases e1 : w' = "get"
                · rw [if_pos e1] at hp
                  exact ifT (decide_eq_true e1) (ifT rfl ⟨_, at_0, ga, hp⟩)
                rw [if_neg e1] at hp
                refine ifF (decide_eq_false e1) ⟨line_big (by omega), ?_⟩
                by_cases e1 : w' ∈ (["back", "out"] : List Str)
                · exact ifT (decide_eq_true e1) (ifT rfl ⟨_, at_0, ga, by simpa only [e1, decide_true, Bool.true_and] using hp⟩)
                · exact ifF (decide_eq_false e1) (by simpa only [e1, decide_false, Bool.false_and] using hp)
            · have hq : P (.bl false) := by
                repeat' split at hp
                all_goals first | exact hp | exact absurd rfl hl
              by_cases e1 : w' = "go"
              · exact ifT (decide_eq_true e1) (lenF (k := 1) hl hq)
              refine ifF (decide_eq_false e1) ?_
              by_cases e1 : w' = "get"
              · exact ifT (decide_eq_true e1) (lenF (k := 1) hl hq)
              refine ifF (decide_eq_false e1) ⟨line_big (by omega), ?_⟩
              by_cases e1 : w' ∈ (["back", "out"] : List Str)
              · exact ifT (decide_eq_true e1) (lenF (k := 1) hl hq)
              · exact ifF (decide_eq_false e1) hq
          | _ => cases hs
      | .tup [], ok, hp =>
        have q1 : okEq (.tup []) := ⟨rfl, by decide⟩
        have q0 : eqD (.tup []) (.tup []) = true := rfl
        walk_at "red"
        exact ⟨Nat.zero_le _, q1, q1, ifT q0 hp⟩
      | .src _, ok, hp => cases ok
      | .fn _, ok, hp => cases ok
      | .exn _ _ _, ok, hp => cases ok
      | .sq _ _, ok, hp => cases ok
      | .non, ok, hp => walk_at "red"; exact hp
      | .bl _, ok, hp => walk_at "red"; exact hp
      | .int _, ok, hp => walk_at "red"; exact hp
      | .str _, ok, hp => walk_at "red"; exact hp
      | .lst _, ok, hp => walk_at "red"; exact hp⟩)
end
end K00

set_option maxHeartbeats 2000000
namespace K00
open PySem PySem.Spec PyProof.Rows L2 DL
local macro_rules | `(tactic| walk_at "red") => `(tactic| simp only [gCL, fLenQ, dIxQ, wNeK, wIndex, gTryRet, gTryDrop, wzCall, wzCallL, wTold, fIsE, fRepr, wJoin, wDGet, wVals, dPow, wSrc, gSrcSet, dMulS, dFdivS, fInt, fMax, fTuple, fList, startD, gNext, gSeq, gRet, gSet, gIf, gDrop, gRaise, gFor, wVar, wC, wOp, wTest, wChain, wAnd, wOr, wNot, wtAnd, wtOr, wtNot, wIf, waNil, waCons, wTup, wLst, wCall, quiet, wIsi, wInK, wLc, wiStr, wiTup, wiLst, wiRange, wSl, woNone, woSome, dSl, wNeg, dNeg, fLen, fAll, dEq, dNe, dLe, dLt, dGe, dGt, dAdd, dSub, dMod, dIx, dIn, dIsB, strsOf, boolsOf, DL.tyD_non, at_0, at_1, at_2, at_3, at_4, DL.isInt_non, DL.isStr_non, DL.isBl_non, DL.isTup_non, DL.isLst_non, DL.tyD_bl, DL.isInt_bl, DL.isStr_bl, DL.isBl_bl, DL.isTup_bl, DL.isLst_bl, DL.tyD_int, DL.isInt_int, DL.isStr_int, DL.isBl_int, DL.isTup_int, DL.isLst_int, DL.tyD_str, DL.isInt_str, DL.isStr_str, DL.isBl_str, DL.isTup_str, DL.isLst_str, DL.tyD_lst, DL.isInt_lst, DL.isStr_lst, DL.isBl_lst, DL.isTup_lst, DL.isLst_lst, DL.tyD_tup, DL.isInt_tup, DL.isStr_tup, DL.isBl_tup, DL.isTup_tup, DL.isLst_tup, pure1, pure2, pure3, Option.map_some,
  List.map_cons, List.map_nil, List.length_cons, List.length_nil, List.cons_append, List.nil_append, List.getElem?_cons_zero, List.getElem?_cons_succ, Option.some.injEq, exists_eq_left', exists_eq_left, exists_eq_right, exists_eq_right', D.bl.injEq, D.int.injEq, D.str.injEq, D.tup.injEq, D.lst.injEq, D.fn.injEq, D.sq.injEq, D.exn.injEq, List.cons.injEq, and_true, true_and, and_self, exists_and_left, exists_and_right, Option.isSome_some, List.set_cons_zero, List.set_cons_succ, if_true, Bool.false_eq_true, if_false, Bool.not_true, Bool.not_false, reduceCtorEq, List.replicate, Nat.reduceSub, Nat.reduceAdd])
section
variable {P : Program} {w : World} {K : PySem.W.Frag} {mg : Str → Option Value} {base : Heap}
theorem cut_12 (a x : D) (r : List D) : DL.cutD (a :: x :: r) (some 1) (some 2) = [x] := by
  unfold DL.cutD
  rw [show (1 : Int) = ((1 : Nat) : Int) from rfl, show (2 : Int) = ((2 : Nat) : Int) from rfl, HT.sIx_nat, HT.sIx_nat]
  rw [Nat.min_eq_left (by simp only [List.length_cons]; omega), Nat.min_eq_left (by simp only [List.length_cons]; omega)]
  rfl
theorem cut_2 (a x : D) (r : List D) : DL.cutD (a :: x :: r) (some 2) none = r := cut_drop (a :: x :: r) 2
theorem cut_3 (a x : D) (r : List D) : DL.cutD (a :: x :: r) (some 3) none = r.drop 1 := by
  rw [show DL.cutD (a :: x :: r) (some 3) none = (a :: x :: r).drop 3 from cut_drop (a :: x :: r) 3]
  rfl
theorem ok_lread (T : Txt K mg) : FnOk P w K mg base CX0 1 T.d_lread.f T.d_lread.fd ["_law_row"] (spD fun es P _ => (fun es P => ∃ d, es = [d] ∧ isRow d = true ∧ Good d ∧ P (opsOf d)) es P) :=
  fn_ok T.d_lread.F sc_lread (fun es P h => by first | exact pure1_len h | exact pure2_len h | exact pure3_len h | (obtain ⟨_, rfl, _⟩ := h; rfl) | (obtain ⟨_, _, rfl, _⟩ := h; rfl) | (obtain ⟨_, _, _, rfl, _⟩ := h; rfl) | (obtain ⟨_, _, _, _, rfl, _⟩ := h; rfl)) (fun cdv A outer s H E hr => ⟨_,
    (wss_cons (ws_if (wt_cmp (op_dEq hr.units) (we_ix (we_var (pv 0)) (we_c pe_int)) (we_c pe_str) (nomark _))
        (wss_one (ws_ret (we_ix (we_var (pv 0)) (we_c pe_int))))
        wss_nil)
      (wss_one (ws_ret (we_dget (ks := ["set", "copy", "if", "back", "out"]) (Ws := [_, _, _, _, _]) (hu_of hr) (pps_cons pe_str (we_sl (we_var (pv 0)) (wo_some (we_c pe_int)) wo_none) (pps_cons pe_str (we_sl (we_var (pv 0)) (wo_some (we_c pe_int)) wo_none) (pps_cons pe_str (we_sl (we_var (pv 0)) (wo_some (we_c pe_int)) (wo_some (we_c pe_int))) (pps_cons pe_str (we_sl (we_var (pv 0)) (wo_some (we_c pe_int)) wo_none) (pps_cons pe_str (we_sl (we_var (pv 0)) (wo_some (we_c pe_int)) wo_none) pps_nil))))) rfl rfl (by decide) rfl rfl (by intro z; cases z) (by decide) (we_ix (we_var (pv 0)) (we_c pe_int)) (we_tup wa_nil) ⟨rfl, rfl, rfl, rfl⟩)))),
    fun es P h => by
      obtain ⟨d, rfl, hr, ok, hp⟩ := h
      obtain ⟨w', x, r, rfl⟩ := isRow_tup hr
      walk_at "red"
      simp only [opsOf] at hp
      simp only [isRow, isRowT] at hr
      simp only [cut_12, cut_1, cut_2, cut_3]
      by_cases e2 : w' = "call"
      · refine ifT (decide_eq_true e2) ?_
        have n1 : ¬ w' = "set" := by rw [e2]; decide
        have n2 : ¬ w' = "copy" := by rw [e2]; decide
        rw [if_neg n1, if_neg n2, if_pos e2] at hp
        rw [if_neg n1, if_pos e2] at hr
        match r, hr, hp with
        | [b, c], _, hp => exact ⟨c, at_3, hp⟩
        | [], h, _ => cases h
        | [_], h, _ => cases h
        | _ :: _ :: _ :: _, h, _ => cases h
      refine ifF (decide_eq_false e2) ⟨Nat.zero_le _, ?_⟩
      rw [if_neg e2] at hr
      by_cases e1 : w' = "set"
      · rw [if_pos e1] at hp
        subst e1
        exact hp
      rw [if_neg e1] at hp hr
      by_cases e3 : w' = "copy"
      · rw [if_pos e3] at hp
        subst e3
        exact hp
      rw [if_neg e3, if_neg e2] at hp
      rw [if_neg e3] at hr
      by_cases e4 : w' = "if"
      · subst e4
        exact hp
      rw [if_neg e4] at hr
      match r, hr, hp with
      | [], hr, hp =>
        by_cases e5 : w' = "back"
        · subst e5
          exact hp
        by_cases e6 : w' = "out"
        · subst e6
          exact hp
        simp only [List.mem_cons, e4, e5, e6, List.not_mem_nil, or_false, if_false] at hp
        simpa only [assocD, e1, e3, e4, e5, e6, if_false, Option.getD_none] using hp
      | _ :: _, h, _ => cases h⟩)
theorem strangeOk : ([D.non, D.bl true, D.bl false, D.int (-1), D.int 9973, D.int 12, D.int 11, D.int 0,
  D.str (Str.ofString ""), D.str (Str.ofString "abcde"), D.str (Str.ofString "abcd"), D.str (Str.ofString "A"), D.str (Str.ofString "a1"), D.str (Str.ofString "x y"),
  D.tup [], D.lst [], D.tup [D.str (Str.ofString "x")], D.int (10 ^ Int.toNat 30), D.str (Str.ofString "add"), D.str (Str.ofString "less"), D.str (Str.ofString "set"),
  D.tup [D.str (Str.ofString "x"), D.int 3], D.tup [D.str (Str.ofString "x"), D.str (Str.ofString "y"), D.str (Str.ofString "z")],
  D.lst [D.str (Str.ofString "x")], D.tup [D.bl true], D.int 9972] : List D).all (gs 1) = true := by decide +kernel
theorem ok_lstrange (T : Txt K mg) : FnOk P w K mg base CX0 3 T.d_lstrange.f T.d_lstrange.fd ["_law_source"] (spD fun es P _ => (fun es P => ∃ p, es = [.src p] ∧ ∀ d, gs 1 d = true → P d) es P) :=
  fn_ok T.d_lstrange.F sc_lstrange (fun es P h => by first | exact pure1_len h | exact pure2_len h | exact pure3_len h | (obtain ⟨_, rfl, _⟩ := h; rfl) | (obtain ⟨_, _, rfl, _⟩ := h; rfl) | (obtain ⟨_, _, _, rfl, _⟩ := h; rfl) | (obtain ⟨_, _, _, _, rfl, _⟩ := h; rfl)) (fun cdv A outer s H E hr => ⟨_,
    (wss_cons (ws_set (i := 1) sc_lstrange.nd rfl (by first | exact .inl rfl | exact .inr rfl) (we_lst (wa_cons (we_c pe_non) (wa_cons (we_c pe_bl) (wa_cons (we_c pe_bl) (wa_cons (we_neg (we_c pe_int)) (wa_cons (we_c pe_int) (wa_cons (we_c pe_int) (wa_cons (we_c pe_int) (wa_cons (we_c pe_int) (wa_cons (we_c pe_str) (wa_cons (we_c pe_str) (wa_cons (we_c pe_str) (wa_cons (we_c pe_str) (wa_cons (we_c pe_str) (wa_cons (we_c pe_str) (wa_cons (we_tup wa_nil) (wa_cons (we_lst wa_nil) (wa_cons (we_tup (wa_cons (we_c pe_str) wa_nil)) (wa_cons (we_op op_dPow (we_c pe_int) (we_c pe_int)) wa_nil))))))))))))))))))))
      (wss_one (ws_ret (we_call (ok_lone T) (hr.mono (by decide)) rfl T.d_lone.m T.d_lone.F.kp T.d_lone.b (wa_cons (we_var (pv 0)) (wa_cons (we_op op_dAdd (we_var (pv 1)) (we_lst (wa_cons (we_c pe_str) (wa_cons (we_c pe_str) (wa_cons (we_c pe_str) (wa_cons (we_tup (wa_cons (we_c pe_str) (wa_cons (we_c pe_int) wa_nil))) (wa_cons (we_tup (wa_cons (we_c pe_str) (wa_cons (we_c pe_str) (wa_cons (we_c pe_str) wa_nil)))) (wa_cons (we_lst (wa_cons (we_c pe_str) wa_nil)) (wa_cons (we_tup (wa_cons (we_c pe_bl) wa_nil)) (wa_cons (we_c pe_int) wa_nil)))))))))) wa_nil)))))),
    fun es P h => by
      obtain ⟨p, rfl, hp⟩ := h
      walk_at "red"
      exact ⟨line_big (by omega), line_big (by omega), line_big (by omega), ⟨by decide, by decide, by decide⟩, line_big (by omega), line_big (by omega), line_big (by omega), line_big (by omega), line_big (by omega), line_big (by omega), line_big (by omega), p, _, rfl, by simp, by simp only [List.length_cons, List.length_nil]; omega, fun d hd => hp d (List.all_eq_true.mp strangeOk d hd)⟩⟩)
theorem fold_ones : ∀ (cs : List Nat) (a : Array Nat), ((cs.map fun c => (⟨#[c]⟩ : Str)).foldl (fun (acc : Array Nat) (p : Str) => acc ++ (Str.ofString "").cps ++ p.cps) a).toList = a.toList ++ cs
  | [], a => by simp
  | c :: cs, a => by
    show ((cs.map fun c => (⟨#[c]⟩ : Str)).foldl _ (a ++ (Str.ofString "").cps ++ #[c])).toList = _
    rw [fold_ones cs]
    have e : (Str.ofString "").cps = #[] := by decide
    rw [e]
    simp
theorem join_ones (cs : List Nat) : PySem.Txt.join (Str.ofString "") (cs.map fun c => (⟨#[c]⟩ : Str)) = ⟨cs.toArray⟩ := by
  unfold PySem.Txt.join PySem.Builtin.Str.glued
  congr 1
  apply Array.toList_inj.mp
  cases cs with
  | nil => rfl
  | cons c cs =>
    simp only [List.map_cons, List.drop_succ_cons, List.drop_zero, List.headD_cons]
    rw [fold_ones]
    simp
def lowD : D → Prop := fun d => ∃ c, low c = true ∧ d = .str ⟨#[c]⟩
theorem lows : ∀ ys : List D, (∀ y ∈ ys, lowD y) → ∃ cs : List Nat, cs.length = ys.length ∧ (∀ c ∈ cs, low c = true) ∧ strsOf ys = some (cs.map fun c => (⟨#[c]⟩ : Str))
  | [], _ => ⟨[], rfl, by simp, rfl⟩
  | y :: ys, h => by
    obtain ⟨c, hc, rfl⟩ := h y List.mem_cons_self
    obtain ⟨cs, h1, h2, h3⟩ := lows ys fun z hz => h z (List.mem_cons_of_mem _ hz)
    refine ⟨c :: cs, by simp [h1], fun z hz => ?_, by simp [strsOf, h3]⟩
    rcases List.mem_cons.mp hz with e | e
    · rw [e]
      exact hc
    · exact h2 z e
theorem name_of_lows {cs : List Nat} (h0 : 1 ≤ cs.length) (h1 : cs.length ≤ 4) (h2 : ∀ c ∈ cs, low c = true) : isName (.str ⟨cs.toArray⟩) = true := by
  have e : (⟨cs.toArray⟩ : Str).length = cs.length := rfl
  simp only [isName, Bool.and_eq_true, decide_eq_true_eq, List.all_eq_true, e]
  exact ⟨⟨h0, h1⟩, h2⟩
theorem sum_ones : ∀ cs : List Nat, ((cs.map fun c => (⟨#[c]⟩ : Str)).map (·.length)).sum = cs.length
  | [] => rfl
  | c :: cs => by
    have e : (⟨#[c]⟩ : Str).length = 1 := rfl
    simp only [List.map_cons, List.sum_cons, List.length_cons, sum_ones cs, e]
    omega
theorem ok_lword_of (T : Txt K mg) : FnOk P w K mg base CX0 2 T.d_lword_of.f T.d_lword_of.fd ["_law_source"] (spD fun es P _ => (fun es P => ∃ p, es = [.src p] ∧ ∀ x, isName (.str x) = true → P (.str x)) es P) :=
  fn_ok T.d_lword_of.F sc_lword_of (fun es P h => by first | exact pure1_len h | exact pure2_len h | exact pure3_len h | (obtain ⟨_, rfl, _⟩ := h; rfl) | (obtain ⟨_, _, rfl, _⟩ := h; rfl) | (obtain ⟨_, _, _, rfl, _⟩ := h; rfl) | (obtain ⟨_, _, _, _, rfl, _⟩ := h; rfl)) (fun cdv A outer s H E hr => ⟨_,
    (wss_cons (ws_set (i := 1) sc_lword_of.nd rfl (by first | exact .inl rfl | exact .inr rfl) (we_c pe_str))
      (wss_one (ws_ret (we_join (we_lc (i := 2) (x := "_law_k") rfl sc_lword_of.nd (wi_range rfl T.n_range (we_op op_dAdd (we_c pe_int) (we_call (ok_ltake T) (hr.mono (by decide)) rfl T.d_ltake.m T.d_ltake.F.kp T.d_ltake.b (wa_cons (we_var (pv 0)) (wa_cons (we_c pe_int) wa_nil))))) (blkOk_by (N := ["_law_source", "_law_signs", "_law_k"]) (sc := defScope s_lword_of) (by decide +kernel)) (fun _ _ _ _ _ => pg_name sc_lword_of.nd rfl (Or.inl rfl)) (fun _ _ _ _ _ => (we_ix (we_var (pv 1)) (we_call (ok_ltake T) (hr.mono (by decide)) rfl T.d_ltake.m T.d_ltake.F.kp T.d_ltake.b (wa_cons (we_var (pv 0)) (wa_cons (we_c pe_int) wa_nil)))))))))),
    fun es P h => by
      obtain ⟨p, rfl, hp⟩ := h
      walk_at "red"
      refine ⟨p, 4, rfl, by decide, by decide, fun r r0 r1 => ⟨by omega, by omega, by rw [intsD_len]; exact Nat.lt_of_lt_of_le (show (1 + r).toNat < 100000 by omega) (line_big (Nat.le_refl _)), wEach_any (Y := lowD) (fun x _ P' hP => ?_) fun ys hl hy => ?_⟩⟩
      · refine ⟨p, 26, rfl, by decide, by decide, fun i i0 i1 => ?_⟩
        obtain ⟨c, hc, m⟩ := at_some (xs := (Str.ofString "abcdefghijklmnopqrstuvwxyz").cps.toList) i0 (by rw [show (Str.ofString "abcdefghijklmnopqrstuvwxyz").cps.toList.length = 26 from by decide]; exact i1)
        exact ⟨line_big (by decide), c, hc, hP _ ⟨c, by rw [← abc_low]; exact decide_eq_true m, rfl⟩⟩
      · rw [intsD_len] at hl
        obtain ⟨cs, h1, h2, h3⟩ := lows ys hy
        have e0 : (Str.ofString "").length = 0 := by decide
        refine ⟨_, h3, by rw [sum_ones, e0]; omega, ?_⟩
        rw [join_ones]
        exact hp _ (name_of_lows (by omega) (by omega) h2)⟩)
end
end K00

set_option maxHeartbeats 2000000
namespace K00
open PySem PySem.Spec PyProof.Rows L2 DL
local macro_rules | `(tactic| walk_at "red") => `(tactic| simp only [gCL, fLenQ, dIxQ, wNeK, wIndex, gTryRet, gTryDrop, wzCall, wzCallL, wTold, fIsE, fRepr, wJoin, wDGet, wVals, dPow, wSrc, gSrcSet, dMulS, dFdivS, fInt, fMax, fTuple, fList, startD, gNext, gSeq, gRet, gSet, gIf, gDrop, gRaise, gFor, wVar, wC, wOp, wTest, wChain, wAnd, wOr, wNot, wtAnd, wtOr, wtNot, wIf, waNil, waCons, wTup, wLst, wCall, quiet, wIsi, wInK, wLc, wiStr, wiTup, wiLst, wiRange, wSl, woNone, woSome, dSl, wNeg, dNeg, fLen, fAll, dEq, dNe, dLe, dLt, dGe, dGt, dAdd, dSub, dMod, dIx, dIn, dIsB, strsOf, boolsOf, DL.tyD_non, at_0, at_1, at_2, at_3, at_4, DL.isInt_non, DL.isStr_non, DL.isBl_non, DL.isTup_non, DL.isLst_non, DL.tyD_bl, DL.isInt_bl, DL.isStr_bl, DL.isBl_bl, DL.isTup_bl, DL.isLst_bl, DL.tyD_int, DL.isInt_int, DL.isStr_int, DL.isBl_int, DL.isTup_int, DL.isLst_int, DL.tyD_str, DL.isInt_str, DL.isStr_str, DL.isBl_str, DL.isTup_str, DL.isLst_str, DL.tyD_lst, DL.isInt_lst, DL.isStr_lst, DL.isBl_lst, DL.isTup_lst, DL.isLst_lst, DL.tyD_tup, DL.isInt_tup, DL.isStr_tup, DL.isBl_tup, DL.isTup_tup, DL.isLst_tup, pure1, pure2, pure3, Option.map_some,
  List.map_cons, List.map_nil, List.length_cons, List.length_nil, List.cons_append, List.nil_append, List.getElem?_cons_zero, List.getElem?_cons_succ, Option.some.injEq, exists_eq_left', exists_eq_left, exists_eq_right, exists_eq_right', D.bl.injEq, D.int.injEq, D.str.injEq, D.tup.injEq, D.lst.injEq, D.fn.injEq, D.sq.injEq, D.exn.injEq, List.cons.injEq, and_true, true_and, and_self, exists_and_left, exists_and_right, Option.isSome_some, List.set_cons_zero, List.set_cons_succ, if_true, Bool.false_eq_true, if_false, Bool.not_true, Bool.not_false, reduceCtorEq, List.replicate, Nat.reduceSub, Nat.reduceAdd])
section
variable {P : Program} {w : World} {K : PySem.W.Frag} {mg : Str → Option Value} {base : Heap}
theorem log2_small {n : Nat} (h : n < 100000) : n.log2 < 200 := by
  by_cases z : n = 0
  · rw [z]; decide
  · rw [Nat.log2_lt z]
    exact Nat.lt_of_lt_of_le h (by decide)
theorem isOperand_gs {d : D} (h : isOperand d = true) : gs 0 d = true := by
  cases d with
  | int i =>
    simp only [isOperand, isWithin, isName, Bool.or_eq_true, Bool.and_eq_true, decide_eq_true_eq, Bool.false_eq_true, or_false] at h
    exact decide_eq_true (log2_small (by omega))
  | str x =>
    simp only [isOperand, isWithin, isName, Bool.or_eq_true, Bool.and_eq_true, decide_eq_true_eq, Bool.false_eq_true, false_or] at h
    simp only [gs, Bool.and_eq_true, decide_eq_true_eq]
    refine ⟨by omega, ?_⟩
    unfold PyData.strOk
    rw [Array.all_eq_true']
    intro c hc
    have := List.all_eq_true.mp h.2 c (by simpa using hc)
    simp only [low, Bool.and_eq_true, decide_eq_true_eq] at this ⊢
    omega
  | _ => cases h
theorem isOperand_name {x : Str} (h : isName (.str x) = true) : isOperand (.str x) = true := by
  unfold isOperand
  rw [h]
  exact Bool.or_true _
theorem isOperand_int {r : Int} (h0 : 0 ≤ r) (h1 : r < 9973) : isOperand (.int r) = true := by
  simp only [isOperand, isWithin, isName, Bool.or_false, Bool.and_eq_true, decide_eq_true_eq]
  omega
theorem ok_lsome_operand (T : Txt K mg) : FnOk P w K mg base CX0 3 T.d_lsome_operand.f T.d_lsome_operand.fd ["_law_source"] (spD fun es P _ => (fun es P => ∃ p, es = [.src p] ∧ ∀ d, isOperand d = true → P d) es P) :=
  fn_ok T.d_lsome_operand.F sc_lsome_operand (fun es P h => by first | exact pure1_len h | exact pure2_len h | exact pure3_len h | (obtain ⟨_, rfl, _⟩ := h; rfl) | (obtain ⟨_, _, rfl, _⟩ := h; rfl) | (obtain ⟨_, _, _, rfl, _⟩ := h; rfl) | (obtain ⟨_, _, _, _, rfl, _⟩ := h; rfl)) (fun cdv A outer s H E hr => ⟨_,
    (wss_cons (ws_if (wt_cmp (op_dEq hr.units) (we_call (ok_ltake T) (hr.mono (by decide)) rfl T.d_ltake.m T.d_ltake.F.kp T.d_ltake.b (wa_cons (we_var (pv 0)) (wa_cons (we_c pe_int) wa_nil))) (we_c pe_int) (nomark _))
        (wss_one (ws_ret (we_call (ok_lword_of T) (hr.mono (by decide)) rfl T.d_lword_of.m T.d_lword_of.F.kp T.d_lword_of.b (wa_cons (we_var (pv 0)) wa_nil))))
        wss_nil)
      (wss_one (ws_ret (we_call (ok_lone T) (hr.mono (by decide)) rfl T.d_lone.m T.d_lone.F.kp T.d_lone.b (wa_cons (we_var (pv 0)) (wa_cons (we_lst (wa_cons (we_c pe_int) (wa_cons (we_c pe_int) (wa_cons (we_c pe_int) (wa_cons (we_c pe_int) (wa_cons (we_call (ok_ltake T) (hr.mono (by decide)) rfl T.d_ltake.m T.d_ltake.F.kp T.d_ltake.b (wa_cons (we_var (pv 0)) (wa_cons (we_c pe_int) wa_nil))) wa_nil)))))) wa_nil)))))),
    fun es P h => by
      obtain ⟨p, rfl, hp⟩ := h
      walk_at "red"
      refine ⟨p, 2, rfl, by decide, by decide, fun r r0 r1 => ?_⟩
      by_cases e : r = 0
      · exact ifT (c := decide (r = 0)) (decide_eq_true e) ⟨⟨p, rfl⟩, fun x hx => hp _ (isOperand_name hx)⟩
      · refine ifF (c := decide (r = 0)) (decide_eq_false e) ⟨p, 9973, rfl, by decide, by decide, fun j j0 j1 => ⟨line_big (by omega), p, _, rfl, by simp, by simp only [List.length_cons, List.length_nil]; omega, fun d hd => hp d ?_⟩⟩
        simp only [List.mem_cons, List.not_mem_nil, or_false] at hd
        rcases hd with rfl | rfl | rfl | rfl | rfl
        · decide
        · decide
        · decide
        · decide
        · exact isOperand_int j0 j1⟩)
def SmRow (xs : List D) : Prop := 1 ≤ xs.length ∧ xs.length ≤ 6 ∧ ∀ x ∈ xs, gs 1 x = true
theorem gs_int {r : Int} (h0 : 0 ≤ r) (h1 : r < 9973) : gs 0 (.int r) = true := isOperand_gs (isOperand_int h0 h1)
theorem ok_lright_row (T : Txt K mg) : FnOk P w K mg base CX0 4 T.d_lright_row.f T.d_lright_row.fd ["_law_source"] (spD fun es P _ => (fun es P => ∃ p, es = [.src p] ∧ ∀ xs, SmRow xs → P (.tup xs)) es P) :=
  fn_ok T.d_lright_row.F sc_lright_row (fun es P h => by first | exact pure1_len h | exact pure2_len h | exact pure3_len h | (obtain ⟨_, rfl, _⟩ := h; rfl) | (obtain ⟨_, _, rfl, _⟩ := h; rfl) | (obtain ⟨_, _, _, rfl, _⟩ := h; rfl) | (obtain ⟨_, _, _, _, rfl, _⟩ := h; rfl)) (fun cdv A outer s H E hr => ⟨_,
    (wss_cons (ws_set (i := 1) sc_lright_row.nd rfl (by first | exact .inl rfl | exact .inr rfl) (we_call (ok_lword_of T) (hr.mono (by decide)) rfl T.d_lword_of.m T.d_lword_of.F.kp T.d_lword_of.b (wa_cons (we_var (pv 0)) wa_nil)))
      (wss_cons (ws_set (i := 2) sc_lright_row.nd rfl (by first | exact .inl rfl | exact .inr rfl) (we_call (ok_lsome_operand T) (hr.mono (by decide)) rfl T.d_lsome_operand.m T.d_lsome_operand.F.kp T.d_lsome_operand.b (wa_cons (we_var (pv 0)) wa_nil)))
      (wss_cons (ws_set (i := 3) sc_lright_row.nd rfl (by first | exact .inl rfl | exact .inr rfl) (we_call (ok_lsome_operand T) (hr.mono (by decide)) rfl T.d_lsome_operand.m T.d_lsome_operand.F.kp T.d_lsome_operand.b (wa_cons (we_var (pv 0)) wa_nil)))
      (wss_cons (ws_set (i := 4) sc_lright_row.nd rfl (by first | exact .inl rfl | exact .inr rfl) (we_call (ok_ltake T) (hr.mono (by decide)) rfl T.d_ltake.m T.d_ltake.F.kp T.d_ltake.b (wa_cons (we_var (pv 0)) (wa_cons (we_c pe_int) wa_nil))))
      (wss_cons (ws_if (wt_cmp (op_dEq hr.units) (we_var (pv 4)) (we_c pe_int) (nomark _))
        (wss_one (ws_ret (we_tup (wa_cons (we_c pe_str) (wa_cons (we_var (pv 1)) (wa_cons (we_call (ok_lone T) (hr.mono (by decide)) rfl T.d_lone.m T.d_lone.F.kp T.d_lone.b (wa_cons (we_var (pv 0)) (wa_cons (we_lst (wa_cons (we_c pe_str) (wa_cons (we_c pe_str) (wa_cons (we_c pe_str) (wa_cons (we_c pe_str) wa_nil))))) wa_nil))) (wa_cons (we_var (pv 2)) (wa_cons (we_var (pv 3)) wa_nil))))))))
        wss_nil)
      (wss_cons (ws_if (wt_cmp (op_dEq hr.units) (we_var (pv 4)) (we_c pe_int) (nomark _))
        (wss_one (ws_ret (we_tup (wa_cons (we_c pe_str) (wa_cons (we_var (pv 1)) (wa_cons (we_call (ok_lword_of T) (hr.mono (by decide)) rfl T.d_lword_of.m T.d_lword_of.F.kp T.d_lword_of.b (wa_cons (we_var (pv 0)) wa_nil)) (wa_cons (we_sl (we_tup (wa_cons (we_var (pv 2)) (wa_cons (we_var (pv 3)) wa_nil))) wo_none (wo_some (we_call (ok_ltake T) (hr.mono (by decide)) rfl T.d_ltake.m T.d_ltake.F.kp T.d_ltake.b (wa_cons (we_var (pv 0)) (wa_cons (we_c pe_int) wa_nil))))) wa_nil)))))))
        wss_nil)
      (wss_cons (ws_set (i := 5) sc_lright_row.nd rfl (by first | exact .inl rfl | exact .inr rfl) (we_call (ok_ltake T) (hr.mono (by decide)) rfl T.d_ltake.m T.d_ltake.F.kp T.d_ltake.b (wa_cons (we_var (pv 0)) (wa_cons (we_c pe_int) wa_nil))))
      (wss_one (ws_ret (we_ix (we_lst (wa_cons (we_tup (wa_cons (we_c pe_str) (wa_cons (we_var (pv 1)) (wa_cons (we_var (pv 2)) wa_nil)))) (wa_cons (we_tup (wa_cons (we_c pe_str) (wa_cons (we_var (pv 2)) (wa_cons (we_var (pv 5)) wa_nil)))) (wa_cons (we_tup (wa_cons (we_c pe_str) (wa_cons (we_var (pv 5)) wa_nil))) (wa_cons (we_tup (wa_cons (we_c pe_str) (wa_cons (we_var (pv 2)) wa_nil))) (wa_cons (we_tup (wa_cons (we_c pe_str) (wa_cons (we_var (pv 1)) wa_nil))) (wa_cons (we_tup (wa_cons (we_c pe_str) (wa_cons (we_var (pv 2)) wa_nil))) wa_nil))))))) (we_op op_dSub (we_var (pv 4)) (we_c pe_int)))))))))))),
    fun es P h => by
      obtain ⟨p, rfl, hp⟩ := h
      walk_at "red"
      refine ⟨⟨p, rfl⟩, fun x hx => ⟨⟨p, rfl⟩, fun a ha => ⟨⟨p, rfl⟩, fun b hb => ⟨p, 8, rfl, by decide, by decide, fun r r0 r1 => ?_⟩⟩⟩⟩
      have gx := gs_up (isOperand_gs (isOperand_name hx))
      have ga := gs_up (isOperand_gs ha)
      have gb := gs_up (isOperand_gs hb)
      by_cases e : r = 0
      · refine ifT (c := decide (r = 0)) (decide_eq_true e) ⟨line_big (by omega), p, _, rfl, by simp, by simp only [List.length_cons, List.length_nil]; omega, fun d hd => ⟨line_big (by omega), hp _ ⟨by simp, by simp, ?_⟩⟩⟩
        have gd : gs 1 d = true := by
          simp only [List.mem_cons, List.not_mem_nil, or_false] at hd
          rcases hd with rfl | rfl | rfl | rfl <;> decide +kernel
        simp only [List.mem_cons, List.not_mem_nil, or_false, forall_eq_or_imp, forall_eq]
        exact ⟨by decide +kernel, gx, gd, ga, gb⟩
      refine ifF (c := decide (r = 0)) (decide_eq_false e) ?_
      by_cases e : r = 1
      · refine ifT (c := decide (r = 1)) (decide_eq_true e) ⟨⟨p, rfl⟩, fun y hy => ⟨line_big (by omega), p, 3, rfl, by decide, by decide, fun k k0 k1 => ⟨k, rfl, line_big (by omega), hp _ ⟨by simp, by simp, ?_⟩⟩⟩⟩
        have gy := gs_up (isOperand_gs (isOperand_name hy))
        have gc : gs 1 (.tup (DL.cutD [a, b] none (some k))) = true := by
          rw [show k = ((k.toNat : Nat) : Int) by omega, cut_take]
          simp only [gs, Bool.and_eq_true, decide_eq_true_eq, List.all_eq_true]
          refine ⟨by rw [List.length_take]; simp only [List.length_cons, List.length_nil]; omega, fun z hz => ?_⟩
          have := List.mem_of_mem_take hz
          simp only [List.mem_cons, List.not_mem_nil, or_false] at this
          rcases this with rfl | rfl
          · exact isOperand_gs ha
          · exact isOperand_gs hb
        simp only [List.mem_cons, List.not_mem_nil, or_false, forall_eq_or_imp, forall_eq]
        exact ⟨by decide +kernel, gx, gy, gc⟩
      refine ifF (c := decide (r = 1)) (decide_eq_false e) ⟨p, 12, rfl, by decide, by decide, fun k k0 k1 => ⟨line_big (by omega), line_big (by omega), line_big (by omega), line_big (by omega), line_big (by omega), line_big (by omega), line_big (by omega), ?_⟩⟩
      have gk : gs 1 (.int k) = true := gs_up (gs_int k0 (by omega))
      obtain ⟨d, hd, m⟩ := at_some (xs := [D.tup [D.str (Str.ofString "copy"), D.str x, a], D.tup [D.str (Str.ofString "if"), a, .int k], D.tup [D.str (Str.ofString "go"), .int k],
        D.tup [D.str (Str.ofString "back"), a], D.tup [D.str (Str.ofString "get"), D.str x], D.tup [D.str (Str.ofString "out"), a]]) (r := r - 2) (by omega) (by simp only [List.length_cons, List.length_nil]; omega)
      refine ⟨d, hd, ?_⟩
      simp only [List.mem_cons, List.not_mem_nil, or_false] at m
      rcases m with rfl | rfl | rfl | rfl | rfl | rfl <;> refine hp _ ⟨by simp, by simp, ?_⟩ <;> simp only [List.mem_cons, List.not_mem_nil, or_false, forall_eq_or_imp, forall_eq]
      · exact ⟨by decide +kernel, gx, ga⟩
      · exact ⟨by decide +kernel, ga, gk⟩
      · exact ⟨by decide +kernel, gk⟩
      · exact ⟨by decide +kernel, ga⟩
      · exact ⟨by decide +kernel, gx⟩
      · exact ⟨by decide +kernel, ga⟩⟩)
theorem ok_lbent (T : Txt K mg) : FnOk P w K mg base CX0 4 T.d_lbent.f T.d_lbent.fd ["_law_source", "_law_row"] (spD fun es P _ => (fun es P => ∃ p xs, es = [.src p, .tup xs] ∧ SmRow xs ∧ ∀ d, gs 2 d = true → P d) es P) :=
  fn_ok T.d_lbent.F sc_lbent (fun es P h => by first | exact pure1_len h | exact pure2_len h | exact pure3_len h | (obtain ⟨_, rfl, _⟩ := h; rfl) | (obtain ⟨_, _, rfl, _⟩ := h; rfl) | (obtain ⟨_, _, _, rfl, _⟩ := h; rfl) | (obtain ⟨_, _, _, _, rfl, _⟩ := h; rfl)) (fun cdv A outer s H E hr => ⟨_,
    (wss_cons (ws_set (i := 2) sc_lbent.nd rfl (by first | exact .inl rfl | exact .inr rfl) (we_call (ok_ltake T) (hr.mono (by decide)) rfl T.d_ltake.m T.d_ltake.F.kp T.d_ltake.b (wa_cons (we_var (pv 0)) (wa_cons (we_c pe_int) wa_nil))))
      (wss_cons (ws_set (i := 3) sc_lbent.nd rfl (by first | exact .inl rfl | exact .inr rfl) (we_call (ok_ltake T) (hr.mono (by decide)) rfl T.d_ltake.m T.d_ltake.F.kp T.d_ltake.b (wa_cons (we_var (pv 0)) (wa_cons (we_callB call_fLen rfl T.n_len boot_lenB (wa_cons (we_var (pv 1)) wa_nil)) wa_nil))))
      (wss_cons (ws_set (i := 4) sc_lbent.nd rfl (by first | exact .inl rfl | exact .inr rfl) (we_call (ok_lstrange T) (hr.mono (by decide)) rfl T.d_lstrange.m T.d_lstrange.F.kp T.d_lstrange.b (wa_cons (we_var (pv 0)) wa_nil)))
      (wss_cons (ws_if (wt_cmp (op_dEq hr.units) (we_var (pv 2)) (we_c pe_int) (nomark _))
        (wss_one (ws_ret (we_op op_dAdd (we_sl (we_var (pv 1)) wo_none (wo_some (we_var (pv 3)))) (we_sl (we_var (pv 1)) (wo_some (we_op op_dAdd (we_var (pv 3)) (we_c pe_int))) wo_none))))
        wss_nil)
      (wss_cons (ws_if (wt_cmp (op_dEq hr.units) (we_var (pv 2)) (we_c pe_int) (nomark _))
        (wss_one (ws_ret (we_op op_dAdd (we_var (pv 1)) (we_tup (wa_cons (we_var (pv 4)) wa_nil)))))
        wss_nil)
      (wss_cons (ws_if (wt_cmp (op_dEq hr.units) (we_var (pv 2)) (we_c pe_int) (nomark _))
        (wss_one (ws_ret (we_callTy call_fList rfl T.n_list boot_listT (wa_cons (we_var (pv 1)) wa_nil))))
        wss_nil)
      (wss_one (ws_ret (we_op op_dAdd (we_op op_dAdd (we_sl (we_var (pv 1)) wo_none (wo_some (we_var (pv 3)))) (we_tup (wa_cons (we_var (pv 4)) wa_nil))) (we_sl (we_var (pv 1)) (wo_some (we_op op_dAdd (we_var (pv 3)) (we_c pe_int))) wo_none)))))))))),
    fun es P h => by
      obtain ⟨p, xs, rfl, hx, hp⟩ := h
      walk_at "red"
      obtain ⟨x1, x2, x3⟩ := hx
      have big : ∀ {n : Nat}, n ≤ 100 → n ≤ sizeLine := fun h => line_big (by omega)
      refine ⟨p, 5, rfl, by decide, by decide, fun r r0 r1 => ⟨p, xs.length, rfl, by omega, by omega, fun k k0 k1 => ⟨⟨p, rfl⟩, fun o ho => ?_⟩⟩⟩
      have ek : k = ((k.toNat : Nat) : Int) := by omega
      have hk : k.toNat < xs.length := by omega
      have gt : ∀ ys : List D, ys.length ≤ 12 → (∀ y ∈ ys, gs 1 y = true) → gs 2 (.tup ys) = true := fun ys h1 h2 => by
        simp only [gs, Bool.and_eq_true, decide_eq_true_eq, List.all_eq_true]
        exact ⟨h1, h2⟩
      have l1 : (xs.take k.toNat).length = k.toNat := by rw [List.length_take]; omega
      have l2 : (xs.drop (k.toNat + 1)).length = xs.length - (k.toNat + 1) := List.length_drop
      have c1 : DL.cutD xs none (some k) = xs.take k.toNat := by rw [ek, cut_take]; rfl
      have c2 : DL.cutD xs (some (k + 1)) none = xs.drop (k.toNat + 1) := by
        rw [show k + 1 = ((k.toNat + 1 : Nat) : Int) by omega, cut_drop]
      have m1 : ∀ y ∈ xs.take k.toNat, gs 1 y = true := fun y hy => x3 y (List.mem_of_mem_take hy)
      have m2 : ∀ y ∈ xs.drop (k.toNat + 1), gs 1 y = true := fun y hy => x3 y (List.mem_of_mem_drop hy)
      by_cases e : r = 0
      · refine ifT (c := decide (r = 0)) (decide_eq_true e) ⟨k, rfl, ?_⟩
        show (DL.cutD xs none (some k)).length + (DL.cutD xs (some (k + 1)) none).length ≤ sizeLine ∧ P (D.tup (DL.cutD xs none (some k) ++ DL.cutD xs (some (k + 1)) none))
        rw [c1, c2]
        refine ⟨big (by omega), hp _ (gt _ (by rw [List.length_append]; omega) fun y hy => ?_)⟩
        rcases List.mem_append.mp hy with z | z
        · exact m1 y z
        · exact m2 y z
      refine ifF (c := decide (r = 0)) (decide_eq_false e) ?_
      by_cases e : r = 1
      · refine ifT (c := decide (r = 1)) (decide_eq_true e) ⟨big (by omega), big (by omega), hp _ (gt _ (by rw [List.length_append, List.length_singleton]; omega) fun y hy => ?_)⟩
        rcases List.mem_append.mp hy with z | z
        · exact x3 y z
        · rw [List.mem_singleton.mp z]
          exact ho
      refine ifF (c := decide (r = 1)) (decide_eq_false e) ?_
      by_cases e : r = 2
      · refine ifT (c := decide (r = 2)) (decide_eq_true e) (hp _ ?_)
        simp only [gs, Bool.and_eq_true, decide_eq_true_eq, List.all_eq_true]
        exact ⟨by omega, x3⟩
      refine ifF (c := decide (r = 2)) (decide_eq_false e) ⟨k, rfl, big (by omega), ?_⟩
      rw [c1]
      refine ⟨big (by omega), ?_⟩
      show (xs.take k.toNat ++ [o]).length + (DL.cutD xs (some (k + 1)) none).length ≤ sizeLine ∧ P (D.tup (xs.take k.toNat ++ [o] ++ DL.cutD xs (some (k + 1)) none))
      rw [c2, List.length_append, List.length_singleton]
      refine ⟨big (by omega), hp _ (gt _ (by rw [List.length_append, List.length_append, List.length_singleton]; omega) fun y hy => ?_)⟩
      rcases List.mem_append.mp hy with z | z
      · rcases List.mem_append.mp z with z | z
        · exact m1 y z
        · rw [List.mem_singleton.mp z]
          exact ho
      · exact m2 y z⟩)
end
end K00

set_option maxHeartbeats 2000000
namespace K00
open PySem PySem.Spec PyProof.Rows L2 DL
local macro_rules | `(tactic| walk_at "red") => `(tactic| simp only [gCL, fLenQ, dIxQ, wNeK, wIndex, gTryRet, gTryDrop, wzCall, wzCallL, wTold, fIsE, fRepr, wJoin, wDGet, wVals, dPow, wSrc, gSrcSet, dMulS, dFdivS, fInt, fMax, fTuple, fList, startD, gNext, gSeq, gRet, gSet, gIf, gDrop, gRaise, gFor, wVar, wC, wOp, wTest, wChain, wAnd, wOr, wNot, wtAnd, wtOr, wtNot, wIf, waNil, waCons, wTup, wLst, wCall, quiet, wIsi, wInK, wLc, wiStr, wiTup, wiLst, wiRange, wSl, woNone, woSome, dSl, wNeg, dNeg, fLen, fAll, dEq, dNe, dLe, dLt, dGe, dGt, dAdd, dSub, dMod, dIx, dIn, dIsB, strsOf, boolsOf, DL.tyD_non, at_0, at_1, at_2, at_3, at_4, DL.isInt_non, DL.isStr_non, DL.isBl_non, DL.isTup_non, DL.isLst_non, DL.tyD_bl, DL.isInt_bl, DL.isStr_bl, DL.isBl_bl, DL.isTup_bl, DL.isLst_bl, DL.tyD_int, DL.isInt_int, DL.isStr_int, DL.isBl_int, DL.isTup_int, DL.isLst_int, DL.tyD_str, DL.isInt_str, DL.isStr_str, DL.isBl_str, DL.isTup_str, DL.isLst_str, DL.tyD_lst, DL.isInt_lst, DL.isStr_lst, DL.isBl_lst, DL.isTup_lst, DL.isLst_lst, DL.tyD_tup, DL.isInt_tup, DL.isStr_tup, DL.isBl_tup, DL.isTup_tup, DL.isLst_tup, pure1, pure2, pure3, Option.map_some,
  List.map_cons, List.map_nil, List.length_cons, List.length_nil, List.cons_append, List.nil_append, List.getElem?_cons_zero, List.getElem?_cons_succ, Option.some.injEq, exists_eq_left', exists_eq_left, exists_eq_right, exists_eq_right', D.bl.injEq, D.int.injEq, D.str.injEq, D.tup.injEq, D.lst.injEq, D.fn.injEq, D.sq.injEq, D.exn.injEq, List.cons.injEq, and_true, true_and, and_self, exists_and_left, exists_and_right, Option.isSome_some, List.set_cons_zero, List.set_cons_succ, if_true, Bool.false_eq_true, if_false, Bool.not_true, Bool.not_false, reduceCtorEq, List.replicate, Nat.reduceSub, Nat.reduceAdd])
section
variable {P : Program} {w : World} {K : PySem.W.Frag} {mg : Str → Option Value} {base : Heap}
abbrev gRef (C : Addr) : DSp := fun es P Z => ∃ d, es = [d] ∧ Good d ∧ isRow d = false ∧ Z C d
theorem loc_lrefused (T : Txt K mg) : ∀ f, (f = T.d_operands_of.f ∨ f = T.d_set_by.f) → ∃ fd ps, FnOk P w K mg base (L2.CX P w) 8 f fd ps (spD (gRef T.x_NoRow.C)) ∧ PySem.W.keepIn K (.ref f) = true ∧ Binds K fd ps [] := by
  intro f h
  rcases h with rfl | rfl
  · refine ⟨_, _, FnOk.weak (ok_operands_of T) (fun vs H Q E h => ?_), T.d_operands_of.F.kp, T.d_operands_of.b⟩
    obtain ⟨O, es, P, Z, hq, hO, ⟨d, he, ok, hr, hz⟩, h1, h2⟩ := h
    exact ⟨O, es, P, Z, hq, hO, ⟨d, he, ok, by rw [hr]; exact hz⟩, h1, h2⟩
  · refine ⟨_, _, FnOk.weak (ok_set_by T) (fun vs H Q E h => ?_), T.d_set_by.F.kp, T.d_set_by.b⟩
    obtain ⟨O, es, P, Z, hq, hO, ⟨d, he, ok, hr, hz⟩, h1, h2⟩ := h
    exact ⟨O, es, P, Z, hq, hO, ⟨d, he, ok, by rw [hr]; exact hz⟩, h1, h2⟩
theorem _root_.DL.Sm.pl {d : D} (h : Sm d) : d.pl = true := (wr_of 3 d h).pl
theorem _root_.DL.Sm.sh {d : D} (h : Sm d) : d.py.showable = true := (wr_of 3 d h).sh
theorem _root_.DL.Sm.nd {d : D} (h : Sm d) : d.py.hasDict = false := (wr_of 3 d h).nd
theorem _root_.DL.Sm.dp {d : D} (h : Sm d) : d.py.depth ≤ 60 := by
  have := (wr_of 3 d h).dep
  omega
theorem _root_.DL.Sm.sz {d : D} (h : Sm d) : d.py.shown.length ≤ sizeLine := by
  have := (wr_of 3 d h).sz
  have e : bsz 3 = 436396 := by decide
  rw [sizeLine_eq]
  omega
theorem isName_str {x : D} (h : isName x = true) : ∃ z, x = .str z := by
  cases x with
  | str z => exact ⟨z, rfl⟩
  | _ => cases h
theorem row_name {w' : Str} {x : D} {r : List D} (h : isRow (.tup (.str w' :: x :: r)) = true) (m : w' ∈ (["set", "copy", "call", "get"] : List Str)) : ∃ z, x = .str z := by
  apply isName_str
  rw [isRow_str] at h
  simp only [List.mem_cons, List.not_mem_nil, or_false] at m
  rcases m with e | e | e | e
  · rw [if_pos e] at h
    split at h
    · rename_i hh
      cases hh
      simp only [Bool.and_eq_true] at h
      exact h.1.1.1
    · cases h
  · rw [if_neg (by rw [e]; decide), if_neg (by rw [e]; decide), if_pos e] at h
    split at h
    · rename_i hh
      cases hh
      simp only [Bool.and_eq_true] at h
      exact h.1
    · cases h
  · rw [if_neg (by rw [e]; decide), if_pos e] at h
    split at h
    · rename_i hh
      cases hh
      simp only [Bool.and_eq_true] at h
      exact h.1.1
    · cases h
  · rw [if_neg (by rw [e]; decide), if_neg (by rw [e]; decide), if_neg (by rw [e]; decide), if_neg (by rw [e]; decide), if_neg (by rw [e]; decide), if_pos e] at h
    split at h
    · rename_i hh
      cases hh
      exact h
    · cases h
theorem sm_tup {ys : List D} (h1 : ys.length ≤ 12) (h2 : ∀ y ∈ ys, gs 2 y = true) : Sm (.tup ys) := by
  unfold Sm
  simp only [gs, Bool.and_eq_true, decide_eq_true_eq, List.all_eq_true]
  exact ⟨h1, h2⟩
theorem ops_shape {w' : Str} {x : D} {r : List D} (h : isRow (.tup (.str w' :: x :: r)) = true) (ok : Sm (.tup (.str w' :: x :: r))) : ∃ ys, opsOf (.tup (.str w' :: x :: r)) = .tup ys ∧ Sm (.tup ys) := by
  have g : (r.length + 1 + 1 ≤ 12) ∧ ∀ y ∈ (D.str w' :: x :: r), gs 2 y = true := by
    unfold Sm at ok
    simp only [gs, Bool.and_eq_true, decide_eq_true_eq, List.all_eq_true] at ok
    exact ⟨ok.1, ok.2⟩
  have gr : ∀ y ∈ r, gs 2 y = true := fun y hy => g.2 y (List.mem_cons_of_mem _ (List.mem_cons_of_mem _ hy))
  have gx : gs 2 x = true := g.2 x (List.mem_cons_of_mem _ List.mem_cons_self)
  simp only [opsOf]
  by_cases e1 : w' = "set"
  · rw [if_pos e1]
    exact ⟨_, rfl, sm_tup (by rw [List.length_drop]; omega) fun y hy => gr y (List.mem_of_mem_drop hy)⟩
  rw [if_neg e1]
  by_cases e3 : w' = "copy"
  · rw [if_pos e3]
    exact ⟨_, rfl, sm_tup (by omega) gr⟩
  rw [if_neg e3]
  by_cases e2 : w' = "call"
  · rw [if_pos e2]
    simp only [isRow, isRowT, if_neg e1, if_pos e2, isCallR] at h
    split at h
    · rename_i hh
      cases hh
      rename_i b c
      simp only [Bool.and_eq_true] at h
      cases c with
      | tup ys => exact ⟨ys, rfl, gs_up (gr _ (List.mem_cons_of_mem _ List.mem_cons_self))⟩
      | _ => cases h.2
    · cases h
  rw [if_neg e2]
  split
  · exact ⟨_, rfl, sm_tup (by simp) fun y hy => by rw [List.mem_singleton.mp hy]; exact gx⟩
  · exact ⟨_, rfl, sm_tup (by simp) fun y hy => nomatch hy⟩
def fRefused (a b : Addr) : DFn := fun es P => ∃ f d, es = [.fn f, d] ∧ (f = a ∨ f = b) ∧ isRow d = false ∧ Sm d ∧ P (.bl true)
theorem ok_lrefused (T : Txt K mg) : FnG P w K mg base CX0 9 T.d_lrefused.f T.d_lrefused.fd ["_law_action", "_law_value"] (spD fun es P _ => (fRefused T.d_operands_of.f T.d_set_by.f) es P) :=
  fnG_ok T.d_lrefused.F sc_lrefused (fun es P h => by first | exact pure1_len h | exact pure2_len h | exact pure3_len h | (obtain ⟨_, rfl, _⟩ := h; rfl) | (obtain ⟨_, _, rfl, _⟩ := h; rfl) | (obtain ⟨_, _, _, rfl, _⟩ := h; rfl) | (obtain ⟨_, _, _, _, rfl, _⟩ := h; rfl)) (fun cdv A outer s H E hgd hr => ⟨_,
    (wss_cons (ws_tryDrop (i := 2) T.x2_NoRow rfl rfl sc_lrefused.nd rfl rfl ⟨rfl, by decide, .inl T.x_NoRow.m⟩ (fun W pn xe tk => we_zcallL (i := 0) (loc_lrefused T) (hr.mono (by decide)) tk rfl (.inl rfl) (wa_cons (we_var (pv 1)) wa_nil))
        (fun a oe cls d pn hz hf => (wss_one (ws_ret (we_and (we_callB (call_isX T.x2_NoRow hz hf) rfl T.n_isinstance boot_isinstanceB (wa_cons (we_var (pv 2)) (wa_cons (we_fn (pe_glob rfl T.m_MomentError rfl)) wa_nil))) (we_one (we_cmp (op_dEq hr.units) (we_callB (call_fRepr hgd hr.units) rfl T.n_repr boot_reprB (wa_cons (we_told T.x2_NoRow hz hf (we_var (pv 2))) wa_nil)) (we_callB (call_fRepr hgd hr.units) rfl T.n_repr boot_reprB (wa_cons (we_var (pv 1)) wa_nil)) (nomark _))))))))
      (wss_one (ws_ret (we_c pe_bl)))),
    fun es P h => by
      obtain ⟨f, d, rfl, hf, hr, ok, hp⟩ := h
      walk_at "red"
      exact ⟨hf, d, rfl, ok.good, hr, rfl, fun a dd => ⟨dd, d, ⟨rfl, rfl⟩, rfl, ok.pl, ok.sh, ok.nd, ok.dp, ok.sz, ok.pl, ok.sh, ok.nd, ok.dp, ok.sz, by rw [decide_eq_true rfl]; exact hp⟩⟩⟩)
theorem ok_lmade (T : Txt K mg) : FnOk P w K mg base CX0 5 T.d_lmade.f T.d_lmade.fd ["_law_op", "_law_one_here", "_law_other"] (spD fun es P _ => (fun es P => ∃ a b c, es = [a, b, c] ∧ Good a ∧ Good b ∧ Good c ∧ P (if (!isOp a) = true then .lst [a] else if (!isVal b) = true then .lst [b] else if (!isVal c) = true then .lst [c] else reckD a b c)) es P) :=
  fn_ok T.d_lmade.F sc_lmade (fun es P h => by first | exact pure1_len h | exact pure2_len h | exact pure3_len h | (obtain ⟨_, rfl, _⟩ := h; rfl) | (obtain ⟨_, _, rfl, _⟩ := h; rfl) | (obtain ⟨_, _, _, rfl, _⟩ := h; rfl) | (obtain ⟨_, _, _, _, rfl, _⟩ := h; rfl)) (fun cdv A outer s H E hr => ⟨_,
    (wss_one (ws_tryRet (i := 3) T.x2_NoValue rfl rfl sc_lmade.nd rfl rfl ⟨rfl, by decide, .inl T.x_NoValue.m⟩ (fun W pn xe tk => we_zcall (ok_reckoned T) (hr.mono (by decide)) tk rfl T.d_reckoned.m T.d_reckoned.F.kp T.d_reckoned.b (wa_cons (we_var (pv 0)) (wa_cons (we_var (pv 1)) (wa_cons (we_var (pv 2)) wa_nil))))
        (fun a oe cls d pn hz hf => (wss_one (ws_ret (we_lst (wa_cons (we_told T.x2_NoValue hz hf (we_var (pv 3))) wa_nil))))))),
    fun es P h => by
      obtain ⟨a, b, c, rfl, ga, gb, gc, hp⟩ := h
      walk_at "red"
      refine ⟨a, b, c, rfl, ga, gb, gc, ?_⟩
      split
      · rename_i e
        rw [if_pos e] at hp
        exact ⟨rfl, fun _ dd => ⟨dd, a, ⟨rfl, rfl⟩, rfl, line_big (by omega), hp⟩⟩
      rename_i e
      rw [if_neg e] at hp
      split
      · rename_i e
        rw [if_pos e] at hp
        exact ⟨rfl, fun _ dd => ⟨dd, b, ⟨rfl, rfl⟩, rfl, line_big (by omega), hp⟩⟩
      rename_i e
      rw [if_neg e] at hp
      split
      · rename_i e
        rw [if_pos e] at hp
        exact ⟨rfl, fun _ dd => ⟨dd, c, ⟨rfl, rfl⟩, rfl, line_big (by omega), hp⟩⟩
      rename_i e
      rw [if_neg e] at hp
      exact hp⟩)
theorem ok_lrow_holds (T : Txt K mg) : FnG P w K mg base CX0 10 T.d_lrow_holds.f T.d_lrow_holds.fd ["_law_value"] (spD fun es P _ => (fun es P => ∃ d, es = [d] ∧ Sm d ∧ P (.bl true)) es P) :=
  fnG_ok T.d_lrow_holds.F sc_lrow_holds (fun es P h => by first | exact pure1_len h | exact pure2_len h | exact pure3_len h | (obtain ⟨_, rfl, _⟩ := h; rfl) | (obtain ⟨_, _, rfl, _⟩ := h; rfl) | (obtain ⟨_, _, _, rfl, _⟩ := h; rfl) | (obtain ⟨_, _, _, _, rfl, _⟩ := h; rfl)) (fun cdv A outer s H E hgd hr => ⟨_,
    (wss_cons (ws_set (i := 1) sc_lrow_holds.nd rfl (by first | exact .inl rfl | exact .inr rfl) (we_call (ok_lfits_row T) (hr.mono (by decide)) rfl T.d_lfits_row.m T.d_lfits_row.F.kp T.d_lfits_row.b (wa_cons (we_var (pv 0)) wa_nil)))
      (wss_cons (ws_if (PW.pt (ww_or (wt_cmp (op_dNe hr.units) (we_cmp op_dIsB (we_call (ok_is_row T) (hr.mono (by decide)) rfl T.d_is_row.m T.d_is_row.F.kp T.d_is_row.b (wa_cons (we_var (pv 0)) wa_nil)) (we_c pe_bl) (nomark _)) (we_var (pv 1)) (nomark _)) (pw_or1 (wt_not (wt_val (we_isi (x1 := "bool") tyIs_bool rfl T.n_isinstance rfl T.n_bool boot_boolT (we_call (ok_is_row T) (hr.mono (by decide)) rfl T.d_is_row.m T.d_is_row.F.kp T.d_is_row.b (wa_cons (we_var (pv 0)) wa_nil))))))))
        (wss_one (ws_ret (we_c pe_bl)))
        wss_nil)
      (wss_cons (ws_if (wt_not (wt_val (we_var (pv 1))))
        (wss_one (ws_ret (we_and (we_callG (ok_lrefused T) hgd (hr.mono (by decide)) rfl T.d_lrefused.m T.d_lrefused.F.kp T.d_lrefused.b (wa_cons (we_fn (pe_glob rfl T.d_operands_of.m rfl)) (wa_cons (we_var (pv 0)) wa_nil))) (we_one (we_callG (ok_lrefused T) hgd (hr.mono (by decide)) rfl T.d_lrefused.m T.d_lrefused.F.kp T.d_lrefused.b (wa_cons (we_fn (pe_glob rfl T.d_set_by.m rfl)) (wa_cons (we_var (pv 0)) wa_nil)))))))
        wss_nil)
      (wss_cons (ws_set (i := 2) sc_lrow_holds.nd rfl (by first | exact .inl rfl | exact .inr rfl) (we_c pe_non))
      (wss_cons (ws_if (wt_cmp op_dIn (we_ix (we_var (pv 0)) (we_c pe_int)) (we_lst (wa_cons (we_c pe_str) (wa_cons (we_c pe_str) (wa_cons (we_c pe_str) (wa_cons (we_c pe_str) wa_nil))))) (by with_unfolding_all rfl))
        (wss_one (ws_set (i := 2) sc_lrow_holds.nd rfl (by first | exact .inl rfl | exact .inr rfl) (we_ix (we_var (pv 0)) (we_c pe_int))))
        wss_nil)
      (wss_one (ws_ret (we_and (we_cmp (op_dEq hr.units) (we_callX (ok_operands_of T) (hr.mono (by decide)) rfl T.d_operands_of.m T.d_operands_of.F.kp T.d_operands_of.b (wa_cons (we_var (pv 0)) wa_nil)) (we_callTy call_fTuple rfl T.n_tuple boot_tupleT (wa_cons (we_call (ok_lread T) (hr.mono (by decide)) rfl T.d_lread.m T.d_lread.F.kp T.d_lread.b (wa_cons (we_var (pv 0)) wa_nil)) wa_nil)) (nomark _)) (we_one (we_cmp (op_dEq hr.units) (we_callX (ok_set_by T) (hr.mono (by decide)) rfl T.d_set_by.m T.d_set_by.F.kp T.d_set_by.b (wa_cons (we_var (pv 0)) wa_nil)) (we_var (pv 2)) (nomark _))))))))))),
    fun es P h => by
      obtain ⟨d, rfl, ok, hp⟩ := h
      have good := ok.good
      cases hr0 : isRow d with
      | false =>
        walk_at "red"
        refine ⟨ok, good, ifF (by rw [hr0]; rfl) ⟨good, ifT (by rw [hr0]; rfl) ⟨_, d, rfl, .inl rfl, hr0, ok, true, rfl, ifT rfl ⟨_, d, rfl, .inr rfl, hr0, ok, hp⟩⟩⟩⟩
      | true =>
        obtain ⟨w', x, r, rfl⟩ := isRow_tup hr0
        obtain ⟨ys, ey, oky⟩ := ops_shape hr0 ok
        have q := oky.okEq
        have qn : okEq .non := ⟨rfl, by decide⟩
        walk_at "red"
        refine ⟨ok, good, ifF (by rw [hr0]; rfl) ⟨good, ifF (by rw [hr0]; rfl) ⟨line_big (by omega), ?_⟩⟩⟩
        have hop : ∀ Q : D → Prop, Q (.tup ys) → gOps T.x_NoRow.C [.tup (.str w' :: x :: r)] Q fun _ _ => False := fun Q hq => ⟨_, rfl, good, by rw [hr0, ey]; exact hq⟩
        have hsb : ∀ Q : D → Prop, Q (setBy (.tup (.str w' :: x :: r))) → gSetBy T.x_NoRow.C [.tup (.str w' :: x :: r)] Q fun _ _ => False := fun Q hq => ⟨_, rfl, good, by rw [hr0]; exact hq⟩
        by_cases m : w' ∈ (["set", "copy", "call", "get"] : List Str)
        · obtain ⟨z, rfl⟩ := row_name hr0 m
          refine ifT (decide_eq_true m) (hop _ ⟨hr0, good, ?_⟩)
          rw [ey]
          refine ⟨q, q, ifT (eqD_self q) (hsb _ ?_)⟩
          simp only [setBy, if_pos m, decide_true]
          exact hp
        · refine ifF (decide_eq_false m) (hop _ ⟨hr0, good, ?_⟩)
          rw [ey]
          refine ⟨q, q, ifT (eqD_self q) (hsb _ ?_)⟩
          simp only [setBy, if_neg m]
          exact ⟨qn, qn, hp⟩⟩)
end
end K00

set_option maxHeartbeats 2000000
namespace K00
open PySem PySem.Spec PyProof.Rows L2 DL
local macro_rules | `(tactic| walk_at "red") => `(tactic| simp only [gCL, fLenQ, dIxQ, wNeK, wIndex, gTryRet, gTryDrop, wzCall, wzCallL, wTold, fIsE, fRepr, wJoin, wDGet, wVals, dPow, wSrc, gSrcSet, dMulS, dFdivS, fInt, fMax, fTuple, fList, startD, gNext, gSeq, gRet, gSet, gIf, gDrop, gRaise, gFor, wVar, wC, wOp, wTest, wChain, wAnd, wOr, wNot, wtAnd, wtOr, wtNot, wIf, waNil, waCons, wTup, wLst, wCall, quiet, wIsi, wInK, wLc, wiStr, wiTup, wiLst, wiRange, wSl, woNone, woSome, dSl, wNeg, dNeg, fLen, fAll, dEq, dNe, dLe, dLt, dGe, dGt, dAdd, dSub, dMod, dIx, dIn, dIsB, strsOf, boolsOf, DL.tyD_non, at_0, at_1, at_2, at_3, at_4, DL.isInt_non, DL.isStr_non, DL.isBl_non, DL.isTup_non, DL.isLst_non, DL.tyD_bl, DL.isInt_bl, DL.isStr_bl, DL.isBl_bl, DL.isTup_bl, DL.isLst_bl, DL.tyD_int, DL.isInt_int, DL.isStr_int, DL.isBl_int, DL.isTup_int, DL.isLst_int, DL.tyD_str, DL.isInt_str, DL.isStr_str, DL.isBl_str, DL.isTup_str, DL.isLst_str, DL.tyD_lst, DL.isInt_lst, DL.isStr_lst, DL.isBl_lst, DL.isTup_lst, DL.isLst_lst, DL.tyD_tup, DL.isInt_tup, DL.isStr_tup, DL.isBl_tup, DL.isTup_tup, DL.isLst_tup, pure1, pure2, pure3, Option.map_some,
  List.map_cons, List.map_nil, List.length_cons, List.length_nil, List.cons_append, List.nil_append, List.getElem?_cons_zero, List.getElem?_cons_succ, Option.some.injEq, exists_eq_left', exists_eq_left, exists_eq_right, exists_eq_right', D.bl.injEq, D.int.injEq, D.str.injEq, D.tup.injEq, D.lst.injEq, D.fn.injEq, D.sq.injEq, D.exn.injEq, List.cons.injEq, and_true, true_and, and_self, exists_and_left, exists_and_right, Option.isSome_some, List.set_cons_zero, List.set_cons_succ, if_true, Bool.false_eq_true, if_false, Bool.not_true, Bool.not_false, reduceCtorEq, List.replicate, Nat.reduceSub, Nat.reduceAdd])
section
variable {P : Program} {w : World} {K : PySem.W.Frag} {mg : Str → Option Value} {base : Heap}
end
theorem op12 {p : Addr} {C : WS} {N : Sl → Prop} {R : D → Prop} {Z : Addr → D → Prop} (h : ∀ x2 a b c, gs 1 a = true → gs 1 b = true → gs 1 c = true → C [some (.src p), some (.lst [a, b, c]), x2, none, none, none, none] N R Z) :
    gSeq (gSet 1 (wLst (waCons (wCall fOne (waCons (wVar 0) (waCons (wLst (waCons (wC (D.str (Str.ofString "add"))) (waCons (wC (D.str (Str.ofString "sub"))) (waCons (wC (D.str (Str.ofString "mul"))) (waCons (wC (D.str (Str.ofString "less"))) waNil))))) waNil))) waNil)))
      (gSeq (gCL 1 2 (wVar 1) (wLc 5 (wiRange (wC (D.int 2))) (wCall fOne (waCons (wVar 0) (waCons (wLst (waCons (wC (D.int 0)) (waCons (wC (D.int 1)) (waCons (wC (D.int 9972)) (waCons (wCall fTake (waCons (wVar 0) (waCons (wC (D.int 9973)) waNil))) waNil))))) waNil))))
        (wiRange (wC (D.int 3))) (wTest (wOp dEq (wCall fTake (waCons (wVar 0) (waCons (wC (D.int 4)) waNil))) (wC (D.int 0)))) (wCall (fun es P => ∃ p, es = [D.src p] ∧ ∀ (d : D), gs 1 d = true → P d) (waCons (wVar 0) waNil))) C)
      (startD ["_law_source", "_law_parts", "_law_at", "_law_wrong", "_law_told", "_law_k", "_law_one_here"] [D.src p]) N R Z := by
  walk_at "red"
  have small : ∀ {r : Int}, 0 ≤ r → r < 9973 → gs 1 (.int r) = true := fun h0 h1 => gs_up (gs_int h0 h1)
  refine ⟨line_big (by omega), p, _, rfl, by simp, by simp only [List.length_cons, List.length_nil]; omega, fun d hd => ⟨line_big (by omega), by decide, by decide, by rw [intsD_len]; exact Nat.lt_of_lt_of_le (show (2 : Int).toNat < 100000 by decide) (line_big (Nat.le_refl _)),
    wEach_any (Y := fun d => gs 1 d = true) (fun x _ P' hP => ⟨p, 9973, rfl, by decide, by decide, fun r r0 r1 => ⟨line_big (by omega), p, _, rfl, by simp, by simp only [List.length_cons, List.length_nil]; omega, fun e he => hP e ?_⟩⟩) fun ys hl hy => ?_⟩⟩
  · simp only [List.mem_cons, List.not_mem_nil, or_false] at he
    rcases he with rfl | rfl | rfl | rfl
    · decide +kernel
    · decide +kernel
    · decide +kernel
    · exact small r0 r1
  have gd0 : gs 1 d = true := by
    simp only [List.mem_cons, List.not_mem_nil, or_false] at hd
    rcases hd with rfl | rfl | rfl | rfl <;> decide +kernel
  rw [intsD_len] at hl
  have hl2 : ys.length = 2 := hl
  refine ⟨line_big (by omega), fun q => ⟨by decide, by decide, fun m ds dv => (∃ x2, ds = [some (.src p), some (.fn q), x2, none, none, none, none]) ∧ dv.length = 3 ∧ ∀ y ∈ dv, gs 1 y = true, ⟨⟨_, rfl⟩, by rw [List.length_cons, hl2], fun y hy' => ?_⟩, ?_, ?_⟩⟩
  · rcases List.mem_cons.mp hy' with e | e
    · rw [e]; exact gd0
    · exact hy y e
  · rintro m x ds' dv hx ⟨⟨x2, rfl⟩, hdl, hg⟩
    obtain ⟨k, hk, rfl⟩ := mem_intsD (List.mem_of_getElem? hx)
    have hk3 : k < 3 := hk
    refine ⟨rfl, .src p, rfl, p, 4, rfl, by decide, by decide, fun r r0 r1 => ?_⟩
    by_cases e : r = 0
    · exact ifT (c := decide (r = 0)) (decide_eq_true e) ⟨.src p, rfl, ⟨p, rfl⟩, fun d hd => ⟨k, rfl, by omega, ⟨_, rfl⟩, by rw [List.length_set]; exact hdl, fun y hy => (List.mem_or_eq_of_mem_set hy).elim (hg y) fun e => e ▸ hd⟩⟩
    · exact ifF (c := decide (r = 0)) (decide_eq_false e) ⟨⟨_, rfl⟩, hdl, hg⟩
  · rintro ds' dv ⟨⟨x2, rfl⟩, hdl, hg⟩
    match dv, hdl, hg with
    | [a, b, c], _, hg => exact ⟨rfl, h x2 a b c (hg a (by simp)) (hg b (by simp)) (hg c (by simp))⟩
def toldD (a b c : D) : D := if (!isOp a) = true then D.lst [a] else if (!isVal b) = true then D.lst [b] else if (!isVal c) = true then D.lst [c] else reckD a b c
theorem op3 {p : Addr} {x2 : Option D} {a b c : D} (ga : Good a) (gb : Good b) (gc : Good c) {C : WS} {N : Sl → Prop} {R : D → Prop} {Z : Addr → D → Prop}
    (h : C [some (.src p), some (.lst [a, b, c]), x2, some (.lst [.bl (!isOp a), .bl (!isVal b), .bl (!isVal c)]), some (toldD a b c), none, none] N R Z) :
    gSeq (gSet 3 (wOp dAdd (wLst (waCons (wNot (wCall (pure1 DL.Good fun d => D.bl (isOp d)) (waCons (wOp dIx (wVar 1) (wC (D.int 0))) waNil))) waNil))
        (wLc 6 (wiLst (wSl dSl (wVar 1) (woSome (wC (D.int 1))) woNone)) (wNot (wCall (fun es P => ∃ d top, es = [d, D.int top] ∧ DL.Good d ∧ P (D.bl (isWithin d 0 top))) (waCons (wVar 6) (waCons (wC (D.int 9972)) waNil)))))))
      (gSeq (gSet 4 (wCall (fun es P => ∃ a b c, es = [a, b, c] ∧ DL.Good a ∧ DL.Good b ∧ DL.Good c ∧ P (if (!isOp a) = true then D.lst [a] else if (!isVal b) = true then D.lst [b] else if (!isVal c) = true then D.lst [c] else reckD a b c))
          (waCons (wOp dIx (wVar 1) (wC (D.int 0))) (waCons (wOp dIx (wVar 1) (wC (D.int 1))) (waCons (wOp dIx (wVar 1) (wC (D.int 2))) waNil))))) C)
      [some (.src p), some (.lst [a, b, c]), x2, none, none, none, none] N R Z := by
  walk_at "red"
  rw [cut_1]
  refine ⟨ga, line_big (by omega), Nat.lt_of_lt_of_le (show 2 < 100000 by decide) (line_big (Nat.le_refl _)), wEach_pure (fun d => .bl (!isVal d)) (fun x hx P' hq => ⟨x, 9972, ⟨rfl, rfl⟩, ?_, hq⟩) ⟨line_big (show 3 ≤ 100000 by decide), a, b, c, ⟨rfl, rfl, rfl⟩, ga, gb, gc, h⟩⟩
  simp only [List.mem_cons, List.not_mem_nil, or_false] at hx
  rcases hx with rfl | rfl
  · exact gb
  · exact gc
theorem op4 {p : Addr} {x2 : Option D} {a b c : D} (ga : gs 1 a = true) (gb : gs 1 b = true) (gc : gs 1 c = true) {N : Sl → Prop} {R : D → Prop} {Z : Addr → D → Prop} (h : R (.bl true)) :
    gSeq (gIf (wTest (wOp dIn (wC (D.bl true)) (wVar 3))) (gRet (wOp dEq (wCall fRepr (waCons (wVar 4) waNil)) (wCall fRepr (waCons (wLst (waCons (wOp dIx (wVar 1) (wIndex (wVar 3) (wC (D.bl true)))) waNil)) waNil)))) gNext)
      (gRet (wOp dEq (wVar 4) (wCall (fun es P => ∃ op i j, es = [D.str op, D.int i, D.int j] ∧ op ∈ OPS ∧ 0 ≤ i ∧ i ≤ 9972 ∧ 0 ≤ j ∧ j ≤ 9972 ∧ P (D.int (reck op i j)))
          (waCons (wOp dIx (wVar 1) (wC (D.int 0))) (waCons (wOp dIx (wVar 1) (wC (D.int 1))) (waCons (wOp dIx (wVar 1) (wC (D.int 2))) waNil))))))
      [some (.src p), some (.lst [a, b, c]), x2, some (.lst [.bl (!isOp a), .bl (!isVal b), .bl (!isVal c)]), some (toldD a b c), none, none] N R Z := by
  walk_at "red"
  have sm : ∀ {d : D}, gs 1 d = true → Sm (.lst [d]) := fun hd => by
    unfold Sm
    simp only [gs, Bool.and_eq_true, decide_eq_true_eq, List.all_eq_true]
    exact ⟨by simp, fun x hx => by rw [List.mem_singleton.mp hx]; exact gs_up hd⟩
  have fin : ∀ {d : D} (k : Nat), gs 1 d = true → toldD a b c = .lst [d] → [!isOp a, !isVal b, !isVal c][k]? = some true → (∀ m, m < k → [!isOp a, !isVal b, !isVal c][m]? ≠ some true) → atI [a, b, c] (k : Int) = some d → true ∈ [!isOp a, !isVal b, !isVal c] →
      (if decide (true ∈ [!isOp a, !isVal b, !isVal c]) = true then
        (toldD a b c).pl = true ∧ (toldD a b c).py.showable = true ∧ (toldD a b c).py.hasDict = false ∧ (toldD a b c).py.depth ≤ 60 ∧ (toldD a b c).py.shown.length ≤ sizeLine ∧
          ∃ x : Nat, [!isOp a, !isVal b, !isVal c][x]? = some true ∧ (∀ m, m < x → [!isOp a, !isVal b, !isVal c][m]? ≠ some true) ∧
            ∃ d, atI [a, b, c] (x : Int) = some d ∧ 1 ≤ sizeLine ∧ (D.lst [d]).pl = true ∧ (D.lst [d]).py.showable = true ∧ (D.lst [d]).py.hasDict = false ∧ (D.lst [d]).py.depth ≤ 60 ∧ (D.lst [d]).py.shown.length ≤ sizeLine ∧ R (D.bl (decide ((toldD a b c).py.shown = (D.lst [d]).py.shown)))
      else
        ∃ op i j, (a = D.str op ∧ b = D.int i ∧ c = D.int j) ∧ op ∈ OPS ∧ 0 ≤ i ∧ i ≤ 9972 ∧ 0 ≤ j ∧ j ≤ 9972 ∧ dEq (toldD a b c) (D.int (reck op i j)) R) := fun {d} k hd ht h1 h2 h3 h4 => by
    have z := sm hd
    rw [ht]
    exact ifT (decide_eq_true h4) ⟨z.pl, z.sh, z.nd, z.dp, z.sz, k, h1, h2, d, h3, line_big (by omega), z.pl, z.sh, z.nd, z.dp, z.sz, by rw [decide_eq_true rfl]; exact h⟩
  cases h1 : isOp a with
  | false =>
    have := fin 0 ga (by simp only [toldD, h1, Bool.not_false, if_true]) (by simp [h1]) (fun m hm => absurd hm (Nat.not_lt_zero m)) at_0 (by simp [h1])
    simpa only [h1, dEq] using this
  | true =>
    cases h2 : isVal b with
    | false =>
      have := fin 1 gb (by simp [toldD, h1, h2]) (by simp [h1, h2]) (fun m hm => by
        have : m = 0 := by omega
        subst this
        simp [h1]) at_1 (by simp [h1, h2])
      simpa only [h1, h2, dEq] using this
    | true =>
      cases h3 : isVal c with
      | false =>
        have := fin 2 gc (by simp [toldD, h1, h2, h3]) (by simp [h1, h2, h3]) (fun m hm => by
          have : m = 0 ∨ m = 1 := by omega
          rcases this with rfl | rfl
          · simp [h1]
          · simp [h2]) at_2 (by simp [h1, h2, h3])
        simpa only [h1, h2, h3, dEq] using this
      | true =>
        obtain ⟨op, rfl⟩ := isOp_str h1
        obtain ⟨i, rfl, i0, i1⟩ := isVal_int h2
        obtain ⟨j, rfl, j0, j1⟩ := isVal_int h3
        refine ifF (by simp) ⟨op, i, j, ⟨rfl, rfl, rfl⟩, by simpa [isOp] using h1, i0, i1, j0, j1, ?_⟩
        have e : toldD (.str op) (.int i) (.int j) = .int (reck op i j) := by
          simp only [toldD, h1, h2, h3, Bool.not_true, Bool.false_eq_true, if_false]
          rfl
        rw [e]
        show R (.bl (decide (reck op i j = reck op i j)))
        rw [decide_eq_true rfl]
        exact h
section
variable {P : Program} {w : World} {K : PySem.W.Frag} {mg : Str → Option Value} {base : Heap}
theorem ok_lop_holds (T : Txt K mg) : FnG P w K mg base CX0 6 T.d_lop_holds.f T.d_lop_holds.fd ["_law_source"] (spD fun es P _ => (fun es P => ∃ p, es = [.src p] ∧ P (.bl true)) es P) :=
  fnG_ok T.d_lop_holds.F sc_lop_holds (fun es P h => by first | exact pure1_len h | exact pure2_len h | exact pure3_len h | (obtain ⟨_, rfl, _⟩ := h; rfl) | (obtain ⟨_, _, rfl, _⟩ := h; rfl) | (obtain ⟨_, _, _, rfl, _⟩ := h; rfl) | (obtain ⟨_, _, _, _, rfl, _⟩ := h; rfl)) (fun cdv A outer s H E hgd hr => ⟨_,
    (wss_cons (ws_set (i := 1) sc_lop_holds.nd rfl (by first | exact .inl rfl | exact .inr rfl) (we_lst (wa_cons (we_call (ok_lone T) (hr.mono (by decide)) rfl T.d_lone.m T.d_lone.F.kp T.d_lone.b (wa_cons (we_var (pv 0)) (wa_cons (we_lst (wa_cons (we_c pe_str) (wa_cons (we_c pe_str) (wa_cons (we_c pe_str) (wa_cons (we_c pe_str) wa_nil))))) wa_nil))) wa_nil)))
      (wss_catLoop (i := 1) (j := 2) sc_lop_holds.nd rfl (by first | exact .inl rfl | exact .inr rfl) (we_var (pv 1)) (we_lc (i := 5) (x := "_law_k") rfl sc_lop_holds.nd (wi_range rfl T.n_range (we_c pe_int)) (blkOk_by (N := ["_law_source", "_law_parts", "_law_at", "_law_wrong", "_law_told", "_law_k", "_law_one_here"]) (sc := defScope s_lop_holds) (by decide +kernel)) (fun _ _ _ _ _ => pg_name sc_lop_holds.nd rfl (Or.inl rfl)) (fun _ _ _ _ _ => (we_call (ok_lone T) (hr.mono (by decide)) rfl T.d_lone.m T.d_lone.F.kp T.d_lone.b (wa_cons (we_var (pv 0)) (wa_cons (we_lst (wa_cons (we_c pe_int) (wa_cons (we_c pe_int) (wa_cons (we_c pe_int) (wa_cons (we_call (ok_ltake T) (hr.mono (by decide)) rfl T.d_ltake.m T.d_ltake.F.kp T.d_ltake.b (wa_cons (we_var (pv 0)) (wa_cons (we_c pe_int) wa_nil))) wa_nil))))) wa_nil))))) PassesOwn.never rfl (wi_range rfl T.n_range (we_c pe_int)) (pg_name (i := 2) sc_lop_holds.nd rfl (by first | exact .inl rfl | exact .inr rfl)) (wt_cmp (op_dEq hr.units) (we_call (ok_ltake T) (hr.mono (by decide)) rfl T.d_ltake.m T.d_ltake.F.kp T.d_ltake.b (wa_cons (we_var (pv 0)) (wa_cons (we_c pe_int) wa_nil))) (we_c pe_int) (nomark _)) (we_call (ok_lstrange T) (hr.mono (by decide)) rfl T.d_lstrange.m T.d_lstrange.F.kp T.d_lstrange.b (wa_cons (we_var (pv 0)) wa_nil)) (pv 1) (pv 2)
      (wss_cons (ws_set (i := 3) sc_lop_holds.nd rfl (by first | exact .inl rfl | exact .inr rfl) (we_op op_dAdd (we_lst (wa_cons (we_not (we_call (ok_lfits_op T) (hr.mono (by decide)) rfl T.d_lfits_op.m T.d_lfits_op.F.kp T.d_lfits_op.b (wa_cons (we_ix (we_var (pv 1)) (we_c pe_int)) wa_nil))) wa_nil)) (we_lc (i := 6) (x := "_law_one_here") rfl sc_lop_holds.nd (wi_lst (we_sl (we_var (pv 1)) (wo_some (we_c pe_int)) wo_none)) (blkOk_by (N := ["_law_source", "_law_parts", "_law_at", "_law_wrong", "_law_told", "_law_k", "_law_one_here"]) (sc := defScope s_lop_holds) (by decide +kernel)) (fun _ _ _ _ _ => pg_name sc_lop_holds.nd rfl (Or.inl rfl)) (fun _ _ _ _ _ => (we_not (we_call (ok_lfits_number T) (hr.mono (by decide)) rfl T.d_lfits_number.m T.d_lfits_number.F.kp T.d_lfits_number.b (wa_cons (we_var (pv 6)) (wa_cons (we_c pe_int) wa_nil))))))))
      (wss_cons (ws_set (i := 4) sc_lop_holds.nd rfl (by first | exact .inl rfl | exact .inr rfl) (we_call (ok_lmade T) (hr.mono (by decide)) rfl T.d_lmade.m T.d_lmade.F.kp T.d_lmade.b (wa_cons (we_ix (we_var (pv 1)) (we_c pe_int)) (wa_cons (we_ix (we_var (pv 1)) (we_c pe_int)) (wa_cons (we_ix (we_var (pv 1)) (we_c pe_int)) wa_nil)))))
      (wss_cons (ws_if (wt_cmp op_dIn (we_c pe_bl) (we_var (pv 3)) (by with_unfolding_all rfl))
        (wss_one (ws_ret (we_cmp (op_dEq hr.units) (we_callB (call_fRepr hgd hr.units) rfl T.n_repr boot_reprB (wa_cons (we_var (pv 4)) wa_nil)) (we_callB (call_fRepr hgd hr.units) rfl T.n_repr boot_reprB (wa_cons (we_lst (wa_cons (we_ix (we_var (pv 1)) (we_index (we_var (pv 3)) (we_c pe_bl))) wa_nil)) wa_nil)) (nomark _))))
        wss_nil)
      (wss_one (ws_ret (we_cmp (op_dEq hr.units) (we_var (pv 4)) (we_call (ok_lreckoned T) (hr.mono (by decide)) rfl T.d_lreckoned.m T.d_lreckoned.F.kp T.d_lreckoned.b (wa_cons (we_ix (we_var (pv 1)) (we_c pe_int)) (wa_cons (we_ix (we_var (pv 1)) (we_c pe_int)) (wa_cons (we_ix (we_var (pv 1)) (we_c pe_int)) wa_nil)))) (nomark _))))))))),
    fun es P h => by
      obtain ⟨p, rfl, hp⟩ := h
      exact op12 fun x2 a b c ga gb gc => op3 (gd_le (by decide) (gs_gd ga)) (gd_le (by decide) (gs_gd gb)) (gd_le (by decide) (gs_gd gc)) (op4 ga gb gc hp)⟩)
end
end K00

set_option maxHeartbeats 2000000
namespace K00
open PySem PySem.Spec PyProof.Rows L2 DL
local macro_rules | `(tactic| walk_at "red") => `(tactic| simp only [gCL, fLenQ, dIxQ, wNeK, wIndex, gTryRet, gTryDrop, wzCall, wzCallL, wTold, fIsE, fRepr, wJoin, wDGet, wVals, dPow, wSrc, gSrcSet, dMulS, dFdivS, fInt, fMax, fTuple, fList, startD, gNext, gSeq, gRet, gSet, gIf, gDrop, gRaise, gFor, wVar, wC, wOp, wTest, wChain, wAnd, wOr, wNot, wtAnd, wtOr, wtNot, wIf, waNil, waCons, wTup, wLst, wCall, quiet, wIsi, wInK, wLc, wiStr, wiTup, wiLst, wiRange, wSl, woNone, woSome, dSl, wNeg, dNeg, fLen, fAll, dEq, dNe, dLe, dLt, dGe, dGt, dAdd, dSub, dMod, dIx, dIn, dIsB, strsOf, boolsOf, DL.tyD_non, at_0, at_1, at_2, at_3, at_4, DL.isInt_non, DL.isStr_non, DL.isBl_non, DL.isTup_non, DL.isLst_non, DL.tyD_bl, DL.isInt_bl, DL.isStr_bl, DL.isBl_bl, DL.isTup_bl, DL.isLst_bl, DL.tyD_int, DL.isInt_int, DL.isStr_int, DL.isBl_int, DL.isTup_int, DL.isLst_int, DL.tyD_str, DL.isInt_str, DL.isStr_str, DL.isBl_str, DL.isTup_str, DL.isLst_str, DL.tyD_lst, DL.isInt_lst, DL.isStr_lst, DL.isBl_lst, DL.isTup_lst, DL.isLst_lst, DL.tyD_tup, DL.isInt_tup, DL.isStr_tup, DL.isBl_tup, DL.isTup_tup, DL.isLst_tup, pure1, pure2, pure3, Option.map_some,
  List.map_cons, List.map_nil, List.length_cons, List.length_nil, List.cons_append, List.nil_append, List.getElem?_cons_zero, List.getElem?_cons_succ, Option.some.injEq, exists_eq_left', exists_eq_left, exists_eq_right, exists_eq_right', D.bl.injEq, D.int.injEq, D.str.injEq, D.tup.injEq, D.lst.injEq, D.fn.injEq, D.sq.injEq, D.exn.injEq, List.cons.injEq, and_true, true_and, and_self, exists_and_left, exists_and_right, Option.isSome_some, List.set_cons_zero, List.set_cons_succ, if_true, Bool.false_eq_true, if_false, Bool.not_true, Bool.not_false, reduceCtorEq, List.replicate, Nat.reduceSub, Nat.reduceAdd])
section
variable {P : Program} {w : World} {K : PySem.W.Frag} {mg : Str → Option Value} {base : Heap}
def fPool (K : PySem.W.Frag) : DFn := fun es P => ∃ xs : List Int, es = [.sq K xs, .int 0] ∧ ∀ x y : Int, 0 ≤ y → y < 2147483647 → P (.lst [.int x, .int y])
theorem ok_lpool (T : Txt K mg) : FnOk P w K mg base CX0 1 T.d_lpool.f T.d_lpool.fd ["_law_script", "_law_k"] (spD fun es P _ => (fPool K) es P) :=
  fn_ok T.d_lpool.F sc_lpool (fun es P h => by first | exact pure1_len h | exact pure2_len h | exact pure3_len h | (obtain ⟨_, rfl, _⟩ := h; rfl) | (obtain ⟨_, _, rfl, _⟩ := h; rfl) | (obtain ⟨_, _, _, rfl, _⟩ := h; rfl) | (obtain ⟨_, _, _, _, rfl, _⟩ := h; rfl)) (fun cdv A outer s H E hr => ⟨_,
    (wss_cons (ws_set (i := 2) sc_lpool.nd rfl (by first | exact .inl rfl | exact .inr rfl) (we_c pe_int))
      (wss_cons (ws_if (wt_cmp op_dLt (we_var (pv 1)) (we_callB call_fLenQ rfl T.n_len boot_lenB (wa_cons (we_var (pv 0)) wa_nil)) (nomark _))
        (wss_one (ws_set (i := 2) sc_lpool.nd rfl (by first | exact .inl rfl | exact .inr rfl) (we_ixQ (we_var (pv 0)) (we_var (pv 1)))))
        wss_nil)
      (wss_cons (ws_set (i := 3) sc_lpool.nd rfl (by first | exact .inl rfl | exact .inr rfl) (we_callB (call_fMax rfl) rfl T.n_max boot_maxB (wa_cons (we_callTy call_fInt rfl T.n_int boot_intT (wa_cons (we_var (pv 2)) wa_nil)) (wa_cons (we_callTy call_fInt rfl T.n_int boot_intT (wa_cons (we_op op_dSub (we_neg (we_c pe_int)) (we_var (pv 2))) wa_nil)) wa_nil))))
      (wss_cons (ws_set (i := 4) sc_lpool.nd rfl (by first | exact .inl rfl | exact .inr rfl) (we_op op_dMod (we_callTy call_fInt rfl T.n_int boot_intT (wa_cons (we_op op_dMulS (we_op op_dAdd (we_op op_dAdd (we_op op_dAdd (we_op op_dMod (we_callTy call_fInt rfl T.n_int boot_intT (wa_cons (we_var (pv 3)) wa_nil)) (we_c pe_int)) (we_op op_dMulS (we_op op_dMulS (we_c pe_int) (we_var (pv 1))) (we_var (pv 1)))) (we_op op_dMulS (we_c pe_int) (we_var (pv 1)))) (we_c pe_int)) (we_c pe_int)) wa_nil)) (we_c pe_int)))
      (wss_one (ws_ret (we_lst (wa_cons (we_op op_dMulS (we_var (pv 3)) (we_callTy call_fInt rfl T.n_int boot_intT (wa_cons (we_cmp op_dGe (we_var (pv 3)) (we_op op_dPow (we_c pe_int) (we_c pe_int)) (nomark _)) wa_nil))) (wa_cons (we_var (pv 4)) wa_nil))))))))),
    fun es P h => by
      obtain ⟨xs, rfl, hp⟩ := h
      walk_at "red"
      have tail : ∀ b : Int, 0 < (2147483629 : Int) ∧ CMul 7919 0 ∧ CMul (7919 * 0) 0 ∧ CMul 31 0 ∧ CMul (b % 2147483629 + 7919 * 0 * 0 + 31 * 0 + 17) 48271 ∧ 0 < (2147483647 : Int) ∧ CPow 10 18 ∧
          CMul b (if decide (10 ^ Int.toNat 18 ≤ b) = true then 1 else 0) ∧ 2 ≤ sizeLine ∧
          P (D.lst [D.int (b * if decide (10 ^ Int.toNat 18 ≤ b) = true then 1 else 0), D.int ((b % 2147483629 + 7919 * 0 * 0 + 31 * 0 + 17) * 48271 % 2147483647)]) := fun b =>
        ⟨by decide, .inl ⟨by decide, by decide⟩, .inl ⟨by decide, by decide⟩, .inl ⟨by decide, by decide⟩, .inr ⟨by decide, by decide⟩, by decide, ⟨by decide, by decide, by decide⟩, .inr (by split <;> exact ⟨by decide, by decide⟩), line_big (by omega),
          hp _ _ (Int.emod_nonneg _ (by decide)) (Int.emod_lt_of_pos _ (by decide))⟩
      cases xs with
      | nil => exact ⟨_, ⟨rfl, rfl⟩, ifF rfl (tail _)⟩
      | cons i r => exact ⟨_, ⟨rfl, rfl⟩, ifT (decide_eq_true (by simp only [List.length_cons]; omega)) ⟨_, ⟨rfl, rfl⟩, i, atI_nat (j := 0) rfl, tail _⟩⟩⟩)
end
end K00

set_option maxHeartbeats 2000000
namespace K00
open PySem PySem.Spec PyProof.Rows L2 DL
local macro_rules | `(tactic| walk_at "red") => `(tactic| simp only [gCL, fLenQ, dIxQ, wNeK, wIndex, gTryRet, gTryDrop, wzCall, wzCallL, wTold, fIsE, fRepr, wJoin, wDGet, wVals, dPow, wSrc, gSrcSet, dMulS, dFdivS, fInt, fMax, fTuple, fList, startD, gNext, gSeq, gRet, gSet, gIf, gDrop, gRaise, gFor, wVar, wC, wOp, wTest, wChain, wAnd, wOr, wNot, wtAnd, wtOr, wtNot, wIf, waNil, waCons, wTup, wLst, wCall, quiet, wIsi, wInK, wLc, wiStr, wiTup, wiLst, wiRange, wSl, woNone, woSome, dSl, wNeg, dNeg, fLen, fAll, dEq, dNe, dLe, dLt, dGe, dGt, dAdd, dSub, dMod, dIx, dIn, dIsB, strsOf, boolsOf, DL.tyD_non, at_0, at_1, at_2, at_3, at_4, DL.isInt_non, DL.isStr_non, DL.isBl_non, DL.isTup_non, DL.isLst_non, DL.tyD_bl, DL.isInt_bl, DL.isStr_bl, DL.isBl_bl, DL.isTup_bl, DL.isLst_bl, DL.tyD_int, DL.isInt_int, DL.isStr_int, DL.isBl_int, DL.isTup_int, DL.isLst_int, DL.tyD_str, DL.isInt_str, DL.isStr_str, DL.isBl_str, DL.isTup_str, DL.isLst_str, DL.tyD_lst, DL.isInt_lst, DL.isStr_lst, DL.isBl_lst, DL.isTup_lst, DL.isLst_lst, DL.tyD_tup, DL.isInt_tup, DL.isStr_tup, DL.isBl_tup, DL.isTup_tup, DL.isLst_tup, pure1, pure2, pure3, Option.map_some,
  List.map_cons, List.map_nil, List.length_cons, List.length_nil, List.cons_append, List.nil_append, List.getElem?_cons_zero, List.getElem?_cons_succ, Option.some.injEq, exists_eq_left', exists_eq_left, exists_eq_right, exists_eq_right', D.bl.injEq, D.int.injEq, D.str.injEq, D.tup.injEq, D.lst.injEq, D.fn.injEq, D.sq.injEq, D.exn.injEq, List.cons.injEq, and_true, true_and, and_self, exists_and_left, exists_and_right, Option.isSome_some, List.set_cons_zero, List.set_cons_succ, if_true, Bool.false_eq_true, if_false, Bool.not_true, Bool.not_false, reduceCtorEq, List.replicate, Nat.reduceSub, Nat.reduceAdd])
section
variable {P : Program} {w : World} {K : PySem.W.Frag} {mg : Str → Option Value} {base : Heap}
end
theorem turnA {p : Addr} {x2 x3 x4 : Option D} {C : WS} {N : Sl → Prop} {R : D → Prop} {Z : Addr → D → Prop} (h : ∀ d, Sm d → C [none, some (.src p), x2, some d, x4] N R Z) :
    gSeq (gSet 3 (wCall (fun es P => ∃ p, es = [D.src p] ∧ ∀ (xs : List D), SmRow xs → P (D.tup xs)) (waCons (wVar 1) waNil)))
      (gSeq (gIf (wTest (wOp dEq (wCall fTake (waCons (wVar 1) (waCons (wC (D.int 2)) waNil))) (wC (D.int 0))))
          (gSet 3 (wCall (fun es P => ∃ p xs, es = [D.src p, D.tup xs] ∧ SmRow xs ∧ ∀ (d : D), gs 2 d = true → P d) (waCons (wVar 1) (waCons (wVar 3) waNil)))) gNext) C)
      [none, some (.src p), x2, x3, x4] N R Z := by
  walk_at "red"
  refine ⟨⟨p, rfl⟩, fun xs hx => ⟨p, 2, rfl, by decide, by decide, fun r r0 r1 => ?_⟩⟩
  by_cases e : r = 0
  · exact ifT (c := decide (r = 0)) (decide_eq_true e) ⟨_, xs, ⟨rfl, rfl⟩, hx, fun d hd => h d (gs_up hd)⟩
  · refine ifF (c := decide (r = 0)) (decide_eq_false e) (h _ (sm_tup (Nat.le_trans hx.2.1 (by decide)) fun y hy => gs_up (hx.2.2 y hy)))
theorem turnB {p : Addr} {x2 x4 : Option D} {d : D} (ok : Sm d) {N : Sl → Prop} {R : D → Prop} {Z : Addr → D → Prop} (h : ∀ x4, N [none, some (.src p), x2, some d, x4]) :
    gSeq (gIf (wtOr (wtNot (wTest (wCall (fun es P => ∃ d, es = [d] ∧ Sm d ∧ P (D.bl true)) (waCons (wVar 3) waNil)))) (wtNot (wTest (wCall (fun es P => ∃ p, es = [D.src p] ∧ P (D.bl true)) (waCons (wVar 1) waNil))))) (gRet (wC (D.bl false))) gNext)
      (gSeq (gSet 4 (wCall (fun es P => ∃ p, es = [D.src p] ∧ ∀ (d : D), gs 1 d = true → P d) (waCons (wVar 1) waNil)))
        (gIf (wtOr (wTest (wOp dNe (wOp dIsB (wCall (pure1 DL.Good fun d => D.bl (isOperand d)) (waCons (wVar 4) waNil)) (wC (D.bl true))) (wCall (pure1 DL.Good fun d => D.bl (isOperand d)) (waCons (wVar 4) waNil))))
            (wtNot (wTest (wCall (fun es P => ∃ d, es = [d] ∧ Sm d ∧ P (D.bl true)) (waCons (wVar 4) waNil))))) (gRet (wC (D.bl false))) gNext))
      [none, some (.src p), x2, some d, x4] N R Z := by
  walk_at "red"
  refine ⟨ok, ⟨p, rfl⟩, ⟨p, rfl⟩, fun e he => ⟨gd_le (by decide) (gs_gd he), gd_le (by decide) (gs_gd he), ifF ?_ ⟨gs_up (gs_up he), h _⟩⟩⟩
  cases isOperand e <;> rfl
theorem lawT {p C : Addr} {B : WS} {N : Sl → Prop} {R : D → Prop} {Z : Addr → D → Prop} (hB : ∀ x2 x3 x4 (N' : Sl → Prop), (∀ y3 y4, N' [none, some (.src p), x2, y3, y4]) → B [none, some (.src p), x2, x3, x4] N' R Z) (hR : R (.bl true)) :
    gSeq (gIf (wTest (wNeK [Str.ofString "add", Str.ofString "sub", Str.ofString "mul", Str.ofString "less"] (wTup (waCons (wC (D.str (Str.ofString "add"))) (waCons (wC (D.str (Str.ofString "sub"))) (waCons (wC (D.str (Str.ofString "mul"))) (waCons (wC (D.str (Str.ofString "less"))) waNil))))))) (gRet (wC (D.bl false))) gNext)
      (gSeq (gFor 2 (wiRange (wC (D.int 16))) B)
        (gRet (wOp dEq (wCall (quiet (gReck C)) (waCons (wC (D.str (Str.ofString "sub"))) (waCons (wC (D.int 3)) (waCons (wC (D.int 5)) waNil)))) (wC (D.int 9971)))))
      [none, some (.src p), none, none, none] N R Z := by
  walk_at "red"
  refine ⟨line_big (by omega), ⟨rfl, by decide +kernel⟩, by decide +kernel, ifF (by decide +kernel) ⟨by decide, by decide, fun _ ds => ∃ y2 y3 y4, ds = [none, some (.src p), y2, y3, y4], ⟨_, _, _, rfl⟩, ?_, ?_⟩⟩
  · rintro j x ds' _ ⟨y2, y3, y4, rfl⟩
    exact hB (some x) y3 y4 _ fun z3 z4 => ⟨_, _, _, rfl⟩
  · rintro ds' _
    refine ⟨_, _, _, rfl, by unfold DL.Good; decide +kernel, by unfold DL.Good; decide +kernel, by unfold DL.Good; decide +kernel, ?_⟩
    rw [if_neg (by decide +kernel), if_neg (by decide +kernel), if_neg (by decide +kernel)]
    have e : reck "sub" 3 5 = 9971 := by decide +kernel
    show R (.bl (decide (reck "sub" 3 5 = 9971)))
    rw [e]
    exact hR
section
variable {P : Program} {w : World} {K : PySem.W.Frag} {mg : Str → Option Value} {base : Heap}
def spLaw (K : PySem.W.Frag) : Sp := fun vs H Q _ => ∃ (a : Addr) (ns : List Int), vs = [.ref a] ∧ SqL K H a (ns.map V.int) ∧ ∀ H', Q (.bl true) H'
theorem ok_law (T : Txt K mg) : FnG P w K mg base CX0 12 T.d_law.f T.d_law.fd ["_law_script"] (spLaw K) :=
  FnG.of T.d_law.F sc_law (fun vs H Q E h => by obtain ⟨a, ns, rfl, _⟩ := h; rfl) (fun cdv A outer s H vs Q E hgd hr h => ⟨_, PSs.nox (t := tSeq (tAsg (tW _) (gName 1)) (tSW (fun _ _ _ => False) _))
(pss_cons (ps_set (i := 1) sc_law.nd rfl (by first | exact .inl rfl | exact .inr rfl) (we_call (ok_lpool T) (hr.mono (by decide)) rfl T.d_lpool.m T.d_lpool.F.kp T.d_lpool.b (wa_cons (we_var (pv 0)) (wa_cons (we_c pe_int) wa_nil))))
      (wss_cons (ws_if (wt_neK hr.units rfl T.m_OPS (we_tup (wa_cons (we_c pe_str) (wa_cons (we_c pe_str) (wa_cons (we_c pe_str) (wa_cons (we_c pe_str) wa_nil))))) (nomark _))
        (wss_one (ws_ret (we_c pe_bl)))
        wss_nil)
      (wss_cons (ws_for (x := "") PassesOwn.never rfl (wi_range rfl T.n_range (we_c pe_int)) (pg_name (i := 2) sc_law.nd rfl (by first | exact .inl rfl | exact .inr rfl))
        (wss_cons (ws_set (i := 3) sc_law.nd rfl (by first | exact .inl rfl | exact .inr rfl) (we_call (ok_lright_row T) (hr.mono (by decide)) rfl T.d_lright_row.m T.d_lright_row.F.kp T.d_lright_row.b (wa_cons (we_var (pv 1)) wa_nil)))
        (wss_cons (ws_if (wt_cmp (op_dEq hr.units) (we_call (ok_ltake T) (hr.mono (by decide)) rfl T.d_ltake.m T.d_ltake.F.kp T.d_ltake.b (wa_cons (we_var (pv 1)) (wa_cons (we_c pe_int) wa_nil))) (we_c pe_int) (nomark _))
          (wss_one (ws_set (i := 3) sc_law.nd rfl (by first | exact .inl rfl | exact .inr rfl) (we_call (ok_lbent T) (hr.mono (by decide)) rfl T.d_lbent.m T.d_lbent.F.kp T.d_lbent.b (wa_cons (we_var (pv 1)) (wa_cons (we_var (pv 3)) wa_nil)))))
          wss_nil)
        (wss_cons (ws_if (PW.pt (ww_or (wt_not (wt_val (we_callG (ok_lrow_holds T) hgd (hr.mono (by decide)) rfl T.d_lrow_holds.m T.d_lrow_holds.F.kp T.d_lrow_holds.b (wa_cons (we_var (pv 3)) wa_nil)))) (pw_or1 (wt_not (wt_val (we_callG (ok_lop_holds T) hgd (hr.mono (by decide)) rfl T.d_lop_holds.m T.d_lop_holds.F.kp T.d_lop_holds.b (wa_cons (we_var (pv 1)) wa_nil)))))))
          (wss_one (ws_ret (we_c pe_bl)))
          wss_nil)
        (wss_cons (ws_set (i := 4) sc_law.nd rfl (by first | exact .inl rfl | exact .inr rfl) (we_call (ok_lstrange T) (hr.mono (by decide)) rfl T.d_lstrange.m T.d_lstrange.F.kp T.d_lstrange.b (wa_cons (we_var (pv 1)) wa_nil)))
        (wss_one (ws_if (PW.pt (ww_or (wt_cmp (op_dNe hr.units) (we_cmp op_dIsB (we_call (ok_is_operand T) (hr.mono (by decide)) rfl T.d_is_operand.m T.d_is_operand.F.kp T.d_is_operand.b (wa_cons (we_var (pv 4)) wa_nil)) (we_c pe_bl) (nomark _)) (we_call (ok_lfits_operand T) (hr.mono (by decide)) rfl T.d_lfits_operand.m T.d_lfits_operand.F.kp T.d_lfits_operand.b (wa_cons (we_var (pv 4)) wa_nil)) (nomark _)) (pw_or1 (wt_not (wt_val (we_callG (ok_lrow_holds T) hgd (hr.mono (by decide)) rfl T.d_lrow_holds.m T.d_lrow_holds.F.kp T.d_lrow_holds.b (wa_cons (we_var (pv 4)) wa_nil)))))))
          (wss_one (ws_ret (we_c pe_bl)))
          wss_nil)))))))
      (wss_one (ws_ret (we_cmp (op_dEq hr.units) (we_callX (ok_reckoned T) (hr.mono (by decide)) rfl T.d_reckoned.m T.d_reckoned.F.kp T.d_reckoned.b (wa_cons (we_c pe_str) (wa_cons (we_c pe_int) (wa_cons (we_c pe_int) wa_nil)))) (we_c pe_int) (nomark _)))))))
    , by
      obtain ⟨a, ns, rfl, hS, hq⟩ := h
      refine ⟨[], startD ["_law_script", "_law_source", "_law_k", "_law_row", "_law_odd"] [.sq K ns], fun d => ∃ x y : Int, d = .lst [.int x, .int y] ∧ 0 ≤ y ∧ y < 2147483647, start_sl (.cons (.sq ?_) .nil), ⟨by simp, by simp⟩, ?_, fun d hd v H1 e1 q1 => ?_⟩
      · rcases hS with hS | hS
        · exact .inl ⟨by simp [Out], hS⟩
        · exact .inr (.inr hS)
      · exact ⟨_, rfl, ns, rfl, fun x y h0 h1 => ⟨x, y, rfl, h0, h1⟩⟩
      obtain ⟨x, y, rfl, h0, h1⟩ := hd
      cases q1 with
      | lst o1 r1 a1 =>
        cases a1 with
        | cons ax ar =>
          cases ar with
          | cons ay an =>
            cases an
            cases ax
            cases ay
            rename_i p
            refine ⟨[(p, .src)], [none, some (.src p), none, none, none], fun _ => False, fun d => d = .bl true, fun _ _ => False, ⟨rfl, fun i d hd => ?_⟩, ⟨fun q hq => ?_, fun q hq r hr _ => ?_⟩, ?_, fun _ z => z.elim, fun d hd v H' e q => ?_, fun _ _ z => z.elim⟩
            · match i, hd with
              | 1, hd =>
                cases hd
                exact ⟨_, rfl, .src (List.mem_singleton.mpr rfl)⟩
              | 0, hd => cases hd
              | 2, hd => cases hd
              | 3, hd => cases hd
              | 4, hd => cases hd
              | i + 5, hd => cases hd
            · rw [List.mem_singleton.mp hq]
              exact ⟨_, r1, x, y, rfl, h0, h1⟩
            · rw [List.mem_singleton.mp hq, List.mem_singleton.mp hr]
            · exact lawT (fun x2 x3 x4 N' hN' => turnA fun d ok => turnB ok fun y4 => hN' _ y4) rfl
            · subst hd
              cases q
              exact hq H'⟩)
end
end K00

set_option maxHeartbeats 4000000
namespace K00
open PySem PySem.Spec PyProof.Rows L2 DL
theorem all_mk {P : Program} {w : World} {K : PySem.W.Frag} {h : Heap} {mg : Str → Option Value} {fl : Addr} (X : K.In h) (G : h.Ns mainGlobals mg) (hf : mg "law" = some (.ref fl))
    {t_MODULUS t_MOST_ROWS t_MOST_OPERANDS : Tok} {u_OPS0 u_OPS1 u_OPS2 u_OPS3 : Tok} {q_OPS : Addr} {dd_OPS : Option Addr} {n_OPS : Nat} {sl_OPS : Array (Option Value)} {M : Addr}
    (n_all : PySem.W.nsIn K mainGlobals "all" = some none)
    (n_bool : PySem.W.nsIn K mainGlobals "bool" = some none)
    (n_int : PySem.W.nsIn K mainGlobals "int" = some none)
    (n_isinstance : PySem.W.nsIn K mainGlobals "isinstance" = some none)
    (n_len : PySem.W.nsIn K mainGlobals "len" = some none)
    (n_list : PySem.W.nsIn K mainGlobals "list" = some none)
    (n_max : PySem.W.nsIn K mainGlobals "max" = some none)
    (n_range : PySem.W.nsIn K mainGlobals "range" = some none)
    (n_repr : PySem.W.nsIn K mainGlobals "repr" = some none)
    (n_str : PySem.W.nsIn K mainGlobals "str" = some none)
    (n_tuple : PySem.W.nsIn K mainGlobals "tuple" = some none)
    (m_MODULUS : PySem.W.nsIn K mainGlobals "MODULUS" = some (some (.int 9973 t_MODULUS)))
    (m_MOST_ROWS : PySem.W.nsIn K mainGlobals "MOST_ROWS" = some (some (.int 12 t_MOST_ROWS)))
    (m_MOST_OPERANDS : PySem.W.nsIn K mainGlobals "MOST_OPERANDS" = some (some (.int 2 t_MOST_OPERANDS)))
    (a_OPS : PySem.W.nsIn K mainGlobals "OPS" = some (some (.ref q_OPS)))
    (l_OPS : K.lookup q_OPS = some ⟨.type "tuple", dd_OPS, .seq #[.str "add" u_OPS0, .str "sub" u_OPS1, .str "mul" u_OPS2, .str "less" u_OPS3] n_OPS, sl_OPS⟩)
    (a_M : PySem.W.nsIn K mainGlobals "MomentError" = some (some (.ref M)))
    (d_is_number : DnF K "is_number" s_is_number)
    (d_is_within : DnF K "is_within" s_is_within)
    (d_is_value : DnF K "is_value" s_is_value)
    (d_is_name : DnF K "is_name" s_is_name)
    (d_is_listed : DnF K "is_listed" s_is_listed)
    (d_is_tuple_of : DnF K "is_tuple_of" s_is_tuple_of)
    (d_is_op : DnF K "is_op" s_is_op)
    (d_is_operand : DnF K "is_operand" s_is_operand)
    (d_is_row_index : DnF K "is_row_index" s_is_row_index)
    (d_is_set : DnF K "_is_set" s_is_set)
    (d_is_call : DnF K "_is_call" s_is_call)
    (d_are_operands : DnF K "_are_operands" s_are_operands)
    (d_is_pair_row : DnF K "_is_pair_row" s_is_pair_row)
    (d_is_row : DnF K "is_row" s_is_row)
    (d_reckoned : DnF K "reckoned" s_reckoned)
    (d_operands_of : DnF K "operands_of" s_operands_of)
    (d_set_by : DnF K "set_by" s_set_by)
    (d_lpool : DnF K "_law_pool" s_lpool)
    (d_ltake : DnF K "_law_take" s_ltake)
    (d_lone : DnF K "_law_one" s_lone)
    (d_lread : DnF K "_law_read" s_lread)
    (d_lreckoned : DnF K "_law_reckoned" s_lreckoned)
    (d_lfits_name : DnF K "_law_fits_name" s_lfits_name)
    (d_lfits_number : DnF K "_law_fits_number" s_lfits_number)
    (d_lfits_operand : DnF K "_law_fits_operand" s_lfits_operand)
    (d_lfits_op : DnF K "_law_fits_op" s_lfits_op)
    (d_lfits_many : DnF K "_law_fits_many" s_lfits_many)
    (d_lfits_row : DnF K "_law_fits_row" s_lfits_row)
    (d_lstrange : DnF K "_law_strange" s_lstrange)
    (d_lword_of : DnF K "_law_word_of" s_lword_of)
    (d_lsome_operand : DnF K "_law_some_operand" s_lsome_operand)
    (d_lright_row : DnF K "_law_right_row" s_lright_row)
    (d_lbent : DnF K "_law_bent" s_lbent)
    (d_lrefused : DnF K "_law_refused" s_lrefused)
    (d_lrow_holds : DnF K "_law_row_holds" s_lrow_holds)
    (d_lmade : DnF K "_law_made" s_lmade)
    (d_lop_holds : DnF K "_law_op_holds" s_lop_holds)
    (d_law : DnF K "law" s_law)
    (x_NoRow : ExF K "NoRow" "MomentError.__init__" s_MomentError_init M)
    (x_NoValue : ExF K "NoValue" "MomentError.__init__" s_MomentError_init M)
    : ∃ fd : FuncData, (∀ (s : Shared) (u : Value), BindsTo s fd ⟨[u], []⟩ [("_law_script", u)]) ∧ ∀ base : Heap, K.In base → base.Ns mainGlobals mg → FnG P w K mg base CX0 12 fl fd ["_law_script"] (spLaw K) := by
  obtain ⟨e_is_number⟩ := d_is_number.dn (mg := mg) (ps := ["value"]) X G fun _ _ _ _ _ _ us hl => match us, hl with | [_], _ => rfl
  obtain ⟨e_is_within⟩ := d_is_within.dn (mg := mg) (ps := ["value", "low", "high"]) X G fun _ _ _ _ _ _ us hl => match us, hl with | [_, _, _], _ => rfl
  obtain ⟨e_is_value⟩ := d_is_value.dn (mg := mg) (ps := ["value"]) X G fun _ _ _ _ _ _ us hl => match us, hl with | [_], _ => rfl
  obtain ⟨e_is_name⟩ := d_is_name.dn (mg := mg) (ps := ["value"]) X G fun _ _ _ _ _ _ us hl => match us, hl with | [_], _ => rfl
  obtain ⟨e_is_listed⟩ := d_is_listed.dn (mg := mg) (ps := ["value", "most"]) X G fun _ _ _ _ _ _ us hl => match us, hl with | [_, _], _ => rfl
  obtain ⟨e_is_tuple_of⟩ := d_is_tuple_of.dn (mg := mg) (ps := ["value", "many"]) X G fun _ _ _ _ _ _ us hl => match us, hl with | [_, _], _ => rfl
  obtain ⟨e_is_op⟩ := d_is_op.dn (mg := mg) (ps := ["value"]) X G fun _ _ _ _ _ _ us hl => match us, hl with | [_], _ => rfl
  obtain ⟨e_is_operand⟩ := d_is_operand.dn (mg := mg) (ps := ["value"]) X G fun _ _ _ _ _ _ us hl => match us, hl with | [_], _ => rfl
  obtain ⟨e_is_row_index⟩ := d_is_row_index.dn (mg := mg) (ps := ["value"]) X G fun _ _ _ _ _ _ us hl => match us, hl with | [_], _ => rfl
  obtain ⟨e_is_set⟩ := d_is_set.dn (mg := mg) (ps := ["value"]) X G fun _ _ _ _ _ _ us hl => match us, hl with | [_], _ => rfl
  obtain ⟨e_is_call⟩ := d_is_call.dn (mg := mg) (ps := ["value"]) X G fun _ _ _ _ _ _ us hl => match us, hl with | [_], _ => rfl
  obtain ⟨e_are_operands⟩ := d_are_operands.dn (mg := mg) (ps := ["values"]) X G fun _ _ _ _ _ _ us hl => match us, hl with | [_], _ => rfl
  obtain ⟨e_is_pair_row⟩ := d_is_pair_row.dn (mg := mg) (ps := ["word", "part"]) X G fun _ _ _ _ _ _ us hl => match us, hl with | [_, _], _ => rfl
  obtain ⟨e_is_row⟩ := d_is_row.dn (mg := mg) (ps := ["value"]) X G fun _ _ _ _ _ _ us hl => match us, hl with | [_], _ => rfl
  obtain ⟨e_reckoned⟩ := d_reckoned.dn (mg := mg) (ps := ["op", "one", "other"]) X G fun _ _ _ _ _ _ us hl => match us, hl with | [_, _, _], _ => rfl
  obtain ⟨e_operands_of⟩ := d_operands_of.dn (mg := mg) (ps := ["row"]) X G fun _ _ _ _ _ _ us hl => match us, hl with | [_], _ => rfl
  obtain ⟨e_set_by⟩ := d_set_by.dn (mg := mg) (ps := ["row"]) X G fun _ _ _ _ _ _ us hl => match us, hl with | [_], _ => rfl
  obtain ⟨e_lpool⟩ := d_lpool.dn (mg := mg) (ps := ["_law_script", "_law_k"]) X G fun _ _ _ _ _ _ us hl => match us, hl with | [_, _], _ => rfl
  obtain ⟨e_ltake⟩ := d_ltake.dn (mg := mg) (ps := ["_law_source", "_law_top"]) X G fun _ _ _ _ _ _ us hl => match us, hl with | [_, _], _ => rfl
  obtain ⟨e_lone⟩ := d_lone.dn (mg := mg) (ps := ["_law_source", "_law_things"]) X G fun _ _ _ _ _ _ us hl => match us, hl with | [_, _], _ => rfl
  obtain ⟨e_lread⟩ := d_lread.dn (mg := mg) (ps := ["_law_row"]) X G fun _ _ _ _ _ _ us hl => match us, hl with | [_], _ => rfl
  obtain ⟨e_lreckoned⟩ := d_lreckoned.dn (mg := mg) (ps := ["_law_op", "_law_one_here", "_law_other"]) X G fun _ _ _ _ _ _ us hl => match us, hl with | [_, _, _], _ => rfl
  obtain ⟨e_lfits_name⟩ := d_lfits_name.dn (mg := mg) (ps := ["_law_value"]) X G fun _ _ _ _ _ _ us hl => match us, hl with | [_], _ => rfl
  obtain ⟨e_lfits_number⟩ := d_lfits_number.dn (mg := mg) (ps := ["_law_value", "_law_top"]) X G fun _ _ _ _ _ _ us hl => match us, hl with | [_, _], _ => rfl
  obtain ⟨e_lfits_operand⟩ := d_lfits_operand.dn (mg := mg) (ps := ["_law_value"]) X G fun _ _ _ _ _ _ us hl => match us, hl with | [_], _ => rfl
  obtain ⟨e_lfits_op⟩ := d_lfits_op.dn (mg := mg) (ps := ["_law_value"]) X G fun _ _ _ _ _ _ us hl => match us, hl with | [_], _ => rfl
  obtain ⟨e_lfits_many⟩ := d_lfits_many.dn (mg := mg) (ps := ["_law_value"]) X G fun _ _ _ _ _ _ us hl => match us, hl with | [_], _ => rfl
  obtain ⟨e_lfits_row⟩ := d_lfits_row.dn (mg := mg) (ps := ["_law_value"]) X G fun _ _ _ _ _ _ us hl => match us, hl with | [_], _ => rfl
  obtain ⟨e_lstrange⟩ := d_lstrange.dn (mg := mg) (ps := ["_law_source"]) X G fun _ _ _ _ _ _ us hl => match us, hl with | [_], _ => rfl
  obtain ⟨e_lword_of⟩ := d_lword_of.dn (mg := mg) (ps := ["_law_source"]) X G fun _ _ _ _ _ _ us hl => match us, hl with | [_], _ => rfl
  obtain ⟨e_lsome_operand⟩ := d_lsome_operand.dn (mg := mg) (ps := ["_law_source"]) X G fun _ _ _ _ _ _ us hl => match us, hl with | [_], _ => rfl
  obtain ⟨e_lright_row⟩ := d_lright_row.dn (mg := mg) (ps := ["_law_source"]) X G fun _ _ _ _ _ _ us hl => match us, hl with | [_], _ => rfl
  obtain ⟨e_lbent⟩ := d_lbent.dn (mg := mg) (ps := ["_law_source", "_law_row"]) X G fun _ _ _ _ _ _ us hl => match us, hl with | [_, _], _ => rfl
  obtain ⟨e_lrefused⟩ := d_lrefused.dn (mg := mg) (ps := ["_law_action", "_law_value"]) X G fun _ _ _ _ _ _ us hl => match us, hl with | [_, _], _ => rfl
  obtain ⟨e_lrow_holds⟩ := d_lrow_holds.dn (mg := mg) (ps := ["_law_value"]) X G fun _ _ _ _ _ _ us hl => match us, hl with | [_], _ => rfl
  obtain ⟨e_lmade⟩ := d_lmade.dn (mg := mg) (ps := ["_law_op", "_law_one_here", "_law_other"]) X G fun _ _ _ _ _ _ us hl => match us, hl with | [_, _, _], _ => rfl
  obtain ⟨e_lop_holds⟩ := d_lop_holds.dn (mg := mg) (ps := ["_law_source"]) X G fun _ _ _ _ _ _ us hl => match us, hl with | [_], _ => rfl
  obtain ⟨e_law⟩ := d_law.dn (mg := mg) (ps := ["_law_script"]) X G fun _ _ _ _ _ _ us hl => match us, hl with | [_], _ => rfl
  obtain ⟨e_NoRow, z_NoRow⟩ := x_NoRow.ex mg h X G fun _ _ _ _ _ _ us hl => match us, hl with | [_, _], _ => rfl
  obtain ⟨e_NoValue, z_NoValue⟩ := x_NoValue.ex mg h X G fun _ _ _ _ _ _ us hl => match us, hl with | [_, _], _ => rfl
  have T : Nonempty (Txt K mg) := ⟨{ n_all := PySem.W.mg_none_of X G n_all, n_bool := PySem.W.mg_none_of X G n_bool, n_int := PySem.W.mg_none_of X G n_int, n_isinstance := PySem.W.mg_none_of X G n_isinstance, n_len := PySem.W.mg_none_of X G n_len, n_list := PySem.W.mg_none_of X G n_list, n_max := PySem.W.mg_none_of X G n_max, n_range := PySem.W.mg_none_of X G n_range, n_repr := PySem.W.mg_none_of X G n_repr, n_str := PySem.W.mg_none_of X G n_str, n_tuple := PySem.W.mg_none_of X G n_tuple, m_MODULUS := ⟨_, PySem.W.mg_of X G m_MODULUS⟩, m_MOST_ROWS := ⟨_, PySem.W.mg_of X G m_MOST_ROWS⟩, m_MOST_OPERANDS := ⟨_, PySem.W.mg_of X G m_MOST_OPERANDS⟩, m_OPS := ⟨q_OPS, PySem.W.mg_of X G a_OPS, _, _, _, l_OPS, rfl, rfl, (show 4 ≤ sizeLine from line_big (by omega)), (.cons ⟨_, rfl⟩ (.cons ⟨_, rfl⟩ (.cons ⟨_, rfl⟩ (.cons ⟨_, rfl⟩ .nil))))⟩, d_is_number := e_is_number, d_is_within := e_is_within, d_is_value := e_is_value, d_is_name := e_is_name, d_is_listed := e_is_listed, d_is_tuple_of := e_is_tuple_of, d_is_op := e_is_op, d_is_operand := e_is_operand, d_is_row_index := e_is_row_index, d_is_set := e_is_set, d_is_call := e_is_call, d_are_operands := e_are_operands, d_is_pair_row := e_is_pair_row, d_is_row := e_is_row, d_reckoned := e_reckoned, d_operands_of := e_operands_of, d_set_by := e_set_by, d_lpool := e_lpool, d_ltake := e_ltake, d_lone := e_lone, d_lread := e_lread, d_lreckoned := e_lreckoned, d_lfits_name := e_lfits_name, d_lfits_number := e_lfits_number, d_lfits_operand := e_lfits_operand, d_lfits_op := e_lfits_op, d_lfits_many := e_lfits_many, d_lfits_row := e_lfits_row, d_lstrange := e_lstrange, d_lword_of := e_lword_of, d_lsome_operand := e_lsome_operand, d_lright_row := e_lright_row, d_lbent := e_lbent, d_lrefused := e_lrefused, d_lrow_holds := e_lrow_holds, d_lmade := e_lmade, d_lop_holds := e_lop_holds, d_law := e_law, a_MomentError := M, m_MomentError := PySem.W.mg_of X G a_M, x_NoRow := e_NoRow, x_NoValue := e_NoValue, x2_NoRow := z_NoRow, x2_NoValue := z_NoValue }⟩
  obtain ⟨T⟩ := T
  have ef := hf.symm.trans T.d_law.m
  cases ef
  refine ⟨T.d_law.fd, fun s u => ?_, fun base _ _ => ok_law T⟩
  obtain ⟨oc, od, kV, doc, pm, an, cdv, ct, osl, e, lk, hcd⟩ := T.d_law.F.ex
  rw [e]
  exact .of_eq rfl
end K00
open PySem PySem.W PyProof.Rows
set_option maxRecDepth 100000 in
set_option maxHeartbeats 0 in
theorem PySem.Challenge.cw_plainmoment_k00_rows_and_ops_holds : PySem.Challenge.rw_plainmoment_k00_rows_and_ops.Holds := by
  w_on; o_law; k_head; (case hw => w_witness2)
  k_fill
  refine DL.walkG (l := PySem.Challenge.rw_plainmoment_k00_rows_and_ops) (most := 63) (n := 12) (nm := "_law_script") (sp := fun w => K00.spLaw _) rfl (by decide) rfl ⟨rfl, by decide, by decide⟩ (fun w h Y => PySem.W.kIn_of Y) ?F (fun w H a ks _ _ hS => ⟨a, ks, rfl, hS, fun _ => rfl⟩)
  case F =>
    intro w mg fl h KX G hmg
    refine' K00.all_mk KX G hmg ?n_all ?n_bool ?n_int ?n_isinstance ?n_len ?n_list ?n_max ?n_range ?n_repr ?n_str ?n_tuple ?m_MODULUS ?m_MOST_ROWS ?m_MOST_OPERANDS ?a_OPS ?l_OPS ?a_M ?d_is_number ?d_is_within ?d_is_value ?d_is_name ?d_is_listed ?d_is_tuple_of ?d_is_op ?d_is_operand ?d_is_row_index ?d_is_set ?d_is_call ?d_are_operands ?d_is_pair_row ?d_is_row ?d_reckoned ?d_operands_of ?d_set_by ?d_lpool ?d_ltake ?d_lone ?d_lread ?d_lreckoned ?d_lfits_name ?d_lfits_number ?d_lfits_operand ?d_lfits_op ?d_lfits_many ?d_lfits_row ?d_lstrange ?d_lword_of ?d_lsome_operand ?d_lright_row ?d_lbent ?d_lrefused ?d_lrow_holds ?d_lmade ?d_lop_holds ?d_law ?x_NoRow ?x_NoValue
    (case n_all => k_is)
    (case n_bool => k_is)
    (case n_int => k_is)
    (case n_isinstance => k_is)
    (case n_len => k_is)
    (case n_list => k_is)
    (case n_max => k_is)
    (case n_range => k_is)
    (case n_repr => k_is)
    (case n_str => k_is)
    (case n_tuple => k_is)
    (case m_MODULUS => k_is)
    (case m_MOST_ROWS => k_is)
    (case m_MOST_OPERANDS => k_is)
    (case a_OPS => k_is)
    (case l_OPS => k_is)
    (case a_M => k_is)
    (case d_is_number => (refine' DL.dnF ?ka ?kl ?kc ?kk; (case ka => k_is); (case kl => k_is); (case kc => k_is); (case kk => k_is)))
    (case d_is_within => (refine' DL.dnF ?ka ?kl ?kc ?kk; (case ka => k_is); (case kl => k_is); (case kc => k_is); (case kk => k_is)))
    (case d_is_value => (refine' DL.dnF ?ka ?kl ?kc ?kk; (case ka => k_is); (case kl => k_is); (case kc => k_is); (case kk => k_is)))
    (case d_is_name => (refine' DL.dnF ?ka ?kl ?kc ?kk; (case ka => k_is); (case kl => k_is); (case kc => k_is); (case kk => k_is)))
    (case d_is_listed => (refine' DL.dnF ?ka ?kl ?kc ?kk; (case ka => k_is); (case kl => k_is); (case kc => k_is); (case kk => k_is)))
    (case d_is_tuple_of => (refine' DL.dnF ?ka ?kl ?kc ?kk; (case ka => k_is); (case kl => k_is); (case kc => k_is); (case kk => k_is)))
    (case d_is_op => (refine' DL.dnF ?ka ?kl ?kc ?kk; (case ka => k_is); (case kl => k_is); (case kc => k_is); (case kk => k_is)))
    (case d_is_operand => (refine' DL.dnF ?ka ?kl ?kc ?kk; (case ka => k_is); (case kl => k_is); (case kc => k_is); (case kk => k_is)))
    (case d_is_row_index => (refine' DL.dnF ?ka ?kl ?kc ?kk; (case ka => k_is); (case kl => k_is); (case kc => k_is); (case kk => k_is)))
    (case d_is_set => (refine' DL.dnF ?ka ?kl ?kc ?kk; (case ka => k_is); (case kl => k_is); (case kc => k_is); (case kk => k_is)))
    (case d_is_call => (refine' DL.dnF ?ka ?kl ?kc ?kk; (case ka => k_is); (case kl => k_is); (case kc => k_is); (case kk => k_is)))
    (case d_are_operands => (refine' DL.dnF ?ka ?kl ?kc ?kk; (case ka => k_is); (case kl => k_is); (case kc => k_is); (case kk => k_is)))
    (case d_is_pair_row => (refine' DL.dnF ?ka ?kl ?kc ?kk; (case ka => k_is); (case kl => k_is); (case kc => k_is); (case kk => k_is)))
    (case d_is_row => (refine' DL.dnF ?ka ?kl ?kc ?kk; (case ka => k_is); (case kl => k_is); (case kc => k_is); (case kk => k_is)))
    (case d_reckoned => (refine' DL.dnF ?ka ?kl ?kc ?kk; (case ka => k_is); (case kl => k_is); (case kc => k_is); (case kk => k_is)))
    (case d_operands_of => (refine' DL.dnF ?ka ?kl ?kc ?kk; (case ka => k_is); (case kl => k_is); (case kc => k_is); (case kk => k_is)))
    (case d_set_by => (refine' DL.dnF ?ka ?kl ?kc ?kk; (case ka => k_is); (case kl => k_is); (case kc => k_is); (case kk => k_is)))
    (case d_lpool => (refine' DL.dnF ?ka ?kl ?kc ?kk; (case ka => k_is); (case kl => k_is); (case kc => k_is); (case kk => k_is)))
    (case d_ltake => (refine' DL.dnF ?ka ?kl ?kc ?kk; (case ka => k_is); (case kl => k_is); (case kc => k_is); (case kk => k_is)))
    (case d_lone => (refine' DL.dnF ?ka ?kl ?kc ?kk; (case ka => k_is); (case kl => k_is); (case kc => k_is); (case kk => k_is)))
    (case d_lread => (refine' DL.dnF ?ka ?kl ?kc ?kk; (case ka => k_is); (case kl => k_is); (case kc => k_is); (case kk => k_is)))
    (case d_lreckoned => (refine' DL.dnF ?ka ?kl ?kc ?kk; (case ka => k_is); (case kl => k_is); (case kc => k_is); (case kk => k_is)))
    (case d_lfits_name => (refine' DL.dnF ?ka ?kl ?kc ?kk; (case ka => k_is); (case kl => k_is); (case kc => k_is); (case kk => k_is)))
    (case d_lfits_number => (refine' DL.dnF ?ka ?kl ?kc ?kk; (case ka => k_is); (case kl => k_is); (case kc => k_is); (case kk => k_is)))
    (case d_lfits_operand => (refine' DL.dnF ?ka ?kl ?kc ?kk; (case ka => k_is); (case kl => k_is); (case kc => k_is); (case kk => k_is)))
    (case d_lfits_op => (refine' DL.dnF ?ka ?kl ?kc ?kk; (case ka => k_is); (case kl => k_is); (case kc => k_is); (case kk => k_is)))
    (case d_lfits_many => (refine' DL.dnF ?ka ?kl ?kc ?kk; (case ka => k_is); (case kl => k_is); (case kc => k_is); (case kk => k_is)))
    (case d_lfits_row => (refine' DL.dnF ?ka ?kl ?kc ?kk; (case ka => k_is); (case kl => k_is); (case kc => k_is); (case kk => k_is)))
    (case d_lstrange => (refine' DL.dnF ?ka ?kl ?kc ?kk; (case ka => k_is); (case kl => k_is); (case kc => k_is); (case kk => k_is)))
    (case d_lword_of => (refine' DL.dnF ?ka ?kl ?kc ?kk; (case ka => k_is); (case kl => k_is); (case kc => k_is); (case kk => k_is)))
    (case d_lsome_operand => (refine' DL.dnF ?ka ?kl ?kc ?kk; (case ka => k_is); (case kl => k_is); (case kc => k_is); (case kk => k_is)))
    (case d_lright_row => (refine' DL.dnF ?ka ?kl ?kc ?kk; (case ka => k_is); (case kl => k_is); (case kc => k_is); (case kk => k_is)))
    (case d_lbent => (refine' DL.dnF ?ka ?kl ?kc ?kk; (case ka => k_is); (case kl => k_is); (case kc => k_is); (case kk => k_is)))
    (case d_lrefused => (refine' DL.dnF ?ka ?kl ?kc ?kk; (case ka => k_is); (case kl => k_is); (case kc => k_is); (case kk => k_is)))
    (case d_lrow_holds => (refine' DL.dnF ?ka ?kl ?kc ?kk; (case ka => k_is); (case kl => k_is); (case kc => k_is); (case kk => k_is)))
    (case d_lmade => (refine' DL.dnF ?ka ?kl ?kc ?kk; (case ka => k_is); (case kl => k_is); (case kc => k_is); (case kk => k_is)))
    (case d_lop_holds => (refine' DL.dnF ?ka ?kl ?kc ?kk; (case ka => k_is); (case kl => k_is); (case kc => k_is); (case kk => k_is)))
    (case d_law => (refine' DL.dnF ?ka ?kl ?kc ?kk; (case ka => k_is); (case kl => k_is); (case kc => k_is); (case kk => k_is)))
    (case x_NoRow => (refine' DL.exF ?yaC ?yxL ?yvb ?ysa ?yga ?ygg ?yno ?yai ?yti ?yli ?yci ?yki ?ykC ?yeC ?ytC ?yhC ?ysC ?ysM ?ytM ?yhM ?yca ?ysg ?ytk ?ymr; (case yaC => k_is); (case yxL => k_is); (case yvb => decide +kernel); (case ysa => k_is); (case yga => k_is); (case ygg => k_is); (case yno => k_is); (case yai => k_is); (case yti => k_is); (case yli => k_is); (case yci => k_is); (case yki => k_is); (case ykC => k_is); (case yeC => k_is); (case ytC => k_is); (case yhC => k_is); (case ysC => k_is); (case ysM => k_is); (case ytM => k_is); (case yhM => k_is); (case yca => k_is); (case ysg => k_is); (case ytk => k_is); (case ymr => k_is)))
    (case x_NoValue => (refine' DL.exF ?yaC ?yxL ?yvb ?ysa ?yga ?ygg ?yno ?yai ?yti ?yli ?yci ?yki ?ykC ?yeC ?ytC ?yhC ?ysC ?ysM ?ytM ?yhM ?yca ?ysg ?ytk ?ymr; (case yaC => k_is); (case yxL => k_is); (case yvb => decide +kernel); (case ysa => k_is); (case yga => k_is); (case ygg => k_is); (case yno => k_is); (case yai => k_is); (case yti => k_is); (case yli => k_is); (case yci => k_is); (case yki => k_is); (case ykC => k_is); (case yeC => k_is); (case ytC => k_is); (case yhC => k_is); (case ysC => k_is); (case ysM => k_is); (case ytM => k_is); (case yhM => k_is); (case yca => k_is); (case ysg => k_is); (case ytk => k_is); (case ymr => k_is)))
