import PyProof.Rows.All
import Wide.All
import OpenK.AllK
import Wide.FinOn
import HandS.ForExc
import HandS.Comp
import HandS.Text
import HandS.Dict
import HandS.IsInst
import HandS.TupAny
import HandS.Style
import HandS.Wide
import HandS.ExcInit
import HandS.ExcField
import HandS.ExcIs
import HandS.CallLocal
import HandS.Walk
import HandS.Lambda
import HandS.EndBits
import HandS.FStrTup
import HandS.ExcOwn
import KE.KExcIs
import HandS.Evl
import HandS.Ends
import KE.GoesMore
import HandS.Iter
import HandS.DictComp
import HandS.TryMany
import HandS.Zip
import HandS.Conv
import HandS.SetBool
import HandS.SetTxt0
import HandS.Set
import PyProof.Rows.SortShellAny
import HandS.Codes
import HandS.TupMul
import HandS.SetFor
import HandS.Strs
import HandS.EndTab
import PySem.Challenge.RW_plainmoment_k07_stretches_told
set_option Elab.async false
set_option linter.all false
set_option maxRecDepth 100000
set_option maxHeartbeats 2000000
/-! A layer of plain data over the hand layer: what a def does is told by predicates over data, without addresses. -/
namespace DL
open PySem PySem.Spec PyProof.Rows L2

inductive D where
  | non | bl (b : Bool) | int (i : Int) | str (x : Str) | lst (xs : List D) | tup (xs : List D) | src (p : Addr) | fn (f : Addr) | exn (a d : Addr) (t : D) | sq (K : PySem.W.Frag) (ns : List Int)
  | ins (C : Addr) (ns : List Str) (ds : List D) | dct (ks : List Key) (ds : List D)

/-- what is known of an owned address -/
inductive Own where
  | src | hold (o : HO) | tab (q : Str)
/-- the tables of code objects that are owned from the start on -/
class TabCtx where
  T : List (Addr × Str)
variable [TabCtx]
def SrcOk (o : HO) : Prop := ∃ a b : Int, o = .lst [.int a, .int b] ∧ 0 ≤ b ∧ b < 2147483647
def TabOk (H : Hp) (q : Str) (o : HO) : Prop := ∃ ps : Array Value, o = .tbl ps ∧ TriplesOk ps.toList ∧ ∀ (pos : Pos) (cv : Value), codeAmong pos ps.toList = some cv → ∃ c, cv = .ref c ∧ H c = some (LamX.CodeO c q)
def ownOk (H : Hp) : Own → HO → Prop
  | .src, o => SrcOk o
  | .hold o', o => o = o'
  | .tab q, o => TabOk H q o
omit [TabCtx] in
theorem ownOk.mono {H H' : Hp} {w : Own} {o : HO} (h : ownOk H w o) (e : ∀ c q, H c = some (LamX.CodeO c q) → H' c = some (LamX.CodeO c q)) : ownOk H' w o := by
  cases w with
  | src => exact h
  | hold o' => exact h
  | tab q =>
    obtain ⟨ps, h1, h2, h3⟩ := h
    exact ⟨ps, h1, h2, fun pos cv z => by
      obtain ⟨c, e1, e2⟩ := h3 pos cv z
      exact ⟨c, e1, e _ _ e2⟩⟩
def NoCode (H : Hp) (p : Addr) : Prop := ∀ q, H p ≠ some (LamX.CodeO p q)
omit [TabCtx] in
theorem noCode_none {H : Hp} {p : Addr} (h : H p = none) : NoCode H p := fun q z => by
  rw [h] at z
  cases z
omit [TabCtx] in
theorem noCode_of {H : Hp} {p : Addr} {o : HO} (h : H p = some o) (n : ∀ φ, o ≠ .ext φ := by intro φ z; cases z) : NoCode H p := fun q z => by
  rw [h] at z
  exact n _ (Option.some.inj z)
omit [TabCtx] in
theorem ownOk.upd {H : Hp} {w : Own} {o o' : HO} {p : Addr} (h : ownOk H w o) (n : NoCode H p) : ownOk (L2.upd H p o') w o := h.mono fun c q z => by
  by_cases e : c = p
  · subst e
    exact absurd z (n q)
  · rw [upd_ne e]
    exact z
/-- no table of code objects -/
def NT (o : HO) : Prop := ∀ ps, o ≠ .tbl ps
abbrev Ow := List (Addr × Own)
def OwnAt (H : Hp) (p : Addr × Own) : Prop := ∃ o, H p.1 = some o ∧ ownOk H p.2 o
/-- just the tables are owned as tables; what is held is none -/
structure TabsOk (O : Ow) : Prop where
  iff : ∀ t : Addr × Str, t ∈ TabCtx.T ↔ (t.1, Own.tab t.2) ∈ O
  held : ∀ p o, (p, Own.hold o) ∈ O → NT o
theorem TabsOk.hold {O : Ow} {p : Addr} {o : HO} (h : TabsOk O) (n : NT o := by intro ps z; cases z) : TabsOk (O ++ [(p, .hold o)]) :=
  ⟨fun t => (h.iff t).trans ⟨fun z => List.mem_append_left _ z, fun z => by
    rcases List.mem_append.mp z with z | z
    · exact z
    · cases List.mem_singleton.mp z⟩, fun q u z => by
    rcases List.mem_append.mp z with z | z
    · exact h.held q u z
    · cases List.mem_singleton.mp z
      exact n⟩
theorem TabsOk.less {O : Ow} {p : Addr} {o : HO} (h : TabsOk (O ++ [(p, .hold o)])) : TabsOk O :=
  ⟨fun t => (h.iff t).trans ⟨fun z => (List.mem_append.mp z).elim id fun z => (by cases List.mem_singleton.mp z), fun z => List.mem_append_left _ z⟩, fun q u z => h.held q u (List.mem_append_left _ z)⟩
structure OwnAll (O : Ow) (H : Hp) : Prop where
  here : ∀ p ∈ O, OwnAt H p
  uq : ∀ p ∈ O, ∀ q ∈ O, p.1 = q.1 → p = q
  tabs : TabsOk O
def Out (O : Ow) (a : Addr) : Prop := ∀ p ∈ O, a ≠ p.1
structure Ext (O : Ow) (H H' : Hp) : Prop where
  keep : ∀ b o, Out O b → H b = some o → NT o → H' b = some o
  own : ∀ p ∈ O, OwnAt H p → OwnAt H' p
theorem Ext.refl (O : Ow) (H : Hp) : Ext O H H := ⟨fun _ _ _ h _ => h, fun _ _ h => h⟩
theorem Ext.trans {O : Ow} {H H1 H2 : Hp} (a : Ext O H H1) (b : Ext O H1 H2) : Ext O H H2 :=
  ⟨fun c o x h n => b.keep c o x (a.keep c o x h n) n, fun p hp h => b.own p hp (a.own p hp h)⟩
theorem Ext.same {O : Ow} {H H' : Hp} (a : Same H H') : Ext O H H' :=
  ⟨fun c o _ h _ => a c o h, fun p _ ⟨o, h, k⟩ => ⟨o, a _ _ h, k.mono fun _ _ z => a _ _ z⟩⟩
theorem OwnAll.mono {O : Ow} {H H' : Hp} (h : OwnAll O H) (e : Ext O H H') : OwnAll O H' := ⟨fun p hp => e.own p hp (h.here p hp), h.uq, h.tabs⟩
theorem OwnAll.out {O : Ow} {H : Hp} {p : Addr} (h : OwnAll O H) (n : H p = none) : Out O p := fun q hq e => by
  obtain ⟨o, k, _⟩ := h.here q hq
  rw [e, k] at n
  cases n
/-- no known thing but a table stands there -/
def Fresh (H : Hp) (p : Addr) : Prop := ∀ b o, H b = some o → NT o → b ≠ p
omit [TabCtx] in
theorem fresh_none {H : Hp} {p : Addr} (n : H p = none) : Fresh H p := fun b o h _ => ne_of_none h n
/-- a new object -/
theorem Ext.new {O : Ow} {H : Hp} {p : Addr} {o : HO} (n : H p = none) : Ext O H (upd H p o) :=
  .same fun b u e => by
    rw [upd_ne (ne_of_none e n)]
    exact e

/-- a list of the module's own objects -/
def KL (K : PySem.W.Frag) (a : Addr) (xs : List V) : Prop := SqL K (fun _ => none) a xs
theorem KL.sq {K : PySem.W.Frag} {a : Addr} {xs : List V} (h : KL K a xs) (H : Hp) : SqL K H a xs := by
  rcases h with h | h
  · rcases h with h | ⟨o, h⟩ <;> cases h
  · exact .inr h
mutual
inductive Dq (O : Ow) (H : Hp) : V → D → Prop
  | non : Dq O H .non .non
  | bl (b : Bool) : Dq O H (.bl b) (.bl b)
  | int (i : Int) : Dq O H (.int i) (.int i)
  | str (x : Str) : Dq O H (.str x) (.str x)
  | lst {a : Addr} {xs : List V} {ds : List D} : Out O a → H a = some (.lst xs) → DqAll O H xs ds → Dq O H (.ref a) (.lst ds)
  | tup {a : Addr} {xs : List V} {ds : List D} : Out O a → Rd H a (.tup xs) → DqAll O H xs ds → Dq O H (.ref a) (.tup ds)
  | src {p : Addr} : (p, Own.src) ∈ O → Dq O H (.ref p) (.src p)
  | fn (f : Addr) : Dq O H (.ref f) (.fn f)
  | exn {a dx : Addr} {v : V} {t : D} : Out O dx → H dx = some (.xd [("told", v)]) → Dq O H v t → Dq O H (.ref a) (.exn a dx t)
  | sq {K : PySem.W.Frag} {a : Addr} {ns : List Int} : ((Out O a ∧ Rd H a (.lst (ns.map V.int))) ∨ KL K a (ns.map V.int)) → Dq O H (.ref a) (.sq K ns)
  | ins {a C dx : Addr} {ns : List Str} {vs : List V} {ds : List D} : Out O a → H a = some (.ins C dx (ns.zip vs)) → DqAll O H vs ds → Dq O H (.ref a) (.ins C ns ds)
  | dct {a : Addr} {ks : List Key} {vs : List V} {ds : List D} : Out O a → H a = some (.dK (ks.zip vs)) → DqAll O H vs ds → Dq O H (.ref a) (.dct ks ds)
inductive DqAll (O : Ow) (H : Hp) : List V → List D → Prop
  | nil : DqAll O H [] []
  | cons {v : V} {vs : List V} {d : D} {ds : List D} : Dq O H v d → DqAll O H vs ds → DqAll O H (v :: vs) (d :: ds)
end
theorem rd_keep {O : Ow} {H H' : Hp} {a : Addr} {u : HO} (e : ∀ b o, Out O b → H b = some o → NT o → H' b = some o) (x : Out O a) (h : Rd H a u) (n : NT u := by intro ps z; cases z) : Rd H' a u := by
  rcases h with h | ⟨o, h⟩
  · exact .inl (e _ _ x h n)
  · exact .inr ⟨o, e _ _ x h (by intro ps z; cases z)⟩
mutual
theorem Dq.keep {O : Ow} {H H' : Hp} (e : ∀ b o, Out O b → H b = some o → NT o → H' b = some o) : ∀ {v : V} {d : D}, Dq O H v d → Dq O H' v d
  | _, _, .non => .non
  | _, _, .bl b => .bl b
  | _, _, .int i => .int i
  | _, _, .str x => .str x
  | _, _, .lst x r a => .lst x (e _ _ x r (by intro ps z; cases z)) (a.keep e)
  | _, _, .tup x r a => .tup x (rd_keep e x r) (a.keep e)
  | _, _, .src h => .src h
  | _, _, .fn f => .fn f
  | _, _, .exn x r a => .exn x (e _ _ x r (by intro ps z; cases z)) (a.keep e)
  | _, _, .sq h => .sq (h.imp (fun z => ⟨z.1, rd_keep e z.1 z.2⟩) id)
  | _, _, .ins x r a => .ins x (e _ _ x r (by intro ps z; cases z)) (a.keep e)
  | _, _, .dct x r a => .dct x (e _ _ x r (by intro ps z; cases z)) (a.keep e)
theorem DqAll.keep {O : Ow} {H H' : Hp} (e : ∀ b o, Out O b → H b = some o → NT o → H' b = some o) : ∀ {vs : List V} {ds : List D}, DqAll O H vs ds → DqAll O H' vs ds
  | _, _, .nil => .nil
  | _, _, .cons a b => .cons (a.keep e) (b.keep e)
end
theorem Dq.mono {O : Ow} {H H' : Hp} (e : Ext O H H') {v : V} {d : D} (h : Dq O H v d) : Dq O H' v d := h.keep e.keep
theorem DqAll.mono {O : Ow} {H H' : Hp} (e : Ext O H H') {vs : List V} {ds : List D} (h : DqAll O H vs ds) : DqAll O H' vs ds := h.keep e.keep
mutual
/-- one more owned address, new -/
theorem Dq.more {O : Ow} {H : Hp} {q : Addr} {w : Own} (n : Fresh H q) : ∀ {v : V} {d : D}, Dq O H v d → Dq (O ++ [(q, w)]) H v d
  | _, _, .non => .non
  | _, _, .bl b => .bl b
  | _, _, .int i => .int i
  | _, _, .str x => .str x
  | _, _, .lst x r a => .lst (out_more n x (.inl r)) r (a.more n)
  | _, _, .tup x r a => .tup (out_more n x r) r (a.more n)
  | _, _, .src h => .src (List.mem_append_left _ h)
  | _, _, .fn f => .fn f
  | _, _, .exn x r a => .exn (out_more n x (.inl r)) r (a.more n)
  | _, _, .sq h => .sq (h.imp (fun z => ⟨out_more n z.1 z.2, z.2⟩) id)
  | _, _, .ins x r a => .ins (out_more n x (.inl r)) r (a.more n)
  | _, _, .dct x r a => .dct (out_more n x (.inl r)) r (a.more n)
theorem DqAll.more {O : Ow} {H : Hp} {q : Addr} {w : Own} (n : Fresh H q) : ∀ {vs : List V} {ds : List D}, DqAll O H vs ds → DqAll (O ++ [(q, w)]) H vs ds
  | _, _, .nil => .nil
  | _, _, .cons a b => .cons (a.more n) (b.more n)
theorem out_more {O : Ow} {H : Hp} {q a : Addr} {w : Own} {u : HO} (n : Fresh H q) (x : Out O a) (r : Rd H a u) (t : NT u := by intro ps z; cases z) : Out (O ++ [(q, w)]) a := fun p hp => by
  rcases List.mem_append.mp hp with h | h
  · exact x p h
  · have e : p = (q, w) := by simpa using h
    subst e
    rcases r with r | ⟨o, r⟩
    · exact n _ _ r t
    · exact n _ _ r (by intro ps z; cases z)
end
mutual
/-- an owned address that is no source is given up -/
theorem Dq.less {O : Ow} {H : Hp} {q : Addr} {o : HO} : ∀ {v : V} {d : D}, Dq (O ++ [(q, .hold o)]) H v d → Dq O H v d
  | _, _, .non => .non
  | _, _, .bl b => .bl b
  | _, _, .int i => .int i
  | _, _, .str x => .str x
  | _, _, .lst x r a => .lst (fun p hp => x p (List.mem_append_left _ hp)) r a.less
  | _, _, .tup x r a => .tup (fun p hp => x p (List.mem_append_left _ hp)) r a.less
  | _, _, .src h => .src (by
      rcases List.mem_append.mp h with h | h
      · exact h
      · simp at h)
  | _, _, .fn f => .fn f
  | _, _, .exn x r a => .exn (fun p hp => x p (List.mem_append_left _ hp)) r a.less
  | _, _, .sq h => .sq (h.imp (fun z => ⟨fun p hp => z.1 p (List.mem_append_left _ hp), z.2⟩) id)
  | _, _, .ins x r a => .ins (fun p hp => x p (List.mem_append_left _ hp)) r a.less
  | _, _, .dct x r a => .dct (fun p hp => x p (List.mem_append_left _ hp)) r a.less
theorem DqAll.less {O : Ow} {H : Hp} {q : Addr} {o : HO} : ∀ {vs : List V} {ds : List D}, DqAll (O ++ [(q, .hold o)]) H vs ds → DqAll O H vs ds
  | _, _, .nil => .nil
  | _, _, .cons a b => .cons a.less b.less
end
mutual
theorem Dq.rehold {O : Ow} {H : Hp} {q : Addr} {o o' : HO} : ∀ {v : V} {d : D}, Dq (O ++ [(q, .hold o)]) H v d → Dq (O ++ [(q, .hold o')]) H v d
  | _, _, .non => .non
  | _, _, .bl b => .bl b
  | _, _, .int i => .int i
  | _, _, .str x => .str x
  | _, _, .lst x r a => .lst (out_rehold x) r a.rehold
  | _, _, .tup x r a => .tup (out_rehold x) r a.rehold
  | _, _, .src h => .src (by
      rcases List.mem_append.mp h with h | h
      · exact List.mem_append_left _ h
      · simp at h)
  | _, _, .fn f => .fn f
  | _, _, .exn x r a => .exn (out_rehold x) r a.rehold
  | _, _, .sq h => .sq (h.imp (fun z => ⟨out_rehold z.1, z.2⟩) id)
  | _, _, .ins x r a => .ins (out_rehold x) r a.rehold
  | _, _, .dct x r a => .dct (out_rehold x) r a.rehold
theorem DqAll.rehold {O : Ow} {H : Hp} {q : Addr} {o o' : HO} : ∀ {vs : List V} {ds : List D}, DqAll (O ++ [(q, .hold o)]) H vs ds → DqAll (O ++ [(q, .hold o')]) H vs ds
  | _, _, .nil => .nil
  | _, _, .cons a b => .cons a.rehold b.rehold
theorem out_rehold {O : Ow} {q a : Addr} {o o' : HO} (x : Out (O ++ [(q, .hold o)]) a) : Out (O ++ [(q, .hold o')]) a := fun p hp => by
  rcases List.mem_append.mp hp with h | h
  · exact x p (List.mem_append_left _ h)
  · have e : p = (q, .hold o') := by simpa using h
    subst e
    exact x (q, .hold o) (by simp)
end
theorem DqAll.length {O : Ow} {H : Hp} : ∀ {vs : List V} {ds : List D}, DqAll O H vs ds → vs.length = ds.length
  | _, _, .nil => rfl
  | _, _, .cons _ b => by rw [List.length_cons, List.length_cons, b.length]
theorem DqAll.get {O : Ow} {H : Hp} : ∀ {vs : List V} {ds : List D} {i : Nat} {d : D}, DqAll O H vs ds → ds[i]? = some d → ∃ v, vs[i]? = some v ∧ Dq O H v d
  | _, _, _, _, .nil, h => by simp at h
  | _, _, 0, _, .cons a _, h => by simp at h; subst h; exact ⟨_, rfl, a⟩
  | _, _, i + 1, _, .cons _ b, h => by
    obtain ⟨v, e, q⟩ := b.get (i := i) (by simpa using h)
    exact ⟨v, by simpa using e, q⟩
theorem DqAll.append {O : Ow} {H : Hp} : ∀ {vs ws : List V} {ds es : List D}, DqAll O H vs ds → DqAll O H ws es → DqAll O H (vs ++ ws) (ds ++ es)
  | _, _, _, _, .nil, h => h
  | _, _, _, _, .cons a b, h => .cons a (b.append h)
theorem DqAll.take {O : Ow} {H : Hp} : ∀ {vs : List V} {ds : List D} (n : Nat), DqAll O H vs ds → DqAll O H (vs.take n) (ds.take n)
  | _, _, 0, _ => by simpa using DqAll.nil
  | _, _, _ + 1, .nil => .nil
  | _, _, n + 1, .cons a b => .cons a (b.take n)
theorem DqAll.drop {O : Ow} {H : Hp} : ∀ {vs : List V} {ds : List D} (n : Nat), DqAll O H vs ds → DqAll O H (vs.drop n) (ds.drop n)
  | _, _, 0, h => by simpa using h
  | _, _, _ + 1, .nil => .nil
  | _, _, n + 1, .cons _ b => b.drop n

/-! ### the readings -/
abbrev Sl := List (Option D)
structure SlD (O : Ow) (H : Hp) (σ : L2.St) (ds : Sl) : Prop where
  len : ds.length = σ.length
  val : ∀ (i : Nat) (d : D), ds[i]? = some (some d) → ∃ v, σ[i]? = some (some v) ∧ Dq O H v d
theorem SlD.mono {O : Ow} {H H' : Hp} {σ : L2.St} {ds : Sl} (h : SlD O H σ ds) (e : Ext O H H') : SlD O H' σ ds :=
  ⟨h.len, fun i d hd => by
    obtain ⟨v, a, b⟩ := h.val i d hd
    exact ⟨v, a, b.mono e⟩⟩
theorem SlD.set {O : Ow} {H : Hp} {σ : L2.St} {ds : Sl} (h : SlD O H σ ds) (i : Nat) {v : V} {d : D} (q : Dq O H v d) : SlD O H (σ.set i (some v)) (ds.set i (some d)) :=
  ⟨by rw [List.length_set, List.length_set, h.len], fun j e he => by
    by_cases hj : i = j
    · subst hj
      by_cases hi : i < ds.length
      · rw [List.getElem?_set_self hi] at he
        cases he
        exact ⟨v, by rw [List.getElem?_set_self (by rw [← h.len]; exact hi)], q⟩
      · rw [List.getElem?_eq_none (by rw [List.length_set]; omega)] at he
        cases he
    · rw [List.getElem?_set_ne hj] at he
      obtain ⟨u, a, b⟩ := h.val j e he
      exact ⟨u, by rw [List.getElem?_set_ne hj]; exact a, b⟩⟩
theorem SlD.keep {O : Ow} {H H' : Hp} {σ : L2.St} {ds : Sl} (h : SlD O H σ ds) (e : ∀ b o, Out O b → H b = some o → NT o → H' b = some o) : SlD O H' σ ds :=
  ⟨h.len, fun i d hd => by
    obtain ⟨v, a, b⟩ := h.val i d hd
    exact ⟨v, a, b.keep e⟩⟩
theorem SlD.more {O : Ow} {H : Hp} {σ : L2.St} {ds : Sl} {q : Addr} {w : Own} (h : SlD O H σ ds) (n : Fresh H q) : SlD (O ++ [(q, w)]) H σ ds :=
  ⟨h.len, fun i d hd => by
    obtain ⟨v, a, b⟩ := h.val i d hd
    exact ⟨v, a, b.more n⟩⟩
abbrev WE := Sl → (D → Prop) → Prop
abbrev WT := Sl → (Bool → Prop) → Prop
abbrev WA := Sl → (List D → Prop) → Prop
abbrev WS := Sl → (Sl → Prop) → (D → Prop) → (Addr → D → Prop) → Prop
def tW (W : WE) : TE := fun σ H Q => ∃ (O : Ow) (ds : Sl) (P : D → Prop), SlD O H σ ds ∧ OwnAll O H ∧ W ds P ∧ ∀ d, P d → ∀ v H', Ext O H H' → Dq O H' v d → Q v H'
def tTW (W : WT) : TT := fun σ H Q => ∃ (O : Ow) (ds : Sl) (P : Bool → Prop), SlD O H σ ds ∧ OwnAll O H ∧ W ds P ∧ ∀ b, P b → ∀ H', Ext O H H' → Q b H'
def tAW (W : WA) : TA := fun σ H Q => ∃ (O : Ow) (ds : Sl) (P : List D → Prop), SlD O H σ ds ∧ OwnAll O H ∧ W ds P ∧ ∀ es, P es → ∀ vs H', Ext O H H' → DqAll O H' vs es → Q vs H'
def tSW (E : XK) (G : WS) : TS := fun D σ H => ∃ (O : Ow) (ds : Sl) (N : Sl → Prop) (R : DL.D → Prop) (Z : Addr → DL.D → Prop), SlD O H σ ds ∧ OwnAll O H ∧ G ds N R Z ∧
  (∀ ds', N ds' → ∀ σ' H', Ext O H H' → SlD O H' σ' ds' → D.nx σ' H') ∧ (∀ d, R d → ∀ v H', Ext O H H' → Dq O H' v d → D.rt v H') ∧
  ∀ C d, Z C d → ∀ dx v H', Ext O H H' → Out O dx → H' dx = some (.xd [("told", v)]) → Dq O H' v d → E (.ref C) (some dx) H'
section
variable {X : Cx}
theorem PE.weak {e : Expr} {t t' : TE} (h : PE X e t) (k : ∀ σ H Q, t' σ H Q → t σ H Q) : PE X e t' := ⟨fun pins s σ H Q I q => h.run pins s σ H Q I (k σ H Q q)⟩
theorem PT.weak {e : Expr} {t t' : TT} (h : PT X e t) (k : ∀ σ H Q, t' σ H Q → t σ H Q) : PT X e t' := ⟨fun pins s σ H Q I q => h.run pins s σ H Q I (k σ H Q q)⟩
theorem PW.weak {e : Expr} {t t' : TT} (h : PW X e t) (k : ∀ σ H Q, t' σ H Q → t σ H Q) : PW X e t' := ⟨fun wh pins s σ H Q I q => h.run wh pins s σ H Q I (k σ H Q q)⟩
theorem PA.weak {es : List Expr} {t t' : TA} (h : PA X es t) (k : ∀ σ H Q, t' σ H Q → t σ H Q) : PA X es t' := ⟨fun pos pins s σ H Q I q => h.run pos pins s σ H Q I (k σ H Q q)⟩
theorem PS.weak {st : Stmt} {t t' : TS} (h : PS X st t) (k : ∀ D σ H, t' D σ H → t D σ H) : PS X st t' := ⟨fun pins s σ H D I q => h.run pins s σ H D I (k D σ H q)⟩
theorem PSs.weak {st : List Stmt} {t t' : TS} (h : PSs X st t) (k : ∀ D σ H, t' D σ H → t D σ H) : PSs X st t' := ⟨fun pins s σ H D I q => h.run pins s σ H D I (k D σ H q)⟩

/-! ### expressions -/
def wVar (i : Nat) : WE := fun ds P => ∃ d, ds[i]? = some (some d) ∧ P d
theorem we_var {e : Expr} {i : Nat} (h : PE X e (tVar i)) : PE X e (tW (wVar i)) := PE.weak h fun σ H Q ⟨O, ds, P, hS, hO, ⟨d, hd, p⟩, k⟩ => by
  obtain ⟨v, a, b⟩ := hS.val i d hd
  exact ⟨v, a, k d p v H (.refl _ _) b⟩
/-- a flat constant -/
def flat : V → Option D
  | .non => some .non
  | .bl b => some (.bl b)
  | .int i => some (.int i)
  | .str x => some (.str x)
  | _ => none
theorem flat_dq {O : Ow} {H : Hp} {v : V} {d : D} (h : flat v = some d) : Dq O H v d := by
  cases v <;> simp [flat] at h <;> subst h
  · exact .non
  · exact .bl _
  · exact .int _
  · exact .str _
def wC (d : D) : WE := fun _ P => P d
theorem we_c {e : Expr} {v : V} {d : D} (h : PE X e (tC v)) (hf : flat v = some d := by rfl) : PE X e (tW (wC d)) := PE.weak h fun σ H Q ⟨O, ds, P, hS, hO, p, k⟩ => k d p v H (.refl _ _) (flat_dq hf)
theorem we_fn {e : Expr} {f : Addr} (h : PE X e (tC (.ref f))) : PE X e (tW (wC (.fn f))) := PE.weak h fun σ H Q ⟨O, ds, P, hS, hO, p, k⟩ => k _ p _ H (.refl _ _) (.fn f)
/-- a two-place operation on data -/
abbrev DOp := D → D → (D → Prop) → Prop
def rD (f : DOp) : R2 := fun x y H Q => ∃ (O : Ow) (dx dy : D) (P : D → Prop), Dq O H x dx ∧ Dq O H y dy ∧ OwnAll O H ∧ f dx dy P ∧ ∀ d, P d → ∀ v H', Ext O H H' → Dq O H' v d → Q v H'
def wOp (f : DOp) (Wa Wb : WE) : WE := fun ds P => Wa ds fun x => Wb ds fun y => f x y P
theorem op_red {f : DOp} {Wa Wb : WE} {σ : L2.St} {H : Hp} {Q : VK} (h : tW (wOp f Wa Wb) σ H Q) : tOp (rD f) (tW Wa) (tW Wb) σ H Q := by
  obtain ⟨O, ds, P, hS, hO, hW, k⟩ := h
  exact ⟨O, ds, _, hS, hO, hW, fun dx hx v H1 e1 q1 => ⟨O, ds, _, hS.mono e1, hO.mono e1, hx, fun dy hy u H2 e2 q2 =>
    ⟨O, dx, dy, P, q1.mono e2, q2, (hO.mono e1).mono e2, hy, fun d hd w H3 e3 q3 => k d hd w H3 ((e1.trans e2).trans e3) q3⟩⟩⟩
variable {a b c : Expr} {Wa Wb Wc : WE} {pos : Pos}
theorem we_op {op : Operator} {f : DOp} (ho : OpR X (binaryOp op) (rD f)) (ha : PE X a (tW Wa)) (hb : PE X b (tW Wb)) : PE X (.BinOp a op b pos) (tW (wOp f Wa Wb)) :=
  PE.weak (pe_op ho ha hb) fun _ _ _ h => op_red h
theorem we_cmp {op : CmpOp} {f : DOp} (ho : OpR X (compareOp op) (rD f)) (ha : PE X a (tW Wa)) (hb : PE X b (tW Wb)) (hm : behindInMarks op b = false) : PE X (.Compare a [op] [b] pos) (tW (wOp f Wa Wb)) :=
  PE.weak (pe_cmpR ho ha hb hm) fun _ _ _ h => op_red h
/-- a value as a test -/
def wTest (W : WE) : WT := fun ds P => W ds fun d => ∃ b, d = .bl b ∧ P b
theorem test_red {W : WE} {σ : L2.St} {H : Hp} {Q : Bool → Hp → Prop} (h : tTW (wTest W) σ H Q) : tW W σ H fun x H' => ∃ k, x = .bl k ∧ Q k H' := by
  obtain ⟨O, ds, P, hS, hO, hW, k⟩ := h
  refine ⟨O, ds, _, hS, hO, hW, fun d hd v H' e q => ?_⟩
  obtain ⟨b, rfl, p⟩ := hd
  cases q
  exact ⟨b, rfl, k b p H' e⟩
theorem wt_val {e : Expr} {W : WE} (h : PE X e (tW W)) (he : ∀ whole, isTrue e X.env whole = (do let v ← whole; standAt e.pos; holding [v] (truthy v)) := by intro _; rfl) : PT X e (tTW (wTest W)) :=
  PT.weak (pt_val h he) fun _ _ _ h => test_red h
theorem wt_cmp {op : CmpOp} {f : DOp} (ho : OpR X (compareOp op) (rD f)) (ha : PE X a (tW Wa)) (hb : PE X b (tW Wb)) (hm : behindInMarks op b = false) : PT X (.Compare a [op] [b] pos) (tTW (wTest (wOp f Wa Wb))) :=
  PT.weak (pt_cmpR ho ha hb hm) fun σ H Q h => op_red (Q := fun x H' => ∃ k, x = .bl k ∧ Q k H') (test_red h)
def wChain (f g : DOp) (Wa Wb Wc : WE) : WE := fun ds P => Wa ds fun x => Wb ds fun y => f x y fun z => ∃ k, z = .bl k ∧ if k = true then Wc ds fun w => g y w P else P (.bl false)
theorem chain_red {f g : DOp} {σ : L2.St} {H : Hp} {Q : VK} (h : tW (wChain f g Wa Wb Wc) σ H Q) : tChain (rD f) (rD g) (tW Wa) (tW Wb) (tW Wc) σ H Q := by
  obtain ⟨O, ds, P, hS, hO, hW, k⟩ := h
  refine ⟨O, ds, _, hS, hO, hW, fun dx hx v H1 e1 q1 => ⟨O, ds, _, hS.mono e1, hO.mono e1, hx, fun dy hy u H2 e2 q2 => ⟨O, dx, dy, _, q1.mono e2, q2, (hO.mono e1).mono e2, hy, fun z hz w H3 e3 q3 => ?_⟩⟩⟩
  obtain ⟨b, rfl, hz⟩ := hz
  cases q3
  refine ⟨b, rfl, ?_⟩
  cases b with
  | false =>
    rw [if_neg Bool.false_ne_true] at hz ⊢
    exact k _ hz _ _ ((e1.trans e2).trans e3) (.bl false)
  | true =>
    rw [if_pos rfl] at hz ⊢
    exact ⟨O, ds, _, hS.mono ((e1.trans e2).trans e3), ((hO.mono e1).mono e2).mono e3, hz, fun dw hw u' H4 e4 q4 =>
      ⟨O, dy, dw, P, q2.mono (e3.trans e4), q4, (((hO.mono e1).mono e2).mono e3).mono e4, hw, fun d hd w' H5 e5 q5 => k d hd w' H5 ((((e1.trans e2).trans e3).trans e4).trans e5) q5⟩⟩
theorem we_chain {op op' : CmpOp} {f g : DOp} (ho : OpR X (compareOp op) (rD f)) (ho' : OpR X (compareOp op') (rD g)) (ha : PE X a (tW Wa)) (hb : PE X b (tW Wb)) (hc : PE X c (tW Wc))
    (hm : lastMarks [op, op'] [b, c] = false := by with_unfolding_all rfl) : PE X (.Compare a [op, op'] [b, c] pos) (tW (wChain f g Wa Wb Wc)) :=
  PE.weak (pe_chain ho ho' ha hb hc hm) fun _ _ _ h => chain_red h
theorem wt_chain {op op' : CmpOp} {f g : DOp} (ho : OpR X (compareOp op) (rD f)) (ho' : OpR X (compareOp op') (rD g)) (ha : PE X a (tW Wa)) (hb : PE X b (tW Wb)) (hc : PE X c (tW Wc))
    (hm : lastMarks [op, op'] [b, c] = false := by with_unfolding_all rfl) : PT X (.Compare a [op, op'] [b, c] pos) (tTW (wTest (wChain f g Wa Wb Wc))) :=
  PT.weak (pt_chain ho ho' ha hb hc hm) fun σ H Q h => chain_red (Q := fun x H' => ∃ k, x = .bl k ∧ Q k H') (test_red h)
/-- and, or of bools, as values -/
def wAnd (Wa Wb : WE) : WE := fun ds P => Wa ds fun x => ∃ k, x = .bl k ∧ if k = true then Wb ds P else P (.bl false)
def wOr (Wa Wb : WE) : WE := fun ds P => Wa ds fun x => ∃ k, x = .bl k ∧ if k = true then P (.bl true) else Wb ds P
def wNot (Wa : WE) : WE := fun ds P => Wa ds fun x => ∃ k, x = .bl k ∧ P (.bl !k)
variable {rest : List Expr}
theorem we_and (ha : PE X a (tW Wa)) (hb : PE X (.BoolOp .And (b :: rest) pos) (tW Wb)) : PE X (.BoolOp .And (a :: b :: rest) pos) (tW (wAnd Wa Wb)) :=
  PE.weak (pe_and ha hb) fun σ H Q ⟨O, ds, P, hS, hO, hW, k⟩ => ⟨O, ds, _, hS, hO, hW, fun dx hx v H1 e1 q1 => by
    obtain ⟨b, rfl, hx⟩ := hx
    cases q1
    refine ⟨b, rfl, ?_⟩
    cases b with
    | false =>
      rw [if_neg Bool.false_ne_true] at hx ⊢
      exact k _ hx _ _ e1 (.bl false)
    | true =>
      rw [if_pos rfl] at hx ⊢
      exact ⟨O, ds, P, hS.mono e1, hO.mono e1, hx, fun d hd w H2 e2 q2 => k d hd w H2 (e1.trans e2) q2⟩⟩
theorem we_or (ha : PE X a (tW Wa)) (hb : PE X (.BoolOp .Or (b :: rest) pos) (tW Wb)) : PE X (.BoolOp .Or (a :: b :: rest) pos) (tW (wOr Wa Wb)) :=
  PE.weak (pe_or ha hb) fun σ H Q ⟨O, ds, P, hS, hO, hW, k⟩ => ⟨O, ds, _, hS, hO, hW, fun dx hx v H1 e1 q1 => by
    obtain ⟨b, rfl, hx⟩ := hx
    cases q1
    refine ⟨b, rfl, ?_⟩
    cases b with
    | true =>
      rw [if_pos rfl] at hx ⊢
      exact k _ hx _ _ e1 (.bl true)
    | false =>
      rw [if_neg Bool.false_ne_true] at hx ⊢
      exact ⟨O, ds, P, hS.mono e1, hO.mono e1, hx, fun d hd w H2 e2 q2 => k d hd w H2 (e1.trans e2) q2⟩⟩
theorem we_not (ha : PE X a (tW Wa)) : PE X (.UnaryOp .Not a pos) (tW (wNot Wa)) :=
  PE.weak (pe_not ha) fun σ H Q ⟨O, ds, P, hS, hO, hW, k⟩ => ⟨O, ds, _, hS, hO, hW, fun dx hx v H1 e1 q1 => by
    obtain ⟨b, rfl, hx⟩ := hx
    cases q1
    exact ⟨b, rfl, k _ hx _ _ e1 (.bl _)⟩⟩
theorem we_one {op} (ha : PE X a (tW Wa)) : PE X (.BoolOp op [a] pos) (tW Wa) := pe_one ha
/-- .. as tests -/
def wtAnd (T U : WT) : WT := fun ds P => T ds fun b => if b = true then U ds P else P false
def wtOr (T U : WT) : WT := fun ds P => T ds fun b => if b = true then P true else U ds P
def wtNot (T : WT) : WT := fun ds P => T ds fun b => P !b
variable {Ta Tb : WT}
theorem ww_and (ha : PT X a (tTW Ta)) (hb : PW X (.BoolOp .And (b :: rest) pos) (tTW Tb)) : PW X (.BoolOp .And (a :: b :: rest) pos) (tTW (wtAnd Ta Tb)) :=
  PW.weak (pw_and ha hb) fun σ H Q ⟨O, ds, P, hS, hO, hW, k⟩ => ⟨O, ds, _, hS, hO, hW, fun b hb H1 e1 => by
    cases b with
    | false =>
      rw [if_neg Bool.false_ne_true] at hb ⊢
      exact k _ hb _ e1
    | true =>
      rw [if_pos rfl] at hb ⊢
      exact ⟨O, ds, P, hS.mono e1, hO.mono e1, hb, fun d hd H2 e2 => k d hd H2 (e1.trans e2)⟩⟩
theorem ww_or (ha : PT X a (tTW Ta)) (hb : PW X (.BoolOp .Or (b :: rest) pos) (tTW Tb)) : PW X (.BoolOp .Or (a :: b :: rest) pos) (tTW (wtOr Ta Tb)) :=
  PW.weak (pw_or ha hb) fun σ H Q ⟨O, ds, P, hS, hO, hW, k⟩ => ⟨O, ds, _, hS, hO, hW, fun b hb H1 e1 => by
    cases b with
    | true =>
      rw [if_pos rfl] at hb ⊢
      exact k _ hb _ e1
    | false =>
      rw [if_neg Bool.false_ne_true] at hb ⊢
      exact ⟨O, ds, P, hS.mono e1, hO.mono e1, hb, fun d hd H2 e2 => k d hd H2 (e1.trans e2)⟩⟩
theorem wt_not (ha : PT X a (tTW Ta)) : PT X (.UnaryOp .Not a pos) (tTW (wtNot Ta)) :=
  PT.weak (pt_not ha) fun σ H Q ⟨O, ds, P, hS, hO, hW, k⟩ => ⟨O, ds, _, hS, hO, hW, fun b hb H1 e1 => k _ hb _ e1⟩
def wIf (T : WT) (Wa Wb : WE) : WE := fun ds P => T ds fun b => if b = true then Wa ds P else Wb ds P
theorem we_if (hc : PT X c (tTW Ta)) (ha : PE X a (tW Wa)) (hb : PE X b (tW Wb)) : PE X (.IfExp c a b pos) (tW (wIf Ta Wa Wb)) :=
  PE.weak (pe_ifExp hc ha hb) fun σ H Q ⟨O, ds, P, hS, hO, hW, k⟩ => ⟨O, ds, _, hS, hO, hW, fun b hb H1 e1 => by
    cases b with
    | true =>
      rw [if_pos rfl] at hb ⊢
      exact ⟨O, ds, P, hS.mono e1, hO.mono e1, hb, fun d hd w H2 e2 q2 => k d hd w H2 (e1.trans e2) q2⟩
    | false =>
      rw [if_neg Bool.false_ne_true] at hb ⊢
      exact ⟨O, ds, P, hS.mono e1, hO.mono e1, hb, fun d hd w H2 e2 q2 => k d hd w H2 (e1.trans e2) q2⟩⟩

/-! ### arguments, displays, calls -/
def waNil : WA := fun _ P => P []
def waCons (W : WE) (A : WA) : WA := fun ds P => W ds fun d => A ds fun es => P (d :: es)
theorem wa_nil : PA X [] (tAW waNil) := PA.weak pa_nil fun σ H Q ⟨O, ds, P, hS, hO, hW, k⟩ => k [] hW [] H (.refl _ _) .nil
theorem wa_cons {e : Expr} {es : List Expr} {W : WE} {A : WA} (ha : PE X e (tW W)) (hr : PA X es (tAW A)) (hs : starEach (e :: es) X.env = (false, eval e X.env) :: starEach es X.env := by rfl) : PA X (e :: es) (tAW (waCons W A)) :=
  PA.weak (pa_cons ha hr hs) fun σ H Q ⟨O, ds, P, hS, hO, hW, k⟩ => ⟨O, ds, _, hS, hO, hW, fun dx hx v H1 e1 q1 => ⟨O, ds, _, hS.mono e1, hO.mono e1, hx, fun es he vs H2 e2 q2 => k _ he _ H2 (e1.trans e2) (.cons (q1.mono e2) q2)⟩⟩
def wTup (A : WA) : WE := fun ds P => A ds fun es => es.length ≤ sizeLine ∧ P (.tup es)
def wLst (A : WA) : WE := fun ds P => A ds fun es => es.length ≤ sizeLine ∧ P (.lst es)
theorem we_tup {x1} {es : List Expr} {A : WA} (h : PA X es (tAW A)) : PE X (.Tuple es x1 pos) (tW (wTup A)) :=
  PE.weak (pe_tup h) fun σ H Q ⟨O, ds, P, hS, hO, hW, k⟩ => ⟨O, ds, _, hS, hO, hW, fun es ⟨hl, he⟩ vs H1 e1 q1 => ⟨by rw [q1.length]; exact hl, fun p hp =>
    k _ he _ _ (e1.trans (.new hp)) (.tup ((hO.mono e1).out hp) (.of upd_same) (q1.mono (.new hp)))⟩⟩
theorem we_lst {es : List Expr} {A : WA} (h : PA X es (tAW A)) : PE X (.List es pos) (tW (wLst A)) :=
  PE.weak (pe_lst h) fun σ H Q ⟨O, ds, P, hS, hO, hW, k⟩ => ⟨O, ds, _, hS, hO, hW, fun es ⟨hl, he⟩ vs H1 e1 q1 => ⟨by rw [q1.length]; exact hl, fun p hp =>
    k _ he _ _ (e1.trans (.new hp)) (.lst ((hO.mono e1).out hp) upd_same (q1.mono (.new hp)))⟩⟩
/-- a built-in's call by data -/
abbrev DFn := List D → (D → Prop) → Prop
def rF (f : DFn) : List V → Hp → VK → Prop := fun xs H Q => ∃ (O : Ow) (es : List D) (P : D → Prop), DqAll O H xs es ∧ OwnAll O H ∧ f es P ∧ ∀ d, P d → ∀ v H', Ext O H H' → Dq O H' v d → Q v H'
def wCall (f : DFn) (A : WA) : WE := fun ds P => A ds fun es => f es P
theorem call_red {f : DFn} {A : WA} {σ : L2.St} {H : Hp} {Q : VK} (h : tW (wCall f A) σ H Q) : tAW A σ H fun vs H1 => rF f vs H1 Q := by
  obtain ⟨O, ds, P, hS, hO, hW, k⟩ := h
  exact ⟨O, ds, _, hS, hO, hW, fun es he vs H1 e1 q1 => ⟨O, es, P, q1, hO.mono e1, he, fun d hd v H2 e2 q2 => k d hd v H2 (e1.trans e2) q2⟩⟩
/-- the promise of a def: what is known of its arguments and its answer by data; Z: what it may raise, by class and told -/
abbrev DSp := List D → (D → Prop) → (Addr → D → Prop) → Prop
def spD (f : DSp) : Sp := fun vs H Q E => ∃ (O : Ow) (es : List D) (P : D → Prop) (Z : Addr → D → Prop), DqAll O H vs es ∧ OwnAll O H ∧ f es P Z ∧ (∀ d, P d → ∀ v H', Ext O H H' → Dq O H' v d → Q v H') ∧
  ∀ C d, Z C d → ∀ dx v H', Ext O H H' → Out O dx → H' dx = some (.xd [("told", v)]) → Dq O H' v d → E (.ref C) (some dx) H'
/-- .. that may not raise here -/
def quiet (f : DSp) : DFn := fun es P => f es P fun _ _ => False
theorem fn_red {f : DSp} {A : WA} {σ : L2.St} {H : Hp} {Q : VK} {E : XK} (h : tW (wCall (quiet f) A) σ H Q) : tCall (spD f) [] E (tAW A) σ H Q := by
  obtain ⟨O, ds, P, hS, hO, hW, k⟩ := h
  refine ⟨O, ds, _, hS, hO, hW, fun es he vs H1 e1 q1 => ?_⟩
  show spD f (vs ++ []) H1 Q E
  rw [List.append_nil]
  exact ⟨O, es, P, fun _ _ => False, q1, hO.mono e1, he, fun d hd v H2 e2 q2 => k d hd v H2 (e1.trans e2) q2, fun _ _ z => z.elim⟩
end
end DL

set_option maxHeartbeats 2000000
namespace DL
open PySem PySem.Spec PyProof.Rows L2
variable [TabCtx]
/-! ### statements -/
def gNext : WS := fun ds N _ _ => N ds
def gSeq (G1 G2 : WS) : WS := fun ds N R Z => G1 ds (fun ds' => G2 ds' N R Z) R Z
def gRet (W : WE) : WS := fun ds _ R _ => W ds R
def gSet (i : Nat) (W : WE) : WS := fun ds N _ _ => W ds fun d => N (ds.set i (some d))
def gIf (T : WT) (G1 G2 : WS) : WS := fun ds N R Z => T ds fun b => if b = true then G1 ds N R Z else G2 ds N R Z
def gDrop (W : WE) : WS := fun ds N _ _ => W ds fun _ => N ds
section
variable {X : Cx} {E : XK} {st : Stmt} {rest : List Stmt} {G1 G2 : WS} {e : Expr} {W : WE} {pos : Pos}
theorem wss_nil : PSs X [] (tSW E gNext) := PSs.weak pss_nil fun D σ H ⟨O, ds, N, R, Z, hS, hO, hG, hN, hR, hZ⟩ => hN ds hG σ H (.refl _ _) hS
theorem wss_cons (h1 : PS X st (tSW E G1)) (h2 : PSs X rest (tSW E G2)) : PSs X (st :: rest) (tSW E (gSeq G1 G2)) :=
  PSs.weak (pss_cons h1 h2) fun D σ H ⟨O, ds, N, R, Z, hS, hO, hG, hN, hR, hZ⟩ => ⟨O, ds, _, R, Z, hS, hO, hG, fun ds' hd σ' H' e1 s1 =>
    ⟨O, ds', N, R, Z, s1, hO.mono e1, hd, fun d2 h2 σ2 H2 e2 s2 => hN d2 h2 σ2 H2 (e1.trans e2) s2, fun d h v H2 e2 q2 => hR d h v H2 (e1.trans e2) q2, fun C d h dx v H2 e2 q2 => hZ C d h dx v H2 (e1.trans e2) q2⟩, hR, hZ⟩
theorem wss_one (h1 : PS X st (tSW E G1)) : PSs X [st] (tSW E G1) := pss_one h1
theorem ws_ret (he : PE X e (tW W)) : PS X (.Return (some e) pos) (tSW E (gRet W)) := PS.weak (ps_ret he) fun D σ H ⟨O, ds, N, R, Z, hS, hO, hG, hN, hR, hZ⟩ => ⟨O, ds, R, hS, hO, hG, hR⟩
theorem ws_drop (he : PE X e (tW W)) (hs : swapsWith e none pos.line X.env = pure false := by rfl) : PS X (.Expr e pos) (tSW E (gDrop W)) :=
  PS.weak (ps_expr he hs) fun D σ H ⟨O, ds, N, R, Z, hS, hO, hG, hN, hR, hZ⟩ => ⟨O, ds, _, hS, hO, hG, fun d hd v H1 e1 _ => hN ds hd σ H1 e1 (hS.mono e1)⟩
theorem ws_set {i : Nat} {x : Str} {pos' : Pos} (hN : X.N.Nodup) (hi : X.N[i]? = some x) (hx : Loc X.env.scope x) (he : PE X e (tW W)) (hs : swapsWith e (some (.Name x pos')) pos.line X.env = pure false := by rfl)
    (hf : X.fn x = true ∨ X.env.scope.names.lookup x = some .local := by first | exact .inl rfl | exact .inr rfl | assumption) : PS X (.Assign [.Name x pos'] e pos) (tSW E (gSet i W)) :=
  PS.weak (ps_set hN hi hx he hs hf) fun D σ H ⟨O, ds, N, R, Z, hS, hO, hG, hN, hR, hZ⟩ => ⟨O, ds, _, hS, hO, hG, fun d hd v H1 e1 q1 => hN _ hd _ H1 e1 ((hS.mono e1).set i q1)⟩
theorem ws_if {c : Expr} {a b : List Stmt} {T : WT} (hc : PT X c (tTW T)) (ha : PSs X a (tSW E G1)) (hb : PSs X b (tSW E G2)) : PS X (.If c a b pos) (tSW E (gIf T G1 G2)) :=
  PS.weak (ps_if hc ha hb) fun D σ H ⟨O, ds, N, R, Z, hS, hO, hG, hN, hR, hZ⟩ => ⟨O, ds, _, hS, hO, hG, fun b hb H1 e1 => by
    cases b with
    | true =>
      rw [if_pos rfl] at hb ⊢
      exact ⟨O, ds, N, R, Z, hS.mono e1, hO.mono e1, hb, fun d2 h2 σ2 H2 e2 s2 => hN d2 h2 σ2 H2 (e1.trans e2) s2, fun d h v H2 e2 q2 => hR d h v H2 (e1.trans e2) q2, fun C d h dx v H2 e2 q2 => hZ C d h dx v H2 (e1.trans e2) q2⟩
    | false =>
      rw [if_neg Bool.false_ne_true] at hb ⊢
      exact ⟨O, ds, N, R, Z, hS.mono e1, hO.mono e1, hb, fun d2 h2 σ2 H2 e2 s2 => hN d2 h2 σ2 H2 (e1.trans e2) s2, fun d h v H2 e2 q2 => hR d h v H2 (e1.trans e2) q2, fun C d h dx v H2 e2 q2 => hZ C d h dx v H2 (e1.trans e2) q2⟩⟩
/-! ### raising an own error that keeps what it is told -/
/-- MomentError.__init__(self, told): self.told = told -/
def spTold (K : PySem.W.Frag) : Sp := fun vs H Q _ => ∃ (a C : Addr) (v : V), vs = [.ref a, v] ∧ OexC K C ∧ PySem.W.findIn K (.ref C) "told" = some none ∧ H a = some (exo a C none) ∧ ∀ dx, H dx = none → dx ≠ a → Q .non (upd (upd H dx (exd dx [("told", v)])) a (exo a C (some dx)))
theorem ok_told {P : Program} {w : World} {K : PySem.W.Frag} {mg : Str → Option Value} {base : Heap} {st : Stmt} {q : Str} {f : Addr} {fd : FuncData} {p1 p2 p3 p4 : Pos} (F : Fun K "__init__" q st f fd) (S : FnScope ["self", "told"] ["self", "told"] (defScope st))
    (hb : defBody st = [.Assign [.Attribute (.Name "self" p1) "told" p2] (.Name "told" p3) p4]) (v0 : (defScope st).names.lookup ("self" : Str) = some NameKind.local) (v1 : (defScope st).names.lookup ("told" : Str) = some NameKind.local) : FnOk P w K mg base CX0 1 f fd ["self", "told"] (spTold K) := by
  refine F.ok S (fun vs H Q E ⟨a, C, v, e, _⟩ => by rw [e]; rfl) (fun cdv A outer s H vs Q E hr ⟨a, C, v, e, T, no, ha, k⟩ => ?_)
  subst e
  rw [hb]
  exact ⟨_, pss_one (ps_ost (pv 0 rfl (.inl v0)) (pv 1 rfl (.inl v1))), _, rfl, _, rfl, a, C, rfl, T, no, .inl ⟨ha, fun dx n1 n2 => k dx n1 n2⟩⟩
/-- raise C(e) -/
def gRaise (C : Addr) (W : WE) : WS := fun ds _ _ Z => W ds fun d => Z C d
theorem ws_raise {CX : CXT} {x : Str} {C fI : Addr} {k : Nat} {fd : FuncData} {ps : List Str} {p p' : Pos} (hc : X.calm = true) (tk : Takes X (fun cls d _ H => E cls d H)) (T : OexC X.K C)
    (iC : PySem.W.findIn X.K (.ref C) "__init__" = some (some (.ref fI))) (tI : PySem.W.typeIn X.K (.ref fI) = some (.type "function"))
    (hno : PySem.W.findIn X.K (.ref C) "told" = some none) (F1 : FnOk X.prog X.w X.K X.mg X.base CX k fI fd ps (spTold X.K)) (hr : Room (k + 1) X.A) (hb : Binds X.K fd ps []) (hx : Passes CX X (fun _ _ _ => False)) (hg : Gl X x) (hm : X.mg x = some (.ref C)) (ha : PE X e (tW W))
    (hdb : (x == ("__debug__" : Str)) = false := by decide) (hs : starEach [e] X.env = (false, eval e X.env) :: starEach [] X.env := by rfl) (hpl : (backTo p' (starEach [] X.env)).any (·.1) = false := by rfl) :
    PS X (.Raise (some (.Call (.Name x p) [e] [] p')) none pos) (tSW E (gRaise C W)) :=
  PS.weak (ps_raise hc tk (pmk_oex T iC tI F1 hr hb .nil hx hg hm (pa_cons ha pa_nil hs) hdb hs hpl)) fun D σ H ⟨O, ds, N, R, Z, hS, hO, hG, hN, hR, hZ⟩ =>
    ⟨O, ds, _, hS, hO, hG, fun d hd v H1 e1 q1 => ⟨by show 1 ≤ 1000; decide, fun a na => ⟨a, C, v, rfl, T, hno, upd_same, fun dx ndx hne => by
      have n1 : H1 dx = none := by
        rw [upd_ne hne] at ndx
        exact ndx
      refine ⟨rfl, dx, [("told", v)], upd_same, by rw [upd_ne hne, upd_same], n1, ?_⟩
      have e2 : Ext O H1 (upd (del (upd (upd (upd H1 a (exo a C none)) dx (exd dx [("told", v)])) a (exo a C (some dx))) a) dx (.xd [("told", v)])) := .same fun b o hb => by
        have h1 : b ≠ dx := ne_of_none hb n1
        have h2 : b ≠ a := ne_of_none hb na
        rw [upd_ne h1, del_ne h2, upd_ne h2, upd_ne h1, upd_ne h2]
        exact hb
      exact hZ C d hd dx v _ (e1.trans e2) ((hO.mono e1).out n1) upd_same (q1.mono e2)⟩⟩⟩
end
/-! ### a def's promise by its body -/
def startD (N : List Str) (es : List D) : Sl := es.map some ++ List.replicate (N.length - es.length) none
theorem start_sl {O : Ow} {H : Hp} {N : List Str} {vs : List V} {es : List D} (h : DqAll O H vs es) : SlD O H (L2.start N vs) (startD N es) := by
  refine ⟨by unfold L2.start startD; simp [h.length], fun i d hd => ?_⟩
  unfold startD at hd
  unfold L2.start
  by_cases hi : i < es.length
  · rw [List.getElem?_append_left (by simpa using hi)] at hd
    rw [List.getElem?_map] at hd
    cases he : es[i]? with
    | none => rw [he] at hd; cases hd
    | some d' =>
      rw [he] at hd
      cases hd
      obtain ⟨v, a, b⟩ := h.get he
      exact ⟨v, by rw [List.getElem?_append_left (by rw [List.length_map, h.length]; exact hi), List.getElem?_map, a]; rfl, b⟩
  · rw [List.getElem?_append_right (by simpa using hi), List.getElem?_replicate] at hd
    split at hd <;> cases hd
section
variable {P : Program} {w : World} {K : PySem.W.Frag} {mg : Str → Option Value} {base : Heap}
/-- a def that raises nothing -/
theorem fn_ok {x qual : Str} {st : Stmt} {f : Addr} {fd : FuncData} {N ps : List Str} {k : Nat} {g : DFn} (F : Fun K x qual st f fd) (S : FnScope N ps (defScope st)) (len : ∀ es P, g es P → es.length = ps.length)
    (hbody : ∀ (cdv : Value) (A : Around) (outer : List Env) (s : Shared) (H : Hp) (E : XK), Room k (A.deeper (envOfC qual (defScope st) s.heap.objs.size f cdv)) →
      ∃ G, PSs (cxOf CX0 P w K mg base N qual (defScope st) f cdv A outer s H E).nox (defBody st) (tSW (fun _ _ _ => False) G) ∧ ∀ es P, g es P → G (startD N es) (fun _ => P .non) P fun _ _ => False) :
    FnOk P w K mg base CX0 (k + 1) f fd ps (spD fun es P _ => g es P) := by
  refine F.ok S (fun vs H Q E ⟨O, es, P, Z, hq, hO, hg, _⟩ => by rw [hq.length]; exact len _ _ hg) (fun cdv A outer s H vs Q E hr ⟨O, es, P, Z, hq, hO, hg, hP, hZ⟩ => ?_)
  obtain ⟨G, h1, h2⟩ := hbody cdv A outer s H E hr
  exact ⟨_, h1, O, startD N es, _, P, _, start_sl hq, hO, h2 es P hg, fun ds' hd σ' H' e1 _ => hP _ hd _ H' e1 .non, hP, fun _ _ z => z.elim⟩
/-- a def that may raise -/
theorem fn_okX {x qual : Str} {st : Stmt} {f : Addr} {fd : FuncData} {N ps : List Str} {k : Nat} {g : DSp} (F : Fun K x qual st f fd) (S : FnScope N ps (defScope st)) (len : ∀ es P Z, g es P Z → es.length = ps.length)
    (hbody : ∀ (cdv : Value) (A : Around) (outer : List Env) (s : Shared) (H : Hp) (E : XK), Room k (A.deeper (envOfC qual (defScope st) s.heap.objs.size f cdv)) →
      ∃ G, PSs (cxOf (L2.CX P w) P w K mg base N qual (defScope st) f cdv A outer s H E) (defBody st) (tSW E G) ∧ ∀ es P Z, g es P Z → G (startD N es) (fun _ => P .non) P Z) :
    FnOk P w K mg base (L2.CX P w) (k + 1) f fd ps (spD g) := by
  refine F.okX S (fun vs H Q E ⟨O, es, P, Z, hq, hO, hg, _⟩ => by rw [hq.length]; exact len _ _ _ hg) (fun cdv A outer s H vs Q E hr ⟨O, es, P, Z, hq, hO, hg, hP, hZ⟩ => ?_)
  obtain ⟨G, h1, h2⟩ := hbody cdv A outer s H E hr
  exact ⟨_, h1, O, startD N es, _, P, Z, start_sl hq, hO, h2 es P Z hg, fun ds' hd σ' H' e1 _ => hP _ hd _ H' e1 .non, hP, hZ⟩
end
/-! ### calls -/
section
variable {X : Cx} {k : Nat} {f : Addr} {fd : FuncData} {ps : List Str} {x : Str} {p pos : Pos} {e : Expr} {es : List Expr} {A : WA}
/-- a def that raises nothing -/
theorem we_call {g : DFn} (F : FnOk X.prog X.w X.K X.mg X.base CX0 k f fd ps (spD fun es P _ => g es P)) (hr : Room k X.A) (hg : Gl X x) (hm : X.mg x = some (.ref f)) (hk : PySem.W.keepIn X.K (.ref f) = true) (hb : Binds X.K fd ps [])
    (ha : PA X (e :: es) (tAW A)) (hdb : (x == ("__debug__" : Str)) = false := by decide) (he : starEach (e :: es) X.env = (false, eval e X.env) :: starEach es X.env := by rfl) (hpl : (backTo pos (starEach es X.env)).any (·.1) = false := by rfl) :
    PE X (.Call (.Name x p) (e :: es) [] pos) (tW (wCall g A)) := PE.weak (pe_call F hr hg hm hk hb .nil pass0 ha hdb he hpl) fun σ H Q h => fn_red (f := fun es P _ => g es P) h
/-- a def that may raise, but not here -/
theorem we_callX {g : DSp} (F : FnOk X.prog X.w X.K X.mg X.base (L2.CX X.prog X.w) k f fd ps (spD g)) (hr : Room k X.A) (hg : Gl X x) (hm : X.mg x = some (.ref f)) (hk : PySem.W.keepIn X.K (.ref f) = true) (hb : Binds X.K fd ps [])
    (ha : PA X (e :: es) (tAW A)) (hdb : (x == ("__debug__" : Str)) = false := by decide) (he : starEach (e :: es) X.env = (false, eval e X.env) :: starEach es X.env := by rfl) (hpl : (backTo pos (starEach es X.env)).any (·.1) = false := by rfl) :
    PE X (.Call (.Name x p) (e :: es) [] pos) (tW (wCall (quiet g) A)) := PE.weak (pe_call F hr hg hm hk hb .nil passL ha hdb he hpl) fun σ H Q h => fn_red h
/-- a built-in -/
theorem we_callB {id : String} {g : DFn} (hc : CallR X (.builtin id) (rF g)) (hg : Gl X x) (hm : X.mg x = none) (hv : bootBuiltins x = some (.builtin id)) (ha : PA X (e :: es) (tAW A)) (hn : x ≠ "__name__" := by decide) (hdb : (x == ("__debug__" : Str)) = false := by decide)
    (he : starEach (e :: es) X.env = (false, eval e X.env) :: starEach es X.env := by rfl) (hpl : (backTo pos (starEach es X.env)).any (·.1) = false := by rfl) : PE X (.Call (.Name x p) (e :: es) [] pos) (tW (wCall g A)) :=
  PE.weak (pe_callB hc hg hm hv ha hn hdb he hpl) fun σ H Q h => call_red h
theorem we_callTy {T : String} {g : DFn} (hc : CallR X (.type T) (rF g)) (hg : Gl X x) (hm : X.mg x = none) (hv : bootBuiltins x = some (.type T)) (ha : PA X (e :: es) (tAW A)) (hn : x ≠ "__name__" := by decide) (hdb : (x == ("__debug__" : Str)) = false := by decide)
    (he : starEach (e :: es) X.env = (false, eval e X.env) :: starEach es X.env := by rfl) (hpl : (backTo pos (starEach es X.env)).any (·.1) = false := by rfl) : PE X (.Call (.Name x p) (e :: es) [] pos) (tW (wCall g A)) :=
  PE.weak (pe_callTy hc hg hm hv ha hn hdb he hpl) fun σ H Q h => call_red h
end
end DL

set_option maxHeartbeats 2000000
namespace DL
open PySem PySem.Spec PyProof.Rows L2
variable [TabCtx]
/-! ### data as the library's data -/
mutual
def D.py : D → PyData
  | .non => .none
  | .bl b => .bool b
  | .int i => .int i
  | .str x => .str x
  | .lst xs => .list (D.pys xs)
  | .tup xs => .tuple (D.pys xs)
  | .src _ => .none
  | .fn _ => .none
  | .exn _ _ _ => .none
  | .sq _ _ => .none
  | .ins _ _ _ => .none
  | .dct _ _ => .none
def D.pys : List D → List PyData
  | [] => []
  | d :: ds => d.py :: D.pys ds
end
mutual
/-- nothing but data -/
def D.pl : D → Bool
  | .src _ => false
  | .fn _ => false
  | .exn _ _ _ => false
  | .sq _ _ => false
  | .ins _ _ _ => false
  | .dct _ _ => false
  | .lst xs => D.pls xs
  | .tup xs => D.pls xs
  | _ => true
def D.pls : List D → Bool
  | [] => true
  | d :: ds => d.pl && D.pls ds
end
mutual
theorem Dq.dp {O : Ow} {K : PySem.W.Frag} {H : Hp} : ∀ {v : V} {d : D}, Dq O H v d → d.pl = true → Dp K H v d.py
  | _, _, .non, _ => by unfold D.py; exact .non
  | _, _, .bl b, _ => by unfold D.py; exact .bl b
  | _, _, .int i, _ => by unfold D.py; exact .int i
  | _, _, .str x, _ => by unfold D.py; exact .str x
  | _, _, .lst x r a, h => by
    unfold D.py
    unfold D.pl at h
    exact .lst (.inl (.inl r)) (a.dp h)
  | _, _, .tup x r a, h => by
    unfold D.py
    unfold D.pl at h
    exact .tup (.inl r) (a.dp h)
  | _, _, .src _, h => by
    unfold D.pl at h
    cases h
  | _, _, .fn _, h => by
    unfold D.pl at h
    cases h
  | _, _, .exn _ _ _, h => by
    unfold D.pl at h
    cases h
  | _, _, .sq _, h => by
    unfold D.pl at h
    cases h
  | _, _, .ins _ _ _, h => by
    unfold D.pl at h
    cases h
  | _, _, .dct _ _ _, h => by
    unfold D.pl at h
    cases h
theorem DqAll.dp {O : Ow} {K : PySem.W.Frag} {H : Hp} : ∀ {vs : List V} {ds : List D}, DqAll O H vs ds → D.pls ds = true → DpAll K H vs (D.pys ds)
  | _, _, .nil, _ => by unfold D.pys; exact .nil
  | _, _, .cons a b, h => by
    unfold D.pls at h
    unfold D.pys
    obtain ⟨h1, h2⟩ := Bool.and_eq_true_iff.mp h
    exact .cons (a.dp h1) (b.dp h2)
end
/-- may be asked by == -/
def okEq (d : D) : Prop := d.pl = true ∧ SeqAt.shaped d.py = true
def eqD (x y : D) : Bool := PyData.eqv x.py y.py

/-! ### operations -/
def dAdd : DOp := fun x y P => match x, y with
  | .int i, .int j => P (.int (i + j))
  | .str a, .str b => a.length + b.length ≤ sizeLine ∧ P (.str (a ++ b))
  | .tup xs, .tup ys => xs.length + ys.length ≤ sizeLine ∧ P (.tup (xs ++ ys))
  | .lst xs, .lst ys => xs.length + ys.length ≤ sizeLine ∧ P (.lst (xs ++ ys))
  | _, _ => False
def dSub : DOp := fun x y P => match x, y with
  | .int i, .int j => P (.int (i - j))
  | _, _ => False
def dMul : DOp := fun x y P => match x, y with
  | .int i, .int j => CMulW i j ∧ P (.int (i * j))
  | _, _ => False
def dMod : DOp := fun x y P => match x, y with
  | .int i, .int j => 0 < j ∧ P (.int (i % j))
  | _, _ => False
def dFdiv : DOp := fun x y P => match x, y with
  | .int i, .int j => CDivW i j ∧ P (.int (i / j))
  | _, _ => False
def dPow : DOp := fun x y P => match x, y with
  | .int i, .int j => CPow i j ∧ P (.int (i ^ j.toNat))
  | _, _ => False
def dEq : DOp := fun x y P => match x, y with
  | .str a, .str b => P (.bl (decide (a = b)))
  | .int i, .int j => P (.bl (decide (i = j)))
  | .bl a, .bl b => P (.bl (decide (a = b)))
  | x, y => okEq x ∧ okEq y ∧ P (.bl (eqD x y))
def dNe : DOp := fun x y P => match x, y with
  | .str a, .str b => P (.bl (!decide (a = b)))
  | .int i, .int j => P (.bl (!decide (i = j)))
  | .bl a, .bl b => P (.bl (!decide (a = b)))
  | x, y => okEq x ∧ okEq y ∧ P (.bl (!eqD x y))
def dLe : DOp := fun x y P => match x, y with
  | .int i, .int j => P (.bl (decide (i ≤ j)))
  | .str a, .str b => P (.bl (!decide (b.cps.toList < a.cps.toList)))
  | _, _ => False
def dLt : DOp := fun x y P => match x, y with
  | .int i, .int j => P (.bl (decide (i < j)))
  | .str a, .str b => P (.bl (decide (a.cps.toList < b.cps.toList)))
  | _, _ => False
def dGe : DOp := fun x y P => match x, y with
  | .int i, .int j => P (.bl (decide (j ≤ i)))
  | _, _ => False
def dGt : DOp := fun x y P => match x, y with
  | .int i, .int j => P (.bl (decide (j < i)))
  | _, _ => False
/-- is True, is False -/
def dIsB : DOp := fun x y P => match x, y with
  | .bl a, .bl b => P (.bl (decide (a = b)))
  | _, _ => False
/-- the texts of a list of data -/
def strsOf : List D → Option (List Str)
  | [] => some []
  | .str x :: ds => (strsOf ds).map (x :: ·)
  | _ :: _ => none
def boolsOf : List D → Option (List Bool)
  | [] => some []
  | .bl x :: ds => (boolsOf ds).map (x :: ·)
  | _ :: _ => none
theorem strsOf_vs {O : Ow} {H : Hp} : ∀ {ds : List D} {xs : List Str} {vs : List V}, strsOf ds = some xs → DqAll O H vs ds → vs = xs.map V.str
  | [], xs, vs, h, q => by
    cases q
    cases h
    rfl
  | d :: ds, xs, vs, h, q => by
    cases q with
    | cons a b =>
      cases d <;> simp [strsOf] at h
      obtain ⟨ys, h1, rfl⟩ := h
      cases a
      rw [strsOf_vs h1 b]
      rfl
theorem boolsOf_vs {O : Ow} {H : Hp} : ∀ {ds : List D} {xs : List Bool} {vs : List V}, boolsOf ds = some xs → DqAll O H vs ds → vs = xs.map V.bl
  | [], xs, vs, h, q => by
    cases q
    cases h
    rfl
  | d :: ds, xs, vs, h, q => by
    cases q with
    | cons a b =>
      cases d <;> simp [boolsOf] at h
      obtain ⟨ys, h1, rfl⟩ := h
      cases a
      rw [boolsOf_vs h1 b]
      rfl
/-- in: a text in a list or tuple of texts, a sign in a text, a bool in a list of bools -/
def dIn : DOp := fun x y P => match x, y with
  | .str a, .lst ds => ∃ xs, strsOf ds = some xs ∧ P (.bl (decide (a ∈ xs)))
  | .str a, .tup ds => ∃ xs, strsOf ds = some xs ∧ P (.bl (decide (a ∈ xs)))
  | .bl a, .lst ds => ∃ xs, boolsOf ds = some xs ∧ P (.bl (decide (a ∈ xs)))
  | .str a, .str z => ∃ c, a = ⟨#[c]⟩ ∧ P (.bl (decide (c ∈ z.cps.toList)))
  | _, _ => False
theorem inV_str (a : Str) (xs : List Str) : inV (.str a) (xs.map V.str) = decide (a ∈ xs) := by
  unfold inV
  induction xs with
  | nil => rfl
  | cons y ys ih =>
    rw [List.map_cons, List.any_cons, ih]
    show ((y == a) || decide (a ∈ ys)) = decide (a ∈ y :: ys)
    by_cases h : y = a
    · subst h
      simp
    · have h1 : (y == a) = false := beq_eq_false_iff_ne.mpr h
      have h2 : a ≠ y := fun e => h e.symm
      simp [h1, h2]
theorem inV_bl (a : Bool) (xs : List Bool) : inV (.bl a) (xs.map V.bl) = decide (a ∈ xs) := by
  unfold inV
  induction xs with
  | nil => rfl
  | cons y ys ih =>
    rw [List.map_cons, List.any_cons, ih]
    show ((y == a) || decide (a ∈ ys)) = decide (a ∈ y :: ys)
    cases y <;> cases a <;> simp
theorem flat_strs (xs : List Str) : (xs.map V.str).all flatV = true := by
  induction xs with
  | nil => rfl
  | cons y ys ih => rw [List.map_cons, List.all_cons, ih]; rfl
theorem flat_bls (xs : List Bool) : (xs.map V.bl).all flatV = true := by
  induction xs with
  | nil => rfl
  | cons y ys ih => rw [List.map_cons, List.all_cons, ih]; rfl
section
variable {X : Cx}
theorem op_dAdd : OpR X (binaryOp .Add) (rD dAdd) := by
  intro pins s σ H x y v u Q I rx ry ⟨O, dx, dy, P, qx, qy, hO, hg, k⟩
  unfold dAdd at hg
  split at hg
  · cases qx; cases qy
    exact op_add pins s σ H _ _ v u Q I rx ry ⟨_, _, rfl, rfl, k _ hg _ H (.refl _ _) (.int _)⟩
  · cases qx; cases qy
    exact op_add_str pins s σ H _ _ v u Q I rx ry ⟨_, _, rfl, rfl, hg.1, k _ hg.2 _ H (.refl _ _) (.str _)⟩
  · cases qx with
    | tup x1 r1 a1 =>
      cases qy with
      | tup x2 r2 a2 =>
        have z1 := a1.length
        have z2 := a2.length
        refine op_catA pins s σ H _ _ v u Q I rx ry ⟨_, _, _, _, rfl, rfl, .inl r1, .inl r2, by rw [z1, z2]; exact hg.1, fun e => ?_, fun _ e => ?_, fun _ _ p hp => ?_⟩
        · subst e
          cases a1
          exact k _ hg.2 _ H (.refl _ _) (.tup x2 r2 a2)
        · subst e
          cases a2
          refine k _ hg.2 _ H (.refl _ _) ?_
          rw [List.append_nil]
          exact .tup x1 r1 a1
        · exact k _ hg.2 _ _ (.new hp) (.tup (hO.out hp) (.of upd_same) ((a1.append a2).mono (.new hp)))
  · cases qx with
    | lst x1 r1 a1 =>
      cases qy with
      | lst x2 r2 a2 =>
        have z1 := a1.length
        have z2 := a2.length
        exact op_cat pins s σ H _ _ v u Q I rx ry ⟨_, _, _, _, rfl, rfl, r1, r2, by rw [z1, z2]; exact hg.1, fun p hp => k _ hg.2 _ _ (.new hp) (.lst (hO.out hp) upd_same ((a1.append a2).mono (.new hp)))⟩
  · exact hg.elim
theorem op_dSub : OpR X (binaryOp .Sub) (rD dSub) := by
  intro pins s σ H x y v u Q I rx ry ⟨O, dx, dy, P, qx, qy, hO, hg, k⟩
  unfold dSub at hg
  split at hg
  · cases qx; cases qy
    exact op_sub pins s σ H _ _ v u Q I rx ry ⟨_, _, rfl, rfl, k _ hg _ H (.refl _ _) (.int _)⟩
  · exact hg.elim
theorem op_dMul : OpR X (binaryOp .Mult) (rD dMul) := by
  intro pins s σ H x y v u Q I rx ry ⟨O, dx, dy, P, qx, qy, hO, hg, k⟩
  unfold dMul at hg
  split at hg
  · cases qx; cases qy
    exact op_mulW pins s σ H _ _ v u Q I rx ry ⟨_, _, rfl, rfl, hg.1, k _ hg.2 _ H (.refl _ _) (.int _)⟩
  · exact hg.elim
theorem op_dMod : OpR X (binaryOp .Mod) (rD dMod) := by
  intro pins s σ H x y v u Q I rx ry ⟨O, dx, dy, P, qx, qy, hO, hg, k⟩
  unfold dMod at hg
  split at hg
  · cases qx; cases qy
    exact op_mod pins s σ H _ _ v u Q I rx ry ⟨_, _, rfl, rfl, hg.1, k _ hg.2 _ H (.refl _ _) (.int _)⟩
  · exact hg.elim
theorem op_dFdiv : OpR X (binaryOp .FloorDiv) (rD dFdiv) := by
  intro pins s σ H x y v u Q I rx ry ⟨O, dx, dy, P, qx, qy, hO, hg, k⟩
  unfold dFdiv at hg
  split at hg
  · cases qx; cases qy
    exact op_fdivW pins s σ H _ _ v u Q I rx ry ⟨_, _, rfl, rfl, hg.1, k _ hg.2 _ H (.refl _ _) (.int _)⟩
  · exact hg.elim
theorem op_dPow : OpR X (binaryOp .Pow) (rD dPow) := by
  intro pins s σ H x y v u Q I rx ry ⟨O, dx, dy, P, qx, qy, hO, hg, k⟩
  unfold dPow at hg
  split at hg
  · cases qx; cases qy
    exact op_pow pins s σ H _ _ v u Q I rx ry ⟨_, _, rfl, rfl, hg.1, k _ hg.2 _ H (.refl _ _) (.int _)⟩
  · exact hg.elim
theorem op_dEq (hu : X.A.units + 64 < cLine) : OpR X (compareOp .Eq) (rD dEq) := by
  intro pins s σ H x y v u Q I rx ry ⟨O, dx, dy, P, qx, qy, hO, hg, k⟩
  unfold dEq at hg
  split at hg
  · cases qx; cases qy
    exact op_eq pins s σ H _ _ v u Q I rx ry ⟨rfl, k _ (by simpa using hg) _ H (.refl _ _) (.bl _)⟩
  · cases qx; cases qy
    exact op_eq pins s σ H _ _ v u Q I rx ry ⟨rfl, k _ (by simpa using hg) _ H (.refl _ _) (.bl _)⟩
  · cases qx; cases qy
    exact op_eq pins s σ H _ _ v u Q I rx ry ⟨rfl, k _ (by simpa using hg) _ H (.refl _ _) (.bl _)⟩
  · obtain ⟨h1, h2, hg⟩ := hg
    exact op_eqD hu pins s σ H _ _ v u Q I rx ry ⟨_, _, qx.dp h1.1, qy.dp h2.1, h1.2, h2.2, k _ hg _ H (.refl _ _) (.bl _)⟩
theorem op_dNe (hu : X.A.units + 64 < cLine) : OpR X (compareOp .NotEq) (rD dNe) := by
  intro pins s σ H x y v u Q I rx ry ⟨O, dx, dy, P, qx, qy, hO, hg, k⟩
  unfold dNe at hg
  split at hg
  · cases qx; cases qy
    exact op_ne pins s σ H _ _ v u Q I rx ry ⟨rfl, k _ (by simpa using hg) _ H (.refl _ _) (.bl _)⟩
  · cases qx; cases qy
    exact op_ne pins s σ H _ _ v u Q I rx ry ⟨rfl, k _ (by simpa using hg) _ H (.refl _ _) (.bl _)⟩
  · cases qx; cases qy
    exact op_ne pins s σ H _ _ v u Q I rx ry ⟨rfl, k _ (by simpa using hg) _ H (.refl _ _) (.bl _)⟩
  · obtain ⟨h1, h2, hg⟩ := hg
    exact op_neD hu pins s σ H _ _ v u Q I rx ry ⟨_, _, qx.dp h1.1, qy.dp h2.1, h1.2, h2.2, k _ hg _ H (.refl _ _) (.bl _)⟩
theorem op_dLe : OpR X (compareOp .LtE) (rD dLe) := by
  intro pins s σ H x y v u Q I rx ry ⟨O, dx, dy, P, qx, qy, hO, hg, k⟩
  unfold dLe at hg
  split at hg
  · cases qx; cases qy
    exact op_le pins s σ H _ _ v u Q I rx ry ⟨_, _, rfl, rfl, k _ hg _ H (.refl _ _) (.bl _)⟩
  · cases qx; cases qy
    exact op_le_str pins s σ H _ _ v u Q I rx ry ⟨_, _, rfl, rfl, k _ hg _ H (.refl _ _) (.bl _)⟩
  · exact hg.elim
theorem op_dLt : OpR X (compareOp .Lt) (rD dLt) := by
  intro pins s σ H x y v u Q I rx ry ⟨O, dx, dy, P, qx, qy, hO, hg, k⟩
  unfold dLt at hg
  split at hg
  · cases qx; cases qy
    exact op_lt pins s σ H _ _ v u Q I rx ry ⟨_, _, rfl, rfl, k _ hg _ H (.refl _ _) (.bl _)⟩
  · cases qx; cases qy
    exact op_lt_str pins s σ H _ _ v u Q I rx ry ⟨_, _, rfl, rfl, k _ hg _ H (.refl _ _) (.bl _)⟩
  · exact hg.elim
theorem op_dGe : OpR X (compareOp .GtE) (rD dGe) := by
  intro pins s σ H x y v u Q I rx ry ⟨O, dx, dy, P, qx, qy, hO, hg, k⟩
  unfold dGe at hg
  split at hg
  · cases qx; cases qy
    exact op_ge pins s σ H _ _ v u Q I rx ry ⟨_, _, rfl, rfl, k _ hg _ H (.refl _ _) (.bl _)⟩
  · exact hg.elim
theorem op_dGt : OpR X (compareOp .Gt) (rD dGt) := by
  intro pins s σ H x y v u Q I rx ry ⟨O, dx, dy, P, qx, qy, hO, hg, k⟩
  unfold dGt at hg
  split at hg
  · cases qx; cases qy
    exact op_gt pins s σ H _ _ v u Q I rx ry ⟨_, _, rfl, rfl, k _ hg _ H (.refl _ _) (.bl _)⟩
  · exact hg.elim
theorem op_dIsB : OpR X (compareOp .Is) (rD dIsB) := by
  intro pins s σ H x y v u Q I rx ry ⟨O, dx, dy, P, qx, qy, hO, hg, k⟩
  unfold dIsB at hg
  split at hg
  · cases qx; cases qy
    exact op_isBl pins s σ H _ _ v u Q I rx ry ⟨_, _, rfl, rfl, k _ hg _ H (.refl _ _) (.bl _)⟩
  · exact hg.elim
theorem op_dIn : OpR X (compareOp .In) (rD dIn) := by
  intro pins s σ H x y v u Q I rx ry ⟨O, dx, dy, P, qx, qy, hO, hg, k⟩
  unfold dIn at hg
  split at hg
  · obtain ⟨xs, h1, hg⟩ := hg
    cases qx
    cases qy with
    | lst x2 r2 a2 =>
      have e := strsOf_vs h1 a2
      subst e
      exact op_in_seq pins s σ H _ _ v u Q I rx ry ⟨_, _, rfl, .inl (.of r2), rfl, flat_strs _, k _ hg _ H (.refl _ _) (by rw [if_neg Bool.false_ne_true, inV_str]; exact .bl _)⟩
  · obtain ⟨xs, h1, hg⟩ := hg
    cases qx
    cases qy with
    | tup x2 r2 a2 =>
      have e := strsOf_vs h1 a2
      subst e
      exact op_in_seq pins s σ H _ _ v u Q I rx ry ⟨_, _, rfl, .inr (.inl r2), rfl, flat_strs _, k _ hg _ H (.refl _ _) (by rw [if_neg Bool.false_ne_true, inV_str]; exact .bl _)⟩
  · obtain ⟨xs, h1, hg⟩ := hg
    cases qx
    cases qy with
    | lst x2 r2 a2 =>
      have e := boolsOf_vs h1 a2
      subst e
      exact op_in_seq pins s σ H _ _ v u Q I rx ry ⟨_, _, rfl, .inl (.of r2), rfl, flat_bls _, k _ hg _ H (.refl _ _) (by rw [if_neg Bool.false_ne_true, inV_bl]; exact .bl _)⟩
  · obtain ⟨c, h1, hg⟩ := hg
    subst h1
    cases qx
    cases qy
    exact op_in_sign pins s σ H _ _ v u Q I rx ry ⟨_, _, rfl, rfl, k _ hg _ H (.refl _ _) (.bl _)⟩
  · exact hg.elim
end
end DL

set_option maxHeartbeats 2000000
namespace DL
open PySem PySem.Spec PyProof.Rows L2
variable [TabCtx]
/-! ### what is gone through -/
def DWalk (O : Ow) (J : It) (xs : List D) (H : Hp) : Prop := ∃ G : Hp → Prop, Walk J xs.length G (fun i H1 x H' => H' = H1 ∧ ∃ d, xs[i]? = some d ∧ Dq O H x d) ∧
  ∀ H2, (∀ b o, Out O b → H b = some o → NT o → H2 b = some o) → G H2
abbrev WI := Sl → (List D → Prop) → Prop
def tIW (W : WI) : TI := fun σ H R => ∃ (O : Ow) (ds : Sl) (P : List D → Prop), SlD O H σ ds ∧ OwnAll O H ∧ W ds P ∧ ∀ xs, P xs → ∀ J H', Ext O H H' → DWalk O J xs H' → R J H'
def wiTup (W : WE) : WI := fun ds P => W ds fun d => ∃ xs, d = .tup xs ∧ P xs
def wiLst (W : WE) : WI := fun ds P => W ds fun d => ∃ xs, d = .lst xs ∧ P xs
def signs (z : Str) : List D := z.cps.toList.map fun c => .str ⟨#[c]⟩
def wiStr (W : WE) : WI := fun ds P => W ds fun d => ∃ z, d = .str z ∧ P (signs z)
def intsD (n : Nat) : List D := (List.range n).map fun (k : Nat) => D.int (k : Int)
def wiRange (W : WE) : WI := fun ds P => W ds fun d => ∃ j : Int, d = .int j ∧ -(2 ^ 62) ≤ j ∧ j < 2 ^ 62 ∧ P (intsD j.toNat)
section
variable {X : Cx} {tg e : Expr} {W : WE}
theorem PI.weak {tg e : Expr} {t t' : TI} (h : PI X tg e t) (k : ∀ σ H Q, t' σ H Q → t σ H Q) : PI X tg e t' := ⟨fun pins s σ H Q I q => h.run pins s σ H Q I (k σ H Q q)⟩
theorem wi_tup (h : PE X e (tW W)) : PI X tg e (tIW (wiTup W)) := PI.weak (pi_tup h) fun σ H R ⟨O, ds, P, hS, hO, hW, k⟩ => ⟨O, ds, _, hS, hO, hW, fun d hd v H1 e1 q1 => by
  obtain ⟨xs, rfl, hp⟩ := hd
  cases q1 with
  | @tup a vs _ x r q =>
    refine ⟨a, rfl, ⟨vs, .inl r⟩, k xs hp _ H1 e1 ⟨fun H => SqT X.K H a vs, ?_, fun H2 k2 => .inl (rd_keep k2 x r)⟩⟩
    rw [← q.length]
    exact walk_tup.mono (fun H z => z) fun i H x H' hi z y => by
      obtain ⟨y1, y2⟩ := y
      have hi' : i < xs.length := by rw [← q.length]; exact hi
      obtain ⟨v, e1, q1⟩ := q.get (i := i) (d := xs[i]) (by simp [hi'])
      rw [y2] at e1
      cases e1
      exact ⟨y1, _, by simp [hi'], q1⟩⟩
theorem wi_lst (h : PE X e (tW W)) : PI X tg e (tIW (wiLst W)) := PI.weak (pi_list h) fun σ H R ⟨O, ds, P, hS, hO, hW, k⟩ => ⟨O, ds, _, hS, hO, hW, fun d hd v H1 e1 q1 => by
  obtain ⟨xs, rfl, hp⟩ := hd
  cases q1 with
  | @lst a vs _ x r q =>
    refine ⟨a, rfl, ⟨vs, .of r⟩, k xs hp _ H1 e1 ⟨fun H => SqL X.K H a vs, ?_, fun H2 k2 => .of (k2 _ _ x r (by intro ps z; cases z))⟩⟩
    rw [← q.length]
    exact walk_list.mono (fun H z => z) fun i H x H' hi z y => by
      obtain ⟨y1, y2⟩ := y
      have hi' : i < xs.length := by rw [← q.length]; exact hi
      obtain ⟨v, e1, q1⟩ := q.get (i := i) (d := xs[i]) (by simp [hi'])
      rw [y2] at e1
      cases e1
      exact ⟨y1, _, by simp [hi'], q1⟩⟩
theorem wi_str (h : PE X e (tW W)) : PI X tg e (tIW (wiStr W)) := PI.weak (pi_str h) fun σ H R ⟨O, ds, P, hS, hO, hW, k⟩ => ⟨O, ds, _, hS, hO, hW, fun d hd v H1 e1 q1 => by
  obtain ⟨z, rfl, hp⟩ := hd
  cases q1
  refine ⟨z, rfl, k _ hp _ H1 e1 ⟨fun _ => True, ?_, fun _ _ => trivial⟩⟩
  have hl : (signs z).length = z.cps.size := by simp [signs]
  rw [hl]
  exact walk_str.mono (fun _ z => z) fun i H x H' hi _ y => by
    obtain ⟨y1, c, y2, rfl⟩ := y
    refine ⟨y1, .str ⟨#[c]⟩, ?_, .str _⟩
    unfold signs
    rw [List.getElem?_map, Array.getElem?_toList, y2]
    rfl⟩
theorem wi_range {p pos : Pos} (hg : Gl X "range") (hm : X.mg "range" = none) (h : PE X e (tW W)) (hs : starEach [e] X.env = [(false, eval e X.env)] := by rfl) : PI X tg (.Call (.Name "range" p) [e] [] pos) (tIW (wiRange W)) :=
  PI.weak (pi_range1 hg hm (pa_cons h pa_nil hs) hs) fun σ H R ⟨O, ds, P, hS, hO, hW, k⟩ => ⟨O, ds, _, hS, hO, hW, fun d hd v H1 e1 q1 => by
    obtain ⟨j, rfl, h1, h2, hp⟩ := hd
    cases q1
    refine ⟨j, rfl, h1, h2, k _ hp _ H1 e1 ⟨fun _ => True, ?_, fun _ _ => trivial⟩⟩
    have hl : (intsD j.toNat).length = j.toNat := by simp [intsD]
    rw [hl]
    exact walk_range.mono (fun _ z => z) fun i H x H' hi _ y => by
      obtain ⟨y1, rfl⟩ := y
      refine ⟨y1, .int (i : Int), ?_, ?_⟩
      · simp [intsD, hi]
      · show Dq O H1 (V.int (0 + (i : Int))) (D.int (i : Int))
        rw [Int.zero_add]
        exact .int _⟩
end
/-! ### a list comprehension -/
def wEach (f : D → (D → Prop) → Prop) : List D → (List D → Prop) → Prop
  | [], P => P []
  | x :: xs, P => f x fun y => wEach f xs fun ys => P (y :: ys)
def wLc (i : Nat) (Wi : WI) (We : WE) : WE := fun ds P => Wi ds fun xs => xs.length < sizeLine ∧ wEach (fun x P' => We (ds.set i (some x)) P') xs fun ys => P (.lst ys)
theorem lc_red {i : Nat} {Wi : WI} {We : WE} {σ : L2.St} {H : Hp} {Q : VK} (h : tW (wLc i Wi We) σ H Q) : tLc (tIW Wi) (gName i) tYes (tW We) [i] σ H Q := by
  obtain ⟨O, ds, P, hS, hO, hW, k⟩ := h
  refine ⟨O, ds, _, hS, hO, hW, fun xs ⟨hl, hx⟩ J H1 e1 ⟨G, w, hG⟩ D nD => ?_⟩
  have S1 := hS.mono e1
  have O1 := hO.mono e1
  have oD : Out O D := O1.out nD
  refine lc_it w (fun j H2 => ∃ acc dacc, H2 D = some (.lst acc) ∧ acc.length = j ∧ DqAll (O ++ [(D, .hold (.lst acc))]) H2 acc dacc ∧ OwnAll O H2 ∧ (∀ b o, Out O b → H1 b = some o → NT o → H2 b = some o) ∧
    wEach (fun x P' => We (ds.set i (some x)) P') (xs.drop j) (fun ys => P (.lst (dacc ++ ys)))) ?h0 ?hG ?hs ?hd
  case h0 => exact ⟨[], [], upd_same, rfl, .nil, O1.mono (.new nD), (Ext.new nD).keep, by simpa using hx⟩
  case hG =>
    rintro j H2 _ ⟨_, _, _, _, _, _, kp, _⟩
    exact hG H2 kp
  case hs =>
    rintro j x H2 H' hj ⟨acc, dacc, hD, ha, hq, hO2, kp, hw⟩ ⟨rfl, d, hd, qd⟩
    have ed : xs.drop j = d :: xs.drop (j + 1) := by
      obtain ⟨h1, h2⟩ := List.getElem?_eq_some_iff.mp hd
      rw [List.drop_eq_getElem_cons h1, h2]
    rw [ed] at hw
    refine ⟨?_, ?_⟩
    · show (((σ.set i none).set i (some x)).set i none) = σ.set i none
      rw [List.set_set, List.set_set]
    · unfold tYes
      dsimp only
      simp only [if_true]
      have neD : ∀ p ∈ O, p.1 ≠ D := fun p hp => (oD p hp).symm
      have kp' : ∀ b o, Out (O ++ [(D, .hold (.lst acc))]) b → H1 b = some o → NT o → H' b = some o := fun b o hb h t => kp b o (fun p hp => hb p (List.mem_append_left _ hp)) h t
      have qd' : Dq (O ++ [(D, .hold (.lst acc))]) H' x d := (qd.more (fresh_none nD)).keep kp'
      have S2 : SlD (O ++ [(D, .hold (.lst acc))]) H' ((σ.set i none).set i (some x)) (ds.set i (some d)) := by
        rw [List.set_set]
        exact ((S1.more (fresh_none nD)).keep kp').set i qd'
      refine ⟨O ++ [(D, .hold (.lst acc))], ds.set i (some d), fun dy => wEach (fun x P' => We (ds.set i (some x)) P') (xs.drop (j + 1)) (fun ys => P (.lst (dacc ++ dy :: ys))), S2, ?_, hw, fun dy hy v H4 e4 q4 => ?_⟩
      · refine ⟨fun p hp => ?_, fun p hp q hq e => ?_, hO2.tabs.hold⟩
        · rcases List.mem_append.mp hp with h | h
          · exact hO2.here p h
          · have e : p = (D, .hold (.lst acc)) := by simpa using h
            subst e
            exact ⟨_, hD, rfl⟩
        · rcases List.mem_append.mp hp with h | h <;> rcases List.mem_append.mp hq with h' | h'
          · exact hO2.uq p h q h' e
          · have e' : q = (D, .hold (.lst acc)) := by simpa using h'
            subst e'
            exact absurd e (neD p h)
          · have e' : p = (D, .hold (.lst acc)) := by simpa using h
            subst e'
            exact absurd e.symm (neD q h')
          · have e1 : p = (D, .hold (.lst acc)) := by simpa using h
            have e2 : q = (D, .hold (.lst acc)) := by simpa using h'
            rw [e1, e2]
      · obtain ⟨o4, h4, k4⟩ := e4.own (D, .hold (.lst acc)) (by simp) ⟨_, hD, rfl⟩
        have k4' : o4 = .lst acc := k4
        subst k4'
        refine ⟨acc, h4, by omega, acc ++ [v], dacc ++ [dy], upd_same, by simp [ha], ?_, ?_, ?_, ?_⟩
        · refine DqAll.keep (H := H4) (fun b o hb h _ => ?_) ((hq.mono e4).append (.cons q4 .nil)).rehold
          rw [upd_ne (hb (D, .hold (.lst (acc ++ [v]))) (by simp))]
          exact h
        · refine ⟨fun p hp => ?_, hO2.uq, hO2.tabs⟩
          obtain ⟨o, h1, h2⟩ := e4.own p (List.mem_append_left _ hp) (hO2.here p hp)
          exact ⟨o, by rw [upd_ne (neD p hp)]; exact h1, h2.upd (noCode_of h4)⟩
        · intro b o hb h t
          have hbD : b ≠ D := ne_of_none h nD
          rw [upd_ne hbD]
          refine e4.keep b o (fun p hp => ?_) (kp b o hb h t) t
          rcases List.mem_append.mp hp with h | h
          · exact hb p h
          · have e : p = (D, .hold (.lst acc)) := by simpa using h
            subst e
            exact hbD
        · rw [show (fun ys => P (DL.D.lst (dacc ++ [dy] ++ ys))) = fun ys => P (.lst (dacc ++ dy :: ys)) from by funext ys; rw [List.append_assoc]; rfl]
          exact hy
  case hd =>
    rintro H2 ⟨acc, dacc, hD, ha, hq, hO2, kp, hw⟩
    rw [List.drop_length] at hw
    have hw' : P (.lst (dacc ++ [])) := hw
    rw [List.append_nil] at hw'
    exact k _ hw' _ H2 (e1.trans ⟨kp, fun p hp _ => hO2.here p hp⟩) (.lst oD hD hq.less)
end DL

set_option maxHeartbeats 2000000
namespace DL
open PySem PySem.Spec PyProof.Rows L2
variable [TabCtx]
section
variable {X : Cx} {e a b : Expr} {W Wa Wb : WE} {pos p p2 p3 : Pos}
theorem we_lc {i : Nat} {x : Str} {elt tg iter : Expr} {scope : Scope} {Wi : WI} {We : WE} (hc : X.calm = true) (hN : X.N.Nodup) (hi : PI X tg iter (tIW Wi)) (ok : BlkOk X.N X.env.scope scope [(x, i)])
    (hg : ∀ (s : Shared) (H : Hp) (C : Addr) (cl : List (Str × Addr)) (fp : List Addr), PG (X.blk s H scope (compEnvC scope cl C X.env) fp) tg (gName i))
    (he : ∀ (s : Shared) (H : Hp) (C : Addr) (cl : List (Str × Addr)) (fp : List Addr), PE (X.blk s H scope (compEnvC scope cl C X.env) fp) elt (tW We)) (hs : ∀ x, foldedSetIterable iter X.env x = pure x := by intro _; rfl) :
    PE X (.ListComp elt [⟨tg, iter, [], 0⟩] scope pos) (tW (wLc i Wi We)) :=
  PE.weak (pe_lc (own := [(x, i)]) hc hN hi ok hg (fun _ _ _ _ _ => pts_nil) he hs) fun σ H Q h => lc_red h
/-- for x in range(..), by what holds between the turns -/
def gFor (i : Nat) (Wi : WI) (G : WS) : WS := fun ds N R Z => Wi ds fun xs => ∃ I : Nat → Sl → Prop, I 0 ds ∧ (∀ j x ds', xs[j]? = some x → I j ds' → G (ds'.set i (some x)) (I (j + 1)) R Z) ∧ ∀ ds', I xs.length ds' → N ds'
theorem ws_for {i : Nat} {x : Str} {tg iter : Expr} {body : List Stmt} {E : XK} {G : WS} {Wi : WI} (hp : PassesOwn (model X.prog X.w) X.A X.env X.xe) (hc : X.calm = true) (hi : PI X tg iter (tIW Wi)) (hg : PG X tg (gName i)) (hb : PSs X body (tSW E G))
    (hs : ∀ x, foldedSetIterable iter X.env x = pure x := by intro _; rfl) : PS X (.For tg iter body [] pos) (tSW E (gFor i Wi G)) :=
  PS.weak (ps_for hp hc hi hg hb hs) fun D σ H ⟨O, ds, N, R, Z, hS, hO, hG, hN, hR, hZ⟩ => ⟨O, ds, _, hS, hO, hG, fun xs ⟨I, h0, h1, h2⟩ J H1 e1 ⟨Gd, w, hGd⟩ => by
    refine for_it w (fun j σ2 H2 => ∃ ds', I j ds' ∧ SlD O H2 σ2 ds' ∧ Ext O H1 H2) ⟨ds, h0, hS.mono e1, .refl _ _⟩ (fun j σ2 H2 _ ⟨_, _, _, e2⟩ => hGd H2 e2.keep) ?_ ?_
    · rintro j x σ2 H2 H' hj ⟨ds', hI, hS2, e2⟩ ⟨rfl, d, hd, qd⟩
      have e3 := e1.trans e2
      exact ⟨O, ds'.set i (some d), I (j + 1), R, Z, hS2.set i (qd.mono e2), hO.mono e3, h1 j d ds' hd hI, fun d3 h3 σ3 H3 e4 s3 => ⟨d3, h3, s3, e2.trans e4⟩,
        fun d h v H3 e4 q => hR d h v H3 (e3.trans e4) q, fun C d h dx v H3 e4 q => hZ C d h dx v H3 (e3.trans e4) q⟩
    · rintro σ2 H2 ⟨ds', hI, hS2, e2⟩
      exact hN ds' (h2 ds' hI) σ2 H2 (e1.trans e2) hS2⟩
/-! ### isinstance -/
def tyD : D → Option String
  | .non => some "NoneType"
  | .bl _ => some "bool"
  | .int _ => some "int"
  | .str _ => some "str"
  | .lst _ => some "list"
  | .tup _ => some "tuple"
  | .dct _ _ => some "dict"
  | _ => none
theorem ty_of {K : PySem.W.Frag} {O : Ow} {H : Hp} {v : V} {d : D} {t : String} (q : Dq O H v d) (h : tyD d = some t) : TyX K H v (.type t) := by
  cases q <;> simp only [tyD, Option.some.injEq, reduceCtorEq] at h <;> subst h
  · exact .base .non
  · exact .base (.bl _)
  · exact .base (.int _)
  · exact .base (.str _)
  · rename_i a xs ds x r hq
    exact .base (.lst r)
  · rename_i a xs ds x r hq
    rcases r with r | ⟨o, r⟩
    · exact .base (.tup r)
    · exact .fTuple r
  · rename_i r _
    exact .base (.dK r)
def isInt : D → Bool | .int _ => true | .bl _ => true | _ => false
def isStr : D → Bool | .str _ => true | _ => false
def isBl : D → Bool | .bl _ => true | _ => false
def isTup : D → Bool | .tup _ => true | _ => false
def isLst : D → Bool | .lst _ => true | _ => false
/-- what T asks of data -/
structure TyIs (T : String) (f : D → Bool) : Prop where
  is : ∀ d t, tyD d = some t → kitB t T = some (f d)
theorem tyIs_int : TyIs "int" isInt := ⟨fun d t h => by cases d <;> simp only [tyD, Option.some.injEq, reduceCtorEq] at h <;> subst h <;> first | (show kitB _ _ = some true; decide +kernel) | (show kitB _ _ = some false; decide +kernel)⟩
theorem tyIs_str : TyIs "str" isStr := ⟨fun d t h => by cases d <;> simp only [tyD, Option.some.injEq, reduceCtorEq] at h <;> subst h <;> first | (show kitB _ _ = some true; decide +kernel) | (show kitB _ _ = some false; decide +kernel)⟩
theorem tyIs_bool : TyIs "bool" isBl := ⟨fun d t h => by cases d <;> simp only [tyD, Option.some.injEq, reduceCtorEq] at h <;> subst h <;> first | (show kitB _ _ = some true; decide +kernel) | (show kitB _ _ = some false; decide +kernel)⟩
theorem tyIs_tuple : TyIs "tuple" isTup := ⟨fun d t h => by cases d <;> simp only [tyD, Option.some.injEq, reduceCtorEq] at h <;> subst h <;> first | (show kitB _ _ = some true; decide +kernel) | (show kitB _ _ = some false; decide +kernel)⟩
theorem tyIs_list : TyIs "list" isLst := ⟨fun d t h => by cases d <;> simp only [tyD, Option.some.injEq, reduceCtorEq] at h <;> subst h <;> first | (show kitB _ _ = some true; decide +kernel) | (show kitB _ _ = some false; decide +kernel)⟩
def wIsi (f : D → Bool) (W : WE) : WE := fun ds P => W ds fun d => (tyD d).isSome = true ∧ P (.bl (f d))
theorem we_isi {x1 x2 : Str} {T : String} {f : D → Bool} (hT : TyIs T f) (hg : Gl X "isinstance") (hm : X.mg "isinstance" = none) (hg2 : Gl X x2) (hm2 : X.mg x2 = none) (hv2 : bootBuiltins x2 = some (.type T)) (ha : PE X a (tW Wa))
    (hn : x2 ≠ "__name__" := by decide) (hd : (x2 == ("__debug__" : Str)) = false := by decide)
    (hs1 : starEach [a, .Name x2 p2] X.env = (false, eval a X.env) :: starEach [.Name x2 p2] X.env := by rfl) (hs2 : starEach [.Name x2 p2] X.env = (false, eval (.Name x2 p2) X.env) :: starEach [] X.env := by rfl)
    (hpl : (backTo pos (starEach [.Name x2 p2] X.env)).any (·.1) = false := by rfl) : PE X (.Call (.Name "isinstance" p) [a, .Name x2 p2] [] pos) (tW (wIsi f Wa)) :=
  PE.weak (pe_callB call_isi hg hm PyProof.Rows.boot_isinstance (pa_cons ha (pa_cons (pe_bltn (v := .ty T) hg2 hm2 hv2 rfl hn hd) pa_nil hs2) hs1) (by decide) (by decide) hs1 hpl)
    fun σ H Q ⟨O, ds, P, hS, hO, hW, k⟩ => ⟨O, ds, _, hS, hO, hW, fun d ⟨hty, hp⟩ v H1 e1 q1 => by
      obtain ⟨t, ht⟩ := Option.isSome_iff_exists.mp hty
      exact ⟨v, .ty T, _, .type T, f d, rfl, .ty T, ty_of q1 ht, kit_ty (hT.is d t ht), k _ hp _ H1 e1 (.bl _)⟩⟩
/-- isinstance(a, (T, U)) -/
theorem we_isi2 {x2 x3 : Str} {T U : String} {f g : D → Bool} {pt : Pos} {k1} (hT : TyIs T f) (hU : TyIs U g) (hg : Gl X "isinstance") (hm : X.mg "isinstance" = none) (hg2 : Gl X x2) (hm2 : X.mg x2 = none) (hv2 : bootBuiltins x2 = some (.type T))
    (hg3 : Gl X x3) (hm3 : X.mg x3 = none) (hv3 : bootBuiltins x3 = some (.type U)) (ha : PE X a (tW Wa))
    (hn : x2 ≠ "__name__" := by decide) (hd : (x2 == ("__debug__" : Str)) = false := by decide) (hn3 : x3 ≠ "__name__" := by decide) (hd3 : (x3 == ("__debug__" : Str)) = false := by decide)
    (hs1 : starEach [a, .Tuple [.Name x2 p2, .Name x3 p3] k1 pt] X.env = (false, eval a X.env) :: starEach [.Tuple [.Name x2 p2, .Name x3 p3] k1 pt] X.env := by rfl)
    (hs2 : starEach [.Tuple [.Name x2 p2, .Name x3 p3] k1 pt] X.env = (false, eval (.Tuple [.Name x2 p2, .Name x3 p3] k1 pt) X.env) :: starEach [] X.env := by rfl)
    (hs3 : starEach [.Name x2 p2, .Name x3 p3] X.env = (false, eval (.Name x2 p2) X.env) :: starEach [.Name x3 p3] X.env := by rfl) (hs4 : starEach [.Name x3 p3] X.env = (false, eval (.Name x3 p3) X.env) :: starEach [] X.env := by rfl)
    (hpl : (backTo pos (starEach [.Tuple [.Name x2 p2, .Name x3 p3] k1 pt] X.env)).any (·.1) = false := by rfl) : PE X (.Call (.Name "isinstance" p) [a, .Tuple [.Name x2 p2, .Name x3 p3] k1 pt] [] pos) (tW (wIsi (fun d => f d || g d) Wa)) :=
  PE.weak (pe_callB call_isiT hg hm PyProof.Rows.boot_isinstance (pa_cons ha (pa_cons (pe_tup (pa_cons (pe_bltn (v := .ty T) hg2 hm2 hv2 rfl hn hd) (pa_cons (pe_bltn (v := .ty U) hg3 hm3 hv3 rfl hn3 hd3) pa_nil hs4) hs3)) pa_nil hs2) hs1) (by decide) (by decide) hs1 hpl)
    fun σ H Q ⟨O, ds, P, hS, hO, hW, k⟩ => ⟨O, ds, _, hS, hO, hW, fun d ⟨hty, hp⟩ v H1 e1 q1 => by
      obtain ⟨t, ht⟩ := Option.isSome_iff_exists.mp hty
      refine ⟨by show 2 ≤ sizeLine; decide, fun tp np => ⟨v, tp, [.ty T, .ty U], _, [.type T, .type U], f d || g d, rfl, upd_same, .cons (.ty T) (.cons (.ty U) .nil), ty_of (q1.mono (.new np)) ht, ?_, k _ hp _ _ (e1.trans (.new np)) (.bl _)⟩⟩
      refine kitAny_cons (kit_ty (hT.is d t ht)) (fun hf => ?_) (fun hf => by rw [hf]; rfl)
      rw [hf]
      refine kitAny_cons (kit_ty (hU.is d t ht)) (fun hf => ?_) (fun hf => by rw [hf]; rfl)
      rw [hf]
      exact kitAny_nil⟩
/-! ### built-ins -/
def fLen : DFn := fun es P => match es with
  | [.str x] => x.length ≤ sizeLine ∧ P (.int x.length)
  | [.lst xs] => P (.int xs.length)
  | [.tup xs] => P (.int xs.length)
  | _ => False
theorem call_fLen : CallR X (.builtin "len") (rF fLen) := by
  intro pins s σ H xs us Q I r ⟨O, es, P, hq, hO, hg, k⟩
  unfold fLen at hg
  split at hg
  · cases hq with
    | cons a b =>
      cases a; cases b
      exact call_len pins s σ H _ us Q I r ⟨_, _, rfl, ⟨hg.1, rfl⟩, k _ hg.2 _ H (.refl _ _) (.int _)⟩
  · cases hq with
    | cons a b =>
      cases b
      cases a with
      | lst x1 r1 a1 => exact call_len pins s σ H _ us Q I r ⟨_, _, rfl, .inl ⟨_, .of r1, rfl⟩, k _ (by rw [a1.length]; exact hg) _ H (.refl _ _) (.int _)⟩
  · cases hq with
    | cons a b =>
      cases b
      cases a with
      | tup x1 r1 a1 => exact call_len pins s σ H _ us Q I r ⟨_, _, rfl, .inr ⟨_, .inl r1, rfl⟩, k _ (by rw [a1.length]; exact hg) _ H (.refl _ _) (.int _)⟩
  · exact hg.elim
def fAll : DFn := fun es P => match es with
  | [.lst ds] => ∃ bs, boolsOf ds = some bs ∧ P (.bl (bs.all id))
  | _ => False
theorem call_fAll (hc : X.calm = true) : CallR X (.builtin "all") (rF fAll) := by
  intro pins s σ H xs us Q I r ⟨O, es, P, hq, hO, hg, k⟩
  unfold fAll at hg
  split at hg
  · obtain ⟨bs, h1, hg⟩ := hg
    cases hq with
    | cons a b =>
      cases b
      cases a with
      | lst x1 r1 a1 =>
        have e := boolsOf_vs h1 a1
        subst e
        exact cr_all hc pins s σ H _ us Q I r ⟨_, bs, rfl, .of r1, k _ hg _ H (.refl _ _) (.bl _)⟩
  · exact hg.elim
def fAny : DFn := fun es P => match es with
  | [.lst ds] => ∃ bs, boolsOf ds = some bs ∧ P (.bl (bs.any id))
  | _ => False
theorem call_fAny (hc : X.calm = true) : CallR X (.builtin "any") (rF fAny) := by
  intro pins s σ H xs us Q I r ⟨O, es, P, hq, hO, hg, k⟩
  unfold fAny at hg
  split at hg
  · obtain ⟨bs, h1, hg⟩ := hg
    cases hq with
    | cons a b =>
      cases b
      cases a with
      | lst x1 r1 a1 =>
        have e := boolsOf_vs h1 a1
        subst e
        exact cr_any hc pins s σ H _ us Q I r ⟨_, bs, rfl, .of r1, k _ hg _ H (.refl _ _) (.bl _)⟩
  · exact hg.elim
def fMax : DFn := fun es P => match es with
  | [.int i, .int j] => P (.int (if j > i then j else i))
  | _ => False
theorem call_fMax (hc : X.calm = true) : CallR X (.builtin "max") (rF fMax) := by
  intro pins s σ H xs us Q I r ⟨O, es, P, hq, hO, hg, k⟩
  unfold fMax at hg
  split at hg
  · cases hq with
    | cons a b =>
      cases b with
      | cons a2 b2 =>
        cases b2; cases a; cases a2
        exact call_max2 hc pins s σ H _ us Q I r ⟨_, _, rfl, k _ hg _ H (.refl _ _) (.int _)⟩
  · exact hg.elim
def fInt : DFn := fun es P => match es with
  | [.int i] => P (.int i)
  | [.bl b] => P (.int (if b then 1 else 0))
  | _ => False
theorem call_fInt : CallR X (.type "int") (rF fInt) := by
  intro pins s σ H xs us Q I r ⟨O, es, P, hq, hO, hg, k⟩
  unfold fInt at hg
  split at hg
  · cases hq with
    | cons a b =>
      cases b; cases a
      exact call_int1 pins s σ H _ us Q I r (.inl ⟨_, rfl, k _ hg _ H (.refl _ _) (.int _)⟩)
  · cases hq with
    | cons a b =>
      cases b; cases a
      exact call_int1 pins s σ H _ us Q I r (.inr ⟨_, rfl, k _ hg _ H (.refl _ _) (.int _)⟩)
  · exact hg.elim
def fTuple : DFn := fun es P => match es with
  | [.lst ds] => P (.tup ds)
  | [.tup ds] => P (.tup ds)
  | _ => False
theorem call_fTuple : CallR X (.type "tuple") (rF fTuple) := by
  intro pins s σ H xs us Q I r ⟨O, es, P, hq, hO, hg, k⟩
  unfold fTuple at hg
  split at hg
  · cases hq with
    | cons a b =>
      cases b
      cases a with
      | lst x1 r1 a1 => exact call_tuple_of pins s σ H _ us Q I r ⟨_, _, rfl, .inl ⟨.of r1, fun l nl => k _ hg _ _ (.new nl) (.tup (hO.out nl) (.of upd_same) (a1.mono (.new nl)))⟩⟩
  · cases hq with
    | cons a b =>
      cases b
      cases a with
      | tup x1 r1 a1 => exact call_tuple_of pins s σ H _ us Q I r ⟨_, _, rfl, .inr ⟨.inl r1, k _ hg _ H (.refl _ _) (.tup x1 r1 a1)⟩⟩
  · exact hg.elim
def fList : DFn := fun es P => match es with
  | [.lst ds] => P (.lst ds)
  | [.tup ds] => P (.lst ds)
  | _ => False
theorem call_fList : CallR X (.type "list") (rF fList) := by
  intro pins s σ H xs us Q I r ⟨O, es, P, hq, hO, hg, k⟩
  unfold fList at hg
  split at hg
  · cases hq with
    | cons a b =>
      cases b
      cases a with
      | lst x1 r1 a1 => exact call_list_of pins s σ H _ us Q I r ⟨_, _, rfl, .inl (.of r1), fun l nl => k _ hg _ _ (.new nl) (.lst (hO.out nl) upd_same (a1.mono (.new nl)))⟩
  · cases hq with
    | cons a b =>
      cases b
      cases a with
      | tup x1 r1 a1 => exact call_list_of pins s σ H _ us Q I r ⟨_, _, rfl, .inr (.inl r1), fun l nl => k _ hg _ _ (.new nl) (.lst (hO.out nl) upd_same (a1.mono (.new nl)))⟩
  · exact hg.elim
/-! ### subscripts, slices -/
theorem DqAll.atI {O : Ow} {H : Hp} {vs : List V} {ds : List D} {i : Int} {d : D} (h : DqAll O H vs ds) (e : atI ds i = some d) : ∃ v, L2.atI vs i = some v ∧ Dq O H v d := by
  unfold L2.atI at e ⊢
  rw [h.length]
  cases q : ixN ds.length i with
  | none => rw [q] at e; cases e
  | some j =>
    rw [q] at e
    exact h.get (i := j) e
def dIx : DOp := fun x y P => match x, y with
  | .tup ds, .int i => ∃ d, L2.atI ds i = some d ∧ P d
  | .lst ds, .int i => ∃ d, L2.atI ds i = some d ∧ P d
  | .str z, .int i => z.length ≤ sizeLine ∧ ∃ c, L2.atI z.cps.toList i = some c ∧ P (.str ⟨#[c]⟩)
  | _, _ => False
theorem ix_d : IxR X (rD dIx) := by
  intro value slice pins s σ H x y v u Q I rx ry ⟨O, dx, dy, P, qx, qy, hO, hg, k⟩ hs
  unfold dIx at hg
  split at hg
  · obtain ⟨d, h1, hg⟩ := hg
    cases qy
    cases qx with
    | tup x1 r1 a1 =>
      obtain ⟨w, e1, q1⟩ := a1.atI h1
      exact ix_tup value slice pins s σ H _ _ v u Q I rx ry ⟨_, _, _, _, rfl, rfl, .inl r1, e1, k _ hg _ H (.refl _ _) q1⟩ hs
  · obtain ⟨d, h1, hg⟩ := hg
    cases qy
    cases qx with
    | lst x1 r1 a1 =>
      obtain ⟨w, e1, q1⟩ := a1.atI h1
      exact ix_list value slice pins s σ H _ _ v u Q I rx ry ⟨_, _, _, _, rfl, rfl, .of r1, e1, k _ hg _ H (.refl _ _) q1⟩ hs
  · obtain ⟨hz, c, h1, hg⟩ := hg
    cases qy
    cases qx
    exact ix_str value slice pins s σ H _ _ v u Q I rx ry ⟨_, _, _, rfl, rfl, hz, h1, k _ hg _ H (.refl _ _) (.str _)⟩ hs
  · exact hg.elim
theorem we_ix (ha : PE X a (tW Wa)) (hb : PE X b (tW Wb)) (hs : PlainIx b := by exact fun _ _ => rfl) : PE X (.Subscript a b pos) (tW (wOp dIx Wa Wb)) := PE.weak (pe_ix ix_d ha hb hs) fun _ _ _ h => op_red h
abbrev WO := Sl → (Option Int → Prop) → Prop
def tOW (L : WO) : TO := fun σ H Q => ∃ (O : Ow) (ds : Sl) (P : Option Int → Prop), SlD O H σ ds ∧ OwnAll O H ∧ L ds P ∧ ∀ o, P o → ∀ H', Ext O H H' → Q o H'
def woNone : WO := fun _ P => P none
def woSome (W : WE) : WO := fun ds P => W ds fun d => ∃ i, d = .int i ∧ P (some i)
theorem PO.weak {e : Option Expr} {t t' : TO} (h : PO X e t) (k : ∀ σ H Q, t' σ H Q → t σ H Q) : PO X e t' := ⟨fun pins s σ H Q I q => h.run pins s σ H Q I (k σ H Q q)⟩
theorem wo_none : PO X none (tOW woNone) := PO.weak po_none fun σ H Q ⟨O, ds, P, hS, hO, hW, k⟩ => k none hW H (.refl _ _)
theorem wo_some (h : PE X e (tW W)) : PO X (some e) (tOW (woSome W)) := PO.weak (po_some h) fun σ H Q ⟨O, ds, P, hS, hO, hW, k⟩ => ⟨O, ds, _, hS, hO, hW, fun d hd v H1 e1 q1 => by
  obtain ⟨i, rfl, hp⟩ := hd
  cases q1
  exact ⟨i, rfl, k _ hp H1 e1⟩⟩
def cutD (xs : List D) (lo hi : Option Int) : List D := (xs.drop (HT.sIx xs.length 0 lo)).take (HT.sIx xs.length xs.length hi - HT.sIx xs.length 0 lo)
theorem DqAll.cut {O : Ow} {H : Hp} {vs : List V} {ds : List D} (h : DqAll O H vs ds) (lo hi : Option Int) : DqAll O H (cutV vs lo hi) (cutD ds lo hi) := by
  unfold cutV cutD
  rw [h.length]
  exact (h.drop _).take _
def dSlT (x : D) (lo hi : Option Int) (P : D → Prop) : Prop := match x with
  | .tup ds => P (.tup (cutD ds lo hi))
  | _ => False
def dSlL (x : D) (lo hi : Option Int) (P : D → Prop) : Prop := match x with
  | .lst ds => P (.lst (cutD ds lo hi))
  | _ => False
def wSl (f : D → Option Int → Option Int → (D → Prop) → Prop) (W : WE) (lo hi : WO) : WE := fun ds P => W ds fun x => lo ds fun l => hi ds fun h => f x l h P
theorem cut_whole (ds : List D) (lo hi : Option Int) (h : HT.sIx ds.length 0 lo = 0 ∧ HT.sIx ds.length ds.length hi = ds.length) : cutD ds lo hi = ds := by
  unfold cutD
  rw [h.1, h.2]
  simp
theorem we_slT {lo hi : Option Expr} {Lo Hi : WO} (ha : PE X a (tW Wa)) (hl : PO X lo (tOW Lo)) (hh : PO X hi (tOW Hi)) : PE X (.Subscript a (.Slice lo hi none p2) pos) (tW (wSl dSlT Wa Lo Hi)) :=
  PE.weak (pe_slice sl_tupA ha hl hh) fun σ H Q ⟨O, ds, P, hS, hO, hW, k⟩ => ⟨O, ds, _, hS, hO, hW, fun d hd v H1 e1 q1 => ⟨O, ds, _, hS.mono e1, hO.mono e1, hd, fun l hl H2 e2 => ⟨O, ds, _, hS.mono (e1.trans e2), (hO.mono e1).mono e2, hl, fun h hh H3 e3 => by
    have O3 := ((hO.mono e1).mono e2).mono e3
    have q3 := q1.mono (e2.trans e3)
    have E3 := (e1.trans e2).trans e3
    unfold dSlT at hh
    split at hh
    · cases q3 with
      | tup x1 r1 a1 =>
        refine ⟨_, _, rfl, .inl r1, fun hw => ?_, fun hw p np => ?_⟩
        · rw [a1.length] at hw
          rw [cut_whole _ _ _ hw] at hh
          exact k _ hh _ H3 E3 (.tup x1 r1 a1)
        · exact k _ hh _ _ (E3.trans (.new np)) (.tup (O3.out np) (.of upd_same) ((a1.cut _ _).mono (.new np)))
    · exact hh.elim⟩⟩⟩
theorem we_slL {lo hi : Option Expr} {Lo Hi : WO} (ha : PE X a (tW Wa)) (hl : PO X lo (tOW Lo)) (hh : PO X hi (tOW Hi)) : PE X (.Subscript a (.Slice lo hi none p2) pos) (tW (wSl dSlL Wa Lo Hi)) :=
  PE.weak (pe_slice sl_list ha hl hh) fun σ H Q ⟨O, ds, P, hS, hO, hW, k⟩ => ⟨O, ds, _, hS, hO, hW, fun d hd v H1 e1 q1 => ⟨O, ds, _, hS.mono e1, hO.mono e1, hd, fun l hl H2 e2 => ⟨O, ds, _, hS.mono (e1.trans e2), (hO.mono e1).mono e2, hl, fun h hh H3 e3 => by
    have O3 := ((hO.mono e1).mono e2).mono e3
    have q3 := q1.mono (e2.trans e3)
    have E3 := (e1.trans e2).trans e3
    unfold dSlL at hh
    split at hh
    · cases q3 with
      | lst x1 r1 a1 => exact ⟨_, _, rfl, .of r1, fun p np => k _ hh _ _ (E3.trans (.new np)) (.lst (O3.out np) upd_same ((a1.cut _ _).mono (.new np)))⟩
    · exact hh.elim⟩⟩⟩
end
end DL

set_option maxHeartbeats 2000000
namespace DL
open PySem PySem.Spec PyProof.Rows L2
variable [TabCtx]
section
variable {X : Cx} {e a b : Expr} {W Wa Wb : WE} {pos p p2 p3 : Pos} {x : Str}
/-- a number of the module's top -/
theorem we_k {i : Int} (hg : Gl X x) (hm : ∃ t, X.mg x = some (.int i t)) (hd : (x == ("__debug__" : Str)) = false := by decide) : PE X (.Name x pos) (tW (wC (.int i))) := by
  obtain ⟨t, hm⟩ := hm
  exact we_c (pe_glob (v := .int i) hg hm ⟨t, rfl⟩ hd)
def dNeg (d : D) (P : D → Prop) : Prop := match d with
  | .int i => P (.int (-i))
  | _ => False
def wNeg (W : WE) : WE := fun ds P => W ds fun d => dNeg d P
theorem we_neg (h : PE X e (tW W)) : PE X (.UnaryOp .USub e pos) (tW (wNeg W)) := PE.weak (pe_un un_neg h) fun σ H Q ⟨O, ds, P, hS, hO, hW, k⟩ => ⟨O, ds, _, hS, hO, hW, fun d hd v H1 e1 q1 => by
  unfold dNeg at hd
  split at hd
  · cases q1
    exact ⟨_, rfl, k _ hd _ H1 e1 (.int _)⟩
  · exact hd.elim⟩
/-- in, of a tuple of texts that the top has made -/
def KTexts (K : PySem.W.Frag) (mg : Str → Option Value) (x : Str) (zs : List Str) : Prop := ∃ (q : Addr), mg x = some (.ref q) ∧ ∃ (o : Obj) (its : Array Value) (n : Nat), K.lookup q = some o ∧ o.cls = .type "tuple" ∧ o.data = .seq its n ∧ its.size ≤ sizeLine ∧ Vals (zs.map V.str) its.toList
def wInK (zs : List Str) (W : WE) : WE := fun ds P => W ds fun d => ∃ a, d = .str a ∧ P (.bl (decide (a ∈ zs)))
theorem inK_red {zs : List Str} {q : Addr} {σ : L2.St} {H : Hp} {Q : VK} (hq : ∀ H : Hp, SqT X.K H q (zs.map V.str)) (h : tW (wInK zs W) σ H Q) : tOp (rIn X.K false) (tW W) (tC (.ref q)) σ H Q := by
  obtain ⟨O, ds, P, hS, hO, hW, k⟩ := h
  refine ⟨O, ds, _, hS, hO, hW, fun d hd v H1 e1 q1 => ?_⟩
  obtain ⟨a, rfl, hp⟩ := hd
  cases q1
  refine ⟨q, _, rfl, .inr (hq H1), rfl, flat_strs _, ?_⟩
  rw [if_neg Bool.false_ne_true, inV_str]
  exact k _ hp _ H1 e1 (.bl _)
theorem we_inK {zs : List Str} (ha : PE X a (tW W)) (hg : Gl X x) (hk : KTexts X.K X.mg x zs) (hd : (x == ("__debug__" : Str)) = false := by decide) (hm : behindInMarks .In (.Name x p2) = false := by with_unfolding_all rfl) :
    PE X (.Compare a [.In] [.Name x p2] pos) (tW (wInK zs W)) := by
  obtain ⟨q, hmg, o, its, n, h1, h2, h3, h4, h5⟩ := hk
  exact PE.weak (pe_cmpR op_in_seq ha (pe_glob (v := .ref q) hg hmg rfl hd) hm) fun σ H Q h => inK_red (fun _ => .inr ⟨o, its, n, h1, h2, h3, h4, h5⟩) h
/-- a[lo:hi] of a tuple or list -/
def dSl (x : D) (lo hi : Option Int) (P : D → Prop) : Prop := match x with
  | .tup ds => P (.tup (cutD ds lo hi))
  | .lst ds => P (.lst (cutD ds lo hi))
  | _ => False
theorem we_sl {lo hi : Option Expr} {Lo Hi : WO} (ha : PE X a (tW Wa)) (hl : PO X lo (tOW Lo)) (hh : PO X hi (tOW Hi)) : PE X (.Subscript a (.Slice lo hi none p2) pos) (tW (wSl dSl Wa Lo Hi)) :=
  PE.weak (pe_slice (sl_tupA.or sl_list) ha hl hh) fun σ H Q ⟨O, ds, P, hS, hO, hW, k⟩ => ⟨O, ds, _, hS, hO, hW, fun d hd v H1 e1 q1 => ⟨O, ds, _, hS.mono e1, hO.mono e1, hd, fun l hl H2 e2 => ⟨O, ds, _, hS.mono (e1.trans e2), (hO.mono e1).mono e2, hl, fun h hh H3 e3 => by
    have O3 := ((hO.mono e1).mono e2).mono e3
    have q3 := q1.mono (e2.trans e3)
    have E3 := (e1.trans e2).trans e3
    unfold dSl at hh
    split at hh
    · cases q3 with
      | tup x1 r1 a1 =>
        refine .inl ⟨_, _, rfl, .inl r1, fun hw => ?_, fun hw p np => ?_⟩
        · rw [a1.length] at hw
          rw [cut_whole _ _ _ hw] at hh
          exact k _ hh _ H3 E3 (.tup x1 r1 a1)
        · exact k _ hh _ _ (E3.trans (.new np)) (.tup (O3.out np) (.of upd_same) ((a1.cut _ _).mono (.new np)))
    · cases q3 with
      | lst x1 r1 a1 => exact .inr ⟨_, _, rfl, .of r1, fun p np => k _ hh _ _ (E3.trans (.new np)) (.lst (O3.out np) upd_same ((a1.cut _ _).mono (.new np)))⟩
    · exact hh.elim⟩⟩⟩
/-- z.join(list of texts) -/
def wJoin (z : Str) (W : WE) : WE := fun ds P => W ds fun d => ∃ es xs, d = .lst es ∧ strsOf es = some xs ∧ (xs.map (·.length)).sum + xs.length * z.length ≤ 16777216 ∧ P (.str (Txt.join z xs))
theorem we_join {z : Str} {j : Nat} {pc pa : Pos} (ha : PE X e (tW W))
    (hbase : attributeBase (.Constant (.str z) j pc) "join" X.env (eval (.Constant (.str z) j pc) X.env) = eval (.Constant (.str z) j pc) X.env := by rfl)
    (hfew : ((backTo pos (starEach [e] X.env)).all (fun x => !x.1) && (backToKw pos (keywordEach [] X.env)).all (fun x => x.1.isSome)
      && decide (([e] : List Expr).length + ([] : List Keyword).length + (if ([] : List Keyword).isEmpty then 0 else 1) < 30)) = true := by rfl)
    (hline : (pa.endLine == pos.line) = true := by rfl) (hs : starEach [e] X.env = (false, eval e X.env) :: starEach [] X.env := by rfl) (hpl : (backTo pos (starEach [] X.env)).any (·.1) = false := by rfl) :
    PE X (.Call (.Attribute (.Constant (.str z) j pc) "join" pa) [e] [] pos) (tW (wJoin z W)) :=
  PE.weak (pe_bm PySem.F.plainAttrs_str PySem.F.slot_str_join PySem.F.type_str_join mt_join pe_str (pa_cons ha pa_nil hs) hbase hfew hline hs hpl) fun σ H Q ⟨O, ds, P, hS, hO, hW, k⟩ =>
    ⟨rfl, O, ds, _, hS, hO, hW, fun d hd v H1 e1 q1 => by
      obtain ⟨es, xs, rfl, h1, h2, hp⟩ := hd
      cases q1 with
      | lst x1 r1 a1 =>
        have ev := strsOf_vs h1 a1
        subst ev
        exact ⟨z, _, xs, rfl, rfl, .inl (.of r1), h2, k _ hp _ H1 e1 (.str _)⟩⟩
/-- repr of data, where nothing is being written -/
def fRepr : DFn := fun es P => match es with
  | [d] => d.pl = true ∧ d.py.showable = true ∧ d.py.hasDict = false ∧ d.py.depth ≤ 60 ∧ d.py.shown.length ≤ sizeLine ∧ P (.str d.py.shown)
  | _ => False
end
/-! ### defs that ask that nothing is being written (repr) -/
structure FnG (P : Program) (w : World) (K : PySem.W.Frag) (mg : Str → Option Value) (base : Heap) (CX : CXT) (k : Nat) (f : Addr) (fd : FuncData) (ps : List Str) (sp : Sp) : Prop where
  len : ∀ vs H Q E, sp vs H Q E → vs.length = ps.length
  go : ∀ (A : Around) (outer : List Env) (s : Shared) (H : Hp) (ar : Args) (us : List Value) (vs : List V) (Q : VK) (E : XK), A.guards = some [] → Room k A → Env0 P w K mg base A outer s H → BindsTo s fd ar (ps.zip us) → Vals vs us → sp vs H Q E →
    codeAny (model P w) A (.call (.ref f) ar) (CR CX outer P w H s Q E) s
section
variable {P : Program} {w : World} {K : PySem.W.Frag} {mg : Str → Option Value} {base : Heap}
theorem FnG.of {CX : CXT} {k : Nat} {f : Addr} {x qual : Str} {st : Stmt} {fd : FuncData} {N ps : List Str} {sp : Sp} (F : Fun K x qual st f fd) (S : FnScope N ps (defScope st)) (len : ∀ vs H Q E, sp vs H Q E → vs.length = ps.length)
    (hb : ∀ (cdv : Value) (A : Around) (outer : List Env) (s : Shared) (H : Hp) (vs : List V) (Q : VK) (E : XK), A.guards = some [] → Room k (A.deeper (envOfC qual (defScope st) s.heap.objs.size f cdv)) → sp vs H Q E →
      ∃ t, PSs (cxOf CX P w K mg base N qual (defScope st) f cdv A outer s H E) (defBody st) t ∧ t { nx := fun _ H' => Q .non H', rt := Q } (L2.start N vs) H) : FnG P w K mg base CX (k + 1) f fd ps sp := by
  obtain ⟨oc, od, kV, doc, pm, an, cdv, ct, osl, rfl, lk, hcd⟩ := F.ex
  refine ⟨len, fun A outer s H ar us vs Q E hgd hr ev hbd hvs hsp => ?_⟩
  have kin : K.In s.heap := ev.mod.kin.keeps fun c u z => (ev.bs c u z).1
  have nol : s.heap.NoLimit := ev.mod.nolimit.keeps fun c u z => (ev.bs c u z).1
  refine codeAny_call_function hr.depth (kin _ _ lk) rfl S.co S.gen rfl (PySem.W.codeRec_of kin hcd) (hbd _ _ _ _ ?_)
  refine wpAny_newFunctionEnv_cells S.kind (fun y hy => ?_) fun env he s1 ic => ?_
  · rcases S.par y.1 (List.of_mem_zip (a := y.1) (b := y.2) hy).1 with z | z
    · exact .inl z
    · exact .inr ⟨z, PySem.W.cellsFrom_some _ _ _ (.inl z)⟩
  · subst he
    refine ⟨nol.keeps ic.toInCall.keep, codeAny_func ?_⟩
    obtain ⟨t, ht, q⟩ := hb cdv A outer s H vs Q E hgd (hr.deeper _) hsp
    have J : Inv (cxOf CX P w K mg base N qual (defScope st) f cdv A outer s H E) [] (L2.start N vs) H s1 := inv_start S hr.hd ev (len _ _ _ _ hsp) hvs ic
    refine wpAny_mono (ht.run [] s1 (L2.start N vs) H _ J q) (fun fl s' z => ?_) fun _ _ z => z
    cases fl with
    | ret u =>
      obtain ⟨v, σ', H', J', rv, q'⟩ := z
      exact ⟨v, H', J'.os, J'.bare, J'.base, J'.hok, rv, q'⟩
    | next =>
      obtain ⟨σ', H', J', q'⟩ := z
      exact ⟨V.non, H', J'.os, J'.bare, J'.base, J'.hok, rfl, q'⟩
    | brk =>
      obtain ⟨_, _, _, q'⟩ := z
      exact q'.elim
    | cont =>
      obtain ⟨_, _, _, q'⟩ := z
      exact q'.elim
/-- as fn_ok -/
theorem fnG_ok {x qual : Str} {st : Stmt} {f : Addr} {fd : FuncData} {N ps : List Str} {k : Nat} {g : DFn} (F : Fun K x qual st f fd) (S : FnScope N ps (defScope st)) (len : ∀ es P, g es P → es.length = ps.length)
    (hbody : ∀ (cdv : Value) (A : Around) (outer : List Env) (s : Shared) (H : Hp) (E : XK), A.guards = some [] → Room k (A.deeper (envOfC qual (defScope st) s.heap.objs.size f cdv)) →
      ∃ G, PSs (cxOf CX0 P w K mg base N qual (defScope st) f cdv A outer s H E).nox (defBody st) (tSW (fun _ _ _ => False) G) ∧ ∀ es P, g es P → G (startD N es) (fun _ => P .non) P fun _ _ => False) :
    FnG P w K mg base CX0 (k + 1) f fd ps (spD fun es P _ => g es P) :=
  FnG.of F S (fun vs H Q E ⟨O, es, P, Z, hq, hO, hg, _⟩ => by rw [hq.length]; exact len _ _ hg) fun cdv A outer s H vs Q E hgd hr ⟨O, es, P, Z, hq, hO, hg, hP, hZ⟩ => by
    obtain ⟨G, h1, h2⟩ := hbody cdv A outer s H E hgd hr
    exact ⟨_, h1.nox, O, startD N es, _, P, _, start_sl hq, hO, h2 es P hg, fun ds' hd σ' H' e1 _ => hP _ hd _ H' e1 .non, hP, fun _ _ z => z.elim⟩
end
section
variable {X : Cx} {k : Nat} {f : Addr} {fd : FuncData} {ps : List Str} {x : Str} {p pos : Pos} {e : Expr} {es : List Expr} {A : WA} {ta : TA}
theorem pe_callG {sp : Sp} (F : FnG X.prog X.w X.K X.mg X.base CX0 k f fd ps sp) (hgd : X.A.guards = some []) (hr : Room k X.A) (hg : Gl X x) (hm : X.mg x = some (.ref f)) (hk : PySem.W.keepIn X.K (.ref f) = true) (hb : Binds X.K fd ps [])
    (ha : PA X (e :: es) ta) (hdb : (x == ("__debug__" : Str)) = false := by decide) (he : starEach (e :: es) X.env = (false, eval e X.env) :: starEach es X.env := by rfl) (hpl : (backTo pos (starEach es X.env)).any (·.1) = false := by rfl) :
    PE X (.Call (.Name x p) (e :: es) [] pos) (tCall sp [] E0 ta) := by
  refine ⟨fun pins s σ H Q I h => ?_⟩
  refine wpAny_Call_Name_kw (ld_glob I hg hm ?_ hdb)
  refine PySem.W.callWith_K (h₀ := X.base) I.ok.mod.kin hk (thn (ha.run pos pins s σ H _ I h) fun us s1 ⟨vs, H1, I1, r, q⟩ => ⟨I1.kIn, ?_⟩) he hpl
  have hl : (us ++ []).length = ps.length := by
    have z := F.len _ _ _ _ q
    rw [List.append_nil] at z ⊢
    rw [← r.length]
    exact z
  refine wpAny_call (codeAny_mono (F.go X.A X.stack s1 H1 ⟨us, []⟩ (us ++ []) (vs ++ []) Q E0 hgd hr I1.env0 (hb s1 us I1.kIn hl) (r.append .nil) q) fun z s' hq => ?_)
  cases z with
  | error _ => exact False.elim hq
  | ok fl =>
    cases fl with
    | ret _ => exact I1.after hq
    | next => exact False.elim hq
    | brk => exact False.elim hq
    | cont => exact False.elim hq
theorem we_callG {g : DFn} (F : FnG X.prog X.w X.K X.mg X.base CX0 k f fd ps (spD fun es P _ => g es P)) (hgd : X.A.guards = some []) (hr : Room k X.A) (hg : Gl X x) (hm : X.mg x = some (.ref f)) (hk : PySem.W.keepIn X.K (.ref f) = true) (hb : Binds X.K fd ps [])
    (ha : PA X (e :: es) (tAW A)) (hdb : (x == ("__debug__" : Str)) = false := by decide) (he : starEach (e :: es) X.env = (false, eval e X.env) :: starEach es X.env := by rfl) (hpl : (backTo pos (starEach es X.env)).any (·.1) = false := by rfl) :
    PE X (.Call (.Name x p) (e :: es) [] pos) (tW (wCall g A)) := PE.weak (pe_callG F hgd hr hg hm hk hb ha hdb he hpl) fun σ H Q h => fn_red (f := fun es P _ => g es P) h
end
end DL

set_option maxHeartbeats 2000000
namespace DL
open PySem PySem.Spec PyProof.Rows L2
variable [TabCtx]
section
variable {X : Cx} {e a b : Expr} {W Wa Wb : WE} {pos p p2 p3 : Pos} {x : Str}
theorem call_fRepr (hgd : X.A.guards = some []) (hu : X.A.units + 64 < cLine) : CallR X (.builtin "repr") (rF fRepr) := by
  intro pins s σ H xs us Q I r ⟨O, es, P, hq, hO, hg, k⟩
  unfold fRepr at hg
  split at hg
  · obtain ⟨g1, g2, g3, g4, g5, g6⟩ := hg
    cases hq with
    | cons a b =>
      cases b
      cases r with
      | cons ra rb =>
        cases rb
        rename_i d v u
        have fin : ∀ h' t tk, (∀ b o, s.heap.get? b = some o → h'.get? b = some o) → EP X pins σ Q (.str d.py.shown t) { s with heap := h', toks := tk } :=
          fun h' t tk hk => ⟨.str d.py.shown, H, I.kept hk, ⟨_, rfl⟩, k _ g6 _ H (.refl _ _) (.str _)⟩
        cases a with
        | non =>
          cases ra
          exact PySem.P.repr_of_none (fin s.heap _ _ fun _ _ z => z)
        | bl b =>
          cases ra
          exact PySem.P.repr_of_bool (fin s.heap _ _ fun _ _ z => z)
        | int i =>
          obtain ⟨t, rfl⟩ := ra
          exact PySem.P.repr_of_int (by simpa [D.py, PyData.showable] using g2) (fin s.heap _ _ fun _ _ z => z)
        | str y =>
          obtain ⟨t, rfl⟩ := ra
          exact PySem.P.repr_of_str (fin s.heap _ _ fun _ _ z => z) g5
        | @lst ad xs ds h1 h2 h3 =>
          obtain ⟨as, rd⟩ := Dp.reads I _ _ _ (Dq.dp (.lst h1 h2 h3) g1) ra
          cases ra
          exact repr_of_reads' rd g2 (PyData.noDict_hsm g3) hgd (by omega) (fun _ _ z => z) (fun h' t tk hk => fin h' t tk hk) g5
        | @tup ad xs ds h1 h2 h3 =>
          obtain ⟨as, rd⟩ := Dp.reads I _ _ _ (Dq.dp (.tup h1 h2 h3) g1) ra
          cases ra
          exact repr_of_reads' rd g2 (PyData.noDict_hsm g3) hgd (by omega) (fun _ _ z => z) (fun h' t tk hk => fin h' t tk hk) g5
        | src _ => simp [D.pl] at g1
        | fn _ => simp [D.pl] at g1
        | exn _ _ _ => simp [D.pl] at g1
        | sq _ => simp [D.pl] at g1
        | ins _ _ _ => simp [D.pl] at g1
        | dct _ _ _ => simp [D.pl] at g1
  · exact hg.elim
end
end DL
namespace DL
open PySem PySem.Spec PyProof.Rows L2
/-- a def of the top -/
structure Dn (K : PySem.W.Frag) (mg : Str → Option Value) (x : Str) (st : Stmt) (ps : List Str) where
  f : Addr
  fd : FuncData
  F : Fun K x x st f fd
  b : Binds K fd ps []
  m : mg x = some (.ref f)
/-- an own error class of the top -/
structure Ex (K : PySem.W.Frag) (mg : Str → Option Value) (x q : Str) (st : Stmt) where
  C : Addr
  m : mg x = some (.ref C)
  T : OexC K C
  no : PySem.W.findIn K (.ref C) "told" = some none
  fI : Addr
  fd : FuncData
  F : Fun K "__init__" q st fI fd
  b : Binds K fd ["self", "told"] []
  iC : PySem.W.findIn K (.ref C) "__init__" = some (some (.ref fI))
  tI : PySem.W.typeIn K (.ref fI) = some (.type "function")
/-- contracts: a function of data, where ok -/
def pure1 (ok : D → Prop) (f : D → D) : DFn := fun es P => ∃ d, es = [d] ∧ ok d ∧ P (f d)
def pure2 (ok : D → D → Prop) (f : D → D → D) : DFn := fun es P => ∃ a b, es = [a, b] ∧ ok a b ∧ P (f a b)
def pure3 (ok : D → D → D → Prop) (f : D → D → D → D) : DFn := fun es P => ∃ a b c, es = [a, b, c] ∧ ok a b c ∧ P (f a b c)
theorem pure1_len {ok : D → Prop} {f : D → D} {es : List D} {P : D → Prop} (h : pure1 ok f es P) : es.length = 1 := by
  obtain ⟨d, rfl, _⟩ := h
  rfl
theorem pure2_len {ok : D → D → Prop} {f : D → D → D} {es : List D} {P : D → Prop} (h : pure2 ok f es P) : es.length = 2 := by
  obtain ⟨a, b, rfl, _⟩ := h
  rfl
theorem pure3_len {ok : D → D → D → Prop} {f : D → D → D → D} {es : List D} {P : D → Prop} (h : pure3 ok f es P) : es.length = 3 := by
  obtain ⟨a, b, c, rfl, _⟩ := h
  rfl
theorem boot_intT : bootBuiltins "int" = some (.type "int") := by decide +kernel
theorem boot_strT : bootBuiltins "str" = some (.type "str") := by decide +kernel
theorem boot_boolT : bootBuiltins "bool" = some (.type "bool") := by decide +kernel
theorem boot_tupleT : bootBuiltins "tuple" = some (.type "tuple") := by decide +kernel
theorem boot_listT : bootBuiltins "list" = some (.type "list") := by decide +kernel
theorem boot_lenB : bootBuiltins "len" = some (.builtin "len") := by decide +kernel
theorem boot_allB : bootBuiltins "all" = some (.builtin "all") := by decide +kernel
theorem boot_anyB : bootBuiltins "any" = some (.builtin "any") := by decide +kernel
theorem boot_maxB : bootBuiltins "max" = some (.builtin "max") := by decide +kernel
theorem boot_reprB : bootBuiltins "repr" = some (.builtin "repr") := by decide +kernel
end DL

set_option maxHeartbeats 2000000
namespace DL
open PySem PySem.Spec PyProof.Rows L2
variable [TabCtx]
theorem wEach_pure {f : D → (D → Prop) → Prop} (g : D → D) : ∀ {xs : List D} {P : List D → Prop}, (∀ x ∈ xs, ∀ P' : D → Prop, P' (g x) → f x P') → P (xs.map g) → wEach f xs P
  | [], _, _, h => h
  | x :: xs, P, hf, h => hf x List.mem_cons_self _ (wEach_pure g (fun y hy => hf y (List.mem_cons_of_mem _ hy)) h)
theorem bools_map {α : Type} (h : α → Bool) : ∀ xs : List α, boolsOf (xs.map fun x => D.bl (h x)) = some (xs.map h)
  | [] => rfl
  | x :: xs => by
    show (boolsOf (xs.map fun x => D.bl (h x))).map (h x :: ·) = some (h x :: xs.map h)
    rw [bools_map h xs]
    rfl
theorem strs_map {α : Type} (h : α → Str) : ∀ xs : List α, strsOf (xs.map fun x => D.str (h x)) = some (xs.map h)
  | [] => rfl
  | x :: xs => by
    show (strsOf (xs.map fun x => D.str (h x))).map (h x :: ·) = some (h x :: xs.map h)
    rw [strs_map h xs]
    rfl
theorem signs_len (z : Str) : (DL.signs z).length = z.length := by
  unfold DL.signs
  rw [List.length_map]
  simp [Str.length]
theorem wEach_signs {f : D → (D → Prop) → Prop} {z : Str} {P : List D → Prop} (g : Nat → D) (hf : ∀ (c : Nat) (P' : D → Prop), P' (g c) → f (.str ⟨#[c]⟩) P') (hp : P (z.cps.toList.map g)) : wEach f (DL.signs z) P := by
  unfold DL.signs
  generalize z.cps.toList = l at hp
  induction l generalizing P with
  | nil => exact hp
  | cons c l ih => exact hf c _ (ih hp)
/-! ### small data -/
def gd : Nat → D → Bool
  | _, .non => true
  | _, .bl _ => true
  | _, .int i => decide (i.natAbs.log2 < 1000)
  | _, .str x => decide (x.length ≤ 100) && PyData.strOk x
  | n + 1, .lst xs => decide (xs.length ≤ 100) && xs.all (gd n)
  | n + 1, .tup xs => decide (xs.length ≤ 100) && xs.all (gd n)
  | _, _ => false
theorem gd_up : ∀ {n : Nat} {d : D}, gd n d = true → gd (n + 1) d = true := by
  intro n
  induction n with
  | zero => intro d h; cases d <;> simp [gd] at h ⊢ <;> exact h
  | succ n ih =>
    intro d h
    cases d with
    | lst xs =>
      simp only [gd, Bool.and_eq_true, List.all_eq_true] at h ⊢
      exact ⟨h.1, fun x hx => ih (h.2 x hx)⟩
    | tup xs =>
      simp only [gd, Bool.and_eq_true, List.all_eq_true] at h ⊢
      exact ⟨h.1, fun x hx => ih (h.2 x hx)⟩
    | _ => simpa [gd] using h
def Good (d : D) : Prop := gd 8 d = true
def tyOk (d : D) : Prop := (tyD d).isSome = true
theorem Good.ty {d : D} (h : Good d) : tyOk d := by
  cases d <;> simp [Good, gd, tyOk, tyD] at h ⊢
theorem Good.tup {xs : List D} (h : Good (.tup xs)) : xs.length ≤ 100 ∧ ∀ x ∈ xs, Good x := by
  unfold Good at h
  simp only [gd, Bool.and_eq_true, List.all_eq_true, decide_eq_true_eq] at h
  exact ⟨h.1, fun x hx => gd_up (h.2 x hx)⟩
theorem Good.lst {xs : List D} (h : Good (.lst xs)) : xs.length ≤ 100 ∧ ∀ x ∈ xs, Good x := by
  unfold Good at h
  simp only [gd, Bool.and_eq_true, List.all_eq_true, decide_eq_true_eq] at h
  exact ⟨h.1, fun x hx => gd_up (h.2 x hx)⟩
theorem Good.str {x : Str} (h : Good (.str x)) : x.length ≤ 100 := by
  unfold Good at h
  simp only [gd, Bool.and_eq_true, decide_eq_true_eq] at h
  exact h.1
theorem line_big {n : Nat} (h : n ≤ 100000) : n ≤ sizeLine := by
  rw [sizeLine_eq]
  omega
/-! ### pure questions of the checks -/
def isNum : D → Bool | .int _ => true | _ => false
def isWithin (d : D) (lo hi : Int) : Bool := match d with | .int i => decide (lo ≤ i) && decide (i ≤ hi) | _ => false
def low (c : Nat) : Bool := decide (97 ≤ c) && decide (c ≤ 122)
def isName : D → Bool
  | .str x => decide (1 ≤ x.length) && decide (x.length ≤ 4) && x.cps.toList.all low
  | _ => false
def isOperand (d : D) : Bool := isWithin d 0 9972 || isName d
def dlen : D → Int
  | .str x => x.length
  | .lst xs => xs.length
  | .tup xs => xs.length
  | _ => 0
theorem tyD_non  : (tyD .non).isSome = true := rfl
theorem isInt_non  : DL.isInt .non = false := rfl
theorem isStr_non  : DL.isStr .non = false := rfl
theorem isBl_non  : DL.isBl .non = false := rfl
theorem isTup_non  : DL.isTup .non = false := rfl
theorem isLst_non  : DL.isLst .non = false := rfl
theorem tyD_bl {b : Bool} : (tyD (.bl b)).isSome = true := rfl
theorem isInt_bl {b : Bool} : DL.isInt (.bl b) = true := rfl
theorem isStr_bl {b : Bool} : DL.isStr (.bl b) = false := rfl
theorem isBl_bl {b : Bool} : DL.isBl (.bl b) = true := rfl
theorem isTup_bl {b : Bool} : DL.isTup (.bl b) = false := rfl
theorem isLst_bl {b : Bool} : DL.isLst (.bl b) = false := rfl
theorem tyD_int {i : Int} : (tyD (.int i)).isSome = true := rfl
theorem isInt_int {i : Int} : DL.isInt (.int i) = true := rfl
theorem isStr_int {i : Int} : DL.isStr (.int i) = false := rfl
theorem isBl_int {i : Int} : DL.isBl (.int i) = false := rfl
theorem isTup_int {i : Int} : DL.isTup (.int i) = false := rfl
theorem isLst_int {i : Int} : DL.isLst (.int i) = false := rfl
theorem tyD_str {x : Str} : (tyD (.str x)).isSome = true := rfl
theorem isInt_str {x : Str} : DL.isInt (.str x) = false := rfl
theorem isStr_str {x : Str} : DL.isStr (.str x) = true := rfl
theorem isBl_str {x : Str} : DL.isBl (.str x) = false := rfl
theorem isTup_str {x : Str} : DL.isTup (.str x) = false := rfl
theorem isLst_str {x : Str} : DL.isLst (.str x) = false := rfl
theorem tyD_lst {xs : List D} : (tyD (.lst xs)).isSome = true := rfl
theorem isInt_lst {xs : List D} : DL.isInt (.lst xs) = false := rfl
theorem isStr_lst {xs : List D} : DL.isStr (.lst xs) = false := rfl
theorem isBl_lst {xs : List D} : DL.isBl (.lst xs) = false := rfl
theorem isTup_lst {xs : List D} : DL.isTup (.lst xs) = false := rfl
theorem isLst_lst {xs : List D} : DL.isLst (.lst xs) = true := rfl
theorem isInt_dct {ks : List Key} {ds : List D} : DL.isInt (.dct ks ds) = false := rfl
theorem isStr_dct {ks : List Key} {ds : List D} : DL.isStr (.dct ks ds) = false := rfl
theorem isBl_dct {ks : List Key} {ds : List D} : DL.isBl (.dct ks ds) = false := rfl
theorem isTup_dct {ks : List Key} {ds : List D} : DL.isTup (.dct ks ds) = false := rfl
theorem isLst_dct {ks : List Key} {ds : List D} : DL.isLst (.dct ks ds) = false := rfl
theorem tyD_dct {ks : List Key} {ds : List D} : (tyD (.dct ks ds)).isSome = true := rfl
theorem tyD_tup {xs : List D} : (tyD (.tup xs)).isSome = true := rfl
theorem isInt_tup {xs : List D} : DL.isInt (.tup xs) = false := rfl
theorem isStr_tup {xs : List D} : DL.isStr (.tup xs) = false := rfl
theorem isBl_tup {xs : List D} : DL.isBl (.tup xs) = false := rfl
theorem isTup_tup {xs : List D} : DL.isTup (.tup xs) = true := rfl
theorem isLst_tup {xs : List D} : DL.isLst (.tup xs) = false := rfl
theorem ifF {c : Bool} {A B : Prop} (h : c = false) (b : B) : if c = true then A else B := by
  subst h
  exact b
theorem ifT {c : Bool} {A B : Prop} (h : c = true) (a : A) : if c = true then A else B := by
  subst h
  exact a
theorem at_0 {a : D} {r : List D} : atI (a :: r) 0 = some a := atI_nat (j := 0) rfl
theorem at_1 {a b : D} {r : List D} : atI (a :: b :: r) 1 = some b := atI_nat (j := 1) rfl
theorem at_2 {a b c : D} {r : List D} : atI (a :: b :: c :: r) 2 = some c := atI_nat (j := 2) rfl
theorem at_3 {a b c d : D} {r : List D} : atI (a :: b :: c :: d :: r) 3 = some d := atI_nat (j := 3) rfl
theorem at_4 {a b c d e : D} {r : List D} : atI (a :: b :: c :: d :: e :: r) 4 = some e := atI_nat (j := 4) rfl
theorem Good.tyS {d : D} (h : Good d) : (tyD d).isSome = true := h.ty
theorem low_is (c : Nat) : (if (!decide ((⟨#[c]⟩ : Str).cps.toList < ("a" : Str).cps.toList)) = true then !decide (("z" : Str).cps.toList < (⟨#[c]⟩ : Str).cps.toList) else false) = low c := by
  have e1 : ("a" : Str).cps.toList = [97] := by decide
  have e2 : ("z" : Str).cps.toList = [122] := by decide
  rw [e1, e2]
  show (if (!decide ([c] < [97])) = true then !decide ([122] < [c]) else false) = low c
  have h1 : ([c] < [97]) ↔ c < 97 := by simp [List.cons_lt_cons_iff]
  have h2 : ([122] < [c]) ↔ 122 < c := by simp [List.cons_lt_cons_iff]
  unfold low
  by_cases a : c < 97 <;> by_cases b : 122 < c <;> simp [h1, h2, a, b] <;> omega
theorem okEq_int (i : Int) : okEq (.int i) := ⟨by unfold D.pl; rfl, by unfold D.py; rfl⟩
theorem okEq_str {x : Str} (h : PyData.strOk x = true) : okEq (.str x) := ⟨by unfold D.pl; rfl, by unfold D.py SeqAt.shaped PyData.canLay0; rw [h]; rfl⟩
theorem okEq_non : okEq .non := ⟨by unfold D.pl; rfl, by unfold D.py; rfl⟩
theorem okEq_bl (b : Bool) : okEq (.bl b) := ⟨by unfold D.pl; rfl, by unfold D.py; rfl⟩
theorem eqD_int (i j : Int) : eqD (.int i) (.int j) = decide (i = j) := by
  unfold eqD D.py PyData.eqv
  exact Bool.beq_eq_decide_eq i j
theorem eqD_str (x y : Str) : eqD (.str x) (.str y) = decide (x = y) := by
  unfold eqD D.py PyData.eqv
  exact Bool.beq_eq_decide_eq x y
/-! ### a source of draws: a list of two numbers that the law's own defs alone change -/
section
variable {X : Cx} {e : Expr} {W : WE} {pos p1 p2 p3 : Pos} {x : Str} {i j : Nat} {k : Int}
def SrcN (k : Int) (n : Int) : Prop := k = 0 ∨ (k = 1 ∧ 0 ≤ n ∧ n < 2147483647)
def wSrc (i : Nat) (k : Int) : WE := fun ds P => (k = 0 ∨ k = 1) ∧ (∃ p, ds[i]? = some (some (.src p))) ∧ ∀ n : Int, SrcN k n → P (.int n)
theorem src_at {O : Ow} {H : Hp} {p : Addr} (h : OwnAll O H) (hp : (p, Own.src) ∈ O) : ∃ a b : Int, H p = some (.lst [.int a, .int b]) ∧ 0 ≤ b ∧ b < 2147483647 := by
  obtain ⟨o, h1, a, b, rfl, h2⟩ := h.here _ hp
  exact ⟨a, b, h1, h2⟩
theorem we_src (hx : PE X (.Name x p1) (tVar i)) : PE X (.Subscript (.Name x p1) (.Constant (.int k) j p2) pos) (tW (wSrc i k)) :=
  PE.weak (pe_ix ix_list hx pe_int fun _ _ => rfl) fun σ H Q ⟨O, ds, P, hS, hO, ⟨hk, ⟨p, hp⟩, hn⟩, kk⟩ => by
    obtain ⟨v, a, b⟩ := hS.val i _ hp
    cases b with
    | src hp' =>
      obtain ⟨n, m, h1, h2, h3⟩ := src_at hO hp'
      refine ⟨_, a, p, [.int n, .int m], k, ?_⟩
      rcases hk with rfl | rfl
      · exact ⟨.int n, rfl, rfl, .of h1, atI_nat (j := 0) rfl, kk _ (hn n (.inl rfl)) _ H (.refl _ _) (.int _)⟩
      · exact ⟨.int m, rfl, rfl, .of h1, atI_nat (j := 1) rfl, kk _ (hn m (.inr ⟨rfl, h2, h3⟩)) _ H (.refl _ _) (.int _)⟩
def gSrcSet (i : Nat) (k : Int) (W : WE) : WS := fun ds N _ _ => W ds fun d => (k = 0 ∨ k = 1) ∧ (∃ p, ds[i]? = some (some (.src p))) ∧ ∃ n, d = .int n ∧ SrcN k n ∧ N ds
theorem ws_srcSet {E : XK} (hx : PE X (.Name x p1) (tVar i)) (he : PE X e (tW W)) (hs : swapsWithSole [.Subscript (.Name x p1) (.Constant (.int k) j p2) p3] e pos.line X.env = pure false := by rfl)
    (hw : swappedStores [.Subscript (.Name x p1) (.Constant (.int k) j p2) p3] e X.env = pure none := by rfl) : PS X (.Assign [.Subscript (.Name x p1) (.Constant (.int k) j p2) p3] e pos) (tSW E (gSrcSet i k W)) :=
  PS.weak (ps_asg he (pg_sub hx pe_int set_list) hs hw) fun D σ H ⟨O, ds, N, R, Z, hS, hO, hG, hN, hR, hZ⟩ => ⟨O, ds, _, hS, hO, hG, fun d hd v H1 e1 q1 => by
    obtain ⟨hk, ⟨p, hp⟩, n, rfl, hn, hd⟩ := hd
    cases q1
    have S1 := hS.mono e1
    have O1 := hO.mono e1
    obtain ⟨v, a, b⟩ := S1.val i _ hp
    cases b with
    | src hp' =>
      obtain ⟨n0, m0, h1, h2, h3⟩ := src_at O1 hp'
      have fin : ∀ y z : Int, 0 ≤ z → z < 2147483647 → D.nx σ (upd H1 p (.lst [.int y, .int z])) := fun y z hz0 hz1 => by
        have e2 : Ext O H1 (upd H1 p (.lst [.int y, .int z])) := ⟨fun c o hc h _ => by rw [upd_ne (hc _ hp')]; exact h, fun q hq h => by
          by_cases hqp : q.1 = p
          · have := O1.uq q hq _ hp' hqp
            subst this
            exact ⟨_, upd_same, y, z, rfl, hz0, hz1⟩
          · obtain ⟨o, k1, k2⟩ := h
            exact ⟨o, by rw [upd_ne hqp]; exact k1, k2.upd (noCode_of h1)⟩⟩
        exact hN ds hd σ _ (e1.trans e2) (S1.mono e2)
      refine ⟨_, a, p, [.int n0, .int m0], k, ?_⟩
      rcases hk with rfl | rfl
      · exact ⟨0, rfl, rfl, h1, rfl, fin n m0 h2 h3⟩
      · rcases hn with hn | ⟨_, hn0, hn1⟩
        · cases hn
        · exact ⟨1, rfl, rfl, h1, rfl, fin n0 n hn0 hn1⟩⟩
end
def dMulS : DOp := fun x y P => match x, y with
  | .int i, .int j => CMul i j ∧ P (.int (i * j))
  | _, _ => False
def dFdivS : DOp := fun x y P => match x, y with
  | .int i, .int j => CDiv i j ∧ P (.int (i / j))
  | _, _ => False
section
variable {X : Cx}
theorem op_dMulS : OpR X (binaryOp .Mult) (rD dMulS) := by
  intro pins s σ H x y v u Q I rx ry ⟨O, dx, dy, P, qx, qy, hO, hg, k⟩
  unfold dMulS at hg
  split at hg
  · cases qx; cases qy
    exact op_mul pins s σ H _ _ v u Q I rx ry ⟨_, _, rfl, rfl, hg.1, k _ hg.2 _ H (.refl _ _) (.int _)⟩
  · exact hg.elim
theorem op_dFdivS : OpR X (binaryOp .FloorDiv) (rD dFdivS) := by
  intro pins s σ H x y v u Q I rx ry ⟨O, dx, dy, P, qx, qy, hO, hg, k⟩
  unfold dFdivS at hg
  split at hg
  · cases qx; cases qy
    exact op_fdiv pins s σ H _ _ v u Q I rx ry ⟨_, _, rfl, rfl, hg.1, k _ hg.2 _ H (.refl _ _) (.int _)⟩
  · exact hg.elim
end
end DL

set_option maxHeartbeats 2000000
namespace DL
open PySem PySem.Spec PyProof.Rows L2
variable [TabCtx]
/-! ### {k: v, ..}.get(a, b), the keys written texts -/
def zipT : List Str → List WE → List (TE × TE)
  | k :: ks, W :: Ws => (tC (.str k), tW W) :: zipT ks Ws
  | _, _ => []
def wVals : List WE → WA
  | [] => waNil
  | W :: Ws => waCons W (wVals Ws)
def assocD : List Str → List D → Str → Option D
  | k :: ks, e :: es, q => match assocD ks es q with
    | some d => some d
    | none => if q = k then some e else none
  | _, _, _ => none
def keyed : List Str → List V → List (Key × V)
  | k :: ks, v :: vs => (Sum.inr k, v) :: keyed ks vs
  | _, _ => []
theorem assoc_rel {O : Ow} {H : Hp} {q : Str} : ∀ {ks : List Str} {vs : List V} {es : List D} (acc : List (Key × V)), DqAll O H vs es →
    (∃ v d, valV (mergeK acc (keyed ks vs)) (Sum.inr q) = some v ∧ assocD ks es q = some d ∧ Dq O H v d) ∨ (valV (mergeK acc (keyed ks vs)) (Sum.inr q) = valV acc (Sum.inr q) ∧ assocD ks es q = none)
  | [], _, _, acc, _ => .inr ⟨rfl, rfl⟩
  | k :: ks, _, _, acc, .nil => .inr ⟨rfl, rfl⟩
  | k :: ks, _, _, acc, .cons (v := v) (vs := vs) (d := e) (ds := es) a b => by
    show (∃ v' d, valV (mergeK (putK acc (Sum.inr k) v) (keyed ks vs)) (Sum.inr q) = some v' ∧ assocD (k :: ks) (e :: es) q = some d ∧ Dq O H v' d) ∨ (valV (mergeK (putK acc (Sum.inr k) v) (keyed ks vs)) (Sum.inr q) = valV acc (Sum.inr q) ∧ assocD (k :: ks) (e :: es) q = none)
    rcases assoc_rel (q := q) (ks := ks) (putK acc (Sum.inr k) v) b with ⟨v', d, h1, h2, h3⟩ | ⟨h1, h2⟩
    · exact .inl ⟨v', d, h1, by simp only [assocD, h2], h3⟩
    · rw [h1, valV_put]
      by_cases hq : q = k
      · subst hq
        exact .inl ⟨v, e, by rw [if_pos rfl], by simp only [assocD, h2, if_true], a⟩
      · refine .inr ⟨by rw [if_neg (fun z => hq (Sum.inr.inj z))], by simp only [assocD, h2, hq, if_false]⟩
theorem pairs_red {σ : L2.St} : ∀ {ks : List Str} {Ws : List WE} {O : Ow} {ds : Sl} {P : List D → Prop} {H : Hp} {Q : List (V × V) → Hp → Prop}, ks.length = Ws.length → SlD O H σ ds → OwnAll O H → wVals Ws ds P →
    (∀ es, P es → ∀ vs H', Ext O H H' → DqAll O H' vs es → Q ((keyed ks vs).map fun kv => (kV kv.1, kv.2)) H') → tPairs (zipT ks Ws) σ H Q
  | [], [], O, ds, P, H, Q, _, hS, hO, hW, k => k [] hW [] H (.refl _ _) .nil
  | q :: ks, W :: Ws, O, ds, P, H, Q, hl, hS, hO, hW, k => by
    show tW W σ H fun y H2 => tPairs (zipT ks Ws) σ H2 fun ps H3 => Q ((V.str q, y) :: ps) H3
    exact ⟨O, ds, _, hS, hO, hW, fun d hd v H1 e1 q1 => pairs_red (by simpa using hl) (hS.mono e1) (hO.mono e1) hd fun es he vs H2 e2 q2 => k _ he (v :: vs) H2 (e1.trans e2) (.cons (q1.mono e2) q2)⟩
  | [], _ :: _, _, _, _, _, _, h, _, _, _, _ => by cases h
  | _ :: _, [], _, _, _, _, _, h, _, _, _, _ => by cases h
theorem OwnAll.hold {O : Ow} {H : Hp} {p : Addr} {o : HO} (h : OwnAll O H) (op : Out O p) (hp : H p = some o) (n : NT o := by intro ps z; cases z) : OwnAll (O ++ [(p, .hold o)]) H := by
  refine ⟨fun q hq => ?_, fun q hq r hr e => ?_, h.tabs.hold n⟩
  · rcases List.mem_append.mp hq with z | z
    · exact h.here q z
    · have z' : q = (p, .hold o) := by simpa using z
      subst z'
      exact ⟨_, hp, rfl⟩
  · rcases List.mem_append.mp hq with z | z <;> rcases List.mem_append.mp hr with z' | z'
    · exact h.uq q z r z' e
    · have y : r = (p, .hold o) := by simpa using z'
      subst y
      exact absurd e.symm (op q z)
    · have y : q = (p, .hold o) := by simpa using z
      subst y
      exact absurd e (op r z')
    · have y1 : q = (p, .hold o) := by simpa using z
      have y2 : r = (p, .hold o) := by simpa using z'
      rw [y1, y2]
theorem OwnAll.less {O : Ow} {H : Hp} {p : Addr} {o : HO} (h : OwnAll (O ++ [(p, .hold o)]) H) : OwnAll O H := ⟨fun q hq => h.here q (List.mem_append_left _ hq), fun q hq r hr e => h.uq q (List.mem_append_left _ hq) r (List.mem_append_left _ hr) e, h.tabs.less⟩
theorem Ext.hold_at {O : Ow} {H H' : Hp} {p : Addr} {o : HO} (e : Ext (O ++ [(p, .hold o)]) H H') (h : H p = some o) : H' p = some o := by
  obtain ⟨u, h1, h2⟩ := e.own (p, .hold o) (by simp) ⟨_, h, rfl⟩
  have h2' : u = o := h2
  rw [← h2']
  exact h1
/-- from a heap where p was not yet, over a stretch that holds p -/
theorem Ext.drop {O : Ow} {H H' : Hp} {p : Addr} {o : HO} (e : Ext (O ++ [(p, .hold o)]) H H') {H0 : Hp} (e0 : Ext O H0 H) (n : H0 p = none) : Ext O H0 H' :=
  ⟨fun b u hb h t => e.keep b u (fun q hq => by
      rcases List.mem_append.mp hq with z | z
      · exact hb q z
      · have y : q = (p, .hold o) := by simpa using z
        subst y
        exact ne_of_none h n) (e0.keep b u hb h t) t,
    fun q hq h => e.own q (List.mem_append_left _ hq) (e0.own q hq h)⟩
def wDGet (ks : List Str) (Ws : List WE) (Wk Wd : WE) : WE := fun ds P => wVals Ws ds fun es => Wk ds fun kd => Wd ds fun xd => ∃ q, kd = .str q ∧ P ((assocD ks es q).getD xd)
section
variable {X : Cx} {e f : Expr} {Wk Wd : WE} {pos pd pa : Pos}
theorem we_dget {keys : List (Option Expr)} {values : List Expr} {trs : List (TE × TE)} {ks : List Str} {Ws : List WE} (hu : X.A.units + 1 < cLine) (hp : PPs X pd keys values trs) (ht : trs = zipT ks Ws) (hl : ks.length = Ws.length) (h15l : ks.length ≤ 15)
    (hall : keys.all (·.isSome) = true) (hkl : keys.length = values.length) (h0 : keys ≠ []) (h15 : keys.length ≤ 15) (he : PE X e (tW Wk)) (hf : PE X f (tW Wd)) (m : M2 X (.Dict keys values pd) "get" pa e f pos) :
    PE X (.Call (.Attribute (.Dict keys values pd) "get" pa) [e, f] [] pos) (tW (wDGet ks Ws Wk Wd)) := by
  subst ht
  refine PE.weak (pe_dget2 hu (pe_disp hp hall hkl h0 h15) he hf m) fun σ H Q ⟨O, ds, P, hS, hO, hW, k⟩ => fun p np => ?_
  have op := hO.out np
  have O1 : OwnAll (O ++ [(p, .hold (.dK []))]) (upd H p (.dK [])) := (hO.mono (.new np)).hold op upd_same
  have S1 : SlD (O ++ [(p, .hold (.dK []))]) (upd H p (.dK [])) σ ds := (hS.more (fresh_none np)).keep fun b o _ h _ => by
    rw [upd_ne (ne_of_none h np)]
    exact h
  refine pairs_red hl S1 O1 hW fun es hes vs H2 e2 q2 => ⟨e2.hold_at upd_same, keyed ks vs, rfl, ?_, ?_⟩
  · have : ∀ (ks : List Str) (vs : List V), (keyed ks vs).length ≤ ks.length := by
      intro ks
      induction ks with
      | nil => intro vs; exact Nat.le_refl _
      | cons k ks ih =>
        intro vs
        cases vs with
        | nil => exact Nat.zero_le _
        | cons v vs => exact Nat.succ_le_succ (ih vs)
    exact Nat.le_trans (this ks vs) h15l
  · have O2 := O1.mono e2
    have E2 : Ext O H H2 := e2.drop (.new np) np
    have neP : ∀ q ∈ O, q.1 ≠ p := fun q hq => (op q hq).symm
    have E3 : Ext O H (upd H2 p (.dK (mergeK [] (keyed ks vs)))) := ⟨fun b o hb h t => by rw [upd_ne (ne_of_none h np)]; exact E2.keep b o hb h t, fun q hq h => by
      obtain ⟨u, h1, h2⟩ := E2.own q hq h
      exact ⟨u, by rw [upd_ne (neP q hq)]; exact h1, h2.upd (noCode_of (e2.hold_at upd_same))⟩⟩
    have K3 : ∀ b o, Out (O ++ [(p, Own.hold (.dK (mergeK [] (keyed ks vs))))]) b → H2 b = some o → NT o → upd H2 p (.dK (mergeK [] (keyed ks vs))) b = some o := fun b o hb h _ => by
      rw [upd_ne (hb (p, .hold (.dK (mergeK [] (keyed ks vs)))) (by simp))]
      exact h
    have q3 := (DqAll.rehold (o' := .dK (mergeK [] (keyed ks vs))) q2).keep K3
    have O3 : OwnAll (O ++ [(p, .hold (.dK (mergeK [] (keyed ks vs))))]) (upd H2 p (.dK (mergeK [] (keyed ks vs)))) := (hO.mono E3).hold op upd_same
    have S3 : SlD (O ++ [(p, .hold (.dK (mergeK [] (keyed ks vs))))]) (upd H2 p (.dK (mergeK [] (keyed ks vs)))) σ ds := (hS.more (fresh_none np)).keep fun b o hb h t => E3.keep b o (fun q hq => hb q (List.mem_append_left _ hq)) h t
    refine ⟨p, rfl, .inl ⟨_, .of upd_same⟩, O ++ [(p, .hold (.dK (mergeK [] (keyed ks vs))))], ds, _, S3, O3, hes, fun kd hkd y H4 e4 q4 => ⟨O ++ [(p, .hold (.dK (mergeK [] (keyed ks vs))))], ds, _, S3.mono e4, O3.mono e4, hkd, fun xd hxd z H5 e5 q5 => ?_⟩⟩
    obtain ⟨q, rfl, hP⟩ := hxd
    cases q4
    have h5 := (e4.trans e5).hold_at upd_same
    have E5 : Ext O H H5 := (e4.trans e5).drop E3 np
    refine ⟨valV (mergeK [] (keyed ks vs)) (Sum.inr q), DGet.k (k := Sum.inr q) h5, ?_⟩
    rcases assoc_rel (q := q) (ks := ks) [] (q3.mono (e4.trans e5)) with ⟨v, d, h1, h2, h3⟩ | ⟨h1, h2⟩
    · rw [h2] at hP
      rw [h1]
      exact k _ hP _ H5 E5 h3.less
    · rw [h2] at hP
      rw [h1]
      exact k _ hP _ H5 E5 q5.less
end
/-! ### pure helps -/
theorem wEach_any {f : D → (D → Prop) → Prop} {Y : D → Prop} : ∀ {xs : List D} {P : List D → Prop}, (∀ x ∈ xs, ∀ P' : D → Prop, (∀ y, Y y → P' y) → f x P') → (∀ ys : List D, ys.length = xs.length → (∀ y ∈ ys, Y y) → P ys) → wEach f xs P
  | [], P, _, h => h [] rfl fun _ z => nomatch z
  | x :: xs, P, hf, h => hf x List.mem_cons_self _ fun y hy => wEach_any (fun z hz => hf z (List.mem_cons_of_mem _ hz)) fun ys hl hys => h (y :: ys) (by rw [List.length_cons, List.length_cons, hl]) fun z hz => by
    rcases List.mem_cons.mp hz with e | e
    · rw [e]
      exact hy
    · exact hys z e
theorem at_some {α : Type} {xs : List α} {r : Int} (h0 : 0 ≤ r) (h1 : r < xs.length) : ∃ d, L2.atI xs r = some d ∧ d ∈ xs := by
  have hn : r.toNat < xs.length := by omega
  refine ⟨xs[r.toNat], ?_, List.getElem_mem hn⟩
  have e : ((r.toNat : Nat) : Int) = r := by omega
  have := atI_nat (xs := xs) (j := r.toNat) (v := xs[r.toNat]) (by simp [hn])
  rwa [e] at this
theorem intsD_len (n : Nat) : (intsD n).length = n := by simp [intsD]
theorem mem_intsD {n : Nat} {x : D} (h : x ∈ intsD n) : ∃ k : Nat, k < n ∧ x = .int (k : Int) := by
  unfold intsD at h
  obtain ⟨k, hk, e⟩ := List.mem_map.mp h
  exact ⟨k, List.mem_range.mp hk, e.symm⟩
end DL

set_option maxHeartbeats 2000000
namespace DL
open PySem PySem.Spec PyProof.Rows L2
variable [TabCtx]
/-! ### data small enough to be compared and written -/
def gs : Nat → D → Bool
  | _, .non => true
  | _, .bl _ => true
  | _, .int i => decide (i.natAbs.log2 < 200)
  | _, .str x => decide (x.length ≤ 20) && PyData.strOk x
  | n + 1, .lst xs => decide (xs.length ≤ 12) && xs.all (gs n)
  | n + 1, .tup xs => decide (xs.length ≤ 12) && xs.all (gs n)
  | _, _ => false
/-- how long it is written at most -/
def bsz : Nat → Nat
  | 0 => 250
  | n + 1 => 12 * (bsz n + 2) + 4
structure Wr (n : Nat) (d : D) : Prop where
  pl : d.pl = true
  lay : d.py.canLay0 = true
  dep : d.py.depth ≤ n
  sh : d.py.showable = true
  nd : d.py.hasDict = false
  sz : d.py.shown.length ≤ bsz n
theorem bsz_ge (n : Nat) : 250 ≤ bsz n := by
  induction n with
  | zero => exact Nat.le_refl _
  | succ n ih => unfold bsz; omega
theorem listText_le (ts : List Str) : (listText ts).length ≤ piled ts + 4 := by
  unfold listText
  rw [strLen_append]
  have e : (("]" : Str)).length = 1 := by decide
  rw [e]
  cases ts with
  | nil => decide
  | cons t r =>
    have h := textFrom_length_pos r 1 (("[" : Str) ++ (if (0 : Nat) > 0 then ", " else "" : String) ++ t) (Nat.succ_pos 0)
    have e2 : ((("[" : Str) ++ (if (0 : Nat) > 0 then ", " else "" : String) ++ t)).length = 1 + t.length := by
      rw [strLen_append, strLen_append]; rfl
    have e3 : textFrom 0 "[" (t :: r) = textFrom (0 + 1) (("[" : Str) ++ (if (0 : Nat) > 0 then ", " else "" : String) ++ t) r := rfl
    rw [e3, h, e2, piled_cons]
    omega
theorem wr_all {n : Nat} (ih : ∀ d, gs n d = true → Wr n d) : ∀ xs : List D, (∀ x ∈ xs, gs n x = true) → D.pls xs = true ∧ PyData.canLayAll0 (D.pys xs) = true ∧ PyData.depthAll (D.pys xs) ≤ n ∧ PyData.showableAll (D.pys xs) = true ∧ PyData.hasDictAll (D.pys xs) = false ∧
    piled (PyData.shownAll (D.pys xs)) ≤ xs.length * (bsz n + 2)
  | [], _ => ⟨by simp [D.pls], by simp [D.pys, PyData.canLayAll0], by simp [D.pys, PyData.depthAll], by simp [D.pys, PyData.showableAll], by simp [D.pys, PyData.hasDictAll], by simp [D.pys, PyData.shownAll, piled]⟩
  | x :: xs, h => by
    obtain ⟨a1, a2, a3, a4, a5, a6⟩ := ih x (h x List.mem_cons_self)
    obtain ⟨b1, b2, b3, b4, b5, b6⟩ := wr_all ih xs fun y hy => h y (List.mem_cons_of_mem _ hy)
    refine ⟨by simp [D.pls, a1, b1], by simp [D.pys, PyData.canLayAll0, a2, b2], by simp only [D.pys, PyData.depthAll]; omega, by simp [D.pys, PyData.showableAll, a4, b4], by simp [D.pys, PyData.hasDictAll, a5, b5], ?_⟩
    simp only [D.pys, PyData.shownAll]
    rw [piled_cons, List.length_cons, Nat.succ_mul]
    omega
theorem wr_of : ∀ (n : Nat) (d : D), gs n d = true → Wr n d := by
  intro n
  induction n with
  | zero =>
    intro d h
    cases d with
    | non => exact ⟨rfl, rfl, Nat.zero_le _, rfl, rfl, by decide⟩
    | bl b => exact ⟨rfl, rfl, Nat.zero_le _, rfl, rfl, by cases b <;> decide⟩
    | int i =>
      simp only [gs, decide_eq_true_eq] at h
      refine ⟨rfl, rfl, Nat.zero_le _, ?_, rfl, ?_⟩
      · simp only [D.py, PyData.showable, decide_eq_true_eq]
        omega
      · have := int_text_length_le (k := 200) (by decide) h
        simp only [D.py, PyData.shown, bsz]
        rw [PySem.ofString_length]
        omega
    | str x =>
      simp only [gs, Bool.and_eq_true, decide_eq_true_eq] at h
      refine ⟨rfl, h.2, Nat.zero_le _, rfl, rfl, ?_⟩
      have h2 : ∀ c ∈ x.cps.toList, c < 16 ^ 8 := fun c hc => by
        have h3 := h.2
        unfold PyData.strOk at h3
        simp only [Array.all_eq_true'] at h3
        have h4 := h3 c (by simpa using hc)
        simp only [decide_eq_true_eq] at h4
        exact Nat.lt_of_lt_of_le h4 (by decide)
      have := StrLaws.reprText_len x h2
      simp only [D.py, PyData.shown, bsz]
      omega
    | lst _ => simp [gs] at h
    | tup _ => simp [gs] at h
    | src _ => simp [gs] at h
    | fn _ => simp [gs] at h
    | exn _ _ _ => simp [gs] at h
    | sq _ _ => simp [gs] at h
    | ins _ _ _ => simp [gs] at h
    | dct _ _ => simp [gs] at h
  | succ n ih =>
    intro d h
    have hb := bsz_ge (n + 1)
    cases d with
    | non => exact ⟨rfl, rfl, Nat.zero_le _, rfl, rfl, Nat.le_trans (by decide) hb⟩
    | bl b => exact ⟨rfl, rfl, Nat.zero_le _, rfl, rfl, Nat.le_trans (by cases b <;> decide) hb⟩
    | int i =>
      simp only [gs, decide_eq_true_eq] at h
      refine ⟨rfl, rfl, Nat.zero_le _, ?_, rfl, ?_⟩
      · simp only [D.py, PyData.showable, decide_eq_true_eq]
        omega
      · have := int_text_length_le (k := 200) (by decide) h
        simp only [D.py, PyData.shown]
        rw [PySem.ofString_length]
        omega
    | str x =>
      simp only [gs, Bool.and_eq_true, decide_eq_true_eq] at h
      refine ⟨rfl, h.2, Nat.zero_le _, rfl, rfl, ?_⟩
      have h2 : ∀ c ∈ x.cps.toList, c < 16 ^ 8 := fun c hc => by
        have h3 := h.2
        unfold PyData.strOk at h3
        simp only [Array.all_eq_true'] at h3
        have h4 := h3 c (by simpa using hc)
        simp only [decide_eq_true_eq] at h4
        exact Nat.lt_of_lt_of_le h4 (by decide)
      have := StrLaws.reprText_len x h2
      simp only [D.py, PyData.shown]
      omega
    | lst xs =>
      simp only [gs, Bool.and_eq_true, decide_eq_true_eq, List.all_eq_true] at h
      obtain ⟨b1, b2, b3, b4, b5, b6⟩ := wr_all ih xs h.2
      refine ⟨by simp [D.pl, b1], by simp [D.py, PyData.canLay0, b2], by simp only [D.py, PyData.depth]; omega, by simp [D.py, PyData.showable, b4], by simp [D.py, PyData.hasDict, b5], ?_⟩
      have h1 := listText_le (PyData.shownAll (D.pys xs))
      have h2 := Nat.mul_le_mul_right (bsz n + 2) h.1
      simp only [D.py, PyData.shown, bsz]
      omega
    | tup xs =>
      simp only [gs, Bool.and_eq_true, decide_eq_true_eq, List.all_eq_true] at h
      obtain ⟨b1, b2, b3, b4, b5, b6⟩ := wr_all ih xs h.2
      refine ⟨by simp [D.pl, b1], by simp [D.py, PyData.canLay0, b2], by simp only [D.py, PyData.depth]; omega, by simp [D.py, PyData.showable, b4], by simp [D.py, PyData.hasDict, b5], ?_⟩
      have h1 := fmt_text (PyData.shownAll (D.pys xs))
      have h2 := Nat.mul_le_mul_right (bsz n + 2) h.1
      simp only [D.py, PyData.shown, bsz]
      omega
    | src _ => simp [gs] at h
    | fn _ => simp [gs] at h
    | exn _ _ _ => simp [gs] at h
    | sq _ _ => simp [gs] at h
    | ins _ _ _ => simp [gs] at h
    | dct _ _ => simp [gs] at h
theorem gs_gd : ∀ {n : Nat} {d : D}, gs n d = true → gd n d = true := by
  intro n
  induction n with
  | zero =>
    intro d h
    cases d <;> simp only [gs, gd, Bool.and_eq_true, decide_eq_true_eq] at h ⊢
    · omega
    · exact ⟨by omega, h.2⟩
    all_goals cases h
  | succ n ih =>
    intro d h
    cases d <;> simp only [gs, gd, Bool.and_eq_true, decide_eq_true_eq, List.all_eq_true] at h ⊢
    · omega
    · exact ⟨by omega, h.2⟩
    · exact ⟨by omega, fun x hx => ih (h.2 x hx)⟩
    · exact ⟨by omega, fun x hx => ih (h.2 x hx)⟩
    all_goals cases h
theorem gd_le {n m : Nat} {d : D} (h : n ≤ m) (g : gd n d = true) : gd m d = true := by
  induction h with
  | refl => exact g
  | step _ ih => exact gd_up ih
theorem gs_up : ∀ {n : Nat} {d : D}, gs n d = true → gs (n + 1) d = true := by
  intro n
  induction n with
  | zero => intro d h; cases d <;> simp [gs] at h ⊢ <;> exact h
  | succ n ih =>
    intro d h
    cases d with
    | lst xs =>
      simp only [gs, Bool.and_eq_true, List.all_eq_true] at h ⊢
      exact ⟨h.1, fun x hx => ih (h.2 x hx)⟩
    | tup xs =>
      simp only [gs, Bool.and_eq_true, List.all_eq_true] at h ⊢
      exact ⟨h.1, fun x hx => ih (h.2 x hx)⟩
    | _ => simpa [gs] using h
theorem gs_le {n m : Nat} {d : D} (h : n ≤ m) (g : gs n d = true) : gs m d = true := by
  induction h with
  | refl => exact g
  | step _ ih => exact gs_up ih
/-- small data, as the laws draw it -/
def Sm (d : D) : Prop := gs 3 d = true
theorem Sm.good {d : D} (h : Sm d) : Good d := gd_le (by decide) (gs_gd h)
theorem Sm.okEq {d : D} (h : Sm d) : okEq d := ⟨(wr_of 3 d h).pl, by
  have w := wr_of 3 d h
  unfold SeqAt.shaped
  rw [w.lay, decide_eq_true (by have := w.dep; omega)]
  rfl⟩
theorem Sm.wr {d : D} (h : Sm d) {P : D → Prop} (p : P (.str d.py.shown)) : fRepr [d] P := by
  have w := wr_of 3 d h
  refine ⟨w.pl, w.sh, w.nd, by have := w.dep; omega, ?_, p⟩
  have := w.sz
  rw [sizeLine_eq]
  have e : bsz 3 = 436396 := by decide
  omega
theorem eqD_self {d : D} (h : okEq d) : eqD d d = true := SeqAt.eqv_refl d.py (by have h2 := h.2; unfold SeqAt.shaped at h2; exact (Bool.and_eq_true _ _ ▸ h2).1)
theorem cut_drop (xs : List D) (k : Nat) : cutD xs (some (k : Int)) none = xs.drop k := by
  unfold cutD
  rw [HT.sIx_nat, HT.sIx_none]
  by_cases h : k ≤ xs.length
  · rw [Nat.min_eq_left h, List.take_of_length_le (by rw [List.length_drop]; omega)]
  · rw [Nat.min_eq_right (by omega), List.drop_length, List.drop_eq_nil_of_le (by omega)]
    simp
theorem cut_1 (x : D) (r : List D) : cutD (x :: r) (some 1) none = r := cut_drop (x :: r) 1
theorem cut_take (xs : List D) (k : Nat) : cutD xs none (some (k : Int)) = xs.take k := by
  unfold cutD
  rw [HT.sIx_nat, HT.sIx_none]
  rw [List.drop_zero, Nat.sub_zero]
  by_cases h : k ≤ xs.length
  · rw [Nat.min_eq_left h]
  · rw [Nat.min_eq_right (by omega), List.take_of_length_le (Nat.le_refl _), List.take_of_length_le (by omega)]
end DL

set_option maxHeartbeats 2000000
namespace DL
open PySem PySem.Spec PyProof.Rows L2
variable [TabCtx]
/-! ### try .. except C as e, the exception a piece of data -/
theorem SlD.unset {O : Ow} {H : Hp} {σ : L2.St} {ds : Sl} (h : SlD O H σ ds) (i : Nat) : SlD O H (σ.set i none) (ds.set i none) :=
  ⟨by rw [List.length_set, List.length_set, h.len], fun j e he => by
    by_cases hj : i = j
    · subst hj
      by_cases hi : i < ds.length
      · rw [List.getElem?_set_self hi] at he
        cases he
      · rw [List.getElem?_eq_none (by rw [List.length_set]; omega)] at he
        cases he
    · rw [List.getElem?_set_ne hj] at he
      obtain ⟨u, a, b⟩ := h.val j e he
      exact ⟨u, by rw [List.getElem?_set_ne hj]; exact a, b⟩⟩
/-- what an own error class must have -/
structure Ex2 (K : PySem.W.Frag) (C M : Addr) : Prop where
  xf : XfC K C
  no : PySem.W.findIn K (.ref C) "told" = some none
  ex : ExcC K C
  em : PySem.W.exmOne K (.ref C) (.ref C) = some true
  ki : PySem.W.kitOne K (.ref C) (.ref M) = some true
def wTold (a : Addr) (cls : Value) (d : Option Addr) (C : Addr) (W : WE) : WE := fun ds P => W ds fun x => ∃ dd t, x = .exn a dd t ∧ cls = .ref C ∧ d = some dd ∧ P t
def fIsE (a : Addr) (cls : Value) (d : Option Addr) (C M : Addr) : DFn := fun es P => ∃ dd t, es = [.exn a dd t, .fn M] ∧ cls = .ref C ∧ d = some dd ∧ P (.bl true)
section
variable {X : Cx} {a C M : Addr} {oe : Obj} {cls : Value} {d : Option Addr} {pn : List (Addr × Obj)} {e : Expr} {W : WE} {pos : Pos}
theorem we_told (T : Ex2 X.K C M) (hz : Zc cls d oe) (hf : ∃ vs, oe.data = .fields vs) (he : PE (X.suite a ((a, oe) :: pn)) e (tW W)) (hb : attributeBase e "told" X.env (eval e X.env) = eval e X.env := by rfl) :
    PE (X.suite a ((a, oe) :: pn)) (.Attribute e "told" pos) (tW (wTold a cls d C W)) :=
  PE.weak (pe_xf T.xf T.no hz hf he hb) fun σ H Q ⟨O, ds, P, hS, hO, hW, k⟩ => ⟨O, ds, _, hS, hO, hW, fun x hx v H1 e1 q1 => by
    obtain ⟨dd, t, rfl, hc, hd, p⟩ := hx
    cases q1 with
    | exn x r q => exact ⟨rfl, hc, dd, _, _, hd, r, rfl, k _ p _ H1 e1 q⟩⟩
theorem call_isX (T : Ex2 X.K C M) (hz : Zc cls d oe) (hf : ∃ vs, oe.data = .fields vs) : CallR (X.suite a ((a, oe) :: pn)) (.builtin "isinstance") (rF (fIsE a cls d C M)) := by
  intro pins s σ H xs us Q I r ⟨O, es, P, hq, hO, ⟨dd, t, he, hc, hd, p⟩, k⟩
  subst he
  subst hc
  subst hd
  cases hq with
  | cons q1 qr =>
    cases qr with
    | cons q2 qr2 =>
      cases qr2
      cases q1 with
      | exn x1 r1 q =>
        cases q2
        cases r with
        | cons ra rb =>
          cases rb with
          | cons rc rd =>
            cases rd
            cases ra
            cases rc
            obtain ⟨at_, _⟩ := I.pin (a, oe) (List.mem_append.mpr (.inl List.mem_cons_self))
            obtain ⟨vs, hv⟩ := hf
            obtain ⟨mA, hns, _⟩ : ObjOk _ _ _ _ dd (.xd _) := I.hok dd _ r1
            obtain ⟨od, ho, _⟩ := lookIn_ns hns
            have J : PySem.W.InstAt s.heap a oe C (some od) := ⟨at_, hz.1, (by unfold PySem.W.notCls; rw [hv] <;> rfl), (by rw [hz.2]; exact ho)⟩
            obtain ⟨cd, hcd, _⟩ := PySem.W.any_some T.ex.hd
            exact PySem.W.kia_one (PySem.W.kitx_exc (by rw [hcd]; rfl) T.ex.hg T.ex.hk T.ex.hs T.ex.ha T.ex.hn T.ex.ht T.ex.hm) I.kIn J T.ki (fun z => nomatch z) fun tk => ⟨.bl true, H, I.kept (t' := tk) fun _ _ z => z, rfl, k _ p _ H (.refl _ _) (.bl true)⟩
end
/-! ### expressions that may raise -/
abbrev WZ := Sl → (D → Prop) → (Addr → D → Prop) → Prop
def tZW (W : WX) (B : WZ) : TE := fun σ H Q => ∃ (O : Ow) (ds : Sl) (P : D → Prop) (Z : Addr → D → Prop), SlD O H σ ds ∧ OwnAll O H ∧ B ds P Z ∧ (∀ d, P d → ∀ v H', Ext O H H' → Dq O H' v d → Q v H') ∧
  ∀ C t, Z C t → ∀ dx v H', Ext O H H' → Out O dx → H' dx = some (.xd [("told", v)]) → Dq O H' v t → W (.ref C) (some dx) σ H'
def wzCall (g : DSp) (A : WA) : WZ := fun ds P Z => A ds fun es => g es P Z
def wzCallL (i : Nat) (ok : Addr → Prop) (g : DSp) (A : WA) : WZ := fun ds P Z => ∃ f, ds[i]? = some (some (.fn f)) ∧ ok f ∧ A ds fun es => g es P Z
section
variable {X : Cx} {k i : Nat} {f : Addr} {fd : FuncData} {ps : List Str} {x : Str} {p pos : Pos} {e : Expr} {es : List Expr} {A : WA} {g : DSp} {W : WX} {ok : Addr → Prop} {CX : CXT} {sp : Sp} {E : L2.St → XK} {t : TA}
theorem zred {σ : L2.St} {H : Hp} {Q : VK} {O : Ow} {ds : Sl} {P : D → Prop} {Z : Addr → D → Prop} (hS : SlD O H σ ds) (hO : OwnAll O H) (hA : A ds fun es => g es P Z) (hP : ∀ d, P d → ∀ v H', Ext O H H' → Dq O H' v d → Q v H')
    (hZ : ∀ C t, Z C t → ∀ dx v H', Ext O H H' → Out O dx → H' dx = some (.xd [("told", v)]) → Dq O H' v t → W (.ref C) (some dx) σ H') : tAW A σ H fun vs H1 => spD g vs H1 Q (L2.WE W σ) :=
  ⟨O, ds, _, hS, hO, hA, fun es he vs H1 e1 q1 => ⟨O, es, P, Z, q1, hO.mono e1, he, fun d hd v H2 e2 q2 => hP d hd v H2 (e1.trans e2) q2, fun C t z dx v H2 e2 ox hx q2 => hZ C t z dx v H2 (e1.trans e2) ox hx q2⟩⟩
theorem we_zcall (F : FnOk X.prog X.w X.K X.mg X.base (L2.CX X.prog X.w) k f fd ps (spD g)) (hr : Room k X.A) (tk : Takes X W) (hg : Gl X x) (hm : X.mg x = some (.ref f)) (hk : PySem.W.keepIn X.K (.ref f) = true) (hb : Binds X.K fd ps [])
    (ha : PA X (e :: es) (tAW A)) (hdb : (x == ("__debug__" : Str)) = false := by decide) (he : starEach (e :: es) X.env = (false, eval e X.env) :: starEach es X.env := by rfl) (hpl : (backTo pos (starEach es X.env)).any (·.1) = false := by rfl) :
    PE X (.Call (.Name x p) (e :: es) [] pos) (tZW W (wzCall g A)) :=
  PE.weak (pe_callS F hr hg hm hk hb (fun σ => passAt tk σ) ha hdb he hpl) fun σ H Q ⟨O, ds, P, Z, hS, hO, hA, hP, hZ⟩ => zred hS hO hA hP hZ
def tCallLS (i : Nat) (ok : Addr → Prop) (sp : Sp) (E : L2.St → XK) (t : TA) : TE := fun σ H Q => ∃ f, σ[i]? = some (some (.ref f)) ∧ ok f ∧ t σ H fun vs H1 => sp vs H1 Q (E σ)
theorem pe_callLS (A : ∀ f, ok f → ∃ fd ps, FnOk X.prog X.w X.K X.mg X.base CX k f fd ps sp ∧ PySem.W.keepIn X.K (.ref f) = true ∧ Binds X.K fd ps []) (room : Room k X.A) (hN : X.N[i]? = some x) (hv : Vis X.env.scope x) (hx : ∀ σ, PassesAt CX X σ (E σ))
    (ha : PA X (e :: es) t) (hdb : (x == ("__debug__" : Str)) = false := by decide) (hcd : (x == ("__classdict__" : Str)) = false := by decide)
    (he : starEach (e :: es) X.env = (false, eval e X.env) :: starEach es X.env := by rfl) (hpl : (backTo pos (starEach es X.env)).any (·.1) = false := by rfl) : PE X (.Call (.Name x p) (e :: es) [] pos) (tCallLS i ok sp E t) := by
  refine ⟨fun pins s σ H Q inv ⟨f, hf, hok, ht⟩ => ?_⟩
  obtain ⟨fd, ps, F, keeps, binds⟩ := A f hok
  refine wpAny_Call_Name_kw (thn ((pe_var (pos := p) hN hv hdb hcd).run pins s σ H (fun v' H' => v' = .ref f ∧ H' = H) inv ⟨.ref f, hf, rfl, rfl⟩) fun u' s' ⟨v', H', inv', rv, rest⟩ => ?_)
  cases rest.1
  cases rest.2
  cases rv
  exact PySem.W.callWith_K (h₀ := X.base) inv.ok.mod.kin keeps (thn (ha.run pos pins s' σ _ _ inv' ht) fun us' s'' ⟨vs', H'', inv'', rvs, q''⟩ => ⟨inv''.kIn, run_fnS F room binds (hx σ) inv'' rvs q''⟩) he hpl
theorem we_zcallL (F : ∀ f, ok f → ∃ fd ps, FnOk X.prog X.w X.K X.mg X.base (L2.CX X.prog X.w) k f fd ps (spD g) ∧ PySem.W.keepIn X.K (.ref f) = true ∧ Binds X.K fd ps []) (hr : Room k X.A) (tk : Takes X W) (hN : X.N[i]? = some x) (hv : Vis X.env.scope x)
    (ha : PA X (e :: es) (tAW A)) (hdb : (x == ("__debug__" : Str)) = false := by decide) (hcd : (x == ("__classdict__" : Str)) = false := by decide)
    (he : starEach (e :: es) X.env = (false, eval e X.env) :: starEach es X.env := by rfl) (hpl : (backTo pos (starEach es X.env)).any (·.1) = false := by rfl) : PE X (.Call (.Name x p) (e :: es) [] pos) (tZW W (wzCallL i ok g A)) :=
  PE.weak (pe_callLS F hr hN hv (fun σ => passAt tk σ) ha hdb hcd he hpl) fun σ H Q ⟨O, ds, P, Z, hS, hO, ⟨f, hf, hok, hA⟩, hP, hZ⟩ => by
    obtain ⟨v, h1, h2⟩ := hS.val i _ hf
    cases h2
    exact ⟨f, h1, hok, zred hS hO hA hP hZ⟩
end
/-! ### try: a statement of one such expression -/
def gTryRet (i : Nat) (C : Addr) (GS : Addr → Value → Option Addr → WS) (B : WZ) : WS := fun ds N R _ => B ds R fun C' t => C' = C ∧ ∀ a dd, GS a (.ref C) (some dd) (ds.set i (some (.exn a dd t))) (fun ds' => N (ds'.set i none)) R fun _ _ => False
def gTryDrop (i : Nat) (C : Addr) (GS : Addr → Value → Option Addr → WS) (B : WZ) : WS := fun ds N R _ => B ds (fun _ => N ds) fun C' t => C' = C ∧ ∀ a dd, GS a (.ref C) (some dd) (ds.set i (some (.exn a dd t))) (fun ds' => N (ds'.set i none)) R fun _ _ => False
section
variable {X : Cx} {x n : Str} {C M : Addr} {i : Nat} {suite : List Stmt} {b₀ : Stmt} {np pos p1 pos' : Pos} {GS : Addr → Value → Option Addr → WS} {B : WZ} {ec : Expr} {E : XK}
theorem ws_tryRet (T : Ex2 X.K C M) (hs : X.stack = X.env :: X.outer) (hf : X.env.frame = some X.env.locals) (hN : X.N.Nodup) (hi : X.N[i]? = some n) (hln : X.env.kindOf n = some .local) (hc : Names X x (.ref C))
    (hb : ∀ (W : WX) (pn : List (Addr × Obj)) (xe : Value → Shared → Prop), Takes (X.tr pn xe) W → PE (X.tr pn xe) ec (tZW W B))
    (hsu : ∀ (a : Addr) (oe : Obj) (cls : Value) (d : Option Addr) (pn : List (Addr × Obj)), Zc cls d oe → (∃ vs, oe.data = .fields vs) → PSs (X.suite a ((a, oe) :: pn)) (b₀ :: suite) (tSW (fun _ _ _ => False) (GS a cls d))) :
    PS X (.Try [.Return (some ec) p1] [.ExceptHandler (some (.Name x np)) (some n) (b₀ :: suite) pos'] [] [] pos) (tSW E (gTryRet i C GS B)) :=
  PS.weak (ps_try_as (i := i) (tb := fun W => tRet (tZW W B)) (ts := fun a cls d => tSW (fun _ _ _ => False) (GS a cls d)) (Wout := fun _ _ _ _ => False) hs hf hN hi hln hc takes0 (fun W pn xe tk _ => pss_one (ps_ret (hb W pn xe tk))) hsu)
    fun D σ H ⟨O, ds, N, R, Z, hS, hO, hG, hNx, hR, hZ⟩ => ⟨O, ds, R, _, hS, hO, hG, hR, fun C' t z dx v H' e1 ox hx q1 => by
      obtain ⟨rfl, hz⟩ := z
      exact ⟨true, T.em, fun _ a _ => ⟨O, _, _, R, _, (hS.mono e1).set i (.exn ox hx q1), hO.mono e1, hz a dx, fun ds' hd σ' H2 e2 s2 => hNx _ hd _ H2 (e1.trans e2) (s2.unset i), fun d hd v H2 e2 q2 => hR d hd v H2 (e1.trans e2) q2, fun _ _ z => z.elim⟩, fun z => nomatch z⟩⟩
theorem ws_tryDrop (T : Ex2 X.K C M) (hs : X.stack = X.env :: X.outer) (hf : X.env.frame = some X.env.locals) (hN : X.N.Nodup) (hi : X.N[i]? = some n) (hln : X.env.kindOf n = some .local) (hc : Names X x (.ref C))
    (hb : ∀ (W : WX) (pn : List (Addr × Obj)) (xe : Value → Shared → Prop), Takes (X.tr pn xe) W → PE (X.tr pn xe) ec (tZW W B))
    (hsu : ∀ (a : Addr) (oe : Obj) (cls : Value) (d : Option Addr) (pn : List (Addr × Obj)), Zc cls d oe → (∃ vs, oe.data = .fields vs) → PSs (X.suite a ((a, oe) :: pn)) (b₀ :: suite) (tSW (fun _ _ _ => False) (GS a cls d)))
    (hw : swapsWith ec none p1.line X.env = pure false := by rfl) :
    PS X (.Try [.Expr ec p1] [.ExceptHandler (some (.Name x np)) (some n) (b₀ :: suite) pos'] [] [] pos) (tSW E (gTryDrop i C GS B)) :=
  PS.weak (ps_try_as (i := i) (tb := fun W => tDrop (tZW W B)) (ts := fun a cls d => tSW (fun _ _ _ => False) (GS a cls d)) (Wout := fun _ _ _ _ => False) hs hf hN hi hln hc takes0 (fun W pn xe tk _ => pss_one (ps_expr (hb W pn xe tk) hw)) hsu)
    fun D σ H ⟨O, ds, N, R, Z, hS, hO, hG, hNx, hR, hZ⟩ => ⟨O, ds, _, _, hS, hO, hG, fun d hd v H' e1 _ => hNx ds hd σ H' e1 (hS.mono e1), fun C' t z dx v H' e1 ox hx q1 => by
      obtain ⟨rfl, hz⟩ := z
      exact ⟨true, T.em, fun _ a _ => ⟨O, _, _, R, _, (hS.mono e1).set i (.exn ox hx q1), hO.mono e1, hz a dx, fun ds' hd σ' H2 e2 s2 => hNx _ hd _ H2 (e1.trans e2) (s2.unset i), fun d hd v H2 e2 q2 => hR d hd v H2 (e1.trans e2) q2, fun _ _ z => z.elim⟩, fun z => nomatch z⟩⟩
end
/-- a weaker promise -/
theorem FnOk.weak {P : Program} {w : World} {K : PySem.W.Frag} {mg : Str → Option Value} {base : Heap} {CX : CXT} {k : Nat} {f : Addr} {fd : FuncData} {ps : List Str} {sp sp' : Sp} (F : FnOk P w K mg base CX k f fd ps sp) (h : ∀ vs H Q E, sp' vs H Q E → sp vs H Q E) :
    FnOk P w K mg base CX k f fd ps sp' := ⟨fun vs H Q E z => F.len vs H Q E (h _ _ _ _ z), fun A outer s H ar us vs Q E hr ev hb hv z => F.run A outer s H ar us vs Q E hr ev hb hv (h _ _ _ _ z)⟩
theorem FnOk.up {P : Program} {w : World} {K : PySem.W.Frag} {mg : Str → Option Value} {base : Heap} {CX : CXT} {k k' : Nat} {f : Addr} {fd : FuncData} {ps : List Str} {sp : Sp} (F : FnOk P w K mg base CX k f fd ps sp) (h : k ≤ k') :
    FnOk P w K mg base CX k' f fd ps sp := ⟨F.len, fun A outer s H ar us vs Q E hr ev hb hv z => F.run A outer s H ar us vs Q E (hr.mono h) ev hb hv z⟩
theorem boot_isinstanceB : bootBuiltins "isinstance" = some (.builtin "isinstance") := by decide +kernel
end DL

set_option maxHeartbeats 2000000
namespace DL
open PySem PySem.Spec PyProof.Rows L2
variable [TabCtx]
/-! ### a fresh list that a loop writes to: held by its address, its slot a mere token the while -/
theorem OwnAll.put {O : Ow} {H : Hp} {p : Addr} {o o' : HO} (h : OwnAll (O ++ [(p, .hold o)]) H) (op : Out O p) (n : ∀ φ, o ≠ .ext φ := by intro φ z; cases z) (n2 : NT o' := by intro ps z; cases z) : OwnAll (O ++ [(p, .hold o')]) (upd H p o') :=
  OwnAll.hold (O := O) ⟨fun q hq => by
    obtain ⟨u, hu, k⟩ := h.less.here q hq
    obtain ⟨u2, hu2, k2⟩ := h.here (p, .hold o) (by simp)
    have k2' : u2 = o := k2
    rw [k2'] at hu2
    exact ⟨u, by rw [upd_ne (fun e => op q hq e.symm)]; exact hu, k.upd (noCode_of hu2 n)⟩, h.less.uq, h.less.tabs⟩ op upd_same n2
theorem SlD.rehold {O : Ow} {H : Hp} {σ : L2.St} {ds : Sl} {p : Addr} {o o' : HO} (h : SlD (O ++ [(p, .hold o)]) H σ ds) : SlD (O ++ [(p, .hold o')]) H σ ds :=
  ⟨h.len, fun i d hd => by
    obtain ⟨v, a, b⟩ := h.val i d hd
    exact ⟨v, a, b.rehold⟩⟩
theorem SlD.less {O : Ow} {H : Hp} {σ : L2.St} {ds : Sl} {p : Addr} {o : HO} (h : SlD (O ++ [(p, .hold o)]) H σ ds) : SlD O H σ ds :=
  ⟨h.len, fun i d hd => by
    obtain ⟨v, a, b⟩ := h.val i d hd
    exact ⟨v, a, b.less⟩⟩
theorem SlD.put {O : Ow} {H : Hp} {σ : L2.St} {ds : Sl} {i : Nat} {v : V} {d : D} (h : SlD O H σ ds) (hv : σ[i]? = some (some v)) (q : Dq O H v d) : SlD O H σ (ds.set i (some d)) :=
  ⟨by rw [List.length_set, h.len], fun j e he => by
    by_cases hj : i = j
    · subst hj
      by_cases hi : i < ds.length
      · rw [List.getElem?_set_self hi] at he
        cases he
        exact ⟨v, hv, q⟩
      · rw [List.getElem?_eq_none (by rw [List.length_set]; omega)] at he
        cases he
    · rw [List.getElem?_set_ne hj] at he
      exact h.val j e he⟩
theorem DqAll.set {O : Ow} {H : Hp} {v : V} {d : D} (q : Dq O H v d) : ∀ {vs : List V} {ds : List D} (k : Nat), DqAll O H vs ds → DqAll O H (vs.set k v) (ds.set k d)
  | _, _, _, .nil => .nil
  | _, _, 0, .cons _ b => .cons q b
  | _, _, k + 1, .cons a b => .cons a (b.set q k)
theorem Out.hold_ne {O : Ow} {p b : Addr} {o : HO} (h : Out (O ++ [(p, .hold o)]) b) : b ≠ p := h (p, .hold o) (by simp)
theorem Out.hold_out {O : Ow} {p b : Addr} {o : HO} (h : Out (O ++ [(p, .hold o)]) b) : Out O b := fun q hq => h q (List.mem_append_left _ hq)
structure Hd (O : Ow) (p : Addr) (vs : List V) (H : Hp) (σ : L2.St) (ds : Sl) (dv : List D) : Prop where
  sl : SlD (O ++ [(p, .hold (.lst vs))]) H σ ds
  al : DqAll (O ++ [(p, .hold (.lst vs))]) H vs dv
  ow : OwnAll (O ++ [(p, .hold (.lst vs))]) H
theorem Hd.mono {O : Ow} {p : Addr} {vs : List V} {H H' : Hp} {σ : L2.St} {ds : Sl} {dv : List D} (h : Hd O p vs H σ ds dv) (e : Ext (O ++ [(p, .hold (.lst vs))]) H H') : Hd O p vs H' σ ds dv := ⟨h.sl.mono e, h.al.mono e, h.ow.mono e⟩
theorem Hd.at {O : Ow} {p : Addr} {vs : List V} {H : Hp} {σ : L2.St} {ds : Sl} {dv : List D} (h : Hd O p vs H σ ds dv) : H p = some (.lst vs) := by
  obtain ⟨u, h1, h2⟩ := h.ow.here (p, .hold (.lst vs)) (by simp)
  have h2' : u = .lst vs := h2
  rw [← h2']
  exact h1
theorem Hd.store {O : Ow} {p : Addr} {vs : List V} {H : Hp} {σ : L2.St} {ds : Sl} {dv : List D} (h : Hd O p vs H σ ds dv) (op : Out O p) {v : V} {d : D} (k : Nat) (q : Dq (O ++ [(p, .hold (.lst vs))]) H v d) :
    Hd O p (vs.set k v) (upd H p (.lst (vs.set k v))) σ ds (dv.set k d) := by
  have kp : ∀ b o, Out (O ++ [(p, Own.hold (.lst vs))]) b → H b = some o → NT o → upd H p (.lst (vs.set k v)) b = some o := fun b o hb hh _ => by
    rw [upd_ne hb.hold_ne]
    exact hh
  exact ⟨(h.sl.keep kp).rehold, ((h.al.keep kp).set (q.keep kp) k).rehold, h.ow.put op⟩
def gCL (i j : Nat) (Wa Wb : WE) (Wi : WI) (T : WT) (We : WE) : WS := fun ds N _ _ => Wa ds fun x => ∃ xs, x = .lst xs ∧ Wb ds fun y => ∃ ys, y = .lst ys ∧ xs.length + ys.length ≤ sizeLine ∧ ∀ p, Wi (ds.set i (some (.fn p))) fun items =>
  ∃ I : Nat → Sl → List D → Prop, I 0 (ds.set i (some (.fn p))) (xs ++ ys) ∧
    (∀ m x ds' dv, items[m]? = some x → I m ds' dv → (ds'.set j (some x))[i]? = some (some (.fn p)) ∧ T (ds'.set j (some x)) fun b => if b = true then We (ds'.set j (some x)) fun d => ∃ k : Nat, (ds'.set j (some x))[j]? = some (some (.int k)) ∧ k < dv.length ∧ I (m + 1) (ds'.set j (some x)) (dv.set k d) else I (m + 1) (ds'.set j (some x)) dv) ∧
    ∀ ds' dv, I items.length ds' dv → ds'[i]? = some (some (.fn p)) ∧ N (ds'.set i (some (.lst dv)))
section
variable {X : Cx} {i j : Nat} {Wa Wb We : WE} {Wi : WI} {T : WT} {a b c e iter tg : Expr} {xi xj : Str} {p0 p1 p2 p3 pb ps pa pif pf : Pos} {rest : List Stmt} {E : XK} {G2 : WS}
theorem wss_catLoop (hN : X.N.Nodup) (hi : X.N[i]? = some xi) (hx : Loc X.env.scope xi) (ha : PE X a (tW Wa)) (hb : PE X b (tW Wb)) (hp : PassesOwn (model X.prog X.w) X.A X.env X.xe) (hc : X.calm = true) (hit : PI X tg iter (tIW Wi)) (hg : PG X tg (gName j)) (ht : PT X c (tTW T)) (he : PE X e (tW We))
    (hxi : PE X (.Name xi p1) (tVar i)) (hxj : PE X (.Name xj p2) (tVar j)) (h2 : PSs X rest (tSW E G2))
    (hs : swapsWith (.BinOp a .Add b pb) (some (.Name xi p0)) ps.line X.env = pure false := by rfl) (hf : X.fn xi = true ∨ X.env.scope.names.lookup xi = some .local := by first | exact .inl rfl | exact .inr rfl)
    (hs2 : swapsWithSole [.Subscript (.Name xi p1) (.Name xj p2) p3] e pa.line X.env = pure false := by rfl) (hw : swappedStores [.Subscript (.Name xi p1) (.Name xj p2) p3] e X.env = pure none := by rfl)
    (hs3 : ∀ x, foldedSetIterable iter X.env x = pure x := by intro _; rfl) :
    PSs X (.Assign [.Name xi p0] (.BinOp a .Add b pb) ps :: .For tg iter [.If c [.Assign [.Subscript (.Name xi p1) (.Name xj p2) p3] e pa] [] pif] [] pf :: rest) (tSW E (gSeq (gCL i j Wa Wb Wi T We) G2)) :=
  PSs.weak (pss_cons (ps_set hN hi hx (pe_op op_cat ha hb) hs hf) (pss_cons (ps_for hp hc hit hg (pss_one (ps_if ht (pss_one (ps_asg he (pg_sub hxi hxj set_list) hs2 hw)) pss_nil)) hs3) h2)) fun D σ H ⟨O, ds, N, R, Z, hS, hO, hG, hNx, hR, hZ⟩ =>
    ⟨O, ds, _, hS, hO, hG, fun dx hdx vx H1 e1 q1 => by
      obtain ⟨xs, rfl, hw2⟩ := hdx
      refine ⟨O, ds, _, hS.mono e1, hO.mono e1, hw2, fun dy hdy vy H2 e2 q2 => ?_⟩
      obtain ⟨ys, rfl, hsz, hG3⟩ := hdy
      cases q1 with
      | lst o1 r1 a1 =>
        cases q2 with
        | lst o2 r2 a2 =>
          rename_i l1 us1 l2 us2
          refine ⟨_, _, _, _, rfl, rfl, e2.keep _ _ o1 r1 (by intro ps z; cases z), r2, by rw [a1.length, a2.length]; exact hsz, fun p hpn => ?_⟩
          have e12 := e1.trans e2
          have O2 := hO.mono e12
          have op : Out O p := O2.out hpn
          let vs0 := us1 ++ us2
          let H3 := upd H2 p (.lst vs0)
          have kp : ∀ b o, Out (O ++ [(p, Own.hold (.lst vs0))]) b → H2 b = some o → NT o → H3 b = some o := fun b o hb hh _ => by
            show upd H2 p (.lst vs0) b = some o
            rw [upd_ne hb.hold_ne]
            exact hh
          have D0 : Hd O p vs0 H3 (σ.set i (some (.ref p))) (ds.set i (some (.fn p))) (xs ++ ys) :=
            ⟨(((hS.mono e12).more (fresh_none hpn)).keep kp).set i (.fn p), (((a1.mono e2).append a2).more (fresh_none hpn)).keep kp, OwnAll.hold (O := O) ⟨fun q hq => by
              obtain ⟨u, hu, k⟩ := O2.here q hq
              exact ⟨u, by show upd H2 p (.lst vs0) q.1 = some u; rw [upd_ne (fun e => op q hq e.symm)]; exact hu, k.upd (noCode_none hpn)⟩, O2.uq, O2.tabs⟩ op upd_same⟩
          have E0 : Ext O H2 H3 := .new hpn
          show tIW Wi _ H3 _
          refine ⟨_, _, _, D0.sl, D0.ow, hG3 p, fun items hI J H4 e4 hwalk => ?_⟩
          obtain ⟨I, h0, h1, h3⟩ := hI
          obtain ⟨Gd, w, hGd⟩ := hwalk
          have D1 := D0.mono e4
          have E1 : Ext O H2 H4 := e4.drop E0 hpn
          refine for_it w (fun m σ' H' => ∃ ds' dv vs, I m ds' dv ∧ Hd O p vs H' σ' ds' dv ∧ Ext O H2 H' ∧ ∀ b o, Out (O ++ [(p, Own.hold (.lst vs0))]) b → H4 b = some o → NT o → H' b = some o) ⟨_, _, vs0, h0, D1, E1, fun _ _ _ h _ => h⟩ (fun m σ' H' _ ⟨_, _, _, _, _, _, k⟩ => hGd H' k) ?_ ?_
          · rintro m x σ' H' H'' hm ⟨ds', dv, vs, hI, hd, E2, kk⟩ ⟨rfl, d, hxd, qd⟩
            obtain ⟨hsl, hT⟩ := h1 m d ds' dv hxd hI
            have hd2 : Hd O p vs H'' (σ'.set j (some x)) (ds'.set j (some d)) dv := ⟨hd.sl.set j ((qd.keep kk).rehold), hd.al, hd.ow⟩
            refine ⟨_, _, _, hd2.sl, hd2.ow, hT, fun bb hbb H5 e5 => ?_⟩
            have hd3 := hd2.mono e5
            have E3 : Ext O H2 H5 := e5.drop E2 hpn
            have k3 : ∀ b o, Out (O ++ [(p, Own.hold (.lst vs0))]) b → H4 b = some o → NT o → H5 b = some o := fun b o hb hh n => e5.keep b o (out_rehold hb) (kk b o hb hh n) n
            cases bb with
            | false =>
              rw [if_neg Bool.false_ne_true] at hbb
              show tNext _ _ _
              exact ⟨_, dv, vs, hbb, hd3, E3, k3⟩
            | true =>
              rw [if_pos rfl] at hbb
              show tAsg (tW We) (gSub (tVar i) (tVar j) rSetL) _ _ _
              refine ⟨_, _, _, hd3.sl, hd3.ow, hbb, fun dd hdd v H6 e6 q6 => ?_⟩
              obtain ⟨k, hk, hkl, hI2⟩ := hdd
              have hd4 := hd3.mono e6
              have E4 : Ext O H2 H6 := e6.drop E3 hpn
              obtain ⟨vi, hvi, qi⟩ := hd4.sl.val i _ hsl
              cases qi
              obtain ⟨vj, hvj, qj⟩ := hd4.sl.val j _ hk
              cases qj
              refine ⟨_, hvi, _, hvj, p, vs, k, k, rfl, rfl, hd4.at, Evl.ixN_nat (by rw [hd4.al.length]; exact hkl), ?_⟩
              refine ⟨_, _, vs.set k v, hI2, hd4.store op k q6, ⟨fun b o hb hh n => ?_, fun q hq hh => ?_⟩, fun b o hb hh n => ?_⟩
              · rw [upd_ne (ne_of_none hh hpn)]
                exact E4.keep b o hb hh n
              · obtain ⟨u, hu, ku⟩ := E4.own q hq hh
                exact ⟨u, by rw [upd_ne (fun e => op q hq e.symm)]; exact hu, ku.upd (noCode_of hd4.at)⟩
              · rw [upd_ne hb.hold_ne]
                exact e6.keep b o (out_rehold hb) (k3 b o hb hh n) n
          · rintro σ' H' ⟨ds', dv, vs, hI, hd, E2, _⟩
            obtain ⟨hsl, hNN⟩ := h3 ds' dv hI
            obtain ⟨vi, hvi, qi⟩ := hd.sl.val i _ hsl
            cases qi
            have eAll := e12.trans E2
            exact ⟨O, _, N, R, Z, (hd.sl.less).put hvi (.lst op hd.at hd.al.less), hd.ow.less, hNN, fun ds2 hd2 σ2 H5 e5 s5 => hNx ds2 hd2 σ2 H5 (eAll.trans e5) s5, fun d hd2 v H5 e5 q5 => hR d hd2 v H5 (eAll.trans e5) q5, fun C d hd2 dx v H5 e5 ox => hZ C d hd2 dx v H5 (eAll.trans e5) ox⟩⟩
end
/-- xs.index(y), bools -/
def wIndex (W Wy : WE) : WE := fun ds P => W ds fun d => ∃ es bs, d = .lst es ∧ boolsOf es = some bs ∧ Wy ds fun y => ∃ c, ∃ k : Nat, y = .bl c ∧ bs[k]? = some c ∧ (∀ m, m < k → bs[m]? ≠ some c) ∧ P (.int (k : Int))
section
variable {X : Cx} {e o : Expr} {W Wy : WE} {pos pa : Pos}
theorem we_index (ho : PE X o (tW W)) (ha : PE X e (tW Wy)) (hbase : attributeBase o "index" X.env (eval o X.env) = eval o X.env := by rfl)
    (hfew : ((backTo pos (starEach [e] X.env)).all (fun x => !x.1) && (backToKw pos (keywordEach [] X.env)).all (fun x => x.1.isSome)
      && decide (([e] : List Expr).length + ([] : List Keyword).length + (if ([] : List Keyword).isEmpty then 0 else 1) < 30)) = true := by rfl)
    (hline : (pa.endLine == pos.line) = true := by rfl) (hs : starEach [e] X.env = (false, eval e X.env) :: starEach [] X.env := by rfl) (hpl : (backTo pos (starEach [] X.env)).any (·.1) = false := by rfl) :
    PE X (.Call (.Attribute o "index" pa) [e] [] pos) (tW (wIndex W Wy)) :=
  PE.weak (pe_bm PySem.F.plainAttrs_list PySem.F.slot_list_index PySem.F.type_list_index mt_index ho (pa_cons ha pa_nil hs) hbase hfew hline hs hpl) fun σ H Q ⟨O, ds, P, hS, hO, hW, k⟩ =>
    ⟨O, ds, _, hS, hO, hW, fun d hd v H1 e1 q1 => by
      obtain ⟨es, bs, rfl, hb, hy⟩ := hd
      cases q1 with
      | lst o1 r1 a1 =>
        have ev := boolsOf_vs hb a1
        subst ev
        refine ⟨.inl ⟨rfl, _, .inl (.of r1)⟩, O, ds, _, hS.mono e1, hO.mono e1, hy, fun dy hdy vy H2 e2 q2 => ?_⟩
        obtain ⟨c, n, rfl, h1, h2, hp⟩ := hdy
        cases q2
        refine ⟨_, _, _, n, .bl c, rfl, rfl, .inl (.of (e2.keep _ _ o1 r1 (by intro ps z; cases z))), rfl, ?_, ?_, ?_, ?_, k _ hp _ _ (e1.trans e2) (.int _)⟩
        · exact List.all_eq_true.mpr fun x hx => by
            obtain ⟨b, _, rfl⟩ := List.mem_map.mp hx
            rfl
        · rw [List.getElem?_map, h1]
          rfl
        · exact beq_self_eq_true c
        · intro m z hm hz
          rw [List.getElem?_map] at hz
          cases hbm : bs[m]? with
          | none => rw [hbm] at hz; cases hz
          | some b =>
            rw [hbm] at hz
            cases hz
            show (b == c) = false
            exact beq_eq_false_iff_ne.mpr fun e => h2 m hm (by rw [hbm, e])⟩
end
end DL

set_option maxHeartbeats 2000000
namespace DL
open PySem PySem.Spec PyProof.Rows L2
variable [TabCtx]
/-! ### the script: a list of numbers that nothing writes to -/
def fLenQ (K : PySem.W.Frag) : DFn := fun es P => ∃ ns, es = [.sq K ns] ∧ P (.int (ns.length : Int))
def dIxQ (K : PySem.W.Frag) : DOp := fun x y P => ∃ ns i, x = .sq K ns ∧ y = .int i ∧ ∃ n, L2.atI ns i = some n ∧ P (.int n)
theorem sq_read {O : Ow} {H : Hp} {K : PySem.W.Frag} {a : Addr} {ns : List Int} (h : (Out O a ∧ Rd H a (.lst (ns.map V.int))) ∨ KL K a (ns.map V.int)) : SqL K H a (ns.map V.int) := by
  rcases h with ⟨_, h⟩ | h
  · exact .inl h
  · exact h.sq H
section
variable {X : Cx} {a b : Expr} {Wa Wb : WE} {pos : Pos}
theorem call_fLenQ : CallR X (.builtin "len") (rF (fLenQ X.K)) := by
  intro pins s σ H xs us Q I r ⟨O, es, P, hq, hO, ⟨ns, he, hp⟩, k⟩
  subst he
  cases hq with
  | cons q1 q2 =>
    cases q2
    cases q1 with
    | sq h => exact call_len_seq pins s σ H _ us Q I r ⟨_, _, rfl, .inl (sq_read h), k _ (by rw [List.length_map]; exact hp) _ H (.refl _ _) (.int _)⟩
theorem atI_map {α β : Type} (f : α → β) {xs : List α} {i : Int} {x : α} (h : L2.atI xs i = some x) : L2.atI (xs.map f) i = some (f x) := by
  unfold L2.atI at h ⊢
  rw [List.length_map]
  cases e : ixN xs.length i with
  | none => rw [e] at h; simp at h
  | some n =>
    rw [e] at h
    simp only [Option.bind_some] at h ⊢
    rw [List.getElem?_map, h]
    rfl
theorem ix_q : IxR X (rD (dIxQ X.K)) := by
  intro value slice pins s σ H x y v u Q I rx ry ⟨O, dx, dy, P, qx, qy, hO, ⟨ns, i, ex, ey, n, hn, hp⟩, k⟩ hs
  subst ex
  subst ey
  cases qx with
  | sq h =>
    cases qy
    exact ix_list value slice pins s σ H _ _ v u Q I rx ry ⟨_, _, _, _, rfl, rfl, sq_read h, atI_map V.int hn, k _ hp _ H (.refl _ _) (.int _)⟩ hs
theorem we_ixQ (ha : PE X a (tW Wa)) (hb : PE X b (tW Wb)) (hs : PlainIx b := by exact fun _ _ => rfl) : PE X (.Subscript a b pos) (tW (wOp (dIxQ X.K) Wa Wb)) := PE.weak (pe_ix ix_q ha hb hs) fun _ _ _ h => op_red h
/-- X != e, X a tuple of texts of the module's top -/
def wNeK (zs : List Str) (W : WE) : WE := fun ds P => W ds fun d => okEq d ∧ SeqAt.shaped (.tuple (zs.map PyData.str)) = true ∧ P (.bl (!PyData.eqv (.tuple (zs.map PyData.str)) d.py))
theorem dp_strs {K : PySem.W.Frag} {H : Hp} : ∀ zs : List Str, DpAll K H (zs.map V.str) (zs.map PyData.str)
  | [] => .nil
  | z :: zs => .cons (.str z) (dp_strs zs)
theorem wt_neK {zs : List Str} {x : Str} {p2 : Pos} (hu : X.A.units + 64 < cLine) (hg : Gl X x) (hk : KTexts X.K X.mg x zs) (hb : PE X b (tW Wb)) (hm : behindInMarks .NotEq b = false) (hd : (x == ("__debug__" : Str)) = false := by decide) :
    PT X (.Compare (.Name x p2) [.NotEq] [b] pos) (tTW (wTest (wNeK zs Wb))) := by
  obtain ⟨q, hmg, o, its, n, h1, h2, h3, h4, h5⟩ := hk
  exact PT.weak (pt_cmpR (op_neD hu) (pe_glob (v := .ref q) hg hmg rfl hd) hb hm) fun σ H Q h => by
    obtain ⟨O, ds, P, hS, hO, hW, k⟩ := h
    refine ⟨O, ds, _, hS, hO, hW, fun d hdd v H1 e1 q1 => ?_⟩
    obtain ⟨ok, sh, c, hc, hp⟩ := hdd
    cases hc
    exact ⟨_, _, .tup (.inr ⟨o, its, n, h1, h2, h3, h4, h5⟩) (dp_strs zs), q1.dp ok.1, sh, ok.2, _, rfl, k _ hp H1 e1⟩
end
end DL

set_option maxHeartbeats 4000000
namespace DL
open PySem PySem.Spec PyProof.Rows L2
variable [TabCtx]
/-! ### the end, for a law whose defs ask that nothing is being written -/
theorem headG {P : Program} {w : World} {K : PySem.W.Frag} {mg mb : Str → Option Value} {n : Nat} {fl a : Addr} {fd : FuncData} {nm : Str} {sp : Sp} {t : Shared} {us : List Value} {ks : List Int}
    (inK : K.In t.heap) (top : t.heap.Ns mainGlobals mg) (blt : t.heap.Ns builtinsNs mb) (boot : ∀ y : Str, y ≠ "__name__" → mb y = bootBuiltins y) (free : t.heap.NoLimit) (none_ : t.gens = #[])
    (obj : t.heap.get? a = some { cls := .type "list", data := .seq us.toArray }) (are : IntsAre us ks) (few : ks.length ≤ sizeLine) (room : Room n callerA)
    (G : ∀ base : Heap, K.In base → base.Ns mainGlobals mg → FnG P w K mg base CX0 n fl fd [nm] sp) (bind : ∀ (s : Shared) (u : Value), BindsTo s fd ⟨[u], []⟩ [(nm, u)])
    (told : ∀ H : Hp, Only H → SqL K H a (ks.map V.int) → sp [.ref a] H (fun v _ => v = .bl true) fun _ _ _ => False) :
    codeAny (model P w) callerA (.call (.ref fl) ⟨[.ref a], []⟩) (fun z s' => z = .ok (.ret (.bool true)) ∧ OldK t.heap s'.heap ∧ s'.os = t.os ∧ AllBare s'.gens) t := by
  have len := are.length
  have vals := vals_ints are
  have main : ∀ H : Hp, Only H → SqL K H a (ks.map V.int) → HOk P w H t.heap → (∀ c, H c ≠ none → c = a) → (H a ≠ none → K.lookup a = none) →
      codeAny (model P w) callerA (.call (.ref fl) ⟨[.ref a], []⟩) (fun z s' => z = .ok (.ret (.bool true)) ∧ OldK t.heap s'.heap ∧ s'.os = t.os ∧ AllBare s'.gens) t := by
    intro H only seq ho onlyA notK
    have isA : ∀ {c : Addr} {u : HO}, H c = some u → c = a := fun {c u} z => onlyA c (by rw [z]; exact Option.some_ne_none u)
    have under : ∀ {c : Addr} {o : Obj}, t.heap.get? c = some o → H c = none → (hidT t.heap H).get? c = some o := fun z m => hidT_get z m
    have dictFree : ∀ {c : Addr} {o : Obj} {ents : Array DictEntry} {ep : Nat}, t.heap.get? c = some o → o.data = .dict ents ep → H c = none := by
      intro c o ents ep z d
      match q : H c with
      | none => rfl
      | some u =>
        have ec := isA q
        rw [ec, obj] at z
        cases z
        exact absurd (show Data.seq us.toArray _ = Data.dict ents ep from d) (fun y => by cases y)
    have nsUnder : ∀ {c : Addr} {m : Str → Option Value}, t.heap.Ns c m → (hidT t.heap H).Ns c m := by
      rintro c m ⟨o, ents, ep, z, d, r⟩
      exact ⟨o, ents, ep, under z (dictFree z d), d, r⟩
    have inUnder : K.In (hidT t.heap H) := by
      intro c o z
      refine under (inK c o z) ?_
      match q : H c with
      | none => rfl
      | some u =>
        have ec := isA q
        rw [ec] at z q
        have nk := notK (by rw [q]; exact Option.some_ne_none u)
        rw [z] at nk
        cases nk
    obtain ⟨mc, lim1, lim2⟩ := free
    have modU : Mod K mg (hidT t.heap H) := ⟨inUnder, nsUnder top, ⟨mb, nsUnder blt, boot⟩, ⟨mc, nsUnder lim1, lim2⟩⟩
    have env0 : Env0 P w K mg (hidT t.heap H) callerA [] t H := ⟨rfl, modU, fun c o z => of_hidT z, Nat.le_of_eq (hidT_size _ _), trivial, fun c hc => (List.not_mem_nil hc).elim, ho, .of_eq none_⟩
    refine codeAny_mono ((G _ inUnder (nsUnder top)).go callerA [] t H ⟨[.ref a], []⟩ [.ref a] [.ref a] _ _ rfl room env0 (bind t (.ref a)) (.cons rfl .nil) (told H only seq)) fun z s' h => ?_
    match z, h with
    | .error e, h => exact False.elim h
    | .ok .next, h => exact False.elim h
    | .ok .brk, h => exact False.elim h
    | .ok .cont, h => exact False.elim h
    | .ok (.ret u), h =>
      obtain ⟨v, H', os', bare', un', ho', rel, ev⟩ := h
      have ev' : v = .bl true := ev
      subst ev'
      obtain rfl : u = Value.bool true := rel
      refine ⟨rfl, OldK.of_keep fun c o z => ?_, os', bare'⟩
      match q : H c with
      | none => exact un'.keep c o z q (fun y => List.not_mem_nil (show c ∈ ([] : List Addr) from y)) List.not_mem_nil
      | some u =>
        rcases only c with y | ⟨ob, ys, y⟩
        · rw [q] at y
          cases y
        · obtain ⟨z1, _⟩ := ho c _ y
          obtain ⟨z2, _⟩ := ho' c _ (un'.frzs c ob _ y)
          rw [z] at z1
          cases z1
          exact z2
  match kl : K.lookup a with
  | some o =>
    have z := inK a o kl
    rw [obj] at z
    cases z
    exact main (fun _ => none) (fun _ => .inl rfl) (.inr ⟨_, us.toArray, _, kl, rfl, rfl, rfl, by rw [List.size_toArray, len]; exact few, by simpa using vals⟩) (fun c u y => nomatch (show (none : Option HO) = some u from y)) (fun c y => absurd rfl y) fun y => absurd rfl y
  | none =>
    let H : Hp := fun c => if c = a then some (.frz { cls := .type "list", data := .seq us.toArray } (.lst (ks.map V.int))) else none
    have atA : H a = some (.frz { cls := .type "list", data := .seq us.toArray } (.lst (ks.map V.int))) := if_pos rfl
    have off : ∀ {c : Addr}, c ≠ a → H c = none := fun hc => if_neg hc
    refine main H (fun c => ?_) (.inl (.inr ⟨_, atA⟩)) (fun c u y => ?_) (fun c y => ?_) fun _ => kl
    · by_cases hc : c = a
      · rw [hc]
        exact .inr ⟨_, _, atA⟩
      · exact .inl (off hc)
    · by_cases hc : c = a
      · subst hc
        rw [atA] at y
        cases y
        exact ⟨obj, by rw [List.length_map]; exact few, us, _, vals, obj⟩
      · rw [off hc] at y
        cases y
    · by_cases hc : c = a
      · exact hc
      · exact absurd (off hc) y
theorem walkG {l : PySem.W.OpenLaw} {most n : Nat} {q : Program} {loose : List Str} {XP : (Str → Option Value) → Heap → Prop} {YP : World → Heap → Prop} {d : DefRec} {K : Params → PySem.W.Frag} {sp : World → Sp} {nm : Str}
    (hm : l.most = some most) (hs : most ≤ sizeLine) (nodef : d.params.defaults = []) (room : Room n callerA) (parts : ∀ (w : World) (h : Heap), YP w h → (K w.params).In h)
    (F : ∀ (w : World) (mg : Str → Option Value) (fl : Addr) (h : Heap), (K w.params).In h → h.Ns mainGlobals mg → mg d.name = some (.ref fl) →
      ∃ fd : FuncData, (∀ (s : Shared) (u : Value), BindsTo s fd ⟨[u], []⟩ [(nm, u)]) ∧ ∀ base : Heap, (K w.params).In base → base.Ns mainGlobals mg → FnG l.prog w (K w.params) mg base CX0 n fl fd [nm] (sp w))
    (told : ∀ (w : World) (H : Hp) (a : Addr) (ks : List Int), ks.length ≤ most → Only H → SqL (K w.params) H a (ks.map V.int) → sp w [.ref a] H (fun v _ => v = .bl true) fun _ _ _ => False) :
    PySem.W.WalkO q loose XP YP l.row.toRowW d [] (fun f vs => PySem.call f vs) := by
  refine Att.attach_call hm nodef fun w s₀ t mg mb fl o pm cd doc a us ks Gr Y _ _ _ hmg obj are len gens => ?_
  have inK := parts w _ Y
  obtain ⟨fd, bind, hG⟩ := F w mg fl _ inK Gr.T.g hmg
  exact headG inK Gr.T.g Gr.T.b Gr.T.builtins Gr.T.nolimit gens obj are (Nat.le_trans len hs) room hG bind fun H only seq => told w H a ks len only seq
end DL

set_option maxHeartbeats 4000000
namespace DL
open PySem PySem.Spec PyProof.Rows L2
variable [TabCtx]
/-! ### what the top has written, out of its written part -/
structure DnF (K : PySem.W.Frag) (x : Str) (st : Stmt) : Prop where
  ex : ∃ (f : Addr) (oc : Value) (od : Option Addr) (kV dc pm : Value) (an : Option Addr) (cd ct : Value) (sl : Array (Option Value)), PySem.W.nsIn K mainGlobals x = some (some (.ref f)) ∧
    K.lookup f = some ⟨oc, od, .func (PySem.W.fnOf x x (defArgs st) (defBody st) (defScope st) .none kV dc pm an cd ct), sl⟩ ∧ PySem.W.codeIn K cd x = true ∧ PySem.W.keepIn K (.ref f) = true
theorem dnF {K : PySem.W.Frag} {x : Str} {st : Stmt} {f : Addr} {oc : Value} {od : Option Addr} {kV dc pm : Value} {an : Option Addr} {cd ct : Value} {sl : Array (Option Value)} (a : PySem.W.nsIn K mainGlobals x = some (some (.ref f)))
    (l : K.lookup f = some ⟨oc, od, .func (PySem.W.fnOf x x (defArgs st) (defBody st) (defScope st) .none kV dc pm an cd ct), sl⟩) (c : PySem.W.codeIn K cd x = true) (k : PySem.W.keepIn K (.ref f) = true) : DnF K x st := ⟨_, _, _, _, _, _, _, _, _, _, a, l, c, k⟩
theorem DnF.dn {K : PySem.W.Frag} {mg : Str → Option Value} {h : Heap} {x : Str} {st : Stmt} {ps : List Str} (F : DnF K x st) (X : K.In h) (G : h.Ns mainGlobals mg)
    (b : ∀ (kV dc pm : Value) (an : Option Addr) (cd ct : Value) (us : List Value), us.length = ps.length → bindArgs (PySem.W.fnOf x x (defArgs st) (defBody st) (defScope st) .none kV dc pm an cd ct) ⟨us, []⟩ = pure (ps.zip us)) : Nonempty (Dn K mg x st ps) := by
  obtain ⟨f, oc, od, kV, dc, pm, an, cd, ct, sl, a, l, c, k⟩ := F.ex
  exact ⟨⟨f, _, fun_mk l c k, (fun_mk l c k).binds b, PySem.W.mg_of X G a⟩⟩
structure ExF (K : PySem.W.Frag) (x q : Str) (st : Stmt) (M : Addr) : Prop where
  ex : ∀ (mg : Str → Option Value) (h : Heap), K.In h → h.Ns mainGlobals mg → (∀ (kV dc pm : Value) (an : Option Addr) (cd ct : Value) (us : List Value), us.length = 2 → bindArgs (PySem.W.fnOf "__init__" q (defArgs st) (defBody st) (defScope st) .none kV dc pm an cd ct) ⟨us, []⟩ = pure ((["self", "told"] : List Str).zip us)) →
    ∃ e : Ex K mg x q st, Ex2 K e.C M
theorem exF {K : PySem.W.Frag} {x q : Str} {st : Stmt} {M C f : Addr} {nm qq : Str} {N : Addr} {bs bm : List Value} {sn : List Str} {sub : List Value} {ab : Bool} {col : Option Bool} {dd : Option Addr} {k0 k1 k2 k3 k5 : Option Value}
    {oc : Value} {od : Option Addr} {kV dc pm : Value} {an : Option Addr} {cd ct : Value} {sl : Array (Option Value)}
    (aC : PySem.W.nsIn K mainGlobals x = some (some (.ref C))) (xL : K.lookup C = some (excClassObj nm qq C N bs bm true sn sub ab col dd k0 k1 k2 k3 k5 "ValueError.__new__")) (vb : PySem.HandSPX.refsVE bm = true)
    (sa : PySem.W.findIn K (.ref C) "__setattr__" = some (some (.builtin "object.__setattr__"))) (ga : PySem.W.findIn K (.ref C) "__getattribute__" = some (some (.builtin "BaseException.__getattribute__")))
    (gg : PySem.W.findIn K (.ref C) "__getattr__" = some none) (no : PySem.W.findIn K (.ref C) "told" = some none) (ai : PySem.W.findIn K (.ref C) "__init__" = some (some (.ref f))) (ti : PySem.W.typeIn K (.ref f) = some (.type "function"))
    (li : K.lookup f = some ⟨oc, od, .func (PySem.W.fnOf "__init__" q (defArgs st) (defBody st) (defScope st) .none kV dc pm an cd ct), sl⟩) (ci : PySem.W.codeIn K cd q = true) (ki : PySem.W.keepIn K (.ref f) = true)
    (kC : PySem.W.keepIn K (.ref C) = true) (eC : PySem.W.subIn K (.ref C) (.type "BaseException") = some true) (tC : PySem.W.typeIn K (.ref C) = some (.type "type")) (hC : PySem.W.hasDictIn K C = true)
    (sC : PySem.W.subIn K (.ref C) (.ref C) = some true) (sM : PySem.W.subIn K (.ref C) (.ref M) = some true) (tM : PySem.W.typeIn K (.ref M) = some (.type "type")) (hM : PySem.W.hasDictIn K M = true)
    (ca : PySem.W.findIn K (.ref C) "__class__" = some (some (.builtin "object.__class__"))) (sg : PySem.W.specialIn K (.builtin "object.__class__") "__get__" = some (some (.builtin "getset_descriptor.__get__")))
    (tk : PySem.W.takesIn K (.builtin "object.__class__") = some true) (mr : PySem.W.mroIn K C (.type "object") = some true) : ExF K x q st M := by
  refine ⟨fun mg h X G b => ⟨⟨C, PySem.W.mg_of X G aC, ⟨⟨_, _, _, _, _, _, _, _, _, _, _, _, _, _, _, xL, vb⟩, sa, eC, tC, kC⟩, no, f, _, fun_mk li ci ki, (fun_mk li ci ki).binds b, ai, ti⟩, ⟨⟨ga, gg, eC, hC⟩, no, ⟨ga, gg, eC, hC, ca, sg, tk, mr⟩, PySem.W.exm_ref eC hC tC sC, ?_⟩⟩⟩
  obtain ⟨cdM, hcM, _⟩ := PySem.W.any_some hM
  show PySem.W.kitOne K (.ref C) (.ref M) = some true
  unfold PySem.W.kitOne
  split
  · rfl
  · have e : ((PySem.W.clsIn K M).isSome && PySem.W.typeIn K (.ref M) == some (.type "type")) = true := by
      rw [hcM, tM] <;> rfl
    show (if ((PySem.W.clsIn K M).isSome && PySem.W.typeIn K (.ref M) == some (.type "type")) = true then PySem.W.subIn K (.ref C) (.ref M) else none) = some true
    rw [if_pos e]
    exact sM
end DL

set_option maxHeartbeats 2000000
namespace DL
open PySem PySem.Spec PyProof.Rows L2
variable [TabCtx]
/-! ### a local list that grows: statements while it is held -/
theorem Ext.fresh {O : Ow} {H H1 : Hp} {p : Addr} (e : Ext O H H1) (o : OwnAll O H) (n : H1 p = .none) : Fresh H p := fun b u h t z => by
  subst z
  by_cases c : ∃ r ∈ O, r.1 = b
  · obtain ⟨r, hr, rfl⟩ := c
    obtain ⟨u1, h1, _⟩ := e.own r hr (o.here r hr)
    rw [n] at h1
    cases h1
  · have := e.keep b u (fun r hr z => c ⟨r, hr, z.symm⟩) h t
    rw [n] at this
    cases this
structure ExtH (O : Ow) (p : Addr) (H H' : Hp) : Prop where
  keep : ∀ b o, Out O b → b ≠ p → H b = some o → NT o → H' b = some o
  own : ∀ q ∈ O, OwnAt H q → OwnAt H' q
theorem ExtH.refl (O : Ow) (p : Addr) (H : Hp) : ExtH O p H H := ⟨fun _ _ _ _ h _ => h, fun _ _ h => h⟩
theorem ExtH.trans {O : Ow} {p : Addr} {H H1 H2 : Hp} (a : ExtH O p H H1) (b : ExtH O p H1 H2) : ExtH O p H H2 := ⟨fun c o x n h t => b.keep c o x n (a.keep c o x n h t) t, fun q hq h => b.own q hq (a.own q hq h)⟩
theorem ExtH.of {O : Ow} {p : Addr} {o : HO} {H H' : Hp} (e : Ext (O ++ [(p, .hold o)]) H H') : ExtH O p H H' :=
  ⟨fun b u x n h t => e.keep b u (fun q hq => by
      rcases List.mem_append.mp hq with z | z
      · exact x q z
      · rw [List.mem_singleton.mp z]; exact n) h t,
    fun q hq h => e.own q (List.mem_append_left _ hq) h⟩
theorem ExtH.free {O : Ow} {p : Addr} {H H' : Hp} (e : Ext O H H') : ExtH O p H H' := ⟨fun b o x _ h t => e.keep b o x h t, e.own⟩
/-- from a heap where p was not yet -/
theorem ExtH.drop {O : Ow} {p : Addr} {H0 H H' : Hp} (e : ExtH O p H H') (e0 : Ext O H0 H) (n : Fresh H0 p) : Ext O H0 H' :=
  ⟨fun b o x h t => e.keep b o x (n _ _ h t) (e0.keep b o x h t) t, fun q hq h => e.own q hq (e0.own q hq h)⟩
theorem ExtH.put {O : Ow} {p : Addr} {H : Hp} {o : HO} (op : Out O p) (nc : NoCode H p) : ExtH O p H (upd H p o) :=
  ⟨fun b u _ n h _ => by rw [upd_ne n]; exact h, fun q hq ⟨u, h, k⟩ => ⟨u, by rw [upd_ne (fun e => op q hq e.symm)]; exact h, k.upd nc⟩⟩
abbrev WH := Sl → List D → (Sl → List D → Prop) → (D → Prop) → (Addr → D → Prop) → Prop
def tHW (E : XK) (i : Nat) (G : WH) : TS := fun Dn σ H => ∃ (O : Ow) (p : Addr) (vs : List V) (ds : Sl) (dv : List D) (N : Sl → List D → Prop) (R : DL.D → Prop) (Z : Addr → DL.D → Prop), Out O p ∧ ds[i]? = some (some (.fn p)) ∧ Hd O p vs H σ ds dv ∧ G ds dv N R Z ∧
  (∀ ds' dv', N ds' dv' → ∀ vs' σ' H', ExtH O p H H' → ds'[i]? = some (some (.fn p)) → Hd O p vs' H' σ' ds' dv' → Dn.nx σ' H') ∧ (∀ d, R d → ∀ v H', ExtH O p H H' → Dq O H' v d → Dn.rt v H') ∧
  ∀ C d, Z C d → ∀ dx v H', ExtH O p H H' → Out O dx → H' dx = some (.xd [("told", v)]) → Dq O H' v d → E (.ref C) (some dx) H'
theorem Out.of_hold {O : Ow} {p b : Addr} {o : HO} (x : Out (O ++ [(p, .hold o)]) b) : Out O b ∧ b ≠ p := ⟨x.hold_out, x.hold_ne⟩
/-- a statement that leaves the held list alone -/
def gLift (i : Nat) (G : WS) : WH := fun ds dv N R Z => G ds (fun ds' => ds'[i]? = ds[i]? ∧ N ds' dv) R Z
def gSeqH (G1 G2 : WH) : WH := fun ds dv N R Z => G1 ds dv (fun ds' dv' => G2 ds' dv' N R Z) R Z
def gNextH : WH := fun ds dv N _ _ => N ds dv
/-- the list as it stands now -/
def seen (i : Nat) (ds : Sl) (dv : List D) : Sl := ds.set i (some (.lst dv))
def gIfH (i : Nat) (T : WT) (G1 G2 : WH) : WH := fun ds dv N R Z => T (seen i ds dv) fun b => if b = true then G1 ds dv N R Z else G2 ds dv N R Z
mutual
/-- holds no list -/
def noL : D → Bool
  | .lst _ => false
  | .sq _ _ => false
  | .ins _ _ ds => noLs ds
  | .dct _ ds => noLs ds
  | .tup xs => noLs xs
  | .exn _ _ t => noL t
  | _ => true
def noLs : List D → Bool
  | [] => true
  | x :: xs => noL x && noLs xs
end
mutual
theorem Dq.held {O : Ow} {H : Hp} {p : Addr} {vs : List V} (hp : H p = some (.lst vs)) : ∀ {v : V} {d : D}, Dq O H v d → noL d = true → Dq (O ++ [(p, .hold (.lst vs))]) H v d
  | _, _, .non, _ => .non
  | _, _, .bl b, _ => .bl b
  | _, _, .int i, _ => .int i
  | _, _, .str x, _ => .str x
  | _, _, .lst _ _ _, n => by unfold noL at n; cases n
  | _, _, .tup x r a, n => by
    unfold noL at n
    refine .tup (fun q hq => ?_) r (a.held hp n)
    rcases List.mem_append.mp hq with z | z
    · exact x q z
    · rw [List.mem_singleton.mp z]
      rintro rfl
      rcases r with r | ⟨o, r⟩ <;> (rw [hp] at r; cases r)
  | _, _, .src h, _ => .src (List.mem_append_left _ h)
  | _, _, .fn f, _ => .fn f
  | _, _, .exn x r a, n => by
    unfold noL at n
    refine .exn (fun q hq => ?_) r (a.held hp n)
    rcases List.mem_append.mp hq with z | z
    · exact x q z
    · rw [List.mem_singleton.mp z]
      rintro rfl
      rw [hp] at r
      cases r
  | _, _, .sq _, n => by unfold noL at n; cases n
  | _, _, .ins x r a, n => by
    unfold noL at n
    refine .ins (fun q hq => ?_) r (a.held hp n)
    rcases List.mem_append.mp hq with z | z
    · exact x q z
    · rw [List.mem_singleton.mp z]
      rintro rfl
      rw [hp] at r
      cases r
  | _, _, .dct x r a, n => by
    unfold noL at n
    refine .dct (fun q hq => ?_) r (a.held hp n)
    rcases List.mem_append.mp hq with z | z
    · exact x q z
    · rw [List.mem_singleton.mp z]
      rintro rfl
      rw [hp] at r
      cases r
theorem DqAll.held {O : Ow} {H : Hp} {p : Addr} {vs : List V} (hp : H p = some (.lst vs)) : ∀ {us : List V} {ds : List D}, DqAll O H us ds → noLs ds = true → DqAll (O ++ [(p, .hold (.lst vs))]) H us ds
  | _, _, .nil, _ => .nil
  | _, _, .cons a b, n => by
    unfold noLs at n
    obtain ⟨h1, h2⟩ := Bool.and_eq_true_iff.mp n
    exact .cons (a.held hp h1) (b.held hp h2)
end
section
variable {O : Ow} {p : Addr} {vs : List V} {H H' : Hp} {σ : L2.St} {ds : Sl} {dv : List D} {i : Nat}
theorem Hd.seen (h : Hd O p vs H σ ds dv) (op : Out O p) (hi : ds[i]? = some (some (.fn p))) : SlD O H σ (DL.seen i ds dv) := by
  obtain ⟨v, hv, q⟩ := h.sl.val i _ hi
  cases q
  exact h.sl.less.put hv (.lst op h.at h.al.less)
theorem Hd.free (h : Hd O p vs H σ ds dv) (op : Out O p) (e : Ext O H H') : Hd O p vs H' σ ds dv := by
  have k : ∀ b o, Out (O ++ [(p, Own.hold (HO.lst vs))]) b → H b = some o → NT o → H' b = some o := fun b o x hh t => e.keep b o x.hold_out hh t
  exact ⟨h.sl.keep k, h.al.keep k, OwnAll.hold (h.ow.less.mono e) op (e.keep p _ op h.at (by intro ps z; cases z))⟩
theorem Hd.app (h : Hd O p vs H σ ds dv) (op : Out O p) {us : List V} {es : List D} (q : DqAll (O ++ [(p, .hold (.lst vs))]) H us es) : Hd O p (vs ++ us) (upd H p (.lst (vs ++ us))) σ ds (dv ++ es) := by
  have k : ∀ b o, Out (O ++ [(p, Own.hold (HO.lst vs))]) b → H b = some o → NT o → upd H p (.lst (vs ++ us)) b = some o := fun b o hb hh _ => by
    rw [upd_ne hb.hold_ne]
    exact hh
  exact ⟨(h.sl.keep k).rehold, ((h.al.keep k).append (q.keep k)).rehold, h.ow.put op⟩
end
section
variable {X : Cx} {E : XK} {st : Stmt} {rest : List Stmt} {G1 G2 : WH} {G : WS} {i : Nat}
theorem hs_lift_red {D : Ends} {σ : L2.St} {H : Hp} (h : tHW E i (gLift i G) D σ H) : tSW E G D σ H := by
  obtain ⟨O, p, vs, ds, dv, N, R, Z, op, hi, hd, hG, hN, hR, hZ⟩ := h
  exact ⟨_, ds, _, R, Z, hd.sl, hd.ow, hG, fun ds' ⟨h1, h2⟩ σ' H' e s => hN ds' dv h2 vs σ' H' (.of e) (by rw [h1]; exact hi) ⟨s, hd.al.mono e, hd.ow.mono e⟩, fun d h v H' e q => hR d h v H' (.of e) q.less, fun C d h dx v H' e ox hx q => hZ C d h dx v H' (.of e) ox.hold_out hx q.less⟩
theorem hs_lift (h : PS X st (tSW E G)) : PS X st (tHW E i (gLift i G)) := PS.weak h fun _ _ _ z => hs_lift_red z
theorem hss_nil : PSs X [] (tHW E i gNextH) := PSs.weak pss_nil fun D σ H ⟨O, p, vs, ds, dv, N, R, Z, op, hi, hd, hG, hN, hR, hZ⟩ => hN ds dv hG vs σ H (.refl _ _ _) hi hd
theorem hss_cons (h1 : PS X st (tHW E i G1)) (h2 : PSs X rest (tHW E i G2)) : PSs X (st :: rest) (tHW E i (gSeqH G1 G2)) :=
  PSs.weak (pss_cons h1 h2) fun D σ H ⟨O, p, vs, ds, dv, N, R, Z, op, hi, hd, hG, hN, hR, hZ⟩ => ⟨O, p, vs, ds, dv, _, R, Z, op, hi, hd, hG, fun ds' dv' h vs' σ' H' e hi' hd' =>
    ⟨O, p, vs', ds', dv', N, R, Z, op, hi', hd', h, fun ds2 dv2 h2 vs2 σ2 H2 e2 hi2 hd2 => hN ds2 dv2 h2 vs2 σ2 H2 (e.trans e2) hi2 hd2, fun d h v H2 e2 q => hR d h v H2 (e.trans e2) q, fun C d h dx v H2 e2 ox => hZ C d h dx v H2 (e.trans e2) ox⟩, hR, hZ⟩
theorem hss_one (h1 : PS X st (tHW E i G1)) : PSs X [st] (tHW E i G1) := pss_one h1
theorem hs_if {c : Expr} {a b : List Stmt} {T : WT} {pos : Pos} (hc : PT X c (tTW T)) (ha : PSs X a (tHW E i G1)) (hb : PSs X b (tHW E i G2)) : PS X (.If c a b pos) (tHW E i (gIfH i T G1 G2)) :=
  PS.weak (ps_if hc ha hb) fun D σ H ⟨O, p, vs, ds, dv, N, R, Z, op, hi, hd, hG, hN, hR, hZ⟩ => ⟨O, _, _, hd.seen op hi, hd.ow.less, hG, fun b hb H1 e1 => by
    have hd1 := hd.free op e1
    have x1 : ExtH O p H H1 := .free e1
    cases b with
    | true =>
      rw [if_pos rfl] at hb
      show tHW E i G1 _ _ _
      exact ⟨O, p, vs, ds, dv, N, R, Z, op, hi, hd1, hb, fun ds2 dv2 h2 vs2 σ2 H2 e2 hi2 hd2 => hN ds2 dv2 h2 vs2 σ2 H2 (x1.trans e2) hi2 hd2, fun d h v H2 e2 q => hR d h v H2 (x1.trans e2) q, fun C d h dx v H2 e2 ox => hZ C d h dx v H2 (x1.trans e2) ox⟩
    | false =>
      rw [if_neg Bool.false_ne_true] at hb
      show tHW E i G2 _ _ _
      exact ⟨O, p, vs, ds, dv, N, R, Z, op, hi, hd1, hb, fun ds2 dv2 h2 vs2 σ2 H2 e2 hi2 hd2 => hN ds2 dv2 h2 vs2 σ2 H2 (x1.trans e2) hi2 hd2, fun d h v H2 e2 q => hR d h v H2 (x1.trans e2) q, fun C d h dx v H2 e2 ox => hZ C d h dx v H2 (x1.trans e2) ox⟩⟩
/-- x = e, e may look at the held list -/
def gSetH (i j : Nat) (W : WE) : WH := fun ds dv N _ _ => W (seen i ds dv) fun d => noL d = true ∧ (ds.set j (some d))[i]? = ds[i]? ∧ N (ds.set j (some d)) dv
theorem hs_set {j : Nat} {x : Str} {e : Expr} {W : WE} {pos pos' : Pos} (hN : X.N.Nodup) (hj : X.N[j]? = some x) (hx : Loc X.env.scope x) (he : PE X e (tW W)) (hs : swapsWith e (some (.Name x pos')) pos.line X.env = pure false := by rfl)
    (hf : X.fn x = true ∨ X.env.scope.names.lookup x = some .local := by first | exact .inl rfl | exact .inr rfl) : PS X (.Assign [.Name x pos'] e pos) (tHW E i (gSetH i j W)) :=
  PS.weak (ps_set hN hj hx he hs hf) fun D σ H ⟨O, p, vs, ds, dv, N, R, Z, op, hi, hd, hG, hNx, hR, hZ⟩ => ⟨O, _, _, hd.seen op hi, hd.ow.less, hG, fun d ⟨h1, h2, h3⟩ v H1 e1 q1 => by
    have hd1 := hd.free op e1
    exact hNx _ dv h3 vs _ H1 (.free e1) (by rw [h2]; exact hi) ⟨hd1.sl.set j (q1.held hd1.at h1), hd1.al, hd1.ow⟩⟩
/-- x.append(e) -/
def gAppend (i : Nat) (W : WE) : WH := fun ds dv N _ _ => W (seen i ds dv) fun d => noL d = true ∧ dv.length < sizeLine ∧ N ds (dv ++ [d])
def gAppendH (W : WE) : WH := fun ds dv N _ _ => W ds fun d => dv.length < sizeLine ∧ N ds (dv ++ [d])
/-- the tail, the list done -/
def gDone (i : Nat) (G : WS) : WH := fun ds dv _ R Z => G (seen i ds dv) (fun _ => False) R Z
theorem hss_done (h : PSs X rest (tSW E G)) : PSs X rest (tHW E i (gDone i G)) :=
  PSs.weak h fun D σ H ⟨O, p, vs, ds, dv, N, R, Z, op, hi, hd, hG, hN, hR, hZ⟩ => ⟨O, _, _, R, Z, hd.seen op hi, hd.ow.less, hG, fun _ z => z.elim, fun d h v H' e q => hR d h v H' (.free e) q, fun C d h dx v H' e ox => hZ C d h dx v H' (.free e) ox⟩
/-- the loop -/
def gForH (j : Nat) (Wi : WI) (G : WH) : WH := fun ds dv N R Z => Wi ds fun xs => ∃ I : Nat → Sl → List D → Prop, I 0 ds dv ∧
  (∀ k x ds' dv', xs[k]? = some x → I k ds' dv' → ds'[j]? ≠ none ∧ G (ds'.set j (some x)) dv' (I (k + 1)) R Z) ∧ ∀ ds' dv', I xs.length ds' dv' → N ds' dv'
theorem hs_for {j : Nat} {tg iter : Expr} {body : List Stmt} {Wi : WI} {pos : Pos} (hij : i ≠ j) (hp : PassesOwn (model X.prog X.w) X.A X.env X.xe) (hc : X.calm = true) (hit : PI X tg iter (tIW Wi)) (hg : PG X tg (gName j)) (hb : PSs X body (tHW E i G1))
    (hs : ∀ x, foldedSetIterable iter X.env x = pure x := by intro _; rfl) : PS X (.For tg iter body [] pos) (tHW E i (gForH j Wi G1)) :=
  PS.weak (ps_for hp hc hit hg hb hs) fun D σ H ⟨O, p, vs, ds, dv, N, R, Z, op, hi, hd, hG, hN, hR, hZ⟩ => ⟨_, ds, _, hd.sl, hd.ow, hG, fun xs ⟨I, h0, h1, h2⟩ J H1 e1 ⟨Gd, w, hGd⟩ => by
    refine for_it w (fun k σ2 H2 => ∃ ds' dv' vs', I k ds' dv' ∧ ds'[i]? = some (some (.fn p)) ∧ Hd O p vs' H2 σ2 ds' dv' ∧ ExtH O p H1 H2) ⟨ds, dv, vs, h0, hi, hd.mono e1, .refl _ _ _⟩
      (fun k σ2 H2 _ ⟨_, _, _, _, _, _, e2⟩ => hGd H2 fun b o x h t => e2.keep b o x.hold_out x.hold_ne h t) ?_ ?_
    · rintro k x σ2 H2 H' hk ⟨ds', dv', vs', hI, hi', hd', e2⟩ ⟨rfl, d, hd0, qd⟩
      have x2 := (ExtH.of e1).trans e2
      have kk : ∀ b o, Out (O ++ [(p, Own.hold (HO.lst vs))]) b → H1 b = some o → NT o → H' b = some o := fun b o x h t => e2.keep b o x.hold_out x.hold_ne h t
      have hi2 : (ds'.set j (some d))[i]? = some (some (.fn p)) := by rw [List.getElem?_set_ne hij.symm]; exact hi'
      exact ⟨O, p, vs', _, dv', I (k + 1), R, Z, op, hi2, ⟨hd'.sl.set j ((qd.keep kk).rehold), hd'.al, hd'.ow⟩, (h1 k d ds' dv' hd0 hI).2, fun ds3 dv3 h3 vs3 σ3 H3 e3 hi3 hd3 => ⟨ds3, dv3, vs3, h3, hi3, hd3, e2.trans e3⟩,
        fun d h v H3 e3 q => hR d h v H3 (x2.trans e3) q, fun C d h dx v H3 e3 ox => hZ C d h dx v H3 (x2.trans e3) ox⟩
    · rintro σ2 H2 ⟨ds', dv', vs', hI, hi', hd', e2⟩
      exact hN ds' dv' (h2 ds' dv' hI) vs' σ2 H2 ((ExtH.of e1).trans e2) hi' hd'⟩
theorem hs_append {x : Str} {e : Expr} {W : WE} {pos pa p1 pe : Pos} (hx : PE X (.Name x p1) (tVar i)) (he : PE X e (tW W))
    (hbase : attributeBase (.Name x p1) "append" X.env (eval (.Name x p1) X.env) = eval (.Name x p1) X.env := by rfl)
    (hfew : ((backTo pos (starEach [e] X.env)).all (fun x => !x.1) && (backToKw pos (keywordEach [] X.env)).all (fun x => x.1.isSome)
      && decide (([e] : List Expr).length + ([] : List Keyword).length + (if ([] : List Keyword).isEmpty then 0 else 1) < 30)) = true := by rfl)
    (hline : (pa.endLine == pos.line) = true := by rfl) (hs : starEach [e] X.env = (false, eval e X.env) :: starEach [] X.env := by rfl) (hpl : (backTo pos (starEach [] X.env)).any (·.1) = false := by rfl)
    (hw : swapsWith (.Call (.Attribute (.Name x p1) "append" pa) [e] [] pos) none pe.line X.env = pure false := by rfl) :
    PS X (.Expr (.Call (.Attribute (.Name x p1) "append" pa) [e] [] pos) pe) (tHW E i (gAppend i W)) :=
  PS.weak (ps_expr (pe_bm PySem.F.plainAttrs_list PySem.F.slot_list_append PySem.F.type_list_append mt_append hx (pa_cons he pa_nil hs) hbase hfew hline hs hpl) hw) fun D σ H ⟨O, p, vs, ds, dv, N, R, Z, op, hi, hd, hG, hN, hR, hZ⟩ => by
    obtain ⟨v, hv, q⟩ := hd.sl.val i _ hi
    cases q
    exact ⟨_, hv, .inl ⟨rfl, _, .inl (.of hd.at)⟩, O, _, _, hd.seen op hi, hd.ow.less, hG, fun d ⟨h1, h2, h3⟩ v H1 e1 q1 => by
      have hd1 := hd.free op e1
      exact ⟨p, vs, v, rfl, rfl, hd1.at, by rw [hd1.al.length]; exact h2, hN ds _ h3 _ σ _ ((ExtH.free e1).trans (.put op (noCode_of hd1.at))) hi (hd1.app op (.cons (q1.held hd1.at h1) .nil))⟩⟩
theorem hs_appendH {x : Str} {e : Expr} {W : WE} {pos pa p1 pe : Pos} (hx : PE X (.Name x p1) (tVar i)) (he : PE X e (tW W))
    (hbase : attributeBase (.Name x p1) "append" X.env (eval (.Name x p1) X.env) = eval (.Name x p1) X.env := by rfl)
    (hfew : ((backTo pos (starEach [e] X.env)).all (fun x => !x.1) && (backToKw pos (keywordEach [] X.env)).all (fun x => x.1.isSome)
      && decide (([e] : List Expr).length + ([] : List Keyword).length + (if ([] : List Keyword).isEmpty then 0 else 1) < 30)) = true := by rfl)
    (hline : (pa.endLine == pos.line) = true := by rfl) (hs : starEach [e] X.env = (false, eval e X.env) :: starEach [] X.env := by rfl) (hpl : (backTo pos (starEach [] X.env)).any (·.1) = false := by rfl)
    (hw : swapsWith (.Call (.Attribute (.Name x p1) "append" pa) [e] [] pos) none pe.line X.env = pure false := by rfl) :
    PS X (.Expr (.Call (.Attribute (.Name x p1) "append" pa) [e] [] pos) pe) (tHW E i (gAppendH W)) :=
  PS.weak (ps_expr (pe_bm PySem.F.plainAttrs_list PySem.F.slot_list_append PySem.F.type_list_append mt_append hx (pa_cons he pa_nil hs) hbase hfew hline hs hpl) hw) fun D σ H ⟨O, p, vs, ds, dv, N, R, Z, op, hi, hd, hG, hN, hR, hZ⟩ => by
    obtain ⟨v, hv, q⟩ := hd.sl.val i _ hi
    cases q
    exact ⟨_, hv, .inl ⟨rfl, _, .inl (.of hd.at)⟩, _, _, _, hd.sl, hd.ow, hG, fun d ⟨h2, h3⟩ v H1 e1 q1 => by
      have hd1 := hd.mono e1
      exact ⟨p, vs, v, rfl, rfl, hd1.at, by rw [hd1.al.length]; exact h2, hN ds _ h3 _ σ _ ((ExtH.of e1).trans (.put op (noCode_of hd1.at))) hi (hd1.app op (.cons q1 .nil))⟩⟩
/-! ### a fresh list -/
abbrev WF := Sl → (List D → Prop) → Prop
def tFW (W : WF) : TE := fun σ H Q => ∃ (O : Ow) (ds : Sl) (P : List D → Prop), SlD O H σ ds ∧ OwnAll O H ∧ W ds P ∧ ∀ es, P es → ∀ p vs H', Out O p → Fresh H p → Ext O H H' → H' p = some (.lst vs) → DqAll (O ++ [(p, .hold (.lst vs))]) H' vs es → Q (.ref p) H'
theorem fw_lst {es : List Expr} {A : WA} {pos : Pos} (h : PA X es (tAW A)) : PE X (.List es pos) (tFW fun ds P => A ds fun es => es.length ≤ sizeLine ∧ P es) :=
  PE.weak (pe_lst h) fun σ H Q ⟨O, ds, P, hS, hO, hW, k⟩ => ⟨O, ds, _, hS, hO, hW, fun es ⟨hl, he⟩ vs H1 e1 q1 => ⟨by rw [q1.length]; exact hl, fun p hp =>
    k es he p vs _ ((hO.mono e1).out hp) (e1.fresh hO hp) (e1.trans (.new hp)) upd_same ((q1.more (fresh_none hp)).keep fun b o x hh _ => by rw [upd_ne x.hold_ne]; exact hh)⟩⟩
def fwCat (Wa Wb : WE) : WF := fun ds P => Wa ds fun x => ∃ xs, x = .lst xs ∧ Wb ds fun y => ∃ ys, y = .lst ys ∧ xs.length + ys.length ≤ sizeLine ∧ P (xs ++ ys)
theorem fw_cat {a b : Expr} {Wa Wb : WE} {pos : Pos} (ha : PE X a (tW Wa)) (hb : PE X b (tW Wb)) : PE X (.BinOp a .Add b pos) (tFW (fwCat Wa Wb)) :=
  PE.weak (pe_op op_cat ha hb) fun σ H Q ⟨O, ds, P, hS, hO, hW, k⟩ => ⟨O, ds, _, hS, hO, hW, fun dx hx v H1 e1 q1 => by
    obtain ⟨xs, rfl, hw⟩ := hx
    refine ⟨O, ds, _, hS.mono e1, hO.mono e1, hw, fun dy hy u H2 e2 q2 => ?_⟩
    obtain ⟨ys, rfl, hz, hp⟩ := hy
    cases q1 with
    | lst o1 r1 a1 =>
      cases q2 with
      | lst o2 r2 a2 =>
        have e12 := e1.trans e2
        exact ⟨_, _, _, _, rfl, rfl, e2.keep _ _ o1 r1 (by intro ps z; cases z), r2, by rw [a1.length, a2.length]; exact hz, fun p np => k _ hp p _ _ ((hO.mono e12).out np) (e12.fresh hO np) (e12.trans (.new np)) upd_same ((((a1.mono e2).append a2).more (fresh_none np)).keep fun b o x hh _ => by rw [upd_ne x.hold_ne]; exact hh)⟩⟩
/-- x = a fresh list; the rest while it is held -/
def gAcc (i : Nat) (W : WF) (G : WH) : WS := fun ds N R Z => i < ds.length ∧ W ds fun es => ∀ p, G (ds.set i (some (.fn p))) es (fun ds' dv' => N (seen i ds' dv')) R Z
theorem wss_acc {x : Str} {e : Expr} {W : WF} {pos pos' : Pos} (hN : X.N.Nodup) (hi : X.N[i]? = some x) (hx : Loc X.env.scope x) (he : PE X e (tFW W)) (hr : PSs X rest (tHW E i G1)) (hs : swapsWith e (some (.Name x pos')) pos.line X.env = pure false := by rfl)
    (hf : X.fn x = true ∨ X.env.scope.names.lookup x = some .local := by first | exact .inl rfl | exact .inr rfl) : PSs X (.Assign [.Name x pos'] e pos :: rest) (tSW E (gAcc i W G1)) :=
  PSs.weak (pss_cons (ps_set hN hi hx he hs hf) hr) fun D σ H ⟨O, ds, N, R, Z, hS, hO, ⟨hl, hG⟩, hNx, hR, hZ⟩ => ⟨O, ds, _, hS, hO, hG, fun es hes p vs H' op np e1 hp hq => by
    have kk : ∀ b o, Out (O ++ [(p, Own.hold (HO.lst vs))]) b → H b = some o → NT o → H' b = some o := fun b o x hh t => e1.keep b o x.hold_out hh t
    exact ⟨O, p, vs, ds.set i (some (.fn p)), es, _, R, Z, op, List.getElem?_set_self hl, ⟨((hS.more np).keep kk).set i (.fn p), hq, OwnAll.hold (hO.mono e1) op hp⟩, hes p,
      fun ds' dv' h vs' σ2 H2 e2 hi2 hd2 => hNx _ h σ2 H2 (e2.drop e1 np) (hd2.seen op hi2), fun d h v H2 e2 q => hR d h v H2 (e2.drop e1 np) q, fun C d h dx v H2 e2 ox => hZ C d h dx v H2 (e2.drop e1 np) ox⟩⟩
end
end DL

set_option maxHeartbeats 2000000
namespace DL
open PySem PySem.Spec PyProof.Rows L2
variable [TabCtx]
/-! ### instances and dicts that are only read -/
def fldD : List Str → List D → Str → Option D
  | n :: ns, d :: ds, f => if f = n then some d else fldD ns ds f
  | _, _, _ => none
theorem fld_rel {O : Ow} {H : Hp} {f : Str} {d : D} : ∀ {ns : List Str} {vs : List V} {ds : List D}, fldD ns ds f = some d → DqAll O H vs ds → ∃ v, (ns.zip vs).lookup f = some v ∧ Dq O H v d
  | [], _, _, h, _ => by simp [fldD] at h
  | n :: ns, _, _, h, .nil => by simp [fldD] at h
  | n :: ns, _, _, h, .cons (v := v) a b => by
    unfold fldD at h
    by_cases e : f = n
    · rw [if_pos e] at h
      cases h
      exact ⟨v, by rw [e]; simp [List.lookup], a⟩
    · rw [if_neg e] at h
      obtain ⟨u, h1, h2⟩ := fld_rel h b
      refine ⟨u, ?_, h2⟩
      have e' : (f == n) = false := beq_eq_false_iff_ne.mpr e
      simp only [List.zip_cons_cons, List.lookup, e']
      exact h1
theorem fld_none {m : Str} : ∀ {ns : List Str} {vs : List V}, m ∉ ns → (ns.zip vs).lookup m = none
  | [], _, _ => rfl
  | n :: ns, [], _ => rfl
  | n :: ns, v :: vs, h => by
    have e' : (m == n) = false := beq_eq_false_iff_ne.mpr fun e => h (by rw [e]; exact List.mem_cons_self)
    simp only [List.zip_cons_cons, List.lookup, e']
    exact fld_none fun z => h (List.mem_cons_of_mem _ z)
def valD : List Key → List D → Key → Option D
  | k :: ks, d :: ds, q => if k = q then some d else valD ks ds q
  | _, _, _ => none
theorem val_rel {O : Ow} {H : Hp} {q : Key} : ∀ {ks : List Key} {vs : List V} {ds : List D}, DqAll O H vs ds → (∃ d v, valD ks ds q = some d ∧ valV (ks.zip vs) q = some v ∧ Dq O H v d) ∨ (valD ks ds q = none ∧ valV (ks.zip vs) q = none)
  | [], _, _, _ => .inr ⟨by simp [valD], rfl⟩
  | k :: ks, _, _, .nil => .inr ⟨by simp [valD], rfl⟩
  | k :: ks, _, _, .cons (v := v) (d := d) a b => by
    by_cases e : k = q
    · exact .inl ⟨d, v, by simp [valD, e], by simp [valV, e], a⟩
    · rcases val_rel (q := q) (ks := ks) b with ⟨d', v', h1, h2, h3⟩ | ⟨h1, h2⟩
      · exact .inl ⟨d', v', by simpa [valD, e] using h1, by simpa [valV, e] using h2, h3⟩
      · exact .inr ⟨by simpa [valD, e] using h1, by simpa [valV, e] using h2⟩
/-- a key, out of data -/
def keyD : D → Option Key
  | .int i => some (.inl i)
  | .str x => some (.inr x)
  | _ => none
theorem keyD_kV {O : Ow} {H : Hp} {v : V} {d : D} {k : Key} (h : keyD d = some k) (q : Dq O H v d) : v = kV k := by
  cases q <;> simp only [keyD, Option.some.injEq, reduceCtorEq] at h <;> subst h <;> rfl
section
variable {X : Cx} {e o i x : Expr} {Wo Wi Wx : WE} {pos apos : Pos} {C : Addr} {f m : Str}
def wFld (C : Addr) (f : Str) (W : WE) : WE := fun ds P => W ds fun x => ∃ ns es, x = .ins C ns es ∧ ∃ d, fldD ns es f = some d ∧ P d
theorem we_fld (c : Cls X.K C) (n : NoAttr X.K C f) (he : PE X e (tW Wo)) (hb : attributeBase e f X.env (eval e X.env) = eval e X.env := by rfl) : PE X (.Attribute e f pos) (tW (wFld C f Wo)) :=
  PE.weak (pe_fld he hb) fun σ H Q ⟨O, ds, P, hS, hO, hW, k⟩ => ⟨O, ds, _, hS, hO, hW, fun x hx v H1 e1 q1 => by
    obtain ⟨ns, es, rfl, d, h1, hp⟩ := hx
    cases q1 with
    | ins o1 r1 a1 =>
      obtain ⟨u, h2, h3⟩ := fld_rel h1 a1
      exact ⟨_, C, _, _, u, rfl, r1, c, n, h2, k _ hp u H1 e1 h3⟩⟩
/-- o.m(..), m a def of the class that raises nothing -/
def wMeth (C : Addr) (m : Str) (g : DFn) (Wo : WE) (A : WA) : WE := fun ds P => Wo ds fun x => ∃ ns es0, x = .ins C ns es0 ∧ m ∉ ns ∧ A ds fun es => g (x :: es) P
theorem meth_red {g : DSp} {A : WA} {σ : L2.St} {H : Hp} {Q : VK} {E : XK} (h : tW (wMeth C m (quiet g) Wo A) σ H Q) : tMeth C m (spD g) [] E (tW Wo) (tAW A) σ H Q := by
  obtain ⟨O, ds, P, hS, hO, hW, k⟩ := h
  refine ⟨O, ds, _, hS, hO, hW, fun x hx v H1 e1 q1 => ?_⟩
  obtain ⟨ns, es0, rfl, hm, hA⟩ := hx
  cases q1 with
  | ins o1 r1 a1 =>
    refine ⟨_, _, _, rfl, r1, fld_none hm, O, ds, _, hS.mono e1, hO.mono e1, hA, fun es he vs H2 e2 q2 => ?_⟩
    show spD g (_ :: (vs ++ [])) H2 Q E
    rw [List.append_nil]
    exact ⟨O, _, P, fun _ _ => False, .cons ((Dq.ins o1 r1 a1).mono e2) q2, (hO.mono e1).mono e2, he, fun d hd v H3 e3 q3 => k d hd v H3 ((e1.trans e2).trans e3) q3, fun _ _ z => z.elim⟩
/-! dicts -/
def wDIn (Wi Wo : WE) : WE := fun ds P => Wi ds fun y => Wo ds fun x => ∃ ks es q, x = .dct ks es ∧ keyD y = some q ∧ P (.bl (valD ks es q).isSome)
theorem din_red {σ : L2.St} {H : Hp} {Q : VK} (h : tW (wDIn Wi Wo) σ H Q) : tDIn (tW Wi) (tW Wo) σ H Q := by
  obtain ⟨O, ds, P, hS, hO, hW, k⟩ := h
  refine ⟨O, ds, _, hS, hO, hW, fun y hy v H1 e1 q1 => ⟨O, ds, _, hS.mono e1, hO.mono e1, hy, fun x hx u H2 e2 q2 => ?_⟩⟩
  obtain ⟨ks, es, q, rfl, hk, hp⟩ := hx
  have ek := keyD_kV hk q1
  subst ek
  cases q2 with
  | dct o1 r1 a1 =>
    refine ⟨_, _, rfl, DGet.k r1, ?_⟩
    rcases val_rel (q := q) (ks := ks) a1 with ⟨d, v, h1, h2, h3⟩ | ⟨h1, h2⟩
    · rw [h1] at hp
      rw [h2]
      exact k _ hp _ _ (e1.trans e2) (.bl _)
    · rw [h1] at hp
      rw [h2]
      exact k _ hp _ _ (e1.trans e2) (.bl _)
theorem wt_din (hu : X.A.units + 1 < cLine) (hi : PE X i (tW Wi)) (ho : PE X o (tW Wo)) (hm : behindInMarks .In o = false) : PT X (.Compare i [.In] [o] pos) (tTW (wTest (wDIn Wi Wo))) :=
  PT.weak (pt_cmp (pc_din hu hi ho) hm) fun σ H Q h => din_red (Q := fun x H' => ∃ k, x = .bl k ∧ Q k H') (test_red h)
theorem we_din (hu : X.A.units + 1 < cLine) (hi : PE X i (tW Wi)) (ho : PE X o (tW Wo)) (hm : behindInMarks .In o = false) : PE X (.Compare i [.In] [o] pos) (tW (wDIn Wi Wo)) :=
  PE.weak (pe_cmp (pc_din hu hi ho) hm) fun _ _ _ h => din_red h
/-- d[k], k there -/
def wDIx (Wo Wi : WE) : WE := fun ds P => Wo ds fun x => Wi ds fun y => ∃ ks es q, x = .dct ks es ∧ keyD y = some q ∧ ∃ d, valD ks es q = some d ∧ P d
theorem we_dix (hu : X.A.units + 1 < cLine) (ho : PE X o (tW Wo)) (hi : PE X i (tW Wi)) (hs : NoSl i) : PE X (.Subscript o i pos) (tW (wDIx Wo Wi)) :=
  PE.weak (pe_dget hu ho hi hs) fun σ H Q ⟨O, ds, P, hS, hO, hW, k⟩ => ⟨O, ds, _, hS, hO, hW, fun x hx v H1 e1 q1 => ⟨O, ds, _, hS.mono e1, hO.mono e1, hx, fun y hy u H2 e2 q2 => by
    obtain ⟨ks, es, q, rfl, hk, d, hd, hp⟩ := hy
    have ek := keyD_kV hk q2
    subst ek
    cases q1 with
    | dct o1 r1 a1 =>
      have r2 := e2.keep _ _ o1 r1 (by intro ps z; cases z)
      have a2 := a1.mono e2
      rcases val_rel (q := q) (ks := ks) a2 with ⟨d', v, h1, h2, h3⟩ | ⟨h1, h2⟩
      · rw [hd] at h1
        cases h1
        exact ⟨_, v, rfl, by rw [← h2]; exact DGet.k r2, k _ hp v H2 (e1.trans e2) h3⟩
      · rw [hd] at h1
        cases h1⟩⟩
/-- d.get(k) -/
def wDGetN (Wo Wi : WE) : WE := fun ds P => Wo ds fun x => ∃ ks es, x = .dct ks es ∧ Wi ds fun y => ∃ q, keyD y = some q ∧ P ((valD ks es q).getD .non)
theorem we_dget1 (hu : X.A.units + 1 < cLine) (ho : PE X o (tW Wo)) (hi : PE X i (tW Wi)) (m : M1 X o "get" apos i pos) : PE X (.Call (.Attribute o "get" apos) [i] [] pos) (tW (wDGetN Wo Wi)) :=
  PE.weak (pe_dget1 hu ho hi m) fun σ H Q ⟨O, ds, P, hS, hO, hW, k⟩ => ⟨O, ds, _, hS, hO, hW, fun x hx v H1 e1 q1 => by
    obtain ⟨ks, es, rfl, hw⟩ := hx
    cases q1 with
    | dct o1 r1 a1 =>
      refine ⟨_, rfl, .inl ⟨_, .of r1⟩, O, ds, _, hS.mono e1, hO.mono e1, hw, fun y hy u H2 e2 q2 => ?_⟩
      obtain ⟨q, hk, hp⟩ := hy
      have ek := keyD_kV hk q2
      subst ek
      have r2 := e2.keep _ _ o1 r1 (by intro ps z; cases z)
      refine ⟨_, DGet.k r2, ?_⟩
      rcases val_rel (q := q) (ks := ks) (a1.mono e2) with ⟨d', v, h1, h2, h3⟩ | ⟨h1, h2⟩
      · rw [h1] at hp
        rw [h2]
        exact k _ hp v H2 (e1.trans e2) h3
      · rw [h1] at hp
        rw [h2]
        exact k _ hp _ H2 (e1.trans e2) .non⟩
end
/-! ### a method's call -/
section
variable {X : Cx} {k : Nat} {C f : Addr} {fd : FuncData} {ps : List Str} {m : Str} {apos pos : Pos} {o e : Expr} {es : List Expr} {Wo : WE} {A : WA} {g : DSp} {CX : CXT} {pl : Sem Bool}
theorem we_meth (ho : PE X o (tW Wo)) (c : Cls X.K C) (hm : Meth X.K C m f) (F : FnOk X.prog X.w X.K X.mg X.base (L2.CX X.prog X.w) k f fd ps (spD g)) (hr : Room k X.A) (hb : Binds X.K fd ps []) (ha : PA X (e :: es) (tAW A))
    (hst : starEach (e :: es) X.env = (false, eval e X.env) :: starEach es X.env := by rfl) (hpl : (backTo pos (starEach es X.env)).any (·.1) = false := by rfl)
    (ht : eval (.Call (.Attribute o m apos) (e :: es) [] pos) X.env = (do
      let it ← eval o X.env; standAt apos.atName; let (fn, first) ← holding [it] (getMethod it m pl)
      callWith pos fn first (backTo pos (starEach (e :: es) X.env)) (backToKw pos (keywordEach [] X.env))) := by rfl) :
    PE X (.Call (.Attribute o m apos) (e :: es) [] pos) (tW (wMeth C m (quiet g) Wo A)) := PE.weak (pe_meth ho c hm F hr hb .nil passL ha hst hpl ht) fun _ _ _ h => meth_red h
end
end DL

set_option maxHeartbeats 4000000
namespace PySem
open PySem PySem.Spec PySem.Calls PyProof.Rows
/-- enumerate(v) of what begins as o -/
theorem dl_enum_new {v : Value} {cell : Obj} {Hc : Heap → Prop} (B : Begins v cell Hc) : Meets (Builtin.«enumerate.__new__» ⟨[.type "enumerate", v], []⟩) (fun _ R s => Hc s.heap ∧
    R (.ok (.ret (.ref (s.heap.push cell).objs.size))) { s with heap := (s.heap.push cell).push { cls := .type "enumerate", data := .fields #[.none, .bool false, .ref s.heap.objs.size, rawInt 0, .none, .none] } }) :=
  .of_wp fun prog w A R s hyp => by
    obtain ⟨h0, gens, drawn, toks, os⟩ := s
    obtain ⟨hc, hyp⟩ := hyp
    have hsub := sub_enumerate
    have begin_ : ∀ {A' : Around} {E Q : Value → Shared → Prop}, Q (.ref h0.objs.size) ⟨h0.push cell, gens, drawn, toks, os⟩ → wpAny (model prog w) A' (pyIter v) Q E ⟨h0, gens, drawn, toks, os⟩ :=
      fun {A' E Q} q => B.iter prog w _ _ ⟨h0, gens, drawn, toks, os⟩ _ hc q
    wp_walk using begin_
    refine wpAny_stack_any fun frames => wpAny_pure ?_
    split
    · rename_i cl _ _ _ _ _
      cases (cl == Value.type "enumerate") <;> (wp_walk using begin_; exact ⟨_, rfl, hyp⟩)
    · wp_walk using begin_
      exact ⟨_, rfl, hyp⟩
theorem dl_enum_tuple {prog : Program} {w : World} {A : Around} {E : Value → Shared → Prop} {s : Shared} {t : Addr} {items : Array Value} {Q : Value → Shared → Prop} (tup : s.heap.IsTuple t items)
    (k : ∀ h', IsEnum h' (s.heap.objs.size + 1) s.heap.objs.size 0 .none → h'.IsTupleIter s.heap.objs.size t 0 → (∀ b o, s.heap.get? b = some o → h'.get? b = some o) → Q (.ref (s.heap.objs.size + 1)) { s with heap := h' }) :
    wpAny (model prog w) A (call (.type "enumerate") [.ref t]) Q E s := by
  refine callType_new F.called_enumerate (by decide) (F.typeCall_enumerate_1 _) (F.newCall_enumerate_1 _) (fun obj => F.args_object_init_2 obj _) F.entry_enumerate_new (dl_enum_new (begins_tuple t items)) ⟨tup, ?_⟩
  generalize hit : ({ cls := .type "tuple_iterator", data := .fields #[.ref t, .int 0 0] } : Obj) = cell
  have free : cell.isFreed = false := by rw [← hit]; rfl
  have sz : (s.heap.push cell).objs.size = s.heap.objs.size + 1 := Heap.size_push ..
  show _ ∧ _
  rw [sz]
  have made : IsEnum ((s.heap.push cell).push { cls := .type "enumerate", data := .fields #[.none, .bool false, .ref s.heap.objs.size, rawInt 0, .none, .none] }) (s.heap.objs.size + 1) s.heap.objs.size 0 .none := by
    have z := Heap.get?_push_size (s.heap.push cell) (o := { cls := .type "enumerate", data := .fields #[.none, .bool false, .ref s.heap.objs.size, rawInt 0, .none, .none] }) rfl
    rw [sz] at z
    exact z
  exact ⟨⟨_, made, rfl⟩, k _ made ⟨cell, Heap.get?_push_of_some _ (Heap.get?_push_size _ free), by rw [← hit], by subst hit; rfl⟩ fun b o y => Heap.get?_push_of_some _ (Heap.get?_push_of_some _ y)⟩
end PySem
namespace DL
variable [TabCtx]
open PySem PySem.Spec PyProof.Rows L2
/-- the tuple at a, each item in a new pair -/
def ItE (K : PySem.W.Frag) (a : Addr) : It :=
  ⟨fun i H => ∃ xs x, SqT K H a xs ∧ xs[i]? = some x, fun i H v H' => ∃ T x, v = .ref T ∧ H T = none ∧ H' = upd H T (.tup [.int (i : Nat), x]) ∧ ∀ xs, SqT K H a xs → xs[i]? = some x, fun i H => ∃ xs, SqT K H a xs ∧ xs.length ≤ i⟩
theorem turn_enumE {P : Program} {w : World} {K : PySem.W.Frag} {elts : List Expr} {kk : Nat} {tpos : Pos} (a e it : Addr) :
    Turn P w K (.Tuple elts kk tpos) (ItE K a) [e, it] e (fun i h => (∃ old, IsEnum h e it ((i : Nat) : Int) old) ∧ h.IsTupleIter it a i) where
  mem := List.mem_cons_self
  obj := fun i h ⟨⟨old, he⟩, ⟨o, ho, hc, hd⟩⟩ b hb => by
    rcases List.mem_cons.mp hb with z | z
    · subst z
      exact ⟨_, he, fun v q => nomatch q⟩
    · rw [List.mem_singleton.mp z]
      exact ⟨o, ho, fun v q => by rw [hd] at q; cases q⟩
  keep := fun i h h' ⟨⟨old, he⟩, hit⟩ k => ⟨⟨old, k e List.mem_cons_self _ he⟩, hit.at fun o q => k it (List.mem_cons_of_mem _ List.mem_cons_self) o q⟩
  item := by
    rintro X rfl rfl rfl calm i pins s σ H E I hf ⟨⟨old, he⟩, hit⟩ ⟨xs, x, hq, hx⟩
    obtain ⟨its, rv, p, hz⟩ := I.tuple hq
    have tup : s.heap.IsTuple a its.toArray := p
    obtain ⟨u, hu, ru⟩ := rv.get hx
    have lte : e < s.heap.objs.size := Heap.lt_size he
    obtain ⟨oi, hoi, hci, hdi⟩ := id hit
    obtain ⟨ot, hot, hct, _⟩ := id tup
    have lti : it < s.heap.objs.size := Heap.lt_size hoi
    have e_it : e ≠ it := fun z => by
      subst z
      rw [he] at hoi
      cases hoi
      exact absurd (Value.type.inj hci) (by decide)
    have a_it : a ≠ it := fun z => by
      subst z
      rw [hot] at hoi
      cases hoi
      rw [hct] at hci
      exact absurd hci (by decide)
    have e_a : e ≠ a := fun z => by
      subst z
      rw [he] at hot
      cases hot
      exact absurd (Value.type.inj hct) (by decide)
    have il : i < its.toArray.size := by
      obtain ⟨h1, _⟩ := List.getElem?_eq_some_iff.mp hu
      simpa using h1
    refine wpAny_pyNext_enum_itemD (Draws.tuple (A := X.A.in1) (I.ok.hd calm) it a a_it its.toArray) he ⟨hit, tup⟩ il e_it (by simp [e_it, e_a]) fun y h' tk hy out st' hT hsz kp => ?_
    have ey : y = u := by
      have z : its.toArray[i]? = some u := by simpa using hu
      rw [z] at hy
      exact (Option.some.inj hy).symm
    subst ey
    refine ⟨_, rfl, wpAny_letOwnedTupleGo_enum (s := { s with heap := h', toks := tk + 1 }) out fun h'' he' sb => ?_⟩
    have tT : h''.get? s.heap.objs.size = some { cls := .type "tuple", data := .seq #[.int i tk, y] } := (sb.2 _ (Nat.ne_of_gt lte)).trans hT
    have fresh : ObjOk X.prog X.w (upd H s.heap.objs.size (.tup [.int (i : Nat), x])) h'' s.heap.objs.size (.tup [.int (i : Nat), x]) :=
      ⟨by show 2 ≤ sizeLine; decide, [.int i tk, y], .cons ⟨_, rfl⟩ (.cons ru .nil), ⟨_, tT, rfl, _, rfl⟩⟩
    have J : Inv X pins σ (upd H s.heap.objs.size (.tup [.int (i : Nat), x])) { s with heap := h'', toks := tk + 1 } :=
      I.turnedNew (ch := [e, it]) (fun b ob hb q => (sb.2 b (fun z => hb (by rw [z]; exact List.mem_cons_self))).trans (kp b ob (fun z => hb (by rw [z]; exact List.mem_cons_self)) (fun z => hb (by rw [z]; exact List.mem_cons_of_mem _ List.mem_cons_self)) q)) hf (Nat.le_refl _) fresh
    refine ⟨.ref s.heap.objs.size, _, J, rfl, ⟨_, x, rfl, I.hok.fresh (Nat.le_refl _), rfl, fun ys hy' => by rw [I.tuple_inj hy' hq]; exact hx⟩, ⟨⟨y, ?_⟩, st'.1.at fun o q => (sb.2 it e_it.symm).trans q⟩, fun b hb => ?_⟩
    · rw [show ((i + 1 : Nat) : Int) = (i : Int) + 1 by omega]
      exact he'
    · have lb : b < s.heap.objs.size := by
        rcases List.mem_cons.mp hb with z | z
        · rw [z]; exact lte
        · rw [List.mem_singleton.mp z]; exact lti
      rw [upd_ne (Nat.ne_of_lt lb)]
      exact (hf b hb).1
  done := by
    rintro X rfl rfl rfl calm i pins s σ H E I hf ⟨⟨old, he⟩, hit⟩ ⟨xs, hq, hx⟩
    obtain ⟨its, rv, p, hz⟩ := I.tuple hq
    have tup : s.heap.IsTuple a its.toArray := p
    obtain ⟨oi, hoi, hci, hdi⟩ := id hit
    obtain ⟨ot, hot, hct, _⟩ := id tup
    have a_it : a ≠ it := fun z => by
      subst z
      rw [hot] at hoi
      cases hoi
      rw [hct] at hci
      exact absurd hci (by decide)
    obtain ⟨f0, f1, f2, f3, f4, f5⟩ := hf it (List.mem_cons_of_mem _ List.mem_cons_self)
    have none_ : its.toArray[i]? = none := by
      have := rv.length
      simp only [List.getElem?_toArray]
      exact List.getElem?_eq_none (by omega)
    have calmA : X.A.in1.handled = none := I.ok.hd calm
    have D : Draws X.prog X.w X.A.in1 it [it, a] i (fun _ _ => True) (fun j h => j = i ∧ h.IsTupleIter it a i ∧ h.IsTuple a its.toArray) :=
      ⟨fun j h st => ⟨_, st.2.1.choose_spec.1⟩, fun j h h' st k => ⟨st.1, st.2.1.at fun o q => k it List.mem_cons_self o q, st.2.2.at fun o q => k a (List.mem_cons_of_mem _ List.mem_cons_self) o q⟩,
        fun j s' Q E' lt st _ => absurd st.1 (Nat.ne_of_lt lt), fun s' Q E' st hE => wpAny_nextOf_tuple_end calmA st.2.1 st.2.2 none_ hE⟩
    exact wpAny_pyNext_enum_endD D he ⟨rfl, hit, tup⟩ fun h' eb => ⟨rfl, I.turned (t' := s.toks) (fun b o hb q => eb b o hb q) f0 f1 f3 f4 f5⟩
  self := fun A i s Q E ⟨⟨_, he⟩, _⟩ h => wpAny_pyIter_enum he h
end DL

set_option maxHeartbeats 4000000
namespace DL
open PySem PySem.Spec PyProof.Rows L2
variable [TabCtx]
/-! ### for i, x in enumerate(a tuple) -/
def iEnE (K : PySem.W.Frag) (te : TE) : TI := fun σ H R => te σ H fun v H1 => ∃ a xs, v = .ref a ∧ SqT K H1 a xs ∧ R (ItE K a) H1
theorem boot_enumT : bootBuiltins "enumerate" = some (.type "enumerate") := by decide +kernel
theorem pi_enE {X : Cx} {e : Expr} {te : TE} {p pos tpos : Pos} {elts : List Expr} {kk : Nat} (hg : Gl X "enumerate") (hm : X.mg "enumerate" = none) (he : PE X e te) (hs : starEach [e] X.env = (false, eval e X.env) :: starEach [] X.env := by rfl) (hs1 : starEach [e] X.env = [(false, eval e X.env)] := by rfl) :
    PI X (.Tuple elts kk tpos) (.Call (.Name "enumerate" p) [e] [] pos) (iEnE X.K te) := by
  refine ⟨fun pins s σ H R inv h => ?_⟩
  have args := (pa_cons he pa_nil hs).run pos pins s σ H (fun vs H1 => ∃ a xs, vs = [.ref a] ∧ SqT X.K H1 a xs ∧ R (ItE X.K a) H1) inv
    (show te σ H fun v H1 => (fun r H2 => ∃ a xs, v :: r = [.ref a] ∧ SqT X.K H2 a xs ∧ R (ItE X.K a) H2) [] H1 from by
      have e : (fun v H1 => ∃ a xs, v = V.ref a ∧ SqT X.K H1 a xs ∧ R (ItE X.K a) H1) = fun v H1 => ∃ a xs, v :: [] = [V.ref a] ∧ SqT X.K H1 a xs ∧ R (ItE X.K a) H1 := by
        funext v H1
        simp
      rw [← e]
      exact h)
  refine Call_ (ld_blt inv hg hm boot_enumT (PyProof.Rows.callWith_type1 (thn args fun us s1 ⟨vs, H1, inv1, r1, q1⟩ => ?_) hs1 rfl))
  obtain ⟨a, xs, ex, hq, q⟩ := q1
  subst ex
  cases r1 with
  | cons r rr =>
    cases rr
    cases r
    obtain ⟨its, rv, tup, hz⟩ := inv1.tuple hq
    refine dl_enum_tuple (show s1.heap.IsTuple a its.toArray from tup) fun h' made hit kp => wpAny_pyIter_enum made ?_
    have inv2 : Inv X pins σ H1 { s1 with heap := h' } := inv1.kept (t' := s1.toks) kp
    refine ⟨s1.heap.objs.size + 1, [s1.heap.objs.size + 1, s1.heap.objs.size], _, _, H1, rfl, inv2, turn_enumE a _ _, ⟨⟨.none, made⟩, hit⟩, fun b hb => ?_, q⟩
    have above : s1.heap.objs.size ≤ b := by
      rcases List.mem_cons.mp hb with z | z
      · rw [z]; exact Nat.le_succ _
      · rw [List.mem_singleton.mp z]; exact Nat.le_refl _
    exact inv1.fpOk above (inv1.hok.fresh above)
theorem walk_enE {K : PySem.W.Frag} {a : Addr} {xs : List V} : Walk (ItE K a) xs.length (fun H => SqT K H a xs) (fun i H v H' => ∃ T x, v = .ref T ∧ H T = none ∧ H' = upd H T (.tup [.int (i : Nat), x]) ∧ xs[i]? = some x) :=
  ⟨fun i _ hi q => ⟨xs, xs[i], q, by simp [hi]⟩, fun _ q => ⟨xs, q, Nat.le_refl _⟩, fun i H v H' _ q ⟨T, x, h1, h2, h3, h4⟩ => ⟨T, x, h1, h2, h3, h4 xs q⟩⟩
/-- for x1, x2 in enumerate(W), by what holds between the turns -/
def gForE (i1 i2 : Nat) (W : WE) (G : WS) : WS := fun ds N R Z => W ds fun d => ∃ xs, d = .tup xs ∧ ∃ I : Nat → Sl → Prop, I 0 ds ∧ (∀ (j : Nat) x ds', xs[j]? = some x → I j ds' → G ((ds'.set i1 (some (.int (j : Int)))).set i2 (some x)) (I (j + 1)) R Z) ∧ ∀ ds', I xs.length ds' → N ds'
theorem ws_forE {X : Cx} {i1 i2 kk : Nat} {x1 x2 : Str} {p1 p2 tpos p pos pf : Pos} {e : Expr} {body : List Stmt} {E : XK} {G : WS} {W : WE} (hp : PassesOwn (model X.prog X.w) X.A X.env X.xe) (hc : X.calm = true) (hg : Gl X "enumerate") (hm : X.mg "enumerate" = none) (he : PE X e (tW W))
    (h1 : PG X (.Name x1 p1) (gName i1)) (h2 : PG X (.Name x2 p2) (gName i2)) (hb : PSs X body (tSW E G)) (hs : starEach [e] X.env = (false, eval e X.env) :: starEach [] X.env := by rfl) (hs1 : starEach [e] X.env = [(false, eval e X.env)] := by rfl)
    (hf : ∀ x, foldedSetIterable (.Call (.Name "enumerate" p) [e] [] pos) X.env x = pure x := by intro _; rfl) :
    PS X (.For (.Tuple [.Name x1 p1, .Name x2 p2] kk tpos) (.Call (.Name "enumerate" p) [e] [] pos) body [] pf) (tSW E (gForE i1 i2 W G)) :=
  PS.weak (ps_for hp hc (pi_enE hg hm he hs hs1) (pg_tup (n := 2) hc (pgs_cons h1 (pgs_cons h2 pgs_nil))) hb hf) fun D σ H ⟨O, ds, N, R, Z, hS, hO, hG, hN, hR, hZ⟩ => ⟨O, ds, _, hS, hO, hG, fun d hd v H1 e1 q1 => by
    obtain ⟨xs, rfl, I, h0, hst, hend⟩ := hd
    cases q1 with
    | @tup a vs _ ox rd al =>
      refine ⟨a, vs, rfl, .inl rd, ?_⟩
      have lw := al.length
      refine for_it walk_enE (fun j σ2 H2 => ∃ ds', I j ds' ∧ SlD O H2 σ2 ds' ∧ Ext O H1 H2) ⟨ds, h0, hS.mono e1, .refl _ _⟩ (fun j σ2 H2 _ ⟨_, _, _, e2⟩ => .inl (rd_keep e2.keep ox rd)) ?_ ?_
      · rintro j v σ2 H2 H' hj ⟨ds', hI, hS2, e2⟩ ⟨T, x, rfl, hT, rfl, hx⟩
        have hj' : j < xs.length := by rw [← lw]; exact hj
        obtain ⟨u, eu, qu⟩ := al.get (i := j) (d := xs[j]) (by simp [hj'])
        rw [hx] at eu
        cases eu
        have e3 := e1.trans e2
        have en : Ext O H2 (upd H2 T (.tup [.int (j : Nat), x])) := .new hT
        have e4 := e3.trans en
        refine ⟨T, _, rfl, .inl (.of upd_same), rfl, _, _, rfl, _, _, rfl, rfl, ?_⟩
        exact ⟨O, _, I (j + 1), R, Z, ((hS2.mono en).set i1 (.int _)).set i2 (qu.mono (e2.trans en)), hO.mono e4, hst j _ ds' (by simp [hj']) hI, fun d3 h3 σ3 H3 e5 s3 => ⟨d3, h3, s3, e2.trans (en.trans e5)⟩,
          fun d h v H3 e5 q => hR d h v H3 (e4.trans e5) q, fun C d h dx v H3 e5 ox => hZ C d h dx v H3 (e4.trans e5) ox⟩
      · rintro σ2 H2 ⟨ds', hI, hS2, e2⟩
        rw [lw] at hI
        exact hN ds' (hend ds' hI) σ2 H2 (e1.trans e2) hS2⟩
/-- .. while a list is held -/
def gForEH (i1 i2 : Nat) (W : WE) (G : WH) : WH := fun ds dv N R Z => W ds fun d => ∃ xs, d = .tup xs ∧ ∃ I : Nat → Sl → List D → Prop, I 0 ds dv ∧
  (∀ (j : Nat) x ds' dv', xs[j]? = some x → I j ds' dv' → G ((ds'.set i1 (some (.int (j : Int)))).set i2 (some x)) dv' (I (j + 1)) R Z) ∧ ∀ ds' dv', I xs.length ds' dv' → N ds' dv'
theorem hs_forE {X : Cx} {i i1 i2 kk : Nat} {x1 x2 : Str} {p1 p2 tpos p pos pf : Pos} {e : Expr} {body : List Stmt} {E : XK} {G : WH} {W : WE} (n1 : i ≠ i1) (n2 : i ≠ i2) (hp : PassesOwn (model X.prog X.w) X.A X.env X.xe) (hc : X.calm = true) (hg : Gl X "enumerate") (hm : X.mg "enumerate" = none) (he : PE X e (tW W))
    (h1 : PG X (.Name x1 p1) (gName i1)) (h2 : PG X (.Name x2 p2) (gName i2)) (hb : PSs X body (tHW E i G)) (hs : starEach [e] X.env = (false, eval e X.env) :: starEach [] X.env := by rfl) (hs1 : starEach [e] X.env = [(false, eval e X.env)] := by rfl)
    (hf : ∀ x, foldedSetIterable (.Call (.Name "enumerate" p) [e] [] pos) X.env x = pure x := by intro _; rfl) :
    PS X (.For (.Tuple [.Name x1 p1, .Name x2 p2] kk tpos) (.Call (.Name "enumerate" p) [e] [] pos) body [] pf) (tHW E i (gForEH i1 i2 W G)) :=
  PS.weak (ps_for hp hc (pi_enE hg hm he hs hs1) (pg_tup (n := 2) hc (pgs_cons h1 (pgs_cons h2 pgs_nil))) hb hf) fun D σ H ⟨O, p, ws, ds, dv, N, R, Z, op, hi, hd, hG, hN, hR, hZ⟩ => ⟨_, ds, _, hd.sl, hd.ow, hG, fun d hdd v H1 e1 q1 => by
    obtain ⟨xs, rfl, I, h0, hst, hend⟩ := hdd
    cases q1 with
    | @tup a vs _ ox rd al =>
      refine ⟨a, vs, rfl, .inl rd, ?_⟩
      have lw := al.length
      refine for_it walk_enE (fun j σ2 H2 => ∃ ds' dv' ws', I j ds' dv' ∧ ds'[i]? = some (some (.fn p)) ∧ Hd O p ws' H2 σ2 ds' dv' ∧ ExtH O p H1 H2) ⟨ds, dv, ws, h0, hi, hd.mono e1, .refl _ _ _⟩
        (fun j σ2 H2 _ ⟨_, _, _, _, _, _, e2⟩ => .inl (rd_keep (fun b o x h t => e2.keep b o x.hold_out x.hold_ne h t) ox rd)) ?_ ?_
      · rintro j v σ2 H2 H' hj ⟨ds', dv', ws', hI, hi', hd', e2⟩ ⟨T, x, rfl, hT, rfl, hx⟩
        have hj' : j < xs.length := by rw [← lw]; exact hj
        obtain ⟨u, eu, qu⟩ := al.get (i := j) (d := xs[j]) (by simp [hj'])
        rw [hx] at eu
        cases eu
        have en : Ext (O ++ [(p, Own.hold (HO.lst ws'))]) H2 (upd H2 T (.tup [.int (j : Nat), x])) := .new hT
        have hd2 := hd'.mono en
        have e3 := (ExtH.of e1).trans (e2.trans (.of en))
        have kk : ∀ b o, Out (O ++ [(p, Own.hold (HO.lst ws))]) b → H1 b = some o → NT o → upd H2 T (.tup [.int (j : Nat), x]) b = some o := fun b o x h t => en.keep b o (out_rehold x) (e2.keep b o x.hold_out x.hold_ne h t) t
        refine ⟨T, _, rfl, .inl (.of upd_same), rfl, _, _, rfl, _, _, rfl, rfl, ?_⟩
        refine ⟨O, p, ws', _, dv', I (j + 1), R, Z, op, ?_, ⟨(hd2.sl.set i1 (.int _)).set i2 ((qu.keep kk).rehold), hd2.al, hd2.ow⟩, hst j _ ds' dv' (by simp [hj']) hI, fun ds3 dv3 h3 ws3 σ3 H3 e5 hi3 hd3 => ⟨ds3, dv3, ws3, h3, hi3, hd3, e2.trans ((ExtH.of en).trans e5)⟩,
          fun d h v H3 e5 q => hR d h v H3 (e3.trans e5) q, fun C d h dx v H3 e5 ox => hZ C d h dx v H3 (e3.trans e5) ox⟩
        rw [List.getElem?_set_ne n2.symm, List.getElem?_set_ne n1.symm]
        exact hi'
      · rintro σ2 H2 ⟨ds', dv', ws', hI, hi', hd', e2⟩
        rw [lw] at hI
        exact hN ds' dv' (hend ds' dv' hI) ws' σ2 H2 ((ExtH.of e1).trans e2) hi' hd'⟩
/-! ### x not in (texts) -/
def dNotIn : DOp := fun x y P => match x, y with
  | .str a, .tup ds => ∃ xs, strsOf ds = some xs ∧ P (.bl (!decide (a ∈ xs)))
  | .str a, .lst ds => ∃ xs, strsOf ds = some xs ∧ P (.bl (!decide (a ∈ xs)))
  | _, _ => False
end DL

set_option maxHeartbeats 4000000
namespace DL
open PySem PySem.Spec PyProof.Rows L2
variable [TabCtx]
/-! ### {k: v for x in ..} -/
/-- an item put into a dict, as data -/
def putD : List Key → List D → Key → D → List Key × List D
  | k :: ks, d :: ds, q, x => if k = q then (k :: ks, x :: ds) else ((k :: (putD ks ds q x).1), d :: (putD ks ds q x).2)
  | _, _, q, x => ([q], [x])
/-- the whole, one item after another -/
def wEachD (f g : D → (D → Prop) → Prop) : List D → List Key → List D → (List Key → List D → Prop) → Prop
  | [], ks, es, P => P ks es
  | x :: xs, ks, es, P => f x fun y => g x fun z => ∃ q, keyD y = some q ∧ es.length < sizeLine ∧ ks.length = es.length ∧ ks.Nodup ∧ wEachD f g xs (putD ks es q z).1 (putD ks es q z).2 P
theorem putD_rel {O : Ow} {H : Hp} {q : Key} {u : V} {x : D} : ∀ {ks : List Key} {vs : List V} {ds : List D}, ks.Nodup → ks.length = ds.length → DqAll O H vs ds → Dq O H u x →
    ∃ ws, putK (ks.zip vs) q u = ((putD ks ds q x).1).zip ws ∧ DqAll O H ws (putD ks ds q x).2
  | [], _, _, _, hl, q0, qx => by
    cases q0 with
    | nil => exact ⟨[u], by simp [putK, putD], .cons qx .nil⟩
    | cons a b => simp at hl
  | k :: ks, _, [], _, hl, _, _ => by simp at hl
  | k :: ks, _, d :: ds, nd, hl, q0, qx => by
    cases q0 with
    | @cons v vs _ _ a b =>
      obtain ⟨nk, nd'⟩ := List.nodup_cons.mp nd
      by_cases e : k = q
      · refine ⟨u :: vs, ?_, by simp only [putD, if_pos e]; exact .cons qx b⟩
        subst e
        have rest : ∀ {ks' : List Key} {vs' : List V}, k ∉ ks' → (ks'.zip vs').map (fun kv => if kv.1 = k then (kv.1, u) else kv) = ks'.zip vs' := by
          intro ks'
          induction ks' with
          | nil => intro vs' _; rfl
          | cons c cs ih =>
            intro vs' hc
            cases vs' with
            | nil => rfl
            | cons w ws =>
              have c1 : ¬ c = k := fun z => hc (by rw [z]; exact List.mem_cons_self)
              simp only [List.zip_cons_cons, List.map_cons, if_neg c1]
              rw [ih fun z => hc (List.mem_cons_of_mem _ z)]
        unfold putK
        simp only [putD, List.zip_cons_cons, List.any_cons, decide_true, Bool.true_or, if_true, List.map_cons]
        rw [rest nk]
      · obtain ⟨ws, h1, h2⟩ := putD_rel (q := q) (u := u) (x := x) nd' (by simpa using hl) b qx
        refine ⟨v :: ws, ?_, by simp only [putD, if_neg e]; exact .cons a h2⟩
        simp only [putD, if_neg e, List.zip_cons_cons]
        rw [← h1]
        unfold putK
        simp only [List.any_cons, decide_eq_false e, Bool.false_or, List.map_cons, if_neg e]
        split <;> simp
end DL

set_option maxHeartbeats 4000000
namespace DL
open PySem PySem.Spec PyProof.Rows L2
variable [TabCtx]
/-- as lc_it, a dict -/
theorem dc_itW {J : It} {n : Nat} {G : Hp → Prop} {Y : Nat → Hp → V → Hp → Prop} (w : Walk J n G Y) {g : TG} {tt : TT} {tk tv : TE} {is : List Nat} {σ : L2.St} {H1 : Hp} {D : Addr} {Q : Hp → Prop} (Pv : Nat → Hp → Prop) (h0 : Pv 0 (upd H1 D (.dK [])))
    (hG : ∀ i H, i ≤ n → Pv i H → G H) (turn : ∀ i x H H', i < n → Pv i H → Y i H x H' → g x (wipe σ is) H' fun σ2 H2 => wipe σ2 is = wipe σ is ∧ tt σ2 H2 fun b H3 =>
      if b = true then tk σ2 H3 fun y H4 => tv σ2 H4 fun z H5 => ∃ kvs k, y = kV k ∧ H5 D = some (.dK kvs) ∧ kvs.length < sizeLine ∧ Pv (i + 1) (upd H5 D (.dK (putK kvs k z))) else Pv (i + 1) H3) (done : ∀ H, Pv n H → Q H) :
    ∃ W : Nat → Nat → Hp → Prop, (∃ m, W 0 m (upd H1 D (.dK []))) ∧ ∀ i m H, W i m H →
      (J.stop i H ∧ Q H) ∨ (J.go i H ∧ ∃ Nx : Hp → Prop, (∀ H', Nx H' → ∃ m', m' < m ∧ W (i + 1) m' H') ∧ ∀ x H', J.yld i H x H' → g x (wipe σ is) H' fun σ2 H2 => wipe σ2 is = wipe σ is ∧ tt σ2 H2 fun b H3 =>
        if b = true then tk σ2 H3 fun y H4 => tv σ2 H4 fun z H5 => ∃ kvs k, y = kV k ∧ H5 D = some (.dK kvs) ∧ kvs.length < sizeLine ∧ Nx (upd H5 D (.dK (putK kvs k z))) else Nx H3) := by
  refine ⟨fun i m H => m = n - i ∧ i ≤ n ∧ Pv i H, ⟨n, by simp, Nat.zero_le _, h0⟩, ?_⟩
  rintro i m H ⟨rfl, le, pv⟩
  have gd := hG i H le pv
  by_cases lt : i < n
  · exact .inr ⟨w.goes i H lt gd, Pv (i + 1), fun H' pv' => ⟨n - (i + 1), by omega, rfl, lt, pv'⟩, fun x H' y => turn i x H H' lt pv (w.yields i H x H' lt gd y)⟩
  · obtain rfl : i = n := by omega
    exact .inl ⟨w.stops H gd, done H pv⟩
def wDc (i : Nat) (Wi : WI) (Wk Wv : WE) : WE := fun ds P => Wi ds fun xs => wEachD (fun x P' => Wk (ds.set i (some x)) P') (fun x P' => Wv (ds.set i (some x)) P') xs [] [] fun ks es => P (.dct ks es)
theorem putD_len : ∀ {ks : List Key} {es : List D} {q : Key} {z : D}, ks.length = es.length → (putD ks es q z).1.length = (putD ks es q z).2.length
  | [], [], _, _, _ => rfl
  | [], _ :: _, _, _, h => by simp at h
  | _ :: _, [], _, _, h => by simp at h
  | k :: ks, d :: ds, q, z, h => by
    unfold putD
    split
    · exact h
    · simpa using putD_len (ks := ks) (es := ds) (by simpa using h)
theorem dc_red {i : Nat} {Wi : WI} {Wk Wv : WE} {σ : L2.St} {H : Hp} {Q : VK} (h : tW (wDc i Wi Wk Wv) σ H Q) : tDc (tIW Wi) (gName i) tYes (tW Wk) (tW Wv) [i] σ H Q := by
  obtain ⟨O, ds, P, hS, hO, hW, k⟩ := h
  refine ⟨O, ds, _, hS, hO, hW, fun xs hx J H1 e1 ⟨G, w, hG⟩ D nD => ?_⟩
  have S1 := hS.mono e1
  have O1 := hO.mono e1
  have oD : Out O D := O1.out nD
  refine dc_itW w (fun j H2 => ∃ ks vs es, H2 D = some (.dK (ks.zip vs)) ∧ DqAll (O ++ [(D, .hold (.dK (ks.zip vs)))]) H2 vs es ∧ OwnAll O H2 ∧ (∀ b o, Out O b → H1 b = some o → NT o → H2 b = some o) ∧
    wEachD (fun x P' => Wk (ds.set i (some x)) P') (fun x P' => Wv (ds.set i (some x)) P') (xs.drop j) ks es fun ks es => P (.dct ks es)) ?h0 ?hG ?hs ?hd
  case h0 => exact ⟨[], [], [], upd_same, .nil, O1.mono (.new nD), (Ext.new nD).keep, by simpa using hx⟩
  case hG =>
    rintro j H2 _ ⟨_, _, _, _, _, _, kp, _⟩
    exact hG H2 kp
  case hs =>
    rintro j x H2 H' hj ⟨ks, vs, es, hD, hq, hO2, kp, hw⟩ ⟨rfl, d, hd, qd⟩
    have ed : xs.drop j = d :: xs.drop (j + 1) := by
      obtain ⟨h1, h2⟩ := List.getElem?_eq_some_iff.mp hd
      rw [List.drop_eq_getElem_cons h1, h2]
    rw [ed] at hw
    refine ⟨?_, ?_⟩
    · show (((σ.set i none).set i (some x)).set i none) = σ.set i none
      rw [List.set_set, List.set_set]
    · show tW Wk _ _ _
      have kp' : ∀ b o, Out (O ++ [(D, .hold (.dK (ks.zip vs)))]) b → H1 b = some o → NT o → H' b = some o := fun b o hb h t => kp b o hb.hold_out h t
      have qd' : Dq (O ++ [(D, .hold (.dK (ks.zip vs)))]) H' x d := (qd.more (fresh_none nD)).keep kp'
      have S2 : SlD (O ++ [(D, .hold (.dK (ks.zip vs)))]) H' ((σ.set i none).set i (some x)) (ds.set i (some d)) := by
        rw [List.set_set]
        exact ((S1.more (fresh_none nD)).keep kp').set i qd'
      have O2 : OwnAll (O ++ [(D, .hold (.dK (ks.zip vs)))]) H' := hO2.hold oD hD
      refine ⟨_, _, _, S2, O2, hw, fun y hy vy H4 e4 q4 => ⟨_, _, _, S2.mono e4, O2.mono e4, hy, fun z hz vz H5 e5 q5 => ?_⟩⟩
      obtain ⟨q, hk, hl, hlen, nd, hrest⟩ := hz
      have e45 := e4.trans e5
      have hD5 := e45.hold_at hD
      have a5 := hq.mono e45
      have ek := keyD_kV hk q4
      subst ek
      obtain ⟨ws, p1, p2⟩ := putD_rel (q := q) nd hlen a5 q5
      have lz : (ks.zip vs).length < sizeLine := by
        rw [List.length_zip, a5.length, hlen, Nat.min_self]
        exact hl
      refine ⟨_, q, rfl, hD5, lz, _, ws, _, by rw [upd_same, p1], ?_, ⟨fun r hr => ?_, hO2.uq, hO2.tabs⟩, fun b o hb h t => ?_, hrest⟩
      · refine (p2.keep fun b o hb h _ => ?_).rehold
        rw [upd_ne hb.hold_ne]
        exact h
      · obtain ⟨u, h1, h2⟩ := e45.own r (List.mem_append_left _ hr) (hO2.here r hr)
        exact ⟨u, by rw [upd_ne (fun e => oD r hr e.symm)]; exact h1, h2.upd (noCode_of hD5)⟩
      · have bD : b ≠ D := ne_of_none h nD
        rw [upd_ne bD]
        exact e45.keep b o (fun r hr => by
          rcases List.mem_append.mp hr with z | z
          · exact hb r z
          · rw [List.mem_singleton.mp z]; exact bD) (kp b o hb h t) t
  case hd =>
    rintro H2 ⟨ks, vs, es, hD, hq, hO2, kp, hw⟩
    rw [List.drop_length] at hw
    exact k _ hw _ H2 (e1.trans ⟨kp, fun p hp _ => hO2.here p hp⟩) (.dct oD hD hq.less)
theorem we_dc {X : Cx} {i : Nat} {x : Str} {kx vx tg iter : Expr} {scope : Scope} {Wi : WI} {Wk Wv : WE} {pos : Pos} (hc : X.calm = true) (hN : X.N.Nodup) (hi : PI X tg iter (tIW Wi)) (ok : BlkOk X.N X.env.scope scope [(x, i)])
    (hg : ∀ (s : Shared) (H : Hp) (C : Addr) (cl : List (Str × Addr)) (fp : List Addr), PG (X.blk s H scope (compEnvC scope cl C X.env) fp) tg (gName i))
    (hk : ∀ (s : Shared) (H : Hp) (C : Addr) (cl : List (Str × Addr)) (fp : List Addr), PE (X.blk s H scope (compEnvC scope cl C X.env) fp) kx (tW Wk))
    (hv : ∀ (s : Shared) (H : Hp) (C : Addr) (cl : List (Str × Addr)) (fp : List Addr), PE (X.blk s H scope (compEnvC scope cl C X.env) fp) vx (tW Wv)) (hs : ∀ x, foldedSetIterable iter X.env x = pure x := by intro _; rfl) :
    PE X (.DictComp kx vx [⟨tg, iter, [], 0⟩] scope pos) (tW (wDc i Wi Wk Wv)) :=
  PE.weak (pe_dc (own := [(x, i)]) hc hN hi ok hg (fun _ _ _ _ _ => pts_nil) hk hv hs) fun σ H Q h => dc_red h
end DL

set_option maxHeartbeats 4000000
namespace DL
open PySem PySem.Spec PyProof.Rows L2
variable [TabCtx]
/-! ### __init__: the instance is held while its fields are stored, in their order -/
abbrev mkI (C dx : Addr) (ns : List Str) (vs : List V) : HO := .ins C dx (ns.zip vs)
structure HdI (C dx : Addr) (ns : List Str) (O : Ow) (p : Addr) (vs : List V) (H : Hp) (σ : L2.St) (ds : Sl) (dv : List D) : Prop where
  sl : SlD (O ++ [(p, .hold (mkI C dx ns vs))]) H σ ds
  al : DqAll (O ++ [(p, .hold (mkI C dx ns vs))]) H vs dv
  ow : OwnAll (O ++ [(p, .hold (mkI C dx ns vs))]) H
section
variable {C dx : Addr} {ns : List Str} {O : Ow} {p : Addr} {vs : List V} {H H' : Hp} {σ : L2.St} {ds : Sl} {dv : List D}
theorem HdI.mono (h : HdI C dx ns O p vs H σ ds dv) (e : Ext (O ++ [(p, .hold (mkI C dx ns vs))]) H H') : HdI C dx ns O p vs H' σ ds dv := ⟨h.sl.mono e, h.al.mono e, h.ow.mono e⟩
theorem HdI.at (h : HdI C dx ns O p vs H σ ds dv) : H p = some (mkI C dx ns vs) := by
  obtain ⟨u, h1, h2⟩ := h.ow.here (p, .hold (mkI C dx ns vs)) (by simp)
  have h2' : u = mkI C dx ns vs := h2
  rw [← h2']
  exact h1
theorem HdI.app (h : HdI C dx ns O p vs H σ ds dv) (op : Out O p) {v : V} {d : D} (q : Dq (O ++ [(p, .hold (mkI C dx ns vs))]) H v d) : HdI C dx ns O p (vs ++ [v]) (upd H p (mkI C dx ns (vs ++ [v]))) σ ds (dv ++ [d]) := by
  have k : ∀ b o, Out (O ++ [(p, Own.hold (mkI C dx ns vs))]) b → H b = some o → NT o → upd H p (mkI C dx ns (vs ++ [v])) b = some o := fun b o hb hh _ => by
    rw [upd_ne hb.hold_ne]
    exact hh
  exact ⟨(h.sl.keep k).rehold, ((h.al.keep k).append (.cons (q.keep k) .nil)).rehold, h.ow.put op⟩
end
theorem putF_zip {f : Str} {v : V} : ∀ {ns : List Str} {vs : List V}, ns[vs.length]? = some f → f ∉ ns.take vs.length → putF f v (ns.zip vs) = ns.zip (vs ++ [v])
  | [], _, h, _ => by simp at h
  | n :: ns, [], h, _ => by
    simp at h
    subst h
    simp [putF]
  | n :: ns, u :: us, h, hn => by
    have e : ¬ n = f := fun z => hn (by simp [z])
    have h' : ns[us.length]? = some f := by simpa using h
    have hn' : f ∉ ns.take us.length := fun z => hn (by simp [z])
    show (if n = f then _ else (n, u) :: putF f v (ns.zip us)) = (n, u) :: ns.zip (us ++ [v])
    rw [if_neg e, putF_zip h' hn']
def tKW (E : XK) (i : Nat) (C : Addr) (ns : List Str) (G : WH) : TS := fun Dn σ H => ∃ (O : Ow) (p dx : Addr) (vs : List V) (ds : Sl) (dv : List D) (N : Sl → List D → Prop) (R : DL.D → Prop) (Z : Addr → DL.D → Prop), Out O p ∧ ds[i]? = some (some (.fn p)) ∧ HdI C dx ns O p vs H σ ds dv ∧ G ds dv N R Z ∧
  (∀ ds' dv', N ds' dv' → ∀ vs' σ' H', ExtH O p H H' → ds'[i]? = some (some (.fn p)) → HdI C dx ns O p vs' H' σ' ds' dv' → Dn.nx σ' H') ∧ (∀ d, R d → ∀ v H', ExtH O p H H' → Dq O H' v d → Dn.rt v H') ∧
  ∀ C d, Z C d → ∀ dx v H', ExtH O p H H' → Out O dx → H' dx = some (.xd [("told", v)]) → Dq O H' v d → E (.ref C) (some dx) H'
def gField (ns : List Str) (f : Str) (W : WE) : WH := fun ds dv N _ _ => W ds fun d => ns[dv.length]? = some f ∧ f ∉ ns.take dv.length ∧ dv.length < 1000 ∧ N ds (dv ++ [d])
section
variable {X : Cx} {E : XK} {st : Stmt} {rest : List Stmt} {G1 G2 : WH} {G : WS} {i : Nat} {C : Addr} {ns : List Str}
theorem ks_lift (h : PS X st (tSW E G)) : PS X st (tKW E i C ns (gLift i G)) := PS.weak h fun D σ H ⟨O, p, dx, vs, ds, dv, N, R, Z, op, hi, hd, hG, hN, hR, hZ⟩ =>
  ⟨_, ds, _, R, Z, hd.sl, hd.ow, hG, fun ds' ⟨h1, h2⟩ σ' H' e s => hN ds' dv h2 vs σ' H' (.of e) (by rw [h1]; exact hi) ⟨s, hd.al.mono e, hd.ow.mono e⟩, fun d h v H' e q => hR d h v H' (.of e) q.less, fun C d h dx v H' e ox hx q => hZ C d h dx v H' (.of e) ox.hold_out hx q.less⟩
theorem kss_nil : PSs X [] (tKW E i C ns gNextH) := PSs.weak pss_nil fun D σ H ⟨O, p, dx, vs, ds, dv, N, R, Z, op, hi, hd, hG, hN, hR, hZ⟩ => hN ds dv hG vs σ H (.refl _ _ _) hi hd
theorem kss_one (h1 : PS X st (tKW E i C ns G1)) : PSs X [st] (tKW E i C ns G1) := pss_one h1
theorem kss_cons (h1 : PS X st (tKW E i C ns G1)) (h2 : PSs X rest (tKW E i C ns G2)) : PSs X (st :: rest) (tKW E i C ns (gSeqH G1 G2)) :=
  PSs.weak (pss_cons h1 h2) fun D σ H ⟨O, p, dx, vs, ds, dv, N, R, Z, op, hi, hd, hG, hN, hR, hZ⟩ => ⟨O, p, dx, vs, ds, dv, _, R, Z, op, hi, hd, hG, fun ds' dv' h vs' σ' H' e hi' hd' =>
    ⟨O, p, dx, vs', ds', dv', N, R, Z, op, hi', hd', h, fun ds2 dv2 h2 vs2 σ2 H2 e2 hi2 hd2 => hN ds2 dv2 h2 vs2 σ2 H2 (e.trans e2) hi2 hd2, fun d h v H2 e2 q => hR d h v H2 (e.trans e2) q, fun C d h dx v H2 e2 ox => hZ C d h dx v H2 (e.trans e2) ox⟩, hR, hZ⟩
/-- self.f = e -/
theorem ks_field {f x : Str} {e : Expr} {W : WE} {pos pos' p1 : Pos} (c : Cls X.K C) (na : NoAttr X.K C f) (hx : PE X (.Name x p1) (tVar i)) (he : PE X e (tW W)) (hs : swapsWith e (some (.Attribute (.Name x p1) f pos')) pos.line X.env = pure false := by rfl) :
    PS X (.Assign [.Attribute (.Name x p1) f pos'] e pos) (tKW E i C ns (gField ns f W)) :=
  PS.weak (ps_fld hx he hs) fun D σ H ⟨O, p, dx, vs, ds, dv, N, R, Z, op, hi, hd, hG, hN, hR, hZ⟩ => ⟨_, ds, _, hd.sl, hd.ow, hG, fun d ⟨h1, h2, h3, h4⟩ v H1 e1 q1 => by
    have hd1 := hd.mono e1
    obtain ⟨u, hu, qu⟩ := hd1.sl.val i _ hi
    cases qu
    have lv : vs.length = dv.length := hd1.al.length
    refine ⟨_, hu, p, C, dx, _, rfl, hd1.at, c, na, ?_, ?_⟩
    · rw [List.length_zip]
      exact Nat.lt_of_le_of_lt (Nat.min_le_right _ _) (by rw [lv]; exact h3)
    · rw [putF_zip (by rw [lv]; exact h1) (by rw [lv]; exact h2)]
      exact hN ds _ h4 _ σ _ ((ExtH.of e1).trans (.put op (noCode_of hd1.at))) hi (hd1.app op q1)⟩
end
/-- the promise of an __init__: of the rest of its arguments by data; P: the fields' values in their order -/
abbrev DIn := List D → (List D → Prop) → (Addr → D → Prop) → Prop
def spIni (C : Addr) (ns : List Str) (g : DIn) : Sp := fun ws H Q E => ∃ (O : Ow) (p dx : Addr) (vs : List V) (es : List D) (P : List D → Prop) (Z : Addr → D → Prop), ws = .ref p :: vs ∧ Out O p ∧ H p = some (.ins C dx []) ∧ DqAll (O ++ [(p, .hold (mkI C dx ns []))]) H vs es ∧ OwnAll O H ∧ g es P Z ∧
  (∀ dv, P dv → ∀ us H', ExtH O p H H' → H' p = some (mkI C dx ns us) → DqAll O H' us dv → Q .non H') ∧ ∀ C' d, Z C' d → ∀ dx v H', ExtH O p H H' → Out O dx → H' dx = some (.xd [("told", v)]) → Dq O H' v d → E (.ref C') (some dx) H'
section
variable {P : Program} {w : World} {K : PySem.W.Frag} {mg : Str → Option Value} {base : Heap}
theorem fn_ini {x qual : Str} {st : Stmt} {f C : Addr} {fd : FuncData} {N ps : List Str} {ns : List Str} {k : Nat} {g : DIn} (F : Fun K x qual st f fd) (S : FnScope N ps (defScope st)) (len : ∀ es P Z, g es P Z → es.length + 1 = ps.length)
    (hbody : ∀ (cdv : Value) (A : Around) (outer : List Env) (s : Shared) (H : Hp) (E : XK), Room k (A.deeper (envOfC qual (defScope st) s.heap.objs.size f cdv)) →
      ∃ G, PSs (cxOf (L2.CX P w) P w K mg base N qual (defScope st) f cdv A outer s H E) (defBody st) (tKW E 0 C ns G) ∧ ∀ es P Z, g es P Z → ∀ p, G (startD N (.fn p :: es)) [] (fun _ dv => P dv) (fun _ => False) Z) :
    FnOk P w K mg base (L2.CX P w) (k + 1) f fd ps (spIni C ns g) := by
  refine F.okX S (fun vs H Q E ⟨O, p, dx, ws, es, P, Z, e, _, _, hq, _, hg, _⟩ => ?_) (fun cdv A outer s H vs Q E hr ⟨O, p, dx, ws, es, P, Z, e, op, hp, hq, hO, hg, hP, hZ⟩ => ?_)
  · rw [e, List.length_cons, hq.length]
    exact len _ _ _ hg
  · subst e
    obtain ⟨G, h1, h2⟩ := hbody cdv A outer s H E hr
    have empty : mkI C dx ns [] = .ins C dx [] := by simp [mkI]
    have hp' : H p = some (mkI C dx ns []) := by rw [empty]; exact hp
    have hs : SlD (O ++ [(p, .hold (mkI C dx ns []))]) H (L2.start N (.ref p :: ws)) (startD N (.fn p :: es)) := start_sl (.cons (.fn p) hq)
    refine ⟨_, h1, O, p, dx, [], startD N (.fn p :: es), [], _, _, Z, op, ?_, ⟨hs, .nil, OwnAll.hold hO op hp'⟩, h2 es P Z hg p, fun ds' dv' h us σ' H' e _ hd => hP dv' h us H' e hd.at hd.al.less, fun _ z => z.elim, hZ⟩
    rfl
end
end DL

set_option maxHeartbeats 4000000
namespace DL
open PySem PySem.Spec PyProof.Rows L2
variable [TabCtx]
/-! ### C(..): a new instance -/
section
variable {X : Cx} {CX : CXT} {k : Nat} {C f : Addr} {fd : FuncData} {ps ns : List Str} {x : Str} {p pos : Pos} {e : Expr} {es : List Expr} {A : WA} {g : DIn} {sp : Sp} {t : TA} {W : WX}
/-- as pe_make, what it may let out by the slots as they stand -/
def tMakeS (C : Addr) (sp : Sp) (E : L2.St → XK) (t : TA) : TE := fun σ H Q => t σ H fun vs H1 => ∀ a dx, H1 a = none → H1 dx = none → dx ≠ a → sp (.ref a :: vs) (upd (upd H1 dx (.own a)) a (.ins C dx [])) (fun v H2 => v = .non ∧ Q (.ref a) H2) (E σ)
theorem pe_makeS {E : L2.St → XK} (M : Mk X.K C f) (F : FnOk X.prog X.w X.K X.mg X.base CX k f fd ps sp) (room : Room (k + 1) X.A) (hg : Gl X x) (hm : X.mg x = some (.ref C)) (hb : Binds X.K fd ps []) (pass : ∀ σ, PassesAt CX X σ (E σ))
    (ha : PA X (e :: es) t) (hdb : (x == ("__debug__" : Str)) = false := by decide) (he : starEach (e :: es) X.env = (false, eval e X.env) :: starEach es X.env := by rfl) (hpl : (backTo pos (starEach es X.env)).any (·.1) = false := by rfl) :
    PE X (.Call (.Name x p) (e :: es) [] pos) (tMakeS C sp E t) := by
  refine ⟨fun pins s σ H Q inv h => ?_⟩
  refine wpAny_Call_Name_kw (ld_glob inv hg hm ?_ hdb)
  refine PySem.W.callWith_K (h₀ := X.base) inv.ok.mod.kin M.kp (thn (ha.run pos pins s σ H _ inv h) fun us s1 ⟨vs, H1, inv1, rvs, q⟩ => ⟨inv1.kIn, ?_⟩) he hpl
  have promised := q (s1.heap.objs.size + 1) s1.heap.objs.size (inv1.hok.fresh (Nat.le_succ _)) (inv1.hok.fresh (Nat.le_refl _)) (Nat.ne_of_lt (Nat.lt_succ_self _))
  have inv2 := Inv.made (C := C) inv1
  have args : Vals (V.ref (s1.heap.objs.size + 1) :: vs) (Value.ref (s1.heap.objs.size + 1) :: us) := .cons rfl rvs
  have count : (Value.ref (s1.heap.objs.size + 1) :: us).length = ps.length := by rw [← args.length]; exact F.len _ _ _ _ promised
  have binds := hb _ (Value.ref (s1.heap.objs.size + 1) :: us) inv2.kIn (by rw [List.append_nil]; exact count)
  rw [List.append_nil] at binds
  refine wpAny_call (make_map (f := f) inv1.kIn M.makes M.init (beq_iff_eq.mp M.fn) (codeAny_mono (F.run _ X.stack _ _ ⟨Value.ref (s1.heap.objs.size + 1) :: us, []⟩ (Value.ref (s1.heap.objs.size + 1) :: us) _ _ (E σ) (room.make C us [])
    (inv2.env0.make C us []) binds args promised) fun z s' hz => ?_))
  match z, hz with
  | .error u, hz => exact pass σ pins _ _ u s' inv2 hz
  | .ok .next, hz => exact False.elim hz
  | .ok .brk, hz => exact False.elim hz
  | .ok .cont, hz => exact False.elim hz
  | .ok (.ret u), hz =>
    obtain ⟨v, H', inv3, rv, ev, q3⟩ := inv2.after hz
    subst ev
    exact ⟨rv, ⟨V.ref (s1.heap.objs.size + 1), H', inv3, rfl, q3⟩⟩
def wzNew (C : Addr) (ns : List Str) (g : DIn) (A : WA) : WZ := fun ds P Z => A ds fun es => g es (fun dv => P (.ins C ns dv)) Z
theorem new_red {σ : L2.St} {H : Hp} {Q : VK} (h : tZW W (wzNew C ns g A) σ H Q) : tMakeS C (spIni C ns g) (L2.WE W) (tAW A) σ H Q := by
  obtain ⟨O, ds, P, Z, hS, hO, hA, hP, hZ⟩ := h
  refine ⟨O, ds, _, hS, hO, hA, fun es hg vs H1 e1 q1 a dx na ndx hne => ?_⟩
  have O1 := hO.mono e1
  have op : Out O a := O1.out na
  have e2 : Ext O H1 (upd (upd H1 dx (.own a)) a (.ins C dx [])) := .same fun b o hb => by
    rw [upd_ne (ne_of_none hb na), upd_ne (ne_of_none hb ndx)]
    exact hb
  have kk : ∀ b o, Out (O ++ [(a, Own.hold (mkI C dx ns []))]) b → H1 b = some o → NT o → upd (upd H1 dx (.own a)) a (.ins C dx []) b = some o := fun b o x hh t => e2.keep b o x.hold_out hh t
  exact ⟨O, a, dx, vs, es, _, Z, rfl, op, upd_same, (q1.more (fresh_none na)).keep kk, O1.mono e2, hg, fun dv hdv us H' e hH hal => ⟨rfl, hP _ hdv _ H' (e1.trans (e.drop e2 (fresh_none na))) (.ins op hH hal)⟩,
    fun C' d z dx v H' e ox hx q => hZ C' d z dx v H' (e1.trans (e.drop e2 (fresh_none na))) ox hx q⟩
theorem we_znew (M : Mk X.K C f) (F : FnOk X.prog X.w X.K X.mg X.base (L2.CX X.prog X.w) k f fd ps (spIni C ns g)) (hr : Room (k + 1) X.A) (tk : Takes X W) (hg : Gl X x) (hm : X.mg x = some (.ref C)) (hb : Binds X.K fd ps [])
    (ha : PA X (e :: es) (tAW A)) (hdb : (x == ("__debug__" : Str)) = false := by decide) (he : starEach (e :: es) X.env = (false, eval e X.env) :: starEach es X.env := by rfl) (hpl : (backTo pos (starEach es X.env)).any (·.1) = false := by rfl) :
    PE X (.Call (.Name x p) (e :: es) [] pos) (tZW W (wzNew C ns g A)) :=
  PE.weak (pe_makeS M F hr hg hm hb (fun σ => passAt tk σ) ha hdb he hpl) fun σ H Q h => new_red h
def wNew (C : Addr) (ns : List Str) (g : DIn) (A : WA) : WE := fun ds P => A ds fun es => g es (fun dv => P (.ins C ns dv)) fun _ _ => False
theorem we_new (M : Mk X.K C f) (F : FnOk X.prog X.w X.K X.mg X.base (L2.CX X.prog X.w) k f fd ps (spIni C ns g)) (hr : Room (k + 1) X.A) (hg : Gl X x) (hm : X.mg x = some (.ref C)) (hb : Binds X.K fd ps [])
    (ha : PA X (e :: es) (tAW A)) (hdb : (x == ("__debug__" : Str)) = false := by decide) (he : starEach (e :: es) X.env = (false, eval e X.env) :: starEach es X.env := by rfl) (hpl : (backTo pos (starEach es X.env)).any (·.1) = false := by rfl) :
    PE X (.Call (.Name x p) (e :: es) [] pos) (tW (wNew C ns g A)) :=
  PE.weak (pe_makeS M F hr hg hm hb (fun σ => passAt (W := fun _ _ _ _ => False) takes0 σ) ha hdb he hpl) fun σ H Q ⟨O, ds, P, hS, hO, hA, k⟩ => new_red (W := fun _ _ _ _ => False) ⟨O, ds, P, fun _ _ => False, hS, hO, hA, k, fun _ _ z => z.elim⟩
end
end DL

set_option maxHeartbeats 4000000
namespace DL
open PySem PySem.Spec PyProof.Rows L2
variable [TabCtx]
/-! ### is None, not in -/
def isNonD : D → Bool
  | .non => true
  | _ => false
def dIsN : DOp := fun x y P => y = .non ∧ P (.bl (isNonD x))
def dNotN : DOp := fun x y P => y = .non ∧ P (.bl (!isNonD x))
theorem non_dq {O : Ow} {H : Hp} {v : V} {d : D} (q : Dq O H v d) : decide (v = .non) = isNonD d := by
  cases q <;> first | rfl | (exact decide_eq_false fun z => by cases z)
section
variable {X : Cx}
theorem op_dIsN : OpR X (compareOp .Is) (rD dIsN) := by
  intro pins s σ H x y v u Q I rx ry ⟨O, dx, dy, P, qx, qy, hO, ⟨e, hg⟩, k⟩
  subst e
  cases qy
  exact op_isN pins s σ H _ _ v u Q I rx ry ⟨rfl, k _ hg _ H (.refl _ _) (by rw [non_dq qx]; exact .bl _)⟩
theorem op_dNotN : OpR X (compareOp .IsNot) (rD dNotN) := by
  intro pins s σ H x y v u Q I rx ry ⟨O, dx, dy, P, qx, qy, hO, ⟨e, hg⟩, k⟩
  subst e
  cases qy
  exact op_notN pins s σ H _ _ v u Q I rx ry ⟨rfl, k _ hg _ H (.refl _ _) (by rw [non_dq qx]; exact .bl _)⟩
theorem op_dNotIn : OpR X (compareOp .NotIn) (rD dNotIn) := by
  intro pins s σ H x y v u Q I rx ry ⟨O, dx, dy, P, qx, qy, hO, hg, k⟩
  unfold dNotIn at hg
  split at hg
  · obtain ⟨xs, h1, hg⟩ := hg
    cases qx
    cases qy with
    | tup x2 r2 a2 =>
      have e := strsOf_vs h1 a2
      subst e
      exact op_notIn_seq pins s σ H _ _ v u Q I rx ry ⟨_, _, rfl, .inr (.inl r2), rfl, flat_strs _, k _ hg _ H (.refl _ _) (by rw [if_pos rfl, inV_str]; exact .bl _)⟩
  · obtain ⟨xs, h1, hg⟩ := hg
    cases qx
    cases qy with
    | lst x2 r2 a2 =>
      have e := strsOf_vs h1 a2
      subst e
      exact op_notIn_seq pins s σ H _ _ v u Q I rx ry ⟨_, _, rfl, .inl (.of r2), rfl, flat_strs _, k _ hg _ H (.refl _ _) (by rw [if_pos rfl, inV_str]; exact .bl _)⟩
  · exact hg.elim
end
/-! ### [e for x in .. if c] -/
def wEachI (t : D → (Bool → Prop) → Prop) (f : D → (D → Prop) → Prop) : List D → (List D → Prop) → Prop
  | [], P => P []
  | x :: xs, P => t x fun b => if b = true then f x fun y => wEachI t f xs fun ys => P (y :: ys) else wEachI t f xs P
def wLcI (i : Nat) (Wi : WI) (T : WT) (We : WE) : WE := fun ds P => Wi ds fun xs => xs.length < sizeLine ∧ wEachI (fun x P' => T (ds.set i (some x)) P') (fun x P' => We (ds.set i (some x)) P') xs fun ys => P (.lst ys)
theorem lci_red {i : Nat} {Wi : WI} {T : WT} {We : WE} {σ : L2.St} {H : Hp} {Q : VK} (h : tW (wLcI i Wi T We) σ H Q) : tLc (tIW Wi) (gName i) (tTW T) (tW We) [i] σ H Q := by
  obtain ⟨O, ds, P, hS, hO, hW, k⟩ := h
  refine ⟨O, ds, _, hS, hO, hW, fun xs ⟨hl, hx⟩ J H1 e1 ⟨G, w, hG⟩ D nD => ?_⟩
  have S1 := hS.mono e1
  have O1 := hO.mono e1
  have oD : Out O D := O1.out nD
  have kN : ∀ b o, Out (O ++ [(D, Own.hold (HO.lst []))]) b → H1 b = some o → NT o → upd H1 D (.lst []) b = some o := fun b o x hh _ => by
    rw [upd_ne x.hold_ne]
    exact hh
  refine lc_it w (fun j H2 => ∃ acc dacc, acc.length ≤ j ∧ Hd O D acc H2 (σ.set i none) (ds.set i none) dacc ∧ (∀ b o, Out O b → H1 b = some o → NT o → H2 b = some o) ∧
    wEachI (fun x P' => T (ds.set i (some x)) P') (fun x P' => We (ds.set i (some x)) P') (xs.drop j) fun ys => P (.lst (dacc ++ ys))) ?h0 ?hG ?hs ?hd
  case h0 => exact ⟨[], [], Nat.le_refl _, ⟨((S1.more (fresh_none nD)).keep kN).unset i, .nil, OwnAll.hold (O1.mono (.new nD)) oD upd_same⟩, (Ext.new nD).keep, by simpa using hx⟩
  case hG =>
    rintro j H2 _ ⟨_, _, _, _, kp, _⟩
    exact hG H2 kp
  case hs =>
    rintro j x H2 H' hj ⟨acc, dacc, ha, hd, kp, hw⟩ ⟨rfl, d, hdx, qd⟩
    have ed : xs.drop j = d :: xs.drop (j + 1) := by
      obtain ⟨h1, h2⟩ := List.getElem?_eq_some_iff.mp hdx
      rw [List.drop_eq_getElem_cons h1, h2]
    rw [ed] at hw
    refine ⟨?_, ?_⟩
    · show (((σ.set i none).set i (some x)).set i none) = σ.set i none
      rw [List.set_set, List.set_set]
    · have kp' : ∀ b o, Out (O ++ [(D, .hold (.lst acc))]) b → H1 b = some o → NT o → H' b = some o := fun b o hb h t => kp b o hb.hold_out h t
      have qd' : Dq (O ++ [(D, .hold (.lst acc))]) H' x d := (qd.more (fresh_none nD)).keep kp'
      have es : (ds.set i none).set i (some d) = ds.set i (some d) := List.set_set ..
      have S2 : SlD (O ++ [(D, .hold (.lst acc))]) H' ((σ.set i none).set i (some x)) (ds.set i (some d)) := es ▸ hd.sl.set i qd'
      refine ⟨_, _, _, S2, hd.ow, hw, fun b hb H3 e3 => ?_⟩
      have hd3 := hd.mono e3
      have kp3 : ∀ b o, Out O b → H1 b = some o → NT o → H3 b = some o := fun b o hb h t => e3.keep b o (fun q hq => by
        rcases List.mem_append.mp hq with z | z
        · exact hb q z
        · rw [List.mem_singleton.mp z]; exact ne_of_none h nD) (kp b o hb h t) t
      cases b with
      | false =>
        rw [if_neg Bool.false_ne_true] at hb
        exact ⟨acc, dacc, by omega, hd3, kp3, hb⟩
      | true =>
        rw [if_pos rfl] at hb
        show tW We _ _ _
        refine ⟨_, _, _, S2.mono e3, hd3.ow, hb, fun dy hy v H4 e4 q4 => ?_⟩
        have hd4 := hd3.mono e4
        refine ⟨acc, hd4.at, by omega, acc ++ [v], dacc ++ [dy], by simp; omega, hd4.app oD (.cons q4 .nil), fun b o hb h t => ?_, by simpa using hy⟩
        have bD : b ≠ D := ne_of_none h nD
        rw [upd_ne bD]
        exact e4.keep b o (fun q hq => by
          rcases List.mem_append.mp hq with z | z
          · exact hb q z
          · rw [List.mem_singleton.mp z]; exact bD) (kp3 b o hb h t) t
  case hd =>
    rintro H2 ⟨acc, dacc, ha, hd, kp, hw⟩
    rw [List.drop_length] at hw
    have hw' : P (.lst (dacc ++ [])) := hw
    rw [List.append_nil] at hw'
    exact k _ hw' _ H2 (e1.trans ⟨kp, fun p hp _ => hd.ow.less.here p hp⟩) (.lst oD hd.at hd.al.less)
theorem we_lci {X : Cx} {i : Nat} {x : Str} {elt tg iter c : Expr} {scope : Scope} {Wi : WI} {T : WT} {We : WE} {pos : Pos} (hc : X.calm = true) (hN : X.N.Nodup) (hi : PI X tg iter (tIW Wi)) (ok : BlkOk X.N X.env.scope scope [(x, i)])
    (hg : ∀ (s : Shared) (H : Hp) (C : Addr) (cl : List (Str × Addr)) (fp : List Addr), PG (X.blk s H scope (compEnvC scope cl C X.env) fp) tg (gName i))
    (ht : ∀ (s : Shared) (H : Hp) (C : Addr) (cl : List (Str × Addr)) (fp : List Addr), PT (X.blk s H scope (compEnvC scope cl C X.env) fp) c (tTW T))
    (he : ∀ (s : Shared) (H : Hp) (C : Addr) (cl : List (Str × Addr)) (fp : List Addr), PE (X.blk s H scope (compEnvC scope cl C X.env) fp) elt (tW We)) (hs : ∀ x, foldedSetIterable iter X.env x = pure x := by intro _; rfl) :
    PE X (.ListComp elt [⟨tg, iter, [c], 0⟩] scope pos) (tW (wLcI i Wi T We)) :=
  PE.weak (pe_lc (own := [(x, i)]) hc hN hi ok hg (fun s H C cl fp => pts_one (ht s H C cl fp)) he hs) fun σ H Q h => lci_red h
/-! ### a method without arguments -/
theorem we_meth0 {X : Cx} {k : Nat} {C f : Addr} {fd : FuncData} {ps : List Str} {m : Str} {apos pos : Pos} {o : Expr} {Wo : WE} {g : DSp} {pl : Sem Bool} (ho : PE X o (tW Wo)) (c : Cls X.K C) (hm : Meth X.K C m f) (F : FnOk X.prog X.w X.K X.mg X.base (L2.CX X.prog X.w) k f fd ps (spD g)) (hr : Room k X.A) (hb : Binds X.K fd ps [])
    (ht : eval (.Call (.Attribute o m apos) [] [] pos) X.env = (do
      let it ← eval o X.env; standAt apos.atName; let (fn, first) ← holding [it] (getMethod it m pl)
      callWith pos fn first (backTo pos (starEach [] X.env)) (backToKw pos (keywordEach [] X.env))) := by rfl) :
    PE X (.Call (.Attribute o m apos) [] [] pos) (tW (wMeth C m (quiet g) Wo waNil)) :=
  PE.weak (pe_meth0 ho c hm F hr hb .nil passL ht) fun σ H Q ⟨O, ds, P, hS, hO, hW, k⟩ => ⟨O, ds, _, hS, hO, hW, fun x hx v H1 e1 q1 => by
    obtain ⟨ns, es0, rfl, hm, hA⟩ := hx
    cases q1 with
    | ins o1 r1 a1 => exact ⟨_, _, _, rfl, r1, fld_none hm, O, _, P, fun _ _ => False, .cons (.ins o1 r1 a1) .nil, hO.mono e1, hA, fun d hd v H3 e3 q3 => k d hd v H3 (e1.trans e3) q3, fun _ _ z => z.elim⟩⟩
end DL

set_option maxHeartbeats 4000000
namespace DL
open PySem PySem.Spec PyProof.Rows L2
variable [TabCtx]
/-! ### {k: v for a, b, c in ..} -/
theorem wipe_get {σ : L2.St} : ∀ (vs : List Nat) (j : Nat), (wipe σ vs)[j]? = if j ∈ vs ∧ j < σ.length then some none else σ[j]?
  | [], j => by simp [wipe]
  | v :: vs, j => by
    unfold wipe
    rw [List.getElem?_set, wipe_length, wipe_get vs j]
    by_cases e : v = j
    · subst e
      by_cases l : v < σ.length
      · simp [l]
      · simp [l]
    · have e' : ¬ j = v := fun z => e z.symm
      simp [e, e']
theorem wipe_set {σ : L2.St} {vs : List Nat} {i : Nat} {x : Option V} (hi : i ∈ vs) : wipe (σ.set i x) vs = wipe σ vs := by
  apply List.ext_getElem?
  intro j
  rw [wipe_get, wipe_get, List.length_set]
  by_cases e : i = j
  · subst e
    by_cases l : i < σ.length
    · simp [hi, l]
    · rw [List.getElem?_set]
      simp [l]
  · rw [List.getElem?_set_ne e]
theorem wipe_wipe {σ : L2.St} {vs : List Nat} : wipe (wipe σ vs) vs = wipe σ vs := by
  apply List.ext_getElem?
  intro j
  rw [wipe_get, wipe_get, wipe_length]
  split <;> rfl
def wipeD : Sl → List Nat → Sl
  | ds, [] => ds
  | ds, v :: vs => (wipeD ds vs).set v none
theorem SlD.wipe {O : Ow} {H : Hp} {σ : L2.St} {ds : Sl} (h : SlD O H σ ds) : ∀ vs : List Nat, SlD O H (L2.wipe σ vs) (wipeD ds vs)
  | [] => h
  | v :: vs => (SlD.wipe h vs).unset v
/-- the slots within: a, b, c of the item -/
def at3 (i1 i2 i3 : Nat) (ds : Sl) (a b c : D) : Sl := (((wipeD ds [i1, i2, i3]).set i1 (some a)).set i2 (some b)).set i3 (some c)
def wDc3 (i1 i2 i3 : Nat) (Wi : WI) (Wk Wv : WE) : WE := fun ds P => Wi ds fun xs => wEachD (fun x P' => ∃ a b c, x = .tup [a, b, c] ∧ Wk (at3 i1 i2 i3 ds a b c) P') (fun x P' => ∃ a b c, x = .tup [a, b, c] ∧ Wv (at3 i1 i2 i3 ds a b c) P') xs [] [] fun ks es => P (.dct ks es)
theorem dc_red3 {i1 i2 i3 : Nat} {Wi : WI} {Wk Wv : WE} {K : PySem.W.Frag} {σ : L2.St} {H : Hp} {Q : VK} (h : tW (wDc3 i1 i2 i3 Wi Wk Wv) σ H Q) : tDc (tIW Wi) (gTup K 3 (gCons (gName i1) (gCons (gName i2) (gCons (gName i3) gNil)))) tYes (tW Wk) (tW Wv) [i1, i2, i3] σ H Q := by
  obtain ⟨O, ds, P, hS, hO, hW, k⟩ := h
  refine ⟨O, ds, _, hS, hO, hW, fun xs hx J H1 e1 ⟨G, w, hG⟩ D nD => ?_⟩
  have S1 := hS.mono e1
  have O1 := hO.mono e1
  have oD : Out O D := O1.out nD
  refine dc_itW w (fun j H2 => ∃ ks vs es, H2 D = some (.dK (ks.zip vs)) ∧ DqAll (O ++ [(D, .hold (.dK (ks.zip vs)))]) H2 vs es ∧ OwnAll O H2 ∧ (∀ b o, Out O b → H1 b = some o → NT o → H2 b = some o) ∧
    wEachD (fun x P' => ∃ a b c, x = .tup [a, b, c] ∧ Wk (at3 i1 i2 i3 ds a b c) P') (fun x P' => ∃ a b c, x = .tup [a, b, c] ∧ Wv (at3 i1 i2 i3 ds a b c) P') (xs.drop j) ks es fun ks es => P (.dct ks es)) ?h0 ?hG ?hs ?hd
  case h0 => exact ⟨[], [], [], upd_same, .nil, O1.mono (.new nD), (Ext.new nD).keep, by simpa using hx⟩
  case hG =>
    rintro j H2 _ ⟨_, _, _, _, _, _, kp, _⟩
    exact hG H2 kp
  case hs =>
    rintro j x H2 H' hj ⟨ks, vs, es, hD, hq, hO2, kp, hw⟩ ⟨rfl, d, hd, qd⟩
    have ed : xs.drop j = d :: xs.drop (j + 1) := by
      obtain ⟨h1, h2⟩ := List.getElem?_eq_some_iff.mp hd
      rw [List.drop_eq_getElem_cons h1, h2]
    rw [ed] at hw
    obtain ⟨a, b, c, rfl, hw⟩ := hw
    have kp' : ∀ b o, Out (O ++ [(D, .hold (.dK (ks.zip vs)))]) b → H1 b = some o → NT o → H' b = some o := fun b o hb h t => kp b o hb.hold_out h t
    have qd' : Dq (O ++ [(D, .hold (.dK (ks.zip vs)))]) H' x (.tup [a, b, c]) := (qd.more (fresh_none nD)).keep kp'
    cases qd' with
    | tup ot rt at_ =>
      cases at_ with
      | cons qa at2 =>
        cases at2 with
        | cons qb at3_ =>
          cases at3_ with
          | cons qc at4 =>
            cases at4
            refine ⟨_, _, rfl, .inl rt, rfl, _, _, rfl, _, _, rfl, _, _, rfl, rfl, ?_, ?_⟩
            · rw [wipe_set (by simp), wipe_set (by simp), wipe_set (by simp), wipe_wipe]
            · show tW Wk _ _ _
              have S2 := ((((((S1.more (fresh_none nD)).keep kp').wipe [i1, i2, i3]).set i1 qa).set i2 qb).set i3 qc)
              have O2 : OwnAll (O ++ [(D, .hold (.dK (ks.zip vs)))]) H' := hO2.hold oD hD
              refine ⟨_, _, _, S2, O2, hw, fun y hy vy H4 e4 q4 => ?_⟩
              obtain ⟨a', b', c', ee, hy⟩ := hy
              cases ee
              refine ⟨_, _, _, S2.mono e4, O2.mono e4, hy, fun z hz vz H5 e5 q5 => ?_⟩
              obtain ⟨q, hk, hl, hlen, nd, hrest⟩ := hz
              have e45 := e4.trans e5
              have hD5 := e45.hold_at hD
              have a5 := hq.mono e45
              have ek := keyD_kV hk q4
              subst ek
              obtain ⟨ws, p1, p2⟩ := putD_rel (q := q) nd hlen a5 q5
              have lz : (ks.zip vs).length < sizeLine := by
                rw [List.length_zip, a5.length, hlen, Nat.min_self]
                exact hl
              refine ⟨_, q, rfl, hD5, lz, _, ws, _, by rw [upd_same, p1], ?_, ⟨fun r hr => ?_, hO2.uq, hO2.tabs⟩, fun b o hb h t => ?_, hrest⟩
              · refine (p2.keep fun b o hb h _ => ?_).rehold
                rw [upd_ne hb.hold_ne]
                exact h
              · obtain ⟨u, h1, h2⟩ := e45.own r (List.mem_append_left _ hr) (hO2.here r hr)
                exact ⟨u, by rw [upd_ne (fun e => oD r hr e.symm)]; exact h1, h2.upd (noCode_of hD5)⟩
              · have bD : b ≠ D := ne_of_none h nD
                rw [upd_ne bD]
                exact e45.keep b o (fun r hr => by
                  rcases List.mem_append.mp hr with z | z
                  · exact hb r z
                  · rw [List.mem_singleton.mp z]; exact bD) (kp b o hb h t) t
  case hd =>
    rintro H2 ⟨ks, vs, es, hD, hq, hO2, kp, hw⟩
    rw [List.drop_length] at hw
    exact k _ hw _ H2 (e1.trans ⟨kp, fun p hp _ => hO2.here p hp⟩) (.dct oD hD hq.less)
theorem we_dc3 {X : Cx} {i1 i2 i3 kk : Nat} {x1 x2 x3 : Str} {p1 p2 p3 tpos : Pos} {kx vx iter : Expr} {scope : Scope} {Wi : WI} {Wk Wv : WE} {pos : Pos} (hc : X.calm = true) (hN : X.N.Nodup) (hi : PI X (.Tuple [.Name x1 p1, .Name x2 p2, .Name x3 p3] kk tpos) iter (tIW Wi)) (ok : BlkOk X.N X.env.scope scope [(x1, i1), (x2, i2), (x3, i3)])
    (hg : ∀ (s : Shared) (H : Hp) (C : Addr) (cl : List (Str × Addr)) (fp : List Addr), PG (X.blk s H scope (compEnvC scope cl C X.env) fp) (.Tuple [.Name x1 p1, .Name x2 p2, .Name x3 p3] kk tpos) (gTup X.K 3 (gCons (gName i1) (gCons (gName i2) (gCons (gName i3) gNil)))))
    (hk : ∀ (s : Shared) (H : Hp) (C : Addr) (cl : List (Str × Addr)) (fp : List Addr), PE (X.blk s H scope (compEnvC scope cl C X.env) fp) kx (tW Wk))
    (hv : ∀ (s : Shared) (H : Hp) (C : Addr) (cl : List (Str × Addr)) (fp : List Addr), PE (X.blk s H scope (compEnvC scope cl C X.env) fp) vx (tW Wv)) (hs : ∀ x, foldedSetIterable iter X.env x = pure x := by intro _; rfl) :
    PE X (.DictComp kx vx [⟨.Tuple [.Name x1 p1, .Name x2 p2, .Name x3 p3] kk tpos, iter, [], 0⟩] scope pos) (tW (wDc3 i1 i2 i3 Wi Wk Wv)) :=
  PE.weak (pe_dc (own := [(x1, i1), (x2, i2), (x3, i3)]) hc hN hi ok hg (fun _ _ _ _ _ => pts_nil) hk hv hs) fun σ H Q h => dc_red3 h
/-! ### name = {..} on one line, the name a local: the display stores by itself -/
theorem sw_dict {kx vx : Expr} {gs : List Comprehension} {scope : Scope} {pos py : Pos} {y : Str} {l : Nat} {env : Env} (fn : env.scope.kind = .function) (loc : env.scope.names.lookup y = some .local) (line : (py.line == pos.line) = true)
    (apart : (scope.names.any fun (n, k) => n == y && (k == .local || k == .cell)) = false) : swapsWith (.DictComp kx vx gs scope pos) (some (.Name y py)) l env = pure true := by
  have k1 : env.kindOf y = some .local := loc
  have k2 : env.blockKind = .function := by
    unfold Env.blockKind
    rw [fn]
    rfl
  unfold swapsWith
  simp only [k2, k1, apart, Expr.pos, line]
  rfl
theorem ps_setDc {X : Cx} {i : Nat} {y : Str} {py : Pos} {kx vx tg iter : Expr} {scope : Scope} {own : List (Str × Nat)} {pos spos : Pos} {wi : TI} {g : TG} {tk tv : TE} (calm : X.calm = true) (hN : X.N.Nodup) (hy : X.N[i]? = some y) (loc : X.env.scope.names.lookup y = some .local)
    (used : swapsWith (.DictComp kx vx [⟨tg, iter, [], 0⟩] scope pos) (some (.Name y py)) spos.line X.env = pure true) (hi : PI X tg iter wi) (ok : BlkOk X.N X.env.scope scope own)
    (hg : ∀ (s : Shared) (H : Hp) (C : Addr) (cl : List (Str × Addr)) (fp : List Addr), PG (X.blk s H scope (compEnvC scope cl C X.env) fp) tg g)
    (hk : ∀ (s : Shared) (H : Hp) (C : Addr) (cl : List (Str × Addr)) (fp : List Addr), PE (X.blk s H scope (compEnvC scope cl C X.env) fp) kx tk)
    (hv : ∀ (s : Shared) (H : Hp) (C : Addr) (cl : List (Str × Addr)) (fp : List Addr), PE (X.blk s H scope (compEnvC scope cl C X.env) fp) vx tv) (hs : ∀ x, foldedSetIterable iter X.env x = pure x := by intro _; rfl) :
    PS X (.Assign [.Name y py] (.DictComp kx vx [⟨tg, iter, [], 0⟩] scope pos) spos) (tAsg (tDc wi g tYes tk tv (own.map (·.2))) (gName i)) := by
  refine ⟨fun pins s σ H D inv h => ?_⟩
  rw [exec_Assign_Name_used _ _ _ _ used]
  refine wpAny_bind (wpAny_standAt (wpAny_bind ?_))
  show wpAny _ X.A (do let _ ← comprehension (.DictComp kx vx [⟨tg, iter, [], 0⟩] scope pos) scope X.env (firstIterPos [⟨tg, iter, [], 0⟩] pos) newDict false (eval iter X.env) (some (assign (.Name y py) X.env))) _ _ s
  have h' : tDc wi g tYes tk tv (own.map (·.2)) σ H (fun x H1 => gName i x σ H1 D.nx) := h
  refine wpAny_bind (thn (dc_core (Qf := fun _ s' => SP X pins D .next s') calm hN inv hi ok hg (fun _ _ _ _ _ => pts_nil) hk hv hs h' fun L C s' m H' inv' q nsC fp => ?_) fun _ s' hq => wpAny_pure (wpAny_pure hq))
  show wpAny _ _ (assign (.Name y py) X.env (.ref L)) _ _ _
  refine wpAny_assign_Name (store_ok2 (v := V.ref L) inv' hN hy (.inl loc) rfl (fun s2 inv2 ⟨a, same, where_⟩ => ?_) (.inr loc))
  obtain ⟨f0, f1, f2, f3, f4, f5⟩ := fp
  have apart : C ≠ a := by
    rcases where_ with z | z
    · rw [z]
      exact f1
    · exact fun e => f4 y a z e.symm
  exact ⟨m, nsC.sameBut same apart, fun h3 same3 => ⟨_, H', inv2.turned (t' := s2.toks) (fun b o hb e => (same3.2 b hb).trans e) f0 f1 f3 f4 f5, q⟩⟩
theorem ws_setDc3 {X : Cx} {i i1 i2 i3 kk : Nat} {y x1 x2 x3 : Str} {py p1 p2 p3 tpos : Pos} {kx vx iter : Expr} {scope : Scope} {Wi : WI} {Wk Wv : WE} {pos spos : Pos} {E : XK} (calm : X.calm = true) (hN : X.N.Nodup) (hy : X.N[i]? = some y) (loc : X.env.scope.names.lookup y = some .local)
    (hi : PI X (.Tuple [.Name x1 p1, .Name x2 p2, .Name x3 p3] kk tpos) iter (tIW Wi)) (ok : BlkOk X.N X.env.scope scope [(x1, i1), (x2, i2), (x3, i3)])
    (hg : ∀ (s : Shared) (H : Hp) (C : Addr) (cl : List (Str × Addr)) (fp : List Addr), PG (X.blk s H scope (compEnvC scope cl C X.env) fp) (.Tuple [.Name x1 p1, .Name x2 p2, .Name x3 p3] kk tpos) (gTup X.K 3 (gCons (gName i1) (gCons (gName i2) (gCons (gName i3) gNil)))))
    (hk : ∀ (s : Shared) (H : Hp) (C : Addr) (cl : List (Str × Addr)) (fp : List Addr), PE (X.blk s H scope (compEnvC scope cl C X.env) fp) kx (tW Wk))
    (hv : ∀ (s : Shared) (H : Hp) (C : Addr) (cl : List (Str × Addr)) (fp : List Addr), PE (X.blk s H scope (compEnvC scope cl C X.env) fp) vx (tW Wv)) (hs : ∀ x, foldedSetIterable iter X.env x = pure x := by intro _; rfl)
    (fn : X.env.scope.kind = .function := by rfl) (line : (py.line == pos.line) = true := by rfl) (apart : (scope.names.any fun (n, k) => n == y && (k == .local || k == .cell)) = false := by decide) :
    PS X (.Assign [.Name y py] (.DictComp kx vx [⟨.Tuple [.Name x1 p1, .Name x2 p2, .Name x3 p3] kk tpos, iter, [], 0⟩] scope pos) spos) (tSW E (gSet i (wDc3 i1 i2 i3 Wi Wk Wv))) :=
  PS.weak (ps_setDc (own := [(x1, i1), (x2, i2), (x3, i3)]) calm hN hy loc (sw_dict fn loc line apart) hi ok hg hk hv hs) fun D σ H ⟨O, ds, N, R, Z, hS, hO, hG, hNx, hR, hZ⟩ =>
    dc_red3 ⟨O, ds, _, hS, hO, hG, fun d hd v H1 e1 q1 => hNx _ hd _ H1 e1 ((hS.mono e1).set i q1)⟩
end DL

set_option maxHeartbeats 4000000
namespace DL
open PySem PySem.Spec PyProof.Rows L2
variable [TabCtx]
/-! ### a, b = e and a, b, c = e, e a tuple -/
def gUn2 (i1 i2 : Nat) (W : WE) : WS := fun ds N _ _ => W ds fun d => ∃ a b, d = .tup [a, b] ∧ N ((ds.set i1 (some a)).set i2 (some b))
def gUn3 (i1 i2 i3 : Nat) (W : WE) : WS := fun ds N _ _ => W ds fun d => ∃ a b c, d = .tup [a, b, c] ∧ N (((ds.set i1 (some a)).set i2 (some b)).set i3 (some c))
section
variable {X : Cx} {i1 i2 i3 kk : Nat} {x1 x2 x3 : Str} {p1 p2 p3 tpos pos : Pos} {e : Expr} {W : WE} {E : XK}
theorem ws_un2 (hc : X.calm = true) (h1 : PG X (.Name x1 p1) (gName i1)) (h2 : PG X (.Name x2 p2) (gName i2)) (he : PE X e (tW W)) (hs : swapsWithSole [.Tuple [.Name x1 p1, .Name x2 p2] kk tpos] e pos.line X.env = pure false := by rfl)
    (hw : swappedStores [.Tuple [.Name x1 p1, .Name x2 p2] kk tpos] e X.env = pure none := by rfl) : PS X (.Assign [.Tuple [.Name x1 p1, .Name x2 p2] kk tpos] e pos) (tSW E (gUn2 i1 i2 W)) :=
  PS.weak (ps_asg he (pg_tup (n := 2) hc (pgs_cons h1 (pgs_cons h2 pgs_nil))) hs hw) fun D σ H ⟨O, ds, N, R, Z, hS, hO, hG, hN, hR, hZ⟩ => ⟨O, ds, _, hS, hO, hG, fun d hd v H1 e1 q1 => by
    obtain ⟨a, b, rfl, hn⟩ := hd
    cases q1 with
    | tup o r al =>
      cases al with
      | cons qa al =>
        cases al with
        | cons qb al =>
          cases al
          exact ⟨_, _, rfl, .inl r, rfl, _, _, rfl, _, _, rfl, rfl, hN _ hn _ _ e1 (((hS.mono e1).set i1 qa).set i2 qb)⟩⟩
theorem ws_un3 (hc : X.calm = true) (h1 : PG X (.Name x1 p1) (gName i1)) (h2 : PG X (.Name x2 p2) (gName i2)) (h3 : PG X (.Name x3 p3) (gName i3)) (he : PE X e (tW W)) (hs : swapsWithSole [.Tuple [.Name x1 p1, .Name x2 p2, .Name x3 p3] kk tpos] e pos.line X.env = pure false := by rfl)
    (hw : swappedStores [.Tuple [.Name x1 p1, .Name x2 p2, .Name x3 p3] kk tpos] e X.env = pure none := by rfl) : PS X (.Assign [.Tuple [.Name x1 p1, .Name x2 p2, .Name x3 p3] kk tpos] e pos) (tSW E (gUn3 i1 i2 i3 W)) :=
  PS.weak (ps_asg he (pg_tup (n := 3) hc (pgs_cons h1 (pgs_cons h2 (pgs_cons h3 pgs_nil)))) hs hw) fun D σ H ⟨O, ds, N, R, Z, hS, hO, hG, hN, hR, hZ⟩ => ⟨O, ds, _, hS, hO, hG, fun d hd v H1 e1 q1 => by
    obtain ⟨a, b, c, rfl, hn⟩ := hd
    cases q1 with
    | tup o r al =>
      cases al with
      | cons qa al =>
        cases al with
        | cons qb al =>
          cases al with
          | cons qc al =>
            cases al
            exact ⟨_, _, rfl, .inl r, rfl, _, _, rfl, _, _, rfl, _, _, rfl, rfl, hN _ hn _ _ e1 ((((hS.mono e1).set i1 qa).set i2 qb).set i3 qc)⟩⟩
end
/-! ### name = {..} and name = [..] with one name within, stored by the display itself -/
theorem ws_setDc {X : Cx} {i i1 : Nat} {y x1 : Str} {py : Pos} {kx vx tg iter : Expr} {scope : Scope} {Wi : WI} {Wk Wv : WE} {pos spos : Pos} {E : XK} (calm : X.calm = true) (hN : X.N.Nodup) (hy : X.N[i]? = some y) (loc : X.env.scope.names.lookup y = some .local) (hi : PI X tg iter (tIW Wi)) (ok : BlkOk X.N X.env.scope scope [(x1, i1)])
    (hg : ∀ (s : Shared) (H : Hp) (C : Addr) (cl : List (Str × Addr)) (fp : List Addr), PG (X.blk s H scope (compEnvC scope cl C X.env) fp) tg (gName i1))
    (hk : ∀ (s : Shared) (H : Hp) (C : Addr) (cl : List (Str × Addr)) (fp : List Addr), PE (X.blk s H scope (compEnvC scope cl C X.env) fp) kx (tW Wk))
    (hv : ∀ (s : Shared) (H : Hp) (C : Addr) (cl : List (Str × Addr)) (fp : List Addr), PE (X.blk s H scope (compEnvC scope cl C X.env) fp) vx (tW Wv)) (hs : ∀ x, foldedSetIterable iter X.env x = pure x := by intro _; rfl)
    (fn : X.env.scope.kind = .function := by rfl) (line : (py.line == pos.line) = true := by rfl) (apart : (scope.names.any fun (n, k) => n == y && (k == .local || k == .cell)) = false := by decide) :
    PS X (.Assign [.Name y py] (.DictComp kx vx [⟨tg, iter, [], 0⟩] scope pos) spos) (tSW E (gSet i (wDc i1 Wi Wk Wv))) :=
  PS.weak (ps_setDc (own := [(x1, i1)]) calm hN hy loc (sw_dict fn loc line apart) hi ok hg hk hv hs) fun D σ H ⟨O, ds, N, R, Z, hS, hO, hG, hNx, hR, hZ⟩ => dc_red ⟨O, ds, _, hS, hO, hG, fun d hd v H1 e1 q1 => hNx _ hd _ H1 e1 ((hS.mono e1).set i q1)⟩
theorem ws_setLc {X : Cx} {i i1 : Nat} {y x1 : Str} {py : Pos} {elt tg iter : Expr} {scope : Scope} {Wi : WI} {We : WE} {pos spos : Pos} {E : XK} (calm : X.calm = true) (hN : X.N.Nodup) (hy : X.N[i]? = some y) (loc : X.env.scope.names.lookup y = some .local) (hi : PI X tg iter (tIW Wi)) (ok : BlkOk X.N X.env.scope scope [(x1, i1)])
    (hg : ∀ (s : Shared) (H : Hp) (C : Addr) (cl : List (Str × Addr)) (fp : List Addr), PG (X.blk s H scope (compEnvC scope cl C X.env) fp) tg (gName i1))
    (he : ∀ (s : Shared) (H : Hp) (C : Addr) (cl : List (Str × Addr)) (fp : List Addr), PE (X.blk s H scope (compEnvC scope cl C X.env) fp) elt (tW We)) (hs : ∀ x, foldedSetIterable iter X.env x = pure x := by intro _; rfl)
    (fn : X.env.scope.kind = .function := by rfl) (line : (py.line == pos.line) = true := by rfl) (apart : (scope.names.any fun (n, k) => n == y && (k == .local || k == .cell)) = false := by decide) :
    PS X (.Assign [.Name y py] (.ListComp elt [⟨tg, iter, [], 0⟩] scope pos) spos) (tSW E (gSet i (wLc i1 Wi We))) :=
  PS.weak (ps_setLc (own := [(x1, i1)]) calm hN hy loc (sw_true fn loc line apart) hi ok hg (fun _ _ _ _ _ => pts_nil) he hs) fun D σ H ⟨O, ds, N, R, Z, hS, hO, hG, hNx, hR, hZ⟩ => lc_red ⟨O, ds, _, hS, hO, hG, fun d hd v H1 e1 q1 => hNx _ hd _ H1 e1 ((hS.mono e1).set i q1)⟩
theorem ws_setLcI {X : Cx} {i i1 : Nat} {y x1 : Str} {py : Pos} {elt tg iter c : Expr} {scope : Scope} {Wi : WI} {T : WT} {We : WE} {pos spos : Pos} {E : XK} (calm : X.calm = true) (hN : X.N.Nodup) (hy : X.N[i]? = some y) (loc : X.env.scope.names.lookup y = some .local) (hi : PI X tg iter (tIW Wi)) (ok : BlkOk X.N X.env.scope scope [(x1, i1)])
    (hg : ∀ (s : Shared) (H : Hp) (C : Addr) (cl : List (Str × Addr)) (fp : List Addr), PG (X.blk s H scope (compEnvC scope cl C X.env) fp) tg (gName i1))
    (ht : ∀ (s : Shared) (H : Hp) (C : Addr) (cl : List (Str × Addr)) (fp : List Addr), PT (X.blk s H scope (compEnvC scope cl C X.env) fp) c (tTW T))
    (he : ∀ (s : Shared) (H : Hp) (C : Addr) (cl : List (Str × Addr)) (fp : List Addr), PE (X.blk s H scope (compEnvC scope cl C X.env) fp) elt (tW We)) (hs : ∀ x, foldedSetIterable iter X.env x = pure x := by intro _; rfl)
    (fn : X.env.scope.kind = .function := by rfl) (line : (py.line == pos.line) = true := by rfl) (apart : (scope.names.any fun (n, k) => n == y && (k == .local || k == .cell)) = false := by decide) :
    PS X (.Assign [.Name y py] (.ListComp elt [⟨tg, iter, [c], 0⟩] scope pos) spos) (tSW E (gSet i (wLcI i1 Wi T We))) :=
  PS.weak (ps_setLc (own := [(x1, i1)]) calm hN hy loc (sw_true fn loc line apart) hi ok hg (fun s H C cl fp => pts_one (ht s H C cl fp)) he hs) fun D σ H ⟨O, ds, N, R, Z, hS, hO, hG, hNx, hR, hZ⟩ => lci_red ⟨O, ds, _, hS, hO, hG, fun d hd v H1 e1 q1 => hNx _ hd _ H1 e1 ((hS.mono e1).set i q1)⟩
end DL

set_option maxHeartbeats 4000000
namespace DL
open PySem PySem.Spec PyProof.Rows L2
variable [TabCtx]
/-! ### several clauses 'except x as n' -/
/-- what one clause asks: its class, the slot of its name, what its suite does -/
structure Clause where
  cls : Value
  at_ : Nat
  does : Addr → Value → Option Addr → TS
def asked (K : PySem.W.Frag) (D : Ends) : List Clause → WX
  | [] => fun _ _ _ _ => False
  | c :: more => fun k d σ H => ∃ b, PySem.W.exmOne K k c.cls = some b ∧ (b = false → asked K D more k d σ H) ∧
      (b = true → ∀ a, H a = none → c.does a k d { nx := fun z => D.nx (z.set c.at_ none), rt := D.rt, bk := fun z => D.bk (z.set c.at_ none), ct := fun z => D.ct (z.set c.at_ none) } (σ.set c.at_ (some (.ref a))) H)
inductive Clauses (X : Cx) : List ExceptHandler → List Clause → Prop
  | last : Clauses X [] []
  | also {x n : Str} {c : Clause} {st : Stmt} {suite : List Stmt} {p q : Pos} {hs : List ExceptHandler} {cs : List Clause} : Names X x c.cls → X.N[c.at_]? = some n → X.env.kindOf n = some .local →
      (∀ (a : Addr) (o : Obj) (k : Value) (d : Option Addr) (pn : List (Addr × Obj)), Zc k d o → (∃ vs, o.data = .fields vs) → PSs (X.suite a ((a, o) :: pn)) (st :: suite) (c.does a k d)) →
      Clauses X hs cs → Clauses X (.ExceptHandler (some (.Name x p)) (some n) (st :: suite) q :: hs) (c :: cs)
theorem ps_clauses {X : Cx} {body : List Stmt} {h1 : ExceptHandler} {hs : List ExceptHandler} {cs : List Clause} {pos : Pos} {tb : WX → TS} (top : X.stack = X.env :: X.outer) (fr : X.env.frame = some X.env.locals) (nd : X.N.Nodup)
    (bd : ∀ (W : WX) (pn : List (Addr × Obj)) (xe : Value → Shared → Prop), Takes (X.tr pn xe) W → PSs (X.tr pn xe) body (tb W)) (cl : Clauses X (h1 :: hs) cs) :
    PS X (.Try body (h1 :: hs) [] [] pos) (fun D σ H => tb (asked X.K D cs) D σ H) := by
  refine ⟨fun pins s σ H D inv pre => wpAny_Try_except ?_⟩
  have frames : X.A.frames = some (X.env :: X.outer) := by rw [inv.ok.frames, top]
  refine wpAny_mono ((bd (asked X.K D cs) (X.pn ++ pins) (fun e t => wpAny (model X.prog X.w) X.A (noteFrame e X.env) (fun _ t1 => wpAny (model X.prog X.w) X.A (setFlight e none)
    (fun _ t2 => wpAny (model X.prog X.w) X.A (handleBy e X.env (h1 :: hs)) (SP X pins D) X.xe t2) X.xe t1) X.xe t) ?_).run [] s σ H D (inv.toTry _) pre) ?_ fun _ _ z => z
  · intro u t raised
    obtain ⟨a, B, sI, _, σ1, H1, k, d, rfl, invT, kept, up1, flies, new, sameOs, gens, wish⟩ := raised
    have inv1 := invT.ofTry inv.ok
    have flies : Sky B (X.env :: X.outer) a (Zc k d) X.env.locals t.heap := by rw [← top]; exact flies
    refine Sky.land Zc.steady frames fr flies fun g fly up2 => ?_
    have inv2 : Inv X pins σ1 H1 { t with heap := g } := inv1.landed kept fly.1 (up1.trans up2) sameOs gens
    obtain ⟨o, vs, at_a, isZ, flds⟩ := fly.there
    have offFrames : a ∉ frs (X.env :: X.outer) := fun m => by
      obtain ⟨_, o2, e2, no⟩ := fly.2.2.1.mem m
      rw [at_a] at e2
      cases e2
      exact no _ flds
    have offLocals : a ≠ X.env.locals := fun e => offFrames (List.mem_filterMap.mpr ⟨X.env, .head _, fr.trans (congrArg some e.symm)⟩)
    have offOuter : a ∉ X.fs := fun m => by
      obtain ⟨e, he, q⟩ := List.mem_filterMap.mp m
      exact offFrames (List.mem_filterMap.mpr ⟨e, .tail _ he, q⟩)
    have invS := inv2.suite at_a flds new offLocals offOuter
    have each : ∀ {l : List ExceptHandler} {m : List Clause}, Clauses X l m → asked X.K D m k d σ1 H1 → wpAny (model X.prog X.w) X.A (handleBy (.ref a) X.env l) (SP X pins D) X.xe { t with heap := g } := by
      intro l m c
      induction c with
      | last => exact fun z => z.elim
      | @also x n c st suite p q hs2 cs2 names slot loc does more ih =>
        rintro ⟨b, isB, no, yes⟩
        have look : PySem.W.Looks (model X.prog X.w) g (typeOf (.ref a)) k := fun _ _ _ _ w z => wpAny_typeOf_ref (w _ _ at_a) (by rw [isZ.1]; exact z)
        have meets := PySem.W.exm_one (M := model X.prog X.w) inv2.kIn look isB
        refine wpAny_handleBy_cons (codeAny_handlers_test ?_) (by intro z; cases z)
        have named : ∀ {Q : Value → Shared → Prop} {E : Value → Shared → Prop}, Q c.cls { t with heap := g } → wpAny (model X.prog X.w) (X.A.mark (some (.ref a))) (eval (.Name x p) X.env) Q E { t with heap := g } := by
          intro Q E z
          rcases names with ⟨g1, g2, g3 | ⟨g3, g4, g5⟩⟩
          · exact ld_glob (X := X.suite a ((a, o) :: (X.pn ++ pins))) invS g1 g3 z g2
          · exact ld_blt (X := X.suite a ((a, o) :: (X.pn ++ pins))) invS g1 g3 g4 z g5 g2
        refine named (meets.here ?_)
        match b, no, yes with
        | false, no, _ => exact ih (no rfl)
        | true, _, yes =>
          refine codeAny_handlers_suite_as (HandSPX.lands_againZ fly fun g2 fly2 up3 => ?_)
          have inv3 : Inv X pins σ1 H1 { t with heap := g2 } := inv1.landed kept fly2.1 ((up1.trans up2).trans up3) sameOs gens
          obtain ⟨o2, vs2, at2, isZ2, flds2⟩ := fly2.there
          refine store_ok (X := X.suite a ((a, o2) :: (X.pn ++ pins))) (v := .ref a) (inv3.suite at2 flds2 new offLocals offOuter) nd slot (.inl loc) rfl (fun t5 inv5 => ?_) (.inr loc)
          refine wpAny_mono ((does a o2 k d (X.pn ++ pins) isZ2 ⟨_, flds2⟩).run [] t5 _ H1 _ inv5 (yes rfl a new)) ?_ fun _ _ z => False.elim z
          intro fl t6 out
          have gone : ∀ {σ6 : L2.St} {H6 : Hp} {Q : Shared → Prop}, Inv (X.suite a ((a, o2) :: (X.pn ++ pins))) [] σ6 H6 t6 → (∀ t7, Inv X pins (σ6.set c.at_ none) H6 t7 → Q t7) →
              wpAny (model X.prog X.w) X.A (do bindName X.env n .none; unbindBehindTheSuite X.env n q) (fun _ t7 => Q t7) X.xe t6 := fun i6 w => gone_ok (i6.unsuite inv.ok) nd slot loc w
          match fl, out with
          | .next, ⟨_, _, i6, w⟩ => exact gone i6 fun _ i7 => ⟨_, _, i7, w⟩
          | .brk, ⟨_, _, i6, w⟩ => exact gone i6 fun _ i7 => ⟨_, _, i7, w⟩
          | .cont, ⟨_, _, i6, w⟩ => exact gone i6 fun _ i7 => ⟨_, _, i7, w⟩
          | .ret u, ⟨_, _, _, i6, r, w⟩ => exact gone i6 fun _ i7 => ⟨_, _, _, i7, r, w⟩
    exact each cl wish
  · intro fl t out
    match fl, out with
    | .next, ⟨_, _, i, w⟩ => exact wpAny_execs_nil ⟨_, _, i.ofTry inv.ok, w⟩
    | .brk, ⟨_, _, i, w⟩ => exact ⟨_, _, i.ofTry inv.ok, w⟩
    | .cont, ⟨_, _, i, w⟩ => exact ⟨_, _, i.ofTry inv.ok, w⟩
    | .ret u, ⟨_, _, _, i, r, w⟩ => exact ⟨_, _, _, i.ofTry inv.ok, r, w⟩
end DL

set_option maxHeartbeats 4000000
namespace DL
open PySem PySem.Spec PyProof.Rows L2 LamX
variable [TabCtx]
/-! ### f(lambda: e), where f says what came of it: try: return (w0, call()) / except C1 as n: return (w1, n.told) / except C2 as n: return (w2, n.told) -/
/-- an exception of the lambda, told behind it -/
def Told (C1 C2 : Addr) (w1 w2 : Str) (Q : VK) : XK := fun k dx H => ∃ (O : Ow) (C dd : Addr) (v : V) (t : D) (w : Str), k = .ref C ∧ dx = some dd ∧ OwnAll O H ∧ Out O dd ∧ H dd = some (.xd [("told", v)]) ∧ Dq O H v t ∧ ((C = C1 ∧ w = w1) ∨ (C = C2 ∧ w = w2)) ∧
  (2 ≤ sizeLine) ∧ ∀ v2 H2, Ext O H H2 → Dq O H2 v2 (.tup [.str w, t]) → Q v2 H2
def TT3 (C1 C2 : Addr) (w0 w1 w2 : Str) : (XK → Hp → VK → Prop) → Hp → VK → Prop := fun tl H Q =>
  tl (Told C1 C2 w1 w2 Q) H fun v H1 => 2 ≤ sizeLine ∧ ∀ p, H1 p = none → Q (.ref p) (upd H1 p (.tup [.str w0, v]))
def gTold (w : Str) (C : Addr) : Addr → Value → Option Addr → WS := fun a k d => gRet (wTup (waCons (wC (.str w)) (waCons (wTold a k d C (wVar 1)) waNil)))
theorem told_tsw {w : Str} {C a dd : Addr} {t : D} {O : Ow} {H : Hp} {σ : L2.St} {v : V} {Dn : Ends} (hs : σ.length = 2) (hO : OwnAll O H) (od : Out O dd) (hd : H dd = some (.xd [("told", v)])) (q : Dq O H v t) (hl : 2 ≤ sizeLine)
    (k : ∀ v2 H2, Ext O H H2 → Dq O H2 v2 (.tup [.str w, t]) → Dn.rt v2 H2) : tSW (fun _ _ _ => False) (gTold w C a (.ref C) (some dd)) Dn (σ.set 1 (some (.ref a))) H := by
  refine ⟨O, [none, some (.exn a dd t)], fun _ => False, fun d => d = .tup [.str w, t], fun _ _ => False, ⟨by rw [List.length_set, hs]; rfl, fun i d hd' => ?_⟩, hO, ?_, fun _ z => z.elim, fun d hd v2 H2 e2 q2 => k v2 H2 e2 (hd ▸ q2), fun _ _ z => z.elim⟩
  · match i, hd' with
    | 0, hd' => cases hd'
    | 1, hd' =>
      cases hd'
      exact ⟨_, List.getElem?_set_self (by omega), .exn od hd q⟩
    | i + 2, hd' => cases hd'
  · exact ⟨_, rfl, dd, t, rfl, rfl, rfl, hl, rfl⟩
theorem takes_len {X : Cx} {W : WX} (tk : Takes X W) : Takes X fun k d σ H => σ.length = X.N.length → W k d σ H := fun u t h => by
  obtain ⟨a, B, sI, pins, σ1, H1, k, d, rfl, inv, r1, r2, r3, r4, r5, r6, w⟩ := h
  exact tk _ t ⟨a, B, sI, pins, σ1, H1, k, d, rfl, inv, r1, r2, r3, r4, r5, r6, w inv.len⟩
theorem three_gives {X : Cx} {x a n e1 e2 q w0 w1 w2 : Str} {sg : Scope} {g C1 C2 M : Addr} {cdg : Value} {j0 j1 j2 k0 k1 k2 : Nat} {p0 p1 p2 p3 p4 p5 p6 p7 p8 p9 q0 q1 q2 q3 q4 q5 q6 q7 q8 q9 : Pos} {x0 x1 x2 : _} (an : ([a, n] : List Str).Nodup)
    (hn : sg.names.lookup n = some .local) (v1 : sg.names.lookup e1 = some .globalImplicit) (v2 : sg.names.lookup e2 = some .globalImplicit) (m1 : X.mg e1 = some (.ref C1)) (m2 : X.mg e2 = some (.ref C2))
    (d1 : (e1 == ("__debug__" : Str)) = false) (d2 : (e2 == ("__debug__" : Str)) = false) (dn : (n == ("__debug__" : Str)) = false) (dc : (n == ("__classdict__" : Str)) = false) (T1 : Ex2 X.K C1 M) (T2 : Ex2 X.K C2 M) (no : PySem.W.exmOne X.K (.ref C2) (.ref C1) = some false) :
    GivesTo X [a, n] x sg g cdg [.Try [.Return (some (.Tuple [.Constant (.str w0) j0 q0, .Call (.Name a p0) [] [] p1] x0 q1)) p2]
      [.ExceptHandler (some (.Name e1 p3)) (some n) [.Return (some (.Tuple [.Constant (.str w1) j1 q2, .Attribute (.Name n q3) "told" q4] x1 q5)) p4] p5,
       .ExceptHandler (some (.Name e2 p6)) (some n) [.Return (some (.Tuple [.Constant (.str w2) j2 q6, .Attribute (.Name n q7) "told" q8] x2 q9)) p7] p8] [] [] p9] a q (TT3 C1 C2 w0 w1 w2) := by
  intro f c' s H Q tl act hc h
  have hg1 : Gl (cxOf C8.CX0 X.prog X.w X.K X.mg X.base [a, n] x sg g cdg X.A X.stack s H C8.E0).nox e1 := v1
  have hg2 : Gl (cxOf C8.CX0 X.prog X.w X.K X.mg X.base [a, n] x sg g cdg X.A X.stack s H C8.E0).nox e2 := v2
  refine ⟨_, pss_one (ps_clauses (X := (cxOf C8.CX0 X.prog X.w X.K X.mg X.base [a, n] x sg g cdg X.A X.stack s H C8.E0).nox)
      (cs := [⟨.ref C1, 1, fun b k d => tSW (fun _ _ _ => False) (gTold w1 C1 b k d)⟩, ⟨.ref C2, 1, fun b k d => tSW (fun _ _ _ => False) (gTold w2 C2 b k d)⟩])
      (tb := fun W D σ H => ∃ Ech : XK, (∀ cls d σ' H', Ech cls d H' → σ'.length = 2 → W cls d σ' H') ∧ σ[0]? = some (some (.ref f)) ∧ H c' = some (CodeO c' q) ∧ tl Ech H fun v H1 => 2 ≤ sizeLine ∧ ∀ p, H1 p = none → D.rt (.ref p) (upd H1 p (.tup [.str w0, v])))
      rfl rfl an (fun W pn xe tk => ⟨fun pins s' σ H' D I h' => ?_⟩)
      (.also ⟨hg1, d1, .inl m1⟩ rfl hn (fun b o k d pn hz hf => ?_) (.also ⟨hg2, d2, .inl m2⟩ rfl hn (fun b o k d pn hz hf => ?_) .last))), ?_⟩
  · obtain ⟨Ech, hW, h1, h2, h3⟩ := h'
    have hp := act (fun k d σ H => σ.length = 2 → W k d σ H) pn xe Ech p0 p1 (takes_len tk) hW
    exact (pss_one (ps_ret (pos := p2) (pe_tup (x1 := x0) (pos := q1) (pa_cons (pe_str (j := j0) (pos := q0)) (pa_cons hp pa_nil))))).run pins s' σ H' D I ⟨h1, h2, h3⟩
  · show PSs _ _ (tSW (fun _ _ _ => False) (gRet (wTup (waCons (wC (.str w1)) (waCons (wTold b k d C1 (wVar 1)) waNil)))))
    exact wss_one (ws_ret (we_tup (wa_cons (we_c pe_str) (wa_cons (we_told (X := (cxOf C8.CX0 X.prog X.w X.K X.mg X.base [a, n] x sg g cdg X.A X.stack s H C8.E0).nox) T1 hz hf (we_var (pe_var (i := 1) rfl (.inl (by exact hn)) dn dc))) wa_nil))))
  · show PSs _ _ (tSW (fun _ _ _ => False) (gRet (wTup (waCons (wC (.str w2)) (waCons (wTold b k d C2 (wVar 1)) waNil)))))
    exact wss_one (ws_ret (we_tup (wa_cons (we_c pe_str) (wa_cons (we_told (X := (cxOf C8.CX0 X.prog X.w X.K X.mg X.base [a, n] x sg g cdg X.A X.stack s H C8.E0).nox) T2 hz hf (we_var (pe_var (i := 1) rfl (.inl (by exact hn)) dn dc))) wa_nil))))
  · refine ⟨Told C1 C2 w1 w2 Q, fun k dx σ' H' hx len => ?_, rfl, hc, h⟩
    obtain ⟨O, C, dd, v, t, w, rfl, rfl, hO, od, hd, qt, hw, hl, kk⟩ := hx
    rcases hw with ⟨rfl, rfl⟩ | ⟨rfl, rfl⟩
    · exact ⟨true, T1.em, fun z => (nomatch z), fun _ b _ => told_tsw len hO od hd qt hl kk⟩
    · exact ⟨false, no, fun _ => ⟨true, T2.em, fun z => (nomatch z), fun _ b _ => told_tsw len hO od hd qt hl kk⟩, fun z => (nomatch z)⟩
/-- f(lambda: e): B is e's reading -/
def wLam3 (C1 C2 : Addr) (w0 w1 w2 : Str) (B : WZ) : WE := fun ds P => B ds (fun d => P (.tup [.str w0, d])) fun C t => (C = C1 ∧ P (.tup [.str w1, t])) ∨ (C = C2 ∧ P (.tup [.str w2, t]))
theorem ext_of {O : Ow} {H H1 : Hp} (e : ExtN H H1) (hT : Tabs TabCtx.T H1) (hO : OwnAll O H) : Ext O H H1 :=
  ⟨fun b o _ h n => e b o h n, fun p hp ⟨o, h, k⟩ => by
    obtain ⟨a, w⟩ := p
    cases w with
    | src =>
      obtain ⟨x, y, rfl, h1, h2⟩ := k
      exact ⟨_, e _ _ h (by intro ps z; cases z), x, y, rfl, h1, h2⟩
    | hold o' =>
      have k' : o = o' := k
      subst k'
      exact ⟨_, e _ _ h (hO.tabs.held _ _ hp), rfl⟩
    | tab q =>
      obtain ⟨ps, h1, h2, h3⟩ := hT _ ((hO.tabs.iff (a, q)).mpr hp)
      exact ⟨_, h1, ps, rfl, h2, h3⟩⟩
theorem own_tabs {O : Ow} {H : Hp} (hO : OwnAll O H) : Tabs TabCtx.T H := fun p hp => by
  obtain ⟨o, h, ps, rfl, h2, h3⟩ := hO.here _ ((hO.tabs.iff p).mp hp)
  exact ⟨ps, h, h2, h3⟩
theorem sizeTwo : 2 ≤ sizeLine := line_big (by omega)
theorem we_lam3 {X : Cx} {x a : Str} {g c P C1 C2 : Addr} {w0 w1 w2 : Str} {k : Nat} {pg : Arguments} {bg : List Stmt} {sg : Scope} {dV kV doc pm cdv ct oc : Value} {an od : Option Addr} {osl : Array (Option Value)} {Ng : List Str} {params : Arguments} {body : Expr} {scope : Scope} {B : WZ} {p lpos pos : Pos}
    (hg : Gl X x) (hm : X.mg x = some (.ref g)) (hk : PySem.W.keepIn X.K (.ref g) = true) (lk : X.K.lookup g = some ⟨oc, od, .func (PySem.W.fnOf x x pg bg sg dV kV doc pm an cdv ct), osl⟩) (hcg : PySem.W.codeIn X.K cdv x = true) (hb : Binds X.K (PySem.W.fnOf x x pg bg sg dV kV doc pm an cdv ct) [a] []) (Sg : FnScope Ng [a] sg)
    (hNg : Ng[0]? = some a) (hva : Vis sg a) (hG : GivesTo X Ng x sg g cdv bg a (X.env.qual ++ "<lambda>") (TT3 C1 C2 w0 w1 w2)) (TB : TabB X.base X.mg c P) (hcode : X.env.code = .ref c) (hmT : (P, X.env.qual ++ "<lambda>") ∈ TabCtx.T) (hu : ∀ p ∈ TabCtx.T, p.1 = P → p.2 = X.env.qual ++ "<lambda>") (hr : Room (k + 2) X.A)
    (L : LamS X.env.scope scope) (hdef : defaultsOf params X.env = ([], [])) (hbind : ∀ (q : Str) (cl : List (Str × Addr)) (pm cv ctv : Value), bindArgs (PySem.W.kla_fn "<lambda>" q params body scope cl pm cv ctv) ⟨[], []⟩ = pure [])
    (hbody : ∀ (A : Around) (outer : List Env) (s : Shared) (H : Hp) (E : XK) (f c' : Addr), Room k (A.deeper (lamEnv X scope s.heap.objs.size f c')) → PE (lamCx X A outer s H E scope f c') body (tZW (fun cls d _ H' => E cls d H') B))
    (hdb : (x == ("__debug__" : Str)) = false := by decide) (hd : (a == ("__debug__" : Str)) = false := by decide) (hcd : (a == ("__classdict__" : Str)) = false := by decide) :
    PE X (.Call (.Name x p) [.Lambda params body scope lpos] [] pos) (tW (wLam3 C1 C2 w0 w1 w2 B)) :=
  PE.weak (pe_lamcall (T := TabCtx.T) (t := fun E => tZW (fun cls d _ H' => E cls d H') B) hg hm hk lk hcg hb Sg hNg hva hG TB hcode hmT hu hr L hdef hbind hbody hdb hd hcd) fun σ H Q ⟨O, ds, P, hS, hO, hW, kk⟩ => ⟨own_tabs hO, fun H1 eN T1 => by
    have e1 := ext_of eN T1 hO
    have O1 := hO.mono e1
    refine ⟨O, ds, _, _, hS.mono e1, O1, hW, fun d hd v H2 e2 q2 => ⟨sizeTwo, fun q hq => kk _ hd _ _ ((e1.trans e2).trans (.new hq)) (.tup ((O1.mono e2).out hq) (.of upd_same) (.cons (.str _) (.cons (q2.mono (.new hq)) .nil)))⟩, fun C t hz dx v H2 e2 ox hx q2 => ?_⟩
    rcases hz with ⟨rfl, hp⟩ | ⟨rfl, hp⟩
    · exact ⟨O, C, dx, v, t, w1, rfl, rfl, O1.mono e2, ox, hx, q2, .inl ⟨rfl, rfl⟩, sizeTwo, fun v2 H3 e3 q3 => kk _ hp v2 H3 ((e1.trans e2).trans e3) q3⟩
    · exact ⟨O, C, dx, v, t, w2, rfl, rfl, O1.mono e2, ox, hx, q2, .inr ⟨rfl, rfl⟩, sizeTwo, fun v2 H3 e3 q3 => kk _ hp v2 H3 ((e1.trans e2).trans e3) q3⟩⟩
end DL

set_option maxHeartbeats 4000000
namespace DL
open PySem PySem.Spec PyProof.Rows L2
variable [TabCtx]
/-! ### a list or a tuple gone through -/
theorem PI.or {X : Cx} {tg e : Expr} {t u : TI} (h : PI X tg e t) (k : PI X tg e u) : PI X tg e fun σ H R => t σ H R ∨ u σ H R :=
  ⟨fun pins s σ H R I q => q.elim (fun q => h.run pins s σ H R I q) fun q => k.run pins s σ H R I q⟩
def wiAny (W : WE) : WI := fun ds P => wiLst W ds P ∨ wiTup W ds P
theorem wi_any {X : Cx} {tg e : Expr} {W : WE} (h : PE X e (tW W)) : PI X tg e (tIW (wiAny W)) :=
  PI.weak (PI.or (wi_lst h) (wi_tup h)) fun σ H R ⟨O, ds, P, hS, hO, hW, k⟩ => hW.elim (fun q => Or.inl ⟨O, ds, P, hS, hO, q, k⟩) fun q => Or.inr ⟨O, ds, P, hS, hO, q, k⟩
/-! ### a, b = x, y -/
def gPar (i j : Nat) (A : WA) : WS := fun ds N _ _ => A ds fun es => ∃ x y, es = [x, y] ∧ N ((ds.set i (some x)).set j (some y))
theorem ws_par {X : Cx} {i j : Nat} {x y : Str} {a b : Expr} {A : WA} {px py pt pos : Pos} {kt k2 pt2} {E : XK} (hc : X.calm = true) (hN : X.N.Nodup) (hi : X.N[i]? = some x) (hj : X.N[j]? = some y) (hij : i ≠ j)
    (hx : X.env.scope.names.lookup x = some .local) (hy : X.env.scope.names.lookup y = some .local) (ha : PA X [a, b] (tAW A))
    (hw : swappedStores [.Tuple [.Name x px, .Name y py] kt pt] (.Tuple [a, b] k2 pt2) X.env = pure (some [x, y]) := by rfl)
    (hs : swapsWithSole [.Tuple [.Name x px, .Name y py] kt pt] (.Tuple [a, b] k2 pt2) pos.line X.env = pure false := by rfl) :
    PS X (.Assign [.Tuple [.Name x px, .Name y py] kt pt] (.Tuple [a, b] k2 pt2) pos) (tSW E (gPar i j A)) :=
  PS.weak (ps_par hc hN hi hj hij hx hy ha hw hs) fun D σ H ⟨O, ds, N, R, Z, hS, hO, hG, hN, hR, hZ⟩ => ⟨O, ds, _, hS, hO, hG, fun es hes vs H1 e1 q1 => by
    obtain ⟨dx, dy, rfl, hn⟩ := hes
    cases q1 with
    | cons qa qb =>
      cases qb with
      | cons qb qc =>
        cases qc
        exact ⟨_, _, rfl, hN _ hn _ H1 e1 (((hS.mono e1).set i qa).set j qb)⟩⟩
/-! ### ranges with a step -/
def many (i j c : Int) : Nat := if i < j then ((j - i - 1) / c + 1).toNat else 0
def stepsD (i c : Int) (n : Nat) : List D := (List.range n).map fun (k : Nat) => D.int (i + (k : Int) * c)
/-- small, and upwards -/
def RgD (i j c : Int) : Prop := 0 ≤ i ∧ i < 100000 ∧ 0 ≤ j ∧ j < 100000 ∧ 0 < c ∧ c < 100000
theorem many_le {i j c : Int} (h : RgD i j c) : many i j c ≤ 100000 := by
  obtain ⟨h1, h2, h3, h4, h5, h6⟩ := h
  unfold many
  split
  · have := Int.ediv_le_self (a := j - i - 1) c (by omega)
    omega
  · omega
theorem many_rs {i j c : Int} (h : RgD i j c) : Builtin.Range.rangeSize i j c = (many i j c : Int) := by
  obtain ⟨h1, h2, h3, h4, h5, h6⟩ := h
  unfold Builtin.Range.rangeSize many
  rw [if_pos h5]
  split
  · have := Int.ediv_nonneg (a := j - i - 1) (b := c) (by omega) (by omega)
    omega
  · rfl
theorem many_small {i j c : Int} (h : RgD i j c) : Builtin.Range.small i j c = true := by
  have hm := many_le h
  have hr := many_rs h
  obtain ⟨h1, h2, h3, h4, h5, h6⟩ := h
  have hz : (many i j c : Int) ≤ 100000 := by omega
  have hz0 : 0 ≤ (many i j c : Int) := by omega
  have hk : (many i j c : Int) * c ≤ 100000 * 100000 := Int.mul_le_mul (by omega) (by omega) (by omega) (by omega)
  have hk0 : 0 ≤ (many i j c : Int) * c := Int.mul_nonneg (by omega) (by omega)
  have hk2 : ((many i j c : Int) - 1) * c = (many i j c : Int) * c - c := by rw [Int.sub_mul, Int.one_mul]
  unfold Builtin.Range.small
  rw [hr]
  generalize (many i j c : Int) = z at *
  simp only [Builtin.Range.rangeFitsLong, Bool.and_eq_true, Bool.or_eq_true, decide_eq_true_eq, beq_iff_eq, if_pos h5]
  omega
def wiRg3 (A : WA) : WI := fun ds P => A ds fun es => ∃ i j c : Int, es = [.int i, .int j, .int c] ∧ RgD i j c ∧ P (stepsD i c (many i j c))
theorem steps_get {i c : Int} {n k : Nat} (h : k < n) : (stepsD i c n)[k]? = some (.int (i + (k : Int) * c)) := by
  unfold stepsD
  rw [List.getElem?_map, List.getElem?_range h]
  rfl
section
variable {X : Cx} {tg a b c : Expr} {A : WA} {p pos : Pos}
theorem wi_rg3 (hg : Gl X "range") (hm : X.mg "range" = none) (ha : PA X [a, b, c] (tAW A)) (hs : starEach [a, b, c] X.env = (false, eval a X.env) :: starEach [b, c] X.env := by rfl) (hpl : (backTo pos (starEach [b, c] X.env)).any (·.1) = false := by rfl) :
    PI X tg (.Call (.Name "range" p) [a, b, c] [] pos) (tIW (wiRg3 A)) :=
  PI.weak (pi_range3 hg hm ha hs hpl) fun σ H R ⟨O, ds, P, hS, hO, hW, k⟩ => ⟨O, ds, _, hS, hO, hW, fun es hes vs H1 e1 q1 => by
    obtain ⟨i, j, c, rfl, hr, hp⟩ := hes
    cases q1 with
    | cons qa q1 =>
      cases q1 with
      | cons qb q1 =>
        cases q1 with
        | cons qc q1 =>
          cases q1
          cases qa
          cases qb
          cases qc
          have hr' := hr
          obtain ⟨h1, h2, h3, h4, h5, h6⟩ := hr'
          refine ⟨i, j, c, many i j c, rfl, ⟨by omega, by omega, many_small hr, many_rs hr⟩, k _ hp _ H1 e1 ⟨fun _ => True, ?_, fun _ _ => trivial⟩⟩
          have hl : (stepsD i c (many i j c)).length = many i j c := by simp [stepsD]
          rw [hl]
          exact walk_rangeC.mono (fun _ z => z) fun m H x H' hi _ y => by
            obtain ⟨y1, rfl⟩ := y
            exact ⟨y1, _, steps_get hi, .int _⟩⟩
/-- tuple(range(i, j, c)) -/
def wTupRg3 (A : WA) : WE := fun ds P => A ds fun es => ∃ i j c : Int, es = [.int i, .int j, .int c] ∧ RgD i j c ∧ P (.tup (stepsD i c (many i j c)))
theorem vals_steps {i c : Int} {n : Nat} {acc : Array Value} (h : ItemsOf (fun k v => ∃ t, v = .int (i + k * c) t) acc n) : Vals ((List.range n).map fun (k : Nat) => V.int (i + (k : Int) * c)) acc.toList := by
  have e : acc.toList.length = n := by rw [Array.length_toList]; exact h.1
  rw [← e]
  refine vals_of_get acc.toList _ fun k u hk => ?_
  obtain ⟨t, rfl⟩ := h.2 k u (by rw [← hk, Array.getElem?_toList])
  exact ⟨t, rfl⟩
theorem pe_tupRg3 {p2 pos2 : Pos} {ta : TA} (hc : X.calm = true) (hg : Gl X "tuple") (hm : X.mg "tuple" = none) (hg2 : Gl X "range") (hm2 : X.mg "range" = none) (ha : PA X [a, b, c] ta) (hs : starEach [a, b, c] X.env = (false, eval a X.env) :: starEach [b, c] X.env := by rfl) (hpl : (backTo pos2 (starEach [b, c] X.env)).any (·.1) = false := by rfl)
    (na : starEach [.Call (.Name "range" p2) [a, b, c] [] pos2] X.env = (false, eval (.Call (.Name "range" p2) [a, b, c] [] pos2) X.env) :: starEach [] X.env := by rfl) :
    PE X (.Call (.Name "tuple" p) [.Call (.Name "range" p2) [a, b, c] [] pos2] [] pos) (fun σ H Q => ta σ H fun vs H1 => ∃ i j c : Int, vs = [.int i, .int j, .int c] ∧ RgD i j c ∧ ∀ q, H1 q = none → Q (.ref q) (upd H1 q (.tup ((List.range (many i j c)).map fun (k : Nat) => V.int (i + (k : Int) * c))))) := by
  refine ⟨fun pins s σ H Q I h => ?_⟩
  refine Call_ (ld_blt I hg hm boot_tuple (PyProof.Rows.callWith_type1 (args_cons (Call_ (ld_blt I hg2 hm2 boot_range (PyProof.Rows.callWith_type1 (thn (ha.run pos2 pins s σ H _ I h) fun us s1 ⟨vs, H1, I1, r1, q1⟩ => ?_) hs hpl))) na) na))
  obtain ⟨i, j, c, rfl, hr, q⟩ := q1
  cases r1 with
  | cons ra r1 =>
    cases r1 with
    | cons rb r1 =>
      cases r1 with
      | cons rc r1 =>
        cases r1
        obtain ⟨ta, rfl⟩ := ra
        obtain ⟨tb, rfl⟩ := rb
        obtain ⟨tc, rfl⟩ := rc
        have hr' := hr
        obtain ⟨h1, h2, h3, h4, h5, h6⟩ := hr'
        refine call_range_3 (by omega) ?_ (.inl (PyProof.noPylong_small (by omega)))
        have I2 : Inv X pins σ H1 { s1 with heap := s1.heap.push { cls := .type "range", data := .fields #[.int i ta, .int j tb, .int c tc] } } := I1.kept (t' := s1.toks) fun b o e => Heap.get?_push_of_some _ e
        refine args_nil (call_tuple_range (n := many i j c) (I2.ok.hd hc) (IsRange.new ..) (many_small hr) (many_rs hr) (Nat.le_trans (many_le hr) (by decide)) fun h' tk acc hk hi => ?_)
        have I3 := I2.kept (t' := tk) hk
        have hl := many_le hr
        refine ⟨.ref h'.objs.size, upd H1 h'.objs.size (.tup ((List.range (many i j c)).map fun (k : Nat) => V.int (i + (k : Int) * c))), I3.laid (t' := tk) (fun _ _ e => Heap.get?_push_of_some _ e) (Nat.le_refl _) (show ObjOk X.prog X.w _ _ _ (.tup _) from ⟨?_, acc.toList, vals_steps hi, ?_⟩), rfl, q _ (I3.hok.fresh (Nat.le_refl _))⟩
        · rw [List.length_map, List.length_range, sizeLine_eq]
          omega
        · rw [Array.toArray_toList]
          exact IsTup.new _ _
theorem dq_steps {O : Ow} {H : Hp} {i c : Int} {n : Nat} : DqAll O H ((List.range n).map fun (k : Nat) => V.int (i + (k : Int) * c)) (stepsD i c n) := by
  unfold stepsD
  generalize List.range n = l
  induction l with
  | nil => exact .nil
  | cons x xs ih => exact .cons (.int _) ih
theorem we_tupRg3 {p2 pos2 : Pos} (hc : X.calm = true) (hg : Gl X "tuple") (hm : X.mg "tuple" = none) (hg2 : Gl X "range") (hm2 : X.mg "range" = none) (ha : PA X [a, b, c] (tAW A)) (hs : starEach [a, b, c] X.env = (false, eval a X.env) :: starEach [b, c] X.env := by rfl) (hpl : (backTo pos2 (starEach [b, c] X.env)).any (·.1) = false := by rfl)
    (na : starEach [.Call (.Name "range" p2) [a, b, c] [] pos2] X.env = (false, eval (.Call (.Name "range" p2) [a, b, c] [] pos2) X.env) :: starEach [] X.env := by rfl) :
    PE X (.Call (.Name "tuple" p) [.Call (.Name "range" p2) [a, b, c] [] pos2] [] pos) (tW (wTupRg3 A)) :=
  PE.weak (pe_tupRg3 hc hg hm hg2 hm2 ha hs hpl na) fun σ H Q ⟨O, ds, P, hS, hO, hW, k⟩ => ⟨O, ds, _, hS, hO, hW, fun es hes vs H1 e1 q1 => by
    obtain ⟨i, j, c, rfl, hr, hp⟩ := hes
    cases q1 with
    | cons qa q1 =>
      cases q1 with
      | cons qb q1 =>
        cases q1 with
        | cons qc q1 =>
          cases q1
          cases qa
          cases qb
          cases qc
          exact ⟨i, j, c, rfl, hr, fun q hq => k _ hp _ _ (e1.trans (.new hq)) (.tup ((hO.mono e1).out hq) (.of upd_same) dq_steps)⟩⟩
end
/-! ### abs, min, max -/
def fMin : DFn := fun es P => match es with
  | [.int i, .int j] => P (.int (if j < i then j else i))
  | _ => False
def fAbs : DFn := fun es P => match es with
  | [.int i] => P (.int (if i < 0 then -i else i))
  | _ => False
def intsOf : List D → Option (List Int)
  | [] => some []
  | .int i :: r => (intsOf r).map (i :: ·)
  | _ :: _ => none
def fMaxL : DFn := fun es P => match es with
  | [.lst ds] => ∃ ns, intsOf ds = some ns ∧ ns ≠ [] ∧ ∀ m, m ∈ ns → (∀ y ∈ ns, y ≤ m) → P (.int m)
  | _ => False
def fMinL : DFn := fun es P => match es with
  | [.lst ds] => ∃ ns, intsOf ds = some ns ∧ ns ≠ [] ∧ ∀ m, m ∈ ns → (∀ y ∈ ns, m ≤ y) → P (.int m)
  | _ => False
theorem ints_vs {O : Ow} {H : Hp} : ∀ {ds : List D} {ns : List Int} {vs : List V}, intsOf ds = some ns → DqAll O H vs ds → vs = ns.map V.int
  | [], ns, _, h, .nil => by
    cases h
    rfl
  | .int i :: r, ns, _, h, .cons (.int _) q => by
    unfold intsOf at h
    cases hr : intsOf r with
    | none =>
      rw [hr] at h
      cases h
    | some ms =>
      rw [hr] at h
      cases h
      rw [ints_vs hr q]
      rfl
section
variable {X : Cx}
theorem call_fMin (hc : X.calm = true) : CallR X (.builtin "min") (rF fMin) := by
  intro pins s σ H xs us Q I r ⟨O, es, P, hq, hO, hg, k⟩
  unfold fMin at hg
  split at hg
  · cases hq with
    | cons a b =>
      cases b with
      | cons a2 b2 =>
        cases b2; cases a; cases a2
        exact call_min2 hc pins s σ H _ us Q I r ⟨_, _, rfl, k _ hg _ H (.refl _ _) (.int _)⟩
  · exact hg.elim
theorem call_fAbs : CallR X (.builtin "abs") (rF fAbs) := by
  intro pins s σ H xs us Q I r ⟨O, es, P, hq, hO, hg, k⟩
  unfold fAbs at hg
  split at hg
  · cases hq with
    | cons a b =>
      cases b; cases a
      exact call_abs pins s σ H _ us Q I r ⟨_, rfl, k _ hg _ H (.refl _ _) (.int _)⟩
  · exact hg.elim
theorem call_fMaxL (hc : X.calm = true) : CallR X (.builtin "max") (rF fMaxL) := by
  intro pins s σ H xs us Q I r ⟨O, es, P, hq, hO, hg, k⟩
  unfold fMaxL at hg
  split at hg
  · cases hq with
    | cons a b =>
      cases b
      obtain ⟨ns, h1, h2, h3⟩ := hg
      cases a with
      | lst o1 r1 a1 =>
        have e := ints_vs h1 a1
        subst e
        exact cr_max hc pins s σ H _ us Q I r ⟨_, ns, rfl, .of r1, List.length_pos_iff.mpr h2, fun m hm hy => k _ (h3 m hm hy) _ H (.refl _ _) (.int _)⟩
  · exact hg.elim
theorem call_fMinL (hc : X.calm = true) : CallR X (.builtin "min") (rF fMinL) := by
  intro pins s σ H xs us Q I r ⟨O, es, P, hq, hO, hg, k⟩
  unfold fMinL at hg
  split at hg
  · cases hq with
    | cons a b =>
      cases b
      obtain ⟨ns, h1, h2, h3⟩ := hg
      cases a with
      | lst o1 r1 a1 =>
        have e := ints_vs h1 a1
        subst e
        exact cr_min hc pins s σ H _ us Q I r ⟨_, ns, rfl, .of r1, List.length_pos_iff.mpr h2, fun m hm hy => k _ (h3 m hm hy) _ H (.refl _ _) (.int _)⟩
  · exact hg.elim
end
end DL

set_option maxHeartbeats 4000000
namespace DL
open PySem PySem.Spec PyProof.Rows L2
variable [TabCtx]
/-! ### [e for a, b in zip(x, y)] -/
theorem walk_zipT {K : PySem.W.Frag} {a b : Addr} {xs ys : List V} {n : Nat} (hn : n = min xs.length ys.length) : Walk (RZ.ItzT K a b) n (fun H => SqT K H a xs ∧ SqT K H b ys) (YPair (fun i => xs[i]?) (fun i => ys[i]?)) := by
  subst hn
  refine ⟨fun i _ hi q => ⟨xs, ys, xs[i]'(by omega), ys[i]'(by omega), q.1, q.2, by simp, by simp⟩, fun _ q => ⟨xs, ys, q.1, q.2, by omega⟩, fun i H v H' _ q y => ?_⟩
  obtain ⟨T, x, z, h1, h2, h3, h4, h5⟩ := y
  exact ⟨T, x, z, h1, h2, h3, h4 xs q.1, h5 ys q.2⟩
def DWalk2 (O : Ow) (J : It) (xs ys : List D) (H : Hp) : Prop := ∃ (G : Hp → Prop) (vx vy : List V), DqAll O H vx xs ∧ DqAll O H vy ys ∧ Walk J (min xs.length ys.length) G (YPair (fun i => vx[i]?) (fun i => vy[i]?)) ∧
  ∀ H2, (∀ b o, Out O b → H b = some o → NT o → H2 b = some o) → G H2
abbrev WI2 := Sl → (List D → List D → Prop) → Prop
def tIW2 (W : WI2) : TI := fun σ H R => ∃ (O : Ow) (ds : Sl) (P : List D → List D → Prop), SlD O H σ ds ∧ OwnAll O H ∧ W ds P ∧ ∀ xs ys, P xs ys → ∀ J H', Ext O H H' → DWalk2 O J xs ys H' → R J H'
def wiZip (Wa Wb : WE) : WI2 := fun ds P => Wa ds fun x => Wb ds fun y => ∃ xs ys, ((x = .lst xs ∧ y = .lst ys) ∨ (x = .tup xs ∧ y = .tup ys)) ∧ P xs ys
theorem wi_zip {X : Cx} {e e2 : Expr} {Wa Wb : WE} {p pos tpos : Pos} {elts : List Expr} {kk : Nat} (hg : Gl X "zip") (hm : X.mg "zip" = none) (ha : PE X e (tW Wa)) (hb : PE X e2 (tW Wb))
    (hs : starEach [e, e2] X.env = (false, eval e X.env) :: starEach [e2] X.env := by rfl) (hs2 : starEach [e2] X.env = (false, eval e2 X.env) :: starEach [] X.env := by rfl) (hpl : (backTo pos (starEach [e2] X.env)).any (·.1) = false := by rfl) :
    PI X (.Tuple elts kk tpos) (.Call (.Name "zip" p) [e, e2] [] pos) (tIW2 (wiZip Wa Wb)) :=
  PI.weak (RZ.pi_zipA hg hm (wa_cons ha (wa_cons hb wa_nil hs2) hs) hs hpl) fun σ H R ⟨O, ds, P, hS, hO, hW, k⟩ => ⟨O, ds, fun es => match es with
      | [x, y] => ∃ xs ys, ((x = .lst xs ∧ y = .lst ys) ∨ (x = .tup xs ∧ y = .tup ys)) ∧ P xs ys
      | _ => False, hS, hO, hW, fun es hes vs H1 e1 q1 => by
    match es, hes, q1 with
    | [x, y], hes, q1 =>
    obtain ⟨xs, ys, hxy, hp⟩ := hes
    cases q1 with
    | cons qx q1 =>
      cases q1 with
      | cons qy q1 =>
        cases q1
        rcases hxy with ⟨rfl, rfl⟩ | ⟨rfl, rfl⟩
        · cases qx with
          | lst o1 r1 a1 =>
            cases qy with
            | lst o2 r2 a2 =>
              exact ⟨_, _, _, _, rfl, .inl ⟨.of r1, .of r2, k _ _ hp _ _ e1 ⟨_, _, _, a1, a2, walk_zip (by rw [a1.length, a2.length]), fun H2 kp => ⟨.of (kp _ _ o1 r1 (by intro ps z; cases z)), .of (kp _ _ o2 r2 (by intro ps z; cases z))⟩⟩⟩⟩
        · cases qx with
          | tup o1 r1 a1 =>
            cases qy with
            | tup o2 r2 a2 =>
              exact ⟨_, _, _, _, rfl, .inr ⟨.inl r1, .inl r2, k _ _ hp _ _ e1 ⟨_, _, _, a1, a2, walk_zipT (by rw [a1.length, a2.length]), fun H2 kp => ⟨.inl (rd_keep kp o1 r1), .inl (rd_keep kp o2 r2)⟩⟩⟩⟩⟩
def wEach2 (f : D → D → (D → Prop) → Prop) : List D → List D → (List D → Prop) → Prop
  | x :: xs, y :: ys, P => f x y fun z => wEach2 f xs ys fun zs => P (z :: zs)
  | _, _, P => P []
def at2 (i1 i2 : Nat) (ds : Sl) (a b : D) : Sl := ((wipeD ds [i1, i2]).set i1 (some a)).set i2 (some b)
def wLcZ (i1 i2 : Nat) (Wi : WI2) (We : WE) : WE := fun ds P => Wi ds fun xs ys => min xs.length ys.length < sizeLine ∧ wEach2 (fun a b P' => We (at2 i1 i2 ds a b) P') xs ys fun zs => P (.lst zs)
theorem each2_end {f : D → D → (D → Prop) → Prop} {xs ys : List D} {P : List D → Prop} {n : Nat} (hn : n = min xs.length ys.length) (h : wEach2 f (xs.drop n) (ys.drop n) P) : P [] := by
  rcases Nat.le_total xs.length ys.length with l | l
  · rw [hn, Nat.min_eq_left l, List.drop_length] at h
    exact h
  · rw [hn, Nat.min_eq_right l, List.drop_length] at h
    cases hx : xs.drop ys.length with
    | nil =>
      rw [hx] at h
      exact h
    | cons a b =>
      rw [hx] at h
      exact h
theorem lcz_red {i1 i2 : Nat} {Wi : WI2} {We : WE} {K : PySem.W.Frag} {σ : L2.St} {H : Hp} {Q : VK} (h : tW (wLcZ i1 i2 Wi We) σ H Q) : tLc (tIW2 Wi) (gTup K 2 (gCons (gName i1) (gCons (gName i2) gNil))) tYes (tW We) [i1, i2] σ H Q := by
  obtain ⟨O, ds, P, hS, hO, hW, k⟩ := h
  refine ⟨O, ds, _, hS, hO, hW, fun xs ys ⟨hl, hx⟩ J H1 e1 ⟨G, vx, vy, ax, ay, w, hG⟩ D nD => ?_⟩
  have S1 := hS.mono e1
  have O1 := hO.mono e1
  have oD : Out O D := O1.out nD
  have kN : ∀ b o, Out (O ++ [(D, Own.hold (HO.lst []))]) b → H1 b = some o → NT o → upd H1 D (.lst []) b = some o := fun b o x hh _ => by
    rw [upd_ne x.hold_ne]
    exact hh
  refine lc_it w (fun j H2 => ∃ acc dacc, acc.length ≤ j ∧ Hd O D acc H2 (L2.wipe σ [i1, i2]) (wipeD ds [i1, i2]) dacc ∧ (∀ b o, Out O b → H1 b = some o → NT o → H2 b = some o) ∧
    wEach2 (fun a b P' => We (at2 i1 i2 ds a b) P') (xs.drop j) (ys.drop j) fun zs => P (.lst (dacc ++ zs))) ?h0 ?hG ?hs ?hd
  case h0 => exact ⟨[], [], Nat.le_refl _, ⟨((S1.more (fresh_none nD)).keep kN).wipe _, .nil, OwnAll.hold (O1.mono (.new nD)) oD upd_same⟩, (Ext.new nD).keep, by simpa using hx⟩
  case hG =>
    rintro j H2 _ ⟨_, _, _, _, kp, _⟩
    exact hG H2 kp
  case hs =>
    rintro j x H2 H' hj ⟨acc, dacc, ha, hd, kp, hw⟩ ⟨T, a, b, rfl, hT, rfl, hxa, hyb⟩
    have j1 : j < xs.length := by omega
    have j2 : j < ys.length := by omega
    obtain ⟨a', ea, qa⟩ := ax.get (i := j) (d := xs[j]) (by simp [j1])
    obtain ⟨b', eb, qb⟩ := ay.get (i := j) (d := ys[j]) (by simp [j2])
    cases ea.symm.trans hxa
    cases eb.symm.trans hyb
    rw [List.drop_eq_getElem_cons j1, List.drop_eq_getElem_cons j2] at hw
    have en : Ext (O ++ [(D, Own.hold (HO.lst acc))]) H2 (upd H2 T (.tup [a, b])) := .new hT
    have hd1 := hd.mono en
    have kp1 : ∀ c o, Out (O ++ [(D, Own.hold (HO.lst acc))]) c → H1 c = some o → NT o → upd H2 T (.tup [a, b]) c = some o := fun c o x h t => en.keep c o x (kp c o x.hold_out h t) t
    refine ⟨T, _, rfl, .inl (.of upd_same), rfl, _, _, rfl, _, _, rfl, rfl, ?_, ?_⟩
    · rw [wipe_set (by simp), wipe_set (by simp), wipe_wipe]
    · unfold tYes
      dsimp only
      simp only [if_true]
      show tW We _ _ _
      have S2 : SlD (O ++ [(D, .hold (.lst acc))]) (upd H2 T (.tup [a, b])) (((L2.wipe σ [i1, i2]).set i1 (some a)).set i2 (some b)) (at2 i1 i2 ds xs[j] ys[j]) :=
        (hd1.sl.set i1 ((qa.more (fresh_none nD)).keep kp1)).set i2 ((qb.more (fresh_none nD)).keep kp1)
      refine ⟨_, _, _, S2, hd1.ow, hw, fun dy hy v H4 e4 q4 => ?_⟩
      have hd4 := hd1.mono e4
      refine ⟨acc, hd4.at, by omega, acc ++ [v], dacc ++ [dy], by simp; omega, hd4.app oD (.cons q4 .nil), fun c o hb h t => ?_, by simpa using hy⟩
      have bD : c ≠ D := ne_of_none h nD
      rw [upd_ne bD]
      exact e4.keep c o (fun q hq => by
        rcases List.mem_append.mp hq with z | z
        · exact hb q z
        · rw [List.mem_singleton.mp z]; exact bD) (en.keep c o (fun q hq => by
        rcases List.mem_append.mp hq with z | z
        · exact hb q z
        · rw [List.mem_singleton.mp z]; exact bD) (kp c o hb h t) t) t
  case hd =>
    rintro H2 ⟨acc, dacc, ha, hd, kp, hw⟩
    have hw' : P (.lst (dacc ++ [])) := each2_end rfl hw
    rw [List.append_nil] at hw'
    exact k _ hw' _ H2 (e1.trans ⟨kp, fun p hp _ => hd.ow.less.here p hp⟩) (.lst oD hd.at hd.al.less)
theorem we_lcz {X : Cx} {i1 i2 kk : Nat} {x1 x2 : Str} {p1 p2 tpos : Pos} {elt iter : Expr} {scope : Scope} {Wi : WI2} {We : WE} {pos : Pos} (hc : X.calm = true) (hN : X.N.Nodup) (hi : PI X (.Tuple [.Name x1 p1, .Name x2 p2] kk tpos) iter (tIW2 Wi)) (ok : BlkOk X.N X.env.scope scope [(x1, i1), (x2, i2)])
    (hg : ∀ (s : Shared) (H : Hp) (C : Addr) (cl : List (Str × Addr)) (fp : List Addr), PG (X.blk s H scope (compEnvC scope cl C X.env) fp) (.Tuple [.Name x1 p1, .Name x2 p2] kk tpos) (gTup X.K 2 (gCons (gName i1) (gCons (gName i2) gNil))))
    (he : ∀ (s : Shared) (H : Hp) (C : Addr) (cl : List (Str × Addr)) (fp : List Addr), PE (X.blk s H scope (compEnvC scope cl C X.env) fp) elt (tW We)) (hs : ∀ x, foldedSetIterable iter X.env x = pure x := by intro _; rfl) :
    PE X (.ListComp elt [⟨.Tuple [.Name x1 p1, .Name x2 p2] kk tpos, iter, [], 0⟩] scope pos) (tW (wLcZ i1 i2 Wi We)) :=
  PE.weak (pe_lc (own := [(x1, i1), (x2, i2)]) hc hN hi ok hg (fun _ _ _ _ _ => pts_nil) he hs) fun σ H Q h => lcz_red h
end DL

set_option maxHeartbeats 4000000
namespace DL
open PySem PySem.Spec PyProof.Rows L2
variable [TabCtx]
/-! ### a, b = a list; for a, b in a list of lists -/
def gUn2L (i1 i2 : Nat) (W : WE) : WS := fun ds N _ _ => W ds fun d => ∃ a b, d = .lst [a, b] ∧ N ((ds.set i1 (some a)).set i2 (some b))
def gFor2L (i1 i2 : Nat) (Wi : WI) (G : WS) : WS := fun ds N R Z => Wi ds fun xs => ∃ I : Nat → Sl → Prop, I 0 ds ∧ (∀ j x ds', xs[j]? = some x → I j ds' → ∃ a b, x = .lst [a, b] ∧ G ((ds'.set i1 (some a)).set i2 (some b)) (I (j + 1)) R Z) ∧ ∀ ds', I xs.length ds' → N ds'
section
variable {X : Cx} {i1 i2 kk : Nat} {x1 x2 : Str} {p1 p2 tpos pos : Pos} {e iter : Expr} {W : WE} {E : XK}
theorem ws_un2L (hc : X.calm = true) (h1 : PG X (.Name x1 p1) (gName i1)) (h2 : PG X (.Name x2 p2) (gName i2)) (he : PE X e (tW W)) (hs : swapsWithSole [.Tuple [.Name x1 p1, .Name x2 p2] kk tpos] e pos.line X.env = pure false := by rfl)
    (hw : swappedStores [.Tuple [.Name x1 p1, .Name x2 p2] kk tpos] e X.env = pure none := by rfl) : PS X (.Assign [.Tuple [.Name x1 p1, .Name x2 p2] kk tpos] e pos) (tSW E (gUn2L i1 i2 W)) :=
  PS.weak (ps_asg he (pg_lst (n := 2) hc (pgs_cons h1 (pgs_cons h2 pgs_nil))) hs hw) fun D σ H ⟨O, ds, N, R, Z, hS, hO, hG, hN, hR, hZ⟩ => ⟨O, ds, _, hS, hO, hG, fun d hd v H1 e1 q1 => by
    obtain ⟨a, b, rfl, hn⟩ := hd
    cases q1 with
    | lst o r al =>
      cases al with
      | cons qa al =>
        cases al with
        | cons qb al =>
          cases al
          exact ⟨_, _, rfl, .of r, rfl, _, _, rfl, _, _, rfl, rfl, hN _ hn _ _ e1 (((hS.mono e1).set i1 qa).set i2 qb)⟩⟩
theorem ws_for2L {body : List Stmt} {G : WS} {Wi : WI} (hp : PassesOwn (model X.prog X.w) X.A X.env X.xe) (hc : X.calm = true) (hi : PI X (.Tuple [.Name x1 p1, .Name x2 p2] kk tpos) iter (tIW Wi)) (h1 : PG X (.Name x1 p1) (gName i1)) (h2 : PG X (.Name x2 p2) (gName i2)) (hb : PSs X body (tSW E G))
    (hs : ∀ x, foldedSetIterable iter X.env x = pure x := by intro _; rfl) : PS X (.For (.Tuple [.Name x1 p1, .Name x2 p2] kk tpos) iter body [] pos) (tSW E (gFor2L i1 i2 Wi G)) :=
  PS.weak (ps_for hp hc hi (pg_lst (n := 2) hc (pgs_cons h1 (pgs_cons h2 pgs_nil))) hb hs) fun D σ H ⟨O, ds, N, R, Z, hS, hO, hG, hN, hR, hZ⟩ => ⟨O, ds, _, hS, hO, hG, fun xs ⟨I, h0, h1, h2⟩ J H1 e1 ⟨Gd, w, hGd⟩ => by
    refine for_it w (fun j σ2 H2 => ∃ ds', I j ds' ∧ SlD O H2 σ2 ds' ∧ Ext O H1 H2) ⟨ds, h0, hS.mono e1, .refl _ _⟩ (fun j σ2 H2 _ ⟨_, _, _, e2⟩ => hGd H2 e2.keep) ?_ ?_
    · rintro j x σ2 H2 H' hj ⟨ds', hI, hS2, e2⟩ ⟨rfl, d, hd, qd⟩
      have e3 := e1.trans e2
      obtain ⟨a, b, rfl, hg⟩ := h1 j d ds' hd hI
      have qd2 := qd.mono e2
      cases qd2 with
      | lst o r al =>
        cases al with
        | cons qa al =>
          cases al with
          | cons qb al =>
            cases al
            exact ⟨_, _, rfl, .of r, rfl, _, _, rfl, _, _, rfl, rfl, O, _, I (j + 1), R, Z, (hS2.set i1 qa).set i2 qb, hO.mono e3, hg, fun d3 h3 σ3 H3 e4 s3 => ⟨d3, h3, s3, e2.trans e4⟩,
              fun d h v H3 e4 q => hR d h v H3 (e3.trans e4) q, fun C d h dx v H3 e4 q => hZ C d h dx v H3 (e3.trans e4) q⟩
    · rintro σ2 H2 ⟨ds', hI, hS2, e2⟩
      exact hN ds' (h2 ds' hI) σ2 H2 (e1.trans e2) hS2⟩
end
/-! ### a def that hands back a new list -/
abbrev WSF := Sl → (List D → Prop) → Prop
def tSF (G : WSF) : TS := fun Dn σ H => ∃ (O : Ow) (ds : Sl) (R : List D → Prop), SlD O H σ ds ∧ OwnAll O H ∧ G ds R ∧ ∀ es, R es → ∀ p vs H', Out O p → Fresh H p → Ext O H H' → H' p = some (.lst vs) → DqAll (O ++ [(p, .hold (.lst vs))]) H' vs es → Dn.rt (.ref p) H'
def gSeqF (G : WS) (F : WSF) : WSF := fun ds R => G ds (fun ds' => F ds' R) (fun _ => False) fun _ _ => False
theorem Ext.fresh_of {O : Ow} {H H1 : Hp} {p : Addr} (e : Ext O H H1) (o : OwnAll O H) (op : Out O p) (n : Fresh H1 p) : Fresh H p := fun b u h t z => by
  subst z
  exact n b u (e.keep b u op h t) t rfl
def spFr (f : List D → (List D → Prop) → Prop) : Sp := fun vs H Q _ => ∃ (O : Ow) (es : List D) (P : List D → Prop), DqAll O H vs es ∧ OwnAll O H ∧ f es P ∧ ∀ ds, P ds → ∀ p us H', Out O p → Fresh H p → Ext O H H' → H' p = some (.lst us) → DqAll (O ++ [(p, .hold (.lst us))]) H' us ds → Q (.ref p) H'
section
variable {X : Cx} {st : Stmt} {rest : List Stmt} {e : Expr} {pos : Pos} {E : XK} {G : WS} {F : WSF} {W : WF}
theorem sf_ret (h : PE X e (tFW W)) : PSs X [.Return (some e) pos] (tSF W) := PSs.weak (pss_one (ps_ret h)) fun D σ H ⟨O, ds, R, hS, hO, hG, hR⟩ => ⟨O, ds, R, hS, hO, hG, fun es he p vs H' op fr e hp q => hR es he p vs H' op fr e hp q⟩
theorem sf_cons (h1 : PS X st (tSW E G)) (h2 : PSs X rest (tSF F)) : PSs X (st :: rest) (tSF (gSeqF G F)) :=
  PSs.weak (pss_cons h1 h2) fun D σ H ⟨O, ds, R, hS, hO, hG, hR⟩ => ⟨O, ds, _, _, _, hS, hO, hG, fun ds' hd σ' H' e1 s1 => ⟨O, ds', R, s1, hO.mono e1, hd, fun es he p vs H2 op fr e2 hp q => hR es he p vs H2 op (e1.fresh_of hO op fr) (e1.trans e2) hp q⟩, fun _ z => z.elim, fun _ _ z => z.elim⟩
end
section
variable {P : Program} {w : World} {K : PySem.W.Frag} {mg : Str → Option Value} {base : Heap}
theorem fn_okF {x qual : Str} {st : Stmt} {f : Addr} {fd : FuncData} {N ps : List Str} {k : Nat} {g : List D → (List D → Prop) → Prop} (F : Fun K x qual st f fd) (S : FnScope N ps (defScope st)) (len : ∀ es P, g es P → es.length = ps.length)
    (hbody : ∀ (cdv : Value) (A : Around) (outer : List Env) (s : Shared) (H : Hp) (E : XK), Room k (A.deeper (envOfC qual (defScope st) s.heap.objs.size f cdv)) →
      ∃ G, PSs (cxOf CX0 P w K mg base N qual (defScope st) f cdv A outer s H E).nox (defBody st) (tSF G) ∧ ∀ es P, g es P → G (startD N es) P) :
    FnOk P w K mg base CX0 (k + 1) f fd ps (spFr g) := by
  refine F.ok S (fun vs H Q E ⟨O, es, P, hq, hO, hg, _⟩ => by rw [hq.length]; exact len _ _ hg) (fun cdv A outer s H vs Q E hr ⟨O, es, P, hq, hO, hg, hP⟩ => ?_)
  obtain ⟨G, h1, h2⟩ := hbody cdv A outer s H E hr
  exact ⟨_, h1, O, startD N es, P, start_sl hq, hO, h2 es P hg, hP⟩
/-- a def whose code object is known -/
theorem fn_okC {x qual : Str} {st : Stmt} {f c : Addr} {fd : FuncData} {N ps : List Str} {k : Nat} {g : DFn} (F : Fun K x qual st f fd) (hc : fd.code = .ref c) (S : FnScope N ps (defScope st)) (len : ∀ es P, g es P → es.length = ps.length)
    (hbody : ∀ (A : Around) (outer : List Env) (s : Shared) (H : Hp) (E : XK), Room k (A.deeper (envOfC qual (defScope st) s.heap.objs.size f (.ref c))) →
      ∃ G, PSs (cxOf CX0 P w K mg base N qual (defScope st) f (.ref c) A outer s H E).nox (defBody st) (tSW (fun _ _ _ => False) G) ∧ ∀ es P, g es P → G (startD N es) (fun _ => P .non) P fun _ _ => False) :
    FnOk P w K mg base CX0 (k + 1) f fd ps (spD fun es P _ => g es P) := by
  obtain ⟨oc, od, kV, doc, pm, an, cdv, ct, osl, rfl, lk, hcd⟩ := F.ex
  have hc' : cdv = .ref c := hc
  subst hc'
  refine fn_of lk hcd S (fun vs H Q E ⟨O, es, P, Z, hq, hO, hg, _⟩ => by rw [hq.length]; exact len _ _ hg) fun A outer s H vs Q E hr ⟨O, es, P, Z, hq, hO, hg, hP, hZ⟩ => ?_
  obtain ⟨G, h1, h2⟩ := hbody A outer s H E hr
  exact ⟨_, h1.nox, O, startD N es, _, P, _, start_sl hq, hO, h2 es P hg, fun ds' hd σ' H' e1 _ => hP _ hd _ H' e1 .non, hP, fun _ _ z => z.elim⟩
end
section
variable {X : Cx} {k : Nat} {f : Addr} {fd : FuncData} {ps : List Str} {x : Str} {p pos : Pos} {e : Expr} {es : List Expr} {A : WA}
theorem fw_call {g : List D → (List D → Prop) → Prop} (F : FnOk X.prog X.w X.K X.mg X.base CX0 k f fd ps (spFr g)) (hr : Room k X.A) (hg : Gl X x) (hm : X.mg x = some (.ref f)) (hk : PySem.W.keepIn X.K (.ref f) = true) (hb : Binds X.K fd ps [])
    (ha : PA X (e :: es) (tAW A)) (hdb : (x == ("__debug__" : Str)) = false := by decide) (he : starEach (e :: es) X.env = (false, eval e X.env) :: starEach es X.env := by rfl) (hpl : (backTo pos (starEach es X.env)).any (·.1) = false := by rfl) :
    PE X (.Call (.Name x p) (e :: es) [] pos) (tFW fun ds P => A ds fun es => g es P) := PE.weak (pe_call F hr hg hm hk hb .nil pass0 ha hdb he hpl) fun σ H Q ⟨O, ds, P, hS, hO, hW, k⟩ => ⟨O, ds, _, hS, hO, hW, fun es he vs H1 e1 q1 => by
      show spFr g (vs ++ []) H1 Q _
      rw [List.append_nil]
      exact ⟨O, es, P, q1, hO.mono e1, he, fun ds hd p us H2 op fr e2 hp q => k ds hd p us H2 op (e1.fresh_of hO op fr) (e1.trans e2) hp q⟩⟩
end
/-! ### a new source of draws, for the rest of a block -/
mutual
def noS : D → Bool
  | .src _ => false
  | .lst xs => noSs xs
  | .tup xs => noSs xs
  | .exn _ _ t => noS t
  | .ins _ _ ds => noSs ds
  | .dct _ ds => noSs ds
  | _ => true
def noSs : List D → Bool
  | [] => true
  | d :: ds => noS d && noSs ds
end
theorem out_less {O : Ow} {a : Addr} {q : Addr × Own} (x : Out (O ++ [q]) a) : Out O a := fun p hp => x p (List.mem_append_left _ hp)
mutual
theorem Dq.lessS {O : Ow} {H : Hp} {p : Addr} : ∀ {v : V} {d : D}, Dq (O ++ [(p, .src)]) H v d → noS d = true → Dq O H v d
  | _, _, .non, _ => .non
  | _, _, .bl b, _ => .bl b
  | _, _, .int i, _ => .int i
  | _, _, .str x, _ => .str x
  | _, _, .lst x r a, n => .lst (out_less x) r (a.lessS (by unfold noS at n; exact n))
  | _, _, .tup x r a, n => .tup (out_less x) r (a.lessS (by unfold noS at n; exact n))
  | _, _, .src h, n => by unfold noS at n; cases n
  | _, _, .fn f, _ => .fn f
  | _, _, .exn x r a, n => .exn (out_less x) r (a.lessS (by unfold noS at n; exact n))
  | _, _, .sq h, _ => .sq (h.imp (fun z => ⟨out_less z.1, z.2⟩) id)
  | _, _, .ins x r a, n => .ins (out_less x) r (a.lessS (by unfold noS at n; exact n))
  | _, _, .dct x r a, n => .dct (out_less x) r (a.lessS (by unfold noS at n; exact n))
theorem DqAll.lessS {O : Ow} {H : Hp} {p : Addr} : ∀ {vs : List V} {ds : List D}, DqAll (O ++ [(p, .src)]) H vs ds → noSs ds = true → DqAll O H vs ds
  | _, _, .nil, _ => .nil
  | _, _, .cons a b, n => by
    unfold noSs at n
    obtain ⟨h1, h2⟩ := Bool.and_eq_true_iff.mp n
    exact .cons (a.lessS h1) (b.lessS h2)
end
def cleanO : Option D → Option D
  | some d => if noS d = true then some d else none
  | none => none
def cleanS (ds : Sl) : Sl := ds.map cleanO
theorem SlD.lessS {O : Ow} {H : Hp} {σ : L2.St} {ds : Sl} {p : Addr} (h : SlD (O ++ [(p, .src)]) H σ ds) : SlD O H σ (cleanS ds) :=
  ⟨by unfold cleanS; rw [List.length_map, h.len], fun i d hd => by
    unfold cleanS at hd
    rw [List.getElem?_map] at hd
    cases hi : ds[i]? with
    | none =>
      rw [hi] at hd
      cases hd
    | some o =>
      rw [hi] at hd
      cases o with
      | none => cases hd
      | some d' =>
        have hd' : (if noS d' = true then some d' else none) = some d := Option.some.inj hd
        split at hd'
        · rename_i n
          cases hd'
          obtain ⟨v, a, b⟩ := h.val i _ hi
          exact ⟨v, a, b.lessS n⟩
        · cases hd'⟩
theorem TabsOk.src {O : Ow} {p : Addr} (h : TabsOk O) : TabsOk (O ++ [(p, .src)]) :=
  ⟨fun t => (h.iff t).trans ⟨fun z => List.mem_append_left _ z, fun z => (List.mem_append.mp z).elim id fun z => (by cases List.mem_singleton.mp z)⟩, fun q u z => (List.mem_append.mp z).elim (h.held q u) fun z => (by cases List.mem_singleton.mp z)⟩
theorem OwnAll.src {O : Ow} {H : Hp} {p : Addr} {x y : Int} (h : OwnAll O H) (op : Out O p) (hp : H p = some (.lst [.int x, .int y])) (h0 : 0 ≤ y) (h1 : y < 2147483647) : OwnAll (O ++ [(p, .src)]) H :=
  ⟨fun q hq => (List.mem_append.mp hq).elim (h.here q) fun z => by
      rw [List.mem_singleton.mp z]
      exact ⟨_, hp, x, y, rfl, h0, h1⟩,
    fun q hq r hr e => by
      rcases List.mem_append.mp hq with z | z <;> rcases List.mem_append.mp hr with z' | z'
      · exact h.uq q z r z' e
      · rw [List.mem_singleton.mp z'] at e
        exact absurd e.symm (op q z)
      · rw [List.mem_singleton.mp z] at e
        exact absurd e (op r z')
      · rw [List.mem_singleton.mp z, List.mem_singleton.mp z'], h.tabs.src⟩
theorem Ext.dropS {O : Ow} {H0 H H' : Hp} {p : Addr} (e : Ext (O ++ [(p, .src)]) H H') (e0 : Ext O H0 H) (n : Fresh H0 p) : Ext O H0 H' :=
  ⟨fun b u hb h t => e.keep b u (fun q hq => (List.mem_append.mp hq).elim (hb q) fun z => by
      rw [List.mem_singleton.mp z]
      exact n b u h t) (e0.keep b u hb h t) t, fun q hq h => e.own q (List.mem_append_left _ hq) (e0.own q hq h)⟩
def gSrc (i : Nat) (W : WF) (G : WS) : WS := fun ds N R Z => W ds fun es => ∃ x y : Int, es = [.int x, .int y] ∧ 0 ≤ y ∧ y < 2147483647 ∧ ∀ p, G (ds.set i (some (.src p))) (fun ds' => N (cleanS ds')) (fun d => noS d = true ∧ R d) fun C d => noS d = true ∧ Z C d
theorem wss_src {X : Cx} {i : Nat} {x : Str} {e : Expr} {rest : List Stmt} {W : WF} {G : WS} {E : XK} {pos pos' : Pos} (hN : X.N.Nodup) (hi : X.N[i]? = some x) (hx : Loc X.env.scope x) (he : PE X e (tFW W)) (hr : PSs X rest (tSW E G)) (hs : swapsWith e (some (.Name x pos')) pos.line X.env = pure false := by rfl)
    (hf : X.fn x = true ∨ X.env.scope.names.lookup x = some .local := by first | exact .inl rfl | exact .inr rfl) : PSs X (.Assign [.Name x pos'] e pos :: rest) (tSW E (gSrc i W G)) :=
  PSs.weak (pss_cons (ps_set hN hi hx he hs hf) hr) fun D σ H ⟨O, ds, N, R, Z, hS, hO, hG, hNx, hR, hZ⟩ => ⟨O, ds, _, hS, hO, hG, fun es hes p vs H' op fr e1 hp hq => by
    obtain ⟨x, y, rfl, h0, h1, hg⟩ := hes
    have hq' := hq.less
    have ev : vs = [.int x, .int y] := by
      cases hq' with
      | cons qa q =>
        cases q with
        | cons qb q =>
          cases q
          cases qa
          cases qb
          rfl
    subst ev
    have O2 : OwnAll (O ++ [(p, .src)]) H' := (hO.mono e1).src op hp h0 h1
    have kk : ∀ b o, Out (O ++ [(p, Own.src)]) b → H b = some o → NT o → H' b = some o := fun b o x hh t => e1.keep b o (out_less x) hh t
    have S2 : SlD (O ++ [(p, .src)]) H' (σ.set i (some (.ref p))) (ds.set i (some (.src p))) := ((hS.more fr).keep kk).set i (.src (by simp))
    exact ⟨_, _, _, _, _, S2, O2, hg p, fun ds' hd σ2 H2 e2 s2 => hNx _ hd σ2 H2 (e2.dropS e1 fr) s2.lessS, fun d ⟨n, hd⟩ v H2 e2 q => hR d hd v H2 (e2.dropS e1 fr) (q.lessS n),
      fun C d ⟨n, hd⟩ dx v H2 e2 ox hx q => hZ C d hd dx v H2 (e2.dropS e1 fr) (out_less ox) hx (q.lessS n)⟩⟩
end DL

set_option maxHeartbeats 4000000
namespace DL
open PySem PySem.Spec PyProof.Rows L2
variable [TabCtx]
/-! ### expressions that may raise, within others -/
def wzE (W : WE) : WZ := fun ds P _ => W ds P
def wzOpL (f : DOp) (B : WZ) (Wb : WE) : WZ := fun ds P Z => B ds (fun x => Wb ds fun y => f x y P) Z
def wzIf (T : WT) (Ba Bb : WZ) : WZ := fun ds P Z => T ds fun b => if b = true then Ba ds P Z else Bb ds P Z
def gzRet (B : WZ) : WS := fun ds _ R Z => B ds R Z
def gzSet (i : Nat) (B : WZ) : WS := fun ds N _ Z => B ds (fun d => N (ds.set i (some d))) Z
def gzDrop (B : WZ) : WS := fun ds N _ Z => B ds (fun _ => N ds) Z
section
variable {X : Cx} {a b c : Expr} {B Ba Bb : WZ} {W : WX} {Wa Wb : WE} {T : WT} {pos : Pos} {E : XK}
theorem wz_e (h : PE X a (tW Wa)) : PE X a (tZW W (wzE Wa)) := PE.weak h fun σ H Q ⟨O, ds, P, Z, hS, hO, hB, hP, hZ⟩ => ⟨O, ds, P, hS, hO, hB, hP⟩
theorem wz_opL {op : Operator} {f : DOp} (ho : OpR X (binaryOp op) (rD f)) (ha : PE X a (tZW W B)) (hb : PE X b (tW Wb)) : PE X (.BinOp a op b pos) (tZW W (wzOpL f B Wb)) :=
  PE.weak (pe_op ho ha hb) fun σ H Q ⟨O, ds, P, Z, hS, hO, hB, hP, hZ⟩ =>
    ⟨O, ds, _, Z, hS, hO, hB, fun dx hx v H1 e1 q1 => ⟨O, ds, _, hS.mono e1, hO.mono e1, hx, fun dy hy u H2 e2 q2 =>
      ⟨O, dx, dy, P, q1.mono e2, q2, (hO.mono e1).mono e2, hy, fun d hd w H3 e3 q3 => hP d hd w H3 ((e1.trans e2).trans e3) q3⟩⟩, hZ⟩
theorem wz_if (hc : PT X c (tTW T)) (ha : PE X a (tZW W Ba)) (hb : PE X b (tZW W Bb)) : PE X (.IfExp c a b pos) (tZW W (wzIf T Ba Bb)) :=
  PE.weak (pe_ifExp hc ha hb) fun σ H Q ⟨O, ds, P, Z, hS, hO, hB, hP, hZ⟩ => ⟨O, ds, _, hS, hO, hB, fun b hb H1 e1 => by
    have hz : ∀ C t, Z C t → ∀ dx v H', Ext O H1 H' → Out O dx → H' dx = some (.xd [("told", v)]) → Dq O H' v t → W (.ref C) (some dx) σ H' := fun C t z dx v H' e2 => hZ C t z dx v H' (e1.trans e2)
    cases b with
    | true =>
      rw [if_pos rfl] at hb
      show tZW W Ba σ H1 Q
      exact ⟨O, ds, P, Z, hS.mono e1, hO.mono e1, hb, fun d hd w H2 e2 q2 => hP d hd w H2 (e1.trans e2) q2, hz⟩
    | false =>
      rw [if_neg Bool.false_ne_true] at hb
      show tZW W Bb σ H1 Q
      exact ⟨O, ds, P, Z, hS.mono e1, hO.mono e1, hb, fun d hd w H2 e2 q2 => hP d hd w H2 (e1.trans e2) q2, hz⟩⟩
theorem ws_zret (h : PE X a (tZW (fun cls d _ H => E cls d H) B)) : PS X (.Return (some a) pos) (tSW E (gzRet B)) :=
  PS.weak (ps_ret h) fun D σ H ⟨O, ds, N, R, Z, hS, hO, hG, hN, hR, hZ⟩ => ⟨O, ds, R, Z, hS, hO, hG, hR, fun C t z dx v H' e1 ox hx q => hZ C t z dx v H' e1 ox hx q⟩
theorem ws_zdrop (h : PE X a (tZW (fun cls d _ H => E cls d H) B)) (hs : swapsWith a none pos.line X.env = pure false := by rfl) : PS X (.Expr a pos) (tSW E (gzDrop B)) :=
  PS.weak (ps_expr h hs) fun D σ H ⟨O, ds, N, R, Z, hS, hO, hG, hN, hR, hZ⟩ => ⟨O, ds, _, Z, hS, hO, hG, fun d hd v H1 e1 q1 => hN _ hd σ H1 e1 (hS.mono e1), fun C t z dx v H' e1 ox hx q => hZ C t z dx v H' e1 ox hx q⟩
theorem ws_zset {i : Nat} {x : Str} {pos' : Pos} (hN : X.N.Nodup) (hi : X.N[i]? = some x) (hx : Loc X.env.scope x) (h : PE X a (tZW (fun cls d _ H => E cls d H) B)) (hs : swapsWith a (some (.Name x pos')) pos.line X.env = pure false := by rfl)
    (hf : X.fn x = true ∨ X.env.scope.names.lookup x = some .local := by first | exact .inl rfl | exact .inr rfl) : PS X (.Assign [.Name x pos'] a pos) (tSW E (gzSet i B)) :=
  PS.weak (ps_set hN hi hx h hs hf) fun D σ H ⟨O, ds, N, R, Z, hS, hO, hG, hN, hR, hZ⟩ => ⟨O, ds, _, Z, hS, hO, hG, fun d hd v H1 e1 q1 => hN _ hd _ H1 e1 ((hS.mono e1).set i q1), fun C t z dx v H' e1 ox hx q => hZ C t z dx v H' e1 ox hx q⟩
end
/-! ### a list or a tuple gone through -/
def seqOf : D → Option (List D)
  | .lst xs => some xs
  | .tup xs => some xs
  | _ => none
theorem seqOf_lst {xs : List D} : seqOf (.lst xs) = some xs := rfl
theorem seqOf_tup {xs : List D} : seqOf (.tup xs) = some xs := rfl
def wiSeq (W : WE) : WI := fun ds P => W ds fun d => ∃ xs, seqOf d = some xs ∧ P xs
section
variable {X : Cx} {tg e : Expr} {W : WE}
theorem pi_any {te : TE} (he : PE X e te) : PI X tg e (fun σ H R => te σ H fun x H1 => ∃ a, x = .ref a ∧ ((∃ xs, SqL X.K H1 a xs ∧ R (Itl X.K a) H1) ∨ (∃ xs, SqT X.K H1 a xs ∧ R (Itt X.K a) H1))) := by
  refine ⟨fun pins s σ H R I h => ?_⟩
  refine thn (he.run pins s σ H _ I h) fun v s1 ⟨x, H1, I1, r1, q1⟩ => ?_
  obtain ⟨a, e, q⟩ := q1
  subst e
  cases r1
  have fin : ∀ b, b ∈ [s1.heap.objs.size] → _ := fun b hb => by
    have e : b = s1.heap.objs.size := by simpa using hb
    subst e
    exact I1.fpOk (Nat.le_refl _) (I1.hok.fresh (Nat.le_refl _))
  rcases q with ⟨xs, hq, q⟩ | ⟨xs, hq, q⟩
  · obtain ⟨its, rv, p, hz⟩ := I1.list hq
    exact wpAny_pyIter_list p.isList ⟨s1.heap.objs.size, [s1.heap.objs.size], _, _, H1, rfl, I1.kept (t' := s1.toks) fun b o e => Heap.get?_push_of_some _ e, turn_list a _, ⟨_, Heap.get?_push_size _ rfl, rfl, rfl⟩, fin, q⟩
  · obtain ⟨its, rv, p, hz⟩ := I1.tuple hq
    exact wpAny_pyIter_tuple (show s1.heap.IsTuple a its.toArray from p) ⟨s1.heap.objs.size, [s1.heap.objs.size], _, _, H1, rfl, I1.kept (t' := s1.toks) fun b o e => Heap.get?_push_of_some _ e, turn_tuple a _, ⟨_, Heap.get?_push_size _ rfl, rfl, rfl⟩, fin, q⟩
theorem wi_sq (h : PE X e (tW W)) : PI X tg e (tIW (wiSeq W)) := PI.weak (pi_any h) fun σ H R ⟨O, ds, P, hS, hO, hW, k⟩ => ⟨O, ds, _, hS, hO, hW, fun d hd v H1 e1 q1 => by
  obtain ⟨xs, hx, hp⟩ := hd
  cases q1 <;> simp only [seqOf, reduceCtorEq, Option.some.injEq] at hx
  · rename_i a vs ds' x r q
    subst hx
    refine ⟨a, rfl, .inl ⟨vs, .of r, k _ hp _ H1 e1 ⟨fun H => SqL X.K H a vs, ?_, fun H2 k2 => .of (k2 _ _ x r (by intro ps z; cases z))⟩⟩⟩
    rw [← q.length]
    exact walk_list.mono (fun H z => z) fun i H x H' hi z y => by
      obtain ⟨y1, y2⟩ := y
      have hi' : i < ds'.length := by rw [← q.length]; exact hi
      obtain ⟨v, e1, q1⟩ := q.get (i := i) (d := ds'[i]) (by simp [hi'])
      rw [y2] at e1
      cases e1
      exact ⟨y1, _, by simp [hi'], q1⟩
  · rename_i a vs ds' x r q
    subst hx
    refine ⟨a, rfl, .inr ⟨vs, .inl r, k _ hp _ H1 e1 ⟨fun H => SqT X.K H a vs, ?_, fun H2 k2 => .inl (rd_keep k2 x r)⟩⟩⟩
    rw [← q.length]
    exact walk_tup.mono (fun H z => z) fun i H x H' hi z y => by
      obtain ⟨y1, y2⟩ := y
      have hi' : i < ds'.length := by rw [← q.length]; exact hi
      obtain ⟨v, e1, q1⟩ := q.get (i := i) (d := ds'[i]) (by simp [hi'])
      rw [y2] at e1
      cases e1
      exact ⟨y1, _, by simp [hi'], q1⟩⟩
end
end DL

set_option maxHeartbeats 4000000
/-! Sets of texts that can be gone through: made by a comprehension, sorted. -/
namespace DS
open PySem PySem.Spec PyProof.Rows L2 PySem.Froz
/-- a set's payload: the texts l, each once; it can be gone through -/
structure Wk (P : Program) (w : World) (D : SD) (l : List Str) : Prop where
  tx : TxOk P w D l
  nd : l.Nodup
  ri : Ris D.2.2.place.toList
  le : w.params.followText "set-order" = true ∨ D.2.2.led = true
section
variable {P : Program} {w : World} {A : Around} {E : Value → Shared → Prop} {s : Shared} {a : Addr} {D : SD} {l : List Str} {k : Str} {u : Tok}
theorem tail_wk {ep : Nat} {es : Array (Int × Value)} {t : SetTable} {b : Bool} (r : Ris t.place.toList) (e : w.params.followText "set-order" = true ∨ t.led = true) :
    Ris (tailTx ep es t b).2.2.place.toList ∧ (w.params.followText "set-order" = true ∨ (tailTx ep es t b).2.2.led = true) := by
  unfold tailTx
  by_cases full : (!b && t.tooFull) = true
  · rw [if_pos full]
    exact ⟨relayAll_ris t es _, e.imp_right fun z => (relayAll_led t es _).trans z⟩
  · rw [if_neg full]
    exact ⟨r, e⟩
theorem Wk.add (W : Wk P w D l) (no : k ∉ l) : Wk P w (addTx (hashStr w k) (.str k u) D) (k :: l) := by
  have r1 := layNew_ris D.2.2 D.1 (hashStr w k) (.str k u) W.ri
  have e1 := W.le.imp_right fun z => (layNew_led D.2.2 D.1 (hashStr w k) (.str k u)).trans z
  have both : Ris (addTx (hashStr w k) (.str k u) D).2.2.place.toList ∧ (w.params.followText "set-order" = true ∨ (addTx (hashStr w k) (.str k u) D).2.2.led = true) := by
    unfold addTx
    refine tail_wk ?_ ?_
    · split
      · exact r1
      · exact r1
    · split
      · exact e1
      · exact e1
  exact ⟨add_ok u W.tx, List.nodup_cons.mpr ⟨no, W.nd⟩, both.1, both.2⟩
/-- a text that is in already -/
theorem again_ok {Q : Bool → Shared → Prop} (at_ : s.heap.get? a = some (sObj "set" D)) (W : TxOk P w D l) (yes : k ∈ l) (few : l.length < scanBound) (h : Q false s) :
    wpAny (model P w) A (setAddHashed a (.str k u) (hashStr w k)) Q E s := by
  obtain ⟨rows, epoch, tab⟩ := D
  have isK : (strKind P w).is k (.str k u) = true := is_str k u
  have small : rows.size < scanBound := Nat.lt_of_le_of_lt (Nat.le_of_eq W.sz) few
  have data : (sObj "set" (rows, epoch, tab)).data = .set rows epoch tab := rfl
  unfold setAddHashed setAddHashedIn
  refine wpAny_holding (wpAny_bind (wpAny_setState_of at_ data W.fit ?_))
  dsimp only
  rw [byScan_of (knd := strKind P w) rfl small W.el]
  simp only [↓reduceIte]
  unfold setAddByScan
  refine wpAny_bind (wpAny_bind (wpAny_rule ?_))
  refine wpAny_bind (wpAny_setScan_of (knd := strKind P w) isK at_ data W.fit W.el ?_)
  cases z : List.findIdx? (fun e => (strKind P w).is k e.2) rows.toList with
  | some j =>
    dsimp only
    exact wpAny_pure (wpAny_pure h)
  | none =>
    obtain ⟨row, mem, same⟩ := (W.mem k).mp yes
    have bad := List.findIdx?_eq_none_iff.mp z row mem
    rw [same] at bad
    cases bad
/-- set.add of a text -/
theorem add_call {Q : Value → Shared → Prop} (at_ : s.heap.get? a = some (sObj "set" D)) (W : Wk P w D l) (few : l.length + 1 < scanBound)
    (old : k ∈ l → Q .none { s with toks := s.toks + 1 })
    (new : k ∉ l → Q .none { s with heap := s.heap.update a (fun _ => sObj "set" (addTx (hashStr w k) (.str k u) D)), toks := s.toks + 1 }) :
    wpAny (model P w) A (call (.builtin "set.add") [.ref a, .str k u]) Q E s := by
  refine wpAny_call_entry F.slot_set_add ⟨_, at_, rfl⟩ F.entry_set_add ?_ (F.args_set_add_2 _ _)
  unfold Builtin.«set.add» Builtin.Frozenset.oneOther
  simp only [List.isEmpty_nil, bind_assoc]
  unfold Builtin.Frozenset.addrOf setAdd
  refine wpAny_bind (wpAny_pure ?_)
  try dsimp only
  refine wpAny_bind (wpAny_pure ?_)
  try dsimp only
  refine wpAny_bind (wpAny_holding (wpAny_bind ((strKind P w).pyHash (is_str k u) ?_)))
  by_cases yes : k ∈ l
  · refine again_ok (s := { s with toks := s.toks + 1 }) at_ W.tx yes (by omega) ?_
    show wpAny _ _ (ret Value.none) _ _ _
    exact wpAny_pure ⟨_, rfl, old yes⟩
  · refine add_x (s := { s with toks := s.toks + 1 }) at_ W.tx yes few ?_
    show wpAny _ _ (ret Value.none) _ _ _
    exact wpAny_pure ⟨_, rfl, new yes⟩
end
/-- the set of the texts l at a -/
def SetX (P : Program) (w : World) (h : Heap) (a : Addr) (l : List Str) : Prop := ∃ D, h.get? a = some (sObj "set" D) ∧ Wk P w D l
def setXO (P : Program) (w : World) (a : Addr) (l : List Str) : HO := .ext fun h => SetX P w h a l
theorem setXO_ok {P : Program} {w : World} {H : Hp} {h : Heap} {a : Addr} {l : List Str} (R : SetX P w h a l) : ObjOk P w H h a (setXO P w a l) := by
  have R' := R
  obtain ⟨D, at_, _⟩ := R'
  exact ⟨R, ⟨_, at_⟩, fun h1 h2 ⟨D, x, y⟩ keep => ⟨D, keep _ x, y⟩⟩
section
variable {X : Cx} {pins : List (Addr × Obj)} {σ : L2.St} {H : Hp} {s : Shared} {a : Addr} {l : List Str}
theorem setXO_at (I : Inv X pins σ H s) (ha : H a = some (setXO X.prog X.w a l)) : SetX X.prog X.w s.heap a l := (I.hok a _ ha).1
theorem empty_set {P : Program} {w : World} {h : Heap} : SetX P w (h.push { cls := .type "set", dict := none, data := .set #[] 0 (.fresh 0 0 (!w.params.followText "set-order")) }) h.objs.size [] := by
  refine ⟨(#[], 0, .fresh 0 0 (!w.params.followText "set-order")), Heap.get?_push_size _ rfl, .nil (by rfl), .nil, List.Pairwise.nil, ?_⟩
  show _ ∨ (!w.params.followText "set-order") = true
  cases w.params.followText "set-order" with
  | true => exact .inl rfl
  | false => exact .inr rfl
/-- one text more, over the abstract heap -/
theorem add_inv {A : Around} {E : Value → Shared → Prop} {k : Str} {u : Tok} {Q : Value → Shared → Prop} (I : Inv X pins σ H s) (ha : H a = some (setXO X.prog X.w a l)) (few : l.length + 1 < scanBound)
    (h : ∀ s', Inv X pins σ (upd H a (setXO X.prog X.w a (if k ∈ l then l else k :: l))) s' → Q .none s') : wpAny (model X.prog X.w) A (call (.builtin "set.add") [.ref a, .str k u]) Q E s := by
  obtain ⟨D, at_, W⟩ := setXO_at I ha
  have go : ∀ (h' : Heap) (l' : List Str), (∀ b o, b ≠ a → s.heap.get? b = some o → h'.get? b = some o) → SetX X.prog X.w h' a l' → Inv X pins σ (upd H a (setXO X.prog X.w a l')) { s with heap := h', toks := s.toks + 1 } := fun h' l' keep R => by
    have R' := R
    obtain ⟨D', at', _⟩ := R'
    exact I.write (e := a) (t' := s.toks + 1) (by rw [ha]; trivial) (.inl rfl) (fun b o hb e => keep b o hb e) ⟨_, at'⟩ (setXO_ok R)
  refine add_call at_ W few (fun yes => ?_) fun no => ?_
  · refine h _ ?_
    rw [if_pos yes]
    exact go s.heap l (fun _ _ _ e => e) ⟨D, at_, W⟩
  · refine h _ ?_
    rw [if_neg no]
    exact go _ _ (fun b o hb e => ((Heap.SameBut.update s.heap a _).2 b hb).trans e) ⟨_, get_upd _ at_ rfl, W.add no⟩
end
end DS

set_option maxHeartbeats 4000000
/-! {text for target in iter if ..}, and sorted of it. -/
namespace DS
open PySem PySem.Spec PyProof.Rows L2 PySem.Froz PpSet
section
variable {X : Cx}
/-- what the comprehension asks: B the new set's place, M what holds between its turns -/
def tTxt (P : Program) (w : World) (wi : TI) (g : TG) (tt : TT) (te : TE) (own : List Nat) : TE := fun σ H Q => wi σ H fun J G => ∀ B, G B = none → ∃ M : Nat → Nat → Hp → Prop, (∃ m, M 0 m (upd G B (setXO P w B []))) ∧ ∀ i m H1, M i m H1 →
  (J.stop i H1 ∧ Q (.ref B) H1) ∨ (J.go i H1 ∧ ∃ Next : Hp → Prop, (∀ H2, Next H2 → ∃ n, n < m ∧ M (i + 1) n H2) ∧ ∀ x H2, J.yld i H1 x H2 → g x (wipe σ own) H2 fun σ1 H3 => wipe σ1 own = wipe σ own ∧ tt σ1 H3 fun b H4 =>
    if b = true then te σ1 H4 fun y H5 => ∃ (k : Str) (l : List Str), y = .str k ∧ H5 B = some (setXO P w B l) ∧ l.length + 1 < scanBound ∧ Next (upd H5 B (setXO P w B (if k ∈ l then l else k :: l))) else Next H4)
theorem pe_txt {elt tg iter : Expr} {ifs : List Expr} {scope : Scope} {own : List (Str × Nat)} {pos : Pos} {wi : TI} {g : TG} {tt : TT} {te : TE} (calm : X.calm = true) (nd : X.N.Nodup) (pi : PI X tg iter wi) (ok : BlkOk X.N X.env.scope scope own)
    (hg : ∀ (s : Shared) (H : Hp) (C : Addr) (cl : List (Str × Addr)) (fp : List Addr), PG (X.blk s H scope (compEnvC scope cl C X.env) fp) tg g)
    (ht : ∀ (s : Shared) (H : Hp) (C : Addr) (cl : List (Str × Addr)) (fp : List Addr), PTs (X.blk s H scope (compEnvC scope cl C X.env) fp) ifs tt)
    (he : ∀ (s : Shared) (H : Hp) (C : Addr) (cl : List (Str × Addr)) (fp : List Addr), PE (X.blk s H scope (compEnvC scope cl C X.env) fp) elt te) (fold : ∀ x, foldedSetIterable iter X.env x = pure x := by intro _; rfl) :
    PE X (.SetComp elt [⟨tg, iter, ifs, 0⟩] scope pos) (tTxt X.prog X.w wi g tt te (own.map (·.2))) := by
  refine ⟨fun pins s σ H Q inv ask => ?_⟩
  rw [eval_SetComp]
  have free : ∀ y ∈ scope.names, y.2 = .free → ∃ c, X.env.cells.lookup y.1 = some c := fun y mem e => (ok.free y mem e).elim (fun z => inv.ok.has _ (.inl z)) fun z => inv.ok.has _ (.inr z)
  refine wpAny_comprehension_free (use := none) rfl fold (closure_ok free) ok.kind (fun y mem e => (by rw [ok.uniq y mem, e])) (thn (pi.run pins s σ H _ inv ask) fun walked s1 h1 => thn h1 fun itv s2 h2 => ?_)
  obtain ⟨it, fp, tn, J, G, rfl, inv2, T, st2, fpG, rest⟩ := h2
  refine newSet_ok (newEnv_comp ?_)
  generalize eB : s2.heap.objs.size = B
  have noB : G B = none := inv2.hok.fresh (Nat.le_of_eq eB)
  obtain ⟨M, ⟨m0, begun⟩, turn⟩ := rest B noB
  let s3 : Shared := { s2 with heap := s2.heap.push { cls := .type "set", dict := none, data := .set #[] 0 (.fresh 0 0 (!X.w.params.followText "set-order")) } }
  have inv3 : Inv X pins σ (upd G B (setXO X.prog X.w B [])) s3 := by
    refine inv2.laid (t' := s2.toks) (fun b o e => Heap.get?_push_of_some _ e) (Nat.le_of_eq eB) ?_
    rw [← eB]
    exact setXO_ok empty_set
  have heap3 : ∀ b o, s2.heap.get? b = some o → s3.heap.get? b = some o := fun b o e => Heap.get?_push_of_some _ e
  have size3 : s3.heap.objs.size = s2.heap.objs.size + 1 := Heap.size_push ..
  have less : ∀ b ∈ fp, b < s2.heap.objs.size := fun b mem => by
    obtain ⟨o, e, _⟩ := T.obj _ _ st2 b mem
    exact Heap.lt_size e
  have fp3 : ∀ b ∈ fp, FpOk X pins (upd G B (setXO X.prog X.w B [])) b ∧ b < s3.heap.objs.size := fun b mem => by
    have lt := less b mem
    have ne : b ≠ B := by rw [← eB]; exact Nat.ne_of_lt lt
    exact ⟨⟨(upd_ne ne).trans (fpG b mem).1, (fpG b mem).2⟩, by rw [size3]; exact Nat.lt_succ_of_lt lt⟩
  have st3 : tn 0 s3.heap := T.keep _ _ _ st2 fun b _ o e => heap3 b o e
  have inv4 := block_start inv3 ok nd fp3
  have st4 : tn 0 ({ s3 with heap := pushCells (s3.heap.push { cls := .type "dict", data := .dict #[] }) scope.names } : Shared).heap := T.keep _ _ _ st3 fun b _ o e => pushCells_keeps _ _ _ _ (Heap.get?_push_of_some _ e)
  show codeAny _ _ (.compStart _ 0 (.ref it) (.ref B) (compEnvC scope (cellsFrom (s3.heap.objs.size + 1) scope.names (cloFrom X.env.cells scope.names [])) s3.heap.objs.size X.env)) (compPost (model X.prog X.w) X.A X.xe none _ (.ref B) s3.heap.objs.size) { s3 with heap := pushCells (s3.heap.push { cls := .type "dict", data := .dict #[] }) scope.names }
  have pg := hg s3 (upd G B (setXO X.prog X.w B [])) s3.heap.objs.size (cellsFrom (s3.heap.objs.size + 1) scope.names (cloFrom X.env.cells scope.names [])) fp
  have pt := ht s3 (upd G B (setXO X.prog X.w B [])) s3.heap.objs.size (cellsFrom (s3.heap.objs.size + 1) scope.names (cloFrom X.env.cells scope.names [])) fp
  have pe := he s3 (upd G B (setXO X.prog X.w B [])) s3.heap.objs.size (cellsFrom (s3.heap.objs.size + 1) scope.names (cloFrom X.env.cells scope.names [])) fp
  clear_value s3
  generalize upd G B (setXO X.prog X.w B []) = G3 at inv3 inv4 begun fp3 pg pt pe
  have locals : (compEnvC scope (cellsFrom (s3.heap.objs.size + 1) scope.names (cloFrom X.env.cells scope.names [])) s3.heap.objs.size X.env).locals = s3.heap.objs.size := rfl
  generalize compEnvC scope (cellsFrom (s3.heap.objs.size + 1) scope.names (cloFrom X.env.cells scope.names [])) s3.heap.objs.size X.env = env at inv4 pg pt pe locals ⊢
  generalize ({ s3 with heap := pushCells (s3.heap.push { cls := .type "dict", data := .dict #[] }) scope.names } : Shared) = s4 at inv4 st4 ⊢
  have noFp : ∀ b ∈ fp, G3 b = none := fun b mem => (fp3 b mem).1.1
  have away : ∀ {τ : L2.St} {K : Hp} {t : Shared}, Inv (X.blk s3 G3 scope env fp) [] τ K t → (∀ b ∈ fp, K b = none) → ∀ b ∈ fp, FpOk (X.blk s3 G3 scope env fp) [] K b := fun {τ K t} i no b mem =>
    ⟨no b mem, (i.ok.exf b mem).1, i.ok.exfs b mem, .inl mem, (i.ok.exf b mem).2, fun p hp => nomatch hp⟩
  refine codeAny_compStart_set ?loop (T.self X.A 0 _ _ _ st4 ?loop)
  case loop =>
    refine compLoopS_any (fun n t => ∃ i K, Inv (X.blk s3 G3 scope env fp) [] (wipe σ (own.map (·.2))) K t ∧ tn i t.heap ∧ (∀ b ∈ fp, K b = none) ∧ M i n K) ?_ m0 ⟨0, G3, inv4, st4, noFp, begun⟩
    rintro n t ⟨i, K, invK, stK, noK, now⟩
    rcases turn i n K now with ⟨over, wish⟩ | ⟨goes, Next, onward, each⟩
    · refine thnF (T.done (X.blk s3 G3 scope env fp) rfl rfl rfl calm i [] t _ K (fun _ _ => False) invK (away invK noK) stK over) fun r t2 ⟨none_, inv5⟩ => ?_
      subst none_
      have back : Inv X pins σ K t2 := inv3.call' (ch := fp) inv5.os inv5.base inv5.hok inv5.bare fun b mem => by
        obtain ⟨⟨_, q1, _, q2, q3, q4⟩, _⟩ := fp3 b mem
        exact ⟨q2, q1, q3, q4⟩
      have freeC : K s3.heap.objs.size = none := by
        rw [← locals]
        exact inv5.free
      obtain ⟨names, isNs, _⟩ := inv5.loc
      have isNs' : t2.heap.Ns s3.heap.objs.size names := by
        rw [← locals]
        exact isNs
      refine ⟨names, isNs', fun h' sb => ?_⟩
      obtain ⟨c0, c1, c2, c3, c4, c5⟩ := inv3.fpOk (Nat.le_refl _) freeC
      exact ⟨.ref B, K, back.turned (t' := t2.toks) (fun b o ne e => (sb.2 b ne).trans e) c0 c1 c3 c4 c5, rfl, wish⟩
    · refine thnF (T.item (X.blk s3 G3 scope env fp) rfl rfl rfl calm i [] t _ K (fun _ _ => False) invK (away invK noK) stK goes) fun r t2 ⟨u, some_, more⟩ => ?_
      subst some_
      refine thnF more fun _ t3 ⟨x, K3, inv5, rel, yld, st5, no5⟩ => ?_
      refine thnF (pg.run _ t3 _ K3 x u _ (inv5.pinned (away inv5 no5) (T.obj _ _ st5)) rel (each x K3 yld)) fun _ t4 ⟨τ, K4, inv6, same, q4⟩ => ?_
      refine thnF (pt.run _ t4 τ K4 _ inv6 q4) fun b t5 ⟨K5, inv7, q5⟩ => ?_
      have ends : ∀ {t' : Shared} {K' : Hp}, Inv (X.blk s3 G3 scope env fp) ([] ++ pinsAt fp t3.heap) τ K' t' → Next K' → ∃ m, m < n ∧ ∃ i K, Inv (X.blk s3 G3 scope env fp) [] (wipe σ (own.map (·.2))) K t' ∧ tn i t'.heap ∧ (∀ b ∈ fp, K b = none) ∧ M i m K := by
        intro t' K' inv' next
        obtain ⟨m, lt, now'⟩ := onward K' next
        have kept : ∀ b ∈ fp, ∀ o, t3.heap.get? b = some o → t'.heap.get? b = some o ∧ K' b = none := fun b mem o e => by
          have z := inv'.pin (b, o) (List.mem_append_right _ (List.mem_append_right _ (mem_pinsAt mem e)))
          exact ⟨z.1, z.2.1⟩
        refine ⟨m, lt, i + 1, K', (inv'.unpinned (pins := [])).weak (by rw [← same, wipe_length]) (fun j v e => ?_), T.keep _ _ _ st5 fun b mem o e => (kept b mem o e).1, fun b mem => ?_, now'⟩
        · rw [← same] at e
          exact (wipe_some e).1
        · obtain ⟨o, e, _⟩ := T.obj _ _ st5 b mem
          exact (kept b mem o e).2
      match b, q5 with
      | false, q5 => exact ends inv7 q5
      | true, q5 =>
        refine thnF (pe.run _ t5 τ K5 _ inv7 q5) fun z t6 ⟨y, K6, inv8, rel8, k, l, isK, isSet, few, next⟩ => ?_
        subst isK
        obtain ⟨tk, rfl⟩ := rel8
        exact add_inv (X := X.blk s3 G3 scope env fp) inv8 isSet few fun t7 inv9 => ends inv9 next
end
end DS

set_option maxHeartbeats 4000000
/-! sorted(a set of texts), and the reading over data of sorted({e for x in .. if c}). -/
namespace DS
open PySem PySem.Spec PyProof.Rows L2 PySem.Froz
theorem perm_of_subset : ∀ {l m : List Str}, l.Nodup → (∀ x ∈ l, x ∈ m) → m.length ≤ l.length → m.Perm l
  | [], m, _, _, h => by
    cases m with
    | nil => exact .nil
    | cons a b => simp at h
  | x :: l, m, nd, sub, h => by
    have xm := sub x List.mem_cons_self
    obtain ⟨nx, nd'⟩ := List.nodup_cons.mp nd
    have len : (m.erase x).length = m.length - 1 := List.length_erase_of_mem xm
    have ih := perm_of_subset (l := l) (m := m.erase x) nd' (fun y hy => (List.mem_erase_of_ne fun e => nx (by rw [← e]; exact hy)).mpr (sub y (List.mem_cons_of_mem _ hy))) (by simp at h; omega)
    exact (List.perm_cons_erase xm).trans (ih.cons x)
theorem strs_of_vals : ∀ {vs : List Value} {l : List Str}, (∀ v ∈ vs, ∃ k u, v = Value.str k u ∧ k ∈ l) → ∃ ks, StrsAre vs ks ∧ (∀ k ∈ ks, k ∈ l) ∧ ∀ k u, Value.str k u ∈ vs → k ∈ ks
  | [], _, _ => ⟨[], .nil, (fun _ h => by cases h), (fun _ _ h => by cases h)⟩
  | v :: vs, l, h => by
    obtain ⟨ks, h1, h2, h3⟩ := strs_of_vals fun u hu => h u (List.mem_cons_of_mem _ hu)
    obtain ⟨k, u, rfl, hk⟩ := h v List.mem_cons_self
    refine ⟨k :: ks, .cons k u h1, fun z hz => ?_, fun z t hz => ?_⟩
    · rcases List.mem_cons.mp hz with rfl | hz
      · exact hk
      · exact h2 z hz
    · rcases List.mem_cons.mp hz with e | hz
      · cases e
        exact List.mem_cons_self
      · exact List.mem_cons_of_mem _ (h3 z t hz)
theorem strs_len : ∀ {vs : List Value} {ks : List Str}, StrsAre vs ks → vs.length = ks.length
  | _, _, .nil => rfl
  | _, _, .cons _ _ h => by rw [List.length_cons, List.length_cons, strs_len h]
section
variable {P : Program} {w : World} {A : Around} {E : Value → Shared → Prop} {s : Shared} {a : Addr} {D : SD} {l : List Str}
theorem wk_texts (W : Wk P w D l) : (∀ v ∈ D.1.toList.map (·.2), ∃ k u, v = Value.str k u ∧ k ∈ l) ∧ ∀ k ∈ l, ∃ u, Value.str k u ∈ D.1.toList.map (·.2) := by
  constructor
  · intro v mem
    obtain ⟨row, here, rfl⟩ := List.mem_map.mp mem
    obtain ⟨⟨k, isK, _⟩, _⟩ := W.tx.el row here
    obtain ⟨u, e⟩ := Value.isStrOf_shape isK
    exact ⟨k, u, e, (W.tx.mem k).mpr ⟨row, here, isK⟩⟩
  · intro k mem
    obtain ⟨row, here, isK⟩ := (W.tx.mem k).mp mem
    obtain ⟨u, e⟩ := Value.isStrOf_shape isK
    exact ⟨u, List.mem_map.mpr ⟨row, here, e⟩⟩
/-- sorted of the set at a -/
theorem sort_set {Q : Value → Shared → Prop} (at_ : s.heap.get? a = some (sObj "set" D)) (W : Wk P w D l) (few : l.length < scanBound) (calm : A.handled = none)
    (h : ∀ (s' : Shared) (p : Addr) (out : Array Value) (c : Nat) (ss : List Str), (∀ b o, s.heap.get? b = some o → s'.heap.get? b = some o) → s'.gens = s.gens → s'.os = s.os → s.heap.objs.size ≤ p →
      s'.heap.get? p = some (seqObj "list" out c) → StrsAre out.toList ss → ss.Perm l → sortedS ss = true → Q (.ref p) s') : wpAny (model P w) A (call (.builtin "sorted") [.ref a]) Q E s := by
  have size : D.1.size = l.length := W.tx.sz
  refine Calls.call_function_entry kind_sorted plain_sorted entry_sorted (args_sorted1 _) ?_
  unfold Builtin.«sorted»
  refine wpAny_bind (m := checkCount "sorted" 1 1 _) (wpAny_pure (wpAny_bind (collect_set (A := A.in1) (ep := D.2.1) calm ⟨_, at_, rfl, rfl⟩ W.tx.fit (by rw [size]; exact few) W.ri W.le fun t vs kept grown gens os perm => ?_)))
  obtain ⟨tx1, tx2⟩ := wk_texts W
  obtain ⟨ks, are, sub, all⟩ := strs_of_vals (l := l) fun v mem => tx1 v (perm.mem_iff.mp mem)
  have vlen : vs.length = l.length := by rw [perm.length_eq, List.length_map, Array.length_toList, size]
  have isPerm : ks.Perm l := perm_of_subset W.nd (fun k mem => by
    obtain ⟨u, z⟩ := tx2 k mem
    exact all k u (perm.mem_iff.mpr z)) (by rw [← strs_len are, vlen]; exact Nat.le_refl _)
  have line : vs.length ≤ sizeLine := by
    have : scanBound = 4096 := rfl
    rw [vlen, sizeLine_eq]
    omega
  refine wpAny_bind (wpAny_newList ?_ line)
  have new : (t.heap.push (seqObj "list" vs.toArray 0)).get? t.heap.objs.size = some (seqObj "list" vs.toArray 0) := Heap.get?_push_size _ rfl
  refine wpAny_bind (wpAny_holding (wpAny_call_entry slot_list_sort ⟨_, new, rfl⟩ entry_list_sort
    (list_sort_treeKAny PyProof.Rows.strKind_oneLt new are.keysOf (fun v₁ v₂ more e => keyKind_strs (by rw [← e]; exact are)) line fun st done ord => ⟨_, rfl, ?_⟩) (args_list_sort _)))
  obtain ⟨ss, r1, r2, r3⟩ := sorted_out_str are done ord
  obtain ⟨c, last⟩ := sortedHeap_at (vs := vs) (out := (arrOf st).map (·.2)) new
  refine wpAny_pure ⟨_, rfl, h _ t.heap.objs.size _ c ss (fun b o e => ?_) gens os grown last r1 (r2.trans isPerm) r3⟩
  have e2 := kept b o e
  have lt := Heap.lt_size e2
  show (sortedHeap _ _ vs _).get? b = some o
  rw [sortedHeap_old (Nat.ne_of_lt lt) (by rw [size_push']; exact Nat.lt_succ_of_lt lt)]
  exact Heap.get?_push_of_some _ e2
end
def rSortTxt (P : Program) (w : World) : List V → Hp → VK → Prop := fun xs H Q => ∃ (a : Addr) (l : List Str), xs = [.ref a] ∧ H a = some (setXO P w a l) ∧ l.length < 4000 ∧ ∀ (ss : List Str) (p : Addr), ss.Perm l → sortedS ss = true → H p = none → Q (.ref p) (upd H p (.lst (ss.map V.str)))
theorem cr_sortTxt {X : Cx} (calm : X.calm = true) : CallR X (.builtin "sorted") (rSortTxt X.prog X.w) := by
  intro pins s σ H xs us Q I r h
  obtain ⟨a, l, rfl, isSet, few, q⟩ := h
  cases r with
  | cons ra rn =>
    cases rn
    cases ra
    obtain ⟨D, at_, W⟩ := setXO_at I isSet
    refine sort_set at_ W (by show l.length < 4096; omega) (I.ok.hd calm) fun t p out c ss kept gens os grown new are perm ord => ?_
    have len : (ss.map V.str).length ≤ sizeLine := by
      rw [List.length_map, perm.length_eq, sizeLine_eq]
      omega
    have free : H p = none := I.hok.fresh grown
    exact ⟨.ref p, upd H p (.lst (ss.map V.str)), I.call' (ch := []) os (Un.laid kept grown free) (I.hok.laid kept grown (show ObjOk X.prog X.w (upd H p (.lst (ss.map V.str))) t.heap p (.lst (ss.map V.str)) from ⟨len, out.toList, c, vals_of_strs are, new⟩)) (by rw [gens]; exact I.bare) (fun _ z => nomatch z), rfl, q ss p perm ord free⟩
end DS

set_option maxHeartbeats 4000000
namespace DL
open PySem PySem.Spec PyProof.Rows L2 DS
variable [TabCtx]
/-! ### sorted({e for x in .. if c}), the e texts -/
def wEachS (t : D → (Bool → Prop) → Prop) (f : D → (D → Prop) → Prop) : List D → (List Str → Prop) → Prop
  | [], P => P []
  | x :: xs, P => t x fun b => if b = true then f x fun y => ∃ k, y = .str k ∧ wEachS t f xs fun ks => P (k :: ks) else wEachS t f xs P
/-- the reading of what is sorted: each text once, in order -/
def SortOf (zs : List Str) (P : D → Prop) : Prop := ∀ ss : List Str, ss.Nodup → (∀ x, x ∈ ss ↔ x ∈ zs) → sortedS ss = true → P (.lst (ss.map D.str))
def wSortC (i : Nat) (Wi : WI) (T : WT) (We : WE) : WE := fun ds P => Wi ds fun xs => xs.length < 3000 ∧ wEachS (fun x P' => T (ds.set i (some x)) P') (fun x P' => We (ds.set i (some x)) P') xs fun zs => SortOf zs P
omit [TabCtx] in
theorem set_no_code {P : Program} {w : World} {a : Addr} {l : List Str} (q : Str) : setXO P w a l ≠ LamX.CodeO a q := by
  intro e
  unfold setXO LamX.CodeO at e
  have e2 := HO.ext.inj e
  let o : Obj := { cls := .none, data := .fields #[.none, .str q 0] }
  let h : Heap := { objs := Array.replicate (a + 1) o }
  have at_ : h.get? a = some o := by
    have : h.objs[a]? = some o := by simp [h]
    unfold Heap.get?
    rw [this]
  have yes : SetX P w h a l := by
    have z := congrFun e2 h
    exact z.mpr ⟨o, #[.none, .str q 0], 0, at_, rfl, rfl⟩
  obtain ⟨D, is, _⟩ := yes
  rw [at_] at is
  have z2 : Data.fields _ = Data.set _ _ _ := congrArg Obj.data (Option.some.inj is)
  cases z2
structure HdT (P : Program) (w : World) (O : Ow) (B : Addr) (l : List Str) (H : Hp) (σ : L2.St) (ds : Sl) : Prop where
  sl : SlD (O ++ [(B, .hold (setXO P w B l))]) H σ ds
  ow : OwnAll (O ++ [(B, .hold (setXO P w B l))]) H
section
variable {P : Program} {w : World} {O : Ow} {B : Addr} {l l' : List Str} {H H' : Hp} {σ : L2.St} {ds : Sl}
omit [TabCtx] in
theorem setNT {P : Program} {w : World} {a : Addr} {l : List Str} : NT (setXO P w a l) := by
  intro ps z
  unfold setXO at z
  cases z
theorem HdT.mono (h : HdT P w O B l H σ ds) (e : Ext (O ++ [(B, .hold (setXO P w B l))]) H H') : HdT P w O B l H' σ ds := ⟨h.sl.mono e, h.ow.mono e⟩
theorem HdT.at (h : HdT P w O B l H σ ds) : H B = some (setXO P w B l) := by
  obtain ⟨u, h1, h2⟩ := h.ow.here (B, .hold (setXO P w B l)) (by simp)
  have h2' : u = setXO P w B l := h2
  rw [← h2']
  exact h1
theorem HdT.more (h : HdT P w O B l H σ ds) (op : Out O B) : HdT P w O B l' (upd H B (setXO P w B l')) σ ds := by
  have here := h.at
  have kp : ∀ b o, Out (O ++ [(B, Own.hold (setXO P w B l))]) b → H b = some o → NT o → upd H B (setXO P w B l') b = some o := fun b o hb hh _ => by
    rw [upd_ne hb.hold_ne]
    exact hh
  refine ⟨(h.sl.keep kp).rehold, OwnAll.hold (O := O) ⟨fun q hq => ?_, h.ow.less.uq, h.ow.less.tabs⟩ op upd_same setNT⟩
  obtain ⟨u, hu, k⟩ := h.ow.less.here q hq
  exact ⟨u, by rw [upd_ne (fun e => op q hq e.symm)]; exact hu, k.upd fun c z => by
    rw [here] at z
    exact set_no_code c (Option.some.inj z)⟩
end
theorem dq_strs {O : Ow} {H : Hp} : ∀ ss : List Str, DqAll O H (ss.map V.str) (ss.map D.str)
  | [] => .nil
  | s :: r => .cons (.str s) (dq_strs r)
theorem tx_it {P : Program} {w : World} {J : It} {n : Nat} {G : Hp → Prop} {Y : Nat → Hp → V → Hp → Prop} (wk : Walk J n G Y) {g : TG} {tt : TT} {te : TE} {own : List Nat} {σ : L2.St} {H1 : Hp} {B : Addr} {Qd : Hp → Prop} (Pv : Nat → Hp → Prop) (h0 : Pv 0 (upd H1 B (setXO P w B [])))
    (hG : ∀ i H, i ≤ n → Pv i H → G H) (each : ∀ i x H H', i < n → Pv i H → Y i H x H' → g x (wipe σ own) H' fun σ2 H2 => wipe σ2 own = wipe σ own ∧ tt σ2 H2 fun b H3 =>
      if b = true then te σ2 H3 fun y H4 => ∃ k l, y = .str k ∧ H4 B = some (setXO P w B l) ∧ l.length + 1 < scanBound ∧ Pv (i + 1) (upd H4 B (setXO P w B (if k ∈ l then l else k :: l))) else Pv (i + 1) H3) (done : ∀ H, Pv n H → Qd H) :
    ∃ M : Nat → Nat → Hp → Prop, (∃ m, M 0 m (upd H1 B (setXO P w B []))) ∧ ∀ i m H, M i m H →
      (J.stop i H ∧ Qd H) ∨ (J.go i H ∧ ∃ Next : Hp → Prop, (∀ H2, Next H2 → ∃ k, k < m ∧ M (i + 1) k H2) ∧ ∀ x H2, J.yld i H x H2 → g x (wipe σ own) H2 fun σ2 H2 => wipe σ2 own = wipe σ own ∧ tt σ2 H2 fun b H3 =>
        if b = true then te σ2 H3 fun y H4 => ∃ k l, y = .str k ∧ H4 B = some (setXO P w B l) ∧ l.length + 1 < scanBound ∧ Next (upd H4 B (setXO P w B (if k ∈ l then l else k :: l))) else Next H3) := by
  refine ⟨fun i m H => m = n - i ∧ i ≤ n ∧ Pv i H, ⟨n, by simp, Nat.zero_le _, h0⟩, ?_⟩
  rintro i m H ⟨rfl, le, pv⟩
  have gd := hG i H le pv
  rcases Nat.lt_or_ge i n with lt | ge
  · exact .inr ⟨wk.goes i H lt gd, Pv (i + 1), fun H2 pv2 => ⟨n - (i + 1), by omega, rfl, lt, pv2⟩, fun x H2 y => each i x H H2 lt pv (wk.yields i H x H2 lt gd y)⟩
  · obtain rfl : i = n := by omega
    exact .inl ⟨wk.stops H gd, done H pv⟩
theorem sortc_red {P0 : Program} {w0 : World} {i : Nat} {Wi : WI} {T : WT} {We : WE} {σ : L2.St} {H : Hp} {Q : VK} (h : tW (wSortC i Wi T We) σ H Q) : tTxt P0 w0 (tIW Wi) (gName i) (tTW T) (tW We) [i] σ H fun x H1 => rSortTxt P0 w0 [x] H1 Q := by
  obtain ⟨O, ds, P, hS, hO, hW, k⟩ := h
  refine ⟨O, ds, _, hS, hO, hW, fun xs ⟨hl, hx⟩ J H1 e1 ⟨G, wk, hG⟩ B nB => ?_⟩
  have S1 := hS.mono e1
  have O1 := hO.mono e1
  have oB : Out O B := O1.out nB
  have kN : ∀ b o, Out (O ++ [(B, Own.hold (setXO P0 w0 B []))]) b → H1 b = some o → NT o → upd H1 B (setXO P0 w0 B []) b = some o := fun b o x hh _ => by
    rw [upd_ne x.hold_ne]
    exact hh
  refine tx_it wk (fun j H2 => ∃ l zs, l.length ≤ j ∧ l.Nodup ∧ (∀ x, x ∈ l ↔ x ∈ zs) ∧ HdT P0 w0 O B l H2 (σ.set i none) (ds.set i none) ∧ (∀ b o, Out O b → H1 b = some o → NT o → H2 b = some o) ∧
    wEachS (fun x P' => T (ds.set i (some x)) P') (fun x P' => We (ds.set i (some x)) P') (xs.drop j) fun ks => SortOf (zs ++ ks) P) ?h0 ?hG ?hs ?hd
  case h0 => exact ⟨[], [], Nat.le_refl _, .nil, fun _ => Iff.rfl, ⟨((S1.more (fresh_none nB)).keep kN).unset i, OwnAll.hold (O1.mono (.new nB)) oB upd_same setNT⟩, (Ext.new nB).keep, by simpa using hx⟩
  case hG =>
    rintro j H2 _ ⟨_, _, _, _, _, _, kp, _⟩
    exact hG H2 kp
  case hs =>
    rintro j x H2 H' hj ⟨l, zs, ha, nd, same, hd, kp, hw⟩ ⟨rfl, d, hdx, qd⟩
    have ed : xs.drop j = d :: xs.drop (j + 1) := by
      obtain ⟨h1, h2⟩ := List.getElem?_eq_some_iff.mp hdx
      rw [List.drop_eq_getElem_cons h1, h2]
    rw [ed] at hw
    refine ⟨?_, ?_⟩
    · show (((σ.set i none).set i (some x)).set i none) = σ.set i none
      rw [List.set_set, List.set_set]
    have kp' : ∀ b o, Out (O ++ [(B, .hold (setXO P0 w0 B l))]) b → H1 b = some o → NT o → H' b = some o := fun b o hb h t => kp b o hb.hold_out h t
    have qd' : Dq (O ++ [(B, .hold (setXO P0 w0 B l))]) H' x d := (qd.more (fresh_none nB)).keep kp'
    have es : (ds.set i none).set i (some d) = ds.set i (some d) := List.set_set ..
    have S2 : SlD (O ++ [(B, .hold (setXO P0 w0 B l))]) H' ((σ.set i none).set i (some x)) (ds.set i (some d)) := es ▸ hd.sl.set i qd'
    refine ⟨_, _, _, S2, hd.ow, hw, fun b hb H3 e3 => ?_⟩
    have hd3 := hd.mono e3
    have kp3 : ∀ b o, Out O b → H1 b = some o → NT o → H3 b = some o := fun b o hb h t => e3.keep b o (fun q hq => by
      rcases List.mem_append.mp hq with z | z
      · exact hb q z
      · rw [List.mem_singleton.mp z]; exact ne_of_none h nB) (kp b o hb h t) t
    cases b with
    | false =>
      rw [if_neg Bool.false_ne_true] at hb
      exact ⟨l, zs, by omega, nd, same, hd3, kp3, hb⟩
    | true =>
      rw [if_pos rfl] at hb
      show tW We _ _ _
      refine ⟨_, _, _, S2.mono e3, hd3.ow, hb, fun dy ⟨t, ht, hy⟩ v H4 e4 q4 => ?_⟩
      subst ht
      cases q4
      have hd4 := hd3.mono e4
      have cap : scanBound = 4096 := rfl
      have jl : j < xs.length := hj
      refine ⟨t, l, rfl, hd4.at, by rw [cap]; omega, if t ∈ l then l else t :: l, zs ++ [t], ?_, ?_, fun z => ?_, hd4.more oB, fun b o hb h tb => ?_, by simpa using hy⟩
      · split
        · omega
        · simp; omega
      · split
        · exact nd
        · rename_i no
          exact List.nodup_cons.mpr ⟨no, nd⟩
      · rw [List.mem_append, List.mem_singleton, ← same z]
        split
        · rename_i yes
          exact ⟨.inl, fun h => h.elim id fun e => by rw [e]; exact yes⟩
        · rw [List.mem_cons]
          exact Or.comm
      · have bB : b ≠ B := ne_of_none h nB
        rw [upd_ne bB]
        exact e4.keep b o (fun q hq => by
          rcases List.mem_append.mp hq with z | z
          · exact hb q z
          · rw [List.mem_singleton.mp z]; exact bB) (kp3 b o hb h tb) tb
  case hd =>
    rintro H2 ⟨l, zs, ha, nd, same, hd, kp, hw⟩
    rw [List.drop_length] at hw
    have hw' : SortOf (zs ++ []) P := hw
    rw [List.append_nil] at hw'
    have e2 : Ext O H1 H2 := ⟨kp, fun p hp _ => hd.ow.less.here p hp⟩
    refine ⟨B, l, rfl, hd.at, by omega, fun ss p perm ord np => ?_⟩
    refine k _ (hw' ss (perm.nodup_iff.mpr nd) (fun x => perm.mem_iff.trans (same x)) ord) _ _ ((e1.trans e2).trans (.new np)) (.lst (hd.ow.less.out np) upd_same (dq_strs ss))
theorem boot_sortedB : bootBuiltins "sorted" = some (.builtin "sorted") := by decide +kernel
theorem we_sortC {X : Cx} {i : Nat} {x : Str} {elt tg iter c : Expr} {scope : Scope} {Wi : WI} {T : WT} {We : WE} {p pos pos2 : Pos} (calm : X.calm = true) (hg0 : Gl X "sorted") (hm0 : X.mg "sorted" = none) (hN : X.N.Nodup) (hi : PI X tg iter (tIW Wi)) (ok : BlkOk X.N X.env.scope scope [(x, i)])
    (hg : ∀ (s : Shared) (H : Hp) (C : Addr) (cl : List (Str × Addr)) (fp : List Addr), PG (X.blk s H scope (compEnvC scope cl C X.env) fp) tg (gName i))
    (ht : ∀ (s : Shared) (H : Hp) (C : Addr) (cl : List (Str × Addr)) (fp : List Addr), PT (X.blk s H scope (compEnvC scope cl C X.env) fp) c (tTW T))
    (he : ∀ (s : Shared) (H : Hp) (C : Addr) (cl : List (Str × Addr)) (fp : List Addr), PE (X.blk s H scope (compEnvC scope cl C X.env) fp) elt (tW We)) (hs : ∀ x, foldedSetIterable iter X.env x = pure x := by intro _; rfl)
    (hst : starEach [.SetComp elt [⟨tg, iter, [c], 0⟩] scope pos2] X.env = (false, eval (.SetComp elt [⟨tg, iter, [c], 0⟩] scope pos2) X.env) :: starEach [] X.env := by rfl) (hpl : (backTo pos (starEach [] X.env)).any (·.1) = false := by rfl) :
    PE X (.Call (.Name "sorted" p) [.SetComp elt [⟨tg, iter, [c], 0⟩] scope pos2] [] pos) (tW (wSortC i Wi T We)) :=
  PE.weak (pe_callB (cr_sortTxt calm) hg0 hm0 boot_sortedB (pa_cons (pe_txt (own := [(x, i)]) calm hN hi ok hg (fun s H C cl fp => pts_one (ht s H C cl fp)) he hs) pa_nil hst)) fun σ H Q h => sortc_red h
end DL

set_option maxHeartbeats 4000000
namespace DL
open PySem PySem.Spec PyProof.Rows L2 DS
variable [TabCtx]
/-! ### xs.extend(a list or a tuple), xs held; xs = list(..) -/
def rExt2 (K : PySem.W.Frag) : V → List V → Hp → VK → Prop := fun x vs H Q => ∃ (l b : Addr) (xs zs : List V), x = .ref l ∧ vs = [.ref b] ∧ H l = some (.lst xs) ∧ (H b = some (.lst zs) ∨ SqT K H b zs) ∧ xs.length + zs.length ≤ sizeLine ∧ Q .non (upd H l (.lst (xs ++ zs)))
theorem ext_any_tuple {l b : Addr} {xs zs : Array Value} {n m : Nat} {o : Obj} (oc : o.cls = .type "tuple") (od : o.data = .seq zs m) (door : ¬ (!xs.isEmpty && Builtin.List.listTooLong (xs.size + zs.size)) = true) (f1 : xs.size ≤ sizeLine) (f2 : xs.size + zs.size ≤ sizeLine + 1) :
    Meets (Builtin.«list.extend» ⟨[.ref l, .ref b], []⟩) (fun _ R s => s.heap.get? l = some { cls := .type "list", dict := none, data := .seq xs n, slots := #[] } ∧ s.heap.get? b = some o ∧
      R (.ok (.ret Value.none)) { s with heap := s.heap.update l (Obj.mapSeq fun ys => ys ++ zs), toks := s.toks }) :=
  .of_wp fun prog w A R s ⟨hl, hb, h⟩ => by
    obtain ⟨c, d, q, sl⟩ := o
    cases oc
    cases od
    obtain ⟨hp, g, dr, tk, os⟩ := s
    have g1 := AutoSeq1.sub_tuple_tuple
    have g2 := AutoSeq1.sub_list_list
    have g3 := AutoSeq1.sub_tuple_list
    have g4 := AutoSeq1.sub_list_tuple
    have hz' : (xs ++ zs).size ≤ sizeLine + 1 := by
      rw [Array.size_append]
      exact f2
    wp_walk using (wpAny_updateSeq hl rfl (hz := f1) (_hz' := hz')), AutoSeq1.wpAny_loadPart' hl, AutoSeq1.wpAny_loadPart' hb
    exact ⟨_, rfl, h⟩
section
variable {X : Cx}
theorem mt_ext2 : MtM X "list.extend" (rExt2 X.K) := by
  intro pins s σ H x vs v us Q I rx rv h
  obtain ⟨l, b, xs, zs, rfl, rfl, hl, hb, fits, q⟩ := h
  rcases hb with hb | hb
  · exact mt_extend pins s σ H (.ref l) [.ref b] v us Q I rx rv ⟨l, b, xs, zs, rfl, rfl, hl, hb, fits, q⟩
  · cases rx
    obtain ⟨u, rfl, ru⟩ := rv.one
    cases ru
    obtain ⟨z, its, n, r, len, at_⟩ := I.lstM hl
    obtain ⟨its2, r2, ⟨o2, at2, c2, n2, d2⟩, z2⟩ := I.tuple hb
    have e1 := r.length
    have e2 := r2.length
    have small : its.toArray.size + its2.toArray.size ≤ sizeLine := by
      rw [List.size_toArray, List.size_toArray]
      omega
    have door : ¬ (!its.toArray.isEmpty && Builtin.List.listTooLong (its.toArray.size + its2.toArray.size)) = true := by
      rw [notLongL small, Bool.and_false]
      exact Bool.false_ne_true
    refine call_meets F.slot_list_extend ⟨_, at_, rfl⟩ F.entry_list_extend (F.args_list_extend_2 _ _) (ext_any_tuple c2 d2 door (by rw [List.size_toArray]; omega) (by omega)) ⟨at_, at2, ?_⟩
    exact ⟨.non, _, I.lset (its' := its ++ its2) hl at_ (by simp) (r.append r2) (by rw [List.length_append]; omega), rfl, q⟩
end
def gExtH (W : WE) : WH := fun ds dv N _ _ => W ds fun d => ∃ xs, seqOf d = some xs ∧ dv.length + xs.length ≤ sizeLine ∧ N ds (dv ++ xs)
section
variable {X : Cx} {E : XK} {i : Nat}
theorem hs_extH {x : Str} {e : Expr} {W : WE} {pos pa p1 pe : Pos} (hx : PE X (.Name x p1) (tVar i)) (he : PE X e (tW W))
    (base : attributeBase (.Name x p1) "extend" X.env (eval (.Name x p1) X.env) = eval (.Name x p1) X.env := by rfl)
    (few : ((backTo pos (starEach [e] X.env)).all (fun x => !x.1) && (backToKw pos (keywordEach [] X.env)).all (fun x => x.1.isSome)
      && decide (([e] : List Expr).length + ([] : List Keyword).length + (if ([] : List Keyword).isEmpty then 0 else 1) < 30)) = true := by rfl)
    (line : (pa.endLine == pos.line) = true := by rfl) (star : starEach [e] X.env = (false, eval e X.env) :: starEach [] X.env := by rfl) (plain : (backTo pos (starEach [] X.env)).any (·.1) = false := by rfl)
    (swap : swapsWith (.Call (.Attribute (.Name x p1) "extend" pa) [e] [] pos) none pe.line X.env = pure false := by rfl) :
    PS X (.Expr (.Call (.Attribute (.Name x p1) "extend" pa) [e] [] pos) pe) (tHW E i (gExtH W)) :=
  PS.weak (ps_expr (pe_bm PySem.F.plainAttrs_list PySem.F.slot_list_extend PySem.F.type_list_extend mt_ext2 hx (pa_cons he pa_nil star) base few line star plain) swap) fun D σ H ⟨O, p, vs, ds, dv, N, R, Z, op, hi, hd, hG, hN, hR, hZ⟩ => by
    obtain ⟨v, hv, q⟩ := hd.sl.val i _ hi
    cases q
    refine ⟨_, hv, .inl ⟨rfl, _, .inl (.of hd.at)⟩, _, _, _, hd.sl, hd.ow, hG, fun d ⟨xs, hs, h2, h3⟩ v H1 e1 q1 => ?_⟩
    have hd1 := hd.mono e1
    have fin : ∀ us, DqAll (O ++ [(p, .hold (.lst vs))]) H1 us xs → vs.length + us.length ≤ sizeLine ∧ D.nx σ (upd H1 p (.lst (vs ++ us))) := fun us al =>
      ⟨by rw [hd1.al.length, al.length]; exact h2, hN ds _ h3 _ σ _ ((ExtH.of e1).trans (.put op (noCode_of hd1.at))) hi (hd1.app op al)⟩
    cases q1 with
    | lst x1 r1 a1 =>
      cases hs
      obtain ⟨f1, f2⟩ := fin _ a1
      exact ⟨p, _, vs, _, rfl, rfl, hd1.at, .inl r1, f1, f2⟩
    | tup x1 r1 a1 =>
      cases hs
      obtain ⟨f1, f2⟩ := fin _ a1
      exact ⟨p, _, vs, _, rfl, rfl, hd1.at, .inr (.inl r1), f1, f2⟩
    | _ => cases hs
def fwList (W : WE) : WF := fun ds P => W ds fun d => ∃ xs, seqOf d = some xs ∧ P xs
theorem fw_list {e : Expr} {W : WE} {p pos : Pos} (hg : Gl X "list") (hm : X.mg "list" = none) (he : PE X e (tW W)) (hs : starEach [e] X.env = (false, eval e X.env) :: starEach [] X.env := by rfl) (hpl : (backTo pos (starEach [] X.env)).any (·.1) = false := by rfl) :
    PE X (.Call (.Name "list" p) [e] [] pos) (tFW (fwList W)) :=
  PE.weak (pe_callTy (he := hs) (hpl := hpl) call_list_of hg hm boot_listT (pa_cons he pa_nil hs)) fun σ H Q ⟨O, ds, P, hS, hO, hW, k⟩ => ⟨O, ds, _, hS, hO, hW, fun d ⟨xs, hx, hp⟩ v H1 e1 q1 => by
    have fin : ∀ (us : List V) (l : Addr), DqAll O H1 us xs → H1 l = none → Q (.ref l) (upd H1 l (.lst us)) := fun us l al nl =>
      k xs hp l us _ ((hO.mono e1).out nl) (e1.fresh hO nl) (e1.trans (.new nl)) upd_same ((al.more (fresh_none nl)).keep fun b o x hh _ => by rw [upd_ne x.hold_ne]; exact hh)
    cases q1 with
    | lst x1 r1 a1 =>
      cases hx
      exact ⟨_, _, rfl, .inl (.of r1), fun l nl => fin _ l a1 nl⟩
    | tup x1 r1 a1 =>
      cases hx
      exact ⟨_, _, rfl, .inr (.inl r1), fun l nl => fin _ l a1 nl⟩
    | _ => cases hx⟩
end
end DL

set_option maxHeartbeats 4000000
namespace DL
open PySem PySem.Spec PyProof.Rows L2
/-! ### x != y by an own __eq__ -/
section
variable {M : Model} {prog : Program} {w : World} {A : Around} {E : Value → Shared → Prop} {s : Shared} {K : PySem.W.Frag} {x C f : Addr} {ox : Obj} {od : Option Obj} {b : Value}
theorem bound_ne {args : List Value} {Q : Option Value → Shared → Prop} (X : K.In s.heap) (I : PySem.W.InstAt s.heap x ox C od) (hs : PySem.W.findIn K (.ref C) "__ne__" = some (some (.builtin "object.__ne__")))
    (h : wpAny M A (call (.builtin "object.__ne__") (.ref x :: args)) (fun v => Q (some v)) E s) : wpAny M A (callSpecialIfBound? (.ref x) "__ne__" args) Q E s := by
  have last : wpAny M A (call (.builtin "object.__ne__") ([.ref x] ++ args) >>= fun v => pure (some v)) Q E s := wpAny_bind (wpAny_mono h (fun v s' z => wpAny_pure z) fun _ _ z => z)
  unfold callSpecialIfBound? bindSpecialIfBound?
  refine wpAny_holding (wpAny_bind (wpAny_bind (wpAny_bind (I.type.here ((PySem.W.looks_findIn X hs).here (wpAny_bind (wpAny_askSetting (wpAny_ite ?_))))))))
  split
  · exact wpAny_bind (wpAny_of_eq (F.cmp_object.ne.bind _) (wpAny_pure (by exact last)))
  · exact wpAny_tryCatch (wpAny_bind (wpAny_of_eq (F.cmp_object.ne.bind _) (wpAny_pure (by exact last))))
theorem ne_own {Q : Value → Shared → Prop} (hu : A.units + 1 < cLine) (X : K.In s.heap) (I : PySem.W.InstAt s.heap x ox C od) (hb : PySem.W.Looks (model prog w) s.heap (typeOf b) (.ref C)) (hm : PySem.W.mroIn K C (.type "object") = some true)
    (hn : PySem.W.findIn K (.ref C) "__ne__" = some (some (.builtin "object.__ne__"))) (he : PySem.W.findIn K (.ref C) "__eq__" = some (some (.ref f))) (hf : PySem.W.isFn K (.ref f) = true) (ha : argsOk "object.__ne__" ⟨[.ref x, b], []⟩)
    (ho : oneThing? .NotEq (.ref x) b = none)
    (h : wpAny (model prog w) A.in1 (call (.ref f) [.ref x, b]) (fun v s' => ∃ c, v = .bool c ∧ Q (.bool (!c)) s') E s) : wpAny (model prog w) A (richCompare .NotEq (.ref x) b) Q E s := by
  have one : wpAny (model prog w) A (tryCompare (.ref x) "__ne__" b) (fun r s' => ∃ v, r = some v ∧ Q v s') E s := by
    unfold tryCompare
    refine wpAny_bind (bound_ne X I hn (wpAny_call (codeAny_call_builtin F.cmp_object.ne.plain F.cmpEntry_ne (PySem.W.check_slot F.cmpKind_ne F.cmpSplit_ne (I.type.andThen (PySem.W.looks_mroIn X hm)) ha ?_))))
    unfold Builtin.«object.__ne__»
    have room : (A.in1).units < cLine := Nat.lt_of_le_of_lt (by simp [Around.in1, Around.units]) hu
    repeat (first
      | with_reducible refine wpAny_cRoomFor room ?_
      | (refine wpAny_bind (m := callSpecialIfBound? (.ref x) (Str.ofString "__eq__") [b]) (PySem.W.ifBound_K X I he hf (wpAny_mono h (fun v s' z => ?_) fun _ _ z => z)))
      | wp_step)
    obtain ⟨c, rfl, hq⟩ := z
    refine wpAny_bind (wpAny_truthy_bool (show wpAny _ _ (pure (Fin.done (.ret (.bool (!c))))) _ _ _ from wpAny_pure ?_))
    exact wpAny_pure ⟨_, rfl, hq⟩
  unfold richCompare
  rw [ho]
  refine wpAny_holding (wpAny_bind (wpAny_cRoomFor (Nat.lt_of_succ_lt hu) ?_))
  rw [cmpInfo_NotEq]
  refine wpAny_bind (I.type.here (wpAny_bind (hb.here ?_)))
  rw [show (Value.ref C != Value.ref C) = false from by simp]
  simp only [Bool.false_eq_true, if_false]
  refine wpAny_bind (wpAny_pure ?_)
  simp only [Bool.false_eq_true, if_false]
  refine wpAny_bind (wpAny_mono one (fun r s' z => ?_) fun _ _ e => e)
  obtain ⟨v, rfl, hq⟩ := z
  exact wpAny_pure hq
end
/-- != of two instances of the class, by what its own == gives -/
def dNeI (C : Addr) (g : DSp) : DOp := fun x y P => ∃ ns ns' as bs, x = .ins C ns as ∧ y = .ins C ns' bs ∧ g [x, y] (fun d => ∃ b, d = .bl b ∧ P (.bl (!b))) fun _ _ => False
variable [TabCtx]
theorem op_dNeI {X : Cx} {C f : Addr} {fd : FuncData} {ps : List Str} {k : Nat} {g : DSp} (F : FnOk X.prog X.w X.K X.mg X.base (L2.CX X.prog X.w) k f fd ps (spD g)) (hr : Room (k + 1) X.A) (hb : Binds X.K fd ps [])
    (hm : PySem.W.mroIn X.K C (.type "object") = some true) (hn : PySem.W.findIn X.K (.ref C) "__ne__" = some (some (.builtin "object.__ne__"))) (he : PySem.W.findIn X.K (.ref C) "__eq__" = some (some (.ref f))) (hf : PySem.W.isFn X.K (.ref f) = true) :
    OpR X (compareOp .NotEq) (rD (dNeI C g)) := by
  intro pins s σ H x y v u Q I rx ry ⟨O, dx, dy, P, qx, qy, hO, ⟨ns, ns', as, bs, e1, e2, hg⟩, k'⟩
  subst e1
  subst e2
  cases qx with
  | ins ox ax qx =>
  cases qy with
  | ins oy ay qy =>
  rename_i a d1 vs b d2 us
  cases rx
  cases ry
  obtain ⟨mA, J, _⟩ := ins_get I.hok ax
  obtain ⟨mB, J', _⟩ := ins_get I.hok ay
  obtain ⟨od, J, _⟩ := J.look
  obtain ⟨od', J', _⟩ := J'.look
  show wpAny (model X.prog X.w) X.A (richCompare .NotEq (.ref a) (.ref b)) (EP X pins σ Q) X.xe s
  have hsp : spD g [.ref a, .ref b] H (fun v H' => ∃ c, v = .bl c ∧ Q (.bl (!c)) H') (fun _ _ _ => False) :=
    ⟨O, [.ins C ns as, .ins C ns' bs], _, fun _ _ => False, .cons (.ins ox ax qx) (.cons (.ins oy ay qy) .nil), hO, hg, fun d ⟨c, ed, hp⟩ v H' ex q => by
      subst ed
      cases q
      exact ⟨c, rfl, k' _ hp _ H' ex (.bl _)⟩, fun _ _ z => z.elim⟩
  have e0 : Env0 X.prog X.w X.K X.mg X.base X.A.in1 X.stack s H := by
    have e := I.env0
    exact ⟨e.frames, e.mod, e.bs, e.bsz, e.funs, e.frf, e.hok, e.bare⟩
  have hl := F.len _ _ _ _ hsp
  have r2 : Vals [V.ref a, V.ref b] [Value.ref a, Value.ref b] := .cons rfl (.cons rfl .nil)
  refine ne_own (Nat.lt_of_le_of_lt (by omega) hr.units) I.kIn J J'.type hm hn he hf (PySem.F.cmpArgs_ne _ _) (by rfl) (wpAny_call (codeAny_mono (F.run X.A.in1 X.stack s H ⟨[.ref a, .ref b], []⟩ [.ref a, .ref b] [.ref a, .ref b] _ _ hr.in1 e0 (by
    have := hb s [.ref a, .ref b] I.kIn (by simpa using hl)
    simpa using this) r2 hsp) fun r s' hq => ?_))
  cases r with
  | error e => exact passL pins σ H s e s' I hq
  | ok fl =>
    cases fl with
    | ret w =>
      obtain ⟨z, H', I', rz, ⟨c, ez, hq'⟩⟩ := I.after hq
      subst ez
      cases rz
      exact ⟨_, rfl, ⟨.bl (!c), H', I', rfl, hq'⟩⟩
    | next => exact False.elim hq
    | brk => exact False.elim hq
    | cont => exact False.elim hq
end DL

set_option maxHeartbeats 4000000
namespace DL
open PySem PySem.Spec PyProof.Rows L2 C8
/-! ### classes of the top: what is asked of them -/
structure Md (K : PySem.W.Frag) (C : Addr) (m q : Str) (st : Stmt) (ps : List Str) where
  f : Addr
  fd : FuncData
  F : L2.Fun K m q st f fd
  b : Binds K fd ps []
  at_ : PySem.W.findIn K (.ref C) m = some (some (.ref f))
  fn : PySem.W.isFn K (.ref f) = true
theorem Md.meth {K : PySem.W.Frag} {C : Addr} {m q : Str} {st : Stmt} {ps : List Str} (d : Md K C m q st ps) : Meth K C m d.f := ⟨d.at_, d.fn, d.F.kp⟩
structure Kl (K : PySem.W.Frag) (mg : Str → Option Value) (x : Str) where
  C : Addr
  m : mg x = some (.ref C)
  ic : InsC K C
  kp : PySem.W.keepIn K (.ref C) = true
  mks : PySem.W.makesIn K C = true
  ne : PySem.W.findIn K (.ref C) "__ne__" = some (some (.builtin "object.__ne__"))
theorem Kl.make {K : PySem.W.Frag} {mg : Str → Option Value} {x q : Str} {st : Stmt} {ps : List Str} (c : Kl K mg x) (d : Md K c.C "__init__" q st ps) : Mk K c.C d.f := ⟨c.mks, d.at_, d.fn, c.kp⟩
variable [TabCtx]
/-! ### isinstance(x, C) -/
def fIsC (C : Addr) : DFn := fun es P => ∃ ns ds, es = [.ins C ns ds, .fn C] ∧ P (.bl true)
theorem call_isI {X : Cx} {C : Addr} (c : InsC X.K C) : CallR X (.builtin "isinstance") (rF (fIsC C)) := by
  intro pins s σ H xs us Q I r ⟨O, es, P, hq, hO, ⟨ns, ds, he, p⟩, k⟩
  subst he
  cases hq with
  | cons q1 qr =>
    cases qr with
    | cons q2 qr2 =>
      cases qr2
      cases q2
      cases q1 with
      | ins x1 r1 a1 => exact call_isC c pins s σ H _ us Q I r ⟨_, _, _, rfl, r1, k _ p _ H (.refl _ _) (.bl _)⟩
/-! ### {} -/
def wD0 : WE := fun _ P => P (.dct [] [])
theorem we_d0 {X : Cx} {pos : Pos} : PE X (.Dict [] [] pos) (tW wD0) := PE.weak pe_dnewK fun σ H Q ⟨O, ds, P, hS, hO, hW, k⟩ => by
  intro p hp
  exact k _ hW _ _ (.new hp) (.dct (vs := []) (hO.out hp) upd_same .nil)
/-! ### xs.clear(), xs held -/
def gClearH : WH := fun ds _ N _ _ => N ds []
section
variable {X : Cx} {E : XK} {i : Nat}
theorem hs_clear {x : Str} {pos pa p1 pe : Pos} (hx : PE X (.Name x p1) (tVar i))
    (base : attributeBase (.Name x p1) "clear" X.env (eval (.Name x p1) X.env) = eval (.Name x p1) X.env := by rfl) (line : (pa.endLine == pos.line) = true := by rfl)
    (swap : swapsWith (.Call (.Attribute (.Name x p1) "clear" pa) [] [] pos) none pe.line X.env = pure false := by rfl) :
    PS X (.Expr (.Call (.Attribute (.Name x p1) "clear" pa) [] [] pos) pe) (tHW E i gClearH) :=
  PS.weak (ps_expr (pe_bm0 PySem.F.plainAttrs_list PySem.F.slot_list_clear PySem.F.type_list_clear mt_clear hx base line) swap) fun D σ H ⟨O, p, vs, ds, dv, N, R, Z, op, hi, hd, hG, hN, hR, hZ⟩ => by
    obtain ⟨v, hv, q⟩ := hd.sl.val i _ hi
    cases q
    have k : ∀ b o, Out (O ++ [(p, Own.hold (HO.lst vs))]) b → H b = some o → NT o → upd H p (.lst []) b = some o := fun b o hb hh _ => by
      rw [upd_ne hb.hold_ne]
      exact hh
    exact ⟨_, hv, .inl ⟨rfl, _, .inl (.of hd.at)⟩, p, _, rfl, rfl, hd.at, hN ds [] hG [] σ _ (.put op (noCode_of hd.at)) hi ⟨(hd.sl.keep k).rehold, .nil, hd.ow.put op⟩⟩
end
end DL

set_option maxHeartbeats 4000000
namespace DL
open PySem PySem.Spec PyProof.Rows L2
variable [TabCtx]
section
variable {X : Cx} {i o : Expr} {Wi Wo : WE} {pos : Pos}
/-- k not in d -/
def wDNIn (Wi Wo : WE) : WE := fun ds P => Wi ds fun y => Wo ds fun x => ∃ ks es q, x = .dct ks es ∧ keyD y = some q ∧ P (.bl (!(valD ks es q).isSome))
theorem dnin_red {σ : L2.St} {H : Hp} {Q : VK} (h : tW (wDNIn Wi Wo) σ H Q) : tDNotIn (tW Wi) (tW Wo) σ H Q := by
  obtain ⟨O, ds, P, hS, hO, hW, k⟩ := h
  refine ⟨O, ds, _, hS, hO, hW, fun y hy v H1 e1 q1 => ⟨O, ds, _, hS.mono e1, hO.mono e1, hy, fun x hx u H2 e2 q2 => ?_⟩⟩
  obtain ⟨ks, es, q, rfl, hk, hp⟩ := hx
  have ek := keyD_kV hk q1
  subst ek
  cases q2 with
  | dct o1 r1 a1 =>
    refine ⟨_, _, rfl, DGet.k r1, ?_⟩
    rcases val_rel (q := q) (ks := ks) a1 with ⟨d, v, h1, h2, h3⟩ | ⟨h1, h2⟩
    · rw [h1] at hp
      rw [h2]
      exact k _ hp _ _ (e1.trans e2) (.bl _)
    · rw [h1] at hp
      rw [h2]
      exact k _ hp _ _ (e1.trans e2) (.bl _)
theorem wt_dnin (hu : X.A.units + 1 < cLine) (hi : PE X i (tW Wi)) (ho : PE X o (tW Wo)) (hm : behindInMarks .NotIn o = false) : PT X (.Compare i [.NotIn] [o] pos) (tTW (wTest (wDNIn Wi Wo))) :=
  PT.weak (pt_cmp (pc_dnotin hu hi ho) hm) fun σ H Q h => dnin_red (Q := fun x H' => ∃ k, x = .bl k ∧ Q k H') (test_red h)
theorem we_dnin (hu : X.A.units + 1 < cLine) (hi : PE X i (tW Wi)) (ho : PE X o (tW Wo)) (hm : behindInMarks .NotIn o = false) : PE X (.Compare i [.NotIn] [o] pos) (tW (wDNIn Wi Wo)) :=
  PE.weak (pe_cmp (pc_dnotin hu hi ho) hm) fun _ _ _ h => dnin_red h
end
end DL

set_option maxHeartbeats 4000000
namespace DL
open PySem PySem.Spec PyProof.Rows L2
variable [TabCtx]
/-! ### fresh lists: by a condition; behind a list that grew; beside another value -/
def fwIf (T : WT) (A B : WF) : WF := fun ds P => T ds fun b => if b = true then A ds P else B ds P
section
variable {X : Cx} {E : XK} {st : Stmt} {rest : List Stmt} {a b c e : Expr} {T : WT} {A B W : WF} {Wa : WE} {G1 : WH} {F : WSF} {i j : Nat}
theorem fw_if {pos : Pos} (hc : PT X c (tTW T)) (ha : PE X a (tFW A)) (hb : PE X b (tFW B)) : PE X (.IfExp c a b pos) (tFW (fwIf T A B)) :=
  PE.weak (pe_ifExp hc ha hb) fun σ H Q ⟨O, ds, P, hS, hO, hW, k⟩ => ⟨O, ds, _, hS, hO, hW, fun b hb H1 e1 => by
    cases b with
    | true =>
      rw [if_pos rfl] at hb ⊢
      exact ⟨O, ds, P, hS.mono e1, hO.mono e1, hb, fun es he p vs H2 op fr e2 hp q => k es he p vs H2 op (e1.fresh_of hO op fr) (e1.trans e2) hp q⟩
    | false =>
      rw [if_neg Bool.false_ne_true] at hb ⊢
      exact ⟨O, ds, P, hS.mono e1, hO.mono e1, hb, fun es he p vs H2 op fr e2 hp q => k es he p vs H2 op (e1.fresh_of hO op fr) (e1.trans e2) hp q⟩⟩
abbrev WHF := Sl → List D → (List D → Prop) → Prop
/-- the tail of a def that hands back a new list, while another one is held -/
def tHF (i : Nat) (G : WHF) : TS := fun Dn σ H => ∃ (O : Ow) (p : Addr) (vs : List V) (ds : Sl) (dv : List D) (R : List D → Prop), Out O p ∧ ds[i]? = some (some (.fn p)) ∧ Hd O p vs H σ ds dv ∧ G ds dv R ∧
  ∀ es, R es → ∀ p' us H', Out O p' → Fresh H p' → ExtH O p H H' → H' p' = some (.lst us) → DqAll (O ++ [(p', .hold (.lst us))]) H' us es → Dn.rt (.ref p') H'
theorem ExtH.fresh_of {O : Ow} {p p' : Addr} {H H1 : Hp} {o : HO} (e : ExtH O p H H1) (hp : H1 p = some o) (nt : NT o) (op : Out O p') (n : Fresh H1 p') : Fresh H p' := fun b u h t z => by
  subst z
  by_cases hb : b = p
  · subst hb
    exact n _ _ hp nt rfl
  · exact n b u (e.keep b u op hb h t) t rfl
theorem nt_lst {xs : List V} : NT (.lst xs) := by intro ps z; cases z
def gSeqHF (G : WH) (F : WHF) : WHF := fun ds dv R => G ds dv (fun ds' dv' => F ds' dv' R) (fun _ => False) fun _ _ => False
def gDoneF (i : Nat) (F : WSF) : WHF := fun ds dv R => F (seen i ds dv) R
def gAccF (i : Nat) (W : WF) (F : WHF) : WSF := fun ds R => i < ds.length ∧ W ds fun es => ∀ p, F (ds.set i (some (.fn p))) es R
theorem hf_cons {FH : WHF} (h1 : PS X st (tHW E i G1)) (h2 : PSs X rest (tHF i FH)) : PSs X (st :: rest) (tHF i (gSeqHF G1 FH)) :=
  PSs.weak (pss_cons h1 h2) fun D σ H ⟨O, p, vs, ds, dv, R, op, hi, hd, hG, hR⟩ => ⟨O, p, vs, ds, dv, _, _, _, op, hi, hd, hG, fun ds' dv' h vs' σ' H' e hi' hd' =>
    ⟨O, p, vs', ds', dv', R, op, hi', hd', h, fun es he p' us H2 op' fr e2 hp q => hR es he p' us H2 op' (e.fresh_of hd'.at nt_lst op' fr) (e.trans e2) hp q⟩, fun _ z => z.elim, fun _ _ z => z.elim⟩
theorem hf_done (h : PSs X rest (tSF F)) : PSs X rest (tHF i (gDoneF i F)) :=
  PSs.weak h fun D σ H ⟨O, p, vs, ds, dv, R, op, hi, hd, hG, hR⟩ => ⟨O, _, R, hd.seen op hi, hd.ow.less, hG, fun es he p' us H' op' fr e hp q => hR es he p' us H' op' fr (.free e) hp q⟩
theorem sf_acc {x : Str} {F : WHF} {pos pos' : Pos} (hN : X.N.Nodup) (hi : X.N[i]? = some x) (hx : Loc X.env.scope x) (he : PE X e (tFW W)) (hr : PSs X rest (tHF i F)) (hs : swapsWith e (some (.Name x pos')) pos.line X.env = pure false := by rfl)
    (hf : X.fn x = true ∨ X.env.scope.names.lookup x = some .local := by first | exact .inl rfl | exact .inr rfl) : PSs X (.Assign [.Name x pos'] e pos :: rest) (tSF (gAccF i W F)) :=
  PSs.weak (pss_cons (ps_set hN hi hx he hs hf) hr) fun D σ H ⟨O, ds, R, hS, hO, ⟨hl, hG⟩, hR⟩ => ⟨O, ds, _, hS, hO, hG, fun es hes p vs H' op np e1 hp hq => by
    have kk : ∀ b o, Out (O ++ [(p, Own.hold (HO.lst vs))]) b → H b = some o → NT o → H' b = some o := fun b o x hh t => e1.keep b o x.hold_out hh t
    exact ⟨O, p, vs, ds.set i (some (.fn p)), es, R, op, List.getElem?_set_self hl, ⟨((hS.more np).keep kk).set i (.fn p), hq, OwnAll.hold (hO.mono e1) op hp⟩, hes p,
      fun es he p' us H2 op' fr e2 hp2 q => hR es he p' us H2 op' (e1.fresh_of hO op' fr) (e2.drop e1 np) hp2 q⟩⟩
/-- a, b = x, y with y a new list: the rest while it is held -/
def gParAcc (i j : Nat) (Wa : WE) (W : WF) (G : WH) : WS := fun ds N R Z => i ≠ j ∧ j < ds.length ∧ Wa ds fun d => W ds fun es => ∀ p, G ((ds.set i (some d)).set j (some (.fn p))) es (fun ds' dv' => N (seen j ds' dv')) R Z
theorem wss_parAcc {x y : Str} {px py pt pos : Pos} {kt k2 pt2} (hc : X.calm = true) (hN : X.N.Nodup) (hi : X.N[i]? = some x) (hj : X.N[j]? = some y) (hij : i ≠ j) (hx : X.env.scope.names.lookup x = some .local) (hy : X.env.scope.names.lookup y = some .local)
    (ha : PE X a (tW Wa)) (hb : PE X b (tFW W)) (hr : PSs X rest (tHW E j G1)) (h1 : starEach [a, b] X.env = (false, eval a X.env) :: starEach [b] X.env := by rfl) (h2 : starEach [b] X.env = (false, eval b X.env) :: starEach [] X.env := by rfl)
    (hw : swappedStores [.Tuple [.Name x px, .Name y py] kt pt] (.Tuple [a, b] k2 pt2) X.env = pure (some [x, y]) := by rfl)
    (hs : swapsWithSole [.Tuple [.Name x px, .Name y py] kt pt] (.Tuple [a, b] k2 pt2) pos.line X.env = pure false := by rfl) :
    PSs X (.Assign [.Tuple [.Name x px, .Name y py] kt pt] (.Tuple [a, b] k2 pt2) pos :: rest) (tSW E (gParAcc i j Wa W G1)) :=
  PSs.weak (pss_cons (ps_par hc hN hi hj hij hx hy (pa_cons ha (pa_cons hb pa_nil h2) h1) hw hs) hr) fun D σ H ⟨O, ds, N, R, Z, hS, hO, ⟨_, hl, hG⟩, hNx, hR, hZ⟩ =>
    ⟨O, ds, _, hS, hO, hG, fun d hd v H1 e1 q1 => ⟨O, ds, _, hS.mono e1, hO.mono e1, hd, fun es hes p vs H2 op np e2 hp hq => by
      have kk : ∀ b o, Out (O ++ [(p, Own.hold (HO.lst vs))]) b → H1 b = some o → NT o → H2 b = some o := fun b o x hh t => e2.keep b o x.hold_out hh t
      have np0 : Fresh H p := e1.fresh_of hO op np
      exact ⟨_, _, rfl, O, p, vs, (ds.set i (some d)).set j (some (.fn p)), es, _, R, Z, op, List.getElem?_set_self (by simpa using hl),
        ⟨((((hS.mono e1).more np).keep kk).set i ((q1.more np).keep kk)).set j (.fn p), hq, OwnAll.hold ((hO.mono e1).mono e2) op hp⟩, hes p,
        fun ds' dv' h vs' σ2 H3 e3 hi2 hd2 => hNx _ h σ2 H3 (e3.drop (e1.trans e2) np0) (hd2.seen op hi2), fun d h v H3 e3 q => hR d h v H3 (e3.drop (e1.trans e2) np0) q, fun C d h dx v H3 e3 ox => hZ C d h dx v H3 (e3.drop (e1.trans e2) np0) ox⟩⟩⟩
end
/-! ### for x in range(e): while a list is held that e reads -/
def tIS (i : Nat) (W : WE) : TI := fun σ H R => ∃ (O : Ow) (p : Addr) (vs : List V) (ds : Sl) (dv : List D) (P : List D → Prop), Out O p ∧ ds[i]? = some (some (.fn p)) ∧ Hd O p vs H σ ds dv ∧ (W (seen i ds dv) fun d => ∃ n : Int, d = .int n ∧ -(2 ^ 62) ≤ n ∧ n < 2 ^ 62 ∧ P (intsD n.toNat)) ∧
  ∀ xs, P xs → ∀ J H', Ext O H H' → DWalk (O ++ [(p, .hold (.lst vs))]) J xs H' → R J H'
def gForHS (i j : Nat) (W : WE) (G : WH) : WH := fun ds dv N R Z => W (seen i ds dv) fun d => ∃ n : Int, d = .int n ∧ -(2 ^ 62) ≤ n ∧ n < 2 ^ 62 ∧ ∃ I : Nat → Sl → List D → Prop, I 0 ds dv ∧
  (∀ k x ds' dv', (intsD n.toNat)[k]? = some x → I k ds' dv' → ds'[j]? ≠ none ∧ G (ds'.set j (some x)) dv' (I (k + 1)) R Z) ∧ ∀ ds' dv', I (intsD n.toNat).length ds' dv' → N ds' dv'
section
variable {X : Cx} {E : XK} {G1 : WH} {i j : Nat} {tg e : Expr} {W : WE}
theorem wi_rangeS {p pos : Pos} (hg : Gl X "range") (hm : X.mg "range" = none) (h : PE X e (tW W)) (hs : starEach [e] X.env = [(false, eval e X.env)] := by rfl) : PI X tg (.Call (.Name "range" p) [e] [] pos) (tIS i W) :=
  PI.weak (pi_range1 hg hm (pa_cons h pa_nil hs) hs) fun σ H R ⟨O, q, vs, ds, dv, P, op, hi, hd, hW, k⟩ => ⟨O, _, _, hd.seen op hi, hd.ow.less, hW, fun d hd2 v H1 e1 q1 => by
    obtain ⟨n, rfl, h1, h2, hp⟩ := hd2
    cases q1
    refine ⟨n, rfl, h1, h2, k _ hp _ H1 e1 ⟨fun _ => True, ?_, fun _ _ => trivial⟩⟩
    have hl : (intsD n.toNat).length = n.toNat := by simp [intsD]
    rw [hl]
    exact walk_range.mono (fun _ z => z) fun i H x H' hi _ y => by
      obtain ⟨y1, rfl⟩ := y
      refine ⟨y1, .int (i : Int), ?_, ?_⟩
      · simp [intsD, hi]
      · show Dq _ H1 (V.int (0 + (i : Int))) (D.int (i : Int))
        rw [Int.zero_add]
        exact .int _⟩
theorem hs_forS {body : List Stmt} {p0 pos pos2 : Pos} (hij : i ≠ j) (hp : PassesOwn (model X.prog X.w) X.A X.env X.xe) (hc : X.calm = true) (hgr : Gl X "range") (hmr : X.mg "range" = none) (he : PE X e (tW W)) (hg : PG X tg (gName j)) (hb : PSs X body (tHW E i G1))
    (hst : starEach [e] X.env = [(false, eval e X.env)] := by rfl) (hs : ∀ x, foldedSetIterable (.Call (.Name "range" p0) [e] [] pos2) X.env x = pure x := by intro _; rfl) : PS X (.For tg (.Call (.Name "range" p0) [e] [] pos2) body [] pos) (tHW E i (gForHS i j W G1)) :=
  PS.weak (ps_for hp hc (wi_rangeS (i := i) hgr hmr he hst) hg hb hs) fun D σ H ⟨O, p, vs, ds, dv, N, R, Z, op, hi, hd, hG, hN, hR, hZ⟩ => ⟨O, p, vs, ds, dv, fun xs => ∃ I : Nat → Sl → List DL.D → Prop, I 0 ds dv ∧
      (∀ k x ds' dv', xs[k]? = some x → I k ds' dv' → ds'[j]? ≠ none ∧ G1 (ds'.set j (some x)) dv' (I (k + 1)) R Z) ∧ ∀ ds' dv', I xs.length ds' dv' → N ds' dv', op, hi, hd, hG, fun xs ⟨I, h0, h1, h2⟩ J H1 e1 ⟨Gd, w, hGd⟩ => by
    have e1' : ExtH O p H H1 := .free e1
    refine for_it w (fun k σ2 H2 => ∃ ds' dv' vs', I k ds' dv' ∧ ds'[i]? = some (some (.fn p)) ∧ Hd O p vs' H2 σ2 ds' dv' ∧ ExtH O p H1 H2) ⟨ds, dv, vs, h0, hi, hd.free op e1, .refl _ _ _⟩
      (fun k σ2 H2 _ ⟨_, _, _, _, _, _, e2⟩ => hGd H2 fun b o x h t => e2.keep b o x.hold_out x.hold_ne h t) ?_ ?_
    · rintro k x σ2 H2 H' hk ⟨ds', dv', vs', hI, hi', hd', e2⟩ ⟨rfl, d, hd0, qd⟩
      have x2 := e1'.trans e2
      have kk : ∀ b o, Out (O ++ [(p, Own.hold (HO.lst vs))]) b → H1 b = some o → NT o → H' b = some o := fun b o x h t => e2.keep b o x.hold_out x.hold_ne h t
      have hi2 : (ds'.set j (some d))[i]? = some (some (.fn p)) := by rw [List.getElem?_set_ne hij.symm]; exact hi'
      exact ⟨O, p, vs', _, dv', I (k + 1), R, Z, op, hi2, ⟨hd'.sl.set j ((qd.keep kk).rehold), hd'.al, hd'.ow⟩, (h1 k d ds' dv' hd0 hI).2, fun ds3 dv3 h3 vs3 σ3 H3 e3 hi3 hd3 => ⟨ds3, dv3, vs3, h3, hi3, hd3, e2.trans e3⟩,
        fun d h v H3 e3 q => hR d h v H3 (x2.trans e3) q, fun C d h dx v H3 e3 ox => hZ C d h dx v H3 (x2.trans e3) ox⟩
    · rintro σ2 H2 ⟨ds', dv', vs', hI, hi', hd', e2⟩
      exact hN ds' dv' (h2 ds' dv' hI) vs' σ2 H2 (e1'.trans e2) hi' hd'⟩
/-! ### [..] * n -/
def dRep : DOp := fun x y P => ∃ xs k, x = .lst xs ∧ y = .int k ∧ -1000 ≤ k ∧ k ≤ 1000 ∧ xs.length * k.toNat ≤ sizeLine ∧ P (.lst (List.replicate k.toNat xs).flatten)
theorem DqAll.rep {O : Ow} {H : Hp} {vs : List V} {ds : List D} (h : DqAll O H vs ds) : ∀ n : Nat, DqAll O H (List.replicate n vs).flatten (List.replicate n ds).flatten
  | 0 => .nil
  | n + 1 => by
    rw [List.replicate_succ, List.replicate_succ, List.flatten_cons, List.flatten_cons]
    exact h.append (h.rep n)
theorem op_dRep : OpR X (binaryOp .Mult) (rD dRep) := by
  intro pins s σ H x y v u Q I rx ry ⟨O, dx, dy, P, qx, qy, hO, ⟨xs, n, e1, e2, h1, h2, h3, hg⟩, k⟩
  subst e1
  subst e2
  cases qx with
  | lst ox ax al =>
    cases qy
    refine op_rep pins s σ H _ _ v u Q I rx ry ⟨_, n, _, rfl, rfl, ax, by omega, by omega, by rw [al.length]; exact h3, fun p hp => ?_⟩
    exact k _ hg _ _ (.new hp) (.lst (hO.out hp) upd_same (((al.rep n.toNat).mono (.new hp))))
end
theorem boot_minB : bootBuiltins "min" = some (.builtin "min") := by decide +kernel
/-! ### cuts: what comes next is not looked into -/
theorem gen_of {α : Type} {F : (α → Prop) → Prop} {Q : α → Prop} (S : α → Prop) (h2 : ∀ x, S x → Q x) (h1 : ∀ Q' : α → Prop, (∀ x, S x → Q' x) → F Q') : F Q := h1 Q h2
theorem acc_cut {i : Nat} {W : WF} {G : WH} {ds : Sl} {N : Sl → Prop} {R : D → Prop} {Z : Addr → D → Prop} (S : List D → Prop) (hi : i < ds.length) (h1 : ∀ Q' : List D → Prop, (∀ x, S x → Q' x) → W ds Q')
    (h2 : ∀ es, S es → ∀ p, G (ds.set i (some (.fn p))) es (fun ds' dv' => N (seen i ds' dv')) R Z) : gAcc i W G ds N R Z := ⟨hi, h1 _ h2⟩
theorem seqH_cut {G1 G2 : WH} {ds : Sl} {dv : List D} {N : Sl → List D → Prop} {R : D → Prop} {Z : Addr → D → Prop} (S : Sl → List D → Prop) (h1 : ∀ N' : Sl → List D → Prop, (∀ ds dv, S ds dv → N' ds dv) → G1 ds dv N' R Z)
    (h2 : ∀ ds dv, S ds dv → G2 ds dv N R Z) : gSeqH G1 G2 ds dv N R Z := h1 _ h2
theorem seqW_cut {G1 G2 : WS} {ds : Sl} {N : Sl → Prop} {R : D → Prop} {Z : Addr → D → Prop} (S : Sl → Prop) (h1 : ∀ N' : Sl → Prop, (∀ ds, S ds → N' ds) → G1 ds N' R Z)
    (h2 : ∀ ds, S ds → G2 ds N R Z) : gSeq G1 G2 ds N R Z := h1 _ h2
theorem forHS_of {i j m : Nat} {W : WE} {G : WH} {ds : Sl} {dv : List D} {N : Sl → List D → Prop} {R : D → Prop} {Z : Addr → D → Prop} (hm : m ≤ 100000) (hW : ∀ Q : D → Prop, (∀ n : Nat, n < m → Q (.int n)) → W (seen i ds dv) Q) (I : Nat → Sl → List D → Prop) (h0 : I 0 ds dv)
    (step : ∀ k ds' dv', k < m → I k ds' dv' → ∀ N' : Sl → List D → Prop, (∀ ds dv, I (k + 1) ds dv → N' ds dv) → ds'[j]? ≠ none ∧ G (ds'.set j (some (.int (k : Int)))) dv' N' R Z) (last : ∀ k ds' dv', k < m → I k ds' dv' → N ds' dv') : gForHS i j W G ds dv N R Z := by
  unfold gForHS
  refine hW _ fun n hn => ⟨n, rfl, by omega, by omega, I, h0, ?_, ?_⟩
  · intro k x ds' dv' hx hI
    have e : (intsD (n : Int).toNat)[k]? = some x := hx
    unfold intsD at e
    rw [List.getElem?_map, Int.toNat_natCast] at e
    by_cases hk : k < n
    · rw [List.getElem?_range hk] at e
      cases e
      exact step k ds' dv' (by omega) hI _ fun _ _ h => h
    · rw [List.getElem?_eq_none (by simpa using hk)] at e
      cases e
  · intro ds' dv' hI
    have hl : (intsD (n : Int).toNat).length = n := by simp [intsD]
    rw [hl] at hI
    exact last n ds' dv' hn hI
end DL

set_option maxHeartbeats 4000000
namespace DL
open PySem PySem.Spec PyProof.Rows L2
/-! ### good data may be compared -/
theorem plain_all {n : Nat} (ih : ∀ d, gd n d = true → d.pl = true ∧ d.py.canLay0 = true ∧ d.py.depth ≤ n) : ∀ xs : List D, (∀ x ∈ xs, gd n x = true) → D.pls xs = true ∧ PyData.canLayAll0 (D.pys xs) = true ∧ PyData.depthAll (D.pys xs) ≤ n
  | [], _ => ⟨by simp [D.pls], by simp [D.pys, PyData.canLayAll0], by simp [D.pys, PyData.depthAll]⟩
  | x :: xs, h => by
    obtain ⟨a1, a2, a3⟩ := ih x (h x List.mem_cons_self)
    obtain ⟨b1, b2, b3⟩ := plain_all ih xs fun y hy => h y (List.mem_cons_of_mem _ hy)
    exact ⟨by simp [D.pls, a1, b1], by simp [D.pys, PyData.canLayAll0, a2, b2], by simp only [D.pys, PyData.depthAll]; omega⟩
theorem gd_plain : ∀ (n : Nat) (d : D), gd n d = true → d.pl = true ∧ d.py.canLay0 = true ∧ d.py.depth ≤ n := by
  intro n
  induction n with
  | zero =>
    intro d h
    cases d with
    | non => exact ⟨rfl, rfl, Nat.zero_le _⟩
    | bl b => exact ⟨rfl, rfl, Nat.zero_le _⟩
    | int i => exact ⟨rfl, rfl, Nat.zero_le _⟩
    | str x =>
      simp only [gd, Bool.and_eq_true] at h
      exact ⟨rfl, h.2, Nat.zero_le _⟩
    | _ => simp [gd] at h
  | succ n ih =>
    intro d h
    cases d with
    | non => exact ⟨rfl, rfl, Nat.zero_le _⟩
    | bl b => exact ⟨rfl, rfl, Nat.zero_le _⟩
    | int i => exact ⟨rfl, rfl, Nat.zero_le _⟩
    | str x =>
      simp only [gd, Bool.and_eq_true] at h
      exact ⟨rfl, h.2, Nat.zero_le _⟩
    | lst xs =>
      simp only [gd, Bool.and_eq_true, List.all_eq_true] at h
      obtain ⟨b1, b2, b3⟩ := plain_all ih xs h.2
      exact ⟨by simp [D.pl, b1], by simp [D.py, PyData.canLay0, b2], by simp only [D.py, PyData.depth]; omega⟩
    | tup xs =>
      simp only [gd, Bool.and_eq_true, List.all_eq_true] at h
      obtain ⟨b1, b2, b3⟩ := plain_all ih xs h.2
      exact ⟨by simp [D.pl, b1], by simp [D.py, PyData.canLay0, b2], by simp only [D.py, PyData.depth]; omega⟩
    | _ => simp [gd] at h
theorem Good.okEq {d : D} (h : Good d) : okEq d := by
  obtain ⟨h1, h2, h3⟩ := gd_plain 8 d h
  refine ⟨h1, ?_⟩
  unfold SeqAt.shaped
  rw [h2, decide_eq_true (by omega)]
  rfl
theorem eqD_nilL (xs : List D) : eqD (.lst xs) (.lst []) = decide (xs = []) := by
  cases xs with
  | nil => rfl
  | cons x r => rfl
theorem eqD_nilT (xs : List D) : eqD (.tup xs) (.tup []) = decide (xs = []) := by
  cases xs with
  | nil => rfl
  | cons x r => rfl
theorem gd_tup {n : Nat} {xs : List D} (hl : xs.length ≤ 100) (h : ∀ x ∈ xs, gd n x = true) : gd (n + 1) (.tup xs) = true := by
  simp only [gd, Bool.and_eq_true, decide_eq_true_eq, List.all_eq_true]
  exact ⟨hl, h⟩
theorem gd_lst {n : Nat} {xs : List D} (hl : xs.length ≤ 100) (h : ∀ x ∈ xs, gd n x = true) : gd (n + 1) (.lst xs) = true := by
  simp only [gd, Bool.and_eq_true, decide_eq_true_eq, List.all_eq_true]
  exact ⟨hl, h⟩
theorem gd_small {n m : Nat} (h : m < 1000000) : gd n (.int (m : Int)) = true := by
  have e : gd n (.int (m : Int)) = decide ((m : Int).natAbs.log2 < 1000) := by cases n <;> rfl
  rw [e, decide_eq_true_eq, Int.natAbs_natCast]
  have := Nat.log2_le_self m
  by_cases z : m = 0
  · subst z; decide
  · have : m.log2 < 20 := (Nat.log2_lt z).mpr (by omega)
    omega
end DL

set_option maxHeartbeats 4000000
namespace DL
open PySem PySem.Spec PyProof.Rows L2
variable [TabCtx]
/-- f(), f a def of the top that raises nothing -/
theorem we_call0 {X : Cx} {k : Nat} {f : Addr} {fd : FuncData} {ps : List Str} {x : Str} {p pos : Pos} {g : DFn} (F : FnOk X.prog X.w X.K X.mg X.base CX0 k f fd ps (spD fun es P _ => g es P)) (hr : Room k X.A) (hg : Gl X x) (hm : X.mg x = some (.ref f)) (hk : PySem.W.keepIn X.K (.ref f) = true) (hb : Binds X.K fd ps [])
    (hdb : (x == ("__debug__" : Str)) = false := by decide) : PE X (.Call (.Name x p) [] [] pos) (tW fun _ P => g [] P) :=
  PE.weak (pe_call0 F hr hg hm hk hb .nil pass0 hdb) fun σ H Q ⟨O, ds, P, hS, hO, hW, k⟩ => ⟨O, [], P, fun _ _ => False, .nil, hO, hW, fun d hd v H2 e2 q2 => k d hd v H2 e2 q2, fun _ _ z => z.elim⟩
/-! ### for i, x in enumerate(a list), while another list is held -/
theorem walk_enL {K : PySem.W.Frag} {a : Addr} {xs : List V} : Walk (Ite K a) xs.length (fun H => SqL K H a xs) (fun i H v H' => ∃ T x, v = .ref T ∧ H T = none ∧ H' = upd H T (.tup [.int (i : Nat), x]) ∧ xs[i]? = some x) :=
  ⟨fun i _ hi q => ⟨xs, xs[i], q, by simp [hi]⟩, fun _ q => ⟨xs, q, Nat.le_refl _⟩, fun i H v H' _ q ⟨T, x, h1, h2, h3, h4⟩ => ⟨T, x, h1, h2, h3, h4 xs q⟩⟩
def gForELH (i1 i2 : Nat) (W : WE) (G : WH) : WH := fun ds dv N R Z => W ds fun d => ∃ xs, d = .lst xs ∧ ∃ I : Nat → Sl → List D → Prop, I 0 ds dv ∧
  (∀ (j : Nat) x ds' dv', xs[j]? = some x → I j ds' dv' → G ((ds'.set i1 (some (.int (j : Int)))).set i2 (some x)) dv' (I (j + 1)) R Z) ∧ ∀ ds' dv', I xs.length ds' dv' → N ds' dv'
theorem hs_forEL {X : Cx} {i i1 i2 kk : Nat} {x1 x2 : Str} {p1 p2 tpos p pos pf : Pos} {e : Expr} {body : List Stmt} {E : XK} {G : WH} {W : WE} (n1 : i ≠ i1) (n2 : i ≠ i2) (hp : PassesOwn (model X.prog X.w) X.A X.env X.xe) (hc : X.calm = true) (hg : Gl X "enumerate") (hm : X.mg "enumerate" = none) (he : PE X e (tW W))
    (h1 : PG X (.Name x1 p1) (gName i1)) (h2 : PG X (.Name x2 p2) (gName i2)) (hb : PSs X body (tHW E i G)) (hs : starEach [e] X.env = (false, eval e X.env) :: starEach [] X.env := by rfl) (hs1 : starEach [e] X.env = [(false, eval e X.env)] := by rfl)
    (hf : ∀ x, foldedSetIterable (.Call (.Name "enumerate" p) [e] [] pos) X.env x = pure x := by intro _; rfl) :
    PS X (.For (.Tuple [.Name x1 p1, .Name x2 p2] kk tpos) (.Call (.Name "enumerate" p) [e] [] pos) body [] pf) (tHW E i (gForELH i1 i2 W G)) :=
  PS.weak (ps_for hp hc (pi_enum hg hm (pa_cons he pa_nil hs) hs1) (pg_tup (n := 2) hc (pgs_cons h1 (pgs_cons h2 pgs_nil))) hb hf) fun D σ H ⟨O, p, ws, ds, dv, N, R, Z, op, hi, hd, hG, hN, hR, hZ⟩ => ⟨_, ds, _, hd.sl, hd.ow, hG, fun d hdd v H1 e1 q1 => by
    obtain ⟨xs, rfl, I, h0, hst, hend⟩ := hdd
    cases q1 with
    | @lst a vs _ ox rd al =>
      refine ⟨a, vs, rfl, .of rd, ?_⟩
      have lw := al.length
      refine for_it walk_enL (fun j σ2 H2 => ∃ ds' dv' ws', I j ds' dv' ∧ ds'[i]? = some (some (.fn p)) ∧ Hd O p ws' H2 σ2 ds' dv' ∧ ExtH O p H1 H2) ⟨ds, dv, ws, h0, hi, hd.mono e1, .refl _ _ _⟩
        (fun j σ2 H2 _ ⟨_, _, _, _, _, _, e2⟩ => .of (e2.keep a _ ox.hold_out ox.hold_ne rd nt_lst)) ?_ ?_
      · rintro j v σ2 H2 H' hj ⟨ds', dv', ws', hI, hi', hd', e2⟩ ⟨T, x, rfl, hT, rfl, hx⟩
        have hj' : j < xs.length := by rw [← lw]; exact hj
        obtain ⟨u, eu, qu⟩ := al.get (i := j) (d := xs[j]) (by simp [hj'])
        rw [hx] at eu
        cases eu
        have en : Ext (O ++ [(p, Own.hold (HO.lst ws'))]) H2 (upd H2 T (.tup [.int (j : Nat), x])) := .new hT
        have hd2 := hd'.mono en
        have e3 := (ExtH.of e1).trans (e2.trans (.of en))
        have kk : ∀ b o, Out (O ++ [(p, Own.hold (HO.lst ws))]) b → H1 b = some o → NT o → upd H2 T (.tup [.int (j : Nat), x]) b = some o := fun b o x h t => en.keep b o (out_rehold x) (e2.keep b o x.hold_out x.hold_ne h t) t
        refine ⟨T, _, rfl, .inl (.of upd_same), rfl, _, _, rfl, _, _, rfl, rfl, ?_⟩
        refine ⟨O, p, ws', _, dv', I (j + 1), R, Z, op, ?_, ⟨(hd2.sl.set i1 (.int _)).set i2 ((qu.keep kk).rehold), hd2.al, hd2.ow⟩, hst j _ ds' dv' (by simp [hj']) hI, fun ds3 dv3 h3 ws3 σ3 H3 e5 hi3 hd3 => ⟨ds3, dv3, ws3, h3, hi3, hd3, e2.trans ((ExtH.of en).trans e5)⟩,
          fun d h v H3 e5 q => hR d h v H3 (e3.trans e5) q, fun C d h dx v H3 e5 ox => hZ C d h dx v H3 (e3.trans e5) ox⟩
        rw [List.getElem?_set_ne n2.symm, List.getElem?_set_ne n1.symm]
        exact hi'
      · rintro σ2 H2 ⟨ds', dv', ws', hI, hi', hd', e2⟩
        rw [lw] at hI
        exact hN ds' dv' (hend ds' dv' hI) ws' σ2 H2 ((ExtH.of e1).trans e2) hi' hd'⟩
theorem parAcc_cut {i j : Nat} {Wa : WE} {W : WF} {G : WH} {ds : Sl} {N : Sl → Prop} {R : D → Prop} {Z : Addr → D → Prop} (S : D → List D → Prop) (hij : i ≠ j) (hj : j < ds.length) (h1 : ∀ Q' : D → List D → Prop, (∀ d es, S d es → Q' d es) → Wa ds fun d => W ds fun es => Q' d es)
    (h2 : ∀ d es, S d es → ∀ p, G ((ds.set i (some d)).set j (some (.fn p))) es (fun ds' dv' => N (seen j ds' dv')) R Z) : gParAcc i j Wa W G ds N R Z := ⟨hij, hj, h1 _ h2⟩
theorem forELH_of {i1 i2 : Nat} {W : WE} {G : WH} {ds : Sl} {dv : List D} {N : Sl → List D → Prop} {R : D → Prop} {Z : Addr → D → Prop} (xs : List D) (hW : ∀ Q : D → Prop, Q (.lst xs) → W ds Q) (I : Nat → Sl → List D → Prop) (h0 : I 0 ds dv)
    (step : ∀ (k : Nat) ds' dv' (hk : k < xs.length), I k ds' dv' → ∀ N' : Sl → List D → Prop, (∀ ds dv, I (k + 1) ds dv → N' ds dv) → G ((ds'.set i1 (some (.int (k : Int)))).set i2 (some xs[k])) dv' N' R Z) (last : ∀ ds' dv', I xs.length ds' dv' → N ds' dv') : gForELH i1 i2 W G ds dv N R Z := by
  unfold gForELH
  refine hW _ ⟨xs, rfl, I, h0, fun k x ds' dv' hx hI => ?_, last⟩
  obtain ⟨hk, rfl⟩ := List.getElem?_eq_some_iff.mp hx
  exact step k ds' dv' hk hI _ fun _ _ h => h
end DL

set_option maxHeartbeats 4000000
namespace DL
open PySem PySem.Spec PyProof.Rows L2 C8
/-! ### a tuple times an int: none, once, often -/
theorem tup_none (l : Addr) (xs : Array Value) (n : Nat) (dd : Option Addr) (sl : Array (Option Value)) (x : Int) (u : Tok) (h0 : (decide (x < -(2 ^ 63)) || decide (x ≥ 2 ^ 63)) = false) (h1 : (xs.isEmpty || x == 1) = false) (h2 : (decide (x ≤ 0) || xs.isEmpty) = true) :
    Meets (Builtin.«tuple.__mul__» ⟨[.ref l, .int x u], []⟩) (fun _ R s => s.heap.get? l = some { cls := .type "tuple", dict := dd, data := .seq xs n, slots := sl } ∧
      R (.ok (.ret (Value.ref s.heap.objs.size))) { s with heap := s.heap.push { cls := Value.type "tuple", data := Data.seq #[] }, toks := s.toks }) :=
  .of_wp fun prog w A R s ⟨hl, h⟩ => by
    obtain ⟨hp, g, d, tk, os⟩ := s
    have f1 := AutoSeq1.idx_int
    wp_walk using AutoSeq1.wpAny_loadPart' hl
    repeat (first
      | (refine wpAny_ite_false (decide_eq_false (by rw [h0]; exact Bool.false_ne_true)) ?_; wp_walk using AutoSeq1.wpAny_loadPart' hl)
      | (refine wpAny_ite_false (decide_eq_false (by rw [h1]; exact Bool.false_ne_true)) ?_; wp_walk using AutoSeq1.wpAny_loadPart' hl)
      | (refine wpAny_ite_true (decide_eq_true h2) ?_; wp_walk using AutoSeq1.wpAny_loadPart' hl))
    exact ⟨_, rfl, h⟩
theorem tup_once (l : Addr) (xs : Array Value) (n : Nat) (dd : Option Addr) (sl : Array (Option Value)) (x : Int) (u : Tok) (h0 : (decide (x < -(2 ^ 63)) || decide (x ≥ 2 ^ 63)) = false) (h1 : (xs.isEmpty || x == 1) = true) :
    Meets (Builtin.«tuple.__mul__» ⟨[.ref l, .int x u], []⟩) (fun _ R s => s.heap.get? l = some { cls := .type "tuple", dict := dd, data := .seq xs n, slots := sl } ∧ R (.ok (.ret (Value.ref l))) s) :=
  .of_wp fun prog w A R s ⟨hl, h⟩ => by
    obtain ⟨hp, g, d, tk, os⟩ := s
    have f1 := AutoSeq1.idx_int
    wp_walk using AutoSeq1.wpAny_loadPart' hl
    repeat (first
      | (refine wpAny_ite_false (decide_eq_false (by rw [h0]; exact Bool.false_ne_true)) ?_; wp_walk using AutoSeq1.wpAny_loadPart' hl)
      | (refine wpAny_ite_true (decide_eq_true h1) ?_; wp_walk using AutoSeq1.wpAny_loadPart' hl))
    exact ⟨_, rfl, h⟩
variable [TabCtx]
def dRepT : DOp := fun x y P => ∃ (xs : List D) (k : Nat), x = .tup xs ∧ y = .int (k : Int) ∧ xs ≠ [] ∧ k ≤ 1000 ∧ xs.length ≤ 1000 ∧ P (.tup (List.replicate k xs).flatten)
theorem op_dRepT {X : Cx} : OpR X (binaryOp .Mult) (rD dRepT) := by
  intro pins s σ H x y v u Q I rx ry ⟨O, dx, dy, P, qx, qy, hO, ⟨xs, m, e1, e2, hne, h2, h3, hg⟩, k⟩
  subst e1
  subst e2
  cases qx with
  | @tup a vs _ ox rd al =>
    cases qy
    have hl := al.length
    have hT : SqT X.K H a vs := .inl rd
    match m, h2, hg with
    | 0, _, hg =>
      cases rx
      obtain ⟨t, rfl⟩ := ry
      obtain ⟨its, r, ⟨⟨cls, dd, data, sl⟩, ho, hc, n, hd⟩, hs⟩ := I.tuple hT
      simp only at hc hd
      subst hc hd
      have hi : its.toArray.isEmpty = false := by
        cases its with
        | nil =>
          have := r.length
          rw [hl] at this
          exact absurd (List.eq_nil_of_length_eq_zero this) hne
        | cons a b => rfl
      have c0 : (decide (((0 : Nat) : Int) < -(2 ^ 63)) || decide (((0 : Nat) : Int) ≥ 2 ^ 63)) = false := by decide
      have c1 : (its.toArray.isEmpty || ((0 : Nat) : Int) == 1) = false := by rw [hi]; decide
      have c2 : (decide (((0 : Nat) : Int) ≤ 0) || its.toArray.isEmpty) = true := by rw [decide_eq_true (by decide)]; rfl
      refine wpAny_binaryOp_repeat_ref (T := "tuple") (U := "int") (by decide) ⟨_, ho, rfl⟩ (fun s' => typeIs_int s' _ t) noFill_tuple_mul F.fills_int_mul F.slot_int_rmul repeat_tuple F.slot_int_index.lookup
        (call_meets F.slot_int_rmul (typeIs_int s _ t) F.entry_int_rmul (F.args_int_rmul_2 _ _) (int_rmul_tuple _ t a its.toArray n dd sl)
          ⟨ho, rfl, ⟨_, ho, rfl⟩, call_meets F.slot_tuple_mul ⟨_, ho, rfl⟩ F.entry_tuple_mul (F.args_tuple_mul_2 _ _) (tup_none a its.toArray n dd sl _ t c0 c1 c2) ⟨ho, ?_⟩⟩)
      refine ⟨.ref s.heap.objs.size, _, I.laid (t' := s.toks) (o := .tup []) (fun b ob q => Heap.get?_push_of_some _ q) (Nat.le_refl _) ?_, rfl, ?_⟩
      · exact ⟨Nat.zero_le _, [], .nil, IsTup.new _ _⟩
      · have np := I.hok.fresh (Nat.le_refl s.heap.objs.size)
        exact k _ hg _ _ (.new np) (.tup (xs := []) (hO.out np) (.of upd_same) .nil)
    | 1, _, hg =>
      cases rx
      obtain ⟨t, rfl⟩ := ry
      obtain ⟨its, r, ⟨⟨cls, dd, data, sl⟩, ho, hc, n, hd⟩, hs⟩ := I.tuple hT
      simp only at hc hd
      subst hc hd
      have c0 : (decide (((1 : Nat) : Int) < -(2 ^ 63)) || decide (((1 : Nat) : Int) ≥ 2 ^ 63)) = false := by decide
      have c1 : (its.toArray.isEmpty || ((1 : Nat) : Int) == 1) = true := by
        rw [show ((((1 : Nat) : Int) == 1) = true) from rfl, Bool.or_true]
      refine wpAny_binaryOp_repeat_ref (T := "tuple") (U := "int") (by decide) ⟨_, ho, rfl⟩ (fun s' => typeIs_int s' _ t) noFill_tuple_mul F.fills_int_mul F.slot_int_rmul repeat_tuple F.slot_int_index.lookup
        (call_meets F.slot_int_rmul (typeIs_int s _ t) F.entry_int_rmul (F.args_int_rmul_2 _ _) (int_rmul_tuple _ t a its.toArray n dd sl)
          ⟨ho, rfl, ⟨_, ho, rfl⟩, call_meets F.slot_tuple_mul ⟨_, ho, rfl⟩ F.entry_tuple_mul (F.args_tuple_mul_2 _ _) (tup_once a its.toArray n dd sl _ t c0 c1) ⟨ho, ?_⟩⟩)
      refine ⟨.ref a, H, I, rfl, k _ hg _ _ (.refl _ _) ?_⟩
      have e : (List.replicate 1 xs).flatten = xs := by simp
      rw [e]
      exact .tup ox rd al
    | j + 2, h2, hg =>
      refine op_repT pins s σ H _ _ v u Q I rx ry ⟨_, ((j + 2 : Nat) : Int), vs, rfl, rfl, hT, ?_, by omega, by omega, by rw [hl]; exact h3, fun p np => ?_⟩
      · intro e
        rw [e] at hl
        exact hne (List.eq_nil_of_length_eq_zero hl.symm)
      · exact k _ hg _ _ (.new np) (.tup (hO.out np) (.of upd_same) ((al.rep (j + 2)).mono (.new np)))
/-! ### dict(pairs), the keys apart; d.get(k, e) -/
def keyDat : Key → D
  | .inl i => .int i
  | .inr x => .str x
def pairD (kv : Key × D) : D := .tup [keyDat kv.1, kv.2]
def fDict : DFn := fun es P => ∃ kvs : List (Key × D), es = [.lst (kvs.map pairD)] ∧ (kvs.map (·.1)).Nodup ∧ kvs.length ≤ 1000 ∧ P (.dct (kvs.map (·.1)) (kvs.map (·.2)))
theorem merge_new : ∀ {more acc : List (Key × V)}, ((acc ++ more).map (·.1)).Nodup → mergeK acc more = acc ++ more
  | [], acc, _ => by simp [mergeK]
  | kv :: more, acc, h => by
    have ha : (acc.any fun x => decide (x.1 = kv.1)) = false := by
      rw [List.any_eq_false]
      intro x hx z
      have e := of_decide_eq_true z
      rw [List.map_append, List.nodup_append] at h
      exact h.2.2 x.1 (List.mem_map.mpr ⟨x, hx, rfl⟩) kv.1 (by simp) e
    have e : putK acc kv.1 kv.2 = acc ++ [kv] := by
      unfold putK
      rw [ha, if_neg Bool.false_ne_true]
    show mergeK (putK acc kv.1 kv.2) more = _
    rw [e, merge_new (by rw [List.append_assoc]; exact h), List.append_assoc]
    rfl
theorem keyDat_v {O : Ow} {H : Hp} {v : V} {k : Key} (q : Dq O H v (keyDat k)) : v = kV k := by
  cases k with
  | inl i => cases q; rfl
  | inr x => cases q; rfl
theorem pairs_rel {O : Ow} {H : Hp} {K : PySem.W.Frag} : ∀ {kvs : List (Key × D)} {vs : List V}, DqAll O H vs (kvs.map pairD) → ∃ (ps : List Addr) (us : List V), vs = ps.map V.ref ∧ us.length = kvs.length ∧ PySem.Paired (fun p (kv : Key × V) => SqT K H p [kV kv.1, kv.2]) ps ((kvs.map (·.1)).zip us) ∧ DqAll O H us (kvs.map (·.2))
  | [], _, .nil => ⟨[], [], rfl, rfl, .nil, .nil⟩
  | kv :: kvs, _, .cons q qs => by
    obtain ⟨ps, us, e1, e0, e2, e3⟩ := pairs_rel (K := K) qs
    have q' : Dq O H _ (.tup [keyDat kv.1, kv.2]) := q
    cases q' with
    | @tup a xs _ ox rd al =>
      cases al with
      | cons qa al =>
        cases al with
        | cons qb al =>
          cases al
          have e := keyDat_v qa
          subst e
          exact ⟨a :: ps, _ :: us, by rw [e1]; rfl, by simp [e0], .cons (.inl rd) e2, .cons qb e3⟩
theorem call_fDict {X : Cx} (hc : X.calm = true) : CallR X (.type "dict") (rF fDict) := by
  intro pins s σ H xs us Q I r ⟨O, es, P, hq, hO, ⟨kvs, e, nd, hl, hp⟩, k⟩
  subst e
  cases hq with
  | cons q qr =>
    cases qr
    cases q with
    | @lst a vs _ ox rd al =>
      obtain ⟨ps, ws, e1, e0, e2, e3⟩ := pairs_rel (K := X.K) al
      subst e1
      refine call_dictP hc pins s σ H _ us Q I r ⟨a, ps, _, rfl, .of rd, e2, fun p np => ?_⟩
      have hz : ((kvs.map (·.1)).zip ws).map (·.1) = kvs.map (·.1) := by
        rw [List.map_fst_zip]
        rw [List.length_map, e0]
        exact Nat.le_refl _
      rw [merge_new (by rw [List.nil_append, hz]; exact nd), List.nil_append]
      exact k _ hp _ _ (.new np) (.dct (hO.out np) upd_same (e3.mono (.new np)))
def wDGet2 (Wo Wi Wf : WE) : WE := fun ds P => Wo ds fun x => ∃ ks es, x = .dct ks es ∧ Wi ds fun y => Wf ds fun z => ∃ q, keyD y = some q ∧ P ((valD ks es q).getD z)
theorem we_dget2 {X : Cx} {o i f : Expr} {Wo Wi Wf : WE} {apos pos : Pos} (hu : X.A.units + 1 < cLine) (ho : PE X o (tW Wo)) (hi : PE X i (tW Wi)) (hf : PE X f (tW Wf)) (m : M2 X o "get" apos i f pos) : PE X (.Call (.Attribute o "get" apos) [i, f] [] pos) (tW (wDGet2 Wo Wi Wf)) :=
  PE.weak (pe_dget2 hu ho hi hf m) fun σ H Q ⟨O, ds, P, hS, hO, hW, k⟩ => ⟨O, ds, _, hS, hO, hW, fun x hx v H1 e1 q1 => by
    obtain ⟨ks, es, rfl, hw⟩ := hx
    cases q1 with
    | dct o1 r1 a1 =>
      refine ⟨_, rfl, .inl ⟨_, .of r1⟩, O, ds, _, hS.mono e1, hO.mono e1, hw, fun y hy u H2 e2 q2 => ⟨O, ds, _, (hS.mono e1).mono e2, (hO.mono e1).mono e2, hy, fun z hz w H3 e3 q3 => ?_⟩⟩
      obtain ⟨q, hk, hp⟩ := hz
      have ek := keyD_kV hk q2
      subst ek
      have e12 := e2.trans e3
      have r2 := e12.keep _ _ o1 r1 (by intro ps z; cases z)
      refine ⟨_, DGet.k r2, ?_⟩
      rcases val_rel (q := q) (ks := ks) (a1.mono e12) with ⟨d', v, h1, h2, h3⟩ | ⟨h1, h2⟩
      · rw [h1] at hp
        rw [h2]
        exact k _ hp v H3 ((e1.trans e2).trans e3) h3
      · rw [h1] at hp
        rw [h2]
        exact k _ hp _ H3 ((e1.trans e2).trans e3) q3⟩
theorem boot_dictT : bootBuiltins "dict" = some (.type "dict") := by decide +kernel
end DL

set_option maxHeartbeats 4000000
namespace DL
open PySem PySem.Spec PyProof.Rows L2 C8
/-! ### what a head says of a class's methods -/
structure MdF (K : PySem.W.Frag) (C : Addr) (m q : Str) (st : Stmt) : Prop where
  ex : ∃ (f : Addr) (oc : Value) (od : Option Addr) (kV dc pm : Value) (an : Option Addr) (cd ct : Value) (sl : Array (Option Value)), PySem.W.findIn K (.ref C) m = some (some (.ref f)) ∧ PySem.W.isFn K (.ref f) = true ∧
    K.lookup f = some ⟨oc, od, .func (PySem.W.fnOf m q (defArgs st) (defBody st) (defScope st) .none kV dc pm an cd ct), sl⟩ ∧ PySem.W.codeIn K cd q = true ∧ PySem.W.keepIn K (.ref f) = true
theorem mdF {K : PySem.W.Frag} {C : Addr} {m q : Str} {st : Stmt} {f : Addr} {oc : Value} {od : Option Addr} {kV dc pm : Value} {an : Option Addr} {cd ct : Value} {sl : Array (Option Value)} (a : PySem.W.findIn K (.ref C) m = some (some (.ref f))) (b : PySem.W.isFn K (.ref f) = true)
    (l : K.lookup f = some ⟨oc, od, .func (PySem.W.fnOf m q (defArgs st) (defBody st) (defScope st) .none kV dc pm an cd ct), sl⟩) (c : PySem.W.codeIn K cd q = true) (k : PySem.W.keepIn K (.ref f) = true) : MdF K C m q st := ⟨_, _, _, _, _, _, _, _, _, _, a, b, l, c, k⟩
theorem MdF.md {K : PySem.W.Frag} {C : Addr} {m q : Str} {st : Stmt} {ps : List Str} (F : MdF K C m q st)
    (b : ∀ (kV dc pm : Value) (an : Option Addr) (cd ct : Value) (us : List Value), us.length = ps.length → bindArgs (PySem.W.fnOf m q (defArgs st) (defBody st) (defScope st) .none kV dc pm an cd ct) ⟨us, []⟩ = pure (ps.zip us)) : Nonempty (Md K C m q st ps) := by
  obtain ⟨f, oc, od, kV, dc, pm, an, cd, ct, sl, a, b', l, c, k⟩ := F.ex
  exact ⟨⟨f, _, fun_mk l c k, (fun_mk l c k).binds b, a, b'⟩⟩
theorem kit_self {K : PySem.W.Frag} {C : Addr} (hd : PySem.W.hasDictIn K C = true) (tC : PySem.W.typeIn K (.ref C) = some (.type "type")) (sC : PySem.W.subIn K (.ref C) (.ref C) = some true) : PySem.W.kitOne K (.ref C) (.ref C) = some true := by
  obtain ⟨cdM, hcM, _⟩ := PySem.W.any_some hd
  unfold PySem.W.kitOne
  split
  · rfl
  · have e : ((PySem.W.clsIn K C).isSome && PySem.W.typeIn K (.ref C) == some (.type "type")) = true := by
      rw [hcM, tC] <;> rfl
    show (if ((PySem.W.clsIn K C).isSome && PySem.W.typeIn K (.ref C) == some (.type "type")) = true then PySem.W.subIn K (.ref C) (.ref C) else none) = some true
    rw [if_pos e]
    exact sC
theorem okG {P : Program} {w : World} {K : PySem.W.Frag} {mg : Str → Option Value} {base : Heap} {CX : CXT} {k : Nat} {f : Addr} {fd : FuncData} {ps : List Str} {sp : Sp} (F : FnOk P w K mg base CX k f fd ps sp) : FnG P w K mg base CX k f fd ps sp :=
  ⟨F.len, fun A outer s H ar us vs Q E _ hr e b r h => F.run A outer s H ar us vs Q E hr e b r h⟩
end DL

set_option maxHeartbeats 4000000
/-! sorted(set(a list of whole numbers)) -/
namespace DT
open PySem PySem.Spec PyProof.Rows L2 DL
section
variable {P : Program} {w : World} {A : Around} {E : Value → Shared → Prop} {s : Shared}
/-- the new set's object -/
abbrev newS (w : World) : Obj := { cls := .type "set", dict := none, data := .set #[] 0 (.fresh 0 0 (!w.params.followText "set-order")) }
/-- what is left when the set is made -/
def Full (w : World) (s : Shared) (ms : List Int) (r : Value) (z : Shared) : Prop := r = .none ∧ ∃ hz tz cz, z = { s with heap := hz, toks := tz } ∧ SetR w hz s.heap.objs.size (fun j => decide (j ∈ ms)) cz ∧ cz ≤ ms.length ∧ ∀ b o, s.heap.get? b = some o → hz.get? b = some o
set_option maxRecDepth 100000 in
set_option maxHeartbeats 3200000 in
theorem set_of_list {q : Addr} {its : Array Value} (ms : List Int) {Q : Value → Shared → Prop} (calm : A.handled = none) (isL : s.heap.IsList q its) (are : IntsAre its.toList ms) (few : ms.length + 1 < scanBound)
    (fin : ∀ (hz : Heap) (tz cz : Nat), SetR w hz s.heap.objs.size (fun j => decide (j ∈ ms)) cz → cz ≤ ms.length → (∀ b o, s.heap.get? b = some o → hz.get? b = some o) → Q (.ref s.heap.objs.size) { s with heap := hz, toks := tz }) :
    wpAny (model P w) A (call (.type "set") [.ref q]) Q E s := by
  have size : its.size = ms.length := by have z := IntsAre.length are; rwa [Array.length_toList] at z
  have ⟨c1, tl1, mro1⟩ := F.called_set.mro
  have k1 := F.called_set.made; have k2 := F.called_set.sub; have k3 := F.called_set.notType; have k4 := F.called_set.canCreate; have k5 := F.typeCall_set_1 (.ref q)
  refine wpAny_call (codeAny_of_tree ?_); show wpAny _ _ (callAny (.type "set") _) _ _ _
  refine wpAny_pure ⟨Code.quiet_builtin _ (by decide +kernel), codeAny_builtin F.entry_type_call ?_⟩; rw [Around.under_plain (weight_type_call_type "set" [.ref q] []) rfl]
  repeat (any_goals (first | assumption | wp_step))
  refine codeAny_mono (code_set_led1 (.ref q) (E := E) (Q₁ := fun ob z => ob = .ref s.heap.objs.size ∧ z = { s with heap := s.heap.push (newS w) }) ⟨rfl, rfl⟩) fun r z1 hr => ?_
  cases r with
  | error e => exact hr
  | ok fl =>
    cases fl with
    | ret ob =>
      obtain ⟨rfl, rfl⟩ := hr
      have atS : (s.heap.push (newS w)).get? s.heap.objs.size = some (newS w) := Heap.get?_push_size _ rfl
      have tyS : Shared.TypeIs { s with heap := s.heap.push (newS w) } (.ref s.heap.objs.size) "set" := ⟨_, atS, rfl⟩
      have k6 := F.called_set.init.lookup; have k7 := F.called_set.init.bind (.ref s.heap.objs.size)
      repeat (any_goals (first | assumption | wp_step))
      refine codeAny_mono (codeAny_call_builtin (R := wants (Full w s ms) E) F.called_set.init.plain F.entry_set_init (check_set_init_1 tyS ?_)) fun r2 z2 hr2 => ?_
      · obtain ⟨⟨lc, ld, lx, ls⟩, atL, clL, nl, dl⟩ := isL
        simp only at clL dl; subst clL; subst dl
        have atL2 : (s.heap.push (newS w)).get? q = some { cls := .type "list", dict := ld, data := .seq its nl, slots := ls } := Heap.get?_push_of_some _ atL
        have n1 := F.sub_list_set; have n2 := F.sub_list_frozenset; have n3 : (Value.type "list" == Value.type "dict") = false := by decide
        have isL2 : (s.heap.push (newS w)).IsList q its := ⟨_, atL2, rfl, nl, rfl⟩
        unfold Builtin.«set.__init__» noKeywords Builtin.Frozenset.updateFrom; generalize hPI : pyIter = PI
        wp_walk
        subst hPI
        refine wpAny_pyIter_list isL2 ?_; refine wpAny_bind (wpAny_runValue ?_)
        have ltL : q < s.heap.objs.size := Heap.lt_size atL
        have calm3 : A.in1.in1.in1.handled = none := by simp [calm]
        have neI : q ≠ (s.heap.push (newS w)).objs.size := by rw [Heap.size_push]; exact Nat.ne_of_lt (Nat.lt_succ_of_lt ltL)
        have offS : s.heap.objs.size ∉ [(s.heap.push (newS w)).objs.size, q] := by
          rw [Heap.size_push]; simp only [List.mem_cons, List.not_mem_nil, or_false, not_or]; exact ⟨Nat.ne_of_lt (Nat.lt_succ_self _), Nat.ne_of_gt ltL⟩
        have vals : ∀ (i : Nat) (v : Value), its[i]? = some v → ∃ k t, ms[i]? = some k ∧ v = .int k t := fun i v hv => by
          have lt : i < ms.length := by rw [← size]; exact (Array.getElem?_eq_some_iff.mp hv).1
          obtain ⟨t, e⟩ := PyProof.Rows.IntsAre.int_at are i v (by rw [Array.getElem?_toList]; exact hv)
          exact ⟨ms[i], t, List.getElem?_eq_getElem lt, by rw [e, List.getD_eq_getElem?_getD, List.getElem?_eq_getElem lt] <;> rfl⟩
        refine set_update_ints ((Walks.list calm3 _ q neI its).toS) s.heap.objs.size offS ms size few vals (its.size - 0) 0 _ (by omega) (Nat.zero_le _) ⟨⟨_, Heap.get?_push_size _ rfl, rfl, rfl⟩, (isL2.push _)⟩ ⟨0, Nat.le_refl 0, setR_new_at (Heap.get?_push_of_some _ atS)⟩ fun z3 c3 mv le3 R3 => ?_
        obtain ⟨hz, gz, dz, tz, oz⟩ := z3
        have eg : gz = s.gens := mv.gens; have ed : dz = s.drawn := mv.drawn; have eo : oz = s.os := mv.os
        subst eg; subst ed; subst eo
        show wpAny _ _ _ _ _ _
        refine wpAny_pure ?_; show wpAny _ _ (ret Value.none) _ _ _
        rw [size] at le3
        refine wpAny_pure ⟨rfl, hz, tz, c3, rfl, R3, le3, fun b o e => ?_⟩
        have lb : b < s.heap.objs.size := Heap.lt_size e
        exact mv.heap b o (by simp only [List.mem_cons, List.not_mem_nil, or_false, not_or]; exact ⟨Nat.ne_of_lt lb, by rw [Heap.size_push]; exact Nat.ne_of_lt (Nat.lt_succ_of_lt lb)⟩) (Heap.get?_push_of_some _ (Heap.get?_push_of_some _ e))
      · cases r2 with
        | error e => exact hr2
        | ok f2 =>
          cases f2 with
          | ret r =>
            obtain ⟨rfl, hz, tz, cz, rfl, a1, a2, a3⟩ := hr2
            repeat (any_goals (first | assumption | wp_step))
            exact fin _ _ _ a1 a2 a3
          | _ => exact hr2.elim
    | _ => exact hr.elim
end
section
variable {X : Cx}
def rSetL (K : PySem.W.Frag) (w : World) : List V → Hp → VK → Prop := fun xs H Q => ∃ (a : Addr) (ms : List Int), xs = [.ref a] ∧ SqL K H a (ms.map V.int) ∧ ms.length < 60 ∧ ∀ p n, n ≤ ms.length → H p = none → Q (.ref p) (upd H p (SetO w p (fun j => decide (j ∈ ms)) n))
theorem cr_setL (calm : X.calm = true) : CallR X (.type "set") (rSetL X.K X.w) := by
  intro pins s σ H xs us Q I r ⟨a, ms, e, hs, few, q⟩
  subst e
  obtain ⟨its, rv, ob, _⟩ := I.list hs
  rw [Vals.ref1 r]
  refine set_of_list ms (I.ok.hd calm) ob.isList rv.ints (by show _ < 4096; omega) fun hz tz cz R le keep => ?_
  exact ⟨.ref _, upd H s.heap.objs.size (SetO X.w s.heap.objs.size (fun j => decide (j ∈ ms)) cz), I.laid (t' := tz) keep (Nat.le_refl _) (setO_new R), rfl, q _ cz le (I.hok.fresh (Nat.le_refl _))⟩
end
end DT

set_option maxHeartbeats 4000000
namespace DL
open PySem PySem.Spec PyProof.Rows L2
variable [TabCtx]
/-! ### for a, b, c in a list of threes -/
def gFor3 (i1 i2 i3 : Nat) (Wi : WI) (G : WS) : WS := fun ds N R Z => Wi ds fun xs => ∃ I : Nat → Sl → Prop, I 0 ds ∧
  (∀ j x ds', xs[j]? = some x → I j ds' → ∃ a b c, x = .tup [a, b, c] ∧ G (((ds'.set i1 (some a)).set i2 (some b)).set i3 (some c)) (I (j + 1)) R Z) ∧ ∀ ds', I xs.length ds' → N ds'
def gForH3 (i1 i2 i3 : Nat) (Wi : WI) (G : WH) : WH := fun ds dv N R Z => Wi ds fun xs => ∃ I : Nat → Sl → List D → Prop, I 0 ds dv ∧
  (∀ j x ds' dv', xs[j]? = some x → I j ds' dv' → ∃ a b c, x = .tup [a, b, c] ∧ G (((ds'.set i1 (some a)).set i2 (some b)).set i3 (some c)) dv' (I (j + 1)) R Z) ∧ ∀ ds' dv', I xs.length ds' dv' → N ds' dv'
section
variable {X : Cx} {i i1 i2 i3 kk : Nat} {x1 x2 x3 : Str} {p1 p2 p3 tpos pos : Pos} {iter : Expr} {E : XK}
theorem ws_for3 {body : List Stmt} {G : WS} {Wi : WI} (hp : PassesOwn (model X.prog X.w) X.A X.env X.xe) (hc : X.calm = true) (hi : PI X (.Tuple [.Name x1 p1, .Name x2 p2, .Name x3 p3] kk tpos) iter (tIW Wi)) (h1 : PG X (.Name x1 p1) (gName i1)) (h2 : PG X (.Name x2 p2) (gName i2)) (h3 : PG X (.Name x3 p3) (gName i3)) (hb : PSs X body (tSW E G))
    (hs : ∀ x, foldedSetIterable iter X.env x = pure x := by intro _; rfl) : PS X (.For (.Tuple [.Name x1 p1, .Name x2 p2, .Name x3 p3] kk tpos) iter body [] pos) (tSW E (gFor3 i1 i2 i3 Wi G)) :=
  PS.weak (ps_for hp hc hi (pg_tup (n := 3) hc (pgs_cons h1 (pgs_cons h2 (pgs_cons h3 pgs_nil)))) hb hs) fun D σ H ⟨O, ds, N, R, Z, hS, hO, hG, hN, hR, hZ⟩ => ⟨O, ds, _, hS, hO, hG, fun xs ⟨I, g0, g1, g2⟩ J H1 e1 ⟨Gd, w, hGd⟩ => by
    refine for_it w (fun j σ2 H2 => ∃ ds', I j ds' ∧ SlD O H2 σ2 ds' ∧ Ext O H1 H2) ⟨ds, g0, hS.mono e1, .refl _ _⟩ (fun j σ2 H2 _ ⟨_, _, _, e2⟩ => hGd H2 e2.keep) ?_ ?_
    · rintro j x σ2 H2 H' hj ⟨ds', hI, hS2, e2⟩ ⟨rfl, d, hd, qd⟩
      have e3 := e1.trans e2
      obtain ⟨a, b, c, rfl, hg⟩ := g1 j d ds' hd hI
      have qd2 := qd.mono e2
      cases qd2 with
      | tup o r al =>
        cases al with
        | cons qa al =>
          cases al with
          | cons qb al =>
            cases al with
            | cons qc al =>
              cases al
              exact ⟨_, _, rfl, .inl r, rfl, _, _, rfl, _, _, rfl, _, _, rfl, rfl, O, _, I (j + 1), R, Z, ((hS2.set i1 qa).set i2 qb).set i3 qc, hO.mono e3, hg, fun d3 h3 σ3 H3 e4 s3 => ⟨d3, h3, s3, e2.trans e4⟩,
                fun d h v H3 e4 q => hR d h v H3 (e3.trans e4) q, fun C d h dx v H3 e4 q => hZ C d h dx v H3 (e3.trans e4) q⟩
    · rintro σ2 H2 ⟨ds', hI, hS2, e2⟩
      exact hN ds' (g2 ds' hI) σ2 H2 (e1.trans e2) hS2⟩
theorem hs_for3 {body : List Stmt} {G : WH} {Wi : WI} (n1 : i ≠ i1) (n2 : i ≠ i2) (n3 : i ≠ i3) (hp : PassesOwn (model X.prog X.w) X.A X.env X.xe) (hc : X.calm = true) (hi : PI X (.Tuple [.Name x1 p1, .Name x2 p2, .Name x3 p3] kk tpos) iter (tIW Wi)) (h1 : PG X (.Name x1 p1) (gName i1)) (h2 : PG X (.Name x2 p2) (gName i2)) (h3 : PG X (.Name x3 p3) (gName i3)) (hb : PSs X body (tHW E i G))
    (hs : ∀ x, foldedSetIterable iter X.env x = pure x := by intro _; rfl) : PS X (.For (.Tuple [.Name x1 p1, .Name x2 p2, .Name x3 p3] kk tpos) iter body [] pos) (tHW E i (gForH3 i1 i2 i3 Wi G)) :=
  PS.weak (ps_for hp hc hi (pg_tup (n := 3) hc (pgs_cons h1 (pgs_cons h2 (pgs_cons h3 pgs_nil)))) hb hs) fun D σ H ⟨O, p, vs, ds, dv, N, R, Z, op, hi, hd, hG, hN, hR, hZ⟩ => ⟨_, ds, _, hd.sl, hd.ow, hG, fun xs ⟨I, g0, g1, g2⟩ J H1 e1 ⟨Gd, w, hGd⟩ => by
    refine for_it w (fun k σ2 H2 => ∃ ds' dv' vs', I k ds' dv' ∧ ds'[i]? = some (some (.fn p)) ∧ Hd O p vs' H2 σ2 ds' dv' ∧ ExtH O p H1 H2) ⟨ds, dv, vs, g0, hi, hd.mono e1, .refl _ _ _⟩
      (fun k σ2 H2 _ ⟨_, _, _, _, _, _, e2⟩ => hGd H2 fun b o x h t => e2.keep b o x.hold_out x.hold_ne h t) ?_ ?_
    · rintro k x σ2 H2 H' hk ⟨ds', dv', vs', hI, hi', hd', e2⟩ ⟨rfl, d, hd0, qd⟩
      have x2 := (ExtH.of e1).trans e2
      have kk : ∀ b o, Out (O ++ [(p, Own.hold (HO.lst vs))]) b → H1 b = some o → NT o → H' b = some o := fun b o x h t => e2.keep b o x.hold_out x.hold_ne h t
      obtain ⟨a, b, c, rfl, hg⟩ := g1 k d ds' dv' hd0 hI
      have hi2 : (((ds'.set i1 (some a)).set i2 (some b)).set i3 (some c))[i]? = some (some (.fn p)) := by rw [List.getElem?_set_ne n3.symm, List.getElem?_set_ne n2.symm, List.getElem?_set_ne n1.symm]; exact hi'
      have qd2 := (qd.keep kk).rehold (o' := HO.lst vs')
      cases qd2 with
      | tup o r al =>
        cases al with
        | cons qa al =>
          cases al with
          | cons qb al =>
            cases al with
            | cons qc al =>
              cases al
              exact ⟨_, _, rfl, .inl r, rfl, _, _, rfl, _, _, rfl, _, _, rfl, rfl, O, p, vs', _, dv', I (k + 1), R, Z, op, hi2, ⟨((hd'.sl.set i1 qa).set i2 qb).set i3 qc, hd'.al, hd'.ow⟩, hg, fun ds3 dv3 h3 vs3 σ3 H3 e3 hi3 hd3 => ⟨ds3, dv3, vs3, h3, hi3, hd3, e2.trans e3⟩,
                fun d h v H3 e3 q => hR d h v H3 (x2.trans e3) q, fun C d h dx v H3 e3 ox => hZ C d h dx v H3 (x2.trans e3) ox⟩
    · rintro σ2 H2 ⟨ds', dv', vs', hI, hi', hd', e2⟩
      exact hN ds' dv' (g2 ds' dv' hI) vs' σ2 H2 ((ExtH.of e1).trans e2) hi' hd'⟩
end
end DL

set_option maxHeartbeats 4000000
namespace DL
open PySem PySem.Spec PyProof.Rows L2 DT C8
variable [TabCtx]
/-! ### a method's call that may raise -/
def tMethZ (C : Addr) (m : Str) (sp : Sp) (E : L2.St → XK) (ta : TE) (t : TA) : TE := fun σ H Q => ta σ H fun x H1 => ∃ a dx fs, x = .ref a ∧ H1 a = some (.ins C dx fs) ∧ fs.lookup m = none ∧ t σ H1 fun vs H2 => sp (x :: vs) H2 Q (E σ)
def wzMeth (C : Addr) (m : Str) (g : DSp) (Wo : WE) (A : WA) : WZ := fun ds P Z => Wo ds fun x => ∃ ns es0, x = .ins C ns es0 ∧ m ∉ ns ∧ A ds fun es => g (x :: es) P Z
section
variable {X : Cx} {k : Nat} {C f : Addr} {fd : FuncData} {ps : List Str} {m : Str} {apos pos : Pos} {o e : Expr} {es : List Expr} {Wo : WE} {A : WA} {g : DSp} {CX : CXT} {pl : Sem Bool} {sp : Sp} {ta : TE} {t : TA} {W : WX}
theorem pe_methZ {E : L2.St → XK} (he : PE X o ta) (c : Cls X.K C) (hm : Meth X.K C m f) (F : FnOk X.prog X.w X.K X.mg X.base CX k f fd ps sp) (hr : Room k X.A) (hb : Binds X.K fd ps []) (hx : ∀ σ, PassesAt CX X σ (E σ)) (ha : PA X (e :: es) t)
    (hst : starEach (e :: es) X.env = (false, eval e X.env) :: starEach es X.env := by rfl) (hpl : (backTo pos (starEach es X.env)).any (·.1) = false := by rfl)
    (ht : eval (.Call (.Attribute o m apos) (e :: es) [] pos) X.env = (do
      let it ← eval o X.env; standAt apos.atName; let (fn, first) ← holding [it] (getMethod it m pl)
      callWith pos fn first (backTo pos (starEach (e :: es) X.env)) (backToKw pos (keywordEach [] X.env))) := by rfl) :
    PE X (.Call (.Attribute o m apos) (e :: es) [] pos) (tMethZ C m sp E ta t) := by
  refine ⟨fun pins s σ H Q inv h => PySem.W.methodCall_KW (pl := pl) (thn (he.run pins s σ H _ inv h) fun u s1 ⟨x, H1, inv1, rx, a, dx, fs, ex, ea, l, q⟩ => ?_) ht⟩
  subst ex
  cases (show u = Value.ref a from rx)
  refine getmeth_ok inv1 ea c hm l (PySem.W.callWith_K (first := [.ref a]) (h₀ := X.base) inv1.ok.mod.kin hm.kp (thn (ha.run pos pins s1 σ H1 _ inv1 q) fun us s2 ⟨vs, H2, inv2, r, q2⟩ => ⟨inv2.kIn, ?_⟩) hst hpl)
  exact run_fnS (us := .ref a :: us) (vs := .ref a :: vs) F hr hb (hx σ) inv2 (.cons rfl r) q2
theorem we_zmeth (ho : PE X o (tW Wo)) (c : Cls X.K C) (hm : Meth X.K C m f) (F : FnOk X.prog X.w X.K X.mg X.base (L2.CX X.prog X.w) k f fd ps (spD g)) (hr : Room k X.A) (tk : Takes X W) (hb : Binds X.K fd ps []) (ha : PA X (e :: es) (tAW A))
    (hst : starEach (e :: es) X.env = (false, eval e X.env) :: starEach es X.env := by rfl) (hpl : (backTo pos (starEach es X.env)).any (·.1) = false := by rfl)
    (ht : eval (.Call (.Attribute o m apos) (e :: es) [] pos) X.env = (do
      let it ← eval o X.env; standAt apos.atName; let (fn, first) ← holding [it] (getMethod it m pl)
      callWith pos fn first (backTo pos (starEach (e :: es) X.env)) (backToKw pos (keywordEach [] X.env))) := by rfl) :
    PE X (.Call (.Attribute o m apos) (e :: es) [] pos) (tZW W (wzMeth C m g Wo A)) :=
  PE.weak (pe_methZ ho c hm F hr hb (fun σ => passAt tk σ) ha hst hpl ht) fun σ H Q ⟨O, ds, P, Z, hS, hO, hW, hP, hZ⟩ => ⟨O, ds, _, hS, hO, hW, fun x hx v H1 e1 q1 => by
    obtain ⟨ns, es0, rfl, hm, hA⟩ := hx
    cases q1 with
    | ins o1 r1 a1 =>
      exact ⟨_, _, _, rfl, r1, fld_none hm, O, ds, _, hS.mono e1, hO.mono e1, hA, fun es he vs H2 e2 q2 => ⟨O, _, P, Z, .cons ((Dq.ins o1 r1 a1).mono e2) q2, (hO.mono e1).mono e2, he,
        fun d hd v H3 e3 q3 => hP d hd v H3 ((e1.trans e2).trans e3) q3, fun C t z dx v H3 e3 ox hx q3 => hZ C t z dx v H3 ((e1.trans e2).trans e3) ox hx q3⟩⟩⟩
end
/-! ### isinstance(x, C), both answers -/
/-- nothing of these types is an instance of C -/
structure NoC (K : PySem.W.Frag) (C : Addr) : Prop where
  no : ∀ t ∈ (["NoneType", "bool", "int", "str", "list", "tuple", "dict"] : List String), PySem.W.kitOne K (.type t) (.ref C) = some false
def fIsC2 (C : Addr) : DFn := fun es P => ∃ d, es = [d, .fn C] ∧ match d with
  | .ins C' _ _ => C' = C ∧ P (.bl true)
  | d => (tyD d).isSome = true ∧ P (.bl false)
theorem tyD_in {d : D} {t : String} (h : tyD d = some t) : t ∈ (["NoneType", "bool", "int", "str", "list", "tuple", "dict"] : List String) := by
  cases d <;> simp only [tyD, Option.some.injEq, reduceCtorEq] at h <;> subst h <;> simp
theorem call_isC2 {X : Cx} {C : Addr} (c : InsC X.K C) (n : NoC X.K C) : CallR X (.builtin "isinstance") (rF (fIsC2 C)) := by
  intro pins s σ H xs us Q I r ⟨O, es, P, hq, hO, ⟨d, he, hd⟩, k⟩
  subst he
  cases hq with
  | cons q1 qr =>
    cases qr with
    | cons q2 qr2 =>
      cases qr2
      cases q2
      have other : (tyD d).isSome = true ∧ P (.bl false) → wpAny (model X.prog X.w) X.A (call (.builtin "isinstance") us) (EP X pins σ Q) X.xe s := fun ⟨h1, h2⟩ => by
        obtain ⟨t, ht⟩ := Option.isSome_iff_exists.mp h1
        exact call_isi pins s σ H _ us Q I r ⟨_, .ref C, .type t, .ref C, false, rfl, .own C, ty_of q1 ht, n.no t (tyD_in ht), k _ h2 _ H (.refl _ _) (.bl _)⟩
      cases d with
      | ins C' ns ds =>
        obtain ⟨rfl, p⟩ := hd
        cases q1 with
        | ins x1 r1 a1 => exact call_isC c pins s σ H _ us Q I r ⟨_, _, _, rfl, r1, k _ p _ H (.refl _ _) (.bl _)⟩
      | _ => exact other hd
/-! ### continue, at a turn's beginning -/
def tCt (t : TS) : TS := fun Dn σ H => (∀ σ H, Dn.nx σ H → Dn.ct σ H) ∧ t Dn σ H
section
variable {X : Cx} {E : XK} {i i1 i2 kk : Nat} {rest : List Stmt} {G : WH}
theorem hss_cont {c : Expr} {T : WT} {p1 p2 : Pos} (hc : PT X c (tTW T)) (hr : PSs X rest (tHW E i G)) : PSs X (.If c [.Continue p1] [] p2 :: rest) (tCt (tHW E i (gIfH i T gNextH G))) :=
  PSs.weak (pss_cons (ps_if hc (pss_one ps_continue) pss_nil) hr) fun D σ H ⟨hct, O, p, vs, ds, dv, N, R, Z, op, hi, hd, hG, hN, hR, hZ⟩ => ⟨O, _, _, hd.seen op hi, hd.ow.less, hG, fun b hb H1 e1 => by
    have hd1 := hd.free op e1
    have x1 : ExtH O p H H1 := .free e1
    cases b with
    | true =>
      rw [if_pos rfl] at hb
      exact hct _ _ (hN ds dv hb vs σ H1 x1 hi hd1)
    | false =>
      rw [if_neg Bool.false_ne_true] at hb
      show tHW E i G _ _ _
      exact ⟨O, p, vs, ds, dv, N, R, Z, op, hi, hd1, hb, fun ds2 dv2 h2 vs2 σ2 H2 e2 hi2 hd2 => hN ds2 dv2 h2 vs2 σ2 H2 (x1.trans e2) hi2 hd2, fun d h v H2 e2 q => hR d h v H2 (x1.trans e2) q, fun C d h dx v H2 e2 ox => hZ C d h dx v H2 (x1.trans e2) ox⟩⟩
theorem hs_forEC {x1 x2 : Str} {p1 p2 tpos p pos pf : Pos} {e : Expr} {body : List Stmt} {W : WE} (n1 : i ≠ i1) (n2 : i ≠ i2) (hp : PassesOwn (model X.prog X.w) X.A X.env X.xe) (hc : X.calm = true) (hg : Gl X "enumerate") (hm : X.mg "enumerate" = none) (he : PE X e (tW W))
    (h1 : PG X (.Name x1 p1) (gName i1)) (h2 : PG X (.Name x2 p2) (gName i2)) (hb : PSs X body (tCt (tHW E i G))) (hs : starEach [e] X.env = (false, eval e X.env) :: starEach [] X.env := by rfl) (hs1 : starEach [e] X.env = [(false, eval e X.env)] := by rfl)
    (hf : ∀ x, foldedSetIterable (.Call (.Name "enumerate" p) [e] [] pos) X.env x = pure x := by intro _; rfl) :
    PS X (.For (.Tuple [.Name x1 p1, .Name x2 p2] kk tpos) (.Call (.Name "enumerate" p) [e] [] pos) body [] pf) (tHW E i (gForEH i1 i2 W G)) :=
  PS.weak (ps_for hp hc (pi_enE hg hm he hs hs1) (pg_tup (n := 2) hc (pgs_cons h1 (pgs_cons h2 pgs_nil))) hb hf) fun D σ H ⟨O, p, ws, ds, dv, N, R, Z, op, hi, hd, hG, hN, hR, hZ⟩ => ⟨_, ds, _, hd.sl, hd.ow, hG, fun d hdd v H1 e1 q1 => by
    obtain ⟨xs, rfl, I, h0, hst, hend⟩ := hdd
    cases q1 with
    | @tup a vs _ ox rd al =>
      refine ⟨a, vs, rfl, .inl rd, ?_⟩
      have lw := al.length
      refine for_it walk_enE (fun j σ2 H2 => ∃ ds' dv' ws', I j ds' dv' ∧ ds'[i]? = some (some (.fn p)) ∧ Hd O p ws' H2 σ2 ds' dv' ∧ ExtH O p H1 H2) ⟨ds, dv, ws, h0, hi, hd.mono e1, .refl _ _ _⟩
        (fun j σ2 H2 _ ⟨_, _, _, _, _, _, e2⟩ => .inl (rd_keep (fun b o x h t => e2.keep b o x.hold_out x.hold_ne h t) ox rd)) ?_ ?_
      · rintro j v σ2 H2 H' hj ⟨ds', dv', ws', hI, hi', hd', e2⟩ ⟨T, x, rfl, hT, rfl, hx⟩
        have hj' : j < xs.length := by rw [← lw]; exact hj
        obtain ⟨u, eu, qu⟩ := al.get (i := j) (d := xs[j]) (by simp [hj'])
        rw [hx] at eu
        cases eu
        have en : Ext (O ++ [(p, Own.hold (HO.lst ws'))]) H2 (upd H2 T (.tup [.int (j : Nat), x])) := .new hT
        have hd2 := hd'.mono en
        have e3 := (ExtH.of e1).trans (e2.trans (.of en))
        have kk : ∀ b o, Out (O ++ [(p, Own.hold (HO.lst ws))]) b → H1 b = some o → NT o → upd H2 T (.tup [.int (j : Nat), x]) b = some o := fun b o x h t => en.keep b o (out_rehold x) (e2.keep b o x.hold_out x.hold_ne h t) t
        refine ⟨T, _, rfl, .inl (.of upd_same), rfl, _, _, rfl, _, _, rfl, rfl, fun _ _ h => h, ?_⟩
        refine ⟨O, p, ws', _, dv', I (j + 1), R, Z, op, ?_, ⟨(hd2.sl.set i1 (.int _)).set i2 ((qu.keep kk).rehold), hd2.al, hd2.ow⟩, hst j _ ds' dv' (by simp [hj']) hI, fun ds3 dv3 h3 ws3 σ3 H3 e5 hi3 hd3 => ⟨ds3, dv3, ws3, h3, hi3, hd3, e2.trans ((ExtH.of en).trans e5)⟩,
          fun d h v H3 e5 q => hR d h v H3 (e3.trans e5) q, fun C d h dx v H3 e5 ox => hZ C d h dx v H3 (e3.trans e5) ox⟩
        rw [List.getElem?_set_ne n2.symm, List.getElem?_set_ne n1.symm]
        exact hi'
      · rintro σ2 H2 ⟨ds', dv', ws', hI, hi', hd', e2⟩
        rw [lw] at hI
        exact hN ds' dv' (hend ds' dv' hI) ws' σ2 H2 ((ExtH.of e1).trans e2) hi' hd'⟩
/-! ### x[-1] = e, x held -/
def gStoreH (i : Nat) (W Wi : WE) : WH := fun ds dv N _ _ => W (seen i ds dv) fun d => noL d = true ∧ Wi (seen i ds dv) fun j => j = .int (-1) ∧ 0 < dv.length ∧ N ds (dv.set (dv.length - 1) d)
theorem hs_store {x : Str} {e ek : Expr} {W Wi : WE} {p1 p3 pa pu : Pos} (hx : PE X (.Name x p1) (tVar i)) (hei : PE X (.UnaryOp .USub ek pu) (tW Wi)) (he : PE X e (tW W))
    (hs2 : swapsWithSole [.Subscript (.Name x p1) (.UnaryOp .USub ek pu) p3] e pa.line X.env = pure false := by rfl) (hw : swappedStores [.Subscript (.Name x p1) (.UnaryOp .USub ek pu) p3] e X.env = pure none := by rfl) :
    PS X (.Assign [.Subscript (.Name x p1) (.UnaryOp .USub ek pu) p3] e pa) (tHW E i (gStoreH i W Wi)) :=
  PS.weak (ps_asg he (pg_sub hx hei set_list) hs2 hw) fun D σ H ⟨O, p, vs, ds, dv, N, R, Z, op, hi, hd, hG, hNx, hR, hZ⟩ => ⟨O, _, _, hd.seen op hi, hd.ow.less, hG, fun d ⟨h1, h2⟩ v H1 e1 q1 => by
    have hd1 := hd.free op e1
    obtain ⟨u, hu, qu⟩ := hd1.sl.val i _ hi
    cases qu
    refine ⟨_, hu, O, _, _, hd1.seen op hi, hd1.ow.less, h2, fun j hj vj H2 e2 q2 => ?_⟩
    obtain ⟨rfl, hpos, hn⟩ := hj
    cases q2
    have hd2 := hd1.free op e2
    refine ⟨p, vs, -1, vs.length - 1, rfl, rfl, hd2.at, ?_, ?_⟩
    · unfold ixN
      have := hd2.al.length
      rw [if_neg (by omega), if_pos (by omega)]
      congr 1
      omega
    · have l1 := hd2.al.length
      rw [l1]
      exact hNx ds _ hn _ σ _ ((ExtH.free (e1.trans e2)).trans (.put op (noCode_of hd2.at))) hi (hd2.store op _ ((q1.mono e2).held hd2.at h1))⟩
end
/-! ### sorted(set(xs)), whole numbers: a new list -/
def SortI (ms : List Int) (P : List D → Prop) : Prop := ∀ ks : List Int, ks.Pairwise (· < ·) → (∀ k, k ∈ ks ↔ k ∈ ms) → P (ks.map D.int)
def fwSortSet (W : WE) : WF := fun ds P => W ds fun d => ∃ es ms, d = .lst es ∧ intsOf es = some ms ∧ ms.length < 60 ∧ SortI ms P
theorem dq_ints {O : Ow} {H : Hp} : ∀ ks : List Int, DqAll O H (ks.map V.int) (ks.map D.int)
  | [] => .nil
  | k :: ks => .cons (.int k) (dq_ints ks)
theorem ints_len : ∀ {es : List D} {ms : List Int}, intsOf es = some ms → es.length = ms.length
  | [], _, h => by cases h; rfl
  | .int i :: es, ms, h => by
    simp only [intsOf, Option.map_eq_some_iff] at h
    obtain ⟨z, h1, rfl⟩ := h
    simp [ints_len h1]
  | .non :: _, _, h => by cases h
  | .bl _ :: _, _, h => by cases h
  | .str _ :: _, _, h => by cases h
  | .lst _ :: _, _, h => by cases h
  | .tup _ :: _, _, h => by cases h
  | .src _ :: _, _, h => by cases h
  | .fn _ :: _, _, h => by cases h
  | .exn _ _ _ :: _, _, h => by cases h
  | .sq _ _ :: _, _, h => by cases h
  | .ins _ _ _ :: _, _, h => by cases h
  | .dct _ _ :: _, _, h => by cases h
theorem fw_sortSet {X : Cx} {e : Expr} {W : WE} {p pos p2 pos2 : Pos} (calm : X.calm = true) (hg : Gl X "sorted") (hm : X.mg "sorted" = none) (hg2 : Gl X "set") (hm2 : X.mg "set" = none) (he : PE X e (tW W))
    (hs : starEach [e] X.env = (false, eval e X.env) :: starEach [] X.env := by rfl) (hpl : (backTo pos2 (starEach [] X.env)).any (·.1) = false := by rfl)
    (hs2 : starEach [.Call (.Name "set" p2) [e] [] pos2] X.env = (false, eval (.Call (.Name "set" p2) [e] [] pos2) X.env) :: starEach [] X.env := by rfl) (hpl2 : (backTo pos (starEach [] X.env)).any (·.1) = false := by rfl) :
    PE X (.Call (.Name "sorted" p) [.Call (.Name "set" p2) [e] [] pos2] [] pos) (tFW (fwSortSet W)) :=
  PE.weak (pe_callB (cr_sortedSet calm) hg hm DL.boot_sortedB (pa_cons (pe_callTy (cr_setL calm) hg2 hm2 (by decide +kernel) (pa_cons he pa_nil hs) (by decide) (by decide) hs hpl) pa_nil hs2) (by decide) (by decide) hs2 hpl2)
    fun σ H Q ⟨O, ds, P, hS, hO, hW, k⟩ => ⟨O, ds, _, hS, hO, hW, fun d hd v H1 e1 q1 => by
      obtain ⟨es, ms, rfl, hi, few, hP⟩ := hd
      cases q1 with
      | lst o r al =>
        have ev := ints_vs hi al
        subst ev
        refine ⟨_, ms, rfl, .inl (.of r), few, fun a n le na => ?_⟩
        have e2 : Ext O H1 (upd H1 a (SetO X.w a (fun j => decide (j ∈ ms)) n)) := .new na
        refine ⟨a, _, n, rfl, upd_same, by omega, fun ks p asc mem len np => ?_⟩
        have e3 : Ext O (upd H1 a (SetO X.w a (fun j => decide (j ∈ ms)) n)) (upd (upd H1 a (SetO X.w a (fun j => decide (j ∈ ms)) n)) p (.lst (ks.map V.int))) := .new np
        have O2 := (hO.mono e1).mono e2
        exact k _ (hP ks asc fun k => by rw [mem k]; simp) p _ _ (O2.out np) ((e1.trans e2).fresh hO np) ((e1.trans e2).trans e3) upd_same (dq_ints ks)⟩
/-! ### a new list as any other value -/
theorem fr_ok {P : Program} {w : World} {K : PySem.W.Frag} {mg : Str → Option Value} {base : Heap} {CX : CXT} {k : Nat} {f : Addr} {fd : FuncData} {ps : List Str} {g : List D → (List D → Prop) → Prop} (F : FnOk P w K mg base CX k f fd ps (spFr g)) :
    FnOk P w K mg base CX k f fd ps (spD fun es P _ => g es fun xs => P (.lst xs)) :=
  DL.FnOk.weak F fun vs H Q E ⟨O, es, P, Z, hq, hO, hg, hP, hZ⟩ => ⟨O, es, _, hq, hO, hg, fun ds pd p us H' op fr e hp q => hP _ pd (.ref p) H' e (.lst op hp q.less)⟩
end DL

set_option maxHeartbeats 4000000
namespace DL
open PySem PySem.Spec PyProof.Rows L2 LamX
variable [TabCtx]
/-! ### f(lambda: e), where f tells: try: call() / except C as n: return [w, repr(n.told)] .. / return [w0] -/
/-- what repr asks of data -/
def rept (t : D) : Prop := t.pl = true ∧ t.py.showable = true ∧ t.py.hasDict = false ∧ t.py.depth ≤ 60 ∧ t.py.shown.length ≤ sizeLine
/-- the first clause that meets C has the word w -/
inductive Hits (K : PySem.W.Frag) : List (Addr × Str) → Addr → Str → Prop
  | here {C : Addr} {w : Str} {cs : List (Addr × Str)} : PySem.W.exmOne K (.ref C) (.ref C) = some true → Hits K ((C, w) :: cs) C w
  | there {C C' : Addr} {w w' : Str} {cs : List (Addr × Str)} : PySem.W.exmOne K (.ref C) (.ref C') = some false → Hits K cs C w → Hits K ((C', w') :: cs) C w
def gFell (w : Str) (C : Addr) : Addr → Value → Option Addr → WS := fun a k d => gRet (wLst (waCons (wC (.str w)) (waCons (wCall fRepr (waCons (wTold a k d C (wVar 1)) waNil)) waNil)))
theorem fell_tsw {w : Str} {C a dd : Addr} {t : D} {O : Ow} {H : Hp} {σ : L2.St} {v : V} {Dn : Ends} (hs : σ.length = 2) (hO : OwnAll O H) (od : Out O dd) (hd : H dd = some (.xd [("told", v)])) (q : Dq O H v t) (hl : 2 ≤ sizeLine) (hr : rept t)
    (k : ∀ v2 H2, Ext O H H2 → Dq O H2 v2 (.lst [.str w, .str t.py.shown]) → Dn.rt v2 H2) : tSW (fun _ _ _ => False) (gFell w C a (.ref C) (some dd)) Dn (σ.set 1 (some (.ref a))) H := by
  refine ⟨O, [none, some (.exn a dd t)], fun _ => False, fun d => d = .lst [.str w, .str t.py.shown], fun _ _ => False, ⟨by rw [List.length_set, hs]; rfl, fun i d hd' => ?_⟩, hO, ?_, fun _ z => z.elim, fun d hd v2 H2 e2 q2 => k v2 H2 e2 (hd ▸ q2), fun _ _ z => z.elim⟩
  · match i, hd' with
    | 0, hd' => cases hd'
    | 1, hd' =>
      cases hd'
      exact ⟨_, List.getElem?_set_self (by omega), .exn od hd q⟩
    | i + 2, hd' => cases hd'
  · exact ⟨_, rfl, dd, t, rfl, rfl, rfl, hr.1, hr.2.1, hr.2.2.1, hr.2.2.2.1, hr.2.2.2.2, hl, rfl⟩
/-- the clauses' form -/
inductive Fells (K : PySem.W.Frag) (mg : Str → Option Value) (sg : Scope) (n : Str) : List ExceptHandler → List (Addr × Str) → Prop
  | last : Fells K mg sg n [] []
  | also {e w : Str} {C M : Addr} {j : Nat} {p q pr q1 q2 q3 q4 p4 q5 : Pos} {hs : List ExceptHandler} {cs : List (Addr × Str)} : sg.names.lookup e = some .globalImplicit → (e == ("__debug__" : Str)) = false → mg e = some (.ref C) → Ex2 K C M → Fells K mg sg n hs cs →
      Fells K mg sg n (.ExceptHandler (some (.Name e p)) (some n) [.Return (some (.List [.Constant (.str w) j q, .Call (.Name "repr" pr) [.Attribute (.Name n q3) "told" q4] [] q1] q2)) p4] q5 :: hs) ((C, w) :: cs)
def clauseOf (c : Addr × Str) : Clause := ⟨.ref c.1, 1, fun b k d => tSW (fun _ _ _ => False) (gFell c.2 c.1 b k d)⟩
section
variable {X : Cx} {x a n q w0 : Str} {sg : Scope} {g : Addr} {cdg : Value} {s : Shared} {H : Hp}
theorem fells_clauses (hn : sg.names.lookup n = some .local) (hrep : sg.names.lookup ("repr" : Str) = some .globalImplicit) (mrep : X.mg "repr" = none) (dn : (n == ("__debug__" : Str)) = false) (dc : (n == ("__classdict__" : Str)) = false) (hgd : X.A.guards = some []) (hu : X.A.units + 80 < cLine) :
    ∀ {hs : List ExceptHandler} {cs : List (Addr × Str)}, Fells X.K X.mg sg n hs cs → Clauses (cxOf C8.CX0 X.prog X.w X.K X.mg X.base [a, n] x sg g cdg X.A X.stack s H C8.E0).nox hs (cs.map clauseOf)
  | _, _, .last => .last
  | _, _, @Fells.also _ _ _ _ e w C M j p q' pr q1 q2 q3 q4 p4 q5 hs cs g1 d1 m1 T rest => by
    have hg1 : Gl (cxOf C8.CX0 X.prog X.w X.K X.mg X.base [a, n] x sg g cdg X.A X.stack s H C8.E0).nox e := g1
    refine .also ⟨hg1, d1, .inl m1⟩ rfl hn (fun b o k d pn hz hf => ?_) (fells_clauses hn hrep mrep dn dc hgd hu rest)
    show PSs _ _ (tSW (fun _ _ _ => False) (gRet (wLst (waCons (wC (.str w)) (waCons (wCall fRepr (waCons (wTold b k d C (wVar 1)) waNil)) waNil)))))
    exact wss_one (ws_ret (we_lst (wa_cons (we_c pe_str) (wa_cons (we_callB (call_fRepr hgd (show X.A.units + 3 + 64 < cLine by omega)) hrep mrep boot_reprB
      (wa_cons (we_told (X := (cxOf C8.CX0 X.prog X.w X.K X.mg X.base [a, n] x sg g cdg X.A X.stack s H C8.E0).nox) T hz hf (we_var (pe_var (i := 1) rfl (.inl (by exact hn)) dn dc))) wa_nil)) wa_nil))))
theorem asked_fell {K : PySem.W.Frag} {C dd : Addr} {t : D} {O : Ow} {H : Hp} {σ : L2.St} {v : V} {Dn : Ends} {w : Str} (hs : σ.length = 2) (hO : OwnAll O H) (od : Out O dd) (hd : H dd = some (.xd [("told", v)])) (q : Dq O H v t) (hl : 2 ≤ sizeLine) (hr : rept t) :
    ∀ {cs : List (Addr × Str)}, Hits K cs C w → (∀ v2 H2, Ext O H H2 → Dq O H2 v2 (.lst [.str w, .str t.py.shown]) → Dn.rt v2 H2) → asked K Dn (cs.map clauseOf) (.ref C) (some dd) σ H
  | _, .here e, k => ⟨true, e, fun z => (nomatch z), fun _ b _ => fell_tsw hs hO od hd q hl hr k⟩
  | _, .there e h, k => ⟨false, e, fun _ => asked_fell hs hO od hd q hl hr h k, fun z => (nomatch z)⟩
/-- an exception of the lambda, told behind it -/
def ToldF (K : PySem.W.Frag) (cs : List (Addr × Str)) (Q : VK) : XK := fun k dx H => ∃ (O : Ow) (C dd : Addr) (v : V) (t : D) (w : Str), k = .ref C ∧ dx = some dd ∧ OwnAll O H ∧ Out O dd ∧ H dd = some (.xd [("told", v)]) ∧ Dq O H v t ∧ Hits K cs C w ∧ 2 ≤ sizeLine ∧ rept t ∧
  ∀ v2 H2, Ext O H H2 → Dq O H2 v2 (.lst [.str w, .str t.py.shown]) → Q v2 H2
def TTF (K : PySem.W.Frag) (cs : List (Addr × Str)) (w0 : Str) : (XK → Hp → VK → Prop) → Hp → VK → Prop := fun tl H Q => tl (ToldF K cs Q) H fun v H1 => 1 ≤ sizeLine ∧ ∀ p, H1 p = none → Q (.ref p) (upd H1 p (.lst [.str w0]))
theorem fells_gives {hd1 : ExceptHandler} {hs : List ExceptHandler} {cs : List (Addr × Str)} {j0 : Nat} {p0 p1 p2 p9 q0 q1 q2 : Pos} (an : ([a, n] : List Str).Nodup) (hn : sg.names.lookup n = some .local) (hrep : sg.names.lookup ("repr" : Str) = some .globalImplicit) (mrep : X.mg "repr" = none)
    (dn : (n == ("__debug__" : Str)) = false) (dc : (n == ("__classdict__" : Str)) = false) (hgd : X.A.guards = some []) (hu : X.A.units + 80 < cLine) (hF : Fells X.K X.mg sg n (hd1 :: hs) cs)
    (hw : ∀ (s : Shared) (H : Hp), swapsWith (.Call (.Name a p0) [] [] p1) none p2.line (cxOf C8.CX0 X.prog X.w X.K X.mg X.base [a, n] x sg g cdg X.A X.stack s H C8.E0).nox.env = pure false) :
    GivesTo X [a, n] x sg g cdg [.Try [.Expr (.Call (.Name a p0) [] [] p1) p2] (hd1 :: hs) [] [] p9, .Return (some (.List [.Constant (.str w0) j0 q0] q1)) q2] a q (TTF X.K cs w0) := by
  intro f c' s H Q tl act hc h
  refine ⟨_, pss_cons (ps_clauses (X := (cxOf C8.CX0 X.prog X.w X.K X.mg X.base [a, n] x sg g cdg X.A X.stack s H C8.E0).nox) (cs := cs.map clauseOf)
      (tb := fun W D σ H => ∃ Ech : XK, (∀ cls d σ' H', Ech cls d H' → σ'.length = 2 → W cls d σ' H') ∧ σ[0]? = some (some (.ref f)) ∧ H c' = some (CodeO c' q) ∧ tl Ech H fun v H1 => D.nx σ H1)
      rfl rfl an (fun W pn xe tk => ⟨fun pins s' σ H' D I h' => ?_⟩) (fells_clauses hn hrep mrep dn dc hgd hu hF)) (pss_one (ps_ret (pe_lst (pa_cons (pe_str (j := j0) (pos := q0)) pa_nil)))), ?_⟩
  · obtain ⟨Ech, hW, h1, h2, h3⟩ := h'
    have hp := act (fun k d σ H => σ.length = 2 → W k d σ H) pn xe Ech p0 p1 (takes_len tk) hW
    exact (pss_one (ps_expr (pos := p2) hp (hw s H))).run pins s' σ H' D I ⟨h1, h2, h3⟩
  · refine ⟨ToldF X.K cs Q, fun k dx σ' H' hx len => ?_, rfl, hc, h⟩
    obtain ⟨O, C, dd, v, t, w, rfl, rfl, hO, od, hd, qt, hw, hl, hr, kk⟩ := hx
    exact asked_fell len hO od hd qt hl hr hw kk
end
/-- f(lambda: e): B is e's reading -/
def wFell (K : PySem.W.Frag) (cs : List (Addr × Str)) (w0 : Str) (B : WZ) : WE := fun ds P => B ds (fun _ => P (.lst [.str w0])) fun C t => ∃ w, Hits K cs C w ∧ rept t ∧ P (.lst [.str w, .str t.py.shown])
theorem we_fell {X : Cx} {x a : Str} {g c P : Addr} {cs : List (Addr × Str)} {w0 : Str} {k : Nat} {pg : Arguments} {bg : List Stmt} {sg : Scope} {dV kV doc pm cdv ct oc : Value} {an od : Option Addr} {osl : Array (Option Value)} {Ng : List Str} {params : Arguments} {body : Expr} {scope : Scope} {B : WZ} {p lpos pos : Pos}
    (hg : Gl X x) (hm : X.mg x = some (.ref g)) (hk : PySem.W.keepIn X.K (.ref g) = true) (lk : X.K.lookup g = some ⟨oc, od, .func (PySem.W.fnOf x x pg bg sg dV kV doc pm an cdv ct), osl⟩) (hcg : PySem.W.codeIn X.K cdv x = true) (hb : Binds X.K (PySem.W.fnOf x x pg bg sg dV kV doc pm an cdv ct) [a] []) (Sg : FnScope Ng [a] sg)
    (hNg : Ng[0]? = some a) (hva : Vis sg a) (hG : GivesTo X Ng x sg g cdv bg a (X.env.qual ++ "<lambda>") (TTF X.K cs w0)) (TB : TabB X.base X.mg c P) (hcode : X.env.code = .ref c) (hmT : (P, X.env.qual ++ "<lambda>") ∈ TabCtx.T) (hu : ∀ p ∈ TabCtx.T, p.1 = P → p.2 = X.env.qual ++ "<lambda>") (hr : Room (k + 2) X.A)
    (L : LamS X.env.scope scope) (hdef : defaultsOf params X.env = ([], [])) (hbind : ∀ (q : Str) (cl : List (Str × Addr)) (pm cv ctv : Value), bindArgs (PySem.W.kla_fn "<lambda>" q params body scope cl pm cv ctv) ⟨[], []⟩ = pure [])
    (hbody : ∀ (A : Around) (outer : List Env) (s : Shared) (H : Hp) (E : XK) (f c' : Addr), Room k (A.deeper (lamEnv X scope s.heap.objs.size f c')) → PE (lamCx X A outer s H E scope f c') body (tZW (fun cls d _ H' => E cls d H') B))
    (hdb : (x == ("__debug__" : Str)) = false := by decide) (hd : (a == ("__debug__" : Str)) = false := by decide) (hcd : (a == ("__classdict__" : Str)) = false := by decide) :
    PE X (.Call (.Name x p) [.Lambda params body scope lpos] [] pos) (tW (wFell X.K cs w0 B)) :=
  PE.weak (pe_lamcall (T := TabCtx.T) (t := fun E => tZW (fun cls d _ H' => E cls d H') B) hg hm hk lk hcg hb Sg hNg hva hG TB hcode hmT hu hr L hdef hbind hbody hdb hd hcd) fun σ H Q ⟨O, ds, P, hS, hO, hW, kk⟩ => ⟨own_tabs hO, fun H1 eN T1 => by
    have e1 := ext_of eN T1 hO
    have O1 := hO.mono e1
    exact ⟨O, ds, _, _, hS.mono e1, O1, hW, fun d hd v H2 e2 q2 => ⟨line_big (by omega), fun q hq => kk _ hd _ _ ((e1.trans e2).trans (.new hq)) (.lst ((O1.mono e2).out hq) upd_same (.cons (.str _) .nil))⟩,
      fun C t ⟨w, hh, hr, hp⟩ dx v H2 e2 ox hx q2 => ⟨O, C, dx, v, t, w, rfl, rfl, O1.mono e2, ox, hx, q2, hh, sizeTwo, hr, fun v2 H3 e3 q3 => kk _ hp v2 H3 ((e1.trans e2).trans e3) q3⟩⟩⟩
end DL

set_option maxHeartbeats 4000000
namespace DL
open PySem PySem.Spec PyProof.Rows L2
variable [TabCtx]
/-! ### k in a list of whole numbers -/
omit [TabCtx] in
theorem inV_int (k : Int) : ∀ ms : List Int, inV (.int k) (ms.map V.int) = decide (k ∈ ms)
  | [] => rfl
  | m :: ms => by
    have ih := inV_int k ms
    unfold inV at ih ⊢
    rw [List.map_cons, List.any_cons, ih]
    show ((m == k) || decide (k ∈ ms)) = decide (k ∈ m :: ms)
    by_cases e : m = k
    · subst e; simp
    · have h1 : (m == k) = false := beq_eq_false_iff_ne.mpr e
      have h2 : k ≠ m := fun z => e z.symm
      simp [h1, h2]
omit [TabCtx] in
theorem flat_ints : ∀ ms : List Int, (ms.map V.int).all flatV = true
  | [] => rfl
  | m :: ms => by rw [List.map_cons, List.all_cons, flat_ints ms]; rfl
def dInI : DOp := fun x y P => ∃ k es ms, x = .int k ∧ y = .lst es ∧ intsOf es = some ms ∧ P (.bl (decide (k ∈ ms)))
theorem op_dInI {X : Cx} : OpR X (compareOp .In) (rD dInI) := by
  intro pins s σ H x y v u Q I rx ry ⟨O, dx, dy, P, qx, qy, hO, hg, k⟩
  obtain ⟨j, es, ms, rfl, rfl, h1, hp⟩ := hg
  cases qx
  cases qy with
  | lst x2 r2 a2 =>
    have e := ints_vs h1 a2
    subst e
    exact op_in_seq pins s σ H _ _ v u Q I rx ry ⟨_, _, rfl, .inl (.of r2), rfl, flat_ints _, k _ hp _ H (.refl _ _) (by rw [if_neg Bool.false_ne_true, inV_int]; exact .bl _)⟩
/-! ### a def whose code object is known, where nothing is being written -/
section
variable {P : Program} {w : World} {K : PySem.W.Frag} {mg : Str → Option Value} {base : Heap}
theorem fnG_okC {x qual : Str} {st : Stmt} {f c : Addr} {fd : FuncData} {N ps : List Str} {k : Nat} {g : DFn} (F : Fun K x qual st f fd) (hc : fd.code = .ref c) (S : FnScope N ps (defScope st)) (len : ∀ es P, g es P → es.length = ps.length)
    (hbody : ∀ (A : Around) (outer : List Env) (s : Shared) (H : Hp) (E : XK), A.guards = some [] → Room k (A.deeper (envOfC qual (defScope st) s.heap.objs.size f (.ref c))) →
      ∃ G, PSs (cxOf CX0 P w K mg base N qual (defScope st) f (.ref c) A outer s H E).nox (defBody st) (tSW (fun _ _ _ => False) G) ∧ ∀ es P, g es P → G (startD N es) (fun _ => P .non) P fun _ _ => False) :
    FnG P w K mg base CX0 (k + 1) f fd ps (spD fun es P _ => g es P) := by
  obtain ⟨oc, od, kV, doc, pm, an, cdv, ct, osl, rfl, lk, hcd⟩ := F.ex
  have hc' : cdv = .ref c := hc
  subst hc'
  have hlen : ∀ vs H Q E, spD (fun es P _ => g es P) vs H Q E → vs.length = ps.length := fun vs H Q E ⟨O, es, P, Z, hq, hO, hg, _⟩ => by rw [hq.length]; exact len _ _ hg
  refine ⟨hlen, fun A outer s H ar us vs Q E hgd hr ev hbd hvs hsp => ?_⟩
  have kin : K.In s.heap := ev.mod.kin.keeps fun b u z => (ev.bs b u z).1
  have nol : s.heap.NoLimit := ev.mod.nolimit.keeps fun b u z => (ev.bs b u z).1
  refine codeAny_call_function hr.depth (kin _ _ lk) rfl S.co S.gen rfl (PySem.W.codeRec_of kin hcd) (hbd _ _ _ _ ?_)
  refine wpAny_newFunctionEnv_cells S.kind (fun y hy => ?_) fun env he s1 ic => ?_
  · rcases S.par y.1 (List.of_mem_zip (a := y.1) (b := y.2) hy).1 with z | z
    · exact .inl z
    · exact .inr ⟨z, PySem.W.cellsFrom_some _ _ _ (.inl z)⟩
  · subst he
    refine ⟨nol.keeps ic.toInCall.keep, codeAny_func ?_⟩
    obtain ⟨G, h1, h2⟩ := hbody A outer s H E hgd (hr.deeper _)
    obtain ⟨O, es, P, Z, hq, hO, hg, hP, hZ⟩ := id hsp
    have J : Inv (cxOf CX0 _ w K mg base N qual (defScope st) f (.ref c) A outer s H E) [] (L2.start N vs) H s1 := inv_start S hr.hd ev (hlen _ _ _ _ hsp) hvs ic
    refine wpAny_mono (h1.nox.run [] s1 (L2.start N vs) H _ J (show tSW (fun _ _ _ => False) G { nx := fun _ H' => Q .non H', rt := Q } (L2.start N vs) H from
      ⟨O, startD N es, _, P, _, start_sl hq, hO, h2 es P hg, fun ds' hd σ' H' e1 _ => hP _ hd _ H' e1 .non, hP, fun _ _ z => z.elim⟩)) (fun fl s' z => ?_) fun _ _ z => z
    cases fl with
    | ret u =>
      obtain ⟨v, σ', H', J', rv, q'⟩ := z
      exact ⟨v, H', J'.os, J'.bare, J'.base, J'.hok, rv, q'⟩
    | next =>
      obtain ⟨σ', H', J', q'⟩ := z
      exact ⟨V.non, H', J'.os, J'.bare, J'.base, J'.hok, rfl, q'⟩
    | brk =>
      obtain ⟨_, _, _, q'⟩ := z
      exact q'.elim
    | cont =>
      obtain ⟨_, _, _, q'⟩ := z
      exact q'.elim
end
end DL

set_option maxHeartbeats 4000000
namespace DL
open PySem PySem.Spec PyProof.Rows L2
variable [TabCtx]
theorem accF_cut {i : Nat} {W : WF} {F : WHF} {ds : Sl} {R : List D → Prop} (S : List D → Prop) (hi : i < ds.length) (h1 : ∀ Q' : List D → Prop, (∀ x, S x → Q' x) → W ds Q') (h2 : ∀ x, S x → ∀ p, F (ds.set i (some (.fn p))) x R) : gAccF i W F ds R :=
  ⟨hi, h1 _ fun x hx p => h2 x hx p⟩
theorem seqHF_cut {G : WH} {F : WHF} {ds : Sl} {dv : List D} {R : List D → Prop} (S : Sl → List D → Prop) (h1 : ∀ N' : Sl → List D → Prop, (∀ ds dv, S ds dv → N' ds dv) → G ds dv N' (fun _ => False) fun _ _ => False) (h2 : ∀ ds dv, S ds dv → F ds dv R) : gSeqHF G F ds dv R :=
  h1 _ h2
theorem seqF_cut {G : WS} {F : WSF} {ds : Sl} {R : List D → Prop} (S : Sl → Prop) (h1 : ∀ N' : Sl → Prop, (∀ ds, S ds → N' ds) → G ds N' (fun _ => False) fun _ _ => False) (h2 : ∀ ds, S ds → F ds R) : gSeqF G F ds R := h1 _ h2
theorem forEH_of {i1 i2 : Nat} {W : WE} {G : WH} {ds : Sl} {dv : List D} {N : Sl → List D → Prop} {R : D → Prop} {Z : Addr → D → Prop} (xs : List D) (hW : ∀ Q : D → Prop, Q (.tup xs) → W ds Q) (I : Nat → Sl → List D → Prop) (h0 : I 0 ds dv)
    (step : ∀ (k : Nat) ds' dv' (hk : k < xs.length), I k ds' dv' → ∀ N' : Sl → List D → Prop, (∀ ds dv, I (k + 1) ds dv → N' ds dv) → G ((ds'.set i1 (some (.int (k : Int)))).set i2 (some xs[k])) dv' N' R Z)
    (last : ∀ ds' dv', I xs.length ds' dv' → N ds' dv') : gForEH i1 i2 W G ds dv N R Z := by
  unfold gForEH
  refine hW _ ⟨xs, rfl, I, h0, fun j x ds' dv' hx hI => ?_, last⟩
  obtain ⟨h1, h2⟩ := List.getElem?_eq_some_iff.mp hx
  subst h2
  exact step j ds' dv' h1 hI _ fun _ _ h => h
theorem forE_of {i1 i2 : Nat} {W : WE} {G : WS} {ds : Sl} {N : Sl → Prop} {R : D → Prop} {Z : Addr → D → Prop} (xs : List D) (hW : ∀ Q : D → Prop, Q (.tup xs) → W ds Q) (I : Nat → Sl → Prop) (h0 : I 0 ds)
    (step : ∀ (k : Nat) ds' (hk : k < xs.length), I k ds' → ∀ N' : Sl → Prop, (∀ ds, I (k + 1) ds → N' ds) → G ((ds'.set i1 (some (.int (k : Int)))).set i2 (some xs[k])) N' R Z)
    (last : ∀ ds', I xs.length ds' → N ds') : gForE i1 i2 W G ds N R Z := by
  unfold gForE
  refine hW _ ⟨xs, rfl, I, h0, fun j x ds' hx hI => ?_, last⟩
  obtain ⟨h1, h2⟩ := List.getElem?_eq_some_iff.mp hx
  subst h2
  exact step j ds' h1 hI _ fun _ h => h
theorem forH3_of {i1 i2 i3 : Nat} {Wi : WI} {G : WH} {ds : Sl} {dv : List D} {N : Sl → List D → Prop} {R : D → Prop} {Z : Addr → D → Prop} (xs : List D) (hW : ∀ Q : List D → Prop, Q xs → Wi ds Q) (I : Nat → Sl → List D → Prop) (h0 : I 0 ds dv)
    (step : ∀ (k : Nat) ds' dv' (hk : k < xs.length), I k ds' dv' → ∀ N' : Sl → List D → Prop, (∀ ds dv, I (k + 1) ds dv → N' ds dv) → ∃ a b c, xs[k] = .tup [a, b, c] ∧ G (((ds'.set i1 (some a)).set i2 (some b)).set i3 (some c)) dv' N' R Z)
    (last : ∀ ds' dv', I xs.length ds' dv' → N ds' dv') : gForH3 i1 i2 i3 Wi G ds dv N R Z := by
  unfold gForH3
  refine hW _ ⟨I, h0, fun j x ds' dv' hx hI => ?_, last⟩
  obtain ⟨h1, h2⟩ := List.getElem?_eq_some_iff.mp hx
  subst h2
  exact step j ds' dv' h1 hI _ fun _ _ h => h
theorem for3_of {i1 i2 i3 : Nat} {Wi : WI} {G : WS} {ds : Sl} {N : Sl → Prop} {R : D → Prop} {Z : Addr → D → Prop} (xs : List D) (hW : ∀ Q : List D → Prop, Q xs → Wi ds Q) (I : Nat → Sl → Prop) (h0 : I 0 ds)
    (step : ∀ (k : Nat) ds' (hk : k < xs.length), I k ds' → ∀ N' : Sl → Prop, (∀ ds, I (k + 1) ds → N' ds) → ∃ a b c, xs[k] = .tup [a, b, c] ∧ G (((ds'.set i1 (some a)).set i2 (some b)).set i3 (some c)) N' R Z)
    (last : ∀ ds', I xs.length ds' → N ds') : gFor3 i1 i2 i3 Wi G ds N R Z := by
  unfold gFor3
  refine hW _ ⟨I, h0, fun j x ds' hx hI => ?_, last⟩
  obtain ⟨h1, h2⟩ := List.getElem?_eq_some_iff.mp hx
  subst h2
  exact step j ds' h1 hI _ fun _ h => h
theorem for_of {i : Nat} {Wi : WI} {G : WS} {ds : Sl} {N : Sl → Prop} {R : D → Prop} {Z : Addr → D → Prop} (xs : List D) (hW : ∀ Q : List D → Prop, Q xs → Wi ds Q) (I : Nat → Sl → Prop) (h0 : I 0 ds)
    (step : ∀ (k : Nat) ds' (hk : k < xs.length), I k ds' → ∀ N' : Sl → Prop, (∀ ds, I (k + 1) ds → N' ds) → G (ds'.set i (some xs[k])) N' R Z)
    (last : ∀ ds', I xs.length ds' → N ds') : gFor i Wi G ds N R Z := by
  unfold gFor
  refine hW _ ⟨I, h0, fun j x ds' hx hI => ?_, last⟩
  obtain ⟨h1, h2⟩ := List.getElem?_eq_some_iff.mp hx
  subst h2
  exact step j ds' h1 hI _ fun _ h => h
theorem forH_of {i : Nat} {Wi : WI} {G : WH} {ds : Sl} {dv : List D} {N : Sl → List D → Prop} {R : D → Prop} {Z : Addr → D → Prop} (xs : List D) (hW : ∀ Q : List D → Prop, Q xs → Wi ds Q) (I : Nat → Sl → List D → Prop) (h0 : I 0 ds dv) (hn : ∀ k ds dv, I k ds dv → ds[i]? ≠ none)
    (step : ∀ (k : Nat) ds' dv' (hk : k < xs.length), I k ds' dv' → ∀ N' : Sl → List D → Prop, (∀ ds dv, I (k + 1) ds dv → N' ds dv) → G (ds'.set i (some xs[k])) dv' N' R Z)
    (last : ∀ ds' dv', I xs.length ds' dv' → N ds' dv') : gForH i Wi G ds dv N R Z := by
  unfold gForH
  refine hW _ ⟨I, h0, fun j x ds' dv' hx hI => ⟨hn _ _ _ hI, ?_⟩, last⟩
  obtain ⟨h1, h2⟩ := List.getElem?_eq_some_iff.mp hx
  subst h2
  exact step j ds' dv' h1 hI _ fun _ _ h => h
end DL

set_option maxHeartbeats 4000000
namespace DL
open PySem PySem.Spec PyProof.Rows L2
variable [TabCtx]
/-- data that may be compared and written -/
structure Rp (d : D) : Prop where
  eq : okEq d
  re : rept d
theorem Rp.sm {d : D} (h : Sm d) : Rp d := ⟨h.okEq, by
  have w := wr_of 3 d h
  refine ⟨w.pl, w.sh, w.nd, by have := w.dep; omega, ?_⟩
  have := w.sz
  rw [sizeLine_eq]
  have e : bsz 3 = 436396 := by decide
  omega⟩
theorem Rp.lst {xs : List D} (h : ∀ x ∈ xs, gs 2 x = true) (l : xs.length ≤ 100) : Rp (.lst xs) := by
  obtain ⟨b1, b2, b3, b4, b5, b6⟩ := wr_all (wr_of 2) xs h
  have p1 : (D.lst xs).pl = true := by simp [D.pl, b1]
  have lay : (D.lst xs).py.canLay0 = true := by simp [D.py, PyData.canLay0, b2]
  have dep : (D.lst xs).py.depth ≤ 3 := by simp only [D.py, PyData.depth]; omega
  have sz : (D.lst xs).py.shown.length ≤ 4000000 := by
    have h1 := listText_le (PyData.shownAll (D.pys xs))
    have h2 := Nat.mul_le_mul_right (bsz 2 + 2) l
    have e : bsz 2 = 36364 := by decide
    rw [e] at h2 b6
    simp only [D.py, PyData.shown]
    omega
  refine ⟨⟨p1, ?_⟩, p1, by simp [D.py, PyData.showable, b4], by simp [D.py, PyData.hasDict, b5], by omega, ?_⟩
  · unfold SeqAt.shaped
    rw [lay, decide_eq_true (by omega)]
    rfl
  · rw [sizeLine_eq]
    omega
theorem Rp.lt {d : D} (h : Rp d) : eqD d d = true := eqD_self h.eq
end DL

set_option maxHeartbeats 4000000
namespace DL
open PySem PySem.Spec PyProof.Rows L2
variable [TabCtx]
/-! ### a def that hands back the list that it holds -/
def tHG (i : Nat) (G : WHF) : TS := fun Dn σ H => ∃ (O : Ow) (p : Addr) (vs : List V) (ds : Sl) (dv : List D) (R : List D → Prop), Out O p ∧ ds[i]? = some (some (.fn p)) ∧ Hd O p vs H σ ds dv ∧ G ds dv R ∧
  ∀ es, R es → ∀ us H', ExtH O p H H' → H' p = some (.lst us) → DqAll (O ++ [(p, .hold (.lst us))]) H' us es → Dn.rt (.ref p) H'
def gRetG : WHF := fun _ dv R => R dv
section
variable {X : Cx} {E : XK} {st : Stmt} {rest : List Stmt} {G1 : WH} {W : WF} {i : Nat} {e : Expr}
theorem hg_cons {FH : WHF} (h1 : PS X st (tHW E i G1)) (h2 : PSs X rest (tHG i FH)) : PSs X (st :: rest) (tHG i (gSeqHF G1 FH)) :=
  PSs.weak (pss_cons h1 h2) fun D σ H ⟨O, p, vs, ds, dv, R, op, hi, hd, hG, hR⟩ => ⟨O, p, vs, ds, dv, _, _, _, op, hi, hd, hG, fun ds' dv' h vs' σ' H' e hi' hd' =>
    ⟨O, p, vs', ds', dv', R, op, hi', hd', h, fun es he us H2 e2 hp q => hR es he us H2 (e.trans e2) hp q⟩, fun _ z => z.elim, fun _ _ z => z.elim⟩
theorem hg_ret {x : Str} {p1 pos : Pos} (hx : PE X (.Name x p1) (tVar i)) : PSs X [.Return (some (.Name x p1)) pos] (tHG i gRetG) :=
  PSs.weak (pss_one (ps_ret hx)) fun D σ H ⟨O, p, vs, ds, dv, R, op, hi, hd, hG, hR⟩ => by
    obtain ⟨v, hv, q⟩ := hd.sl.val i _ hi
    cases q
    exact ⟨_, hv, hR dv hG vs H (.refl _ _ _) hd.at hd.al⟩
theorem sg_acc {x : Str} {F : WHF} {pos pos' : Pos} (hN : X.N.Nodup) (hi : X.N[i]? = some x) (hx : Loc X.env.scope x) (he : PE X e (tFW W)) (hr : PSs X rest (tHG i F)) (hs : swapsWith e (some (.Name x pos')) pos.line X.env = pure false := by rfl)
    (hf : X.fn x = true ∨ X.env.scope.names.lookup x = some .local := by first | exact .inl rfl | exact .inr rfl) : PSs X (.Assign [.Name x pos'] e pos :: rest) (tSF (gAccF i W F)) :=
  PSs.weak (pss_cons (ps_set hN hi hx he hs hf) hr) fun D σ H ⟨O, ds, R, hS, hO, ⟨hl, hG⟩, hR⟩ => ⟨O, ds, _, hS, hO, hG, fun es hes p vs H' op np e1 hp hq => by
    have kk : ∀ b o, Out (O ++ [(p, Own.hold (HO.lst vs))]) b → H b = some o → NT o → H' b = some o := fun b o x hh t => e1.keep b o x.hold_out hh t
    exact ⟨O, p, vs, ds.set i (some (.fn p)), es, R, op, List.getElem?_set_self hl, ⟨((hS.more np).keep kk).set i (.fn p), hq, OwnAll.hold (hO.mono e1) op hp⟩, hes p,
      fun es he us H2 e2 hp2 q => hR es he p us H2 op np (e2.drop e1 np) hp2 q⟩⟩
end
end DL

set_option maxHeartbeats 2000000
namespace K07
open PySem PySem.Spec PyProof.Rows L2 DL
def top (i : Nat) : Stmt := PySem.Challenge.pw_plainmoment_k07_stretches_told.main.body.getD i (.Pass ⟨0, 0, 0, 0⟩)
abbrev s_wall : Stmt := top 0
abbrev s_is_number : Stmt := top 3
abbrev s_is_within : Stmt := top 4
abbrev s_is_value : Stmt := top 5
abbrev s_is_name : Stmt := top 6
abbrev s_is_listed : Stmt := top 7
abbrev s_is_tuple_of : Stmt := top 8
abbrev s_is_op : Stmt := top 19
abbrev s_is_operand : Stmt := top 20
abbrev s_is_row_index : Stmt := top 21
abbrev s_is_set : Stmt := top 22
abbrev s_is_call : Stmt := top 23
abbrev s_are_operands : Stmt := top 24
abbrev s_is_pair_row : Stmt := top 25
abbrev s_is_row : Stmt := top 26
abbrev s_operands_of : Stmt := top 27
abbrev s_set_by : Stmt := top 28
abbrev s_are_parameters : Stmt := top 31
abbrev s_is_led_within : Stmt := top 32
abbrev s_are_rows : Stmt := top 33
abbrev s_is_procedure : Stmt := top 34
abbrev s_first_wrong_procedure : Stmt := top 35
abbrev s_first_wrong_caller : Stmt := top 36
abbrev s_variables : Stmt := top 37
abbrev s_need_program : Stmt := top 39
abbrev s_need_procedure : Stmt := top 40
abbrev s_need_spot : Stmt := top 41
abbrev s_is_plain : Stmt := top 43
abbrev s_ubeginnings : Stmt := top 44
abbrev s_beginnings : Stmt := top 45
abbrev s_stretches_within : Stmt := top 46
abbrev s_stretches : Stmt := top 47
abbrev s_stretch_of : Stmt := top 48
abbrev s_lpool : Stmt := top 50
abbrev s_ltake : Stmt := top 51
abbrev s_lone : Stmt := top 52
abbrev s_loperand : Stmt := top 53
abbrev s_lplain_row : Stmt := top 54
abbrev s_lloop : Stmt := top 55
abbrev s_lrows : Stmt := top 56
abbrev s_ldeep : Stmt := top 57
abbrev s_lprogram : Stmt := top 58
abbrev s_lshifted : Stmt := top 59
abbrev s_lsame : Stmt := top 60
abbrev s_lbegun : Stmt := top 61
abbrev s_llots : Stmt := top 62
abbrev s_lfell : Stmt := top 63
abbrev s_lrefused_right : Stmt := top 64
abbrev s_law : Stmt := top 65
abbrev s_MomentError_init : Stmt := inClass (top 10) 0
abbrev s_Program_init : Stmt := inClass (top 38) 0
abbrev s_Program_eq : Stmt := inClass (top 38) 1
abbrev s_Program_names : Stmt := inClass (top 38) 2
abbrev s_Program_procedure : Stmt := inClass (top 38) 3
abbrev s_Program_variables_of : Stmt := inClass (top 38) 4
abbrev s_Program_has_spot : Stmt := inClass (top 38) 5
abbrev s_Program_row : Stmt := inClass (top 38) 6
abbrev s_Program_spots : Stmt := inClass (top 38) 7
abbrev s_Program_nexts : Stmt := inClass (top 38) 8
theorem sc_wall : FnScope ["k"] ["k"] (defScope s_wall) := ⟨rfl, rfl, rfl, by decide +kernel, rfl, by decide +kernel, by decide +kernel⟩
theorem sc_is_number : FnScope ["value"] ["value"] (defScope s_is_number) := ⟨rfl, rfl, rfl, by decide +kernel, rfl, by decide +kernel, by decide +kernel⟩
theorem sc_is_within : FnScope ["value", "low", "high"] ["value", "low", "high"] (defScope s_is_within) := ⟨rfl, rfl, rfl, by decide +kernel, rfl, by decide +kernel, by decide +kernel⟩
theorem sc_is_value : FnScope ["value"] ["value"] (defScope s_is_value) := ⟨rfl, rfl, rfl, by decide +kernel, rfl, by decide +kernel, by decide +kernel⟩
theorem sc_is_name : FnScope ["value", "sign"] ["value"] (defScope s_is_name) := ⟨rfl, rfl, rfl, by decide +kernel, rfl, by decide +kernel, by decide +kernel⟩
theorem sc_is_listed : FnScope ["value", "most"] ["value", "most"] (defScope s_is_listed) := ⟨rfl, rfl, rfl, by decide +kernel, rfl, by decide +kernel, by decide +kernel⟩
theorem sc_is_tuple_of : FnScope ["value", "many"] ["value", "many"] (defScope s_is_tuple_of) := ⟨rfl, rfl, rfl, by decide +kernel, rfl, by decide +kernel, by decide +kernel⟩
theorem sc_is_op : FnScope ["value"] ["value"] (defScope s_is_op) := ⟨rfl, rfl, rfl, by decide +kernel, rfl, by decide +kernel, by decide +kernel⟩
theorem sc_is_operand : FnScope ["value"] ["value"] (defScope s_is_operand) := ⟨rfl, rfl, rfl, by decide +kernel, rfl, by decide +kernel, by decide +kernel⟩
theorem sc_is_row_index : FnScope ["value"] ["value"] (defScope s_is_row_index) := ⟨rfl, rfl, rfl, by decide +kernel, rfl, by decide +kernel, by decide +kernel⟩
theorem sc_is_set : FnScope ["value"] ["value"] (defScope s_is_set) := ⟨rfl, rfl, rfl, by decide +kernel, rfl, by decide +kernel, by decide +kernel⟩
theorem sc_is_call : FnScope ["value", "operands"] ["value"] (defScope s_is_call) := ⟨rfl, rfl, rfl, by decide +kernel, rfl, by decide +kernel, by decide +kernel⟩
theorem sc_are_operands : FnScope ["values", "value"] ["values"] (defScope s_are_operands) := ⟨rfl, rfl, rfl, by decide +kernel, rfl, by decide +kernel, by decide +kernel⟩
theorem sc_is_pair_row : FnScope ["word", "part"] ["word", "part"] (defScope s_is_pair_row) := ⟨rfl, rfl, rfl, by decide +kernel, rfl, by decide +kernel, by decide +kernel⟩
theorem sc_is_row : FnScope ["value", "word"] ["value"] (defScope s_is_row) := ⟨rfl, rfl, rfl, by decide +kernel, rfl, by decide +kernel, by decide +kernel⟩
theorem sc_operands_of : FnScope ["row", "word"] ["row"] (defScope s_operands_of) := ⟨rfl, rfl, rfl, by decide +kernel, rfl, by decide +kernel, by decide +kernel⟩
theorem sc_set_by : FnScope ["row"] ["row"] (defScope s_set_by) := ⟨rfl, rfl, rfl, by decide +kernel, rfl, by decide +kernel, by decide +kernel⟩
theorem sc_are_parameters : FnScope ["value", "name"] ["value"] (defScope s_are_parameters) := ⟨rfl, rfl, rfl, by decide +kernel, rfl, by decide +kernel, by decide +kernel⟩
theorem sc_is_led_within : FnScope ["row", "many"] ["row", "many"] (defScope s_is_led_within) := ⟨rfl, rfl, rfl, by decide +kernel, rfl, by decide +kernel, by decide +kernel⟩
theorem sc_are_rows : FnScope ["value", "row"] ["value"] (defScope s_are_rows) := ⟨rfl, rfl, rfl, by decide +kernel, rfl, by decide +kernel, by decide +kernel⟩
theorem sc_is_procedure : FnScope ["value"] ["value"] (defScope s_is_procedure) := ⟨rfl, rfl, rfl, by decide +kernel, rfl, by decide +kernel, by decide +kernel⟩
theorem sc_first_wrong_procedure : FnScope ["procedures", "ahead", "index", "procedure"] ["procedures"] (defScope s_first_wrong_procedure) := ⟨rfl, rfl, rfl, by decide +kernel, rfl, by decide +kernel, by decide +kernel⟩
theorem sc_first_wrong_caller : FnScope ["procedures", "counts", "index", "procedure", "row", "name", "parameters", "_"] ["procedures"] (defScope s_first_wrong_caller) := ⟨rfl, rfl, rfl, by decide +kernel, rfl, by decide +kernel, by decide +kernel⟩
theorem sc_variables : FnScope ["procedure", "found", "row", "part"] ["procedure"] (defScope s_variables) := ⟨rfl, rfl, rfl, by decide +kernel, rfl, by decide +kernel, by decide +kernel⟩
theorem sc_need_program : FnScope ["program"] ["program"] (defScope s_need_program) := ⟨rfl, rfl, rfl, by decide +kernel, rfl, by decide +kernel, by decide +kernel⟩
theorem sc_need_procedure : FnScope ["program", "procedure"] ["program", "procedure"] (defScope s_need_procedure) := ⟨rfl, rfl, rfl, by decide +kernel, rfl, by decide +kernel, by decide +kernel⟩
theorem sc_need_spot : FnScope ["program", "spot"] ["program", "spot"] (defScope s_need_spot) := ⟨rfl, rfl, rfl, by decide +kernel, rfl, by decide +kernel, by decide +kernel⟩
theorem sc_is_plain : FnScope ["row"] ["row"] (defScope s_is_plain) := ⟨rfl, rfl, rfl, by decide +kernel, rfl, by decide +kernel, by decide +kernel⟩
theorem sc_ubeginnings : FnScope ["rows", "found", "index", "row"] ["rows"] (defScope s_ubeginnings) := ⟨rfl, rfl, rfl, by decide +kernel, rfl, by decide +kernel, by decide +kernel⟩
theorem sc_beginnings : FnScope ["program", "procedure"] ["program", "procedure"] (defScope s_beginnings) := ⟨rfl, rfl, rfl, by decide +kernel, rfl, by decide +kernel, by decide +kernel⟩
theorem sc_stretches_within : FnScope ["name", "rows", "begun", "found", "index", "row"] ["name", "rows"] (defScope s_stretches_within) := ⟨rfl, rfl, rfl, by decide +kernel, rfl, by decide +kernel, by decide +kernel⟩
theorem sc_stretches : FnScope ["program", "found", "name"] ["program"] (defScope s_stretches) := ⟨rfl, rfl, rfl, by decide +kernel, rfl, by decide +kernel, by decide +kernel⟩
theorem sc_stretch_of : FnScope ["program", "spot", "stretch"] ["program", "spot"] (defScope s_stretch_of) := ⟨rfl, rfl, rfl, by decide +kernel, rfl, by decide +kernel, by decide +kernel⟩
theorem sc_lpool : FnScope ["_law_script", "_law_k", "_law_cell", "_law_big", "_law_mixed"] ["_law_script", "_law_k"] (defScope s_lpool) := ⟨rfl, rfl, rfl, by decide +kernel, rfl, by decide +kernel, by decide +kernel⟩
theorem sc_ltake : FnScope ["_law_source", "_law_top", "_law_drawn"] ["_law_source", "_law_top"] (defScope s_ltake) := ⟨rfl, rfl, rfl, by decide +kernel, rfl, by decide +kernel, by decide +kernel⟩
theorem sc_lone : FnScope ["_law_source", "_law_things"] ["_law_source", "_law_things"] (defScope s_lone) := ⟨rfl, rfl, rfl, by decide +kernel, rfl, by decide +kernel, by decide +kernel⟩
theorem sc_loperand : FnScope ["_law_source", "_law_words"] ["_law_source", "_law_words"] (defScope s_loperand) := ⟨rfl, rfl, rfl, by decide +kernel, rfl, by decide +kernel, by decide +kernel⟩
theorem sc_lplain_row : FnScope ["_law_source", "_law_words", "_law_way", "_law_x"] ["_law_source", "_law_words"] (defScope s_lplain_row) := ⟨rfl, rfl, rfl, by decide +kernel, rfl, by decide +kernel, by decide +kernel⟩
theorem sc_lloop : FnScope ["_law_source", "_law_words", "_law_drawn"] ["_law_source", "_law_words"] (defScope s_lloop) := ⟨rfl, rfl, rfl, by decide +kernel, rfl, by decide +kernel, by decide +kernel⟩
theorem sc_lrows : FnScope ["_law_source", "_law_words", "_law_callees", "_law_room", "_law_drawn", "_law_turn", "_law_way", "_law_callee", "_law_many", "_law_given", "_law_top", "_law_k", "_law_row"] ["_law_source", "_law_words", "_law_callees", "_law_room"] (defScope s_lrows) := ⟨rfl, rfl, rfl, by decide +kernel, rfl, by decide +kernel, by decide +kernel⟩
theorem sc_ldeep : FnScope [] [] (defScope s_ldeep) := ⟨rfl, rfl, rfl, by decide +kernel, rfl, by decide +kernel, by decide +kernel⟩
theorem sc_lprogram : FnScope ["_law_source", "_law_room", "_law_many", "_law_others", "_law_heads", "_law_drawn", "_law_at", "_law_head", "_law_words", "_law_callees", "_law_rows_here", "_law_one_here"] ["_law_source", "_law_room"] (defScope s_lprogram) := ⟨rfl, rfl, rfl, by decide +kernel, rfl, by decide +kernel, by decide +kernel⟩
theorem sc_lshifted : FnScope ["_law_rows_here", "_law_kept", "_law_top", "_law_row"] ["_law_rows_here"] (defScope s_lshifted) := ⟨rfl, rfl, rfl, by decide +kernel, rfl, by decide +kernel, by decide +kernel⟩
theorem sc_lsame : FnScope ["_law_one_here", "_law_other"] ["_law_one_here", "_law_other"] (defScope s_lsame) := ⟨rfl, rfl, rfl, by decide +kernel, rfl, by decide +kernel, by decide +kernel⟩
theorem sc_lbegun : FnScope ["_law_rows_here", "_law_drawn", "_law_at", "_law_row"] ["_law_rows_here"] (defScope s_lbegun) := ⟨rfl, rfl, rfl, by decide +kernel, rfl, by decide +kernel, by decide +kernel⟩
theorem sc_llots : FnScope ["_law_pl", "_law_drawn", "_law_name", "_law_head", "_law_rows_here", "_law_first", "_law_begun_here", "_law_at", "_law_row"] ["_law_pl"] (defScope s_llots) := ⟨rfl, rfl, rfl, by decide +kernel, rfl, by decide +kernel, by decide +kernel⟩
theorem sc_lfell : FnScope ["_law_call", "e"] ["_law_call"] (defScope s_lfell) := ⟨rfl, rfl, rfl, by decide +kernel, rfl, by decide +kernel, by decide +kernel⟩
theorem sc_lrefused_right : FnScope ["_law_first", "_law_rows_here", "_law_odd"] ["_law_first", "_law_rows_here"] (defScope s_lrefused_right) := ⟨rfl, rfl, rfl, by decide +kernel, rfl, by decide +kernel, by decide +kernel⟩
theorem sc_law : FnScope ["_law_script", "_law_k", "_law_source", "_law_pl", "_law_first", "_law_lots_here", "_law_told", "_law_name", "_law_head", "_law_rows_here", "_law_at", "_law_row", "_law_some", "_law_due", "_law_lot"] ["_law_script"] (defScope s_law) := ⟨rfl, rfl, rfl, by decide +kernel, rfl, by decide +kernel, by decide +kernel⟩
theorem sc_Program_init : FnScope ["self", "procedures", "given", "wrong", "procedure"] ["self", "procedures"] (defScope s_Program_init) := ⟨rfl, rfl, rfl, by decide +kernel, rfl, by decide +kernel, by decide +kernel⟩
theorem sc_Program_eq : FnScope ["self", "other"] ["self", "other"] (defScope s_Program_eq) := ⟨rfl, rfl, rfl, by decide +kernel, rfl, by decide +kernel, by decide +kernel⟩
theorem sc_Program_names : FnScope ["self", "procedure"] ["self"] (defScope s_Program_names) := ⟨rfl, rfl, rfl, by decide +kernel, rfl, by decide +kernel, by decide +kernel⟩
theorem sc_Program_procedure : FnScope ["self", "name"] ["self", "name"] (defScope s_Program_procedure) := ⟨rfl, rfl, rfl, by decide +kernel, rfl, by decide +kernel, by decide +kernel⟩
theorem sc_Program_has_spot : FnScope ["self", "value"] ["self", "value"] (defScope s_Program_has_spot) := ⟨rfl, rfl, rfl, by decide +kernel, rfl, by decide +kernel, by decide +kernel⟩
theorem sc_Program_row : FnScope ["self", "spot"] ["self", "spot"] (defScope s_Program_row) := ⟨rfl, rfl, rfl, by decide +kernel, rfl, by decide +kernel, by decide +kernel⟩
theorem sc_told : FnScope ["self", "told"] ["self", "told"] (defScope s_MomentError_init) := ⟨rfl, rfl, rfl, by decide +kernel, rfl, by decide +kernel, by decide +kernel⟩
/-- what the top has written -/
structure Txt (K : PySem.W.Frag) (mg : Str → Option Value) where
  n_all : mg "all" = none
  n_bool : mg "bool" = none
  n_enumerate : mg "enumerate" = none
  n_int : mg "int" = none
  n_isinstance : mg "isinstance" = none
  n_len : mg "len" = none
  n_list : mg "list" = none
  n_max : mg "max" = none
  n_min : mg "min" = none
  n_range : mg "range" = none
  n_repr : mg "repr" = none
  n_set : mg "set" = none
  n_sorted : mg "sorted" = none
  n_str : mg "str" = none
  n_tuple : mg "tuple" = none
  m_MODULUS : ∃ t, mg "MODULUS" = some (.int 9973 t)
  m_MOST_ROWS : ∃ t, mg "MOST_ROWS" = some (.int 12 t)
  m_MOST_OPERANDS : ∃ t, mg "MOST_OPERANDS" = some (.int 2 t)
  m_MOST_PROCEDURES : ∃ t, mg "MOST_PROCEDURES" = some (.int 4 t)
  m_OPS : KTexts K mg "OPS" ["add", "sub", "mul", "less"]
  d_wall : Dn K mg "_wall" s_wall ["k"]
  d_is_number : Dn K mg "is_number" s_is_number ["value"]
  d_is_within : Dn K mg "is_within" s_is_within ["value", "low", "high"]
  d_is_value : Dn K mg "is_value" s_is_value ["value"]
  d_is_name : Dn K mg "is_name" s_is_name ["value"]
  d_is_listed : Dn K mg "is_listed" s_is_listed ["value", "most"]
  d_is_tuple_of : Dn K mg "is_tuple_of" s_is_tuple_of ["value", "many"]
  d_is_op : Dn K mg "is_op" s_is_op ["value"]
  d_is_operand : Dn K mg "is_operand" s_is_operand ["value"]
  d_is_row_index : Dn K mg "is_row_index" s_is_row_index ["value"]
  d_is_set : Dn K mg "_is_set" s_is_set ["value"]
  d_is_call : Dn K mg "_is_call" s_is_call ["value"]
  d_are_operands : Dn K mg "_are_operands" s_are_operands ["values"]
  d_is_pair_row : Dn K mg "_is_pair_row" s_is_pair_row ["word", "part"]
  d_is_row : Dn K mg "is_row" s_is_row ["value"]
  d_operands_of : Dn K mg "operands_of" s_operands_of ["row"]
  d_set_by : Dn K mg "set_by" s_set_by ["row"]
  d_are_parameters : Dn K mg "_are_parameters" s_are_parameters ["value"]
  d_is_led_within : Dn K mg "_is_led_within" s_is_led_within ["row", "many"]
  d_are_rows : Dn K mg "_are_rows" s_are_rows ["value"]
  d_is_procedure : Dn K mg "_is_procedure" s_is_procedure ["value"]
  d_first_wrong_procedure : Dn K mg "_first_wrong_procedure" s_first_wrong_procedure ["procedures"]
  d_first_wrong_caller : Dn K mg "_first_wrong_caller" s_first_wrong_caller ["procedures"]
  d_variables : Dn K mg "_variables" s_variables ["procedure"]
  d_need_program : Dn K mg "need_program" s_need_program ["program"]
  d_need_procedure : Dn K mg "need_procedure" s_need_procedure ["program", "procedure"]
  d_need_spot : Dn K mg "need_spot" s_need_spot ["program", "spot"]
  d_is_plain : Dn K mg "_is_plain" s_is_plain ["row"]
  d_ubeginnings : Dn K mg "_beginnings" s_ubeginnings ["rows"]
  d_beginnings : Dn K mg "beginnings" s_beginnings ["program", "procedure"]
  d_stretches_within : Dn K mg "_stretches_within" s_stretches_within ["name", "rows"]
  d_stretches : Dn K mg "stretches" s_stretches ["program"]
  d_stretch_of : Dn K mg "stretch_of" s_stretch_of ["program", "spot"]
  d_lpool : Dn K mg "_law_pool" s_lpool ["_law_script", "_law_k"]
  d_ltake : Dn K mg "_law_take" s_ltake ["_law_source", "_law_top"]
  d_lone : Dn K mg "_law_one" s_lone ["_law_source", "_law_things"]
  d_loperand : Dn K mg "_law_operand" s_loperand ["_law_source", "_law_words"]
  d_lplain_row : Dn K mg "_law_plain_row" s_lplain_row ["_law_source", "_law_words"]
  d_lloop : Dn K mg "_law_loop" s_lloop ["_law_source", "_law_words"]
  d_lrows : Dn K mg "_law_rows" s_lrows ["_law_source", "_law_words", "_law_callees", "_law_room"]
  d_ldeep : Dn K mg "_law_deep" s_ldeep []
  d_lprogram : Dn K mg "_law_program" s_lprogram ["_law_source", "_law_room"]
  d_lshifted : Dn K mg "_law_shifted" s_lshifted ["_law_rows_here"]
  d_lsame : Dn K mg "_law_same" s_lsame ["_law_one_here", "_law_other"]
  d_lbegun : Dn K mg "_law_begun" s_lbegun ["_law_rows_here"]
  d_llots : Dn K mg "_law_lots" s_llots ["_law_pl"]
  d_lfell : Dn K mg "_law_fell" s_lfell ["_law_call"]
  d_lrefused_right : Dn K mg "_law_refused_right" s_lrefused_right ["_law_first", "_law_rows_here"]
  d_law : Dn K mg "law" s_law ["_law_script"]
  a_MomentError : Addr
  m_MomentError : mg "MomentError" = some (.ref a_MomentError)
  x_NoRow : Ex K mg "NoRow" "MomentError.__init__" s_MomentError_init
  x_NoProgram : Ex K mg "NoProgram" "MomentError.__init__" s_MomentError_init
  x_NoProcedure : Ex K mg "NoProcedure" "MomentError.__init__" s_MomentError_init
  x_NoSpot : Ex K mg "NoSpot" "MomentError.__init__" s_MomentError_init
  c_Program : Kl K mg "Program"
  w_Program : NoC K c_Program.C
  f_Program__procedures : NoAttr K c_Program.C "_procedures"
  f_Program__named : NoAttr K c_Program.C "_named"
  f_Program__variables : NoAttr K c_Program.C "_variables"
  d_Program_init : Md K c_Program.C "__init__" "Program.__init__" s_Program_init ["self", "procedures"]
  d_Program_eq : Md K c_Program.C "__eq__" "Program.__eq__" s_Program_eq ["self", "other"]
  d_Program_names : Md K c_Program.C "names" "Program.names" s_Program_names ["self"]
  d_Program_procedure : Md K c_Program.C "procedure" "Program.procedure" s_Program_procedure ["self", "name"]
  d_Program_has_spot : Md K c_Program.C "has_spot" "Program.has_spot" s_Program_has_spot ["self", "value"]
  d_Program_row : Md K c_Program.C "row" "Program.row" s_Program_row ["self", "spot"]
  x2_NoRow : Ex2 K x_NoRow.C a_MomentError
  x2_NoProgram : Ex2 K x_NoProgram.C a_MomentError
  x2_NoProcedure : Ex2 K x_NoProcedure.C a_MomentError
  x2_NoSpot : Ex2 K x_NoSpot.C a_MomentError
end K07

set_option maxHeartbeats 2000000
namespace K07
open PySem PySem.Spec PyProof.Rows L2 DL
variable [TabCtx]
local macro_rules | `(tactic| walk_at "red") => `(tactic| simp only [gRetG, gSeqHF, dInI, dNotIn, fIsC2, gFor3, gForH3, gStoreH, fwSortSet, wzMeth, wFell, fwCat, gForELH, wDGet2, fDict, dRepT, gSeqF, gSeqHF, gDoneF, gAccF, fwIf, gParAcc, gForHS, dRep, wDNIn, wD0, gClearH, fIsC, dNeI, DL.tyD_dct, DL.isInt_dct, DL.isStr_dct, DL.isBl_dct, DL.isTup_dct, DL.isLst_dct, wSortC, gExtH, fwList, wiSeq, seqOf_lst, seqOf_tup, wiAny, wzE, wzOpL, wzIf, gzRet, gzSet, gzDrop, gPar, wLcZ, wiZip, wTupRg3, wiRg3, fMin, fAbs, fMaxL, fMinL, gUn2, gUn3, gUn2L, gFor2L, wLcI, wLam3, gSrc, or_false, false_or, exists_false, false_and, and_false, wDc3, gAcc, gSeqH, gForEH, gForE, gForH, gIfH, gLift, gNextH, gAppendH, gAppend, gDone, gSetH, DL.seen, dIsN, dNotN, wDc, wFld, wMeth, wDIn, wDIx, wDGetN, wNew, wzNew, wLcI, gField, gCL, fLenQ, dIxQ, wNeK, wIndex, gTryRet, gTryDrop, wzCall, wzCallL, wTold, fIsE, fRepr, wJoin, wDGet, wVals, dPow, wSrc, gSrcSet, dMulS, dFdivS, fInt, fMax, fTuple, fList, startD, gNext, gSeq, gRet, gSet, gIf, gDrop, gRaise, gFor, wVar, wC, wOp, wTest, wChain, wAnd, wOr, wNot, wtAnd, wtOr, wtNot, wIf, waNil, waCons, wTup, wLst, wCall, quiet, wIsi, wInK, wLc, wiStr, wiTup, wiLst, wiRange, wSl, woNone, woSome, dSl, wNeg, dNeg, fLen, fAll, dEq, dNe, dLe, dLt, dGe, dGt, dAdd, dSub, dMod, dIx, dIn, dIsB, strsOf, boolsOf, DL.tyD_non, at_0, at_1, at_2, at_3, at_4, DL.isInt_non, DL.isStr_non, DL.isBl_non, DL.isTup_non, DL.isLst_non, DL.tyD_bl, DL.isInt_bl, DL.isStr_bl, DL.isBl_bl, DL.isTup_bl, DL.isLst_bl, DL.tyD_int, DL.isInt_int, DL.isStr_int, DL.isBl_int, DL.isTup_int, DL.isLst_int, DL.tyD_str, DL.isInt_str, DL.isStr_str, DL.isBl_str, DL.isTup_str, DL.isLst_str, DL.tyD_lst, DL.isInt_lst, DL.isStr_lst, DL.isBl_lst, DL.isTup_lst, DL.isLst_lst, DL.tyD_tup, DL.isInt_tup, DL.isStr_tup, DL.isBl_tup, DL.isTup_tup, DL.isLst_tup, pure1, pure2, pure3, Option.map_some,
  List.map_cons, List.map_nil, List.length_cons, List.length_nil, List.cons_append, List.nil_append, List.getElem?_cons_zero, List.getElem?_cons_succ, Option.some.injEq, exists_eq_left', exists_eq_left, exists_eq_right, exists_eq_right', D.bl.injEq, D.int.injEq, D.str.injEq, D.tup.injEq, D.lst.injEq, D.fn.injEq, D.sq.injEq, D.exn.injEq, List.cons.injEq, and_true, true_and, and_self, exists_and_left, exists_and_right, Option.isSome_some, List.set_cons_zero, List.set_cons_succ, if_true, Bool.false_eq_true, if_false, Bool.not_true, Bool.not_false, reduceCtorEq, List.replicate, Nat.reduceSub, Nat.reduceAdd])
section
variable {P : Program} {w : World} {K : PySem.W.Frag} {mg : Str → Option Value} {base : Heap}
theorem ok_is_number (T : Txt K mg) : FnOk P w K mg base CX0 1 T.d_is_number.f T.d_is_number.fd ["value"] (spD fun es P _ => (pure1 tyOk fun d => .bl (isNum d)) es P) :=
  fn_ok T.d_is_number.F sc_is_number (fun es P h => by first | (obtain ⟨rfl, _⟩ := h; rfl) | exact pure1_len h | exact pure2_len h | exact pure3_len h | (obtain ⟨_, rfl, _⟩ := h; rfl) | (obtain ⟨_, _, rfl, _⟩ := h; rfl) | (obtain ⟨_, _, _, rfl, _⟩ := h; rfl) | (obtain ⟨_, _, _, _, rfl, _⟩ := h; rfl) | (obtain ⟨rfl, _⟩ := h; rfl)) (fun cdv A outer s H E hr => ⟨_,
    (wss_one (ws_ret (we_and (we_isi (x1 := "int") tyIs_int rfl T.n_isinstance rfl T.n_int boot_intT (we_var (pv 0))) (we_one (we_not (we_isi (x1 := "bool") tyIs_bool rfl T.n_isinstance rfl T.n_bool boot_boolT (we_var (pv 0)))))))),
    fun es P h => by
      obtain ⟨d, rfl, ok, hp⟩ := h
      cases d <;> simp [tyOk, tyD, isNum] at ok hp <;> walk_at "red" <;> exact hp⟩)
def gWithin : DFn := fun es P => ∃ d lo hi, es = [d, .int lo, .int hi] ∧ tyOk d ∧ P (.bl (isWithin d lo hi))
theorem ok_is_within (T : Txt K mg) : FnOk P w K mg base CX0 2 T.d_is_within.f T.d_is_within.fd ["value", "low", "high"] (spD fun es P _ => (gWithin) es P) :=
  fn_ok T.d_is_within.F sc_is_within (fun es P h => by first | (obtain ⟨rfl, _⟩ := h; rfl) | exact pure1_len h | exact pure2_len h | exact pure3_len h | (obtain ⟨_, rfl, _⟩ := h; rfl) | (obtain ⟨_, _, rfl, _⟩ := h; rfl) | (obtain ⟨_, _, _, rfl, _⟩ := h; rfl) | (obtain ⟨_, _, _, _, rfl, _⟩ := h; rfl) | (obtain ⟨rfl, _⟩ := h; rfl)) (fun cdv A outer s H E hr => ⟨_,
    (wss_one (ws_ret (we_and (we_call (ok_is_number T) (hr.mono (by decide)) rfl T.d_is_number.m T.d_is_number.F.kp T.d_is_number.b (wa_cons (we_var (pv 0)) wa_nil)) (we_one (we_chain op_dLe op_dLe (we_var (pv 1)) (we_var (pv 0)) (we_var (pv 2))))))),
    fun es P h => by
      obtain ⟨d, lo, hi, rfl, ok, hp⟩ := h
      walk_at "red"
      refine ⟨ok, ?_⟩
      cases d with
      | int j =>
        simp only [isNum, if_true, isWithin] at hp ⊢
        by_cases h1 : lo ≤ j <;> simpa [h1] using hp
      | _ => exact hp⟩)
theorem ok_is_value (T : Txt K mg) : FnOk P w K mg base CX0 3 T.d_is_value.f T.d_is_value.fd ["value"] (spD fun es P _ => (pure1 tyOk fun d => .bl (isWithin d 0 9972)) es P) :=
  fn_ok T.d_is_value.F sc_is_value (fun es P h => by first | (obtain ⟨rfl, _⟩ := h; rfl) | exact pure1_len h | exact pure2_len h | exact pure3_len h | (obtain ⟨_, rfl, _⟩ := h; rfl) | (obtain ⟨_, _, rfl, _⟩ := h; rfl) | (obtain ⟨_, _, _, rfl, _⟩ := h; rfl) | (obtain ⟨_, _, _, _, rfl, _⟩ := h; rfl) | (obtain ⟨rfl, _⟩ := h; rfl)) (fun cdv A outer s H E hr => ⟨_,
    (wss_one (ws_ret (we_call (ok_is_within T) (hr.mono (by decide)) rfl T.d_is_within.m T.d_is_within.F.kp T.d_is_within.b (wa_cons (we_var (pv 0)) (wa_cons (we_c pe_int) (wa_cons (we_op op_dSub (we_k rfl T.m_MODULUS) (we_c pe_int)) wa_nil)))))),
    fun es P h => by
      obtain ⟨d, rfl, ok, hp⟩ := h
      walk_at "red"
      exact ⟨d, 0, 9972, rfl, ok, hp⟩⟩)
theorem ok_is_name (T : Txt K mg) : FnOk P w K mg base CX0 1 T.d_is_name.f T.d_is_name.fd ["value"] (spD fun es P _ => (pure1 Good fun d => .bl (isName d)) es P) :=
  fn_ok T.d_is_name.F sc_is_name (fun es P h => by first | (obtain ⟨rfl, _⟩ := h; rfl) | exact pure1_len h | exact pure2_len h | exact pure3_len h | (obtain ⟨_, rfl, _⟩ := h; rfl) | (obtain ⟨_, _, rfl, _⟩ := h; rfl) | (obtain ⟨_, _, _, rfl, _⟩ := h; rfl) | (obtain ⟨_, _, _, _, rfl, _⟩ := h; rfl) | (obtain ⟨rfl, _⟩ := h; rfl)) (fun cdv A outer s H E hr => ⟨_,
    (wss_one (ws_ret (we_and (we_isi (x1 := "str") tyIs_str rfl T.n_isinstance rfl T.n_str boot_strT (we_var (pv 0))) (we_and (we_chain op_dLe op_dLe (we_c pe_int) (we_callB call_fLen rfl T.n_len boot_lenB (wa_cons (we_var (pv 0)) wa_nil)) (we_c pe_int)) (we_one (we_callB (call_fAll rfl) rfl T.n_all boot_allB (wa_cons (we_lc (i := 1) (x := "sign") rfl sc_is_name.nd (wi_str (we_var (pv 0))) (blkOk_by (N := ["value", "sign"]) (sc := defScope s_is_name) (by decide +kernel)) (fun _ _ _ _ _ => pg_name sc_is_name.nd rfl (Or.inl rfl)) (fun _ _ _ _ _ => (we_chain op_dLe op_dLe (we_c pe_str) (we_var (pv 1)) (we_c pe_str)))) wa_nil))))))),
    fun es P h => by
      obtain ⟨d, rfl, ok, hp⟩ := h
      cases d with
      | str x =>
        walk_at "red"
        have hl := ok.str
        refine ⟨line_big (by omega), ?_⟩
        simp only [isName] at hp
        by_cases h1 : 1 ≤ x.length
        · by_cases h2 : x.length ≤ 4
          · rw [decide_eq_true (show (1 : Int) ≤ x.length by omega), decide_eq_true (show (x.length : Int) ≤ 4 by omega)]
            simp only [if_true]
            refine ⟨by rw [signs_len, sizeLine_eq]; omega, wEach_signs (fun c => .bl (low c)) (fun c P' hc => ?_) ⟨_, bools_map low _, ?_⟩⟩
            · rw [← low_is c] at hc
              split at hc <;> rename_i h3 <;> simp only [h3, if_true, if_false] <;> first | exact hc | (simp only [Bool.false_eq_true, if_false]; exact hc)
            · simpa [h1, h2, List.all_map] using hp
          · rw [decide_eq_true (show (1 : Int) ≤ x.length by omega), decide_eq_false (show ¬ (x.length : Int) ≤ 4 by omega)]
            simpa [h2] using hp
        · rw [decide_eq_false (show ¬ (1 : Int) ≤ x.length by omega)]
          simpa [h1] using hp
      | src _ => cases ok
      | fn _ => cases ok
      | exn _ _ _ => cases ok
      | sq _ _ => cases ok
      | ins _ _ _ => cases ok

      | _ => walk_at "red"; exact hp⟩)
def lstd : D → Int → Bool
  | .tup xs, m => decide ((xs.length : Int) ≤ m)
  | .lst xs, m => decide ((xs.length : Int) ≤ m)
  | _, _ => false
def tupl : D → Int → Bool
  | .tup xs, m => decide ((xs.length : Int) = m)
  | _, _ => false
def gListed : DFn := fun es P => ∃ d m, es = [d, .int m] ∧ tyOk d ∧ P (.bl (lstd d m))
theorem ok_is_listed (T : Txt K mg) : FnOk P w K mg base CX0 1 T.d_is_listed.f T.d_is_listed.fd ["value", "most"] (spD fun es P _ => (gListed) es P) :=
  fn_ok T.d_is_listed.F sc_is_listed (fun es P h => by first | (obtain ⟨rfl, _⟩ := h; rfl) | exact pure1_len h | exact pure2_len h | exact pure3_len h | (obtain ⟨_, rfl, _⟩ := h; rfl) | (obtain ⟨_, _, rfl, _⟩ := h; rfl) | (obtain ⟨_, _, _, rfl, _⟩ := h; rfl) | (obtain ⟨_, _, _, _, rfl, _⟩ := h; rfl) | (obtain ⟨rfl, _⟩ := h; rfl)) (fun cdv A outer s H E hr => ⟨_,
    (wss_one (ws_ret (we_and (we_isi2 tyIs_list tyIs_tuple rfl T.n_isinstance rfl T.n_list boot_listT rfl T.n_tuple boot_tupleT (we_var (pv 0))) (we_one (we_cmp op_dLe (we_callB call_fLen rfl T.n_len boot_lenB (wa_cons (we_var (pv 0)) wa_nil)) (we_var (pv 1)) (nomark _)))))),
    fun es P h => by
      obtain ⟨d, m, rfl, ok, hp⟩ := h
      cases d with
      | src _ => cases ok
      | fn _ => cases ok
      | exn _ _ _ => cases ok
      | sq _ _ => cases ok
      | ins _ _ _ => cases ok

      | _ => walk_at "red"; simpa [lstd] using hp⟩)
def gTupleOf : DFn := fun es P => ∃ d m, es = [d, .int m] ∧ tyOk d ∧ P (.bl (tupl d m))
theorem ok_is_tuple_of (T : Txt K mg) : FnOk P w K mg base CX0 1 T.d_is_tuple_of.f T.d_is_tuple_of.fd ["value", "many"] (spD fun es P _ => (gTupleOf) es P) :=
  fn_ok T.d_is_tuple_of.F sc_is_tuple_of (fun es P h => by first | (obtain ⟨rfl, _⟩ := h; rfl) | exact pure1_len h | exact pure2_len h | exact pure3_len h | (obtain ⟨_, rfl, _⟩ := h; rfl) | (obtain ⟨_, _, rfl, _⟩ := h; rfl) | (obtain ⟨_, _, _, rfl, _⟩ := h; rfl) | (obtain ⟨_, _, _, _, rfl, _⟩ := h; rfl) | (obtain ⟨rfl, _⟩ := h; rfl)) (fun cdv A outer s H E hr => ⟨_,
    (wss_one (ws_ret (we_and (we_isi (x1 := "tuple") tyIs_tuple rfl T.n_isinstance rfl T.n_tuple boot_tupleT (we_var (pv 0))) (we_one (we_cmp (op_dEq hr.units) (we_callB call_fLen rfl T.n_len boot_lenB (wa_cons (we_var (pv 0)) wa_nil)) (we_var (pv 1)) (nomark _)))))),
    fun es P h => by
      obtain ⟨d, m, rfl, ok, hp⟩ := h
      cases d with
      | src _ => cases ok
      | fn _ => cases ok
      | exn _ _ _ => cases ok
      | sq _ _ => cases ok
      | ins _ _ _ => cases ok

      | _ => walk_at "red"; simpa [tupl] using hp⟩)
abbrev OPS : List Str := ["add", "sub", "mul", "less"]
def isOp : D → Bool
  | .str x => decide (x ∈ OPS)
  | _ => false
theorem ok_is_op (T : Txt K mg) : FnOk P w K mg base CX0 1 T.d_is_op.f T.d_is_op.fd ["value"] (spD fun es P _ => (pure1 tyOk fun d => .bl (isOp d)) es P) :=
  fn_ok T.d_is_op.F sc_is_op (fun es P h => by first | (obtain ⟨rfl, _⟩ := h; rfl) | exact pure1_len h | exact pure2_len h | exact pure3_len h | (obtain ⟨_, rfl, _⟩ := h; rfl) | (obtain ⟨_, _, rfl, _⟩ := h; rfl) | (obtain ⟨_, _, _, rfl, _⟩ := h; rfl) | (obtain ⟨_, _, _, _, rfl, _⟩ := h; rfl) | (obtain ⟨rfl, _⟩ := h; rfl)) (fun cdv A outer s H E hr => ⟨_,
    (wss_one (ws_ret (we_and (we_isi (x1 := "str") tyIs_str rfl T.n_isinstance rfl T.n_str boot_strT (we_var (pv 0))) (we_one (we_inK (we_var (pv 0)) rfl T.m_OPS))))),
    fun es P h => by
      obtain ⟨d, rfl, ok, hp⟩ := h
      cases d with
      | src _ => cases ok
      | fn _ => cases ok
      | exn _ _ _ => cases ok
      | sq _ _ => cases ok
      | ins _ _ _ => cases ok

      | _ => walk_at "red"; exact hp⟩)
theorem ok_is_operand (T : Txt K mg) : FnOk P w K mg base CX0 4 T.d_is_operand.f T.d_is_operand.fd ["value"] (spD fun es P _ => (pure1 Good fun d => .bl (isOperand d)) es P) :=
  fn_ok T.d_is_operand.F sc_is_operand (fun es P h => by first | (obtain ⟨rfl, _⟩ := h; rfl) | exact pure1_len h | exact pure2_len h | exact pure3_len h | (obtain ⟨_, rfl, _⟩ := h; rfl) | (obtain ⟨_, _, rfl, _⟩ := h; rfl) | (obtain ⟨_, _, _, rfl, _⟩ := h; rfl) | (obtain ⟨_, _, _, _, rfl, _⟩ := h; rfl) | (obtain ⟨rfl, _⟩ := h; rfl)) (fun cdv A outer s H E hr => ⟨_,
    (wss_one (ws_ret (we_or (we_call (ok_is_value T) (hr.mono (by decide)) rfl T.d_is_value.m T.d_is_value.F.kp T.d_is_value.b (wa_cons (we_var (pv 0)) wa_nil)) (we_one (we_call (ok_is_name T) (hr.mono (by decide)) rfl T.d_is_name.m T.d_is_name.F.kp T.d_is_name.b (wa_cons (we_var (pv 0)) wa_nil)))))),
    fun es P h => by
      obtain ⟨d, rfl, ok, hp⟩ := h
      walk_at "red"
      refine ⟨ok.ty, ?_⟩
      simp only [isOperand] at hp
      cases h1 : isWithin d 0 9972 <;> rw [h1] at hp <;> simp only [Bool.false_or, Bool.true_or, if_true, Bool.false_eq_true, if_false] at hp ⊢
      · exact ⟨ok, hp⟩
      · exact hp⟩)
theorem ok_is_row_index (T : Txt K mg) : FnOk P w K mg base CX0 3 T.d_is_row_index.f T.d_is_row_index.fd ["value"] (spD fun es P _ => (pure1 tyOk fun d => .bl (isWithin d 0 11)) es P) :=
  fn_ok T.d_is_row_index.F sc_is_row_index (fun es P h => by first | (obtain ⟨rfl, _⟩ := h; rfl) | exact pure1_len h | exact pure2_len h | exact pure3_len h | (obtain ⟨_, rfl, _⟩ := h; rfl) | (obtain ⟨_, _, rfl, _⟩ := h; rfl) | (obtain ⟨_, _, _, rfl, _⟩ := h; rfl) | (obtain ⟨_, _, _, _, rfl, _⟩ := h; rfl) | (obtain ⟨rfl, _⟩ := h; rfl)) (fun cdv A outer s H E hr => ⟨_,
    (wss_one (ws_ret (we_call (ok_is_within T) (hr.mono (by decide)) rfl T.d_is_within.m T.d_is_within.F.kp T.d_is_within.b (wa_cons (we_var (pv 0)) (wa_cons (we_c pe_int) (wa_cons (we_op op_dSub (we_k rfl T.m_MOST_ROWS) (we_c pe_int)) wa_nil)))))),
    fun es P h => by
      obtain ⟨d, rfl, ok, hp⟩ := h
      walk_at "red"
      exact ⟨d, 0, 11, rfl, ok, hp⟩⟩)
theorem ok_are_operands (T : Txt K mg) : FnOk P w K mg base CX0 5 T.d_are_operands.f T.d_are_operands.fd ["values"] (spD fun es P _ => (fun es P => ∃ ys, es = [.tup ys] ∧ Good (.tup ys) ∧ P (.bl (ys.all isOperand))) es P) :=
  fn_ok T.d_are_operands.F sc_are_operands (fun es P h => by first | (obtain ⟨rfl, _⟩ := h; rfl) | exact pure1_len h | exact pure2_len h | exact pure3_len h | (obtain ⟨_, rfl, _⟩ := h; rfl) | (obtain ⟨_, _, rfl, _⟩ := h; rfl) | (obtain ⟨_, _, _, rfl, _⟩ := h; rfl) | (obtain ⟨_, _, _, _, rfl, _⟩ := h; rfl) | (obtain ⟨rfl, _⟩ := h; rfl)) (fun cdv A outer s H E hr => ⟨_,
    (wss_one (ws_ret (we_callB (call_fAll rfl) rfl T.n_all boot_allB (wa_cons (we_lc (i := 1) (x := "value") rfl sc_are_operands.nd (wi_tup (we_var (pv 0))) (blkOk_by (N := ["values", "value"]) (sc := defScope s_are_operands) (by decide +kernel)) (fun _ _ _ _ _ => pg_name sc_are_operands.nd rfl (Or.inl rfl)) (fun _ _ _ _ _ => (we_call (ok_is_operand T) (hr.mono (by decide)) rfl T.d_is_operand.m T.d_is_operand.F.kp T.d_is_operand.b (wa_cons (we_var (pv 1)) wa_nil)))) wa_nil)))),
    fun es P h => by
      obtain ⟨ys, rfl, ok, hp⟩ := h
      have hl := ok.tup
      walk_at "red"
      refine ⟨by rw [sizeLine_eq]; omega, wEach_pure (fun d => .bl (isOperand d)) (fun x hx P' hq => ⟨hl.2 x hx, hq⟩) ⟨_, bools_map isOperand _, ?_⟩⟩
      simpa [List.all_map] using hp⟩)
def isSetR : List D → Bool
  | [_, a, b, c, d] => isName a && isOp b && isOperand c && isOperand d
  | _ => false
def isOps : D → Bool
  | .tup ys => decide ((ys.length : Int) ≤ 2) && ys.all isOperand
  | _ => false
def isCallR : List D → Bool
  | [_, a, b, c] => isName a && isName b && isOps c
  | _ => false
theorem ok_is_set (T : Txt K mg) : FnOk P w K mg base CX0 5 T.d_is_set.f T.d_is_set.fd ["value"] (spD fun es P _ => (fun es P => ∃ xs, es = [.tup xs] ∧ Good (.tup xs) ∧ P (.bl (isSetR xs))) es P) :=
  fn_ok T.d_is_set.F sc_is_set (fun es P h => by first | (obtain ⟨rfl, _⟩ := h; rfl) | exact pure1_len h | exact pure2_len h | exact pure3_len h | (obtain ⟨_, rfl, _⟩ := h; rfl) | (obtain ⟨_, _, rfl, _⟩ := h; rfl) | (obtain ⟨_, _, _, rfl, _⟩ := h; rfl) | (obtain ⟨_, _, _, _, rfl, _⟩ := h; rfl) | (obtain ⟨rfl, _⟩ := h; rfl)) (fun cdv A outer s H E hr => ⟨_,
    (wss_one (ws_ret (we_and (we_cmp (op_dEq hr.units) (we_callB call_fLen rfl T.n_len boot_lenB (wa_cons (we_var (pv 0)) wa_nil)) (we_c pe_int) (nomark _)) (we_and (we_call (ok_is_name T) (hr.mono (by decide)) rfl T.d_is_name.m T.d_is_name.F.kp T.d_is_name.b (wa_cons (we_ix (we_var (pv 0)) (we_c pe_int)) wa_nil)) (we_and (we_call (ok_is_op T) (hr.mono (by decide)) rfl T.d_is_op.m T.d_is_op.F.kp T.d_is_op.b (wa_cons (we_ix (we_var (pv 0)) (we_c pe_int)) wa_nil)) (we_and (we_call (ok_is_operand T) (hr.mono (by decide)) rfl T.d_is_operand.m T.d_is_operand.F.kp T.d_is_operand.b (wa_cons (we_ix (we_var (pv 0)) (we_c pe_int)) wa_nil)) (we_one (we_call (ok_is_operand T) (hr.mono (by decide)) rfl T.d_is_operand.m T.d_is_operand.F.kp T.d_is_operand.b (wa_cons (we_ix (we_var (pv 0)) (we_c pe_int)) wa_nil))))))))),
    fun es P h => by
      obtain ⟨xs, rfl, ok, hp⟩ := h
      have hl := ok.tup
      walk_at "red"
      match xs, hp, hl with
      | [a0, a, b, c, d], hp, hl =>
        have g := hl.2
        simp only [List.mem_cons, List.not_mem_nil, or_false, forall_eq_or_imp, forall_eq] at g
        obtain ⟨g0, g1, g2, g3, g4⟩ := g
        simp only [List.length_cons, List.length_nil, isSetR, at_1, at_2, at_3, at_4, Option.some.injEq, exists_eq_left'] at hp ⊢
        simp only [show decide (((0 + 1 + 1 + 1 + 1 + 1 : Nat) : Int) = 5) = true from rfl, if_true]
        refine ⟨g1, ?_⟩
        cases h1 : isName a <;> simp only [h1, Bool.false_and, Bool.true_and, Bool.false_eq_true, if_true, if_false] at hp ⊢
        · exact hp
        refine ⟨g2.ty, ?_⟩
        cases h2 : isOp b <;> simp only [h2, Bool.false_and, Bool.true_and, Bool.false_eq_true, if_true, if_false] at hp ⊢
        · exact hp
        refine ⟨g3, ?_⟩
        cases h3 : isOperand c <;> simp only [h3, Bool.false_and, Bool.true_and, Bool.false_eq_true, if_true, if_false] at hp ⊢
        · exact hp
        exact ⟨g4, hp⟩
      | [], hp, hl => simpa [isSetR] using hp
      | [_], hp, hl => simpa [isSetR] using hp
      | [_, _], hp, hl => simpa [isSetR] using hp
      | [_, _, _], hp, hl => simpa [isSetR] using hp
      | [_, _, _, _], hp, hl => simpa [isSetR] using hp
      | _ :: _ :: _ :: _ :: _ :: _ :: r, hp, hl =>
        rw [decide_eq_false (by simp only [List.length_cons]; omega)]
        simpa [isSetR] using hp⟩)
theorem ok_is_call (T : Txt K mg) : FnOk P w K mg base CX0 6 T.d_is_call.f T.d_is_call.fd ["value"] (spD fun es P _ => (fun es P => ∃ xs, es = [.tup xs] ∧ Good (.tup xs) ∧ P (.bl (isCallR xs))) es P) :=
  fn_ok T.d_is_call.F sc_is_call (fun es P h => by first | (obtain ⟨rfl, _⟩ := h; rfl) | exact pure1_len h | exact pure2_len h | exact pure3_len h | (obtain ⟨_, rfl, _⟩ := h; rfl) | (obtain ⟨_, _, rfl, _⟩ := h; rfl) | (obtain ⟨_, _, _, rfl, _⟩ := h; rfl) | (obtain ⟨_, _, _, _, rfl, _⟩ := h; rfl) | (obtain ⟨rfl, _⟩ := h; rfl)) (fun cdv A outer s H E hr => ⟨_,
    (wss_cons (ws_if (PW.pt (ww_or (wt_cmp (op_dNe hr.units) (we_callB call_fLen rfl T.n_len boot_lenB (wa_cons (we_var (pv 0)) wa_nil)) (we_c pe_int) (nomark _)) (ww_or (wt_not (wt_val (we_call (ok_is_name T) (hr.mono (by decide)) rfl T.d_is_name.m T.d_is_name.F.kp T.d_is_name.b (wa_cons (we_ix (we_var (pv 0)) (we_c pe_int)) wa_nil)))) (pw_or1 (wt_not (wt_val (we_call (ok_is_name T) (hr.mono (by decide)) rfl T.d_is_name.m T.d_is_name.F.kp T.d_is_name.b (wa_cons (we_ix (we_var (pv 0)) (we_c pe_int)) wa_nil))))))))
        (wss_one (ws_ret (we_c pe_bl)))
        wss_nil)
      (wss_cons (ws_set (i := 1) sc_is_call.nd rfl (by first | exact .inl rfl | exact .inr rfl) (we_ix (we_var (pv 0)) (we_c pe_int)))
      (wss_one (ws_ret (we_and (we_isi (x1 := "tuple") tyIs_tuple rfl T.n_isinstance rfl T.n_tuple boot_tupleT (we_var (pv 1))) (we_and (we_call (ok_is_listed T) (hr.mono (by decide)) rfl T.d_is_listed.m T.d_is_listed.F.kp T.d_is_listed.b (wa_cons (we_var (pv 1)) (wa_cons (we_k rfl T.m_MOST_OPERANDS) wa_nil))) (we_one (we_call (ok_are_operands T) (hr.mono (by decide)) rfl T.d_are_operands.m T.d_are_operands.F.kp T.d_are_operands.b (wa_cons (we_var (pv 1)) wa_nil))))))))),
    fun es P h => by
      obtain ⟨xs, rfl, ok, hp⟩ := h
      have hl := ok.tup
      walk_at "red"
      match xs, hp, hl with
      | [a0, a, b, c], hp, hl =>
        have g := hl.2
        simp only [List.mem_cons, List.not_mem_nil, or_false, forall_eq_or_imp, forall_eq] at g
        obtain ⟨g0, g1, g2, g3⟩ := g
        simp only [List.length_cons, List.length_nil, isCallR, at_1, at_2, at_3, Option.some.injEq, exists_eq_left'] at hp ⊢
        simp only [show (!decide (((0 + 1 + 1 + 1 + 1 : Nat) : Int) = 4)) = false from rfl, Bool.false_eq_true, if_false]
        refine ⟨g1, ?_⟩
        cases h1 : isName a <;> simp only [h1, Bool.not_true, Bool.not_false, Bool.false_eq_true, if_true, if_false, Bool.false_and, Bool.true_and] at hp ⊢
        · exact hp
        refine ⟨g2, ?_⟩
        cases h2 : isName b <;> simp only [h2, Bool.not_true, Bool.not_false, Bool.false_eq_true, if_true, if_false, Bool.false_and, Bool.true_and] at hp ⊢
        · exact hp
        refine ⟨g3.ty, ?_⟩
        cases c with
        | tup ys =>
          have g4 := g3.tup
          simp only [isTup_tup, if_true]
          refine ⟨_, _, rfl, g3.ty, _, rfl, ?_⟩
          rw [show isOps (.tup ys) = (lstd (.tup ys) 2 && ys.all isOperand) from rfl] at hp
          cases h3 : lstd (.tup ys) 2 <;> simp only [h3, Bool.false_eq_true, if_true, if_false, Bool.false_and, Bool.true_and] at hp ⊢
          · exact hp
          · exact ⟨ys, rfl, g3, hp⟩
        | src _ => cases g3
        | fn _ => cases g3
        | exn _ _ _ => cases g3
        | sq _ _ => cases g3
        | ins _ _ _ => cases g3
        | dct _ _ => cases g3
        | _ => exact hp
      | [], hp, hl => simpa [isCallR] using hp
      | [_], hp, hl => simpa [isCallR] using hp
      | [_, _], hp, hl => simpa [isCallR] using hp
      | [_, _, _], hp, hl => simpa [isCallR] using hp
      | _ :: _ :: _ :: _ :: _ :: r, hp, hl =>
        rw [decide_eq_false (by simp only [List.length_cons]; omega)]
        simpa [isCallR] using hp⟩)
def isPairR (w : Str) (d : D) : Bool := if w = "go" then isWithin d 0 11 else if w = "get" then isName d else decide (w ∈ (["back", "out"] : List Str)) && isOperand d
theorem ok_is_pair_row (T : Txt K mg) : FnOk P w K mg base CX0 5 T.d_is_pair_row.f T.d_is_pair_row.fd ["word", "part"] (spD fun es P _ => (fun es P => ∃ w d, es = [.str w, d] ∧ Good d ∧ P (.bl (isPairR w d))) es P) :=
  fn_ok T.d_is_pair_row.F sc_is_pair_row (fun es P h => by first | (obtain ⟨rfl, _⟩ := h; rfl) | exact pure1_len h | exact pure2_len h | exact pure3_len h | (obtain ⟨_, rfl, _⟩ := h; rfl) | (obtain ⟨_, _, rfl, _⟩ := h; rfl) | (obtain ⟨_, _, _, rfl, _⟩ := h; rfl) | (obtain ⟨_, _, _, _, rfl, _⟩ := h; rfl) | (obtain ⟨rfl, _⟩ := h; rfl)) (fun cdv A outer s H E hr => ⟨_,
    (wss_cons (ws_if (wt_cmp (op_dEq hr.units) (we_var (pv 0)) (we_c pe_str) (nomark _))
        (wss_one (ws_ret (we_call (ok_is_row_index T) (hr.mono (by decide)) rfl T.d_is_row_index.m T.d_is_row_index.F.kp T.d_is_row_index.b (wa_cons (we_var (pv 1)) wa_nil))))
        wss_nil)
      (wss_cons (ws_if (wt_cmp (op_dEq hr.units) (we_var (pv 0)) (we_c pe_str) (nomark _))
        (wss_one (ws_ret (we_call (ok_is_name T) (hr.mono (by decide)) rfl T.d_is_name.m T.d_is_name.F.kp T.d_is_name.b (wa_cons (we_var (pv 1)) wa_nil))))
        wss_nil)
      (wss_one (ws_ret (we_and (we_cmp op_dIn (we_var (pv 0)) (we_tup (wa_cons (we_c pe_str) (wa_cons (we_c pe_str) wa_nil))) (by with_unfolding_all rfl)) (we_one (we_call (ok_is_operand T) (hr.mono (by decide)) rfl T.d_is_operand.m T.d_is_operand.F.kp T.d_is_operand.b (wa_cons (we_var (pv 1)) wa_nil)))))))),
    fun es P h => by
      obtain ⟨w', d, rfl, ok, hp⟩ := h
      walk_at "red"
      unfold isPairR at hp
      by_cases h1 : w' = "go"
      · simp only [h1, if_true, decide_true] at hp ⊢
        exact ⟨ok.ty, hp⟩
      rw [if_neg h1] at hp
      simp only [h1, decide_false, Bool.false_eq_true, if_false]
      by_cases h2 : w' = "get"
      · simp only [h2, if_true, decide_true] at hp ⊢
        exact ⟨ok, hp⟩
      rw [if_neg h2] at hp
      simp only [h2, decide_false, Bool.false_eq_true, if_false]
      refine ⟨line_big (by omega), ?_⟩
      cases h3 : decide (w' ∈ (["back", "out"] : List Str)) <;> simp only [h3, Bool.false_eq_true, if_true, if_false, Bool.false_and, Bool.true_and] at hp ⊢
      · exact hp
      · exact ⟨ok, hp⟩⟩)
end
end K07

set_option maxHeartbeats 2000000
namespace K07
open PySem PySem.Spec PyProof.Rows L2 DL
variable [TabCtx]
local macro_rules | `(tactic| walk_at "red") => `(tactic| simp only [gRetG, gSeqHF, dInI, dNotIn, fIsC2, gFor3, gForH3, gStoreH, fwSortSet, wzMeth, wFell, fwCat, gForELH, wDGet2, fDict, dRepT, gSeqF, gSeqHF, gDoneF, gAccF, fwIf, gParAcc, gForHS, dRep, wDNIn, wD0, gClearH, fIsC, dNeI, DL.tyD_dct, DL.isInt_dct, DL.isStr_dct, DL.isBl_dct, DL.isTup_dct, DL.isLst_dct, wSortC, gExtH, fwList, wiSeq, seqOf_lst, seqOf_tup, wiAny, wzE, wzOpL, wzIf, gzRet, gzSet, gzDrop, gPar, wLcZ, wiZip, wTupRg3, wiRg3, fMin, fAbs, fMaxL, fMinL, gUn2, gUn3, gUn2L, gFor2L, wLcI, wLam3, gSrc, or_false, false_or, exists_false, false_and, and_false, wDc3, gAcc, gSeqH, gForEH, gForE, gForH, gIfH, gLift, gNextH, gAppendH, gAppend, gDone, gSetH, DL.seen, dIsN, dNotN, wDc, wFld, wMeth, wDIn, wDIx, wDGetN, wNew, wzNew, wLcI, gField, gCL, fLenQ, dIxQ, wNeK, wIndex, gTryRet, gTryDrop, wzCall, wzCallL, wTold, fIsE, fRepr, wJoin, wDGet, wVals, dPow, wSrc, gSrcSet, dMulS, dFdivS, fInt, fMax, fTuple, fList, startD, gNext, gSeq, gRet, gSet, gIf, gDrop, gRaise, gFor, wVar, wC, wOp, wTest, wChain, wAnd, wOr, wNot, wtAnd, wtOr, wtNot, wIf, waNil, waCons, wTup, wLst, wCall, quiet, wIsi, wInK, wLc, wiStr, wiTup, wiLst, wiRange, wSl, woNone, woSome, dSl, wNeg, dNeg, fLen, fAll, dEq, dNe, dLe, dLt, dGe, dGt, dAdd, dSub, dMod, dIx, dIn, dIsB, strsOf, boolsOf, DL.tyD_non, at_0, at_1, at_2, at_3, at_4, DL.isInt_non, DL.isStr_non, DL.isBl_non, DL.isTup_non, DL.isLst_non, DL.tyD_bl, DL.isInt_bl, DL.isStr_bl, DL.isBl_bl, DL.isTup_bl, DL.isLst_bl, DL.tyD_int, DL.isInt_int, DL.isStr_int, DL.isBl_int, DL.isTup_int, DL.isLst_int, DL.tyD_str, DL.isInt_str, DL.isStr_str, DL.isBl_str, DL.isTup_str, DL.isLst_str, DL.tyD_lst, DL.isInt_lst, DL.isStr_lst, DL.isBl_lst, DL.isTup_lst, DL.isLst_lst, DL.tyD_tup, DL.isInt_tup, DL.isStr_tup, DL.isBl_tup, DL.isTup_tup, DL.isLst_tup, pure1, pure2, pure3, Option.map_some,
  List.map_cons, List.map_nil, List.length_cons, List.length_nil, List.cons_append, List.nil_append, List.getElem?_cons_zero, List.getElem?_cons_succ, Option.some.injEq, exists_eq_left', exists_eq_left, exists_eq_right, exists_eq_right', D.bl.injEq, D.int.injEq, D.str.injEq, D.tup.injEq, D.lst.injEq, D.fn.injEq, D.sq.injEq, D.exn.injEq, List.cons.injEq, and_true, true_and, and_self, exists_and_left, exists_and_right, Option.isSome_some, List.set_cons_zero, List.set_cons_succ, if_true, Bool.false_eq_true, if_false, Bool.not_true, Bool.not_false, reduceCtorEq, List.replicate, Nat.reduceSub, Nat.reduceAdd])
section
variable {P : Program} {w : World} {K : PySem.W.Frag} {mg : Str → Option Value} {base : Heap}
def isRowT (w : Str) (xs : List D) : Bool :=
  if w = "set" then isSetR xs else if w = "call" then isCallR xs else if w = "copy" then (match xs with | [_, a, b] => isName a && isOperand b | _ => false)
  else if w = "if" then (match xs with | [_, a, b] => isOperand a && isWithin b 0 11 | _ => false) else match xs with | [_, a] => isPairR w a | _ => false
def isRow : D → Bool
  | .tup (.str w :: x :: r) => isRowT w (.str w :: x :: r)
  | _ => false
theorem ok_is_row (T : Txt K mg) : FnOk P w K mg base CX0 7 T.d_is_row.f T.d_is_row.fd ["value"] (spD fun es P _ => (pure1 Good fun d => .bl (isRow d)) es P) :=
  fn_ok T.d_is_row.F sc_is_row (fun es P h => by first | (obtain ⟨rfl, _⟩ := h; rfl) | exact pure1_len h | exact pure2_len h | exact pure3_len h | (obtain ⟨_, rfl, _⟩ := h; rfl) | (obtain ⟨_, _, rfl, _⟩ := h; rfl) | (obtain ⟨_, _, _, rfl, _⟩ := h; rfl) | (obtain ⟨_, _, _, _, rfl, _⟩ := h; rfl) | (obtain ⟨rfl, _⟩ := h; rfl)) (fun cdv A outer s H E hr => ⟨_,
    (wss_cons (ws_if (PW.pt (ww_or (wt_not (wt_val (we_isi (x1 := "tuple") tyIs_tuple rfl T.n_isinstance rfl T.n_tuple boot_tupleT (we_var (pv 0))))) (ww_or (wt_cmp op_dLt (we_callB call_fLen rfl T.n_len boot_lenB (wa_cons (we_var (pv 0)) wa_nil)) (we_c pe_int) (nomark _)) (pw_or1 (wt_not (wt_val (we_isi (x1 := "str") tyIs_str rfl T.n_isinstance rfl T.n_str boot_strT (we_ix (we_var (pv 0)) (we_c pe_int)))))))))
        (wss_one (ws_ret (we_c pe_bl)))
        wss_nil)
      (wss_cons (ws_set (i := 1) sc_is_row.nd rfl (by first | exact .inl rfl | exact .inr rfl) (we_ix (we_var (pv 0)) (we_c pe_int)))
      (wss_cons (ws_if (wt_cmp (op_dEq hr.units) (we_var (pv 1)) (we_c pe_str) (nomark _))
        (wss_one (ws_ret (we_call (ok_is_set T) (hr.mono (by decide)) rfl T.d_is_set.m T.d_is_set.F.kp T.d_is_set.b (wa_cons (we_var (pv 0)) wa_nil))))
        wss_nil)
      (wss_cons (ws_if (wt_cmp (op_dEq hr.units) (we_var (pv 1)) (we_c pe_str) (nomark _))
        (wss_one (ws_ret (we_call (ok_is_call T) (hr.mono (by decide)) rfl T.d_is_call.m T.d_is_call.F.kp T.d_is_call.b (wa_cons (we_var (pv 0)) wa_nil))))
        wss_nil)
      (wss_cons (ws_if (wt_cmp (op_dEq hr.units) (we_var (pv 1)) (we_c pe_str) (nomark _))
        (wss_one (ws_ret (we_and (we_cmp (op_dEq hr.units) (we_callB call_fLen rfl T.n_len boot_lenB (wa_cons (we_var (pv 0)) wa_nil)) (we_c pe_int) (nomark _)) (we_and (we_call (ok_is_name T) (hr.mono (by decide)) rfl T.d_is_name.m T.d_is_name.F.kp T.d_is_name.b (wa_cons (we_ix (we_var (pv 0)) (we_c pe_int)) wa_nil)) (we_one (we_call (ok_is_operand T) (hr.mono (by decide)) rfl T.d_is_operand.m T.d_is_operand.F.kp T.d_is_operand.b (wa_cons (we_ix (we_var (pv 0)) (we_c pe_int)) wa_nil)))))))
        wss_nil)
      (wss_cons (ws_if (wt_cmp (op_dEq hr.units) (we_var (pv 1)) (we_c pe_str) (nomark _))
        (wss_one (ws_ret (we_and (we_cmp (op_dEq hr.units) (we_callB call_fLen rfl T.n_len boot_lenB (wa_cons (we_var (pv 0)) wa_nil)) (we_c pe_int) (nomark _)) (we_and (we_call (ok_is_operand T) (hr.mono (by decide)) rfl T.d_is_operand.m T.d_is_operand.F.kp T.d_is_operand.b (wa_cons (we_ix (we_var (pv 0)) (we_c pe_int)) wa_nil)) (we_one (we_call (ok_is_row_index T) (hr.mono (by decide)) rfl T.d_is_row_index.m T.d_is_row_index.F.kp T.d_is_row_index.b (wa_cons (we_ix (we_var (pv 0)) (we_c pe_int)) wa_nil)))))))
        wss_nil)
      (wss_one (ws_ret (we_and (we_call (ok_is_tuple_of T) (hr.mono (by decide)) rfl T.d_is_tuple_of.m T.d_is_tuple_of.F.kp T.d_is_tuple_of.b (wa_cons (we_var (pv 0)) (wa_cons (we_c pe_int) wa_nil))) (we_one (we_call (ok_is_pair_row T) (hr.mono (by decide)) rfl T.d_is_pair_row.m T.d_is_pair_row.F.kp T.d_is_pair_row.b (wa_cons (we_var (pv 1)) (wa_cons (we_ix (we_var (pv 0)) (we_c pe_int)) wa_nil))))))))))))),
    fun es P h => by
      obtain ⟨d, rfl, ok, hp⟩ := h
      match d, ok, hp with
      | .tup (y :: x :: r), ok, hp =>
        have g := ok.tup.2 y List.mem_cons_self
        cases y with
        | str w' =>
          have hl := ok.tup
          have g := hl.2
          walk_at "red"
          refine ifF (decide_eq_false (by omega)) ?_
          simp only [isRow, isRowT] at hp
          by_cases h1 : w' = "set"
          · simp only [h1, if_true, decide_true] at hp ⊢
            exact ⟨h1 ▸ ok, hp⟩
          simp only [h1, if_false, decide_false, Bool.false_eq_true] at hp ⊢
          by_cases h2 : w' = "call"
          · simp only [h2, if_true, decide_true] at hp ⊢
            exact ⟨h2 ▸ ok, hp⟩
          simp only [h2, if_false, decide_false, Bool.false_eq_true] at hp ⊢
          by_cases h3 : w' = "copy"
          · simp only [h3, if_true, decide_true] at hp ⊢
            match r, hp, g with
            | [b], hp, g =>
              simp only [List.mem_cons, List.not_mem_nil, or_false, forall_eq_or_imp, forall_eq] at g
              walk_at "red"
              simp only [show decide (((0 + 1 + 1 + 1 : Nat) : Int) = 3) = true from rfl, if_true]
              refine ⟨g.2.1, ?_⟩
              cases h4 : isName x <;> simp only [h4, Bool.false_eq_true, if_true, if_false, Bool.false_and, Bool.true_and] at hp ⊢
              · exact hp
              · exact ⟨g.2.2, hp⟩
            | [], hp, g => exact hp
            | _ :: _ :: r, hp, g =>
              refine ifF (decide_eq_false (by simp only [List.length_cons]; omega)) ?_
              exact hp
          simp only [h3, if_false, decide_false, Bool.false_eq_true] at hp ⊢
          by_cases h5 : w' = "if"
          · simp only [h5, if_true, decide_true] at hp ⊢
            match r, hp, g with
            | [b], hp, g =>
              simp only [List.mem_cons, List.not_mem_nil, or_false, forall_eq_or_imp, forall_eq] at g
              walk_at "red"
              simp only [show decide (((0 + 1 + 1 + 1 : Nat) : Int) = 3) = true from rfl, if_true]
              refine ⟨g.2.1, ?_⟩
              cases h4 : isOperand x <;> simp only [h4, Bool.false_eq_true, if_true, if_false, Bool.false_and, Bool.true_and] at hp ⊢
              · exact hp
              · exact ⟨g.2.2.ty, hp⟩
            | [], hp, g => exact hp
            | _ :: _ :: r, hp, g =>
              refine ifF (decide_eq_false (by simp only [List.length_cons]; omega)) ?_
              exact hp
          simp only [h5, if_false, decide_false, Bool.false_eq_true] at hp ⊢
          refine ⟨_, 2, rfl, ok.ty, _, rfl, ?_⟩
          match r, hp, g with
          | [], hp, g =>
            simp only [List.mem_cons, List.not_mem_nil, or_false, forall_eq_or_imp, forall_eq] at g
            show if true = true then _ else P (.bl false)
            rw [if_pos rfl]
            exact ⟨w', x, ⟨rfl, rfl⟩, g.2, hp⟩
          | b :: r, hp, g =>
            refine ifF (c := decide ((((D.str w' :: x :: b :: r).length : Nat) : Int) = 2)) ?_ hp
            exact decide_eq_false (by simp only [List.length_cons]; omega)
        | src _ => cases g
        | fn _ => cases g
        | exn _ _ _ => cases g
        | sq _ _ => cases g
        | ins _ _ _ => cases g
        | dct _ _ => cases g
        | _ =>
          walk_at "red"
          exact ifF (decide_eq_false (by omega)) hp
      | .tup [], ok, hp => walk_at "red"; exact hp
      | .tup [y], ok, hp => cases y <;> (walk_at "red"; exact ifT rfl hp)
      | .src _, ok, hp => cases ok
      | .fn _, ok, hp => cases ok
      | .exn _ _ _, ok, hp => cases ok
      | .sq _ _, ok, hp => cases ok
      | .ins _ _ _, ok, hp => cases ok
      | .dct _ _, ok, hp => cases ok
      | .non, ok, hp => walk_at "red"; exact hp
      | .bl _, ok, hp => walk_at "red"; exact hp
      | .int _, ok, hp => walk_at "red"; exact hp
      | .str _, ok, hp => walk_at "red"; exact hp
      | .lst _, ok, hp => walk_at "red"; exact hp⟩)
end
end K07

set_option maxHeartbeats 2000000
namespace K07
open PySem PySem.Spec PyProof.Rows L2 DL
variable [TabCtx]
local macro_rules | `(tactic| walk_at "red") => `(tactic| simp only [gRetG, gSeqHF, dInI, dNotIn, fIsC2, gFor3, gForH3, gStoreH, fwSortSet, wzMeth, wFell, fwCat, gForELH, wDGet2, fDict, dRepT, gSeqF, gSeqHF, gDoneF, gAccF, fwIf, gParAcc, gForHS, dRep, wDNIn, wD0, gClearH, fIsC, dNeI, DL.tyD_dct, DL.isInt_dct, DL.isStr_dct, DL.isBl_dct, DL.isTup_dct, DL.isLst_dct, wSortC, gExtH, fwList, wiSeq, seqOf_lst, seqOf_tup, wiAny, wzE, wzOpL, wzIf, gzRet, gzSet, gzDrop, gPar, wLcZ, wiZip, wTupRg3, wiRg3, fMin, fAbs, fMaxL, fMinL, gUn2, gUn3, gUn2L, gFor2L, wLcI, wLam3, gSrc, or_false, false_or, exists_false, false_and, and_false, wDc3, gAcc, gSeqH, gForEH, gForE, gForH, gIfH, gLift, gNextH, gAppendH, gAppend, gDone, gSetH, DL.seen, dIsN, dNotN, wDc, wFld, wMeth, wDIn, wDIx, wDGetN, wNew, wzNew, wLcI, gField, gCL, fLenQ, dIxQ, wNeK, wIndex, gTryRet, gTryDrop, wzCall, wzCallL, wTold, fIsE, fRepr, wJoin, wDGet, wVals, dPow, wSrc, gSrcSet, dMulS, dFdivS, fInt, fMax, fTuple, fList, startD, gNext, gSeq, gRet, gSet, gIf, gDrop, gRaise, gFor, wVar, wC, wOp, wTest, wChain, wAnd, wOr, wNot, wtAnd, wtOr, wtNot, wIf, waNil, waCons, wTup, wLst, wCall, quiet, wIsi, wInK, wLc, wiStr, wiTup, wiLst, wiRange, wSl, woNone, woSome, dSl, wNeg, dNeg, fLen, fAll, dEq, dNe, dLe, dLt, dGe, dGt, dAdd, dSub, dMod, dIx, dIn, dIsB, strsOf, boolsOf, DL.tyD_non, at_0, at_1, at_2, at_3, at_4, DL.isInt_non, DL.isStr_non, DL.isBl_non, DL.isTup_non, DL.isLst_non, DL.tyD_bl, DL.isInt_bl, DL.isStr_bl, DL.isBl_bl, DL.isTup_bl, DL.isLst_bl, DL.tyD_int, DL.isInt_int, DL.isStr_int, DL.isBl_int, DL.isTup_int, DL.isLst_int, DL.tyD_str, DL.isInt_str, DL.isStr_str, DL.isBl_str, DL.isTup_str, DL.isLst_str, DL.tyD_lst, DL.isInt_lst, DL.isStr_lst, DL.isBl_lst, DL.isTup_lst, DL.isLst_lst, DL.tyD_tup, DL.isInt_tup, DL.isStr_tup, DL.isBl_tup, DL.isTup_tup, DL.isLst_tup, pure1, pure2, pure3, Option.map_some,
  List.map_cons, List.map_nil, List.length_cons, List.length_nil, List.cons_append, List.nil_append, List.getElem?_cons_zero, List.getElem?_cons_succ, Option.some.injEq, exists_eq_left', exists_eq_left, exists_eq_right, exists_eq_right', D.bl.injEq, D.int.injEq, D.str.injEq, D.tup.injEq, D.lst.injEq, D.fn.injEq, D.sq.injEq, D.exn.injEq, List.cons.injEq, and_true, true_and, and_self, exists_and_left, exists_and_right, Option.isSome_some, List.set_cons_zero, List.set_cons_succ, if_true, Bool.false_eq_true, if_false, Bool.not_true, Bool.not_false, reduceCtorEq, List.replicate, Nat.reduceSub, Nat.reduceAdd])
section
variable {P : Program} {w : World} {K : PySem.W.Frag} {mg : Str → Option Value} {base : Heap}
theorem isRow_tup {d : D} (h : isRow d = true) : ∃ (w : Str) (x : D) (r : List D), d = .tup (.str w :: x :: r) := by
  unfold isRow at h
  split at h
  · exact ⟨_, _, _, rfl⟩
  · cases h
def opsOf : D → D
  | .tup (.str w :: x :: r) => if w = "set" then .tup (r.drop 1) else if w = "copy" then .tup r else if w = "call" then (match r with | [_, o] => o | _ => .non)
    else if w ∈ (["if", "back", "out"] : List Str) then .tup [x] else .tup []
  | _ => .non
def gOps (C : Addr) : DSp := fun es P Z => ∃ d, es = [d] ∧ Good d ∧ if (!isRow d) = true then Z C d else P (opsOf d)
theorem ok_operands_of (T : Txt K mg) : FnOk P w K mg base (L2.CX P w) 8 T.d_operands_of.f T.d_operands_of.fd ["row"] (spD (gOps T.x_NoRow.C)) :=
  fn_okX T.d_operands_of.F sc_operands_of (fun es P Z h => by first | (obtain ⟨rfl, _⟩ := h; rfl) | exact pure1_len h | exact pure2_len h | exact pure3_len h | (obtain ⟨_, rfl, _⟩ := h; rfl) | (obtain ⟨_, _, rfl, _⟩ := h; rfl) | (obtain ⟨_, _, _, rfl, _⟩ := h; rfl) | (obtain ⟨_, _, _, _, rfl, _⟩ := h; rfl) | (obtain ⟨rfl, _⟩ := h; rfl)) (fun cdv A outer s H E hr => ⟨_,
    (wss_cons (ws_if (wt_not (wt_val (we_call (ok_is_row T) (hr.mono (by decide)) rfl T.d_is_row.m T.d_is_row.F.kp T.d_is_row.b (wa_cons (we_var (pv 0)) wa_nil))))
        (wss_one (ws_raise rfl (takes_of rfl rfl rfl rfl) T.x_NoRow.T T.x_NoRow.iC T.x_NoRow.tI T.x_NoRow.no (ok_told T.x_NoRow.F sc_told rfl rfl rfl) (hr.mono (by decide)) T.x_NoRow.b pass0 rfl T.x_NoRow.m (we_var (pv 0))))
        wss_nil)
      (wss_cons (ws_set (i := 1) sc_operands_of.nd rfl (by first | exact .inl rfl | exact .inr rfl) (we_ix (we_var (pv 0)) (we_c pe_int)))
      (wss_cons (ws_if (wt_cmp (op_dEq hr.units) (we_var (pv 1)) (we_c pe_str) (nomark _))
        (wss_one (ws_ret (we_sl (we_var (pv 0)) (wo_some (we_c pe_int)) wo_none)))
        wss_nil)
      (wss_cons (ws_if (wt_cmp (op_dEq hr.units) (we_var (pv 1)) (we_c pe_str) (nomark _))
        (wss_one (ws_ret (we_sl (we_var (pv 0)) (wo_some (we_c pe_int)) wo_none)))
        wss_nil)
      (wss_cons (ws_if (wt_cmp (op_dEq hr.units) (we_var (pv 1)) (we_c pe_str) (nomark _))
        (wss_one (ws_ret (we_ix (we_var (pv 0)) (we_c pe_int))))
        wss_nil)
      (wss_cons (ws_if (wt_cmp op_dIn (we_var (pv 1)) (we_tup (wa_cons (we_c pe_str) (wa_cons (we_c pe_str) (wa_cons (we_c pe_str) wa_nil)))) (by with_unfolding_all rfl))
        (wss_one (ws_ret (we_sl (we_var (pv 0)) (wo_some (we_c pe_int)) (wo_some (we_c pe_int)))))
        wss_nil)
      (wss_one (ws_ret (we_tup wa_nil))))))))),
    fun es P Z h => by
      obtain ⟨d, rfl, ok, hp⟩ := h
      cases h1 : isRow d with
      | false =>
        rw [h1] at hp
        walk_at "red"
        exact ⟨ok, ifT (by rw [h1]; rfl) hp⟩
      | true =>
        rw [h1, if_neg (by decide)] at hp
        obtain ⟨w', x, r, rfl⟩ := isRow_tup h1
        walk_at "red"
        refine ⟨ok, ifF (by rw [h1]; rfl) ?_⟩
        simp only [opsOf] at hp
        simp only [isRow, isRowT] at h1
        by_cases e1 : w' = "set"
        · rw [if_pos e1] at hp h1
          refine ifT (decide_eq_true e1) ?_
          match r, h1, hp with
          | [b, c, e], _, hp => exact hp
          | [], h, _ => cases h
          | [_], h, _ => cases h
          | [_, _], h, _ => cases h
          | _ :: _ :: _ :: _ :: _, h, _ => cases h
        rw [if_neg e1] at hp h1
        refine ifF (decide_eq_false e1) ?_
        by_cases e3 : w' = "copy"
        · rw [if_pos e3] at hp
          rw [if_neg (by rw [e3]; decide), if_pos e3] at h1
          refine ifT (decide_eq_true e3) ?_
          match r, h1, hp with
          | [b], _, hp => exact hp
          | [], h, _ => cases h
          | _ :: _ :: _, h, _ => cases h
        rw [if_neg e3] at hp
        refine ifF (decide_eq_false e3) ?_
        by_cases e2 : w' = "call"
        · rw [if_pos e2] at hp h1
          refine ifT (decide_eq_true e2) ?_
          match r, h1, hp with
          | [b, c], _, hp => exact ⟨c, at_3, hp⟩
          | [], h, _ => cases h
          | [_], h, _ => cases h
          | _ :: _ :: _ :: _, h, _ => cases h
        rw [if_neg e2] at hp h1
        rw [if_neg e3] at h1
        refine ifF (decide_eq_false e2) ⟨line_big (by omega), ?_⟩
        by_cases e4 : w' ∈ (["if", "back", "out"] : List Str)
        · rw [if_pos e4] at hp
          refine ifT (decide_eq_true e4) ?_
          match r, h1, hp with
          | [], _, hp => exact hp
          | [b], _, hp => exact hp
          | b :: c :: r, h, _ => simp at h
        · rw [if_neg e4] at hp
          exact ifF (decide_eq_false e4) ⟨Nat.zero_le _, hp⟩⟩)
def setBy : D → D
  | .tup (.str w :: x :: _) => if w ∈ (["set", "copy", "call", "get"] : List Str) then x else .non
  | _ => .non
def gSetBy (C : Addr) : DSp := fun es P Z => ∃ d, es = [d] ∧ Good d ∧ if (!isRow d) = true then Z C d else P (setBy d)
theorem ok_set_by (T : Txt K mg) : FnOk P w K mg base (L2.CX P w) 8 T.d_set_by.f T.d_set_by.fd ["row"] (spD (gSetBy T.x_NoRow.C)) :=
  fn_okX T.d_set_by.F sc_set_by (fun es P Z h => by first | (obtain ⟨rfl, _⟩ := h; rfl) | exact pure1_len h | exact pure2_len h | exact pure3_len h | (obtain ⟨_, rfl, _⟩ := h; rfl) | (obtain ⟨_, _, rfl, _⟩ := h; rfl) | (obtain ⟨_, _, _, rfl, _⟩ := h; rfl) | (obtain ⟨_, _, _, _, rfl, _⟩ := h; rfl) | (obtain ⟨rfl, _⟩ := h; rfl)) (fun cdv A outer s H E hr => ⟨_,
    (wss_cons (ws_if (wt_not (wt_val (we_call (ok_is_row T) (hr.mono (by decide)) rfl T.d_is_row.m T.d_is_row.F.kp T.d_is_row.b (wa_cons (we_var (pv 0)) wa_nil))))
        (wss_one (ws_raise rfl (takes_of rfl rfl rfl rfl) T.x_NoRow.T T.x_NoRow.iC T.x_NoRow.tI T.x_NoRow.no (ok_told T.x_NoRow.F sc_told rfl rfl rfl) (hr.mono (by decide)) T.x_NoRow.b pass0 rfl T.x_NoRow.m (we_var (pv 0))))
        wss_nil)
      (wss_one (ws_ret (we_if (wt_cmp op_dIn (we_ix (we_var (pv 0)) (we_c pe_int)) (we_tup (wa_cons (we_c pe_str) (wa_cons (we_c pe_str) (wa_cons (we_c pe_str) (wa_cons (we_c pe_str) wa_nil))))) (by with_unfolding_all rfl)) (we_ix (we_var (pv 0)) (we_c pe_int)) (we_c pe_non))))),
    fun es P Z h => by
      obtain ⟨d, rfl, ok, hp⟩ := h
      cases h1 : isRow d with
      | false =>
        rw [h1] at hp
        walk_at "red"
        exact ⟨ok, ifT (by rw [h1]; rfl) hp⟩
      | true =>
        rw [h1, if_neg (by decide)] at hp
        obtain ⟨w', x, r, rfl⟩ := isRow_tup h1
        walk_at "red"
        refine ⟨ok, ifF (by rw [h1]; rfl) ?_⟩
        simp only [setBy] at hp
        refine ⟨line_big (by omega), ?_⟩
        split at hp <;> rename_i e
        · exact ifT (decide_eq_true e) hp
        · exact ifF (decide_eq_false e) hp⟩)
end
end K07

set_option maxHeartbeats 2000000
namespace K07
open PySem PySem.Spec PyProof.Rows L2 DL
variable [TabCtx]
local macro_rules | `(tactic| walk_at "red") => `(tactic| simp only [gRetG, gSeqHF, dInI, fIsC2, gFor3, gForH3, gStoreH, fwSortSet, wzMeth, wFell, fwCat, gForELH, wDGet2, fDict, dRepT, gSeqF, gSeqHF, gDoneF, gAccF, fwIf, gParAcc, gForHS, dRep, wDNIn, wD0, gClearH, fIsC, dNeI, DL.tyD_dct, DL.isInt_dct, DL.isStr_dct, DL.isBl_dct, DL.isTup_dct, DL.isLst_dct, wSortC, gExtH, fwList, wiSeq, seqOf_lst, seqOf_tup, wiAny, wzE, wzOpL, wzIf, gzRet, gzSet, gzDrop, gPar, wLcZ, wiZip, wTupRg3, wiRg3, fMin, fAbs, fMaxL, fMinL, gUn2, gUn3, gUn2L, gFor2L, wLcI, wLam3, gSrc, or_false, false_or, exists_false, false_and, and_false, wDc3, gAcc, gSeqH, gForEH, gForE, gForH, gIfH, gLift, gNextH, gAppendH, gAppend, gDone, gSetH, DL.seen, dIsN, dNotN, wDc, wFld, wMeth, wDIn, wDIx, wDGetN, wNew, wzNew, wLcI, gField, gCL, fLenQ, dIxQ, wNeK, wIndex, gTryRet, gTryDrop, wzCall, wzCallL, wTold, fIsE, fRepr, wJoin, wDGet, wVals, dPow, wSrc, gSrcSet, dMulS, dFdivS, fInt, fMax, fTuple, fList, startD, gNext, gSeq, gRet, gSet, gIf, gDrop, gRaise, gFor, wVar, wC, wOp, wTest, wChain, wAnd, wOr, wNot, wtAnd, wtOr, wtNot, wIf, waNil, waCons, wTup, wLst, wCall, quiet, wIsi, wInK, wLc, wiStr, wiTup, wiLst, wiRange, wSl, woNone, woSome, dSl, wNeg, dNeg, fLen, fAll, dEq, dNe, dLe, dLt, dGe, dGt, dAdd, dSub, dMod, dIx, dIn, dIsB, strsOf, boolsOf, DL.tyD_non, at_0, at_1, at_2, at_3, at_4, DL.isInt_non, DL.isStr_non, DL.isBl_non, DL.isTup_non, DL.isLst_non, DL.tyD_bl, DL.isInt_bl, DL.isStr_bl, DL.isBl_bl, DL.isTup_bl, DL.isLst_bl, DL.tyD_int, DL.isInt_int, DL.isStr_int, DL.isBl_int, DL.isTup_int, DL.isLst_int, DL.tyD_str, DL.isInt_str, DL.isStr_str, DL.isBl_str, DL.isTup_str, DL.isLst_str, DL.tyD_lst, DL.isInt_lst, DL.isStr_lst, DL.isBl_lst, DL.isTup_lst, DL.isLst_lst, DL.tyD_tup, DL.isInt_tup, DL.isStr_tup, DL.isBl_tup, DL.isTup_tup, DL.isLst_tup, pure1, pure2, pure3, Option.map_some,
  List.map_cons, List.map_nil, List.length_cons, List.length_nil, List.cons_append, List.nil_append, List.getElem?_cons_zero, List.getElem?_cons_succ, Option.some.injEq, exists_eq_left', exists_eq_left, exists_eq_right, exists_eq_right', D.bl.injEq, D.int.injEq, D.str.injEq, D.tup.injEq, D.lst.injEq, D.fn.injEq, D.sq.injEq, D.exn.injEq, List.cons.injEq, and_true, true_and, and_self, exists_and_left, exists_and_right, Option.isSome_some, List.set_cons_zero, List.set_cons_succ, if_true, Bool.false_eq_true, if_false, Bool.not_true, Bool.not_false, reduceCtorEq, List.replicate, Nat.reduceSub, Nat.reduceAdd])
section
variable {P : Program} {w : World} {K : PySem.W.Frag} {mg : Str → Option Value} {base : Heap}
def sameD : D → D → Bool
  | .str x, .str y => decide (x = y)
  | _, _ => false
def isPars : D → Bool
  | .tup [] => true
  | .tup [a] => isName a
  | .tup [a, b] => isName a && isName b && !sameD a b
  | _ => false
theorem ok_are_parameters (T : Txt K mg) : FnOk P w K mg base CX0 2 T.d_are_parameters.f T.d_are_parameters.fd ["value"] (spD fun es P _ => (pure1 Good fun d => .bl (isPars d)) es P) :=
  fn_ok T.d_are_parameters.F sc_are_parameters (fun es P h => by first | (obtain ⟨rfl, _⟩ := h; rfl) | exact pure1_len h | exact pure2_len h | exact pure3_len h | (obtain ⟨_, rfl, _⟩ := h; rfl) | (obtain ⟨_, _, rfl, _⟩ := h; rfl) | (obtain ⟨_, _, _, rfl, _⟩ := h; rfl) | (obtain ⟨_, _, _, _, rfl, _⟩ := h; rfl) | (obtain ⟨rfl, _⟩ := h; rfl)) (fun cdv A outer s H E hr => ⟨_,
    (wss_cons (ws_if (PW.pt (ww_or (wt_not (wt_val (we_isi (x1 := "tuple") tyIs_tuple rfl T.n_isinstance rfl T.n_tuple boot_tupleT (we_var (pv 0))))) (pw_or1 (wt_not (wt_val (we_call (ok_is_listed T) (hr.mono (by decide)) rfl T.d_is_listed.m T.d_is_listed.F.kp T.d_is_listed.b (wa_cons (we_var (pv 0)) (wa_cons (we_k rfl T.m_MOST_OPERANDS) wa_nil))))))))
        (wss_one (ws_ret (we_c pe_bl)))
        wss_nil)
      (wss_one (ws_ret (we_and (we_callB (call_fAll rfl) rfl T.n_all boot_allB (wa_cons (we_lc (i := 1) (x := "name") rfl sc_are_parameters.nd (wi_tup (we_var (pv 0))) (blkOk_by (N := ["value", "name"]) (sc := defScope s_are_parameters) (by decide +kernel)) (fun _ _ _ _ _ => pg_name sc_are_parameters.nd rfl (Or.inl rfl)) (fun _ _ _ _ _ => (we_call (ok_is_name T) (hr.mono (by decide)) rfl T.d_is_name.m T.d_is_name.F.kp T.d_is_name.b (wa_cons (we_var (pv 1)) wa_nil)))) wa_nil)) (we_one (we_or (we_cmp op_dLt (we_callB call_fLen rfl T.n_len boot_lenB (wa_cons (we_var (pv 0)) wa_nil)) (we_c pe_int) (nomark _)) (we_one (we_cmp (op_dNe hr.units) (we_ix (we_var (pv 0)) (we_c pe_int)) (we_ix (we_var (pv 0)) (we_c pe_int)) (nomark _))))))))),
    fun es P h => by
      obtain ⟨d, rfl, ok, hp⟩ := h
      cases d with
      | tup xs =>
        have hl := ok.tup
        walk_at "red"
        refine ⟨_, _, rfl, ok.ty, _, rfl, ?_⟩
        by_cases h2 : xs.length ≤ 2
        · refine ifF (by simp [lstd]; omega) ⟨by rw [sizeLine_eq]; omega, wEach_pure (fun d => .bl (isName d)) (fun x hx P' hq => ⟨hl.2 x hx, hq⟩) ⟨_, bools_map isName _, ?_⟩⟩
          match xs, hp, h2 with
          | [], hp, _ => exact ifT rfl (ifT rfl hp)
          | [a], hp, _ =>
            simp only [List.map_cons, List.map_nil, List.all_cons, List.all_nil, Bool.and_true, id_eq]
            simp only [isPars] at hp
            cases h3 : isName a <;> rw [h3] at hp
            · exact ifF rfl hp
            · exact ifT rfl (ifT rfl hp)
          | [a, b], hp, _ =>
            simp only [List.map_cons, List.map_nil, List.all_cons, List.all_nil, Bool.and_true, id_eq]
            simp only [isPars] at hp
            cases h3 : isName a <;> rw [h3] at hp
            · exact ifF rfl hp
            cases h4 : isName b <;> rw [h4] at hp
            · exact ifF rfl hp
            refine ifT rfl (ifF rfl ⟨a, at_0, b, at_1, ?_⟩)
            cases a with
            | str x =>
              cases b with
              | str y => exact hp
              | _ => cases h4
            | _ => cases h3
          | _ :: _ :: _ :: _, _, h => simp at h
        · refine ifT (by simp [lstd]; omega) ?_
          match xs, hp, h2 with
          | [], _, h => simp at h
          | [_], _, h => simp at h
          | [_, _], _, h => simp at h
          | _ :: _ :: _ :: _, hp, _ => exact hp
      | src _ => cases ok
      | fn _ => cases ok
      | exn _ _ _ => cases ok
      | sq _ _ => cases ok
      | ins _ _ _ => cases ok
      | dct _ _ => cases ok
      | _ => walk_at "red"; exact hp⟩)
theorem isRow_str' (w' : Str) (r : List D) : isRow (.tup (.str w' :: r)) = (if w' = "set" then (match r with | [a, b, c, e] => isName a && isOp b && isOperand c && isOperand e | _ => false)
    else if w' = "call" then (match r with | [a, b, c] => isName a && isName b && isOps c | _ => false)
    else if w' = "copy" then (match r with | [a, b] => isName a && isOperand b | _ => false)
    else if w' = "if" then (match r with | [a, b] => isOperand a && isWithin b 0 11 | _ => false)
    else if w' = "go" then (match r with | [a] => isWithin a 0 11 | _ => false)
    else if w' = "get" then (match r with | [a] => isName a | _ => false)
    else (match r with | [a] => decide (w' ∈ (["back", "out"] : List Str)) && isOperand a | _ => false)) := by
  match r with
  | [] => simp only [isRow]; repeat' split
          all_goals rfl
  | [a] =>
    simp only [isRow, isRowT, isSetR, isCallR, isPairR]
    repeat' split
    all_goals rfl
  | [a, b] =>
    simp only [isRow, isRowT, isSetR, isCallR, isPairR]
    repeat' split
    all_goals rfl
  | [a, b, c] =>
    simp only [isRow, isRowT, isSetR, isCallR, isPairR]
    repeat' split
    all_goals rfl
  | [a, b, c, e] =>
    simp only [isRow, isRowT, isSetR, isCallR, isPairR]
    repeat' split
    all_goals rfl
  | a :: b :: c :: e :: f :: r =>
    simp only [isRow, isRowT, isSetR, isCallR, isPairR]
    repeat' split
    all_goals rfl
def lastD : List D → D
  | [] => .non
  | [x] => x
  | _ :: x :: r => lastD (x :: r)
def isLed (m : Int) : D → Bool
  | .tup (.str w :: r) => if w ∈ (["if", "go"] : List Str) then (match lastD r with | .int t => decide (t < m) | _ => false) else true
  | _ => false
theorem ok_is_led_within (T : Txt K mg) : FnOk P w K mg base CX0 1 T.d_is_led_within.f T.d_is_led_within.fd ["row", "many"] (spD fun es P _ => (fun es P => ∃ d m, es = [d, .int m] ∧ isRow d = true ∧ Good d ∧ P (.bl (isLed m d))) es P) :=
  fn_ok T.d_is_led_within.F sc_is_led_within (fun es P h => by first | (obtain ⟨rfl, _⟩ := h; rfl) | exact pure1_len h | exact pure2_len h | exact pure3_len h | (obtain ⟨_, rfl, _⟩ := h; rfl) | (obtain ⟨_, _, rfl, _⟩ := h; rfl) | (obtain ⟨_, _, _, rfl, _⟩ := h; rfl) | (obtain ⟨_, _, _, _, rfl, _⟩ := h; rfl) | (obtain ⟨rfl, _⟩ := h; rfl)) (fun cdv A outer s H E hr => ⟨_,
    (wss_one (ws_ret (we_or (we_cmp op_dNotIn (we_ix (we_var (pv 0)) (we_c pe_int)) (we_tup (wa_cons (we_c pe_str) (wa_cons (we_c pe_str) wa_nil))) (by with_unfolding_all rfl)) (we_one (we_cmp op_dLt (we_ix (we_var (pv 0)) (we_neg (we_c pe_int))) (we_var (pv 1)) (nomark _)))))),
    fun es P h => by
      obtain ⟨d, m, rfl, hr, ok, hp⟩ := h
      obtain ⟨w', x, r, rfl⟩ := isRow_tup hr
      walk_at "red"
      refine ⟨line_big (by omega), _, rfl, _, rfl, ?_⟩
      simp only [isLed] at hp
      by_cases e : w' ∈ (["if", "go"] : List Str)
      · rw [if_pos e] at hp
        refine ifF (by rw [decide_eq_true e]; rfl) ?_
        have e' := e
        simp only [List.mem_cons, List.not_mem_nil, or_false] at e'
        rw [isRow_str'] at hr
        rcases e' with e1 | e1
        · rw [if_neg (by rw [e1]; decide), if_neg (by rw [e1]; decide), if_neg (by rw [e1]; decide), if_pos e1] at hr
          match r, hr, hp with
          | [b], hr, hp =>
            simp only [Bool.and_eq_true] at hr
            cases b with
            | int t => exact ⟨.int t, rfl, hp⟩
            | _ => cases hr.2
          | [], h, _ => cases h
          | _ :: _ :: _, h, _ => cases h
        · rw [if_neg (by rw [e1]; decide), if_neg (by rw [e1]; decide), if_neg (by rw [e1]; decide), if_neg (by rw [e1]; decide), if_pos e1] at hr
          match r, hr, hp with
          | [], hr, hp =>
            cases x with
            | int t => exact ⟨.int t, rfl, hp⟩
            | _ => cases hr
          | _ :: _, h, _ => cases h
      · rw [if_neg e] at hp
        exact ifT (by rw [decide_eq_false e]; rfl) hp⟩)
def lastWord (d : D) : Bool := match d with
  | .tup (.str w :: _) => decide (w ∈ (["go", "back"] : List Str))
  | _ => false
def isRows : D → Bool
  | .tup xs => decide (1 ≤ xs.length) && decide (xs.length ≤ 12) && (xs.all isRow && lastWord (lastD xs)) && xs.all (isLed (xs.length : Int))
  | _ => false
theorem at_last : ∀ {xs : List D}, xs ≠ [] → atI xs (-1) = some (lastD xs)
  | [], h => absurd rfl h
  | x :: r, _ => by
    have e : atI (x :: r) (-1) = (x :: r)[r.length]? := by
      unfold atI ixN
      simp only [List.length_cons]
      rw [if_neg (by omega)]
      simp
      split
      · rw [show (-1 + ((r.length : Int) + 1)).toNat = r.length by omega]
        simp
      · omega
    rw [e]
    have g : ∀ (r : List D) (x : D), (x :: r)[r.length]? = some (lastD (x :: r)) := by
      intro r
      induction r with
      | nil => intro x; rfl
      | cons y r ih =>
        intro x
        have := ih y
        simpa [lastD] using this
    exact g r x
theorem mem_last : ∀ {xs : List D}, xs ≠ [] → lastD xs ∈ xs
  | [], h => absurd rfl h
  | [x], _ => List.mem_singleton.mpr rfl
  | x :: y :: r, _ => List.mem_cons_of_mem _ (mem_last (xs := y :: r) (by simp))
theorem ok_are_rows (T : Txt K mg) : FnOk P w K mg base CX0 8 T.d_are_rows.f T.d_are_rows.fd ["value"] (spD fun es P _ => (pure1 Good fun d => .bl (isRows d)) es P) :=
  fn_ok T.d_are_rows.F sc_are_rows (fun es P h => by first | (obtain ⟨rfl, _⟩ := h; rfl) | exact pure1_len h | exact pure2_len h | exact pure3_len h | (obtain ⟨_, rfl, _⟩ := h; rfl) | (obtain ⟨_, _, rfl, _⟩ := h; rfl) | (obtain ⟨_, _, _, rfl, _⟩ := h; rfl) | (obtain ⟨_, _, _, _, rfl, _⟩ := h; rfl) | (obtain ⟨rfl, _⟩ := h; rfl)) (fun cdv A outer s H E hr => ⟨_,
    (wss_cons (ws_if (PW.pt (ww_or (wt_not (wt_val (we_isi (x1 := "tuple") tyIs_tuple rfl T.n_isinstance rfl T.n_tuple boot_tupleT (we_var (pv 0))))) (pw_or1 (wt_not (wt_chain op_dLe op_dLe (we_c pe_int) (we_callB call_fLen rfl T.n_len boot_lenB (wa_cons (we_var (pv 0)) wa_nil)) (we_k rfl T.m_MOST_ROWS))))))
        (wss_one (ws_ret (we_c pe_bl)))
        wss_nil)
      (wss_cons (ws_if (PW.pt (ww_or (wt_not (wt_val (we_callB (call_fAll rfl) rfl T.n_all boot_allB (wa_cons (we_lc (i := 1) (x := "row") rfl sc_are_rows.nd (wi_tup (we_var (pv 0))) (blkOk_by (N := ["value", "row"]) (sc := defScope s_are_rows) (by decide +kernel)) (fun _ _ _ _ _ => pg_name sc_are_rows.nd rfl (Or.inl rfl)) (fun _ _ _ _ _ => (we_call (ok_is_row T) (hr.mono (by decide)) rfl T.d_is_row.m T.d_is_row.F.kp T.d_is_row.b (wa_cons (we_var (pv 1)) wa_nil)))) wa_nil)))) (pw_or1 (wt_cmp op_dNotIn (we_ix (we_ix (we_var (pv 0)) (we_neg (we_c pe_int))) (we_c pe_int)) (we_tup (wa_cons (we_c pe_str) (wa_cons (we_c pe_str) wa_nil))) (by with_unfolding_all rfl)))))
        (wss_one (ws_ret (we_c pe_bl)))
        wss_nil)
      (wss_one (ws_ret (we_callB (call_fAll rfl) rfl T.n_all boot_allB (wa_cons (we_lc (i := 1) (x := "row") rfl sc_are_rows.nd (wi_tup (we_var (pv 0))) (blkOk_by (N := ["value", "row"]) (sc := defScope s_are_rows) (by decide +kernel)) (fun _ _ _ _ _ => pg_name sc_are_rows.nd rfl (Or.inl rfl)) (fun _ _ _ _ _ => (we_call (ok_is_led_within T) (hr.mono (by decide)) rfl T.d_is_led_within.m T.d_is_led_within.F.kp T.d_is_led_within.b (wa_cons (we_var (pv 1)) (wa_cons (we_callB call_fLen rfl T.n_len boot_lenB (wa_cons (we_var (pv 0)) wa_nil)) wa_nil))))) wa_nil)))))),
    fun es P h => by
      obtain ⟨d, rfl, ok, hp⟩ := h
      cases d with
      | tup xs =>
        have hl := ok.tup
        have few : xs.length < sizeLine := by rw [sizeLine_eq]; omega
        walk_at "red"
        simp only [isRows] at hp
        by_cases h1 : 1 ≤ xs.length
        · refine ifT (decide_eq_true (by omega)) ?_
          by_cases h2 : xs.length ≤ 12
          · refine ifF (by rw [decide_eq_true (show (xs.length : Int) ≤ 12 by omega)]; rfl) ⟨few, wEach_pure (fun d => .bl (isRow d)) (fun x hx P' hq => ⟨hl.2 x hx, hq⟩) ⟨_, bools_map isRow _, ?_⟩⟩
            rw [decide_eq_true h1, decide_eq_true h2] at hp
            rw [show (xs.map isRow).all id = xs.all isRow by simp [List.all_map]]
            cases h3 : xs.all isRow with
            | false =>
              rw [h3] at hp
              exact ifT rfl hp
            | true =>
              rw [h3] at hp
              have ne : xs ≠ [] := fun z => by rw [z] at h1; simp at h1
              have hr : isRow (lastD xs) = true := List.all_eq_true.mp h3 _ (mem_last ne)
              obtain ⟨w', x, r, er⟩ := isRow_tup hr
              refine ifF rfl ⟨_, at_last ne, ?_⟩
              rw [er] at hp ⊢
              refine ⟨.str w', at_0, line_big (by omega), _, rfl, _, rfl, ?_⟩
              simp only [lastWord] at hp
              by_cases e : w' ∈ (["go", "back"] : List Str)
              · rw [decide_eq_true e] at hp
                refine ifF (by rw [decide_eq_true e]; rfl) ⟨few, wEach_pure (fun d => .bl (isLed (xs.length : Int) d)) (fun x hx P' hq => ⟨x, _, ⟨rfl, rfl⟩, List.all_eq_true.mp h3 x hx, hl.2 x hx, hq⟩) ⟨_, bools_map (isLed (xs.length : Int)) _, ?_⟩⟩
                simpa [List.all_map] using hp
              · rw [decide_eq_false e] at hp
                exact ifT (by rw [decide_eq_false e]; rfl) hp
          · exact ifT (by rw [decide_eq_false (show ¬ (xs.length : Int) ≤ 12 by omega)]; rfl) (by simpa [h2] using hp)
        · exact ifF (decide_eq_false (by omega)) (by simpa [h1] using hp)
      | src _ => cases ok
      | fn _ => cases ok
      | exn _ _ _ => cases ok
      | sq _ _ => cases ok
      | ins _ _ _ => cases ok
      | dct _ _ => cases ok
      | _ => walk_at "red"; exact hp⟩)
def isProc : D → Bool
  | .tup [a, b, c] => isName a && isPars b && isRows c
  | _ => false
theorem ok_is_procedure (T : Txt K mg) : FnOk P w K mg base CX0 9 T.d_is_procedure.f T.d_is_procedure.fd ["value"] (spD fun es P _ => (pure1 Good fun d => .bl (isProc d)) es P) :=
  fn_ok T.d_is_procedure.F sc_is_procedure (fun es P h => by first | (obtain ⟨rfl, _⟩ := h; rfl) | exact pure1_len h | exact pure2_len h | exact pure3_len h | (obtain ⟨_, rfl, _⟩ := h; rfl) | (obtain ⟨_, _, rfl, _⟩ := h; rfl) | (obtain ⟨_, _, _, rfl, _⟩ := h; rfl) | (obtain ⟨_, _, _, _, rfl, _⟩ := h; rfl) | (obtain ⟨rfl, _⟩ := h; rfl)) (fun cdv A outer s H E hr => ⟨_,
    (wss_one (ws_ret (we_and (we_call (ok_is_tuple_of T) (hr.mono (by decide)) rfl T.d_is_tuple_of.m T.d_is_tuple_of.F.kp T.d_is_tuple_of.b (wa_cons (we_var (pv 0)) (wa_cons (we_c pe_int) wa_nil))) (we_and (we_call (ok_is_name T) (hr.mono (by decide)) rfl T.d_is_name.m T.d_is_name.F.kp T.d_is_name.b (wa_cons (we_ix (we_var (pv 0)) (we_c pe_int)) wa_nil)) (we_and (we_call (ok_are_parameters T) (hr.mono (by decide)) rfl T.d_are_parameters.m T.d_are_parameters.F.kp T.d_are_parameters.b (wa_cons (we_ix (we_var (pv 0)) (we_c pe_int)) wa_nil)) (we_one (we_call (ok_are_rows T) (hr.mono (by decide)) rfl T.d_are_rows.m T.d_are_rows.F.kp T.d_are_rows.b (wa_cons (we_ix (we_var (pv 0)) (we_c pe_int)) wa_nil)))))))),
    fun es P h => by
      obtain ⟨d, rfl, ok, hp⟩ := h
      cases d with
      | tup xs =>
        have hl := ok.tup
        walk_at "red"
        refine ⟨_, _, rfl, ok.ty, _, rfl, ?_⟩
        match xs, hl, hp with
        | [a, b, c], hl, hp =>
          have g := hl.2
          simp only [List.mem_cons, List.not_mem_nil, or_false, forall_eq_or_imp, forall_eq] at g
          simp only [isProc] at hp
          refine ifT rfl ⟨a, at_0, g.1, ?_⟩
          cases h1 : isName a <;> rw [h1] at hp
          · exact ifF rfl hp
          refine ifT rfl ⟨b, at_1, g.2.1, ?_⟩
          cases h2 : isPars b <;> rw [h2] at hp
          · exact ifF rfl hp
          exact ifT rfl ⟨c, at_2, g.2.2, hp⟩
        | [], _, hp => exact ifF rfl hp
        | [_], _, hp => exact ifF rfl hp
        | [_, _], _, hp => exact ifF rfl hp
        | _ :: _ :: _ :: _ :: r, _, hp => exact ifF (by simp only [tupl, List.length_cons]; exact decide_eq_false (by omega)) hp
      | src _ => cases ok
      | fn _ => cases ok
      | exn _ _ _ => cases ok
      | sq _ _ => cases ok
      | ins _ _ _ => cases ok
      | dct _ _ => cases ok
      | _ => walk_at "red"; exact ⟨_, _, rfl, ok.ty, _, rfl, ifF rfl hp⟩⟩)
end
end K07

set_option maxHeartbeats 2000000
namespace K07
open PySem PySem.Spec PyProof.Rows L2 DL
variable [TabCtx]
local macro_rules | `(tactic| walk_at "red") => `(tactic| simp only [gRetG, gSeqHF, dInI, fIsC2, gFor3, gForH3, gStoreH, fwSortSet, wzMeth, wFell, fwCat, gForELH, wDGet2, fDict, dRepT, gSeqF, gSeqHF, gDoneF, gAccF, fwIf, gParAcc, gForHS, dRep, wDNIn, wD0, gClearH, fIsC, dNeI, DL.tyD_dct, DL.isInt_dct, DL.isStr_dct, DL.isBl_dct, DL.isTup_dct, DL.isLst_dct, wSortC, gExtH, fwList, wiSeq, seqOf_lst, seqOf_tup, wiAny, wzE, wzOpL, wzIf, gzRet, gzSet, gzDrop, gPar, wLcZ, wiZip, wTupRg3, wiRg3, fMin, fAbs, fMaxL, fMinL, gUn2, gUn3, gUn2L, gFor2L, wLcI, wLam3, gSrc, or_false, false_or, exists_false, false_and, and_false, wDc3, gAcc, gSeqH, gForEH, gForE, gForH, gIfH, gLift, gNextH, gAppendH, gAppend, gDone, gSetH, DL.seen, dIsN, dNotN, wDc, wFld, wMeth, wDIn, wDIx, wDGetN, wNew, wzNew, wLcI, gField, gCL, fLenQ, dIxQ, wNeK, wIndex, gTryRet, gTryDrop, wzCall, wzCallL, wTold, fIsE, fRepr, wJoin, wDGet, wVals, dPow, wSrc, gSrcSet, dMulS, dFdivS, fInt, fMax, fTuple, fList, startD, gNext, gSeq, gRet, gSet, gIf, gDrop, gRaise, gFor, wVar, wC, wOp, wTest, wChain, wAnd, wOr, wNot, wtAnd, wtOr, wtNot, wIf, waNil, waCons, wTup, wLst, wCall, quiet, wIsi, wInK, wLc, wiStr, wiTup, wiLst, wiRange, wSl, woNone, woSome, dSl, wNeg, dNeg, fLen, fAll, dEq, dNe, dLe, dLt, dGe, dGt, dAdd, dSub, dMod, dIx, dIn, dIsB, strsOf, boolsOf, DL.tyD_non, at_0, at_1, at_2, at_3, at_4, DL.isInt_non, DL.isStr_non, DL.isBl_non, DL.isTup_non, DL.isLst_non, DL.tyD_bl, DL.isInt_bl, DL.isStr_bl, DL.isBl_bl, DL.isTup_bl, DL.isLst_bl, DL.tyD_int, DL.isInt_int, DL.isStr_int, DL.isBl_int, DL.isTup_int, DL.isLst_int, DL.tyD_str, DL.isInt_str, DL.isStr_str, DL.isBl_str, DL.isTup_str, DL.isLst_str, DL.tyD_lst, DL.isInt_lst, DL.isStr_lst, DL.isBl_lst, DL.isTup_lst, DL.isLst_lst, DL.tyD_tup, DL.isInt_tup, DL.isStr_tup, DL.isBl_tup, DL.isTup_tup, DL.isLst_tup, pure1, pure2, pure3, Option.map_some,
  List.map_cons, List.map_nil, List.length_cons, List.length_nil, List.cons_append, List.nil_append, List.getElem?_cons_zero, List.getElem?_cons_succ, Option.some.injEq, exists_eq_left', exists_eq_left, exists_eq_right, exists_eq_right', D.bl.injEq, D.int.injEq, D.str.injEq, D.tup.injEq, D.lst.injEq, D.fn.injEq, D.sq.injEq, D.exn.injEq, List.cons.injEq, and_true, true_and, and_self, exists_and_left, exists_and_right, Option.isSome_some, List.set_cons_zero, List.set_cons_succ, if_true, Bool.false_eq_true, if_false, Bool.not_true, Bool.not_false, reduceCtorEq, List.replicate, Nat.reduceSub, Nat.reduceAdd])
section
variable {P : Program} {w : World} {K : PySem.W.Frag} {mg : Str → Option Value} {base : Heap}
def nameOf : D → Str
  | .tup (.str n :: _) => n
  | _ => ""
def parsLen : D → Nat
  | .tup (_ :: .tup ps :: _) => ps.length
  | _ => 0
def firstWrong : Nat → List Str → List D → D
  | _, _, [] => .non
  | k, ah, x :: xs => if (!isProc x) = true then .int k else if nameOf x ∈ ah then .int k else if k = 0 ∧ 0 < parsLen x then .int k else firstWrong (k + 1) (ah ++ [nameOf x]) xs
theorem strs_map : ∀ ns : List Str, strsOf (ns.map D.str) = some ns
  | [] => rfl
  | n :: ns => by simp [strsOf, strs_map ns]
theorem proc_shape {x : D} (h : isProc x = true) : ∃ (n : Str) (ps : List D) (rows : D), x = .tup [.str n, .tup ps, rows] := by
  cases x with
  | tup xs =>
    match xs, h with
    | [a, b, c], h =>
      simp only [isProc, Bool.and_eq_true] at h
      obtain ⟨⟨h1, h2⟩, _⟩ := h
      cases a with
      | str n =>
        cases b with
        | tup ps => exact ⟨n, ps, c, rfl⟩
        | _ => cases h2
      | _ => cases h1
    | [], h => cases h
    | [_], h => cases h
    | [_, _], h => cases h
    | _ :: _ :: _ :: _ :: _, h => cases h
  | _ => cases h
theorem ok_first_wrong_procedure (T : Txt K mg) : FnOk P w K mg base CX0 10 T.d_first_wrong_procedure.f T.d_first_wrong_procedure.fd ["procedures"] (spD fun es P _ => (fun es P => ∃ xs, es = [.tup xs] ∧ Good (.tup xs) ∧ P (firstWrong 0 [] xs)) es P) :=
  fn_ok T.d_first_wrong_procedure.F sc_first_wrong_procedure (fun es P h => by first | (obtain ⟨rfl, _⟩ := h; rfl) | exact pure1_len h | exact pure2_len h | exact pure3_len h | (obtain ⟨_, rfl, _⟩ := h; rfl) | (obtain ⟨_, _, rfl, _⟩ := h; rfl) | (obtain ⟨_, _, _, rfl, _⟩ := h; rfl) | (obtain ⟨_, _, _, _, rfl, _⟩ := h; rfl) | (obtain ⟨rfl, _⟩ := h; rfl)) (fun cdv A outer s H E hr => ⟨_,
    (wss_acc sc_first_wrong_procedure.nd rfl (by first | exact .inl rfl | exact .inr rfl) (fw_lst wa_nil)
      (hss_cons (hs_forE (by decide) (by decide) PassesOwn.never rfl rfl T.n_enumerate (we_var (pv 0)) (pg_name (i := 2) sc_first_wrong_procedure.nd rfl (by first | exact .inl rfl | exact .inr rfl)) (pg_name (i := 3) sc_first_wrong_procedure.nd rfl (by first | exact .inl rfl | exact .inr rfl))
        (hss_cons (hs_if (PW.pt (ww_or (wt_not (wt_val (we_call (ok_is_procedure T) (hr.mono (by decide)) rfl T.d_is_procedure.m T.d_is_procedure.F.kp T.d_is_procedure.b (wa_cons (we_var (pv 3)) wa_nil)))) (pw_or1 (wt_cmp op_dIn (we_ix (we_var (pv 3)) (we_c pe_int)) (we_var (pv 1)) (by with_unfolding_all rfl)))))
          (hss_done (wss_one (ws_ret (we_var (pv 2)))))
          hss_nil)
        (hss_cons (hs_lift (ws_if (PW.pt (ww_and (wt_cmp (op_dEq hr.units) (we_var (pv 2)) (we_c pe_int) (nomark _)) (pw_and1 (wt_cmp op_dGt (we_callB call_fLen rfl T.n_len boot_lenB (wa_cons (we_ix (we_var (pv 3)) (we_c pe_int)) wa_nil)) (we_c pe_int) (nomark _)))))
          (wss_one (ws_ret (we_var (pv 2))))
          wss_nil))
        (hss_one (hs_appendH (pv 1) (we_ix (we_var (pv 3)) (we_c pe_int)))))))
      (hss_one (hs_lift (ws_ret (we_c pe_non)))))),
    fun es P h => by
      obtain ⟨xs, rfl, ok, hp⟩ := h
      have hl := ok.tup
      walk_at "red"
      refine ⟨by decide, line_big (by omega), fun p => ⟨fun j ds dv => (∃ x2 x3, ds = [some (.tup xs), some (.fn p), x2, x3]) ∧ j ≤ xs.length ∧ ∃ ns : List Str, dv = ns.map D.str ∧ ns.length = j ∧ firstWrong 0 [] xs = firstWrong j ns (xs.drop j), ⟨⟨_, _, rfl⟩, Nat.zero_le _, [], rfl, rfl, rfl⟩, ?_, ?_⟩⟩
      · rintro j x ds' dv' hx ⟨⟨x2, x3, rfl⟩, hj, ns, rfl, hn, hf⟩
        have hx0 := List.getElem?_eq_some_iff.mp hx
        obtain ⟨hlt, hxe⟩ := hx0
        have ed : xs.drop j = x :: xs.drop (j + 1) := by rw [List.drop_eq_getElem_cons hlt, hxe]
        have gx : Good x := hl.2 x (List.mem_of_getElem? hx)
        refine ⟨x, rfl, gx, ?_⟩
        have hq0 : firstWrong 0 [] xs = if (!isProc x) = true then .int j else if nameOf x ∈ ns then .int j else if j = 0 ∧ 0 < parsLen x then .int j else firstWrong (j + 1) (ns ++ [nameOf x]) (xs.drop (j + 1)) := by
          rw [hf, ed]
          rfl
        cases h1 : isProc x with
        | false =>
          rw [hq0, h1] at hp
          exact ifT rfl ⟨_, rfl, hp⟩
        | true =>
          rw [h1, if_neg (by decide)] at hq0
          obtain ⟨n, ps, rows, rfl⟩ := proc_shape h1
          refine ifF rfl ⟨_, rfl, .str n, at_0, _, rfl, ns, strs_map ns, ?_⟩
          have hq : firstWrong 0 [] xs = if n ∈ ns then .int j else if j = 0 ∧ 0 < ps.length then .int j else firstWrong (j + 1) (ns ++ [n]) (xs.drop (j + 1)) := hq0
          by_cases h2 : n ∈ ns
          · rw [hq, if_pos h2] at hp
            exact ifT (decide_eq_true h2) ⟨_, rfl, hp⟩
          rw [if_neg h2] at hq
          have few : (ns.map D.str).length < sizeLine := by rw [List.length_map, sizeLine_eq]; omega
          refine ifF (decide_eq_false h2) ⟨_, rfl, ?_⟩
          by_cases h3 : j = 0
          · refine ifT (c := decide ((j : Int) = 0)) (decide_eq_true (by omega)) ⟨_, rfl, .tup ps, at_1, ?_⟩
            by_cases h4 : 0 < ps.length
            · rw [hq, if_pos ⟨h3, h4⟩] at hp
              exact ifT (c := decide (0 < (ps.length : Int))) (decide_eq_true (by omega)) ⟨_, rfl, hp⟩
            · rw [if_neg fun z => h4 z.2] at hq
              exact ifF (c := decide (0 < (ps.length : Int))) (decide_eq_false (by omega)) ⟨_, rfl, .str n, at_0, few, ⟨_, _, rfl⟩, hlt, ns ++ [n], by simp, by simp [hn], hq⟩
          · rw [if_neg fun z => h3 z.1] at hq
            exact ifF (c := decide ((j : Int) = 0)) (decide_eq_false (by omega)) ⟨_, rfl, .str n, at_0, few, ⟨_, _, rfl⟩, hlt, ns ++ [n], by simp, by simp [hn], hq⟩
      · rintro ds' dv' ⟨⟨x2, x3, rfl⟩, hj, ns, rfl, hn, hf⟩
        rw [hf, List.drop_length] at hp
        exact hp⟩)
end
end K07

set_option maxHeartbeats 2000000
namespace K07
open PySem PySem.Spec PyProof.Rows L2 DL
variable [TabCtx]
local macro_rules | `(tactic| walk_at "red") => `(tactic| simp only [gRetG, gSeqHF, dInI, fIsC2, gFor3, gForH3, gStoreH, fwSortSet, wzMeth, wFell, fwCat, gForELH, wDGet2, fDict, dRepT, gSeqF, gSeqHF, gDoneF, gAccF, fwIf, gParAcc, gForHS, dRep, wDNIn, wD0, gClearH, fIsC, dNeI, DL.tyD_dct, DL.isInt_dct, DL.isStr_dct, DL.isBl_dct, DL.isTup_dct, DL.isLst_dct, wSortC, gExtH, fwList, wiSeq, seqOf_lst, seqOf_tup, wiAny, wzE, wzOpL, wzIf, gzRet, gzSet, gzDrop, gPar, wLcZ, wiZip, wTupRg3, wiRg3, fMin, fAbs, fMaxL, fMinL, gUn2, gUn3, gUn2L, gFor2L, wLcI, wLam3, gSrc, or_false, false_or, exists_false, false_and, and_false, wDc3, gAcc, gSeqH, gForEH, gForE, gForH, gIfH, gLift, gNextH, gAppendH, gAppend, gDone, gSetH, DL.seen, dIsN, dNotN, wDc, wFld, wMeth, wDIn, wDIx, wDGetN, wNew, wzNew, wLcI, gField, gCL, fLenQ, dIxQ, wNeK, wIndex, gTryRet, gTryDrop, wzCall, wzCallL, wTold, fIsE, fRepr, wJoin, wDGet, wVals, dPow, wSrc, gSrcSet, dMulS, dFdivS, fInt, fMax, fTuple, fList, startD, gNext, gSeq, gRet, gSet, gIf, gDrop, gRaise, gFor, wVar, wC, wOp, wTest, wChain, wAnd, wOr, wNot, wtAnd, wtOr, wtNot, wIf, waNil, waCons, wTup, wLst, wCall, quiet, wIsi, wInK, wLc, wiStr, wiTup, wiLst, wiRange, wSl, woNone, woSome, dSl, wNeg, dNeg, fLen, fAll, dEq, dNe, dLe, dLt, dGe, dGt, dAdd, dSub, dMod, dIx, dIn, dIsB, strsOf, boolsOf, DL.tyD_non, at_0, at_1, at_2, at_3, at_4, DL.isInt_non, DL.isStr_non, DL.isBl_non, DL.isTup_non, DL.isLst_non, DL.tyD_bl, DL.isInt_bl, DL.isStr_bl, DL.isBl_bl, DL.isTup_bl, DL.isLst_bl, DL.tyD_int, DL.isInt_int, DL.isStr_int, DL.isBl_int, DL.isTup_int, DL.isLst_int, DL.tyD_str, DL.isInt_str, DL.isStr_str, DL.isBl_str, DL.isTup_str, DL.isLst_str, DL.tyD_lst, DL.isInt_lst, DL.isStr_lst, DL.isBl_lst, DL.isTup_lst, DL.isLst_lst, DL.tyD_tup, DL.isInt_tup, DL.isStr_tup, DL.isBl_tup, DL.isTup_tup, DL.isLst_tup, pure1, pure2, pure3, Option.map_some,
  List.map_cons, List.map_nil, List.length_cons, List.length_nil, List.cons_append, List.nil_append, List.getElem?_cons_zero, List.getElem?_cons_succ, Option.some.injEq, exists_eq_left', exists_eq_left, exists_eq_right, exists_eq_right', D.bl.injEq, D.int.injEq, D.str.injEq, D.tup.injEq, D.lst.injEq, D.fn.injEq, D.sq.injEq, D.exn.injEq, List.cons.injEq, and_true, true_and, and_self, exists_and_left, exists_and_right, Option.isSome_some, List.set_cons_zero, List.set_cons_succ, if_true, Bool.false_eq_true, if_false, Bool.not_true, Bool.not_false, reduceCtorEq, List.replicate, Nat.reduceSub, Nat.reduceAdd])
section
variable {P : Program} {w : World} {K : PySem.W.Frag} {mg : Str → Option Value} {base : Heap}
def keysOf (xs : List D) : List Key := xs.map fun x => Sum.inr (nameOf x)
def lensOf (xs : List D) : List D := xs.map fun x => .int (parsLen x : Int)
theorem putD_new {q : Key} {z : D} : ∀ {ks : List Key} {es : List D}, q ∉ ks → ks.length = es.length → putD ks es q z = (ks ++ [q], es ++ [z])
  | [], [], _, _ => rfl
  | [], _ :: _, _, h => by simp at h
  | _ :: _, [], _, h => by simp at h
  | k :: ks, d :: ds, hq, h => by
    have e : ¬ k = q := fun z => hq (by rw [z]; exact List.mem_cons_self)
    unfold putD
    rw [if_neg e, putD_new (fun z => hq (List.mem_cons_of_mem _ z)) (by simpa using h)]
    rfl
theorem eachD_counts {f g : D → (D → Prop) → Prop} : ∀ {ys : List D} {ks : List Key} {es : List D} {P : List Key → List D → Prop}, (∀ y ∈ ys, isProc y = true) → (∀ y ∈ ys, ∀ Q : D → Prop, Q (.str (nameOf y)) → f y Q) → (∀ y ∈ ys, ∀ Q : D → Prop, Q (.int (parsLen y : Int)) → g y Q) →
    ks.Nodup → ks.length = es.length → (keysOf ys).Nodup → (∀ y ∈ ys, Sum.inr (nameOf y) ∉ ks) → es.length + ys.length < 100000 → P (ks ++ keysOf ys) (es ++ lensOf ys) → wEachD f g ys ks es P
  | [], ks, es, P, _, _, _, _, _, _, _, _, h => by simpa [wEachD, keysOf, lensOf] using h
  | y :: ys, ks, es, P, hp, hf, hg, nd, hl, nk, hn, hz, h => by
    have ny := hn y List.mem_cons_self
    obtain ⟨nk1, nk2⟩ := List.nodup_cons.mp (show (Sum.inr (nameOf y) :: keysOf ys).Nodup from nk)
    refine hf y List.mem_cons_self _ (hg y List.mem_cons_self _ ⟨Sum.inr (nameOf y), rfl, Nat.lt_of_lt_of_le (show es.length < 100000 by omega) (line_big (Nat.le_refl _)), hl, nd, ?_⟩)
    rw [putD_new ny hl]
    refine eachD_counts (fun z hz' => hp z (List.mem_cons_of_mem _ hz')) (fun z hz' => hf z (List.mem_cons_of_mem _ hz')) (fun z hz' => hg z (List.mem_cons_of_mem _ hz')) ?_ (by simp [hl]) nk2 (fun z hz' hm => ?_) (by simp at hz ⊢; omega) (by simpa [keysOf, lensOf] using h)
    · exact List.nodup_append.mpr ⟨nd, by simp, fun a ha b hb e => ny (by rw [List.mem_singleton.mp hb] at e; rw [← e]; exact ha)⟩
    · rcases List.mem_append.mp hm with z1 | z1
      · exact hn z (List.mem_cons_of_mem _ hz') z1
      · exact nk1 (by rw [← List.mem_singleton.mp z1]; exact List.mem_map.mpr ⟨z, hz', rfl⟩)
def rowsOf : D → List D
  | .tup [_, _, .tup rs] => rs
  | _ => []
def badRow (ks : List Key) (es : List D) : D → Bool
  | .tup [.str w, _, .str c, .tup ops] => decide (w = "call") && (match valD ks es (Sum.inr c) with | some (.int n) => !decide (n = (ops.length : Int)) | _ => true)
  | _ => false
def wrongCaller (ks : List Key) (es : List D) : Nat → List D → D
  | _, [] => .non
  | k, x :: xs => if (rowsOf x).any (badRow ks es) = true then .int k else wrongCaller ks es (k + 1) xs
theorem proc_rows {x : D} (h : isProc x = true) : ∃ (n : Str) (ps rs : List D), x = .tup [.str n, .tup ps, .tup rs] ∧ rs.all isRow = true := by
  obtain ⟨n, ps, rows, rfl⟩ := proc_shape h
  simp only [isProc, Bool.and_eq_true] at h
  cases rows with
  | tup rs =>
    have h2 := h.2
    simp only [isRows, Bool.and_eq_true] at h2
    exact ⟨n, ps, rs, rfl, h2.1.2.1⟩
  | _ => cases h.2
theorem call_shape {w' : Str} {x : D} {r : List D} (h : isRow (.tup (.str w' :: x :: r)) = true) (e : w' = "call") : ∃ (c : Str) (ops : List D), r = [.str c, .tup ops] := by
  rw [isRow_str', if_neg (by rw [e]; decide), if_pos e] at h
  match r, h with
  | [b, c], h =>
    simp only [Bool.and_eq_true] at h
    obtain ⟨⟨_, h2⟩, h3⟩ := h
    cases b with
    | str z =>
      cases c with
      | tup ops => exact ⟨z, ops, rfl⟩
      | _ => cases h3
    | _ => cases h2
  | [], h => cases h
  | [_], h => cases h
  | _ :: _ :: _ :: _, h => cases h
theorem val_ints {ks : List Key} : ∀ {ys : List D} {q : Key} {d : D}, valD ks (lensOf ys) q = some d → ∃ n : Int, d = .int n := by
  induction ks with
  | nil => intro ys q d h; simp [valD] at h
  | cons k ks ih =>
    intro ys q d h
    cases ys with
    | nil => simp [lensOf, valD] at h
    | cons y ys =>
      have h' : (if k = q then some (D.int (parsLen y : Int)) else valD ks (lensOf ys) q) = some d := h
      by_cases e : k = q
      · rw [if_pos e] at h'
        cases h'
        exact ⟨_, rfl⟩
      · rw [if_neg e] at h'
        exact ih h'
theorem ok_first_wrong_caller (T : Txt K mg) : FnOk P w K mg base CX0 1 T.d_first_wrong_caller.f T.d_first_wrong_caller.fd ["procedures"] (spD fun es P _ => (fun es P => ∃ xs, es = [.tup xs] ∧ Good (.tup xs) ∧ xs.all isProc = true ∧ (keysOf (xs.drop 1)).Nodup ∧ P (wrongCaller (keysOf (xs.drop 1)) (lensOf (xs.drop 1)) 0 xs)) es P) :=
  fn_ok T.d_first_wrong_caller.F sc_first_wrong_caller (fun es P h => by first | (obtain ⟨rfl, _⟩ := h; rfl) | exact pure1_len h | exact pure2_len h | exact pure3_len h | (obtain ⟨_, rfl, _⟩ := h; rfl) | (obtain ⟨_, _, rfl, _⟩ := h; rfl) | (obtain ⟨_, _, _, rfl, _⟩ := h; rfl) | (obtain ⟨_, _, _, _, rfl, _⟩ := h; rfl) | (obtain ⟨rfl, _⟩ := h; rfl)) (fun cdv A outer s H E hr => ⟨_,
    (wss_cons (ws_setDc3 (i := 1) (i1 := 5) (i2 := 6) (i3 := 7) rfl sc_first_wrong_caller.nd rfl rfl (wi_tup (we_sl (we_var (pv 0)) (wo_some (we_c pe_int)) wo_none)) (blkOk_by (N := ["procedures", "counts", "index", "procedure", "row", "name", "parameters", "_"]) (sc := defScope s_first_wrong_caller) (by decide +kernel)) (fun _ _ _ _ _ => pg_tup (n := 3) rfl (pgs_cons (pg_name (i := 5) sc_first_wrong_caller.nd rfl (Or.inl rfl)) (pgs_cons (pg_name (i := 6) sc_first_wrong_caller.nd rfl (Or.inl rfl)) (pgs_cons (pg_name (i := 7) sc_first_wrong_caller.nd rfl (Or.inl rfl)) pgs_nil)))) (fun _ _ _ _ _ => (we_var (pv 5))) (fun _ _ _ _ _ => (we_callB call_fLen rfl T.n_len boot_lenB (wa_cons (we_var (pv 6)) wa_nil))))
      (wss_cons (ws_forE PassesOwn.never rfl rfl T.n_enumerate (we_var (pv 0)) (pg_name (i := 2) sc_first_wrong_caller.nd rfl (by first | exact .inl rfl | exact .inr rfl)) (pg_name (i := 3) sc_first_wrong_caller.nd rfl (by first | exact .inl rfl | exact .inr rfl))
        (wss_one (ws_for (x := "") PassesOwn.never rfl (wi_tup (we_ix (we_var (pv 3)) (we_c pe_int))) (pg_name (i := 4) sc_first_wrong_caller.nd rfl (by first | exact .inl rfl | exact .inr rfl))
          (wss_one (ws_if (PW.pt (ww_and (wt_cmp (op_dEq hr.units) (we_ix (we_var (pv 4)) (we_c pe_int)) (we_c pe_str) (nomark _)) (pw_and1 (wt_cmp (op_dNe hr.units) (we_dget1 (hu_of hr) (we_var (pv 1)) (we_ix (we_var (pv 4)) (we_c pe_int)) ⟨rfl, rfl, rfl, rfl⟩) (we_callB call_fLen rfl T.n_len boot_lenB (wa_cons (we_ix (we_var (pv 4)) (we_c pe_int)) wa_nil)) (nomark _)))))
            (wss_one (ws_ret (we_var (pv 2))))
            wss_nil)))))
      (wss_one (ws_ret (we_c pe_non))))),
    fun es P h => by
      obtain ⟨xs, rfl, ok, hpr, hnd, hp⟩ := h
      have hl := ok.tup
      have hproc := List.all_eq_true.mp hpr
      walk_at "red"
      rw [show DL.cutD xs (some 1) none = xs.drop 1 from cut_drop xs 1]
      refine eachD_counts (fun y hy => hproc y (List.mem_of_mem_drop hy)) (fun y hy Q hq => ?_) (fun y hy Q hq => ?_) List.nodup_nil rfl hnd (fun y _ z => nomatch z) (by simp; omega) ?_
      · obtain ⟨n, ps, rs, rfl, _⟩ := proc_rows (hproc y (List.mem_of_mem_drop hy))
        exact ⟨_, _, _, rfl, _, rfl, hq⟩
      · obtain ⟨n, ps, rs, rfl, _⟩ := proc_rows (hproc y (List.mem_of_mem_drop hy))
        exact ⟨_, _, _, rfl, _, rfl, hq⟩
      rw [List.nil_append, List.nil_append]
      generalize hks : keysOf (xs.drop 1) = ks at hp
      generalize hes : lensOf (xs.drop 1) = les at hp
      refine ⟨fun j ds => (∃ x2 x3 x4, ds = [some (.tup xs), some (.dct ks les), x2, x3, x4, none, none, none]) ∧ j ≤ xs.length ∧ wrongCaller ks les 0 xs = wrongCaller ks les j (xs.drop j), ⟨⟨_, _, _, rfl⟩, Nat.zero_le _, rfl⟩, ?_, ?_⟩
      · rintro j x ds' hx ⟨⟨x2, x3, x4, rfl⟩, hj, hf⟩
        obtain ⟨hlt, hxe⟩ := List.getElem?_eq_some_iff.mp hx
        have ed : xs.drop j = x :: xs.drop (j + 1) := by rw [List.drop_eq_getElem_cons hlt, hxe]
        have gx : Good x := hl.2 x (List.mem_of_getElem? hx)
        obtain ⟨n, ps, rs, rfl, hrs⟩ := proc_rows (hproc x (List.mem_of_getElem? hx))
        have hq : wrongCaller ks les 0 xs = if rs.any (badRow ks les) = true then .int j else wrongCaller ks les (j + 1) (xs.drop (j + 1)) := by
          rw [hf, ed]
          rfl
        refine ⟨_, rfl, .tup rs, at_2, rs, rfl, fun i ds => (∃ x4, ds = [some (.tup xs), some (.dct ks les), some (.int j), some (.tup [.str n, .tup ps, .tup rs]), x4, none, none, none]) ∧ i ≤ rs.length ∧ rs.any (badRow ks les) = (rs.drop i).any (badRow ks les), ⟨⟨_, rfl⟩, Nat.zero_le _, rfl⟩, ?_, ?_⟩
        · rintro i row ds' hrow ⟨⟨x4', rfl⟩, hi, hany⟩
          obtain ⟨hlt2, hre⟩ := List.getElem?_eq_some_iff.mp hrow
          have ed2 : rs.drop i = row :: rs.drop (i + 1) := by rw [List.drop_eq_getElem_cons hlt2, hre]
          rw [ed2, List.any_cons] at hany
          have hrw : isRow row = true := List.all_eq_true.mp hrs row (List.mem_of_getElem? hrow)
          obtain ⟨w', x, r, rfl⟩ := isRow_tup hrw
          refine ⟨_, rfl, .str w', at_0, ?_⟩
          by_cases e : w' = "call"
          · obtain ⟨c, ops, rfl⟩ := call_shape hrw e
            have hb : badRow ks les (.tup [.str w', x, .str c, .tup ops]) = (match valD ks les (Sum.inr c) with | some (.int n) => !decide (n = (ops.length : Int)) | _ => true) := by
              show (decide (w' = "call") && _) = _
              rw [decide_eq_true e, Bool.true_and]
            refine ifT (decide_eq_true e) ⟨_, rfl, ks, les, rfl, _, rfl, .str c, at_2, .inr c, rfl, _, rfl, .tup ops, at_3, ?_⟩
            cases hv : valD ks les (Sum.inr c) with
            | none =>
              rw [hv] at hb
              rw [hb, Bool.true_or] at hany
              rw [hq, hany, if_pos rfl] at hp
              exact ⟨⟨rfl, rfl⟩, ⟨rfl, rfl⟩, ifT rfl ⟨_, rfl, hp⟩⟩
            | some d =>
              obtain ⟨m, rfl⟩ := val_ints (hes ▸ hv)
              rw [hv] at hb
              show if (!decide (m = (ops.length : Int))) = true then _ else _
              by_cases em : m = (ops.length : Int)
              · rw [hb] at hany
                simp only [decide_eq_true em, Bool.not_true, Bool.false_or] at hany
                exact ifF (by rw [decide_eq_true em]; rfl) ⟨⟨_, rfl⟩, hlt2, hany⟩
              · rw [hb] at hany
                simp only [decide_eq_false em, Bool.not_false, Bool.true_or] at hany
                rw [hq, hany, if_pos rfl] at hp
                exact ifT (by rw [decide_eq_false em]; rfl) ⟨_, rfl, hp⟩
          · have hb : badRow ks les (.tup (.str w' :: x :: r)) = false := by
              unfold badRow
              split
              · rename_i hh
                cases hh
                rw [decide_eq_false e, Bool.false_and]
              · rfl
            rw [hb, Bool.false_or] at hany
            exact ifF (decide_eq_false e) ⟨⟨_, rfl⟩, hlt2, hany⟩
        · rintro ds' ⟨⟨x4', rfl⟩, hi, hany⟩
          rw [List.drop_length] at hany
          refine ⟨⟨_, _, _, rfl⟩, hlt, ?_⟩
          rw [hq, hany]
          rfl
      · rintro ds' ⟨⟨x2, x3, x4, rfl⟩, hj, hf⟩
        rw [hf, List.drop_length] at hp
        exact hp⟩)
end
end K07


set_option maxHeartbeats 2000000
namespace K07
open PySem PySem.Spec PyProof.Rows L2 DL
variable [TabCtx]
local macro_rules | `(tactic| walk_at "red") => `(tactic| simp only [gRetG, gSeqHF, dInI, fIsC2, gFor3, gForH3, gStoreH, fwSortSet, wzMeth, wFell, fwCat, gForELH, wDGet2, fDict, dRepT, gSeqF, gSeqHF, gDoneF, gAccF, fwIf, gParAcc, gForHS, dRep, wDNIn, wD0, gClearH, fIsC, dNeI, DL.tyD_dct, DL.isInt_dct, DL.isStr_dct, DL.isBl_dct, DL.isTup_dct, DL.isLst_dct, wSortC, gExtH, fwList, wiSeq, seqOf_lst, seqOf_tup, wiAny, wzE, wzOpL, wzIf, gzRet, gzSet, gzDrop, gPar, wLcZ, wiZip, wTupRg3, wiRg3, fMin, fAbs, fMaxL, fMinL, gUn2, gUn3, gUn2L, gFor2L, wLcI, wLam3, gSrc, or_false, false_or, exists_false, false_and, and_false, wDc3, gAcc, gSeqH, gForEH, gForE, gForH, gIfH, gLift, gNextH, gAppendH, gAppend, gDone, gSetH, DL.seen, dIsN, dNotN, wDc, wFld, wMeth, wDIn, wDIx, wDGetN, wNew, wzNew, wLcI, gField, gCL, fLenQ, dIxQ, wNeK, wIndex, gTryRet, gTryDrop, wzCall, wzCallL, wTold, fIsE, fRepr, wJoin, wDGet, wVals, dPow, wSrc, gSrcSet, dMulS, dFdivS, fInt, fMax, fTuple, fList, startD, gNext, gSeq, gRet, gSet, gIf, gDrop, gRaise, gFor, wVar, wC, wOp, wTest, wChain, wAnd, wOr, wNot, wtAnd, wtOr, wtNot, wIf, waNil, waCons, wTup, wLst, wCall, quiet, wIsi, wInK, wLc, wiStr, wiTup, wiLst, wiRange, wSl, woNone, woSome, dSl, wNeg, dNeg, fLen, fAll, dEq, dNe, dLe, dLt, dGe, dGt, dAdd, dSub, dMod, dIx, dIn, dIsB, strsOf, boolsOf, DL.tyD_non, at_0, at_1, at_2, at_3, at_4, DL.isInt_non, DL.isStr_non, DL.isBl_non, DL.isTup_non, DL.isLst_non, DL.tyD_bl, DL.isInt_bl, DL.isStr_bl, DL.isBl_bl, DL.isTup_bl, DL.isLst_bl, DL.tyD_int, DL.isInt_int, DL.isStr_int, DL.isBl_int, DL.isTup_int, DL.isLst_int, DL.tyD_str, DL.isInt_str, DL.isStr_str, DL.isBl_str, DL.isTup_str, DL.isLst_str, DL.tyD_lst, DL.isInt_lst, DL.isStr_lst, DL.isBl_lst, DL.isTup_lst, DL.isLst_lst, DL.tyD_tup, DL.isInt_tup, DL.isStr_tup, DL.isBl_tup, DL.isTup_tup, DL.isLst_tup, pure1, pure2, pure3, Option.map_some,
  List.map_cons, List.map_nil, List.length_cons, List.length_nil, List.cons_append, List.nil_append, List.getElem?_cons_zero, List.getElem?_cons_succ, Option.some.injEq, exists_eq_left', exists_eq_left, exists_eq_right, exists_eq_right', D.bl.injEq, D.int.injEq, D.str.injEq, D.tup.injEq, D.lst.injEq, D.fn.injEq, D.sq.injEq, D.exn.injEq, List.cons.injEq, and_true, true_and, and_self, exists_and_left, exists_and_right, Option.isSome_some, List.set_cons_zero, List.set_cons_succ, if_true, Bool.false_eq_true, if_false, Bool.not_true, Bool.not_false, reduceCtorEq, List.replicate, Nat.reduceSub, Nat.reduceAdd])
section
variable {P : Program} {w : World} {K : PySem.W.Frag} {mg : Str → Option Value} {base : Heap}
theorem row_parts {r : D} (h : isRow r = true) (g : Good r) : Good (setBy r) ∧ ∃ os, opsOf r = .tup os ∧ os.length ≤ 2 ∧ ∀ o ∈ os, Good o := by
  obtain ⟨w', x, r, rfl⟩ := isRow_tup h
  have hl := g.tup.2
  have gx : Good x := hl x (by simp)
  have gr : ∀ o ∈ r, Good o := fun o ho => hl o (by simp [ho])
  refine ⟨?_, ?_⟩
  · show Good (if _ then x else D.non)
    split
    · exact gx
    · rfl
  simp only [isRow, isRowT] at h
  simp only [opsOf]
  by_cases e1 : w' = "set"
  · rw [if_pos e1] at h ⊢
    match r, h, gr with
    | [b, c, e], _, gr => exact ⟨_, rfl, Nat.le_refl _, fun o ho => gr o (List.mem_cons_of_mem _ ho)⟩
    | [], h, _ => cases h
    | [_], h, _ => cases h
    | [_, _], h, _ => cases h
    | _ :: _ :: _ :: _ :: _, h, _ => cases h
  rw [if_neg e1] at h ⊢
  by_cases e3 : w' = "copy"
  · rw [if_pos e3]
    rw [if_neg (by rw [e3]; decide), if_pos e3] at h
    match r, h, gr with
    | [b], _, gr => exact ⟨_, rfl, by simp, gr⟩
    | [], h, _ => cases h
    | _ :: _ :: _, h, _ => cases h
  rw [if_neg e3]
  by_cases e2 : w' = "call"
  · rw [if_pos e2] at h ⊢
    match r, h, gr with
    | [b, c], h, gr =>
      simp only [isCallR, Bool.and_eq_true] at h
      cases c with
      | tup ys =>
        have h2 := h.2
        simp only [isOps, Bool.and_eq_true, decide_eq_true_eq] at h2
        exact ⟨ys, rfl, by omega, (gr _ (by simp)).tup.2⟩
      | _ => cases h.2
    | [], h, _ => cases h
    | [_], h, _ => cases h
    | _ :: _ :: _ :: _, h, _ => cases h
  rw [if_neg e2]
  split
  · exact ⟨_, rfl, by simp, fun o ho => by rw [List.mem_singleton.mp ho]; exact gx⟩
  · exact ⟨_, rfl, by simp, fun o ho => nomatch ho⟩
def opsL (r : D) : List D := (seqOf (opsOf r)).getD []
def foundIn (rs : List D) : List D := rs.flatMap fun r => setBy r :: opsL r
def nameStr (d : D) : Option Str := match d with | .str s => if isName (.str s) = true then some s else none | _ => none
def varNames : D → List Str
  | .tup [_, .tup ps, .tup rs] => (ps ++ foundIn rs).filterMap nameStr
  | _ => []
omit [TabCtx] in
theorem found_more (rs : List D) (j : Nat) (h : j < rs.length) : foundIn (rs.take (j + 1)) = foundIn (rs.take j) ++ (setBy rs[j] :: opsL rs[j]) := by
  unfold foundIn
  rw [List.take_succ, List.getElem?_eq_getElem h, List.flatMap_append]
  simp
omit [TabCtx] in
theorem eachS_names {t : D → (Bool → Prop) → Prop} {f : D → (D → Prop) → Prop} {P : List Str → Prop} : ∀ {xs : List D}, (∀ x ∈ xs, ∀ Q : Bool → Prop, Q (isName x) → t x Q) → (∀ x ∈ xs, ∀ Q : D → Prop, Q x → f x Q) → P (xs.filterMap nameStr) → wEachS t f xs P
  | [], _, _, h => h
  | x :: xs, ht, hf, h => by
    unfold wEachS
    refine ht x List.mem_cons_self _ ?_
    have hn : isName x = true → ∃ s, x = .str s := fun e => by
      cases x with
      | str s => exact ⟨s, rfl⟩
      | _ => cases e
    cases e : isName x with
    | false =>
      rw [if_neg (by decide)]
      refine eachS_names (fun z hz => ht z (List.mem_cons_of_mem _ hz)) (fun z hz => hf z (List.mem_cons_of_mem _ hz)) ?_
      have no : nameStr x = none := by
        unfold nameStr
        split
        · rw [if_neg (by rw [e]; decide)]
        · rfl
      rw [List.filterMap_cons_none no] at h
      exact h
    | true =>
      rw [if_pos rfl]
      obtain ⟨s, rfl⟩ := hn e
      refine hf _ List.mem_cons_self _ ⟨s, rfl, eachS_names (fun z hz => ht z (List.mem_cons_of_mem _ hz)) (fun z hz => hf z (List.mem_cons_of_mem _ hz)) ?_⟩
      have yes : nameStr (.str s) = some s := by
        show (if isName (.str s) = true then some s else none) = some s
        rw [if_pos e]
      rw [List.filterMap_cons_some yes] at h
      exact h
theorem ok_variables (T : Txt K mg) : FnOk P w K mg base CX0 9 T.d_variables.f T.d_variables.fd ["procedure"] (spD fun es P _ => (fun es P => ∃ x, es = [x] ∧ Good x ∧ isProc x = true ∧ ∀ ss : List Str, ss.Nodup → (∀ z, z ∈ ss ↔ z ∈ varNames x) → sortedS ss = true → P (.tup (ss.map D.str))) es P) :=
  fn_ok T.d_variables.F sc_variables (fun es P h => by first | (obtain ⟨rfl, _⟩ := h; rfl) | exact pure1_len h | exact pure2_len h | exact pure3_len h | (obtain ⟨_, rfl, _⟩ := h; rfl) | (obtain ⟨_, _, rfl, _⟩ := h; rfl) | (obtain ⟨_, _, _, rfl, _⟩ := h; rfl) | (obtain ⟨_, _, _, _, rfl, _⟩ := h; rfl) | (obtain ⟨rfl, _⟩ := h; rfl)) (fun cdv A outer s H E hr => ⟨_,
    (wss_acc sc_variables.nd rfl (by first | exact .inl rfl | exact .inr rfl) (fw_list rfl T.n_list (we_ix (we_var (pv 0)) (we_c pe_int)))
      (hss_cons (hs_for (j := 2) (by decide) PassesOwn.never rfl (wi_sq (we_ix (we_var (pv 0)) (we_c pe_int))) (pg_name (i := 2) sc_variables.nd rfl (by first | exact .inl rfl | exact .inr rfl))
        (hss_cons (hs_appendH (pv 1) (we_callX (ok_set_by T) (hr.mono (by decide)) rfl T.d_set_by.m T.d_set_by.F.kp T.d_set_by.b (wa_cons (we_var (pv 2)) wa_nil)))
        (hss_one (hs_extH (pv 1) (we_callX (ok_operands_of T) (hr.mono (by decide)) rfl T.d_operands_of.m T.d_operands_of.F.kp T.d_operands_of.b (wa_cons (we_var (pv 2)) wa_nil))))))
      (hss_done (wss_one (ws_ret (we_callTy call_fTuple rfl T.n_tuple boot_tupleT (wa_cons (we_sortC (i := 3) (x := "part") rfl rfl T.n_sorted sc_variables.nd (wi_sq (we_var (pv 1))) (blkOk_by (N := ["procedure", "found", "row", "part"]) (sc := defScope s_variables) (by decide +kernel)) (fun _ _ _ _ _ => pg_name sc_variables.nd rfl (Or.inl rfl)) (fun _ _ _ _ _ => (wt_val (we_call (ok_is_name T) (hr.mono (by decide)) rfl T.d_is_name.m T.d_is_name.F.kp T.d_is_name.b (wa_cons (we_var (pv 3)) wa_nil)))) (fun _ _ _ _ _ => (we_var (pv 3)))) wa_nil))))))),
    fun es P h => by
      obtain ⟨x, rfl, ok, hpr, hp⟩ := h
      obtain ⟨n, ps, rs, rfl, hrs⟩ := proc_rows hpr
      have gl := ok.tup.2
      have gps : Good (.tup ps) := gl _ (by simp)
      have grs : Good (.tup rs) := gl _ (by simp)
      have lps := gps.tup.1
      have lrs := grs.tup.1
      walk_at "red"
      refine ⟨by decide, fun p => ⟨fun j ds dv => ∃ x2, ds = [some (.tup [.str n, .tup ps, .tup rs]), some (.fn p), x2, none] ∧ j ≤ rs.length ∧ dv = ps ++ foundIn (rs.take j) ∧ dv.length ≤ 100 + 3 * j ∧ ∀ d ∈ dv, Good d,
        ⟨_, rfl, Nat.zero_le _, by simp [foundIn], by omega, gps.tup.2⟩, ?_, ?_⟩⟩
      · rintro j r ds' dv hr ⟨x2, rfl, hj, hdv, hlen, hgd⟩
        obtain ⟨hlt, hre⟩ := List.getElem?_eq_some_iff.mp hr
        have hrow : isRow r = true := List.all_eq_true.mp hrs r (List.mem_of_getElem? hr)
        have gr : Good r := grs.tup.2 r (List.mem_of_getElem? hr)
        obtain ⟨gs, os, eo, lo, go⟩ := row_parts hrow gr
        refine ⟨nofun, r, rfl, r, rfl, gr, ?_⟩
        rw [if_neg (by rw [hrow]; decide)]
        refine ⟨?_, r, rfl, r, rfl, gr, ?_⟩
        · have : (100000 : Nat) ≤ sizeLine := line_big (Nat.le_refl _)
          omega
        rw [if_neg (by rw [hrow]; decide)]
        refine ⟨os, by rw [eo]; rfl, ?_, _, rfl, hlt, ?_, ?_, ?_⟩
        · have : (100000 : Nat) ≤ sizeLine := line_big (Nat.le_refl _)
          rw [List.length_append]
          simp
          omega
        · rw [found_more rs j hlt, hre, hdv]
          have : opsL r = os := by
            unfold opsL
            rw [eo]
            rfl
          rw [this]
          simp
        · simp
          omega
        · intro d hd
          simp only [List.mem_append, List.mem_singleton] at hd
          rcases hd with (h | rfl) | h
          · exact hgd d h
          · exact gs
          · exact go d h
      · rintro ds' dv ⟨x2, rfl, hj, hdv, hlen, hgd⟩
        rw [List.take_length] at hdv
        refine ⟨.lst dv, rfl, dv, rfl, by omega, eachS_names (fun z hz Q hq => ⟨z, rfl, hgd z hz, hq⟩) (fun z hz Q hq => ⟨z, rfl, hq⟩) ?_⟩
        intro ss nd same ord
        refine hp ss nd (fun z => ?_) ord
        rw [same z, hdv]
        rfl⟩)
end
end K07

set_option maxHeartbeats 2000000
namespace K07
open PySem PySem.Spec PyProof.Rows L2 DL
variable [TabCtx]
local macro_rules | `(tactic| walk_at "red") => `(tactic| simp only [gRetG, gSeqHF, dInI, fIsC2, gFor3, gForH3, gStoreH, fwSortSet, wzMeth, wFell, fwCat, gForELH, wDGet2, fDict, dRepT, gSeqF, gSeqHF, gDoneF, gAccF, fwIf, gParAcc, gForHS, dRep, wDNIn, wD0, gClearH, fIsC, dNeI, DL.tyD_dct, DL.isInt_dct, DL.isStr_dct, DL.isBl_dct, DL.isTup_dct, DL.isLst_dct, wSortC, gExtH, fwList, wiSeq, seqOf_lst, seqOf_tup, wiAny, wzE, wzOpL, wzIf, gzRet, gzSet, gzDrop, gPar, wLcZ, wiZip, wTupRg3, wiRg3, fMin, fAbs, fMaxL, fMinL, gUn2, gUn3, gUn2L, gFor2L, wLcI, wLam3, gSrc, or_false, false_or, exists_false, false_and, and_false, wDc3, gAcc, gSeqH, gForEH, gForE, gForH, gIfH, gLift, gNextH, gAppendH, gAppend, gDone, gSetH, DL.seen, dIsN, dNotN, wDc, wFld, wMeth, wDIn, wDIx, wDGetN, wNew, wzNew, wLcI, gField, gCL, fLenQ, dIxQ, wNeK, wIndex, gTryRet, gTryDrop, wzCall, wzCallL, wTold, fIsE, fRepr, wJoin, wDGet, wVals, dPow, wSrc, gSrcSet, dMulS, dFdivS, fInt, fMax, fTuple, fList, startD, gNext, gSeq, gRet, gSet, gIf, gDrop, gRaise, gFor, wVar, wC, wOp, wTest, wChain, wAnd, wOr, wNot, wtAnd, wtOr, wtNot, wIf, waNil, waCons, wTup, wLst, wCall, quiet, wIsi, wInK, wLc, wiStr, wiTup, wiLst, wiRange, wSl, woNone, woSome, dSl, wNeg, dNeg, fLen, fAll, dEq, dNe, dLe, dLt, dGe, dGt, dAdd, dSub, dMod, dIx, dIn, dIsB, strsOf, boolsOf, DL.tyD_non, at_0, at_1, at_2, at_3, at_4, DL.isInt_non, DL.isStr_non, DL.isBl_non, DL.isTup_non, DL.isLst_non, DL.tyD_bl, DL.isInt_bl, DL.isStr_bl, DL.isBl_bl, DL.isTup_bl, DL.isLst_bl, DL.tyD_int, DL.isInt_int, DL.isStr_int, DL.isBl_int, DL.isTup_int, DL.isLst_int, DL.tyD_str, DL.isInt_str, DL.isStr_str, DL.isBl_str, DL.isTup_str, DL.isLst_str, DL.tyD_lst, DL.isInt_lst, DL.isStr_lst, DL.isBl_lst, DL.isTup_lst, DL.isLst_lst, DL.tyD_tup, DL.isInt_tup, DL.isStr_tup, DL.isBl_tup, DL.isTup_tup, DL.isLst_tup, pure1, pure2, pure3, Option.map_some,
  List.map_cons, List.map_nil, List.length_cons, List.length_nil, List.cons_append, List.nil_append, List.getElem?_cons_zero, List.getElem?_cons_succ, Option.some.injEq, exists_eq_left', exists_eq_left, exists_eq_right, exists_eq_right', D.bl.injEq, D.int.injEq, D.str.injEq, D.tup.injEq, D.lst.injEq, D.fn.injEq, D.sq.injEq, D.exn.injEq, List.cons.injEq, and_true, true_and, and_self, exists_and_left, exists_and_right, Option.isSome_some, List.set_cons_zero, List.set_cons_succ, if_true, Bool.false_eq_true, if_false, Bool.not_true, Bool.not_false, reduceCtorEq, List.replicate, Nat.reduceSub, Nat.reduceAdd])
section
variable {P : Program} {w : World} {K : PySem.W.Frag} {mg : Str → Option Value} {base : Heap}
theorem eachD_rel {f g : D → (D → Prop) → Prop} {R : D → D → Prop} : ∀ {ys : List D} {ks : List Key} {es : List D} {P : List Key → List D → Prop}, (∀ y ∈ ys, ∀ Q : D → Prop, Q (.str (nameOf y)) → f y Q) → (∀ y ∈ ys, ∀ Q : D → Prop, (∀ z, R y z → Q z) → g y Q) →
    ks.Nodup → ks.length = es.length → (keysOf ys).Nodup → (∀ y ∈ ys, Sum.inr (nameOf y) ∉ ks) → es.length + ys.length < 100000 →
    (∀ zs : List D, zs.length = ys.length → (∀ (i : Nat) (y z : D), ys[i]? = some y → zs[i]? = some z → R y z) → P (ks ++ keysOf ys) (es ++ zs)) → wEachD f g ys ks es P
  | [], ks, es, P, _, _, _, _, _, _, _, h => by
    have z := h [] rfl (fun i y z e _ => by simp at e)
    simpa [wEachD, keysOf] using z
  | y :: ys, ks, es, P, hf, hg, nd, hl, nk, hn, hz, h => by
    have ny := hn y List.mem_cons_self
    obtain ⟨nk1, nk2⟩ := List.nodup_cons.mp (show (Sum.inr (nameOf y) :: keysOf ys).Nodup from nk)
    refine hf y List.mem_cons_self _ (hg y List.mem_cons_self _ fun z hR => ⟨Sum.inr (nameOf y), rfl, Nat.lt_of_lt_of_le (show es.length < 100000 by omega) (line_big (Nat.le_refl _)), hl, nd, ?_⟩)
    rw [putD_new ny hl]
    refine eachD_rel (R := R) (fun z hz' => hf z (List.mem_cons_of_mem _ hz')) (fun z hz' => hg z (List.mem_cons_of_mem _ hz')) ?_ (by simp [hl]) nk2 (fun z hz' hm => ?_) (by simp at hz ⊢; omega) (fun zs hzl hzr => ?_)
    · exact List.nodup_append.mpr ⟨nd, by simp, fun a ha b hb e => ny (by rw [List.mem_singleton.mp hb] at e; rw [← e]; exact ha)⟩
    · rcases List.mem_append.mp hm with z1 | z1
      · exact hn z (List.mem_cons_of_mem _ hz') z1
      · exact nk1 (by rw [← List.mem_singleton.mp z1]; exact List.mem_map.mpr ⟨z, hz', rfl⟩)
    · have := h (z :: zs) (by simp [hzl]) (fun i y' z' e1 e2 => by
        cases i with
        | zero =>
          simp at e1 e2
          rw [← e1, ← e2]
          exact hR
        | succ i => exact hzr i y' z' (by simpa using e1) (by simpa using e2))
      simpa [keysOf] using this
def VarOk (x v : D) : Prop := ∃ ss : List Str, ss.Nodup ∧ (∀ z, z ∈ ss ↔ z ∈ varNames x) ∧ sortedS ss = true ∧ v = .tup (ss.map D.str)
def VarsOf (xs vs : List D) : Prop := vs.length = xs.length ∧ ∀ (i : Nat) (x v : D), xs[i]? = some x → vs[i]? = some v → VarOk x v
def progItems : D → Option (List D)
  | .lst xs => if 1 ≤ xs.length ∧ xs.length ≤ 4 then some xs else none
  | .tup xs => if 1 ≤ xs.length ∧ xs.length ≤ 4 then some xs else none
  | _ => none
def wrongOf (xs : List D) : D := if isNonD (firstWrong 0 [] xs) = true then wrongCaller (keysOf (xs.drop 1)) (lensOf (xs.drop 1)) 0 xs else firstWrong 0 [] xs
def progFields (xs vs : List D) : List D := [.tup xs, .dct (keysOf xs) xs, .dct (keysOf xs) vs]
omit [TabCtx] in
theorem firstWrong_none : ∀ {xs : List D} {k : Nat} {ah : List Str}, isNonD (firstWrong k ah xs) = true → (∀ x ∈ xs, isProc x = true ∧ nameOf x ∉ ah) ∧ (keysOf xs).Nodup
  | [], _, _, _ => ⟨nofun, List.nodup_nil⟩
  | x :: xs, k, ah, h => by
    unfold firstWrong at h
    cases h1 : isProc x with
    | false =>
      rw [h1] at h
      cases h
    | true =>
      rw [h1, if_neg (by decide)] at h
      by_cases h2 : nameOf x ∈ ah
      · rw [if_pos h2] at h
        cases h
      · rw [if_neg h2] at h
        split at h
        · cases h
        · obtain ⟨z1, z2⟩ := firstWrong_none h
          refine ⟨fun y hy => ?_, List.nodup_cons.mpr ⟨fun hm => ?_, z2⟩⟩
          · rcases List.mem_cons.mp hy with rfl | hy
            · exact ⟨h1, h2⟩
            · exact ⟨(z1 y hy).1, fun z => (z1 y hy).2 (List.mem_append_left _ z)⟩
          · obtain ⟨y, hy, e⟩ := List.mem_map.mp hm
            exact (z1 y hy).2 (by
              have e' : nameOf y = nameOf x := Sum.inr.inj e
              rw [e']
              simp)
def at0P (y : D) (Q : D → Prop) : Prop := match y, D.int 0 with
  | D.tup ds, D.int i => ∃ d, atI ds i = some d ∧ Q d
  | D.lst ds, D.int i => ∃ d, atI ds i = some d ∧ Q d
  | D.str z, D.int i => z.length ≤ sizeLine ∧ ∃ c, atI z.cps.toList i = some c ∧ Q (D.str { cps := #[c] })
  | _, _ => False
def Fields (P : List D → Prop) (xs : List D) : Prop := ¬ Str.ofString "_procedures" ∈ List.take 0 [Str.ofString "_procedures", Str.ofString "_named", Str.ofString "_variables"] ∧ 0 < 1000 ∧
  wEachD at0P (fun x Q => Q x) xs [] [] fun ks es => ¬ Str.ofString "_named" ∈ List.take 1 [Str.ofString "_procedures", Str.ofString "_named", Str.ofString "_variables"] ∧ 1 < 1000 ∧
    wEachD at0P (fun x Q => DL.Good x ∧ isProc x = true ∧ ∀ ss : List Str, ss.Nodup → (∀ z, z ∈ ss ↔ z ∈ varNames x) → sortedS ss = true → Q (.tup (ss.map D.str))) xs [] [] fun ks1 es1 =>
      ¬ Str.ofString "_variables" ∈ List.take 2 [Str.ofString "_procedures", Str.ofString "_named", Str.ofString "_variables"] ∧ 2 < 1000 ∧ P [.tup xs, .dct ks es, .dct ks1 es1]
def Tail (T : Txt K mg) (P : List D → Prop) (Z : Addr → D → Prop) (xs : List D) : Prop := DL.Good (.tup xs) ∧ if isNonD (firstWrong 0 [] xs) = true then
    DL.Good (.tup xs) ∧ xs.all isProc = true ∧ (keysOf (xs.drop 1)).Nodup ∧ if (!isNonD (wrongCaller (keysOf (xs.drop 1)) (lensOf (xs.drop 1)) 0 xs)) = true then Z T.x_NoProgram.C (wrongCaller (keysOf (xs.drop 1)) (lensOf (xs.drop 1)) 0 xs) else
      Fields P xs
  else if (!isNonD (firstWrong 0 [] xs)) = true then Z T.x_NoProgram.C (firstWrong 0 [] xs) else Fields P xs
theorem ok_Program_init (T : Txt K mg) : FnOk P w K mg base (L2.CX P w) 11 T.d_Program_init.f T.d_Program_init.fd ["self", "procedures"] (spIni T.c_Program.C ["_procedures", "_named", "_variables"] (fun es P Z => ∃ d, es = [d] ∧ (Good d ∨ d = .dct [] []) ∧ match progItems d with | none => Z T.x_NoProgram.C .non | some xs => if isNonD (wrongOf xs) = true then ∀ vs, VarsOf xs vs → P (progFields xs vs) else Z T.x_NoProgram.C (wrongOf xs))) :=
  fn_ini T.d_Program_init.F sc_Program_init (fun es P Z h => by first | (obtain ⟨_, rfl, _⟩ := h; rfl) | (obtain ⟨_, _, rfl, _⟩ := h; rfl) | (obtain ⟨_, _, _, rfl, _⟩ := h; rfl)) (fun cdv A outer s H E hr => ⟨_,
    (kss_cons (ks_lift (ws_if (PW.pt (ww_or (wt_not (wt_val (we_call (ok_is_listed T) (hr.mono (by decide)) rfl T.d_is_listed.m T.d_is_listed.F.kp T.d_is_listed.b (wa_cons (we_var (pv 1)) (wa_cons (we_k rfl T.m_MOST_PROCEDURES) wa_nil))))) (pw_or1 (wt_cmp (op_dEq hr.units) (we_callB call_fLen rfl T.n_len boot_lenB (wa_cons (we_var (pv 1)) wa_nil)) (we_c pe_int) (nomark _)))))
        (wss_one (ws_raise rfl (takes_of rfl rfl rfl rfl) T.x_NoProgram.T T.x_NoProgram.iC T.x_NoProgram.tI T.x_NoProgram.no (ok_told T.x_NoProgram.F sc_told rfl rfl rfl) (hr.mono (by decide)) T.x_NoProgram.b pass0 rfl T.x_NoProgram.m (we_c pe_non)))
        wss_nil))
      (kss_cons (ks_lift (ws_set (i := 2) sc_Program_init.nd rfl (by first | exact .inl rfl | exact .inr rfl) (we_callTy call_fTuple rfl T.n_tuple boot_tupleT (wa_cons (we_var (pv 1)) wa_nil))))
      (kss_cons (ks_lift (ws_set (i := 3) sc_Program_init.nd rfl (by first | exact .inl rfl | exact .inr rfl) (we_call (ok_first_wrong_procedure T) (hr.mono (by decide)) rfl T.d_first_wrong_procedure.m T.d_first_wrong_procedure.F.kp T.d_first_wrong_procedure.b (wa_cons (we_var (pv 2)) wa_nil))))
      (kss_cons (ks_lift (ws_if (wt_cmp op_dIsN (we_var (pv 3)) (we_c pe_non) (nomark _))
        (wss_one (ws_set (i := 3) sc_Program_init.nd rfl (by first | exact .inl rfl | exact .inr rfl) (we_call (ok_first_wrong_caller T) (hr.mono (by decide)) rfl T.d_first_wrong_caller.m T.d_first_wrong_caller.F.kp T.d_first_wrong_caller.b (wa_cons (we_var (pv 2)) wa_nil))))
        wss_nil))
      (kss_cons (ks_lift (ws_if (wt_cmp op_dNotN (we_var (pv 3)) (we_c pe_non) (nomark _))
        (wss_one (ws_raise rfl (takes_of rfl rfl rfl rfl) T.x_NoProgram.T T.x_NoProgram.iC T.x_NoProgram.tI T.x_NoProgram.no (ok_told T.x_NoProgram.F sc_told rfl rfl rfl) (hr.mono (by decide)) T.x_NoProgram.b pass0 rfl T.x_NoProgram.m (we_var (pv 3))))
        wss_nil))
      (kss_cons (ks_field T.c_Program.ic.cl T.f_Program__procedures (pv 0) (we_var (pv 2)))
      (kss_cons (ks_field T.c_Program.ic.cl T.f_Program__named (pv 0) (we_dc (i := 4) (x := "procedure") rfl sc_Program_init.nd (wi_sq (we_var (pv 2))) (blkOk_by (N := ["self", "procedures", "given", "wrong", "procedure"]) (sc := defScope s_Program_init) (by decide +kernel)) (fun _ _ _ _ _ => pg_name sc_Program_init.nd rfl (Or.inl rfl)) (fun _ _ _ _ _ => (we_ix (we_var (pv 4)) (we_c pe_int))) (fun _ _ _ _ _ => (we_var (pv 4)))))
      (kss_one (ks_field T.c_Program.ic.cl T.f_Program__variables (pv 0) (we_dc (i := 4) (x := "procedure") rfl sc_Program_init.nd (wi_sq (we_var (pv 2))) (blkOk_by (N := ["self", "procedures", "given", "wrong", "procedure"]) (sc := defScope s_Program_init) (by decide +kernel)) (fun _ _ _ _ _ => pg_name sc_Program_init.nd rfl (Or.inl rfl)) (fun _ _ _ _ _ => (we_ix (we_var (pv 4)) (we_c pe_int))) (fun _ _ _ _ _ => (we_call (ok_variables T) (hr.mono (by decide)) rfl T.d_variables.m T.d_variables.F.kp T.d_variables.b (wa_cons (we_var (pv 4)) wa_nil))))))))))))),
    fun es P Z h p => by
      obtain ⟨d, rfl, ok, hp⟩ := h
      have rest : ∀ xs : List D, xs.length ≤ 4 → 1 ≤ xs.length → Good (.tup xs) → (if isNonD (wrongOf xs) = true then ∀ vs, VarsOf xs vs → P (progFields xs vs) else Z T.x_NoProgram.C (wrongOf xs)) → Tail T P Z xs := fun xs h4 h1 gx hp => by
        unfold Tail
        refine ⟨gx, ?_⟩
        cases e1 : isNonD (firstWrong 0 [] xs) with
        | false =>
          rw [if_neg (by decide)]
          refine ifT rfl ?_
          have ew : wrongOf xs = firstWrong 0 [] xs := by unfold wrongOf; rw [e1, if_neg (by decide)]
          rw [ew, e1, if_neg (by decide)] at hp
          exact hp
        | true =>
          rw [if_pos rfl]
          obtain ⟨hpr, hnd⟩ := firstWrong_none e1
          have ew : wrongOf xs = wrongCaller (keysOf (xs.drop 1)) (lensOf (xs.drop 1)) 0 xs := by unfold wrongOf; rw [e1, if_pos rfl]
          have nd1 : (keysOf (xs.drop 1)).Nodup := by
            unfold keysOf at hnd ⊢
            rw [List.map_drop]
            exact hnd.sublist (List.drop_sublist 1 _)
          refine ⟨gx, List.all_eq_true.mpr fun x hx => (hpr x hx).1, nd1, ?_⟩
          rw [← ew]
          cases e2 : isNonD (wrongOf xs) with
          | false =>
            rw [e2, if_neg (by decide)] at hp
            exact ifT rfl hp
          | true =>
            rw [e2, if_pos rfl] at hp
            refine ifF rfl ⟨by decide, by decide, ?_⟩
            have name : ∀ y ∈ xs, ∀ Q : D → Prop, Q (.str (nameOf y)) → at0P y Q := fun y hy Q hq => by
              obtain ⟨n, ps, rs, rfl⟩ := proc_shape (hpr y hy).1
              exact ⟨_, rfl, hq⟩
            refine eachD_rel (R := fun y z => y = z) name (fun y hy Q hq => hq y rfl) List.nodup_nil rfl hnd (fun y _ z => nomatch z) (by simp; omega) fun zs hzl hzr => ?_
            have ez : zs = xs := (List.ext_getElem? fun i => by
              rcases Nat.lt_or_ge i xs.length with lt | ge
              · have lt' : i < zs.length := by omega
                rw [List.getElem?_eq_getElem lt, List.getElem?_eq_getElem lt']
                exact congrArg some (hzr i _ _ (List.getElem?_eq_getElem lt) (List.getElem?_eq_getElem lt')).symm
              · rw [List.getElem?_eq_none ge, List.getElem?_eq_none (by omega)])
            rw [ez]
            refine ⟨by decide, by decide, ?_⟩
            refine eachD_rel (R := VarOk) name (fun y hy Q hq => ⟨gx.tup.2 y hy, (hpr y hy).1, fun ss a b c => hq _ ⟨ss, a, b, c, rfl⟩⟩) List.nodup_nil rfl hnd (fun y _ z => nomatch z) (by simp; omega) fun vs hvl hvr => ?_
            exact ⟨by decide, by decide, hp vs ⟨hvl, hvr⟩⟩
      rcases ok with ok | rfl
      · cases d with
        | lst xs =>
          have hl := ok.lst
          walk_at "red"
          refine ⟨_, 4, rfl, rfl, _, rfl, ?_⟩
          by_cases h4 : xs.length ≤ 4
          · refine ifF (by simp [lstd]; omega) ?_
            by_cases h1 : 1 ≤ xs.length
            · refine ifF (decide_eq_false (by omega)) ?_
              rw [show progItems (.lst xs) = some xs from if_pos ⟨h1, h4⟩] at hp
              exact rest xs h4 h1 ok hp
            · rw [show progItems (.lst xs) = none from if_neg fun z => h1 z.1] at hp
              exact ifT (decide_eq_true (by omega)) hp
          · rw [show progItems (.lst xs) = none from if_neg fun z => h4 z.2] at hp
            exact ifT (by simp [lstd]; omega) hp
        | tup xs =>
          have hl := ok.tup
          walk_at "red"
          refine ⟨_, 4, rfl, rfl, _, rfl, ?_⟩
          by_cases h4 : xs.length ≤ 4
          · refine ifF (by simp [lstd]; omega) ?_
            by_cases h1 : 1 ≤ xs.length
            · refine ifF (decide_eq_false (by omega)) ?_
              rw [show progItems (.tup xs) = some xs from if_pos ⟨h1, h4⟩] at hp
              exact rest xs h4 h1 ok hp
            · rw [show progItems (.tup xs) = none from if_neg fun z => h1 z.1] at hp
              exact ifT (decide_eq_true (by omega)) hp
          · rw [show progItems (.tup xs) = none from if_neg fun z => h4 z.2] at hp
            exact ifT (by simp [lstd]; omega) hp
        | src _ => cases ok
        | fn _ => cases ok
        | exn _ _ _ => cases ok
        | sq _ _ => cases ok
        | ins _ _ _ => cases ok
        | dct _ _ => cases ok
        | _ =>
          walk_at "red"
          exact ⟨_, 4, rfl, rfl, _, rfl, ifT rfl hp⟩
      · walk_at "red"
        exact ⟨_, 4, rfl, rfl, _, rfl, ifT rfl hp⟩⟩)
end
end K07

set_option maxHeartbeats 2000000
namespace K07
open PySem PySem.Spec PyProof.Rows L2 DL
variable [TabCtx]
local macro_rules | `(tactic| walk_at "red") => `(tactic| simp only [gRetG, gSeqHF, dInI, fIsC2, gFor3, gForH3, gStoreH, fwSortSet, wzMeth, wFell, fwCat, gForELH, wDGet2, fDict, dRepT, gSeqF, gSeqHF, gDoneF, gAccF, fwIf, gParAcc, gForHS, dRep, wDNIn, wD0, gClearH, fIsC, dNeI, DL.tyD_dct, DL.isInt_dct, DL.isStr_dct, DL.isBl_dct, DL.isTup_dct, DL.isLst_dct, wSortC, gExtH, fwList, wiSeq, seqOf_lst, seqOf_tup, wiAny, wzE, wzOpL, wzIf, gzRet, gzSet, gzDrop, gPar, wLcZ, wiZip, wTupRg3, wiRg3, fMin, fAbs, fMaxL, fMinL, gUn2, gUn3, gUn2L, gFor2L, wLcI, wLam3, gSrc, or_false, false_or, exists_false, false_and, and_false, wDc3, gAcc, gSeqH, gForEH, gForE, gForH, gIfH, gLift, gNextH, gAppendH, gAppend, gDone, gSetH, DL.seen, dIsN, dNotN, wDc, wFld, wMeth, wDIn, wDIx, wDGetN, wNew, wzNew, wLcI, gField, gCL, fLenQ, dIxQ, wNeK, wIndex, gTryRet, gTryDrop, wzCall, wzCallL, wTold, fIsE, fRepr, wJoin, wDGet, wVals, dPow, wSrc, gSrcSet, dMulS, dFdivS, fInt, fMax, fTuple, fList, startD, gNext, gSeq, gRet, gSet, gIf, gDrop, gRaise, gFor, wVar, wC, wOp, wTest, wChain, wAnd, wOr, wNot, wtAnd, wtOr, wtNot, wIf, waNil, waCons, wTup, wLst, wCall, quiet, wIsi, wInK, wLc, wiStr, wiTup, wiLst, wiRange, wSl, woNone, woSome, dSl, wNeg, dNeg, fLen, fAll, dEq, dNe, dLe, dLt, dGe, dGt, dAdd, dSub, dMod, dIx, dIn, dIsB, strsOf, boolsOf, DL.tyD_non, at_0, at_1, at_2, at_3, at_4, DL.isInt_non, DL.isStr_non, DL.isBl_non, DL.isTup_non, DL.isLst_non, DL.tyD_bl, DL.isInt_bl, DL.isStr_bl, DL.isBl_bl, DL.isTup_bl, DL.isLst_bl, DL.tyD_int, DL.isInt_int, DL.isStr_int, DL.isBl_int, DL.isTup_int, DL.isLst_int, DL.tyD_str, DL.isInt_str, DL.isStr_str, DL.isBl_str, DL.isTup_str, DL.isLst_str, DL.tyD_lst, DL.isInt_lst, DL.isStr_lst, DL.isBl_lst, DL.isTup_lst, DL.isLst_lst, DL.tyD_tup, DL.isInt_tup, DL.isStr_tup, DL.isBl_tup, DL.isTup_tup, DL.isLst_tup, pure1, pure2, pure3, Option.map_some,
  List.map_cons, List.map_nil, List.length_cons, List.length_nil, List.cons_append, List.nil_append, List.getElem?_cons_zero, List.getElem?_cons_succ, Option.some.injEq, exists_eq_left', exists_eq_left, exists_eq_right, exists_eq_right', D.bl.injEq, D.int.injEq, D.str.injEq, D.tup.injEq, D.lst.injEq, D.fn.injEq, D.sq.injEq, D.exn.injEq, List.cons.injEq, and_true, true_and, and_self, exists_and_left, exists_and_right, Option.isSome_some, List.set_cons_zero, List.set_cons_succ, if_true, Bool.false_eq_true, if_false, Bool.not_true, Bool.not_false, reduceCtorEq, List.replicate, Nat.reduceSub, Nat.reduceAdd])
section
variable {P : Program} {w : World} {K : PySem.W.Frag} {mg : Str → Option Value} {base : Heap}
omit [TabCtx] in
theorem each_ofP {F : D → (D → Prop) → Prop} {r : D → D} : ∀ {xs : List D} {P : List D → Prop}, (∀ a ∈ xs, ∀ Q : D → Prop, Q (r a) → F a Q) → P (xs.map r) → wEach F xs P
  | [], _, _, h => h
  | x :: xs, P, hf, h => hf x List.mem_cons_self _ (each_ofP (P := fun ys => P (r x :: ys)) (fun a ha => hf a (List.mem_cons_of_mem _ ha)) h)
def progD (T : Txt K mg) (xs vs : List D) : D := .ins T.c_Program.C ["_procedures", "_named", "_variables"] (progFields xs vs)
theorem ok_Program_eq (T : Txt K mg) : FnOk P w K mg base (L2.CX P w) 1 T.d_Program_eq.f T.d_Program_eq.fd ["self", "other"] (spD (fun es P _ => ∃ xs vs ys us, es = [progD T xs vs, progD T ys us] ∧ okEq (.tup xs) ∧ okEq (.tup ys) ∧ P (.bl (eqD (.tup xs) (.tup ys))))) :=
  fn_okX T.d_Program_eq.F sc_Program_eq (fun es P Z h => by first | (obtain ⟨_, rfl, _⟩ := h; rfl) | (obtain ⟨_, _, rfl, _⟩ := h; rfl) | (obtain ⟨_, _, _, rfl, _⟩ := h; rfl) | (obtain ⟨_, _, _, _, rfl, _⟩ := h; rfl)) (fun cdv A outer s H E hr => ⟨_,
    (wss_one (ws_ret (we_and (we_callB (call_isI T.c_Program.ic) rfl T.n_isinstance boot_isinstanceB (wa_cons (we_var (pv 1)) (wa_cons (we_fn (pe_glob rfl T.c_Program.m rfl)) wa_nil))) (we_one (we_cmp (op_dEq hr.units) (we_fld T.c_Program.ic.cl T.f_Program__procedures (we_var (pv 0))) (we_fld T.c_Program.ic.cl T.f_Program__procedures (we_var (pv 1))) (nomark _)))))),
    fun es P Z h => by
      obtain ⟨xs, vs, ys, us, rfl, o1, o2, hp⟩ := h
      unfold progD progFields
      walk_at "red"
      exact ⟨⟨_, _, rfl⟩, _, _, rfl, _, rfl, _, _, rfl, _, rfl, o1, o2, hp⟩⟩)
theorem ok_Program_names (T : Txt K mg) : FnOk P w K mg base (L2.CX P w) 1 T.d_Program_names.f T.d_Program_names.fd ["self"] (spD (fun es P _ => ∃ xs vs, es = [progD T xs vs] ∧ (∀ x ∈ xs, isProc x = true) ∧ xs.length ≤ 4 ∧ P (.lst (xs.map fun x => .str (nameOf x))))) :=
  fn_okX T.d_Program_names.F sc_Program_names (fun es P Z h => by first | (obtain ⟨_, rfl, _⟩ := h; rfl) | (obtain ⟨_, _, rfl, _⟩ := h; rfl) | (obtain ⟨_, _, _, rfl, _⟩ := h; rfl) | (obtain ⟨_, _, _, _, rfl, _⟩ := h; rfl)) (fun cdv A outer s H E hr => ⟨_,
    (wss_one (ws_ret (we_lc (i := 1) (x := "procedure") rfl sc_Program_names.nd (wi_sq (we_fld T.c_Program.ic.cl T.f_Program__procedures (we_var (pv 0)))) (blkOk_by (N := ["self", "procedure"]) (sc := defScope s_Program_names) (by decide +kernel)) (fun _ _ _ _ _ => pg_name sc_Program_names.nd rfl (Or.inl rfl)) (fun _ _ _ _ _ => (we_ix (we_var (pv 1)) (we_c pe_int)))))),
    fun es P Z h => by
      obtain ⟨xs, vs, rfl, hpr, hl, hp⟩ := h
      unfold progD progFields
      walk_at "red"
      refine ⟨_, _, rfl, _, rfl, xs, rfl, Nat.lt_of_le_of_lt hl (line_big (by omega)), each_ofP (fun x hx Q hq => ?_) hp⟩
      obtain ⟨n, ps, rs, rfl⟩ := proc_shape (hpr x hx)
      exact ⟨_, rfl, hq⟩⟩)
end
end K07

set_option maxHeartbeats 2000000
namespace K07
open PySem PySem.Spec PyProof.Rows L2 DL
variable [TabCtx]
local macro_rules | `(tactic| walk_at "red") => `(tactic| simp only [gRetG, gSeqHF, dInI, fIsC2, gFor3, gForH3, gStoreH, fwSortSet, wzMeth, wFell, fwCat, gForELH, wDGet2, fDict, dRepT, gSeqF, gSeqHF, gDoneF, gAccF, fwIf, gParAcc, gForHS, dRep, wDNIn, wD0, gClearH, fIsC, dNeI, DL.tyD_dct, DL.isInt_dct, DL.isStr_dct, DL.isBl_dct, DL.isTup_dct, DL.isLst_dct, wSortC, gExtH, fwList, wiSeq, seqOf_lst, seqOf_tup, wiAny, wzE, wzOpL, wzIf, gzRet, gzSet, gzDrop, gPar, wLcZ, wiZip, wTupRg3, wiRg3, fMin, fAbs, fMaxL, fMinL, gUn2, gUn3, gUn2L, gFor2L, wLcI, wLam3, gSrc, or_false, false_or, exists_false, false_and, and_false, wDc3, gAcc, gSeqH, gForEH, gForE, gForH, gIfH, gLift, gNextH, gAppendH, gAppend, gDone, gSetH, DL.seen, dIsN, dNotN, wDc, wFld, wMeth, wDIn, wDIx, wDGetN, wNew, wzNew, wLcI, gField, gCL, fLenQ, dIxQ, wNeK, wIndex, gTryRet, gTryDrop, wzCall, wzCallL, wTold, fIsE, fRepr, wJoin, wDGet, wVals, dPow, wSrc, gSrcSet, dMulS, dFdivS, fInt, fMax, fTuple, fList, startD, gNext, gSeq, gRet, gSet, gIf, gDrop, gRaise, gFor, wVar, wC, wOp, wTest, wChain, wAnd, wOr, wNot, wtAnd, wtOr, wtNot, wIf, waNil, waCons, wTup, wLst, wCall, quiet, wIsi, wInK, wLc, wiStr, wiTup, wiLst, wiRange, wSl, woNone, woSome, dSl, wNeg, dNeg, fLen, fAll, dEq, dNe, dLe, dLt, dGe, dGt, dAdd, dSub, dMod, dIx, dIn, dIsB, strsOf, boolsOf, DL.tyD_non, at_0, at_1, at_2, at_3, at_4, DL.isInt_non, DL.isStr_non, DL.isBl_non, DL.isTup_non, DL.isLst_non, DL.tyD_bl, DL.isInt_bl, DL.isStr_bl, DL.isBl_bl, DL.isTup_bl, DL.isLst_bl, DL.tyD_int, DL.isInt_int, DL.isStr_int, DL.isBl_int, DL.isTup_int, DL.isLst_int, DL.tyD_str, DL.isInt_str, DL.isStr_str, DL.isBl_str, DL.isTup_str, DL.isLst_str, DL.tyD_lst, DL.isInt_lst, DL.isStr_lst, DL.isBl_lst, DL.isTup_lst, DL.isLst_lst, DL.tyD_tup, DL.isInt_tup, DL.isStr_tup, DL.isBl_tup, DL.isTup_tup, DL.isLst_tup, pure1, pure2, pure3, Option.map_some,
  List.map_cons, List.map_nil, List.length_cons, List.length_nil, List.cons_append, List.nil_append, List.getElem?_cons_zero, List.getElem?_cons_succ, Option.some.injEq, exists_eq_left', exists_eq_left, exists_eq_right, exists_eq_right', D.bl.injEq, D.int.injEq, D.str.injEq, D.tup.injEq, D.lst.injEq, D.fn.injEq, D.sq.injEq, D.exn.injEq, List.cons.injEq, and_true, true_and, and_self, exists_and_left, exists_and_right, Option.isSome_some, List.set_cons_zero, List.set_cons_succ, if_true, Bool.false_eq_true, if_false, Bool.not_true, Bool.not_false, reduceCtorEq, List.replicate, Nat.reduceSub, Nat.reduceAdd])
section
variable {P : Program} {w : World} {K : PySem.W.Frag} {mg : Str → Option Value} {base : Heap}
theorem at_some {xs : List D} {r : Int} (h0 : 0 ≤ r) (h1 : r < xs.length) : ∃ d, atI xs r = some d ∧ d ∈ xs := by
  obtain ⟨n, rfl⟩ := Int.eq_ofNat_of_zero_le h0
  have hn : n < xs.length := by omega
  exact ⟨xs[n], atI_nat (List.getElem?_eq_getElem hn), List.getElem_mem hn⟩
def fTake : DFn := fun es P => ∃ p top, es = [.src p, .int top] ∧ 0 < top ∧ top < 1073741824 ∧ ∀ r : Int, 0 ≤ r → r < top → P (.int r)
theorem ok_ltake (T : Txt K mg) : FnOk P w K mg base CX0 1 T.d_ltake.f T.d_ltake.fd ["_law_source", "_law_top"] (spD fun es P _ => (fTake) es P) :=
  fn_ok T.d_ltake.F sc_ltake (fun es P h => by first | (obtain ⟨rfl, _⟩ := h; rfl) | exact pure1_len h | exact pure2_len h | exact pure3_len h | (obtain ⟨_, rfl, _⟩ := h; rfl) | (obtain ⟨_, _, rfl, _⟩ := h; rfl) | (obtain ⟨_, _, _, rfl, _⟩ := h; rfl) | (obtain ⟨_, _, _, _, rfl, _⟩ := h; rfl) | (obtain ⟨rfl, _⟩ := h; rfl)) (fun cdv A outer s H E hr => ⟨_,
    (wss_cons (ws_if (wt_cmp op_dGt (we_src (pv 0)) (we_c pe_int) (nomark _))
        (wss_cons (ws_set (i := 2) sc_ltake.nd rfl (by first | exact .inl rfl | exact .inr rfl) (we_op op_dMod (we_callTy call_fInt rfl T.n_int boot_intT (wa_cons (we_src (pv 0)) wa_nil)) (we_var (pv 1))))
        (wss_cons (ws_srcSet (pv 0) (we_op op_dFdivS (we_src (pv 0)) (we_var (pv 1))))
        (wss_one (ws_ret (we_var (pv 2))))))
        wss_nil)
      (wss_cons (ws_srcSet (pv 0) (we_op op_dMod (we_callTy call_fInt rfl T.n_int boot_intT (wa_cons (we_op op_dAdd (we_op op_dMulS (we_src (pv 0)) (we_c pe_int)) (we_c pe_int)) wa_nil)) (we_c pe_int)))
      (wss_one (ws_ret (we_op op_dMod (we_callTy call_fInt rfl T.n_int boot_intT (wa_cons (we_op op_dFdivS (we_op op_dMod (we_callTy call_fInt rfl T.n_int boot_intT (wa_cons (we_op op_dMulS (we_src (pv 0)) (we_src (pv 0))) wa_nil)) (we_c pe_int)) (we_c pe_int)) wa_nil)) (we_var (pv 1))))))),
    fun es P h => by
      obtain ⟨p, top, rfl, h0, h1, hp⟩ := h
      walk_at "red"
      have hs : ∀ n : Int, SrcN 1 n → 0 ≤ n ∧ n < 2147483647 := fun n hn => by
        rcases hn with z | z
        · cases z
        · exact z.2
      have hr : ∀ n : Int, P (.int (n % top)) := fun n => hp _ (Int.emod_nonneg _ (by omega)) (Int.emod_lt_of_pos _ h0)
      refine ⟨.inl trivial, ⟨p, rfl⟩, fun n _ => ?_⟩
      by_cases hn : 0 < n
      · exact ifT (decide_eq_true hn) ⟨.inl trivial, ⟨p, rfl⟩, fun m _ => ⟨h0, .inl trivial, ⟨p, rfl⟩, fun q _ => ⟨⟨h0, h1⟩, .inl trivial, ⟨p, rfl⟩, .inl rfl, hr m⟩⟩⟩
      · refine ifF (decide_eq_false hn) ⟨.inr trivial, ⟨p, rfl⟩, fun m hm => ⟨.inr ⟨by decide, by decide⟩, by decide, .inr trivial, ⟨p, rfl⟩, .inr ⟨rfl, Int.emod_nonneg _ (by decide), Int.emod_lt_of_pos _ (by decide)⟩, .inr trivial, ⟨p, rfl⟩, fun a ha => ⟨.inr trivial, ⟨p, rfl⟩, fun b hb => ?_⟩⟩⟩
        have := hs b hb
        exact ⟨.inr ⟨by omega, by omega⟩, by decide, ⟨by decide, by decide⟩, h0, hr _⟩⟩)
def fOne : DFn := fun es P => ∃ p xs, es = [.src p, .lst xs] ∧ xs ≠ [] ∧ xs.length ≤ 1000 ∧ ∀ d ∈ xs, P d
theorem ok_lone (T : Txt K mg) : FnOk P w K mg base CX0 2 T.d_lone.f T.d_lone.fd ["_law_source", "_law_things"] (spD fun es P _ => (fOne) es P) :=
  fn_ok T.d_lone.F sc_lone (fun es P h => by first | (obtain ⟨rfl, _⟩ := h; rfl) | exact pure1_len h | exact pure2_len h | exact pure3_len h | (obtain ⟨_, rfl, _⟩ := h; rfl) | (obtain ⟨_, _, rfl, _⟩ := h; rfl) | (obtain ⟨_, _, _, rfl, _⟩ := h; rfl) | (obtain ⟨_, _, _, _, rfl, _⟩ := h; rfl) | (obtain ⟨rfl, _⟩ := h; rfl)) (fun cdv A outer s H E hr => ⟨_,
    (wss_one (ws_ret (we_ix (we_var (pv 1)) (we_call (ok_ltake T) (hr.mono (by decide)) rfl T.d_ltake.m T.d_ltake.F.kp T.d_ltake.b (wa_cons (we_var (pv 0)) (wa_cons (we_callB call_fLen rfl T.n_len boot_lenB (wa_cons (we_var (pv 1)) wa_nil)) wa_nil)))))),
    fun es P h => by
      obtain ⟨p, xs, rfl, h0, h1, hp⟩ := h
      have hl : 0 < xs.length := List.length_pos_iff.mpr h0
      walk_at "red"
      refine ⟨p, xs.length, rfl, by omega, by omega, fun r r0 r1 => ?_⟩
      obtain ⟨d, e, m⟩ := at_some r0 r1
      exact ⟨d, e, hp d m⟩⟩)
/-- what a generated program is made of -/
def OpK (d : D) : Prop := (∃ x, d = .str x ∧ isName (.str x) = true) ∨ ∃ n : Nat, n ≤ 9972 ∧ d = .int n
def WordsK (ws : List D) : Prop := ws.length ≤ 10 ∧ ∀ d ∈ ws, ∃ x, d = .str x ∧ isName (.str x) = true
theorem ok_loperand (T : Txt K mg) : FnOk P w K mg base CX0 3 T.d_loperand.f T.d_loperand.fd ["_law_source", "_law_words"] (spD fun es P _ => (fun es P => ∃ p ws, es = [.src p, .lst ws] ∧ WordsK ws ∧ ∀ d, OpK d → P d) es P) :=
  fn_ok T.d_loperand.F sc_loperand (fun es P h => by first | (obtain ⟨rfl, _⟩ := h; rfl) | exact pure1_len h | exact pure2_len h | exact pure3_len h | (obtain ⟨_, rfl, _⟩ := h; rfl) | (obtain ⟨_, _, rfl, _⟩ := h; rfl) | (obtain ⟨_, _, _, rfl, _⟩ := h; rfl) | (obtain ⟨_, _, _, _, rfl, _⟩ := h; rfl) | (obtain ⟨rfl, _⟩ := h; rfl)) (fun cdv A outer s H E hr => ⟨_,
    (wss_one (ws_ret (we_call (ok_lone T) (hr.mono (by decide)) rfl T.d_lone.m T.d_lone.F.kp T.d_lone.b (wa_cons (we_var (pv 0)) (wa_cons (we_op op_dAdd (we_op op_dAdd (we_var (pv 1)) (we_var (pv 1))) (we_lst (wa_cons (we_c pe_int) (wa_cons (we_c pe_int) (wa_cons (we_c pe_int) (wa_cons (we_c pe_int) (wa_cons (we_c pe_int) wa_nil))))))) wa_nil))))),
    fun es P h => by
      obtain ⟨p, ws, rfl, ⟨hl, hw⟩, hp⟩ := h
      walk_at "red"
      refine ⟨line_big (by omega), line_big (by omega), line_big (by simp; omega), p, _, rfl, by simp, by simp; omega, fun d hd => hp d ?_⟩
      simp only [List.mem_append, List.mem_cons, List.not_mem_nil, or_false] at hd
      rcases hd with (h | h) | h
      · exact .inl (hw d h)
      · exact .inl (hw d h)
      · rcases h with rfl | rfl | rfl | rfl | rfl
        · exact .inr ⟨0, by decide, rfl⟩
        · exact .inr ⟨1, by decide, rfl⟩
        · exact .inr ⟨2, by decide, rfl⟩
        · exact .inr ⟨7, by decide, rfl⟩
        · exact .inr ⟨9972, by decide, rfl⟩⟩)
theorem line_lt {n : Nat} (h : n < 100000) : n < sizeLine := Nat.lt_of_lt_of_le h (line_big (Nat.le_refl _))
inductive RowK : D → Prop
  | set {x op : Str} {a b : D} : isName (.str x) = true → op ∈ OPS → OpK a → OpK b → RowK (.tup [.str "set", .str x, .str op, a, b])
  | copy {x : Str} {a : D} : isName (.str x) = true → OpK a → RowK (.tup [.str "copy", .str x, a])
  | get {x : Str} : isName (.str x) = true → RowK (.tup [.str "get", .str x])
  | out {a : D} : OpK a → RowK (.tup [.str "out", a])
  | back {a : D} : OpK a → RowK (.tup [.str "back", a])
  | cond {a : D} {t : Nat} : OpK a → t ≤ 40 → RowK (.tup [.str "if", a, .int t])
  | go {t : Nat} : t ≤ 40 → RowK (.tup [.str "go", .int t])
  | call {x c : Str} {os : List D} : isName (.str x) = true → isName (.str c) = true → os.length ≤ 2 → (∀ o ∈ os, OpK o) → RowK (.tup [.str "call", .str x, .str c, .tup os])
/-- where it leads, whom it calls -/
def tgt : D → Int
  | .tup [.str w, _, .int t] => if w = "if" then t else 0
  | .tup [.str w, .int t] => if w = "go" then t else 0
  | _ => 0
def callOf : D → Option (Str × Nat)
  | .tup [.str w, _, .str c, .tup os] => if w = "call" then some (c, os.length) else none
  | _ => none
/-- a row of the plain kinds -/
inductive RowP : D → Prop
  | set {x op : Str} {a b : D} : isName (.str x) = true → op ∈ OPS → OpK a → OpK b → RowP (.tup [.str "set", .str x, .str op, a, b])
  | copy {x : Str} {a : D} : isName (.str x) = true → OpK a → RowP (.tup [.str "copy", .str x, a])
  | get {x : Str} : isName (.str x) = true → RowP (.tup [.str "get", .str x])
  | out {a : D} : OpK a → RowP (.tup [.str "out", a])
omit [TabCtx] in
theorem RowP.k {r : D} (h : RowP r) : RowK r := by
  cases h with
  | set a b c d => exact .set a b c d
  | copy a b => exact .copy a b
  | get a => exact .get a
  | out a => exact .out a
omit [TabCtx] in
theorem RowP.tgt {r : D} (h : RowP r) : tgt r = 0 := by
  cases h with
  | set a b c d => rfl
  | copy a b => 
    rcases b with ⟨y, rfl, _⟩ | ⟨n, _, rfl⟩
    · rfl
    · rfl
  | get a => rfl
  | out a => 
    rcases a with ⟨y, rfl, _⟩ | ⟨n, _, rfl⟩
    · rfl
    · rfl
omit [TabCtx] in
theorem RowP.call {r : D} (h : RowP r) : callOf r = none := by
  cases h with
  | set a b c d => rcases c with ⟨y, rfl, _⟩ | ⟨n, _, rfl⟩ <;> rfl
  | copy a b => rcases b with ⟨y, rfl, _⟩ | ⟨n, _, rfl⟩ <;> rfl
  | get a => rfl
  | out a => rfl
theorem ok_lplain_row (T : Txt K mg) : FnOk P w K mg base CX0 4 T.d_lplain_row.f T.d_lplain_row.fd ["_law_source", "_law_words"] (spD fun es P _ => (fun es P => ∃ p ws, es = [.src p, .lst ws] ∧ WordsK ws ∧ ws ≠ [] ∧ ∀ r, RowP r → P r) es P) :=
  fn_ok T.d_lplain_row.F sc_lplain_row (fun es P h => by first | (obtain ⟨rfl, _⟩ := h; rfl) | exact pure1_len h | exact pure2_len h | exact pure3_len h | (obtain ⟨_, rfl, _⟩ := h; rfl) | (obtain ⟨_, _, rfl, _⟩ := h; rfl) | (obtain ⟨_, _, _, rfl, _⟩ := h; rfl) | (obtain ⟨_, _, _, _, rfl, _⟩ := h; rfl) | (obtain ⟨rfl, _⟩ := h; rfl)) (fun cdv A outer s H E hr => ⟨_,
    (wss_cons (ws_par (hw := by first | rfl | with_unfolding_all rfl) (i := 2) (j := 3) rfl sc_lplain_row.nd rfl rfl (by decide) rfl rfl (wa_cons (we_call (ok_ltake T) (hr.mono (by decide)) rfl T.d_ltake.m T.d_ltake.F.kp T.d_ltake.b (wa_cons (we_var (pv 0)) (wa_cons (we_c pe_int) wa_nil))) (wa_cons (we_call (ok_lone T) (hr.mono (by decide)) rfl T.d_lone.m T.d_lone.F.kp T.d_lone.b (wa_cons (we_var (pv 0)) (wa_cons (we_var (pv 1)) wa_nil))) wa_nil)))
      (wss_cons (ws_if (wt_cmp op_dLt (we_var (pv 2)) (we_c pe_int) (nomark _))
        (wss_one (ws_ret (we_tup (wa_cons (we_c pe_str) (wa_cons (we_var (pv 3)) (wa_cons (we_call (ok_lone T) (hr.mono (by decide)) rfl T.d_lone.m T.d_lone.F.kp T.d_lone.b (wa_cons (we_var (pv 0)) (wa_cons (we_lst (wa_cons (we_c pe_str) (wa_cons (we_c pe_str) (wa_cons (we_c pe_str) (wa_cons (we_c pe_str) (wa_cons (we_c pe_str) wa_nil)))))) wa_nil))) (wa_cons (we_call (ok_loperand T) (hr.mono (by decide)) rfl T.d_loperand.m T.d_loperand.F.kp T.d_loperand.b (wa_cons (we_var (pv 0)) (wa_cons (we_var (pv 1)) wa_nil))) (wa_cons (we_call (ok_loperand T) (hr.mono (by decide)) rfl T.d_loperand.m T.d_loperand.F.kp T.d_loperand.b (wa_cons (we_var (pv 0)) (wa_cons (we_var (pv 1)) wa_nil))) wa_nil))))))))
        wss_nil)
      (wss_cons (ws_if (wt_cmp op_dLt (we_var (pv 2)) (we_c pe_int) (nomark _))
        (wss_one (ws_ret (we_tup (wa_cons (we_c pe_str) (wa_cons (we_var (pv 3)) (wa_cons (we_call (ok_loperand T) (hr.mono (by decide)) rfl T.d_loperand.m T.d_loperand.F.kp T.d_loperand.b (wa_cons (we_var (pv 0)) (wa_cons (we_var (pv 1)) wa_nil))) wa_nil))))))
        wss_nil)
      (wss_one (ws_ret (we_if (wt_cmp op_dLt (we_var (pv 2)) (we_c pe_int) (nomark _)) (we_tup (wa_cons (we_c pe_str) (wa_cons (we_var (pv 3)) wa_nil))) (we_tup (wa_cons (we_c pe_str) (wa_cons (we_call (ok_loperand T) (hr.mono (by decide)) rfl T.d_loperand.m T.d_loperand.F.kp T.d_loperand.b (wa_cons (we_var (pv 0)) (wa_cons (we_var (pv 1)) wa_nil))) wa_nil))))))))),
    fun es P h => by
      obtain ⟨p, ws, rfl, hw, hne, hp⟩ := h
      have op : ∀ Q : D → Prop, (∀ d, OpK d → Q d) → ∃ p' ws', [D.src p, D.lst ws] = [.src p', .lst ws'] ∧ WordsK ws' ∧ ∀ d, OpK d → Q d := fun Q hq => ⟨p, ws, rfl, hw, hq⟩
      walk_at "red"
      refine ⟨p, 9, rfl, by decide, by decide, fun way h0 h1 => ⟨p, ws, rfl, hne, by have := hw.1; omega, fun x hx => ?_⟩⟩
      obtain ⟨x, rfl, hn⟩ := hw.2 x hx
      have big : 5 ≤ sizeLine ∧ 3 ≤ sizeLine ∧ 2 ≤ sizeLine := ⟨line_big (by omega), line_big (by omega), line_big (by omega)⟩
      refine ⟨_, _, ⟨rfl, rfl⟩, ?_⟩
      by_cases w4 : way < 4
      · refine ifT (decide_eq_true w4) ⟨big.1, p, _, rfl, by simp, by simp, fun d hd => ?_⟩
        have hop : ∃ o : Str, d = .str o ∧ o ∈ OPS := by
          simp only [List.mem_cons, List.not_mem_nil, or_false] at hd
          rcases hd with rfl | rfl | rfl | rfl | rfl <;> exact ⟨_, rfl, by decide⟩
        obtain ⟨o, rfl, ho⟩ := hop
        exact ⟨p, ws, ⟨rfl, rfl⟩, hw, fun a ha => ⟨p, ws, ⟨rfl, rfl⟩, hw, fun b hb => ⟨big.1, hp _ (.set hn ho ha hb)⟩⟩⟩
      refine ifF (decide_eq_false w4) ?_
      by_cases w6 : way < 6
      · exact ifT (decide_eq_true w6) ⟨p, ws, ⟨rfl, rfl⟩, hw, fun a ha => ⟨big.2.1, hp _ (.copy hn ha)⟩⟩
      refine ifF (decide_eq_false w6) ?_
      by_cases w7 : way < 7
      · exact ifT (decide_eq_true w7) ⟨big.2.2, hp _ (.get hn)⟩
      · exact ifF (decide_eq_false w7) ⟨p, ws, ⟨rfl, rfl⟩, hw, fun a ha => ⟨big.2.2, hp _ (.out ha)⟩⟩⟩)
theorem ok_lloop (T : Txt K mg) : FnOk P w K mg base CX0 5 T.d_lloop.f T.d_lloop.fd ["_law_source", "_law_words"] (spFr (fun es P => ∃ p ws, es = [.src p, .lst ws] ∧ WordsK ws ∧ ws ≠ [] ∧ ∀ rs, 4 ≤ rs.length → rs.length ≤ 5 → (∀ r ∈ rs, RowK r ∧ callOf r = none) → P rs)) :=
  fn_okF T.d_lloop.F sc_lloop (fun es P h => by first | (obtain ⟨_, rfl, _⟩ := h; rfl) | (obtain ⟨_, _, rfl, _⟩ := h; rfl) | (obtain ⟨_, _, _, rfl, _⟩ := h; rfl) | (obtain ⟨_, _, _, _, rfl, _⟩ := h; rfl)) (fun cdv A outer s H E hr => ⟨_,
    (sf_acc sc_lloop.nd rfl (by first | exact .inl rfl | exact .inr rfl) (fw_lst (wa_cons (we_tup (wa_cons (we_c pe_str) (wa_cons (we_c pe_str) (wa_cons (we_op op_dAdd (we_c pe_int) (we_call (ok_ltake T) (hr.mono (by decide)) rfl T.d_ltake.m T.d_ltake.F.kp T.d_ltake.b (wa_cons (we_var (pv 0)) (wa_cons (we_c pe_int) wa_nil)))) wa_nil)))) (wa_cons (we_call (ok_lplain_row T) (hr.mono (by decide)) rfl T.d_lplain_row.m T.d_lplain_row.F.kp T.d_lplain_row.b (wa_cons (we_var (pv 0)) (wa_cons (we_var (pv 1)) wa_nil))) wa_nil)))
      (hf_cons (E := fun _ _ _ => False) (hs_if (wt_cmp (op_dEq hr.units) (we_call (ok_ltake T) (hr.mono (by decide)) rfl T.d_ltake.m T.d_ltake.F.kp T.d_ltake.b (wa_cons (we_var (pv 0)) (wa_cons (we_c pe_int) wa_nil))) (we_c pe_int) (nomark _))
        (hss_one (hs_appendH (pv 2) (we_call (ok_lplain_row T) (hr.mono (by decide)) rfl T.d_lplain_row.m T.d_lplain_row.F.kp T.d_lplain_row.b (wa_cons (we_var (pv 0)) (wa_cons (we_var (pv 1)) wa_nil)))))
        hss_nil)
      (hf_done (sf_ret (fw_cat (we_var (pv 2)) (we_lst (wa_cons (we_tup (wa_cons (we_c pe_str) (wa_cons (we_c pe_str) (wa_cons (we_c pe_str) (wa_cons (we_c pe_str) (wa_cons (we_c pe_int) wa_nil)))))) (wa_cons (we_tup (wa_cons (we_c pe_str) (wa_cons (we_c pe_str) (wa_cons (we_c pe_int) wa_nil)))) wa_nil)))))))),
    fun es P h => by
      obtain ⟨p, ws, rfl, hw, hne, hp⟩ := h
      walk_at "red"
      have lb : ∀ n : Nat, n ≤ 100000 → n ≤ sizeLine := fun n h => line_big h
      have nc : isName (.str "c") = true := by decide +kernel
      refine ⟨by decide, p, 3, rfl, by decide, by decide, fun k k0 k1 => ⟨lb _ (by omega), p, ws, ⟨rfl, rfl⟩, hw, hne, fun r hr => ⟨lb _ (by omega), fun q => ⟨p, 2, rfl, by decide, by decide, fun z z0 z1 => ?_⟩⟩⟩⟩
      obtain ⟨m, rfl⟩ := Int.eq_ofNat_of_zero_le k0
      have first : RowK (.tup [.str "copy", .str "c", .int (1 + (m : Int))]) ∧ callOf (.tup [.str "copy", .str "c", .int (1 + (m : Int))]) = none :=
        ⟨.copy nc (.inr ⟨1 + m, by omega, by push_cast; rfl⟩), rfl⟩
      have third : RowK (.tup [.str "set", .str "c", .str "sub", .str "c", .int 1]) ∧ callOf (.tup [.str "set", .str "c", .str "sub", .str "c", .int 1]) = none :=
        ⟨.set nc (by decide) (.inl ⟨_, rfl, nc⟩) (.inr ⟨1, by decide, rfl⟩), rfl⟩
      have last : RowK (.tup [.str "if", .str "c", .int 1]) ∧ callOf (.tup [.str "if", .str "c", .int 1]) = none := ⟨.cond (t := 1) (.inl ⟨_, rfl, nc⟩) (by decide), rfl⟩
      by_cases hz : z = 0
      · refine ifT (decide_eq_true hz) ⟨p, ws, ⟨rfl, rfl⟩, hw, hne, fun r1 hr1 => ⟨line_lt (by omega), lb _ (by omega), lb _ (by omega), lb _ (by omega), lb _ (by omega), hp _ (by simp) (by simp) fun x hx => ?_⟩⟩
        simp only [List.mem_cons, List.not_mem_nil, or_false] at hx
        rcases hx with rfl | rfl | rfl | rfl | rfl
        · exact first
        · exact ⟨hr.k, hr.call⟩
        · exact ⟨hr1.k, hr1.call⟩
        · exact third
        · exact last
      · refine ifF (decide_eq_false hz) ⟨lb _ (by omega), lb _ (by omega), lb _ (by omega), lb _ (by omega), hp _ (by simp) (by simp) fun x hx => ?_⟩
        simp only [List.mem_cons, List.not_mem_nil, or_false] at hx
        rcases hx with rfl | rfl | rfl | rfl
        · exact first
        · exact ⟨hr.k, hr.call⟩
        · exact third
        · exact last⟩)
end
end K07

set_option maxHeartbeats 2000000
namespace K07
open PySem PySem.Spec PyProof.Rows L2 DL
variable [TabCtx]
local macro_rules | `(tactic| walk_at "red") => `(tactic| simp only [gRetG, gSeqHF, dInI, fIsC2, gFor3, gForH3, gStoreH, fwSortSet, wzMeth, wFell, fwCat, gForELH, wDGet2, fDict, dRepT, gSeqF, gSeqHF, gDoneF, gAccF, fwIf, gParAcc, gForHS, dRep, wDNIn, wD0, gClearH, fIsC, dNeI, DL.tyD_dct, DL.isInt_dct, DL.isStr_dct, DL.isBl_dct, DL.isTup_dct, DL.isLst_dct, wSortC, gExtH, fwList, wiSeq, seqOf_lst, seqOf_tup, wiAny, wzE, wzOpL, wzIf, gzRet, gzSet, gzDrop, gPar, wLcZ, wiZip, wTupRg3, wiRg3, fMin, fAbs, fMaxL, fMinL, gUn2, gUn3, gUn2L, gFor2L, wLcI, wLam3, gSrc, or_false, false_or, exists_false, false_and, and_false, wDc3, gAcc, gSeqH, gForEH, gForE, gForH, gIfH, gLift, gNextH, gAppendH, gAppend, gDone, gSetH, DL.seen, dIsN, dNotN, wDc, wFld, wMeth, wDIn, wDIx, wDGetN, wNew, wzNew, wLcI, gField, gCL, fLenQ, dIxQ, wNeK, wIndex, gTryRet, gTryDrop, wzCall, wzCallL, wTold, fIsE, fRepr, wJoin, wDGet, wVals, dPow, wSrc, gSrcSet, dMulS, dFdivS, fInt, fMax, fTuple, fList, startD, gNext, gSeq, gRet, gSet, gIf, gDrop, gRaise, gFor, wVar, wC, wOp, wTest, wChain, wAnd, wOr, wNot, wtAnd, wtOr, wtNot, wIf, waNil, waCons, wTup, wLst, wCall, quiet, wIsi, wInK, wLc, wiStr, wiTup, wiLst, wiRange, wSl, woNone, woSome, dSl, wNeg, dNeg, fLen, fAll, dEq, dNe, dLe, dLt, dGe, dGt, dAdd, dSub, dMod, dIx, dIn, dIsB, strsOf, boolsOf, DL.tyD_non, at_0, at_1, at_2, at_3, at_4, DL.isInt_non, DL.isStr_non, DL.isBl_non, DL.isTup_non, DL.isLst_non, DL.tyD_bl, DL.isInt_bl, DL.isStr_bl, DL.isBl_bl, DL.isTup_bl, DL.isLst_bl, DL.tyD_int, DL.isInt_int, DL.isStr_int, DL.isBl_int, DL.isTup_int, DL.isLst_int, DL.tyD_str, DL.isInt_str, DL.isStr_str, DL.isBl_str, DL.isTup_str, DL.isLst_str, DL.tyD_lst, DL.isInt_lst, DL.isStr_lst, DL.isBl_lst, DL.isTup_lst, DL.isLst_lst, DL.tyD_tup, DL.isInt_tup, DL.isStr_tup, DL.isBl_tup, DL.isTup_tup, DL.isLst_tup, pure1, pure2, pure3, Option.map_some,
  List.map_cons, List.map_nil, List.length_cons, List.length_nil, List.cons_append, List.nil_append, List.getElem?_cons_zero, List.getElem?_cons_succ, Option.some.injEq, exists_eq_left', exists_eq_left, exists_eq_right, exists_eq_right', D.bl.injEq, D.int.injEq, D.str.injEq, D.tup.injEq, D.lst.injEq, D.fn.injEq, D.sq.injEq, D.exn.injEq, List.cons.injEq, and_true, true_and, and_self, exists_and_left, exists_and_right, Option.isSome_some, List.set_cons_zero, List.set_cons_succ, if_true, Bool.false_eq_true, if_false, Bool.not_true, Bool.not_false, reduceCtorEq, List.replicate, Nat.reduceSub, Nat.reduceAdd])
section
variable {P : Program} {w : World} {K : PySem.W.Frag} {mg : Str → Option Value} {base : Heap}
/-- whom a row may call -/
def CallsIn (cs : List D) (r : D) : Prop := ∀ c n, callOf r = some (c, n) → D.tup [.str c, .int (n : Int)] ∈ cs
def CalleesK (cs : List D) : Prop := cs.length ≤ 3 ∧ ∀ c ∈ cs, ∃ (x : Str) (n : Nat), c = .tup [.str x, .int n] ∧ isName (.str x) = true ∧ n ≤ 2
/-- rows that stand together -/
def RowsK (cs rs : List D) : Prop := (∀ r ∈ rs, RowK r ∧ tgt r < (rs.length : Int) ∧ CallsIn cs r) ∧ ∃ a fr, OpK a ∧ rs = fr ++ [.tup [.str "back", a]]
def capR (top : Int) : D → D
  | .tup [.str w, a, .int t] => if w = "if" then .tup [.str w, a, .int (if top < t then top else t)] else .tup [.str w, a, .int t]
  | .tup [.str w, .int t] => if w = "go" then .tup [.str w, .int (if top < t then top else t)] else .tup [.str w, .int t]
  | r => r
omit [TabCtx] in
theorem CallsIn.none {cs : List D} {r : D} (h : callOf r = .none) : CallsIn cs r := fun c n e => by rw [h] at e; cases e
omit [TabCtx] in
theorem name_gd {n : Nat} {x : Str} (h : isName (.str x) = true) : gd n (.str x) = true := by
  have e : gd n (.str x) = (decide (x.length ≤ 100) && PyData.strOk x) := by cases n <;> rfl
  simp only [isName, Bool.and_eq_true, decide_eq_true_eq] at h
  rw [e, decide_eq_true (by omega), Bool.true_and]
  unfold PyData.strOk
  rw [Array.all_eq_true']
  intro c hc
  have := List.all_eq_true.mp h.2 c (by simpa using hc)
  simp only [low, Bool.and_eq_true, decide_eq_true_eq] at this ⊢
  omega
omit [TabCtx] in
theorem OpK.gd {n : Nat} {d : D} (h : OpK d) : gd n d = true := by
  rcases h with ⟨x, rfl, h⟩ | ⟨m, h, rfl⟩
  · exact name_gd h
  · exact gd_small (by omega)
omit [TabCtx] in
theorem CalleesK.good {cs : List D} (h : CalleesK cs) : Good (.lst cs) := gd_lst (n := 7) (by have := h.1; omega) fun c hc => by
  obtain ⟨x, n, rfl, hx, hn⟩ := h.2 c hc
  refine gd_tup (n := 6) (by simp) fun y hy => ?_
  simp only [List.mem_cons, List.not_mem_nil, or_false] at hy
  rcases hy with rfl | rfl
  · exact name_gd hx
  · exact gd_small (by omega)
omit [TabCtx] in
theorem OpK.noL {d : D} (h : OpK d) : noL d = true := by
  rcases h with ⟨x, rfl, h⟩ | ⟨m, h, rfl⟩ <;> rfl
omit [TabCtx] in
theorem CallsIn.calls {cs : List D} {x c : Str} {n : Nat} {os : List D} (h : D.tup [.str c, .int (n : Int)] ∈ cs) (e : os.length = n) : CallsIn cs (.tup [.str "call", .str x, .str c, .tup os]) := fun c' n' z => by
  have z' : some (c, os.length) = some (c', n') := z
  cases z'
  rw [e]
  exact h
theorem each_len {F : D → (D → Prop) → Prop} {S : D → Prop} : ∀ {xs : List D} {P : List D → Prop}, (∀ a ∈ xs, ∀ Q : D → Prop, (∀ d, S d → Q d) → F a Q) → (∀ ys : List D, ys.length = xs.length → (∀ y ∈ ys, S y) → P ys) → wEach F xs P
  | [], _, _, h => h [] rfl nofun
  | x :: xs, P, hf, h => hf x List.mem_cons_self _ fun d hd => each_len (S := S) (P := fun ys => P (d :: ys)) (fun a ha => hf a (List.mem_cons_of_mem _ ha)) fun ys hl hs => h (d :: ys) (by simp [hl]) fun y hy => by
    rcases List.mem_cons.mp hy with rfl | hy
    · exact hd
    · exact hs y hy
theorem back_k {a : D} (h : OpK a) : RowK (.tup [.str "back", a]) ∧ callOf (.tup [.str "back", a]) = none := ⟨.back h, by rcases h with ⟨x, rfl, h⟩ | ⟨m, h, rfl⟩ <;> rfl⟩
theorem cond_call {a : D} {t : Int} : callOf (.tup [.str "if", a, .int t]) = none := by cases a <;> rfl
theorem ite_nat (m t : Nat) : (if (m : Int) < (t : Int) then (m : Int) else (t : Int)) = ((if m < t then m else t : Nat) : Int) := by
  by_cases z : m < t
  · rw [if_pos z, if_pos (by omega)]
  · rw [if_neg z, if_neg (by omega)]
theorem cap_k {top : Int} {cs : List D} {r : D} (h : RowK r) (h0 : 0 ≤ top) (h40 : top ≤ 40) (hc : CallsIn cs r) : RowK (capR top r) ∧ tgt (capR top r) ≤ top ∧ CallsIn cs (capR top r) := by
  cases h with
  | set a b c d =>
    rcases c with ⟨y, rfl, z1⟩ | ⟨n, z1, rfl⟩ <;> exact ⟨.set a b (by first | exact .inl ⟨_, rfl, z1⟩ | exact .inr ⟨_, z1, rfl⟩) d, h0, hc⟩
  | copy a b =>
    rcases b with ⟨y, rfl, z1⟩ | ⟨n, z1, rfl⟩
    · exact ⟨.copy a (.inl ⟨_, rfl, z1⟩), h0, hc⟩
    · exact ⟨.copy a (.inr ⟨_, z1, rfl⟩), h0, hc⟩
  | get a => exact ⟨.get a, h0, hc⟩
  | out b =>
    rcases b with ⟨y, rfl, z1⟩ | ⟨n, z1, rfl⟩
    · exact ⟨.out (.inl ⟨_, rfl, z1⟩), h0, hc⟩
    · exact ⟨.out (.inr ⟨_, z1, rfl⟩), h0, hc⟩
  | back b =>
    rcases b with ⟨y, rfl, z1⟩ | ⟨n, z1, rfl⟩
    · exact ⟨.back (.inl ⟨_, rfl, z1⟩), h0, hc⟩
    · exact ⟨.back (.inr ⟨_, z1, rfl⟩), h0, hc⟩
  | @cond a t b c =>
    obtain ⟨m, rfl⟩ := Int.eq_ofNat_of_zero_le h0
    have e : capR (m : Int) (.tup [.str "if", a, .int (t : Int)]) = .tup [.str "if", a, .int ((if m < t then m else t : Nat) : Int)] := by
      show D.tup [.str "if", a, .int (if (m : Int) < (t : Int) then (m : Int) else (t : Int))] = _
      rw [ite_nat]
    rw [e]
    refine ⟨.cond b (by split <;> omega), ?_, .none cond_call⟩
    show ((if m < t then m else t : Nat) : Int) ≤ m
    split <;> omega
  | @go t c =>
    obtain ⟨m, rfl⟩ := Int.eq_ofNat_of_zero_le h0
    have e : capR (m : Int) (.tup [.str "go", .int (t : Int)]) = .tup [.str "go", .int ((if m < t then m else t : Nat) : Int)] := by
      show D.tup [.str "go", .int (if (m : Int) < (t : Int) then (m : Int) else (t : Int))] = _
      rw [ite_nat]
    rw [e]
    refine ⟨.go (by split <;> omega), ?_, .none rfl⟩
    show ((if m < t then m else t : Nat) : Int) ≤ m
    split <;> omega
  | call a b c d => exact ⟨.call a b c d, h0, hc⟩
theorem ok_lrows (T : Txt K mg) : FnOk P w K mg base CX0 6 T.d_lrows.f T.d_lrows.fd ["_law_source", "_law_words", "_law_callees", "_law_room"] (spD fun es P _ => (fun es P => ∃ p ws cs, ∃ room : Nat, es = [.src p, .lst ws, .lst cs, .int room] ∧ WordsK ws ∧ ws ≠ [] ∧ CalleesK cs ∧ 2 ≤ room ∧ room ≤ 12 ∧ ∀ rs, rs.length ≤ room → RowsK cs rs → P (.tup rs)) es P) :=
  fn_ok T.d_lrows.F sc_lrows (fun es P h => by first | (obtain ⟨rfl, _⟩ := h; rfl) | exact pure1_len h | exact pure2_len h | exact pure3_len h | (obtain ⟨_, rfl, _⟩ := h; rfl) | (obtain ⟨_, _, rfl, _⟩ := h; rfl) | (obtain ⟨_, _, _, rfl, _⟩ := h; rfl) | (obtain ⟨_, _, _, _, rfl, _⟩ := h; rfl) | (obtain ⟨rfl, _⟩ := h; rfl)) (fun cdv A outer s H E hr => ⟨_,
    (wss_acc sc_lrows.nd rfl (by first | exact .inl rfl | exact .inr rfl) (fw_if (PW.pt (ww_and (wt_cmp op_dGt (we_var (pv 3)) (we_c pe_int) (nomark _)) (pw_and1 (wt_cmp (op_dEq hr.units) (we_call (ok_ltake T) (hr.mono (by decide)) rfl T.d_ltake.m T.d_ltake.F.kp T.d_ltake.b (wa_cons (we_var (pv 0)) (wa_cons (we_c pe_int) wa_nil))) (we_c pe_int) (nomark _))))) (fw_call (ok_lloop T) (hr.mono (by decide)) rfl T.d_lloop.m T.d_lloop.F.kp T.d_lloop.b (wa_cons (we_var (pv 0)) (wa_cons (we_var (pv 1)) wa_nil))) (fw_lst wa_nil))
      (hss_cons (hs_forS (j := 5) (by decide) PassesOwn.never rfl rfl T.n_range (we_call (ok_ltake T) (hr.mono (by decide)) rfl T.d_ltake.m T.d_ltake.F.kp T.d_ltake.b (wa_cons (we_var (pv 0)) (wa_cons (we_op op_dSub (we_var (pv 3)) (we_callB call_fLen rfl T.n_len boot_lenB (wa_cons (we_var (pv 4)) wa_nil))) wa_nil))) (pg_name (i := 5) sc_lrows.nd rfl (by first | exact .inl rfl | exact .inr rfl))
        (hss_cons (hs_lift (ws_set (i := 6) sc_lrows.nd rfl (by first | exact .inl rfl | exact .inr rfl) (we_call (ok_ltake T) (hr.mono (by decide)) rfl T.d_ltake.m T.d_ltake.F.kp T.d_ltake.b (wa_cons (we_var (pv 0)) (wa_cons (we_c pe_int) wa_nil)))))
        (hss_one (hs_if (wt_cmp (op_dEq hr.units) (we_var (pv 6)) (we_c pe_int) (nomark _))
          (hss_one (hs_append (pv 4) (we_tup (wa_cons (we_c pe_str) (wa_cons (we_call (ok_loperand T) (hr.mono (by decide)) rfl T.d_loperand.m T.d_loperand.F.kp T.d_loperand.b (wa_cons (we_var (pv 0)) (wa_cons (we_var (pv 1)) wa_nil))) (wa_cons (we_op op_dAdd (we_op op_dAdd (we_callB call_fLen rfl T.n_len boot_lenB (wa_cons (we_var (pv 4)) wa_nil)) (we_c pe_int)) (we_call (ok_ltake T) (hr.mono (by decide)) rfl T.d_ltake.m T.d_ltake.F.kp T.d_ltake.b (wa_cons (we_var (pv 0)) (wa_cons (we_c pe_int) wa_nil)))) wa_nil))))))
          (hss_one (hs_if (wt_cmp (op_dEq hr.units) (we_var (pv 6)) (we_c pe_int) (nomark _))
            (hss_one (hs_append (pv 4) (we_tup (wa_cons (we_c pe_str) (wa_cons (we_op op_dAdd (we_op op_dAdd (we_callB call_fLen rfl T.n_len boot_lenB (wa_cons (we_var (pv 4)) wa_nil)) (we_c pe_int)) (we_call (ok_ltake T) (hr.mono (by decide)) rfl T.d_ltake.m T.d_ltake.F.kp T.d_ltake.b (wa_cons (we_var (pv 0)) (wa_cons (we_c pe_int) wa_nil)))) wa_nil)))))
            (hss_one (hs_if (PW.pt (ww_and (wt_cmp op_dLt (we_var (pv 6)) (we_c pe_int) (nomark _)) (pw_and1 (wt_cmp (op_dNe hr.units) (we_var (pv 2)) (we_lst wa_nil) (nomark _)))))
              (hss_cons (hs_lift (ws_un2 rfl (pg_name (i := 7) sc_lrows.nd rfl (by first | exact .inl rfl | exact .inr rfl)) (pg_name (i := 8) sc_lrows.nd rfl (by first | exact .inl rfl | exact .inr rfl)) (we_call (ok_lone T) (hr.mono (by decide)) rfl T.d_lone.m T.d_lone.F.kp T.d_lone.b (wa_cons (we_var (pv 0)) (wa_cons (we_var (pv 2)) wa_nil)))))
              (hss_cons (hs_lift (ws_set (i := 9) sc_lrows.nd rfl (by first | exact .inl rfl | exact .inr rfl) (we_callTy call_fTuple rfl T.n_tuple boot_tupleT (wa_cons (we_lc (i := 11) (x := "_law_k") rfl sc_lrows.nd (wi_range rfl T.n_range (we_var (pv 8))) (blkOk_by (N := ["_law_source", "_law_words", "_law_callees", "_law_room", "_law_drawn", "_law_turn", "_law_way", "_law_callee", "_law_many", "_law_given", "_law_top", "_law_k", "_law_row"]) (sc := defScope s_lrows) (by decide +kernel)) (fun _ _ _ _ _ => pg_name sc_lrows.nd rfl (Or.inl rfl)) (fun _ _ _ _ _ => (we_call (ok_loperand T) (hr.mono (by decide)) rfl T.d_loperand.m T.d_loperand.F.kp T.d_loperand.b (wa_cons (we_var (pv 0)) (wa_cons (we_var (pv 1)) wa_nil))))) wa_nil))))
              (hss_one (hs_appendH (pv 4) (we_tup (wa_cons (we_c pe_str) (wa_cons (we_call (ok_lone T) (hr.mono (by decide)) rfl T.d_lone.m T.d_lone.F.kp T.d_lone.b (wa_cons (we_var (pv 0)) (wa_cons (we_var (pv 1)) wa_nil))) (wa_cons (we_var (pv 7)) (wa_cons (we_var (pv 9)) wa_nil)))))))))
              (hss_one (hs_appendH (pv 4) (we_call (ok_lplain_row T) (hr.mono (by decide)) rfl T.d_lplain_row.m T.d_lplain_row.F.kp T.d_lplain_row.b (wa_cons (we_var (pv 0)) (wa_cons (we_var (pv 1)) wa_nil)))))))))))))
      (hss_cons (hs_appendH (pv 4) (we_tup (wa_cons (we_c pe_str) (wa_cons (we_call (ok_loperand T) (hr.mono (by decide)) rfl T.d_loperand.m T.d_loperand.F.kp T.d_loperand.b (wa_cons (we_var (pv 0)) (wa_cons (we_var (pv 1)) wa_nil))) wa_nil))))
      (hss_done (wss_cons (ws_set (i := 10) sc_lrows.nd rfl (by first | exact .inl rfl | exact .inr rfl) (we_op op_dSub (we_callB call_fLen rfl T.n_len boot_lenB (wa_cons (we_var (pv 4)) wa_nil)) (we_c pe_int)))
      (wss_one (ws_ret (we_callTy call_fTuple rfl T.n_tuple boot_tupleT (wa_cons (we_lc (i := 12) (x := "_law_row") rfl sc_lrows.nd (wi_sq (we_var (pv 4))) (blkOk_by (N := ["_law_source", "_law_words", "_law_callees", "_law_room", "_law_drawn", "_law_turn", "_law_way", "_law_callee", "_law_many", "_law_given", "_law_top", "_law_k", "_law_row"]) (sc := defScope s_lrows) (by decide +kernel)) (fun _ _ _ _ _ => pg_name sc_lrows.nd rfl (Or.inl rfl)) (fun _ _ _ _ _ => (we_if (wt_cmp op_dIn (we_ix (we_var (pv 12)) (we_c pe_int)) (we_lst (wa_cons (we_c pe_str) (wa_cons (we_c pe_str) wa_nil))) (by with_unfolding_all rfl)) (we_op op_dAdd (we_sl (we_var (pv 12)) wo_none (wo_some (we_neg (we_c pe_int)))) (we_tup (wa_cons (we_callB (call_fMin rfl) rfl T.n_min boot_minB (wa_cons (we_callTy call_fInt rfl T.n_int boot_intT (wa_cons (we_ix (we_var (pv 12)) (we_neg (we_c pe_int))) wa_nil)) (wa_cons (we_var (pv 10)) wa_nil))) wa_nil))) (we_var (pv 12))))) wa_nil))))))))),
    fun es P h => by
      obtain ⟨p, ws, cs, room, rfl, hw, hne, hcs, r2, r12, hp⟩ := h
      have lb : ∀ n : Nat, n ≤ 100000 → n ≤ sizeLine := fun n h => line_big h
      refine acc_cut (fun rs => rs.length ≤ 5 ∧ (rs.length = 0 ∨ 6 < room) ∧ ∀ r ∈ rs, RowK r ∧ callOf r = none) (by simp [startD]) (fun Q hq => ?_) (fun rs0 ⟨h5, h6, hrs0⟩ q => ?_)
      · walk_at "red"
        by_cases h6 : 6 < room
        · refine ifT (decide_eq_true (by omega)) ⟨p, 4, rfl, by decide, by decide, fun z z0 z1 => ?_⟩
          by_cases hz : z = 0
          · exact ifT (decide_eq_true hz) ⟨p, ws, ⟨rfl, rfl⟩, hw, hne, fun rs h1 h2 h3 => hq rs ⟨h2, .inr h6, h3⟩⟩
          · exact ifF (decide_eq_false hz) ⟨lb _ (by omega), hq [] ⟨by simp, .inl rfl, nofun⟩⟩
        · exact ifF (decide_eq_false (by omega)) ⟨lb _ (by omega), hq [] ⟨by simp, .inl rfl, nofun⟩⟩
      · refine seqH_cut (fun ds dv => (∃ x5 x6 x7 x8 x9, ds = [some (.src p), some (.lst ws), some (.lst cs), some (.int room), some (.fn q), x5, x6, x7, x8, x9, none, none, none]) ∧ dv.length < room ∧ ∀ r ∈ dv, RowK r ∧ CallsIn cs r) (fun N' hN => ?_) ?_
        · refine forHS_of (m := room - rs0.length) (by omega) (fun Q hq => ?_) (fun k ds dv => (∃ x5 x6 x7 x8 x9, ds = [some (.src p), some (.lst ws), some (.lst cs), some (.int room), some (.fn q), x5, x6, x7, x8, x9, none, none, none]) ∧ dv.length = rs0.length + k ∧ ∀ r ∈ dv, RowK r ∧ CallsIn cs r) ⟨⟨_, _, _, _, _, rfl⟩, rfl, fun r hr => ⟨(hrs0 r hr).1, .none (hrs0 r hr).2⟩⟩ ?_ ?_
          · walk_at "red"
            exact ⟨p, _, rfl, by omega, by omega, fun r r0 r1 => by
              obtain ⟨n, rfl⟩ := Int.eq_ofNat_of_zero_le r0
              exact hq n (by omega)⟩
          · rintro k ds dv hk ⟨⟨x5, x6, x7, x8, x9, rfl⟩, hl, hr⟩ N2 hN2
            refine ⟨nofun, seqH_cut (fun ds dv' => (∃ way : Nat, way < 9 ∧ ds = [some (.src p), some (.lst ws), some (.lst cs), some (.int room), some (.fn q), some (.int k), some (.int way), x7, x8, x9, none, none, none]) ∧ dv' = dv) (fun N3 hN3 => ?_) ?_⟩
            · walk_at "red"
              exact ⟨p, 9, rfl, by decide, by decide, fun r r0 r1 => by
                obtain ⟨n, rfl⟩ := Int.eq_ofNat_of_zero_le r0
                exact hN3 _ _ ⟨⟨n, by omega, rfl⟩, rfl⟩⟩
            · rintro ds dv' ⟨⟨way, hway, rfl⟩, rfl⟩
              walk_at "red"
              have fits : dv'.length < sizeLine := line_lt (by omega)
              have more : ∀ (r : D) (y7 y8 y9 : Option D), RowK r → CallsIn cs r → N2 [some (.src p), some (.lst ws), some (.lst cs), some (.int room), some (.fn q), some (.int k), some (.int way), y7, y8, y9, none, none, none] (dv' ++ [r]) := fun r y7 y8 y9 k1 k2 =>
                hN2 _ _ ⟨⟨_, _, _, _, _, rfl⟩, by simp; omega, fun x hx => by
                  rcases List.mem_append.mp hx with z | z
                  · exact hr x z
                  · rw [List.mem_singleton.mp z]; exact ⟨k1, k2⟩⟩
              have plain : ∃ p_1 ws_1, (D.src p = D.src p_1 ∧ ws = ws_1) ∧ WordsK ws_1 ∧ ws_1 ≠ [] ∧ ∀ r : D, RowP r → dv'.length < sizeLine ∧ N2 [some (.src p), some (.lst ws), some (.lst cs), some (.int room), some (.fn q), some (.int k), some (.int way), x7, x8, x9, none, none, none] (dv' ++ [r]) :=
                ⟨p, ws, ⟨rfl, rfl⟩, hw, hne, fun r hr => ⟨fits, more r _ _ _ hr.k (.none hr.call)⟩⟩
              by_cases w0 : way = 0
              · refine ifT (decide_eq_true (by omega)) ⟨p, ws, ⟨rfl, rfl⟩, hw, fun d hd => ⟨p, 3, rfl, by decide, by decide, fun r r0 r1 => ⟨lb _ (by omega), by simp [noL, noLs, hd.noL], fits, ?_⟩⟩⟩
                obtain ⟨n, rfl⟩ := Int.eq_ofNat_of_zero_le r0
                have e : ((dv'.length : Int) + 1 + (n : Int)) = ((dv'.length + 1 + n : Nat) : Int) := by push_cast; rfl
                rw [e]
                exact more _ _ _ _ (.cond hd (by omega)) (.none cond_call)
              refine ifF (decide_eq_false (by omega)) ?_
              by_cases w1 : way = 1
              · refine ifT (decide_eq_true (by omega)) ⟨p, 2, rfl, by decide, by decide, fun r r0 r1 => ⟨lb _ (by omega), by simp [noL, noLs], fits, ?_⟩⟩
                obtain ⟨n, rfl⟩ := Int.eq_ofNat_of_zero_le r0
                have e : ((dv'.length : Int) + 1 + (n : Int)) = ((dv'.length + 1 + n : Nat) : Int) := by push_cast; rfl
                rw [e]
                exact more _ _ _ _ (.go (by omega)) (.none rfl)
              refine ifF (decide_eq_false (by omega)) ?_
              by_cases w4 : way < 4
              · refine ifT (decide_eq_true (by omega)) ⟨lb _ (by omega), hcs.good.okEq, DL.Good.okEq (d := .lst []) (gd_lst (n := 7) (by simp) (fun _ z => nomatch z)), ?_⟩
                rw [eqD_nilL]
                by_cases hc0 : cs = []
                · exact ifF (by rw [hc0]; rfl) plain
                · refine ifT (by rw [decide_eq_false hc0]; rfl) ⟨p, cs, rfl, hc0, by have := hcs.1; omega, fun d hd => ?_⟩
                  obtain ⟨c, n, rfl, hcn, hn2⟩ := hcs.2 d hd
                  have il : (intsD n).length = n := by simp [intsD]
                  refine ⟨_, _, rfl, n, rfl, by omega, by omega, by rw [Int.toNat_natCast, il]; exact line_lt (by omega), each_len (S := OpK) (fun a _ Q hQ => ⟨p, ws, ⟨rfl, rfl⟩, hw, hQ⟩) fun ys yl hys => ?_⟩
                  rw [Int.toNat_natCast, il] at yl
                  refine ⟨p, ws, rfl, hne, by have := hw.1; omega, fun x hx => ?_⟩
                  obtain ⟨x, rfl, hxn⟩ := hw.2 x hx
                  exact ⟨lb _ (by omega), fits, more _ _ _ _ (.call hxn hcn (by omega) hys) (.calls hd yl)⟩
              · exact ifF (decide_eq_false (by omega)) plain
          · rintro k ds dv hk ⟨hds, hl, hr⟩
            exact hN ds dv ⟨hds, by omega, hr⟩
        · rintro ds dv ⟨⟨x5, x6, x7, x8, x9, rfl⟩, hl, hr⟩
          refine seqH_cut (fun ds dv' => (∃ x5 x6 x7 x8 x9, ds = [some (.src p), some (.lst ws), some (.lst cs), some (.int room), some (.fn q), x5, x6, x7, x8, x9, none, none, none]) ∧ ∃ a, OpK a ∧ dv' = dv ++ [.tup [.str "back", a]]) (fun N3 hN3 => ?_) ?_
          · walk_at "red"
            exact ⟨p, ws, ⟨rfl, rfl⟩, hw, fun d hd => ⟨lb _ (by omega), line_lt (by omega), hN3 _ _ ⟨⟨_, _, _, _, _, rfl⟩, d, hd, rfl⟩⟩⟩
          · rintro ds dv' ⟨⟨x5, x6, x7, x8, x9, rfl⟩, a, ha, rfl⟩
            walk_at "red"
            have el : (dv ++ [D.tup [D.str "back", a]]).length = dv.length + 1 := by simp
            have eo : ((((dv ++ [D.tup [D.str "back", a]]).length : Nat) : Int) - 1) = (dv.length : Int) := by rw [el]; push_cast; omega
            refine ⟨by rw [el]; exact line_lt (by omega), each_ofP (r := capR (dv.length : Int)) (fun x hx Q hq => ?_) (hp _ (by rw [List.length_map, el]; omega) ⟨fun r hr2 => ?_, a, dv.map (capR (dv.length : Int)), ha, ?_⟩)⟩
            · rw [eo]
              have kx : RowK x := by
                rcases List.mem_append.mp hx with z | z
                · exact (hr x z).1
                · rw [List.mem_singleton.mp z]; exact (back_k ha).1
              cases kx with
              | set a b c d => exact ⟨_, rfl, lb _ (by omega), _, rfl, ifF (by decide) hq⟩
              | copy a b => rcases b with ⟨y, rfl, z1⟩ | ⟨n, z1, rfl⟩ <;> exact ⟨_, rfl, lb _ (by omega), _, rfl, ifF (by decide) hq⟩
              | get a => exact ⟨_, rfl, lb _ (by omega), _, rfl, ifF (by decide) hq⟩
              | out b => rcases b with ⟨y, rfl, z1⟩ | ⟨n, z1, rfl⟩ <;> exact ⟨_, rfl, lb _ (by omega), _, rfl, ifF (by decide) hq⟩
              | back b => rcases b with ⟨y, rfl, z1⟩ | ⟨n, z1, rfl⟩ <;> exact ⟨_, rfl, lb _ (by omega), _, rfl, ifF (by decide) hq⟩
              | cond b c => exact ⟨_, rfl, lb _ (by omega), _, rfl, ifT (by decide) ⟨_, rfl, lb _ (by omega), lb _ (by show 2 + 1 ≤ _; omega), hq⟩⟩
              | go c => exact ⟨_, rfl, lb _ (by omega), _, rfl, ifT (by decide) ⟨_, rfl, lb _ (by omega), lb _ (by show 1 + 1 ≤ _; omega), hq⟩⟩
              | call a b c d => exact ⟨_, rfl, lb _ (by omega), _, rfl, ifF (by decide) hq⟩
            · obtain ⟨x, hx, rfl⟩ := List.mem_map.mp hr2
              have kx : RowK x ∧ CallsIn cs x := by
                rcases List.mem_append.mp hx with z | z
                · exact hr x z
                · rw [List.mem_singleton.mp z]; exact ⟨(back_k ha).1, .none (back_k ha).2⟩
              obtain ⟨z1, z2, z3⟩ := cap_k (top := (dv.length : Int)) (cs := cs) kx.1 (by omega) (by omega) kx.2
              exact ⟨z1, by rw [List.length_map, el]; push_cast; omega, z3⟩
            · rw [List.map_append]
              rcases ha with ⟨y, rfl, z1⟩ | ⟨n, z1, rfl⟩ <;> rfl⟩)
end
end K07


set_option maxHeartbeats 2000000
namespace K07
open PySem PySem.Spec PyProof.Rows L2 DL
variable [TabCtx]
local macro_rules | `(tactic| walk_at "red") => `(tactic| simp only [gRetG, gSeqHF, dInI, fIsC2, gFor3, gForH3, gStoreH, fwSortSet, wzMeth, wFell, fwCat, gForELH, wDGet2, fDict, dRepT, gSeqF, gSeqHF, gDoneF, gAccF, fwIf, gParAcc, gForHS, dRep, wDNIn, wD0, gClearH, fIsC, dNeI, DL.tyD_dct, DL.isInt_dct, DL.isStr_dct, DL.isBl_dct, DL.isTup_dct, DL.isLst_dct, wSortC, gExtH, fwList, wiSeq, seqOf_lst, seqOf_tup, wiAny, wzE, wzOpL, wzIf, gzRet, gzSet, gzDrop, gPar, wLcZ, wiZip, wTupRg3, wiRg3, fMin, fAbs, fMaxL, fMinL, gUn2, gUn3, gUn2L, gFor2L, wLcI, wLam3, gSrc, or_false, false_or, exists_false, false_and, and_false, wDc3, gAcc, gSeqH, gForEH, gForE, gForH, gIfH, gLift, gNextH, gAppendH, gAppend, gDone, gSetH, DL.seen, dIsN, dNotN, wDc, wFld, wMeth, wDIn, wDIx, wDGetN, wNew, wzNew, wLcI, gField, gCL, fLenQ, dIxQ, wNeK, wIndex, gTryRet, gTryDrop, wzCall, wzCallL, wTold, fIsE, fRepr, wJoin, wDGet, wVals, dPow, wSrc, gSrcSet, dMulS, dFdivS, fInt, fMax, fTuple, fList, startD, gNext, gSeq, gRet, gSet, gIf, gDrop, gRaise, gFor, wVar, wC, wOp, wTest, wChain, wAnd, wOr, wNot, wtAnd, wtOr, wtNot, wIf, waNil, waCons, wTup, wLst, wCall, quiet, wIsi, wInK, wLc, wiStr, wiTup, wiLst, wiRange, wSl, woNone, woSome, dSl, wNeg, dNeg, fLen, fAll, dEq, dNe, dLe, dLt, dGe, dGt, dAdd, dSub, dMod, dIx, dIn, dIsB, strsOf, boolsOf, DL.tyD_non, at_0, at_1, at_2, at_3, at_4, DL.isInt_non, DL.isStr_non, DL.isBl_non, DL.isTup_non, DL.isLst_non, DL.tyD_bl, DL.isInt_bl, DL.isStr_bl, DL.isBl_bl, DL.isTup_bl, DL.isLst_bl, DL.tyD_int, DL.isInt_int, DL.isStr_int, DL.isBl_int, DL.isTup_int, DL.isLst_int, DL.tyD_str, DL.isInt_str, DL.isStr_str, DL.isBl_str, DL.isTup_str, DL.isLst_str, DL.tyD_lst, DL.isInt_lst, DL.isStr_lst, DL.isBl_lst, DL.isTup_lst, DL.isLst_lst, DL.tyD_tup, DL.isInt_tup, DL.isStr_tup, DL.isBl_tup, DL.isTup_tup, DL.isLst_tup, pure1, pure2, pure3, Option.map_some,
  List.map_cons, List.map_nil, List.length_cons, List.length_nil, List.cons_append, List.nil_append, List.getElem?_cons_zero, List.getElem?_cons_succ, Option.some.injEq, exists_eq_left', exists_eq_left, exists_eq_right, exists_eq_right', D.bl.injEq, D.int.injEq, D.str.injEq, D.tup.injEq, D.lst.injEq, D.fn.injEq, D.sq.injEq, D.exn.injEq, List.cons.injEq, and_true, true_and, and_self, exists_and_left, exists_and_right, Option.isSome_some, List.set_cons_zero, List.set_cons_succ, if_true, Bool.false_eq_true, if_false, Bool.not_true, Bool.not_false, reduceCtorEq, List.replicate, Nat.reduceSub, Nat.reduceAdd])
section
variable {P : Program} {w : World} {K : PySem.W.Frag} {mg : Str → Option Value} {base : Heap}
def deepRows : List D := [.tup [.str "if", .str "n", .int 2], .tup [.str "back", .int 0], .tup [.str "set", .str "m", .str "sub", .str "n", .int 1], .tup [.str "call", .str "m", .str "deep", .tup [.str "m"]], .tup [.str "set", .str "m", .str "add", .str "m", .str "n"], .tup [.str "back", .str "m"]]
def deepD : D := .tup [.str "deep", .tup [.str "n"], .tup deepRows]
theorem ok_ldeep (T : Txt K mg) : FnOk P w K mg base CX0 1 T.d_ldeep.f T.d_ldeep.fd [] (spD fun es P _ => (fun es P => es = [] ∧ P deepD) es P) :=
  fn_ok T.d_ldeep.F sc_ldeep (fun es P h => by first | (obtain ⟨rfl, _⟩ := h; rfl) | exact pure1_len h | exact pure2_len h | exact pure3_len h | (obtain ⟨_, rfl, _⟩ := h; rfl) | (obtain ⟨_, _, rfl, _⟩ := h; rfl) | (obtain ⟨_, _, _, rfl, _⟩ := h; rfl) | (obtain ⟨_, _, _, _, rfl, _⟩ := h; rfl) | (obtain ⟨rfl, _⟩ := h; rfl)) (fun cdv A outer s H E hr => ⟨_,
    (wss_one (ws_ret (we_tup (wa_cons (we_c pe_str) (wa_cons (we_tup (wa_cons (we_c pe_str) wa_nil)) (wa_cons (we_tup (wa_cons (we_tup (wa_cons (we_c pe_str) (wa_cons (we_c pe_str) (wa_cons (we_c pe_int) wa_nil)))) (wa_cons (we_tup (wa_cons (we_c pe_str) (wa_cons (we_c pe_int) wa_nil))) (wa_cons (we_tup (wa_cons (we_c pe_str) (wa_cons (we_c pe_str) (wa_cons (we_c pe_str) (wa_cons (we_c pe_str) (wa_cons (we_c pe_int) wa_nil)))))) (wa_cons (we_tup (wa_cons (we_c pe_str) (wa_cons (we_c pe_str) (wa_cons (we_c pe_str) (wa_cons (we_tup (wa_cons (we_c pe_str) wa_nil)) wa_nil))))) (wa_cons (we_tup (wa_cons (we_c pe_str) (wa_cons (we_c pe_str) (wa_cons (we_c pe_str) (wa_cons (we_c pe_str) (wa_cons (we_c pe_str) wa_nil)))))) (wa_cons (we_tup (wa_cons (we_c pe_str) (wa_cons (we_c pe_str) wa_nil))) wa_nil))))))) wa_nil)))))),
    fun es P h => by
      obtain ⟨rfl, hp⟩ := h
      have lb : ∀ n : Nat, n ≤ 100000 → n ≤ sizeLine := fun n h => line_big h
      walk_at "red"
      exact ⟨lb _ (by omega), lb _ (by omega), lb _ (by omega), lb _ (by omega), lb _ (by omega), lb _ (by omega), lb _ (by omega), lb _ (by omega), lb _ (by omega), lb _ (by omega), hp⟩⟩)
/-- a program's rows behind a call that goes ahead of them -/
def ShiftK (cs rs : List D) (P : List D → Prop) : Prop := ∀ ys : List D, ys.length ≤ 11 → 1 ≤ ys.length → (∀ r ∈ ys, RowK r ∧ tgt r ≤ (ys.length : Int) ∧ CallsIn cs r) → (∃ a fr, OpK a ∧ ys = fr ++ [.tup [.str "back", a]]) → P ys
def mapT (f : Int → Int) : D → D
  | .tup [.str w, a, .int t] => if w = "if" then .tup [.str w, a, .int (f t)] else .tup [.str w, a, .int t]
  | .tup [.str w, .int t] => if w = "go" then .tup [.str w, .int (f t)] else .tup [.str w, .int t]
  | r => r
theorem map_k {f : Int → Int} {top : Nat} {cs : List D} {r : D} (h : RowK r) (h40 : top ≤ 40) (hf : ∀ t : Nat, ∃ m : Nat, f t = m ∧ m ≤ top) (hc : CallsIn cs r) : RowK (mapT f r) ∧ tgt (mapT f r) ≤ top ∧ CallsIn cs (mapT f r) := by
  have h0 : (0 : Int) ≤ top := by omega
  cases h with
  | set a b c d =>
    rcases c with ⟨y, rfl, z1⟩ | ⟨n, z1, rfl⟩ <;> exact ⟨.set a b (by first | exact .inl ⟨_, rfl, z1⟩ | exact .inr ⟨_, z1, rfl⟩) d, h0, hc⟩
  | copy a b =>
    rcases b with ⟨y, rfl, z1⟩ | ⟨n, z1, rfl⟩
    · exact ⟨.copy a (.inl ⟨_, rfl, z1⟩), h0, hc⟩
    · exact ⟨.copy a (.inr ⟨_, z1, rfl⟩), h0, hc⟩
  | get a => exact ⟨.get a, h0, hc⟩
  | out b =>
    rcases b with ⟨y, rfl, z1⟩ | ⟨n, z1, rfl⟩
    · exact ⟨.out (.inl ⟨_, rfl, z1⟩), h0, hc⟩
    · exact ⟨.out (.inr ⟨_, z1, rfl⟩), h0, hc⟩
  | back b =>
    rcases b with ⟨y, rfl, z1⟩ | ⟨n, z1, rfl⟩
    · exact ⟨.back (.inl ⟨_, rfl, z1⟩), h0, hc⟩
    · exact ⟨.back (.inr ⟨_, z1, rfl⟩), h0, hc⟩
  | @cond a t b c =>
    obtain ⟨m, hm, hl⟩ := hf t
    have e : mapT f (.tup [.str "if", a, .int (t : Int)]) = .tup [.str "if", a, .int (m : Int)] := by
      show D.tup [.str "if", a, .int (f t)] = _
      rw [hm]
    rw [e]
    exact ⟨.cond b (by omega), by show (m : Int) ≤ top; omega, .none cond_call⟩
  | @go t c =>
    obtain ⟨m, hm, hl⟩ := hf t
    have e : mapT f (.tup [.str "go", .int (t : Int)]) = .tup [.str "go", .int (m : Int)] := by
      show D.tup [.str "go", .int (f t)] = _
      rw [hm]
    rw [e]
    exact ⟨.go (by omega), by show (m : Int) ≤ top; omega, .none rfl⟩
  | call a b c d => exact ⟨.call a b c d, h0, hc⟩
theorem ok_lshifted (T : Txt K mg) : FnOk P w K mg base CX0 1 T.d_lshifted.f T.d_lshifted.fd ["_law_rows_here"] (spD fun es P _ => (fun es P => ∃ cs rs, es = [.tup rs] ∧ rs.length ≤ 12 ∧ RowsK cs rs ∧ ShiftK cs rs fun ys => P (.tup ys)) es P) :=
  fn_ok T.d_lshifted.F sc_lshifted (fun es P h => by first | (obtain ⟨rfl, _⟩ := h; rfl) | exact pure1_len h | exact pure2_len h | exact pure3_len h | (obtain ⟨_, rfl, _⟩ := h; rfl) | (obtain ⟨_, _, rfl, _⟩ := h; rfl) | (obtain ⟨_, _, _, rfl, _⟩ := h; rfl) | (obtain ⟨_, _, _, _, rfl, _⟩ := h; rfl) | (obtain ⟨rfl, _⟩ := h; rfl)) (fun cdv A outer s H E hr => ⟨_,
    (wss_cons (ws_set (i := 1) sc_lshifted.nd rfl (by first | exact .inl rfl | exact .inr rfl) (we_if (wt_cmp op_dLt (we_callB call_fLen rfl T.n_len boot_lenB (wa_cons (we_var (pv 0)) wa_nil)) (we_c pe_int) (nomark _)) (we_var (pv 0)) (we_op op_dAdd (we_sl (we_var (pv 0)) wo_none (wo_some (we_c pe_int))) (we_sl (we_var (pv 0)) (wo_some (we_neg (we_c pe_int))) wo_none))))
      (wss_cons (ws_set (i := 2) sc_lshifted.nd rfl (by first | exact .inl rfl | exact .inr rfl) (we_callB call_fLen rfl T.n_len boot_lenB (wa_cons (we_var (pv 1)) wa_nil)))
      (wss_one (ws_ret (we_callTy call_fTuple rfl T.n_tuple boot_tupleT (wa_cons (we_lc (i := 3) (x := "_law_row") rfl sc_lshifted.nd (wi_sq (we_var (pv 1))) (blkOk_by (N := ["_law_rows_here", "_law_kept", "_law_top", "_law_row"]) (sc := defScope s_lshifted) (by decide +kernel)) (fun _ _ _ _ _ => pg_name sc_lshifted.nd rfl (Or.inl rfl)) (fun _ _ _ _ _ => (we_if (wt_cmp op_dIn (we_ix (we_var (pv 3)) (we_c pe_int)) (we_lst (wa_cons (we_c pe_str) (wa_cons (we_c pe_str) wa_nil))) (by with_unfolding_all rfl)) (we_op op_dAdd (we_sl (we_var (pv 3)) wo_none (wo_some (we_neg (we_c pe_int)))) (we_tup (wa_cons (we_callB (call_fMin rfl) rfl T.n_min boot_minB (wa_cons (we_op op_dAdd (we_callTy call_fInt rfl T.n_int boot_intT (wa_cons (we_ix (we_var (pv 3)) (we_neg (we_c pe_int))) wa_nil)) (we_c pe_int)) (wa_cons (we_var (pv 2)) wa_nil))) wa_nil))) (we_var (pv 3))))) wa_nil)))))),
    fun es P h => by
      obtain ⟨cs, rs, rfl, hl, hk, hp⟩ := h
      have lb : ∀ n : Nat, n ≤ 100000 → n ≤ sizeLine := fun n h => line_big h
      obtain ⟨hrows, a, fr, ha, hlast⟩ := hk
      have go : ∀ ys : List D, ys.length ≤ 11 → 1 ≤ ys.length → (∀ r ∈ ys, RowK r ∧ CallsIn cs r) → (∃ fr, ys = fr ++ [.tup [.str "back", a]]) → P (.tup (ys.map (mapT fun t => if (ys.length : Int) < t + 1 then (ys.length : Int) else t + 1))) := fun ys h11 h1 hr ⟨fr, hf⟩ => by
        refine hp _ (by rw [List.length_map]; exact h11) (by rw [List.length_map]; exact h1) (fun r hr2 => ?_) ⟨a, fr.map (mapT fun t => if (ys.length : Int) < t + 1 then (ys.length : Int) else t + 1), ha, ?_⟩
        · obtain ⟨x, hx, rfl⟩ := List.mem_map.mp hr2
          have := map_k (f := fun t => if (ys.length : Int) < t + 1 then (ys.length : Int) else t + 1) (top := ys.length) (cs := cs) (hr x hx).1 (by omega) (fun t => ⟨if ys.length < t + 1 then ys.length else t + 1, by
            by_cases z : ys.length < t + 1
            · rw [if_pos z]
              show (if (ys.length : Int) < (t : Int) + 1 then (ys.length : Int) else (t : Int) + 1) = _
              rw [if_pos (by omega)]
            · rw [if_neg z]
              show (if (ys.length : Int) < (t : Int) + 1 then (ys.length : Int) else (t : Int) + 1) = _
              rw [if_neg (by omega)]
              push_cast
              rfl, by split <;> omega⟩) (hr x hx).2
          rw [List.length_map]
          exact this
        · rw [hf, List.map_append]
          rcases ha with ⟨y, rfl, z1⟩ | ⟨n, z1, rfl⟩ <;> rfl
      walk_at "red"
      by_cases h12 : rs.length < 12
      · refine ifT (decide_eq_true (by omega)) ⟨line_lt (by omega), each_ofP (r := mapT fun t => if (rs.length : Int) < t + 1 then (rs.length : Int) else t + 1) (fun x hx Q hq => ?_) (go rs (by omega) (by rw [hlast]; simp) (fun r hr => ⟨(hrows r hr).1, (hrows r hr).2.2⟩) ⟨fr, hlast⟩)⟩
        have kx : RowK x := (hrows x hx).1
        cases kx with
        | set a b c d => exact ⟨_, rfl, lb _ (by omega), _, rfl, ifF (by decide) hq⟩
        | copy a b => rcases b with ⟨y, rfl, z1⟩ | ⟨n, z1, rfl⟩ <;> exact ⟨_, rfl, lb _ (by omega), _, rfl, ifF (by decide) hq⟩
        | get a => exact ⟨_, rfl, lb _ (by omega), _, rfl, ifF (by decide) hq⟩
        | out b => rcases b with ⟨y, rfl, z1⟩ | ⟨n, z1, rfl⟩ <;> exact ⟨_, rfl, lb _ (by omega), _, rfl, ifF (by decide) hq⟩
        | back b => rcases b with ⟨y, rfl, z1⟩ | ⟨n, z1, rfl⟩ <;> exact ⟨_, rfl, lb _ (by omega), _, rfl, ifF (by decide) hq⟩
        | cond b c => exact ⟨_, rfl, lb _ (by omega), _, rfl, ifT (by decide) ⟨_, rfl, lb _ (by omega), lb _ (by show 2 + 1 ≤ _; omega), hq⟩⟩
        | go c => exact ⟨_, rfl, lb _ (by omega), _, rfl, ifT (by decide) ⟨_, rfl, lb _ (by omega), lb _ (by show 1 + 1 ≤ _; omega), hq⟩⟩
        | call a b c d => exact ⟨_, rfl, lb _ (by omega), _, rfl, ifF (by decide) hq⟩
      · refine ifF (decide_eq_false (by omega)) ?_
        have h12' : rs.length = 12 := by omega
        have hfr : fr.length = 11 := by
          have := congrArg List.length hlast
          simp at this
          omega
        have c1 : DL.cutD rs none (some 10) = fr.take 10 := by
          have z : DL.cutD rs none (some 10) = rs.take 10 := cut_take rs 10
          rw [z, hlast, List.take_append_of_le_length (by omega)]
        have c2 : DL.cutD rs (some (-1)) none = [.tup [.str "back", a]] := by
          unfold DL.cutD
          rw [h12']
          show (rs.drop 11).take 1 = _
          rw [hlast, List.drop_append_of_le_length (by omega), List.drop_of_length_le (by omega)]
          rfl
        rw [c1, c2]
        have hys : ∀ r ∈ fr.take 10 ++ [D.tup [.str "back", a]], RowK r ∧ CallsIn cs r := fun r hr => by
          have hm : r ∈ rs := by
            rw [hlast]
            rcases List.mem_append.mp hr with z | z
            · exact List.mem_append_left _ (List.mem_of_mem_take z)
            · exact List.mem_append_right _ z
          exact ⟨(hrows r hm).1, (hrows r hm).2.2⟩
        have ly : (fr.take 10 ++ [D.tup [.str "back", a]]).length = 11 := by simp [hfr]
        have fin := go _ (by rw [ly]; omega) (by rw [ly]; omega) hys ⟨_, rfl⟩
        generalize fr.take 10 ++ [D.tup [.str "back", a]] = ys at hys ly fin
        refine ⟨lb _ (by simp; omega), line_lt (by omega), each_ofP (r := mapT fun t => if (ys.length : Int) < t + 1 then (ys.length : Int) else t + 1) (fun x hx Q hq => ?_) fin⟩
        have kx : RowK x := (hys x hx).1
        cases kx with
        | set a b c d => exact ⟨_, rfl, lb _ (by omega), _, rfl, ifF (by decide) hq⟩
        | copy a b => rcases b with ⟨y, rfl, z1⟩ | ⟨n, z1, rfl⟩ <;> exact ⟨_, rfl, lb _ (by omega), _, rfl, ifF (by decide) hq⟩
        | get a => exact ⟨_, rfl, lb _ (by omega), _, rfl, ifF (by decide) hq⟩
        | out b => rcases b with ⟨y, rfl, z1⟩ | ⟨n, z1, rfl⟩ <;> exact ⟨_, rfl, lb _ (by omega), _, rfl, ifF (by decide) hq⟩
        | back b => rcases b with ⟨y, rfl, z1⟩ | ⟨n, z1, rfl⟩ <;> exact ⟨_, rfl, lb _ (by omega), _, rfl, ifF (by decide) hq⟩
        | cond b c => exact ⟨_, rfl, lb _ (by omega), _, rfl, ifT (by decide) ⟨_, rfl, lb _ (by omega), lb _ (by show 2 + 1 ≤ _; omega), hq⟩⟩
        | go c => exact ⟨_, rfl, lb _ (by omega), _, rfl, ifT (by decide) ⟨_, rfl, lb _ (by omega), lb _ (by show 1 + 1 ≤ _; omega), hq⟩⟩
        | call a b c d => exact ⟨_, rfl, lb _ (by omega), _, rfl, ifF (by decide) hq⟩⟩)
end
end K07

set_option maxHeartbeats 2000000
namespace K07
open PySem PySem.Spec PyProof.Rows L2 DL
variable [TabCtx]
local macro_rules | `(tactic| walk_at "red") => `(tactic| simp only [gRetG, gSeqHF, dInI, fIsC2, gFor3, gForH3, gStoreH, fwSortSet, wzMeth, wFell, fwCat, gForELH, wDGet2, fDict, dRepT, gSeqF, gSeqHF, gDoneF, gAccF, fwIf, gParAcc, gForHS, dRep, wDNIn, wD0, gClearH, fIsC, dNeI, DL.tyD_dct, DL.isInt_dct, DL.isStr_dct, DL.isBl_dct, DL.isTup_dct, DL.isLst_dct, wSortC, gExtH, fwList, wiSeq, seqOf_lst, seqOf_tup, wiAny, wzE, wzOpL, wzIf, gzRet, gzSet, gzDrop, gPar, wLcZ, wiZip, wTupRg3, wiRg3, fMin, fAbs, fMaxL, fMinL, gUn2, gUn3, gUn2L, gFor2L, wLcI, wLam3, gSrc, or_false, false_or, exists_false, false_and, and_false, wDc3, gAcc, gSeqH, gForEH, gForE, gForH, gIfH, gLift, gNextH, gAppendH, gAppend, gDone, gSetH, DL.seen, dIsN, dNotN, wDc, wFld, wMeth, wDIn, wDIx, wDGetN, wNew, wzNew, wLcI, gField, gCL, fLenQ, dIxQ, wNeK, wIndex, gTryRet, gTryDrop, wzCall, wzCallL, wTold, fIsE, fRepr, wJoin, wDGet, wVals, dPow, wSrc, gSrcSet, dMulS, dFdivS, fInt, fMax, fTuple, fList, startD, gNext, gSeq, gRet, gSet, gIf, gDrop, gRaise, gFor, wVar, wC, wOp, wTest, wChain, wAnd, wOr, wNot, wtAnd, wtOr, wtNot, wIf, waNil, waCons, wTup, wLst, wCall, quiet, wIsi, wInK, wLc, wiStr, wiTup, wiLst, wiRange, wSl, woNone, woSome, dSl, wNeg, dNeg, fLen, fAll, dEq, dNe, dLe, dLt, dGe, dGt, dAdd, dSub, dMod, dIx, dIn, dIsB, strsOf, boolsOf, DL.tyD_non, at_0, at_1, at_2, at_3, at_4, DL.isInt_non, DL.isStr_non, DL.isBl_non, DL.isTup_non, DL.isLst_non, DL.tyD_bl, DL.isInt_bl, DL.isStr_bl, DL.isBl_bl, DL.isTup_bl, DL.isLst_bl, DL.tyD_int, DL.isInt_int, DL.isStr_int, DL.isBl_int, DL.isTup_int, DL.isLst_int, DL.tyD_str, DL.isInt_str, DL.isStr_str, DL.isBl_str, DL.isTup_str, DL.isLst_str, DL.tyD_lst, DL.isInt_lst, DL.isStr_lst, DL.isBl_lst, DL.isTup_lst, DL.isLst_lst, DL.tyD_tup, DL.isInt_tup, DL.isStr_tup, DL.isBl_tup, DL.isTup_tup, DL.isLst_tup, pure1, pure2, pure3, Option.map_some,
  List.map_cons, List.map_nil, List.length_cons, List.length_nil, List.cons_append, List.nil_append, List.getElem?_cons_zero, List.getElem?_cons_succ, Option.some.injEq, exists_eq_left', exists_eq_left, exists_eq_right, exists_eq_right', D.bl.injEq, D.int.injEq, D.str.injEq, D.tup.injEq, D.lst.injEq, D.fn.injEq, D.sq.injEq, D.exn.injEq, List.cons.injEq, and_true, true_and, and_self, exists_and_left, exists_and_right, Option.isSome_some, List.set_cons_zero, List.set_cons_succ, if_true, Bool.false_eq_true, if_false, Bool.not_true, Bool.not_false, reduceCtorEq, List.replicate, Nat.reduceSub, Nat.reduceAdd])
section
variable {P : Program} {w : World} {K : PySem.W.Frag} {mg : Str → Option Value} {base : Heap}
def pqL : List D := [.tup [.str "p", .tup [.str "a"]], .tup [.str "q", .tup [.str "a", .str "b"]]]
def headsL (many : Nat) : List D := .tup [.str "main", .tup []] :: pqL.take many
def calleeOf : D → D
  | .tup [n, .tup ps] => .tup [n, .int (ps.length : Int)]
  | d => d
def partD (h : D) (rs : List D) : D := match h with
  | .tup [n, ps] => .tup [n, ps, .tup rs]
  | d => d
structure RowsQ (deep : Bool) (cs rs : List D) : Prop where
  len : rs.length ≤ 12 ∧ 1 ≤ rs.length
  row : ∀ r ∈ rs, RowK r ∧ tgt r < (rs.length : Int)
  last : ∃ a fr, OpK a ∧ rs = fr ++ [.tup [.str "back", a]]
  call : if deep = true then ∃ x o rest, isName (.str x) = true ∧ OpK o ∧ rs = .tup [.str "call", .str x, .str "deep", .tup [o]] :: rest ∧ ∀ r ∈ rest, CallsIn cs r else ∀ r ∈ rs, CallsIn cs r
inductive HeadK : D → Prop
  | mk {n : Str} {ps : List D} : isName (.str n) = true → ps.length ≤ 2 → (∀ q ∈ ps, ∃ x, q = .str x ∧ isName (.str x) = true) → HeadK (.tup [.str n, .tup ps])
theorem heads_k (many : Nat) : ∀ c ∈ headsL many, HeadK c := fun c hc => by
  have nm : ∀ z ∈ (["main", "p", "q", "a", "b"] : List Str), isName (.str z) = true := by decide +kernel
  rcases List.mem_cons.mp hc with rfl | hc
  · exact .mk (nm _ (by simp)) (by simp) nofun
  · have := List.mem_of_mem_take hc
    simp only [pqL, List.mem_cons, List.not_mem_nil, or_false] at this
    rcases this with rfl | rfl
    · exact .mk (nm _ (by simp)) (by simp) fun q hq => ⟨_, List.mem_singleton.mp hq, nm _ (by simp)⟩
    · refine .mk (nm _ (by simp)) (by simp) fun q hq => ?_
      simp only [List.mem_cons, List.not_mem_nil, or_false] at hq
      rcases hq with rfl | rfl
      · exact ⟨_, rfl, nm _ (by simp)⟩
      · exact ⟨_, rfl, nm _ (by simp)⟩
omit [TabCtx] in
theorem heads_len (many : Nat) : (headsL many).length ≤ 3 := by simp [headsL, pqL]; omega
def PartK (x : D) : Prop := ∃ (n : Str) (ps rs : List D), x = .tup [.str n, .tup ps, .tup rs] ∧ isName (.str n) = true ∧ isPars (.tup ps) = true ∧ rs.length ≤ 12 ∧ 1 ≤ rs.length ∧ (∀ r ∈ rs, RowK r ∧ tgt r < (rs.length : Int)) ∧ ∃ a fr, OpK a ∧ rs = fr ++ [.tup [.str "back", a]]
structure ProgK (pl : List D) : Prop where
  len : 1 ≤ pl.length ∧ pl.length ≤ 3
  part : ∀ x ∈ pl, PartK x
  nd : (keysOf pl).Nodup
  main : ∀ x r, pl = x :: r → parsLen x = 0
  call : ∀ x ∈ pl, ∀ r ∈ rowsOf x, ∀ c n, callOf r = some (c, n) → ∃ y ∈ pl.drop 1, nameOf y = c ∧ parsLen y = n
  notu : ∀ x ∈ pl, nameOf x ≠ ("u" : Str) ∧ nameOf x ≠ ("zzz" : Str)
  head : ∃ rs tl, pl = .tup [.str "main", .tup [], .tup rs] :: tl
omit [TabCtx] in
theorem heads_pars (many : Nat) : ∀ c ∈ headsL many, ∀ n ps, c = .tup [.str n, .tup ps] → isPars (.tup ps) = true := fun c hc n ps e => by
  rcases List.mem_cons.mp hc with rfl | hc
  · cases e; rfl
  · have := List.mem_of_mem_take hc
    simp only [pqL, List.mem_cons, List.not_mem_nil, or_false] at this
    rcases this with rfl | rfl
    · cases e; decide +kernel
    · cases e; decide +kernel
omit [TabCtx] in
theorem heads_nd {many : Nat} (h : many < 3) : (keysOf (headsL many)).Nodup ∧ (many < 2 → (keysOf (headsL many ++ [deepD])).Nodup) ∧ (∀ c ∈ headsL many, nameOf c ≠ "deep") := by
  match many, h with
  | 0, _ => exact ⟨by decide +kernel, fun _ => by decide +kernel, by decide +kernel⟩
  | 1, _ => exact ⟨by decide +kernel, fun _ => by decide +kernel, by decide +kernel⟩
  | 2, _ => exact ⟨by decide +kernel, fun z => absurd z (by omega), by decide +kernel⟩
theorem heads_nu {many : Nat} (h : many < 3) : ∀ c ∈ headsL many, nameOf c ≠ ("u" : Str) ∧ nameOf c ≠ ("zzz" : Str) := by
  match many, h with
  | 0, _ => decide +kernel
  | 1, _ => decide +kernel
  | 2, _ => decide +kernel
theorem deep_part : PartK deepD := by
  have nm : ∀ z ∈ (["deep", "n", "m"] : List Str), isName (.str z) = true := by decide +kernel
  have on : OpK (.str "n") := .inl ⟨_, rfl, nm _ (by simp)⟩
  have om : OpK (.str "m") := .inl ⟨_, rfl, nm _ (by simp)⟩
  refine ⟨"deep", _, _, rfl, nm _ (by simp), by decide +kernel, by decide, by decide, fun r hr => ?_, .str "m", deepRows.take 5, om, rfl⟩
  simp only [deepRows, List.mem_cons, List.not_mem_nil, or_false] at hr
  rcases hr with rfl | rfl | rfl | rfl | rfl | rfl
  · exact ⟨.cond (t := 2) on (by decide), by decide⟩
  · exact ⟨.back (.inr ⟨0, by decide, rfl⟩), by decide⟩
  · exact ⟨.set (nm _ (by simp)) (by decide) on (.inr ⟨1, by decide, rfl⟩), by decide⟩
  · exact ⟨.call (nm _ (by simp)) (nm _ (by simp)) (by decide) fun o ho => by rw [List.mem_singleton.mp ho]; exact om, by decide⟩
  · exact ⟨.set (nm _ (by simp)) (by decide) om on, by decide⟩
  · exact ⟨.back om, by decide⟩
theorem prog_of {many : Nat} (hm : many < 3) {dv : List D} (hl : dv.length = (headsL many).length)
    (hinv : ∀ (i : Nat) (hi : i < (headsL many).length), ∃ rs deep, dv[i]? = some (partD (headsL many)[i] rs) ∧ RowsQ deep (((headsL many).drop (i + 1)).map calleeOf) rs ∧ (deep = true → i = 0 ∧ many < 2)) :
    ∃ r0 rest tl, dv = .tup [.str "main", .tup [], .tup (r0 :: rest)] :: tl ∧ RowK r0 ∧ ((∃ n, callOf r0 = some (("deep" : Str), n)) → ProgK (dv ++ [deepD])) ∧ ((∀ n, callOf r0 ≠ some (("deep" : Str), n)) → ProgK dv) := by
  have hh := heads_k many
  have hp := heads_pars many
  obtain ⟨nd1, nd2, nod⟩ := heads_nd hm
  have h3 := heads_len many
  have pos : 0 < (headsL many).length := by simp [headsL]
  -- what a part is
  have shape : ∀ (i : Nat) (hi : i < (headsL many).length) (rs : List D), ∃ n ps, (headsL many)[i] = .tup [.str n, .tup ps] ∧ partD (headsL many)[i] rs = .tup [.str n, .tup ps, .tup rs] ∧ isName (.str n) = true ∧ isPars (.tup ps) = true := fun i hi rs => by
    have hm' := List.getElem_mem hi
    generalize hx : (headsL many)[i] = h at hm' ⊢
    obtain ⟨a1, a2, a3⟩ := hh h hm'
    exact ⟨_, _, rfl, rfl, a1, hp _ hm' _ _ rfl⟩
  have keys : keysOf dv = keysOf (headsL many) := List.ext_getElem? fun i => by
    unfold keysOf
    rw [List.getElem?_map, List.getElem?_map]
    rcases Nat.lt_or_ge i (headsL many).length with hi | hi
    · obtain ⟨rs, deep, h1, _⟩ := hinv i hi
      obtain ⟨n, ps, e1, e2, _⟩ := shape i hi rs
      rw [h1, List.getElem?_eq_getElem hi, e2, e1]
      rfl
    · rw [List.getElem?_eq_none (by omega), List.getElem?_eq_none hi]
  have parts : ∀ x ∈ dv, PartK x := fun x hx => by
    obtain ⟨i, hi, rfl⟩ := List.getElem_of_mem hx
    obtain ⟨rs, deep, h1, rq, _⟩ := hinv i (by omega)
    obtain ⟨n, ps, e1, e2, e3, e4⟩ := shape i (by omega) rs
    rw [List.getElem?_eq_getElem hi] at h1
    rw [Option.some.inj h1, e2]
    exact ⟨n, ps, rs, rfl, e3, e4, rq.len.1, rq.len.2, rq.row, rq.last⟩
  have nus : ∀ x ∈ dv, nameOf x ≠ ("u" : Str) ∧ nameOf x ≠ ("zzz" : Str) := fun x hx => by
    obtain ⟨i, hi, rfl⟩ := List.getElem_of_mem hx
    obtain ⟨rs, deep, h1, rq, _⟩ := hinv i (by omega)
    obtain ⟨n, ps, e1, e2, e3, e4⟩ := shape i (by omega) rs
    rw [List.getElem?_eq_getElem hi] at h1
    rw [Option.some.inj h1, e2]
    have := heads_nu hm _ (List.getElem_mem (show i < (headsL many).length by omega))
    rw [e1] at this
    exact this
  -- a call that one of the heads behind answers
  have served : ∀ (i : Nat) (hi : i < (headsL many).length) (r : D) (c : Str) (n : Nat), CallsIn (((headsL many).drop (i + 1)).map calleeOf) r → callOf r = some (c, n) → c ≠ "deep" ∧ ∃ y ∈ dv.drop 1, nameOf y = c ∧ parsLen y = n := fun i hi r c n hc e => by
    obtain ⟨h, hmem, he⟩ := List.mem_map.mp (hc c n e)
    obtain ⟨j, hj, rfl⟩ := List.getElem_of_mem hmem
    rw [List.getElem_drop] at he
    have hj' : i + 1 + j < (headsL many).length := by rw [List.length_drop] at hj; omega
    obtain ⟨rs, deep, h1, _⟩ := hinv (i + 1 + j) hj'
    obtain ⟨n', ps, e1, e2, _⟩ := shape (i + 1 + j) hj' rs
    rw [e1] at he
    have he' : D.tup [.str n', .int (ps.length : Int)] = .tup [.str c, .int (n : Int)] := he
    injection he' with he'
    injection he' with z1 z2
    injection z1 with z1
    injection z2 with z2 _
    injection z2 with z2
    have z2' : ps.length = n := by omega
    refine ⟨fun z => nod _ (List.getElem_mem hj') (by rw [e1, ← z, ← z1]; rfl), partD (headsL many)[i + 1 + j] rs, ?_, ?_, ?_⟩
    · refine List.mem_of_getElem? (i := i + j) ?_
      rw [List.getElem?_drop, show 1 + (i + j) = i + 1 + j by omega]
      exact h1
    · rw [e2, ← z1]; rfl
    · rw [e2, ← z2']; rfl
  obtain ⟨rs0, deep, h1, rq, hd⟩ := hinv 0 pos
  have e0 : partD (headsL many)[0] rs0 = .tup [.str "main", .tup [], .tup rs0] := rfl
  rw [e0] at h1
  obtain ⟨x0, tl, rfl⟩ : ∃ x tl, dv = x :: tl := by
    cases dv with
    | nil => simp at h1
    | cons x tl => exact ⟨x, tl, rfl⟩
  have ex : x0 = .tup [.str "main", .tup [], .tup rs0] := Option.some.inj h1
  subst ex
  obtain ⟨r0, rest, rfl⟩ : ∃ r0 rest, rs0 = r0 :: rest := by
    cases rs0 with
    | nil => exact absurd rq.len.2 (by simp)
    | cons r t => exact ⟨r, t, rfl⟩
  refine ⟨r0, rest, tl, rfl, (rq.row r0 (by simp)).1, fun ⟨n0, hc0⟩ => ?_, fun hno => ?_⟩
  · -- it calls deep
    have hdeep : deep = true := by
      cases deep with
      | true => rfl
      | false => exact absurd rfl (served 0 pos r0 _ _ (rq.call r0 (by simp)) hc0).1
    subst hdeep
    obtain ⟨_, hm2⟩ := hd rfl
    have lh : (headsL many).length ≤ 2 := by simp [headsL, pqL]; omega
    refine ⟨⟨by simp, by simp at hl ⊢; omega⟩, fun x hx => ?_, ?_, fun x r e => ?_, fun x hx r hr c n hc => ?_, fun x hx => by
      rcases List.mem_append.mp hx with z | z
      · exact nus x z
      · rw [List.mem_singleton.mp z]; decide +kernel, ⟨_, _, rfl⟩⟩
    · rcases List.mem_append.mp hx with z | z
      · exact parts x z
      · rw [List.mem_singleton.mp z]; exact deep_part
    · have := nd2 hm2
      unfold keysOf at this keys ⊢
      rw [List.map_append] at this ⊢
      rw [keys]
      exact this
    · injection e with e _
      rw [← e]
      rfl
    · have inTl : ∀ y ∈ ((D.tup [.str "main", .tup [], .tup (r0 :: rest)] :: tl).drop 1), y ∈ ((D.tup [.str "main", .tup [], .tup (r0 :: rest)] :: tl ++ [deepD]).drop 1) := fun y hy => by
        simp only [List.drop_succ_cons, List.drop_zero, List.cons_append] at hy ⊢
        exact List.mem_append_left _ hy
      have isDeep : deepD ∈ ((D.tup [.str "main", .tup [], .tup (r0 :: rest)] :: tl ++ [deepD]).drop 1) := by simp
      rcases List.mem_append.mp hx with z | z
      · obtain ⟨i, hi, rfl⟩ := List.getElem_of_mem z
        obtain ⟨rs, dp, g1, gq, gd⟩ := hinv i (by omega)
        obtain ⟨n', ps, e1, e2, _⟩ := shape i (by omega) rs
        rw [List.getElem?_eq_getElem hi] at g1
        rw [Option.some.inj g1, e2] at hr
        have hr' : r ∈ rs := hr
        have viaIn : CallsIn (((headsL many).drop (i + 1)).map calleeOf) r → ∃ y ∈ ((D.tup [.str "main", .tup [], .tup (r0 :: rest)] :: tl ++ [deepD]).drop 1), nameOf y = c ∧ parsLen y = n := fun q => by
          obtain ⟨_, y, hy, q1, q2⟩ := served i (by omega) r c n q hc
          exact ⟨y, inTl y hy, q1, q2⟩
        cases dp with
        | false => exact viaIn (gq.call r hr')
        | true =>
          obtain ⟨x', o, rest', q1, q2, q3, q4⟩ := gq.call
          rw [q3] at hr'
          rcases List.mem_cons.mp hr' with rfl | hr'
          · have : some ((("deep" : Str)), 1) = some (c, n) := hc
            cases this
            exact ⟨deepD, isDeep, rfl, rfl⟩
          · exact viaIn (q4 r hr')
      · rw [List.mem_singleton.mp z] at hr
        have hr' : r ∈ deepRows := hr
        simp only [deepRows, List.mem_cons, List.not_mem_nil, or_false] at hr'
        rcases hr' with rfl | rfl | rfl | rfl | rfl | rfl
        · cases hc
        · cases hc
        · cases hc
        · have : some ((("deep" : Str)), 1) = some (c, n) := hc
          cases this
          exact ⟨deepD, isDeep, rfl, rfl⟩
        · cases hc
        · cases hc
  · refine ⟨⟨by simp, by omega⟩, parts, by rw [keys]; exact nd1, fun x r e => ?_, fun x hx r hr c n hc => ?_, nus, ⟨_, _, rfl⟩⟩
    · injection e with e _
      rw [← e]
      rfl
    · obtain ⟨i, hi, rfl⟩ := List.getElem_of_mem hx
      obtain ⟨rs, dp, g1, gq, gd⟩ := hinv i (by omega)
      obtain ⟨n', ps, e1, e2, _⟩ := shape i (by omega) rs
      rw [List.getElem?_eq_getElem hi] at g1
      rw [Option.some.inj g1, e2] at hr
      have hr' : r ∈ rs := hr
      cases dp with
      | false => exact (served i (by omega) r c n (gq.call r hr') hc).2
      | true =>
        exfalso
        obtain ⟨hi0, _⟩ := gd rfl
        subst hi0
        obtain ⟨x', o, rest', q1, q2, q3, q4⟩ := gq.call
        have : D.tup [.str "main", .tup [], .tup (r0 :: rest)] = partD (headsL many)[0] rs := Option.some.inj g1
        rw [q3] at this
        injection this with this
        injection this with _ this
        injection this with _ this
        injection this with this _
        injection this with this
        injection this with this _
        exact hno 1 (by rw [this]; rfl)
theorem ok_lprogram (T : Txt K mg) : FnOk P w K mg base CX0 7 T.d_lprogram.f T.d_lprogram.fd ["_law_source", "_law_room"] (spD fun es P _ => (fun es P => ∃ p, ∃ room : Nat, es = [.src p, .int room] ∧ 4 ≤ room ∧ room ≤ 12 ∧ ∀ pl, ProgK pl → P (.lst pl)) es P) :=
  fn_ok T.d_lprogram.F sc_lprogram (fun es P h => by first | (obtain ⟨rfl, _⟩ := h; rfl) | exact pure1_len h | exact pure2_len h | exact pure3_len h | (obtain ⟨_, rfl, _⟩ := h; rfl) | (obtain ⟨_, _, rfl, _⟩ := h; rfl) | (obtain ⟨_, _, _, rfl, _⟩ := h; rfl) | (obtain ⟨_, _, _, _, rfl, _⟩ := h; rfl) | (obtain ⟨rfl, _⟩ := h; rfl)) (fun cdv A outer s H E hr => ⟨_,
    (wss_cons (ws_set (i := 2) sc_lprogram.nd rfl (by first | exact .inl rfl | exact .inr rfl) (we_call (ok_ltake T) (hr.mono (by decide)) rfl T.d_ltake.m T.d_ltake.F.kp T.d_ltake.b (wa_cons (we_var (pv 0)) (wa_cons (we_c pe_int) wa_nil))))
      (wss_cons (ws_set (i := 3) sc_lprogram.nd rfl (by first | exact .inl rfl | exact .inr rfl) (we_sl (we_lst (wa_cons (we_tup (wa_cons (we_c pe_str) (wa_cons (we_tup (wa_cons (we_c pe_str) wa_nil)) wa_nil))) (wa_cons (we_tup (wa_cons (we_c pe_str) (wa_cons (we_tup (wa_cons (we_c pe_str) (wa_cons (we_c pe_str) wa_nil))) wa_nil))) wa_nil))) wo_none (wo_some (we_var (pv 2)))))
      (wss_parAcc (hw := by first | rfl | with_unfolding_all rfl) (i := 4) (j := 5) rfl sc_lprogram.nd rfl rfl (by decide) rfl rfl (we_op op_dAdd (we_lst (wa_cons (we_tup (wa_cons (we_c pe_str) (wa_cons (we_tup wa_nil) wa_nil))) wa_nil)) (we_var (pv 3))) (fw_lst wa_nil)
      (hss_cons (hs_forEL (by decide) (by decide) PassesOwn.never rfl rfl T.n_enumerate (we_var (pv 4)) (pg_name (i := 6) sc_lprogram.nd rfl (by first | exact .inl rfl | exact .inr rfl)) (pg_name (i := 7) sc_lprogram.nd rfl (by first | exact .inl rfl | exact .inr rfl))
        (hss_cons (hs_lift (ws_set (i := 8) sc_lprogram.nd rfl (by first | exact .inl rfl | exact .inr rfl) (we_op op_dAdd (we_op op_dAdd (we_callTy call_fList rfl T.n_list boot_listT (wa_cons (we_ix (we_var (pv 7)) (we_c pe_int)) wa_nil)) (we_lst (wa_cons (we_c pe_str) (wa_cons (we_c pe_str) wa_nil)))) (we_op op_dRep (we_lst (wa_cons (we_c pe_str) wa_nil)) (we_callTy call_fInt rfl T.n_int boot_intT (wa_cons (we_cmp (op_dEq hr.units) (we_var (pv 6)) (we_c pe_int) (nomark _)) wa_nil))))))
        (hss_cons (hs_lift (ws_setLc (i := 9) (i1 := 11) (x1 := "_law_one_here") rfl sc_lprogram.nd rfl rfl (wi_sq (we_sl (we_var (pv 4)) (wo_some (we_op op_dAdd (we_var (pv 6)) (we_c pe_int))) wo_none)) (blkOk_by (N := ["_law_source", "_law_room", "_law_many", "_law_others", "_law_heads", "_law_drawn", "_law_at", "_law_head", "_law_words", "_law_callees", "_law_rows_here", "_law_one_here"]) (sc := defScope s_lprogram) (by decide +kernel)) (fun _ _ _ _ _ => pg_name sc_lprogram.nd rfl (Or.inl rfl)) (fun _ _ _ _ _ => (we_tup (wa_cons (we_ix (we_var (pv 11)) (we_c pe_int)) (wa_cons (we_callB call_fLen rfl T.n_len boot_lenB (wa_cons (we_ix (we_var (pv 11)) (we_c pe_int)) wa_nil)) wa_nil))))))
        (hss_cons (hs_lift (ws_set (i := 10) sc_lprogram.nd rfl (by first | exact .inl rfl | exact .inr rfl) (we_call (ok_lrows T) (hr.mono (by decide)) rfl T.d_lrows.m T.d_lrows.F.kp T.d_lrows.b (wa_cons (we_var (pv 0)) (wa_cons (we_var (pv 8)) (wa_cons (we_var (pv 9)) (wa_cons (we_if (wt_cmp (op_dEq hr.units) (we_var (pv 6)) (we_c pe_int) (nomark _)) (we_var (pv 1)) (we_callB (call_fMax rfl) rfl T.n_max boot_maxB (wa_cons (we_c pe_int) (wa_cons (we_op op_dFdivS (we_var (pv 1)) (we_c pe_int)) wa_nil)))) wa_nil)))))))
        (hss_cons (hs_lift (ws_if (PW.pt (ww_and (wt_cmp (op_dEq hr.units) (we_var (pv 6)) (we_c pe_int) (nomark _)) (ww_and (wt_cmp op_dLt (we_var (pv 2)) (we_c pe_int) (nomark _)) (pw_and1 (wt_cmp (op_dEq hr.units) (we_call (ok_ltake T) (hr.mono (by decide)) rfl T.d_ltake.m T.d_ltake.F.kp T.d_ltake.b (wa_cons (we_var (pv 0)) (wa_cons (we_c pe_int) wa_nil))) (we_c pe_int) (nomark _))))))
          (wss_one (ws_set (i := 10) sc_lprogram.nd rfl (by first | exact .inl rfl | exact .inr rfl) (we_op op_dAdd (we_tup (wa_cons (we_tup (wa_cons (we_c pe_str) (wa_cons (we_c pe_str) (wa_cons (we_c pe_str) (wa_cons (we_tup (wa_cons (we_call (ok_ltake T) (hr.mono (by decide)) rfl T.d_ltake.m T.d_ltake.F.kp T.d_ltake.b (wa_cons (we_var (pv 0)) (wa_cons (we_c pe_int) wa_nil))) wa_nil)) wa_nil))))) wa_nil)) (we_call (ok_lshifted T) (hr.mono (by decide)) rfl T.d_lshifted.m T.d_lshifted.F.kp T.d_lshifted.b (wa_cons (we_var (pv 10)) wa_nil)))))
          wss_nil))
        (hss_one (hs_appendH (pv 5) (we_op op_dAdd (we_var (pv 7)) (we_tup (wa_cons (we_var (pv 10)) wa_nil))))))))))
      (hss_done (wss_one (ws_ret (we_op op_dAdd (we_var (pv 5)) (we_if (PW.pt (ww_and (wt_cmp (op_dEq hr.units) (we_ix (we_ix (we_ix (we_ix (we_var (pv 5)) (we_c pe_int)) (we_c pe_int)) (we_c pe_int)) (we_c pe_int)) (we_c pe_str) (nomark _)) (pw_and1 (wt_cmp (op_dEq hr.units) (we_ix (we_ix (we_ix (we_ix (we_var (pv 5)) (we_c pe_int)) (we_c pe_int)) (we_c pe_int)) (we_c pe_int)) (we_c pe_str) (nomark _))))) (we_lst (wa_cons (we_call0 (ok_ldeep T) (hr.mono (by decide)) rfl T.d_ldeep.m T.d_ldeep.F.kp T.d_ldeep.b) wa_nil)) (we_lst wa_nil)))))))))),
    fun es P h => by
      obtain ⟨p, room, rfl, r4, r12, hp⟩ := h
      have lb : ∀ n : Nat, n ≤ 100000 → n ≤ sizeLine := fun n h => line_big h
      refine seqW_cut (fun ds => ∃ many : Nat, many < 3 ∧ ds = [some (.src p), some (.int room), some (.int many), none, none, none, none, none, none, none, none, none]) (fun N' hN => ?_) ?_
      · walk_at "red"
        exact ⟨p, 3, rfl, by decide, by decide, fun r r0 r1 => by
          obtain ⟨n, rfl⟩ := Int.eq_ofNat_of_zero_le r0
          exact hN _ ⟨n, by omega, rfl⟩⟩
      rintro ds ⟨many, hm, rfl⟩
      refine seqW_cut (fun ds => ds = [some (.src p), some (.int room), some (.int many), some (.lst (pqL.take many)), none, none, none, none, none, none, none, none]) (fun N' hN => ?_) ?_
      · walk_at "red"
        refine ⟨lb _ (by omega), lb _ (by omega), lb _ (by omega), lb _ (by omega), lb _ (by omega), ?_⟩
        rw [cut_take]
        exact hN _ rfl
      rintro ds rfl
      refine parAcc_cut (fun d es => d = .lst (headsL many) ∧ es = []) (by decide) (by simp) (fun Q hq => ?_) ?_
      · walk_at "red"
        exact ⟨lb _ (by omega), lb _ (by omega), lb _ (by omega), lb _ (by simp [pqL]; omega), lb _ (by omega), hq _ _ ⟨rfl, rfl⟩⟩
      rintro d es ⟨rfl, rfl⟩ q
      refine seqH_cut (fun ds dv => (∃ x6 x7 x8 x9 x10, ds = [some (.src p), some (.int room), some (.int many), some (.lst (pqL.take many)), some (.lst (headsL many)), some (.fn q), x6, x7, x8, x9, x10, none]) ∧ dv.length = (headsL many).length ∧
        ∀ (i : Nat) (hi : i < (headsL many).length), ∃ rs deep, dv[i]? = some (partD (headsL many)[i] rs) ∧ RowsQ deep (((headsL many).drop (i + 1)).map calleeOf) rs ∧ (deep = true → i = 0 ∧ many < 2)) (fun N' hN => ?_) ?_
      · refine forELH_of (headsL many) (fun Q hq => ?_) (fun k ds dv => (∃ x6 x7 x8 x9 x10, ds = [some (.src p), some (.int room), some (.int many), some (.lst (pqL.take many)), some (.lst (headsL many)), some (.fn q), x6, x7, x8, x9, x10, none]) ∧ dv.length = k ∧
          ∀ (i : Nat) (hi : i < (headsL many).length), i < k → ∃ rs deep, dv[i]? = some (partD (headsL many)[i] rs) ∧ RowsQ deep (((headsL many).drop (i + 1)).map calleeOf) rs ∧ (deep = true → i = 0 ∧ many < 2)) ⟨⟨_, _, _, _, _, rfl⟩, rfl, fun i _ z => absurd z (Nat.not_lt_zero _)⟩ ?_ ?_
        · walk_at "red"
          exact hq
        · rintro k ds dv hk ⟨⟨x6, x7, x8, x9, x10, rfl⟩, hl, hinv⟩ N2 hN2
          have all : ∀ c ∈ headsL many, HeadK c := heads_k many
          have hh : HeadK (headsL many)[k] := all _ (List.getElem_mem hk)
          have drops : ∀ c ∈ (headsL many).drop (k + 1), HeadK c := fun c hc => all c (List.mem_of_mem_drop hc)
          generalize hhd : (headsL many)[k] = hd at hh hN2
          obtain ⟨hn, hps, hpn⟩ := hh
          rename_i n ps
          refine seqH_cut (fun ds dv' => (∃ ws, WordsK ws ∧ ws ≠ [] ∧ ds = [some (.src p), some (.int room), some (.int many), some (.lst (pqL.take many)), some (.lst (headsL many)), some (.fn q), some (.int k), some (.tup [.str n, .tup ps]), some (.lst ws), x9, x10, none]) ∧ dv' = dv) (fun N3 hN3 => ?_) ?_
          · walk_at "red"
            have nz : ∀ z ∈ (["x", "y", "z"] : List Str), isName (.str z) = true := by decide +kernel
            have wk : ∀ zs : List D, zs.length ≤ 1 → (∀ z ∈ zs, z = .str "z") → WordsK (ps ++ [D.str "x", D.str "y"] ++ zs) ∧ ps ++ [D.str "x", D.str "y"] ++ zs ≠ [] := fun zs zl hz => ⟨⟨by simp; omega, fun d hd => by
              simp only [List.mem_append, List.mem_cons, List.not_mem_nil, or_false] at hd
              rcases hd with (h | h | h) | h
              · exact hpn d h
              · exact ⟨_, h, nz _ (by simp)⟩
              · exact ⟨_, h, nz _ (by simp)⟩
              · exact ⟨_, hz d h, nz _ (by simp)⟩⟩, by simp⟩
            by_cases k0 : k = 0
            · rw [decide_eq_true (show (k : Int) = 0 by omega)]
              obtain ⟨w1, w2⟩ := wk [D.str "z"] (by simp) (by simp)
              exact ⟨lb _ (by omega), lb _ (by omega), lb _ (by omega), by decide, by decide, lb _ (by decide), lb _ (by simp; omega), hN3 _ _ ⟨⟨_, w1, w2, rfl⟩, rfl⟩⟩
            · rw [decide_eq_false (show ¬ (k : Int) = 0 by omega)]
              obtain ⟨w1, w2⟩ := wk [] (by simp) (by simp)
              exact ⟨lb _ (by omega), lb _ (by omega), lb _ (by omega), by decide, by decide, lb _ (by decide), lb _ (by simp; omega), hN3 _ _ ⟨⟨_, w1, w2, rfl⟩, rfl⟩⟩
          rintro ds dv' ⟨⟨ws, hw, hne, rfl⟩, rfl⟩
          refine seqH_cut (fun ds dv3 => ds = [some (.src p), some (.int room), some (.int many), some (.lst (pqL.take many)), some (.lst (headsL many)), some (.fn q), some (.int k), some (.tup [.str n, .tup ps]), some (.lst ws), some (.lst (((headsL many).drop (k + 1)).map calleeOf)), x10, none] ∧ dv3 = dv') (fun N3 hN3 => ?_) ?_
          · walk_at "red"
            have cd : DL.cutD (headsL many) (some ((k : Int) + 1)) none = (headsL many).drop (k + 1) := cut_drop _ (k + 1)
            rw [cd]
            refine ⟨line_lt (by simp [headsL, pqL]; omega), each_ofP (r := calleeOf) (fun x hx Q hq => ?_) (hN3 _ _ ⟨rfl, rfl⟩)⟩
            obtain ⟨a1, a2, a3⟩ := drops x hx
            exact ⟨_, rfl, _, rfl, lb _ (by omega), hq⟩
          rintro ds dv3 ⟨rfl, rfl⟩
          refine seqH_cut (fun ds dv4 => ∃ rs, rs.length ≤ 12 ∧ RowsK (((headsL many).drop (k + 1)).map calleeOf) rs ∧ ds = [some (.src p), some (.int room), some (.int many), some (.lst (pqL.take many)), some (.lst (headsL many)), some (.fn q), some (.int k), some (.tup [.str n, .tup ps]), some (.lst ws), some (.lst (((headsL many).drop (k + 1)).map calleeOf)), some (.tup rs), none] ∧ dv4 = dv3) (fun N3 hN3 => ?_) ?_
          · walk_at "red"
            have cK : CalleesK (((headsL many).drop (k + 1)).map calleeOf) := by
              refine ⟨by simp [headsL, pqL]; omega, fun c hc => ?_⟩
              obtain ⟨h, hh, rfl⟩ := List.mem_map.mp hc
              obtain ⟨a1, a2, a3⟩ := drops h hh
              exact ⟨_, _, rfl, a1, a2⟩
            by_cases k0 : k = 0
            · exact ifT (decide_eq_true (by omega)) ⟨p, ws, _, room, ⟨rfl, rfl, rfl, rfl⟩, hw, hne, cK, by omega, r12, fun rs rl rk => hN3 _ _ ⟨rs, by omega, rk, rfl, rfl⟩⟩
            · refine ifF (decide_eq_false (by omega)) ⟨⟨by decide, by decide⟩, p, ws, _, (if room / 2 > 2 then room / 2 else 2), ⟨rfl, rfl, rfl, ?_⟩, hw, hne, cK, by split <;> omega, by split <;> omega, fun rs rl rk => hN3 _ _ ⟨rs, by split at rl <;> omega, rk, rfl, rfl⟩⟩
              by_cases z : room / 2 > 2
              · rw [if_pos z, if_pos (by omega)]
                push_cast
                rfl
              · rw [if_neg z, if_neg (by omega)]
                rfl
          rintro ds dv4 ⟨rs, rl, rk, rfl, rfl⟩
          refine seqH_cut (fun ds dv5 => ∃ rs deep, RowsQ deep (((headsL many).drop (k + 1)).map calleeOf) rs ∧ (deep = true → k = 0 ∧ many < 2) ∧ ds = [some (.src p), some (.int room), some (.int many), some (.lst (pqL.take many)), some (.lst (headsL many)), some (.fn q), some (.int k), some (.tup [.str n, .tup ps]), some (.lst ws), some (.lst (((headsL many).drop (k + 1)).map calleeOf)), some (.tup rs), none] ∧ dv5 = dv4) (fun N3 hN3 => ?_) ?_
          · walk_at "red"
            have same : N3 [some (.src p), some (.int room), some (.int many), some (.lst (pqL.take many)), some (.lst (headsL many)), some (.fn q), some (.int k), some (.tup [.str n, .tup ps]), some (.lst ws), some (.lst (((headsL many).drop (k + 1)).map calleeOf)), some (.tup rs), none] dv4 :=
              hN3 _ _ ⟨rs, false, ⟨⟨rl, by obtain ⟨_, a, fr, _, e⟩ := rk; rw [e]; simp⟩, fun r hr => ⟨(rk.1 r hr).1, (rk.1 r hr).2.1⟩, rk.2, fun r hr => (rk.1 r hr).2.2⟩, nofun, rfl, rfl⟩
            by_cases k0 : k = 0
            · refine ifT (decide_eq_true (by omega)) ?_
              by_cases m2 : many < 2
              · refine ifT (decide_eq_true (by omega)) ⟨p, 5, rfl, by decide, by decide, fun z z0 z1 => ?_⟩
                by_cases hz : z = 0
                · refine ifT (decide_eq_true hz) ⟨p, 4, rfl, by decide, by decide, fun d d0 d1 => ⟨lb _ (by omega), lb _ (by omega), lb _ (by omega), rl, _, rk, fun ys y11 y1 hys hlast => ⟨lb _ (by omega), ?_⟩⟩⟩
                  obtain ⟨dn, rfl⟩ := Int.eq_ofNat_of_zero_le d0
                  have nx : isName (.str "x") = true := by decide +kernel
                  have nd : isName (.str "deep") = true := by decide +kernel
                  have od : OpK (.int (dn : Int)) := .inr ⟨dn, by omega, rfl⟩
                  refine hN3 _ _ ⟨_, true, ⟨⟨by simp; omega, by simp⟩, fun r hr => ?_, ?_, ?_⟩, fun _ => ⟨k0, m2⟩, rfl, rfl⟩
                  · rcases List.mem_cons.mp hr with rfl | hr
                    · exact ⟨.call nx nd (by simp) (fun o ho => by rw [List.mem_singleton.mp ho]; exact od), by show (0 : Int) < _; simp⟩
                    · exact ⟨(hys r hr).1, by have := (hys r hr).2.1; simp; omega⟩
                  · obtain ⟨a, fr, ha, e⟩ := hlast
                    exact ⟨a, _ :: fr, ha, by rw [e]; rfl⟩
                  · exact ⟨_, _, ys, nx, od, rfl, fun r hr => (hys r hr).2.2⟩
                · exact ifF (decide_eq_false hz) same
              · exact ifF (decide_eq_false (by omega)) same
            · exact ifF (decide_eq_false (by omega)) same
          rintro ds dv5 ⟨rs, deep, rq, hdeep, rfl, rfl⟩
          walk_at "red"
          exact ⟨lb _ (by omega), lb _ (by omega), line_lt (by have := heads_len many; omega), hN2 _ _ ⟨⟨_, _, _, _, _, rfl⟩, by simp [hl], fun i hi hik => by
            by_cases e : i = k
            · subst e
              refine ⟨rs, deep, ?_, rq, hdeep⟩
              rw [List.getElem?_append_right (by omega), hl, Nat.sub_self, hhd]
              rfl
            · obtain ⟨rs', deep', h1, h2, h3⟩ := hinv i hi (by omega)
              exact ⟨rs', deep', by rw [List.getElem?_append_left (by omega)]; exact h1, h2, h3⟩⟩⟩
        · rintro ds dv ⟨hds, hl, hinv⟩
          exact hN ds dv ⟨hds, hl, fun i hi => hinv i hi hi⟩
      · rintro ds dv ⟨⟨x6, x7, x8, x9, x10, rfl⟩, hl, hinv⟩
        walk_at "red"
        obtain ⟨r0, rest, tl, rfl, k0, yes, no⟩ := prog_of hm hl hinv
        have l3 := heads_len many
        have stay : (∀ n, callOf r0 ≠ some (("deep" : Str), n)) → 0 ≤ sizeLine ∧ (D.tup [.str "main", .tup [], .tup (r0 :: rest)] :: tl).length + 0 ≤ sizeLine ∧ P (.lst ((D.tup [.str "main", .tup [], .tup (r0 :: rest)] :: tl) ++ [])) := fun h => ⟨lb _ (by omega), lb _ (by omega), by
          rw [List.append_nil]
          exact hp _ (no h)⟩
        cases k0 with
        | set a b c d => exact ⟨_, at_0, _, rfl, _, at_0, _, rfl, ifF (by decide) (stay fun n z => by rw [(RowP.set a b c d).call] at z; cases z)⟩
        | copy a b => exact ⟨_, at_0, _, rfl, _, at_0, _, rfl, ifF (by decide) (stay fun n z => by rw [(RowP.copy a b).call] at z; cases z)⟩
        | get a => exact ⟨_, at_0, _, rfl, _, at_0, _, rfl, ifF (by decide) (stay fun n z => by rw [(RowP.get a).call] at z; cases z)⟩
        | out a => exact ⟨_, at_0, _, rfl, _, at_0, _, rfl, ifF (by decide) (stay fun n z => by rw [(RowP.out a).call] at z; cases z)⟩
        | back a => exact ⟨_, at_0, _, rfl, _, at_0, _, rfl, ifF (by decide) (stay fun n z => by rw [(back_k a).2] at z; cases z)⟩
        | cond a b => exact ⟨_, at_0, _, rfl, _, at_0, _, rfl, ifF (by decide) (stay fun n z => by rw [cond_call] at z; cases z)⟩
        | go a => exact ⟨_, at_0, _, rfl, _, at_0, _, rfl, ifF (by decide) (stay fun n z => by cases z)⟩
        | @call x c os a b l o =>
          refine ⟨_, at_0, _, rfl, _, at_0, _, rfl, ifT (by decide) ⟨_, at_0, _, rfl, _, at_0, _, rfl, ?_⟩⟩
          by_cases hc : c = "deep"
          · exact ifT (decide_eq_true hc) ⟨lb _ (by omega), lb _ (by omega), hp _ (yes ⟨os.length, by rw [hc]; rfl⟩)⟩
          · exact ifF (decide_eq_false hc) (stay fun n z => by
              have z' : some (c, os.length) = some (("deep" : Str), n) := z
              cases z'
              exact hc rfl)⟩)
end
end K07

set_option maxHeartbeats 2000000
namespace K07
open PySem PySem.Spec PyProof.Rows L2 DL
variable [TabCtx]
local macro_rules | `(tactic| walk_at "red") => `(tactic| simp only [gRetG, gSeqHF, dInI, fIsC2, gFor3, gForH3, gStoreH, fwSortSet, wzMeth, wFell, fwCat, gForELH, wDGet2, fDict, dRepT, gSeqF, gSeqHF, gDoneF, gAccF, fwIf, gParAcc, gForHS, dRep, wDNIn, wD0, gClearH, fIsC, dNeI, DL.tyD_dct, DL.isInt_dct, DL.isStr_dct, DL.isBl_dct, DL.isTup_dct, DL.isLst_dct, wSortC, gExtH, fwList, wiSeq, seqOf_lst, seqOf_tup, wiAny, wzE, wzOpL, wzIf, gzRet, gzSet, gzDrop, gPar, wLcZ, wiZip, wTupRg3, wiRg3, fMin, fAbs, fMaxL, fMinL, gUn2, gUn3, gUn2L, gFor2L, wLcI, wLam3, gSrc, or_false, false_or, exists_false, false_and, and_false, wDc3, gAcc, gSeqH, gForEH, gForE, gForH, gIfH, gLift, gNextH, gAppendH, gAppend, gDone, gSetH, DL.seen, dIsN, dNotN, wDc, wFld, wMeth, wDIn, wDIx, wDGetN, wNew, wzNew, wLcI, gField, gCL, fLenQ, dIxQ, wNeK, wIndex, gTryRet, gTryDrop, wzCall, wzCallL, wTold, fIsE, fRepr, wJoin, wDGet, wVals, dPow, wSrc, gSrcSet, dMulS, dFdivS, fInt, fMax, fTuple, fList, startD, gNext, gSeq, gRet, gSet, gIf, gDrop, gRaise, gFor, wVar, wC, wOp, wTest, wChain, wAnd, wOr, wNot, wtAnd, wtOr, wtNot, wIf, waNil, waCons, wTup, wLst, wCall, quiet, wIsi, wInK, wLc, wiStr, wiTup, wiLst, wiRange, wSl, woNone, woSome, dSl, wNeg, dNeg, fLen, fAll, dEq, dNe, dLe, dLt, dGe, dGt, dAdd, dSub, dMod, dIx, dIn, dIsB, strsOf, boolsOf, DL.tyD_non, at_0, at_1, at_2, at_3, at_4, DL.isInt_non, DL.isStr_non, DL.isBl_non, DL.isTup_non, DL.isLst_non, DL.tyD_bl, DL.isInt_bl, DL.isStr_bl, DL.isBl_bl, DL.isTup_bl, DL.isLst_bl, DL.tyD_int, DL.isInt_int, DL.isStr_int, DL.isBl_int, DL.isTup_int, DL.isLst_int, DL.tyD_str, DL.isInt_str, DL.isStr_str, DL.isBl_str, DL.isTup_str, DL.isLst_str, DL.tyD_lst, DL.isInt_lst, DL.isStr_lst, DL.isBl_lst, DL.isTup_lst, DL.isLst_lst, DL.tyD_tup, DL.isInt_tup, DL.isStr_tup, DL.isBl_tup, DL.isTup_tup, DL.isLst_tup, pure1, pure2, pure3, Option.map_some,
  List.map_cons, List.map_nil, List.length_cons, List.length_nil, List.cons_append, List.nil_append, List.getElem?_cons_zero, List.getElem?_cons_succ, Option.some.injEq, exists_eq_left', exists_eq_left, exists_eq_right, exists_eq_right', D.bl.injEq, D.int.injEq, D.str.injEq, D.tup.injEq, D.lst.injEq, D.fn.injEq, D.sq.injEq, D.exn.injEq, List.cons.injEq, and_true, true_and, and_self, exists_and_left, exists_and_right, Option.isSome_some, List.set_cons_zero, List.set_cons_succ, if_true, Bool.false_eq_true, if_false, Bool.not_true, Bool.not_false, reduceCtorEq, List.replicate, Nat.reduceSub, Nat.reduceAdd])
section
variable {P : Program} {w : World} {K : PySem.W.Frag} {mg : Str → Option Value} {base : Heap}
def procOf (xs : List D) : D → Option D
  | .str n => if isName (.str n) = true then valD (keysOf xs) xs (Sum.inr n) else none
  | _ => none
def hasSpot (xs : List D) : D → Bool
  | .tup [a, i] => match procOf xs a with
    | some x => isWithin i 0 ((rowsOf x).length - 1)
    | none => false
  | _ => false
omit [TabCtx] in
theorem val_mem {k : Key} {x : D} : ∀ {ks : List Key} {xs : List D}, valD ks xs k = some x → x ∈ xs
  | [], _, h => by cases h
  | _ :: _, [], h => by cases h
  | c :: ks, y :: ys, h => by
    have h' : (if c = k then some y else valD ks ys k) = some x := h
    by_cases e : c = k
    · rw [if_pos e] at h'
      rw [Option.some.inj h']
      exact List.mem_cons_self
    · rw [if_neg e] at h'
      exact List.mem_cons_of_mem _ (val_mem h')
theorem ok_Program_procedure (T : Txt K mg) : FnOk P w K mg base (L2.CX P w) 3 T.d_Program_procedure.f T.d_Program_procedure.fd ["self", "name"] (spD (fun es P Z => ∃ xs vs d, es = [progD T xs vs, d] ∧ Good d ∧ match procOf xs d with | some x => P x | none => Z T.x_NoProcedure.C d)) :=
  fn_okX T.d_Program_procedure.F sc_Program_procedure (fun es P Z h => by first | (obtain ⟨_, rfl, _⟩ := h; rfl) | (obtain ⟨_, _, rfl, _⟩ := h; rfl) | (obtain ⟨_, _, _, rfl, _⟩ := h; rfl) | (obtain ⟨_, _, _, _, rfl, _⟩ := h; rfl)) (fun cdv A outer s H E hr => ⟨_,
    (wss_cons (ws_if (PW.pt (ww_or (wt_not (wt_val (we_call (ok_is_name T) (hr.mono (by decide)) rfl T.d_is_name.m T.d_is_name.F.kp T.d_is_name.b (wa_cons (we_var (pv 1)) wa_nil)))) (pw_or1 (wt_dnin (hu_of hr) (we_var (pv 1)) (we_fld T.c_Program.ic.cl T.f_Program__named (we_var (pv 0))) (by with_unfolding_all rfl)))))
        (wss_one (ws_raise rfl (takes_of rfl rfl rfl rfl) T.x_NoProcedure.T T.x_NoProcedure.iC T.x_NoProcedure.tI T.x_NoProcedure.no (ok_told T.x_NoProcedure.F sc_told rfl rfl rfl) (hr.mono (by decide)) T.x_NoProcedure.b pass0 rfl T.x_NoProcedure.m (we_var (pv 1))))
        wss_nil)
      (wss_one (ws_ret (we_dix (hu_of hr) (we_fld T.c_Program.ic.cl T.f_Program__named (we_var (pv 0))) (we_var (pv 1)) (fun _ _ => rfl))))),
    fun es P Z h => by
      obtain ⟨xs, vs, d, rfl, gd, hp⟩ := h
      unfold progD progFields
      walk_at "red"
      refine ⟨gd, ?_⟩
      cases d with
      | str n =>
        cases hn : isName (.str n) with
        | false =>
          simp only [procOf, hn] at hp
          exact ifT rfl hp
        | true =>
          refine ifF rfl ⟨_, _, rfl, _, rfl, _, _, rfl, _, rfl, ?_⟩
          cases hv : valD (keysOf xs) xs (Sum.inr n) with
          | none =>
            simp only [procOf, hn, hv, if_true] at hp
            exact ifT rfl hp
          | some x =>
            simp only [procOf, hn, hv, if_true] at hp
            exact ifF rfl ⟨_, _, rfl, _, rfl, _, _, rfl, _, rfl, _, hv, hp⟩
      | src _ => cases gd
      | fn _ => cases gd
      | exn _ _ _ => cases gd
      | sq _ _ => cases gd
      | ins _ _ _ => cases gd
      | dct _ _ => cases gd
      | _ => exact ifT rfl hp⟩)
theorem ok_Program_has_spot (T : Txt K mg) : FnOk P w K mg base (L2.CX P w) 3 T.d_Program_has_spot.f T.d_Program_has_spot.fd ["self", "value"] (spD (fun es P _ => ∃ xs vs d, es = [progD T xs vs, d] ∧ Good d ∧ (∀ x ∈ xs, isProc x = true) ∧ (∀ x ∈ xs, (rowsOf x).length ≤ 12) ∧ P (.bl (hasSpot xs d)))) :=
  fn_okX T.d_Program_has_spot.F sc_Program_has_spot (fun es P Z h => by first | (obtain ⟨_, rfl, _⟩ := h; rfl) | (obtain ⟨_, _, rfl, _⟩ := h; rfl) | (obtain ⟨_, _, _, rfl, _⟩ := h; rfl) | (obtain ⟨_, _, _, _, rfl, _⟩ := h; rfl)) (fun cdv A outer s H E hr => ⟨_,
    (wss_cons (ws_if (PW.pt (ww_or (wt_not (wt_val (we_call (ok_is_tuple_of T) (hr.mono (by decide)) rfl T.d_is_tuple_of.m T.d_is_tuple_of.F.kp T.d_is_tuple_of.b (wa_cons (we_var (pv 1)) (wa_cons (we_c pe_int) wa_nil))))) (ww_or (wt_not (wt_val (we_call (ok_is_name T) (hr.mono (by decide)) rfl T.d_is_name.m T.d_is_name.F.kp T.d_is_name.b (wa_cons (we_ix (we_var (pv 1)) (we_c pe_int)) wa_nil)))) (pw_or1 (wt_dnin (hu_of hr) (we_ix (we_var (pv 1)) (we_c pe_int)) (we_fld T.c_Program.ic.cl T.f_Program__named (we_var (pv 0))) (by with_unfolding_all rfl))))))
        (wss_one (ws_ret (we_c pe_bl)))
        wss_nil)
      (wss_one (ws_ret (we_call (ok_is_within T) (hr.mono (by decide)) rfl T.d_is_within.m T.d_is_within.F.kp T.d_is_within.b (wa_cons (we_ix (we_var (pv 1)) (we_c pe_int)) (wa_cons (we_c pe_int) (wa_cons (we_op op_dSub (we_callB call_fLen rfl T.n_len boot_lenB (wa_cons (we_ix (we_dix (hu_of hr) (we_fld T.c_Program.ic.cl T.f_Program__named (we_var (pv 0))) (we_ix (we_var (pv 1)) (we_c pe_int)) (fun _ _ => rfl)) (we_c pe_int)) wa_nil)) (we_c pe_int)) wa_nil))))))),
    fun es P Z h => by
      obtain ⟨xs, vs, d, rfl, gd, hpr, h12, hp⟩ := h
      have no : ∀ d : D, tupl d 2 = false → hasSpot xs d = false := fun d h => by
        match d, h with
        | .tup [a, b], h => cases h
        | .tup [], _ => rfl
        | .tup [_], _ => rfl
        | .tup (_ :: _ :: _ :: _), _ => rfl
        | .non, _ => rfl
        | .bl _, _ => rfl
        | .int _, _ => rfl
        | .str _, _ => rfl
        | .lst _, _ => rfl
        | .src _, _ => rfl
        | .fn _, _ => rfl
        | .exn _ _ _, _ => rfl
        | .sq _ _, _ => rfl
        | .ins _ _ _, _ => rfl
        | .dct _ _, _ => rfl
      unfold progD progFields
      refine seqW_cut (fun ds => ∃ a b, d = .tup [a, b] ∧ ds = startD ["self", "value"] [.ins T.c_Program.C ["_procedures", "_named", "_variables"] [.tup xs, .dct (keysOf xs) xs, .dct (keysOf xs) vs], d] ∧ ∃ n x, a = .str n ∧ isName (.str n) = true ∧ valD (keysOf xs) xs (Sum.inr n) = some x) (fun N' hN => ?_) ?_
      · walk_at "red"
        refine ⟨d, 2, rfl, gd.ty, _, rfl, ?_⟩
        cases ht : tupl d 2 with
        | false =>
          rw [no d ht] at hp
          exact ifT rfl hp
        | true =>
          obtain ⟨a, b, rfl⟩ : ∃ a b, d = .tup [a, b] := by
            match d, ht with
            | .tup [a, b], _ => exact ⟨a, b, rfl⟩
            | .tup [], h => cases h
            | .tup [_], h => cases h
            | .tup (_ :: _ :: _ :: r), h => simp [tupl] at h; omega
          have ga : Good a := gd.tup.2 a (by simp)
          refine ifF rfl ⟨a, at_0, ga, ?_⟩
          have none_ : procOf xs a = none → P (.bl false) := fun e => by
            simp only [hasSpot, e] at hp
            exact hp
          cases hn : isName a with
          | false =>
            refine ifT rfl (none_ ?_)
            cases a with
            | str n => simp only [procOf, hn]; rfl
            | _ => rfl
          | true =>
            obtain ⟨n, rfl⟩ : ∃ n, a = .str n := by
              cases a with
              | str n => exact ⟨n, rfl⟩
              | _ => cases hn
            refine ifF rfl ⟨_, at_0, _, _, rfl, _, rfl, _, _, rfl, _, rfl, ?_⟩
            cases hv : valD (keysOf xs) xs (Sum.inr n) with
            | none => exact ifT rfl (none_ (by simp only [procOf, hn, if_true]; exact hv))
            | some x => exact ifF rfl (hN _ ⟨_, _, rfl, rfl, n, x, rfl, hn, hv⟩)
      · rintro ds ⟨a, b, rfl, rfl, n, x, rfl, hn, hv⟩
        walk_at "red"
        have hx := val_mem hv
        obtain ⟨n', ps, rs, rfl, _⟩ := proc_rows (hpr x hx)
        have l12 : rs.length ≤ 12 := h12 _ hx
        have gb : Good b := gd.tup.2 b (by simp)
        have e : hasSpot xs (.tup [.str n, b]) = isWithin b 0 ((rs.length : Int) - 1) := by
          simp only [hasSpot, procOf, hn, hv, if_true]
          rfl
        rw [e] at hp
        refine ⟨_, _, rfl, _, rfl, _, _, rfl, _, rfl, _, hv, _, at_2, b, 0, _, rfl, gb.ty, hp⟩⟩)
end
end K07

set_option maxHeartbeats 2000000
namespace K07
open PySem PySem.Spec PyProof.Rows L2 DL
variable [TabCtx]
local macro_rules | `(tactic| walk_at "red") => `(tactic| simp only [gRetG, gSeqHF, dInI, fIsC2, gFor3, gForH3, gStoreH, fwSortSet, wzMeth, wFell, fwCat, gForELH, wDGet2, fDict, dRepT, gSeqF, gSeqHF, gDoneF, gAccF, fwIf, gParAcc, gForHS, dRep, wDNIn, wD0, gClearH, fIsC, dNeI, DL.tyD_dct, DL.isInt_dct, DL.isStr_dct, DL.isBl_dct, DL.isTup_dct, DL.isLst_dct, wSortC, gExtH, fwList, wiSeq, seqOf_lst, seqOf_tup, wiAny, wzE, wzOpL, wzIf, gzRet, gzSet, gzDrop, gPar, wLcZ, wiZip, wTupRg3, wiRg3, fMin, fAbs, fMaxL, fMinL, gUn2, gUn3, gUn2L, gFor2L, wLcI, wLam3, gSrc, or_false, false_or, exists_false, false_and, and_false, wDc3, gAcc, gSeqH, gForEH, gForE, gForH, gIfH, gLift, gNextH, gAppendH, gAppend, gDone, gSetH, DL.seen, dIsN, dNotN, wDc, wFld, wMeth, wDIn, wDIx, wDGetN, wNew, wzNew, wLcI, gField, gCL, fLenQ, dIxQ, wNeK, wIndex, gTryRet, gTryDrop, wzCall, wzCallL, wTold, fIsE, fRepr, wJoin, wDGet, wVals, dPow, wSrc, gSrcSet, dMulS, dFdivS, fInt, fMax, fTuple, fList, startD, gNext, gSeq, gRet, gSet, gIf, gDrop, gRaise, gFor, wVar, wC, wOp, wTest, wChain, wAnd, wOr, wNot, wtAnd, wtOr, wtNot, wIf, waNil, waCons, wTup, wLst, wCall, quiet, wIsi, wInK, wLc, wiStr, wiTup, wiLst, wiRange, wSl, woNone, woSome, dSl, wNeg, dNeg, fLen, fAll, dEq, dNe, dLe, dLt, dGe, dGt, dAdd, dSub, dMod, dIx, dIn, dIsB, strsOf, boolsOf, DL.tyD_non, at_0, at_1, at_2, at_3, at_4, DL.isInt_non, DL.isStr_non, DL.isBl_non, DL.isTup_non, DL.isLst_non, DL.tyD_bl, DL.isInt_bl, DL.isStr_bl, DL.isBl_bl, DL.isTup_bl, DL.isLst_bl, DL.tyD_int, DL.isInt_int, DL.isStr_int, DL.isBl_int, DL.isTup_int, DL.isLst_int, DL.tyD_str, DL.isInt_str, DL.isStr_str, DL.isBl_str, DL.isTup_str, DL.isLst_str, DL.tyD_lst, DL.isInt_lst, DL.isStr_lst, DL.isBl_lst, DL.isTup_lst, DL.isLst_lst, DL.tyD_tup, DL.isInt_tup, DL.isStr_tup, DL.isBl_tup, DL.isTup_tup, DL.isLst_tup, pure1, pure2, pure3, Option.map_some,
  List.map_cons, List.map_nil, List.length_cons, List.length_nil, List.cons_append, List.nil_append, List.getElem?_cons_zero, List.getElem?_cons_succ, Option.some.injEq, exists_eq_left', exists_eq_left, exists_eq_right, exists_eq_right', D.bl.injEq, D.int.injEq, D.str.injEq, D.tup.injEq, D.lst.injEq, D.fn.injEq, D.sq.injEq, D.exn.injEq, List.cons.injEq, and_true, true_and, and_self, exists_and_left, exists_and_right, Option.isSome_some, List.set_cons_zero, List.set_cons_succ, if_true, Bool.false_eq_true, if_false, Bool.not_true, Bool.not_false, reduceCtorEq, List.replicate, Nat.reduceSub, Nat.reduceAdd])
section
variable {P : Program} {w : World} {K : PySem.W.Frag} {mg : Str → Option Value} {base : Heap}
theorem tyD_prog {T : Txt K mg} {xs vs : List D} : (tyD (progD T xs vs)).isSome = false := rfl
theorem ok_need_program (T : Txt K mg) : FnOk P w K mg base (L2.CX P w) 3 T.d_need_program.f T.d_need_program.fd ["program"] (spD (fun es P Z => ∃ d, es = [d] ∧ (((tyD d).isSome = true ∧ Z T.x_NoProgram.C d) ∨ ∃ xs vs, d = progD T xs vs ∧ P .non))) :=
  fn_okX T.d_need_program.F sc_need_program (fun es P Z h => by first | (obtain ⟨rfl, _⟩ := h; rfl) | exact pure1_len h | exact pure2_len h | exact pure3_len h | (obtain ⟨_, rfl, _⟩ := h; rfl) | (obtain ⟨_, _, rfl, _⟩ := h; rfl) | (obtain ⟨_, _, _, rfl, _⟩ := h; rfl) | (obtain ⟨_, _, _, _, rfl, _⟩ := h; rfl) | (obtain ⟨rfl, _⟩ := h; rfl)) (fun cdv A outer s H E hr => ⟨_,
    (wss_one (ws_if (wt_not (wt_val (we_callB (call_isC2 T.c_Program.ic T.w_Program) rfl T.n_isinstance boot_isinstanceB (wa_cons (we_var (pv 0)) (wa_cons (we_fn (pe_glob rfl T.c_Program.m rfl)) wa_nil)))))
        (wss_one (ws_raise rfl (takes_of rfl rfl rfl rfl) T.x_NoProgram.T T.x_NoProgram.iC T.x_NoProgram.tI T.x_NoProgram.no (ok_told T.x_NoProgram.F sc_told rfl rfl rfl) (hr.mono (by decide)) T.x_NoProgram.b pass0 rfl T.x_NoProgram.m (we_var (pv 0))))
        wss_nil)),
    fun es P Z h => by
      obtain ⟨d, rfl, hp⟩ := h
      walk_at "red"
      rcases hp with ⟨ht, hz⟩ | ⟨xs, vs, rfl, hp⟩
      · cases d with
        | ins _ _ _ => cases ht
        | _ => exact ⟨ht, hz⟩
      · exact ⟨rfl, hp⟩⟩)
theorem ok_need_procedure (T : Txt K mg) : FnOk P w K mg base (L2.CX P w) 5 T.d_need_procedure.f T.d_need_procedure.fd ["program", "procedure"] (spD (fun es P Z => ∃ d e, es = [d, e] ∧ (((tyD d).isSome = true ∧ Z T.x_NoProgram.C d) ∨ ∃ xs vs, d = progD T xs vs ∧ Good e ∧ match procOf xs e with | some x => P .non | none => Z T.x_NoProcedure.C e))) :=
  fn_okX T.d_need_procedure.F sc_need_procedure (fun es P Z h => by first | (obtain ⟨rfl, _⟩ := h; rfl) | exact pure1_len h | exact pure2_len h | exact pure3_len h | (obtain ⟨_, rfl, _⟩ := h; rfl) | (obtain ⟨_, _, rfl, _⟩ := h; rfl) | (obtain ⟨_, _, _, rfl, _⟩ := h; rfl) | (obtain ⟨_, _, _, _, rfl, _⟩ := h; rfl) | (obtain ⟨rfl, _⟩ := h; rfl)) (fun cdv A outer s H E hr => ⟨_,
    (wss_cons (ws_zdrop (we_zcall (ok_need_program T) (hr.mono (by decide)) (takes_of rfl rfl rfl rfl) rfl T.d_need_program.m T.d_need_program.F.kp T.d_need_program.b (wa_cons (we_var (pv 0)) wa_nil)))
      (wss_one (ws_zdrop (we_zmeth (we_var (pv 0)) T.c_Program.ic.cl T.d_Program_procedure.meth (ok_Program_procedure T) (hr.mono (by decide)) (takes_of rfl rfl rfl rfl) T.d_Program_procedure.b (wa_cons (we_var (pv 1)) wa_nil))))),
    fun es P Z h => by
      obtain ⟨d, e, rfl, hp⟩ := h
      walk_at "red"
      rcases hp with h | ⟨xs, vs, rfl, ge, hp⟩
      · exact .inl h
      · exact .inr ⟨⟨_, _, rfl⟩, _, ⟨_, rfl⟩, by decide, _, _, _, ⟨rfl, rfl⟩, ge, hp⟩⟩)
theorem ok_need_spot (T : Txt K mg) : FnOk P w K mg base (L2.CX P w) 5 T.d_need_spot.f T.d_need_spot.fd ["program", "spot"] (spD (fun es P Z => ∃ d e, es = [d, e] ∧ (((tyD d).isSome = true ∧ Z T.x_NoProgram.C d) ∨ ∃ xs vs, d = progD T xs vs ∧ Good e ∧ (∀ x ∈ xs, isProc x = true) ∧ (∀ x ∈ xs, (rowsOf x).length ≤ 12) ∧ if hasSpot xs e = true then P .non else Z T.x_NoSpot.C e))) :=
  fn_okX T.d_need_spot.F sc_need_spot (fun es P Z h => by first | (obtain ⟨rfl, _⟩ := h; rfl) | exact pure1_len h | exact pure2_len h | exact pure3_len h | (obtain ⟨_, rfl, _⟩ := h; rfl) | (obtain ⟨_, _, rfl, _⟩ := h; rfl) | (obtain ⟨_, _, _, rfl, _⟩ := h; rfl) | (obtain ⟨_, _, _, _, rfl, _⟩ := h; rfl) | (obtain ⟨rfl, _⟩ := h; rfl)) (fun cdv A outer s H E hr => ⟨_,
    (wss_cons (ws_zdrop (we_zcall (ok_need_program T) (hr.mono (by decide)) (takes_of rfl rfl rfl rfl) rfl T.d_need_program.m T.d_need_program.F.kp T.d_need_program.b (wa_cons (we_var (pv 0)) wa_nil)))
      (wss_one (ws_if (wt_not (wt_val (we_meth (we_var (pv 0)) T.c_Program.ic.cl T.d_Program_has_spot.meth (ok_Program_has_spot T) (hr.mono (by decide)) T.d_Program_has_spot.b (wa_cons (we_var (pv 1)) wa_nil))))
        (wss_one (ws_raise rfl (takes_of rfl rfl rfl rfl) T.x_NoSpot.T T.x_NoSpot.iC T.x_NoSpot.tI T.x_NoSpot.no (ok_told T.x_NoSpot.F sc_told rfl rfl rfl) (hr.mono (by decide)) T.x_NoSpot.b pass0 rfl T.x_NoSpot.m (we_var (pv 1))))
        wss_nil))),
    fun es P Z h => by
      obtain ⟨d, e, rfl, hp⟩ := h
      walk_at "red"
      rcases hp with h | ⟨xs, vs, rfl, ge, h1, h2, hp⟩
      · exact .inl h
      · refine .inr ⟨⟨_, _, rfl⟩, _, ⟨_, rfl⟩, by decide, _, _, _, ⟨rfl, rfl⟩, ge, h1, h2, ?_⟩
        cases e2 : hasSpot xs e <;> rw [e2] at hp <;> exact hp⟩)
theorem ok_is_plain (T : Txt K mg) : FnOk P w K mg base CX0 1 T.d_is_plain.f T.d_is_plain.fd ["row"] (spD fun es P _ => (fun es P => ∃ w r, es = [.tup (.str w :: r)] ∧ P (.bl (decide (w ∈ (["set", "copy"] : List Str))))) es P) :=
  fn_ok T.d_is_plain.F sc_is_plain (fun es P h => by first | (obtain ⟨rfl, _⟩ := h; rfl) | exact pure1_len h | exact pure2_len h | exact pure3_len h | (obtain ⟨_, rfl, _⟩ := h; rfl) | (obtain ⟨_, _, rfl, _⟩ := h; rfl) | (obtain ⟨_, _, _, rfl, _⟩ := h; rfl) | (obtain ⟨_, _, _, _, rfl, _⟩ := h; rfl) | (obtain ⟨rfl, _⟩ := h; rfl)) (fun cdv A outer s H E hr => ⟨_,
    (wss_one (ws_ret (we_cmp op_dIn (we_ix (we_var (pv 0)) (we_c pe_int)) (we_tup (wa_cons (we_c pe_str) (wa_cons (we_c pe_str) wa_nil))) (by with_unfolding_all rfl)))),
    fun es P h => by
      obtain ⟨w', r, rfl, hp⟩ := h
      walk_at "red"
      exact ⟨line_big (by omega), hp⟩⟩)
end
end K07

set_option maxHeartbeats 2000000
namespace K07
open PySem PySem.Spec PyProof.Rows L2 DL
variable [TabCtx]
local macro_rules | `(tactic| walk_at "red") => `(tactic| simp only [gRetG, gSeqHF, dInI, fIsC2, gFor3, gForH3, gStoreH, fwSortSet, wzMeth, wFell, fwCat, gForELH, wDGet2, fDict, dRepT, gSeqF, gSeqHF, gDoneF, gAccF, fwIf, gParAcc, gForHS, dRep, wDNIn, wD0, gClearH, fIsC, dNeI, DL.tyD_dct, DL.isInt_dct, DL.isStr_dct, DL.isBl_dct, DL.isTup_dct, DL.isLst_dct, wSortC, gExtH, fwList, wiSeq, seqOf_lst, seqOf_tup, wiAny, wzE, wzOpL, wzIf, gzRet, gzSet, gzDrop, gPar, wLcZ, wiZip, wTupRg3, wiRg3, fMin, fAbs, fMaxL, fMinL, gUn2, gUn3, gUn2L, gFor2L, wLcI, wLam3, gSrc, or_false, false_or, exists_false, false_and, and_false, wDc3, gAcc, gSeqH, gForEH, gForE, gForH, gIfH, gLift, gNextH, gAppendH, gAppend, gDone, gSetH, DL.seen, dIsN, dNotN, wDc, wFld, wMeth, wDIn, wDIx, wDGetN, wNew, wzNew, wLcI, gField, gCL, fLenQ, dIxQ, wNeK, wIndex, gTryRet, gTryDrop, wzCall, wzCallL, wTold, fIsE, fRepr, wJoin, wDGet, wVals, dPow, wSrc, gSrcSet, dMulS, dFdivS, fInt, fMax, fTuple, fList, startD, gNext, gSeq, gRet, gSet, gIf, gDrop, gRaise, gFor, wVar, wC, wOp, wTest, wChain, wAnd, wOr, wNot, wtAnd, wtOr, wtNot, wIf, waNil, waCons, wTup, wLst, wCall, quiet, wIsi, wInK, wLc, wiStr, wiTup, wiLst, wiRange, wSl, woNone, woSome, dSl, wNeg, dNeg, fLen, fAll, dEq, dNe, dLe, dLt, dGe, dGt, dAdd, dSub, dMod, dIx, dIn, dIsB, strsOf, boolsOf, DL.tyD_non, at_0, at_1, at_2, at_3, at_4, DL.isInt_non, DL.isStr_non, DL.isBl_non, DL.isTup_non, DL.isLst_non, DL.tyD_bl, DL.isInt_bl, DL.isStr_bl, DL.isBl_bl, DL.isTup_bl, DL.isLst_bl, DL.tyD_int, DL.isInt_int, DL.isStr_int, DL.isBl_int, DL.isTup_int, DL.isLst_int, DL.tyD_str, DL.isInt_str, DL.isStr_str, DL.isBl_str, DL.isTup_str, DL.isLst_str, DL.tyD_lst, DL.isInt_lst, DL.isStr_lst, DL.isBl_lst, DL.isTup_lst, DL.isLst_lst, DL.tyD_tup, DL.isInt_tup, DL.isStr_tup, DL.isBl_tup, DL.isTup_tup, DL.isLst_tup, pure1, pure2, pure3, Option.map_some,
  List.map_cons, List.map_nil, List.length_cons, List.length_nil, List.cons_append, List.nil_append, List.getElem?_cons_zero, List.getElem?_cons_succ, Option.some.injEq, exists_eq_left', exists_eq_left, exists_eq_right, exists_eq_right', D.bl.injEq, D.int.injEq, D.str.injEq, D.tup.injEq, D.lst.injEq, D.fn.injEq, D.sq.injEq, D.exn.injEq, List.cons.injEq, and_true, true_and, and_self, exists_and_left, exists_and_right, Option.isSome_some, List.set_cons_zero, List.set_cons_succ, if_true, Bool.false_eq_true, if_false, Bool.not_true, Bool.not_false, reduceCtorEq, List.replicate, Nat.reduceSub, Nat.reduceAdd])
section
variable {P : Program} {w : World} {K : PySem.W.Frag} {mg : Str → Option Value} {base : Heap}
def plainR : D → Bool
  | .tup (.str w :: _) => decide (w ∈ (["set", "copy"] : List Str))
  | _ => false
def jumpR : D → Bool
  | .tup (.str w :: _) => decide (w ∈ (["if", "go"] : List Str))
  | _ => false
/-- the beginnings that a row tells -/
def contrib (n j : Nat) (r : D) : List Int := (if jumpR r = true then [tgt r] else []) ++ (if (!plainR r && decide (j + 1 < n)) = true then [(j : Int) + 1] else [])
def begunL (n : Nat) : Nat → List D → List Int
  | _, [] => []
  | j, r :: rs => contrib n j r ++ begunL n (j + 1) rs
theorem begun_more (n : Nat) : ∀ (rs : List D) (j k : Nat) (h : k < rs.length), begunL n j (rs.take (k + 1)) = begunL n j (rs.take k) ++ contrib n (j + k) rs[k]
  | [], _, _, h => absurd h (Nat.not_lt_zero _)
  | r :: rs, j, 0, _ => by simp [begunL]
  | r :: rs, j, k + 1, h => by
    have ih := begun_more n rs (j + 1) k (by simpa using h)
    simp only [List.take_succ_cons, begunL, List.getElem_cons_succ]
    rw [ih, List.append_assoc, show j + 1 + k = j + (k + 1) by omega]
theorem begun_len (n : Nat) : ∀ (rs : List D) (j : Nat), (begunL n j rs).length ≤ 2 * rs.length
  | [], _ => by simp [begunL]
  | r :: rs, j => by
    have ih := begun_len n rs (j + 1)
    have : (contrib n j r).length ≤ 2 := by
      unfold contrib
      rw [List.length_append]
      split <;> split <;> simp
    simp only [begunL, List.length_append, List.length_cons]
    omega
theorem ints_map : ∀ ms : List Int, intsOf (ms.map D.int) = some ms
  | [] => rfl
  | m :: ms => by simp [intsOf, ints_map ms]
theorem con_plain {n j : Nat} {w : Str} {r : List D} (h1 : decide (w ∈ (["if", "go"] : List Str)) = false) (h2 : decide (w ∈ (["set", "copy"] : List Str)) = true) : contrib n j (.tup (.str w :: r)) = [] := by
  show (if decide (w ∈ (["if", "go"] : List Str)) = true then _ else _) ++ (if (!decide (w ∈ (["set", "copy"] : List Str)) && _) = true then _ else _) = _
  rw [h1, h2]
  rfl
theorem con_other {n j : Nat} {w : Str} {r : List D} (h1 : decide (w ∈ (["if", "go"] : List Str)) = false) (h2 : decide (w ∈ (["set", "copy"] : List Str)) = false) : contrib n j (.tup (.str w :: r)) = if j + 1 < n then [(j : Int) + 1] else [] := by
  show (if decide (w ∈ (["if", "go"] : List Str)) = true then _ else _) ++ (if (!decide (w ∈ (["set", "copy"] : List Str)) && decide (j + 1 < n)) = true then _ else _) = _
  rw [h1, h2]
  by_cases h : j + 1 < n <;> simp [h]
theorem con_jump {n j : Nat} {w : Str} {r : List D} (h1 : decide (w ∈ (["if", "go"] : List Str)) = true) (h2 : decide (w ∈ (["set", "copy"] : List Str)) = false) : contrib n j (.tup (.str w :: r)) = tgt (.tup (.str w :: r)) :: if j + 1 < n then [(j : Int) + 1] else [] := by
  show (if decide (w ∈ (["if", "go"] : List Str)) = true then _ else _) ++ (if (!decide (w ∈ (["set", "copy"] : List Str)) && decide (j + 1 < n)) = true then _ else _) = _
  rw [h1, h2]
  by_cases h : j + 1 < n <;> simp [h]
theorem ok_ubeginnings (T : Txt K mg) : FnOk P w K mg base CX0 2 T.d_ubeginnings.f T.d_ubeginnings.fd ["rows"] (spFr (fun es P => ∃ rs, es = [.tup rs] ∧ rs.length ≤ 12 ∧ (∀ r ∈ rs, RowK r) ∧ SortI (0 :: begunL rs.length 0 rs) P)) :=
  fn_okF T.d_ubeginnings.F sc_ubeginnings (fun es P h => by first | (obtain ⟨_, rfl, _⟩ := h; rfl) | (obtain ⟨_, _, rfl, _⟩ := h; rfl) | (obtain ⟨_, _, _, rfl, _⟩ := h; rfl) | (obtain ⟨_, _, _, _, rfl, _⟩ := h; rfl)) (fun cdv A outer s H E hr => ⟨_,
    (sf_acc sc_ubeginnings.nd rfl (by first | exact .inl rfl | exact .inr rfl) (fw_lst (wa_cons (we_c pe_int) wa_nil))
      (hf_cons (E := fun _ _ _ => False) (hs_forE (by decide) (by decide) PassesOwn.never rfl rfl T.n_enumerate (we_var (pv 0)) (pg_name (i := 2) sc_ubeginnings.nd rfl (by first | exact .inl rfl | exact .inr rfl)) (pg_name (i := 3) sc_ubeginnings.nd rfl (by first | exact .inl rfl | exact .inr rfl))
        (hss_cons (hs_if (wt_cmp op_dIn (we_ix (we_var (pv 3)) (we_c pe_int)) (we_tup (wa_cons (we_c pe_str) (wa_cons (we_c pe_str) wa_nil))) (by with_unfolding_all rfl))
          (hss_one (hs_appendH (pv 1) (we_ix (we_var (pv 3)) (we_neg (we_c pe_int)))))
          hss_nil)
        (hss_one (hs_if (PW.pt (ww_and (wt_not (wt_val (we_call (ok_is_plain T) (hr.mono (by decide)) rfl T.d_is_plain.m T.d_is_plain.F.kp T.d_is_plain.b (wa_cons (we_var (pv 3)) wa_nil)))) (pw_and1 (wt_cmp op_dLt (we_op op_dAdd (we_var (pv 2)) (we_c pe_int)) (we_callB call_fLen rfl T.n_len boot_lenB (wa_cons (we_var (pv 0)) wa_nil)) (nomark _)))))
          (hss_one (hs_appendH (pv 1) (we_op op_dAdd (we_var (pv 2)) (we_c pe_int))))
          hss_nil))))
      (hf_done (sf_ret (fw_sortSet rfl rfl T.n_sorted rfl T.n_set (we_var (pv 1))))))),
    fun es P h => by
      obtain ⟨rs, rfl, h12, hk, hp⟩ := h
      have lb : ∀ n : Nat, n ≤ 100000 → n ≤ sizeLine := fun n h => line_big h
      refine accF_cut (fun dv => dv = [.int 0]) (by simp [startD]) (fun Q hq => ?_) ?_
      · walk_at "red"
        exact ⟨lb _ (by omega), hq _ rfl⟩
      rintro dv rfl q
      refine seqHF_cut (fun ds dv => (∃ x2 x3, ds = [some (.tup rs), some (.fn q), x2, x3]) ∧ dv = (0 :: begunL rs.length 0 rs).map D.int) (fun N' hN => ?_) ?_
      · refine forEH_of rs (fun Q hq => ?_) (fun k ds dv => (∃ x2 x3, ds = [some (.tup rs), some (.fn q), x2, x3]) ∧ dv = (0 :: begunL rs.length 0 (rs.take k)).map D.int) ⟨⟨_, _, rfl⟩, by simp [begunL]⟩ ?_ ?_
        · walk_at "red"
          exact hq
        · rintro k ds dv hlt ⟨⟨x2, x3, rfl⟩, rfl⟩ N2 hN2
          have kr := hk _ (List.getElem_mem hlt)
          have more := begun_more rs.length rs 0 k hlt
          rw [Nat.zero_add] at more
          have lens : ((0 :: begunL rs.length 0 (rs.take k)).map D.int).length ≤ 25 := by
            have := begun_len rs.length (rs.take k) 0
            rw [List.length_take] at this
            simp only [List.length_map, List.length_cons]
            omega
          have fin : ∀ dv', dv' = (0 :: begunL rs.length 0 (rs.take k)).map D.int ++ (contrib rs.length k rs[k]).map D.int → N2 [some (.tup rs), some (.fn q), some (.int k), some rs[k]] dv' := fun dv' e => hN2 _ _ ⟨⟨_, _, rfl⟩, by
            rw [e, more]
            simp⟩
          generalize (0 :: begunL rs.length 0 (rs.take k)).map D.int = dv at lens fin
          generalize rs[k] = r at kr fin
          have other : ∀ w' r0, decide (w' ∈ (["if", "go"] : List Str)) = false → decide (w' ∈ (["set", "copy"] : List Str)) = false → r = .tup (.str w' :: r0) → if decide ((k : Int) + 1 < rs.length) = true then dv.length < sizeLine ∧ N2 [some (.tup rs), some (.fn q), some (.int k), some r] (dv ++ [.int (k + 1)]) else N2 [some (.tup rs), some (.fn q), some (.int k), some r] dv := fun w' r0 h1 h2 e => by
            by_cases hn : k + 1 < rs.length
            · exact ifT (decide_eq_true (by omega)) ⟨line_lt (by omega), fin _ (by rw [e, con_other h1 h2, if_pos hn]; rfl)⟩
            · exact ifF (decide_eq_false (by omega)) (fin _ (by rw [e, con_other h1 h2, if_neg hn]; simp))
          have jump : ∀ w' r0, decide (w' ∈ (["if", "go"] : List Str)) = true → decide (w' ∈ (["set", "copy"] : List Str)) = false → r = .tup (.str w' :: r0) → if decide ((k : Int) + 1 < rs.length) = true then (dv ++ [D.int (tgt r)]).length < sizeLine ∧ N2 [some (.tup rs), some (.fn q), some (.int k), some r] (dv ++ [.int (tgt r)] ++ [.int (k + 1)]) else N2 [some (.tup rs), some (.fn q), some (.int k), some r] (dv ++ [.int (tgt r)]) := fun w' r0 h1 h2 e => by
            by_cases hn : k + 1 < rs.length
            · exact ifT (decide_eq_true (by omega)) ⟨line_lt (by simp; omega), fin _ (by rw [e, con_jump h1 h2, if_pos hn]; simp)⟩
            · exact ifF (decide_eq_false (by omega)) (fin _ (by rw [e, con_jump h1 h2, if_neg hn]; simp))
          have two := lb 2 (by omega)
          cases kr with
          | set a b c d =>
            walk_at "red"
            exact ⟨two, ifF (by decide) (ifF (by decide) (fin _ (by rw [con_plain (by decide) (by decide)]; simp)))⟩
          | copy a b =>
            walk_at "red"
            exact ⟨two, ifF (by decide) (ifF (by decide) (fin _ (by rw [con_plain (by decide) (by decide)]; simp)))⟩
          | cond b c =>
            walk_at "red"
            exact ⟨two, ifT (by decide) ⟨_, rfl, line_lt (by omega), ifT (by decide) (jump _ _ (by decide) (by decide) rfl)⟩⟩
          | go c =>
            walk_at "red"
            exact ⟨two, ifT (by decide) ⟨_, rfl, line_lt (by omega), ifT (by decide) (jump _ _ (by decide) (by decide) rfl)⟩⟩
          | get a =>
            walk_at "red"
            exact ⟨two, ifF (by decide) (ifT (by decide) (other _ _ (by decide) (by decide) rfl))⟩
          | out a =>
            walk_at "red"
            exact ⟨two, ifF (by decide) (ifT (by decide) (other _ _ (by decide) (by decide) rfl))⟩
          | back a =>
            walk_at "red"
            exact ⟨two, ifF (by decide) (ifT (by decide) (other _ _ (by decide) (by decide) rfl))⟩
          | call a b c d =>
            walk_at "red"
            exact ⟨two, ifF (by decide) (ifT (by decide) (other _ _ (by decide) (by decide) rfl))⟩
        · rintro ds dv ⟨hds, hdv⟩
          rw [List.take_length] at hdv
          exact hN _ _ ⟨hds, hdv⟩
      · rintro ds dv ⟨⟨x2, x3, rfl⟩, rfl⟩
        have l2 := begun_len rs.length rs 0
        walk_at "red"
        exact ⟨0 :: begunL rs.length 0 rs, ints_map (0 :: begunL rs.length 0 rs), by simp; omega, hp⟩⟩)
end
end K07

set_option maxHeartbeats 2000000
namespace K07
open PySem PySem.Spec PyProof.Rows L2 DL
variable [TabCtx]
local macro_rules | `(tactic| walk_at "red") => `(tactic| simp only [gRetG, gSeqHF, dInI, dNotIn, fIsC2, gFor3, gForH3, gStoreH, fwSortSet, wzMeth, wFell, fwCat, gForELH, wDGet2, fDict, dRepT, gSeqF, gSeqHF, gDoneF, gAccF, fwIf, gParAcc, gForHS, dRep, wDNIn, wD0, gClearH, fIsC, dNeI, DL.tyD_dct, DL.isInt_dct, DL.isStr_dct, DL.isBl_dct, DL.isTup_dct, DL.isLst_dct, wSortC, gExtH, fwList, wiSeq, seqOf_lst, seqOf_tup, wiAny, wzE, wzOpL, wzIf, gzRet, gzSet, gzDrop, gPar, wLcZ, wiZip, wTupRg3, wiRg3, fMin, fAbs, fMaxL, fMinL, gUn2, gUn3, gUn2L, gFor2L, wLcI, wLam3, gSrc, or_false, false_or, exists_false, false_and, and_false, wDc3, gAcc, gSeqH, gForEH, gForE, gForH, gIfH, gLift, gNextH, gAppendH, gAppend, gDone, gSetH, DL.seen, dIsN, dNotN, wDc, wFld, wMeth, wDIn, wDIx, wDGetN, wNew, wzNew, wLcI, gField, gCL, fLenQ, dIxQ, wNeK, wIndex, gTryRet, gTryDrop, wzCall, wzCallL, wTold, fIsE, fRepr, wJoin, wDGet, wVals, dPow, wSrc, gSrcSet, dMulS, dFdivS, fInt, fMax, fTuple, fList, startD, gNext, gSeq, gRet, gSet, gIf, gDrop, gRaise, gFor, wVar, wC, wOp, wTest, wChain, wAnd, wOr, wNot, wtAnd, wtOr, wtNot, wIf, waNil, waCons, wTup, wLst, wCall, quiet, wIsi, wInK, wLc, wiStr, wiTup, wiLst, wiRange, wSl, woNone, woSome, dSl, wNeg, dNeg, fLen, fAll, dEq, dNe, dLe, dLt, dGe, dGt, dAdd, dSub, dMod, dIx, dIn, dIsB, strsOf, boolsOf, DL.tyD_non, at_0, at_1, at_2, at_3, at_4, DL.isInt_non, DL.isStr_non, DL.isBl_non, DL.isTup_non, DL.isLst_non, DL.tyD_bl, DL.isInt_bl, DL.isStr_bl, DL.isBl_bl, DL.isTup_bl, DL.isLst_bl, DL.tyD_int, DL.isInt_int, DL.isStr_int, DL.isBl_int, DL.isTup_int, DL.isLst_int, DL.tyD_str, DL.isInt_str, DL.isStr_str, DL.isBl_str, DL.isTup_str, DL.isLst_str, DL.tyD_lst, DL.isInt_lst, DL.isStr_lst, DL.isBl_lst, DL.isTup_lst, DL.isLst_lst, DL.tyD_tup, DL.isInt_tup, DL.isStr_tup, DL.isBl_tup, DL.isTup_tup, DL.isLst_tup, pure1, pure2, pure3, Option.map_some,
  List.map_cons, List.map_nil, List.length_cons, List.length_nil, List.cons_append, List.nil_append, List.getElem?_cons_zero, List.getElem?_cons_succ, Option.some.injEq, exists_eq_left', exists_eq_left, exists_eq_right, exists_eq_right', D.bl.injEq, D.int.injEq, D.str.injEq, D.tup.injEq, D.lst.injEq, D.fn.injEq, D.sq.injEq, D.exn.injEq, List.cons.injEq, and_true, true_and, and_self, exists_and_left, exists_and_right, Option.isSome_some, List.set_cons_zero, List.set_cons_succ, if_true, Bool.false_eq_true, if_false, Bool.not_true, Bool.not_false, reduceCtorEq, List.replicate, Nat.reduceSub, Nat.reduceAdd])
section
variable {P : Program} {w : World} {K : PySem.W.Frag} {mg : Str → Option Value} {base : Heap}
theorem ok_lsame (T : Txt K mg) : FnG P w K mg base CX0 1 T.d_lsame.f T.d_lsame.fd ["_law_one_here", "_law_other"] (spD fun es P _ => (fun es P => ∃ d, es = [d, d] ∧ Rp d ∧ P (.bl true)) es P) :=
  fnG_ok T.d_lsame.F sc_lsame (fun es P h => by first | (obtain ⟨rfl, _⟩ := h; rfl) | exact pure1_len h | exact pure2_len h | exact pure3_len h | (obtain ⟨_, rfl, _⟩ := h; rfl) | (obtain ⟨_, _, rfl, _⟩ := h; rfl) | (obtain ⟨_, _, _, rfl, _⟩ := h; rfl) | (obtain ⟨_, _, _, _, rfl, _⟩ := h; rfl) | (obtain ⟨rfl, _⟩ := h; rfl)) (fun cdv A outer s H E hgd hr => ⟨_,
    (wss_one (ws_ret (we_and (we_cmp (op_dEq hr.units) (we_var (pv 0)) (we_var (pv 1)) (nomark _)) (we_one (we_cmp (op_dEq hr.units) (we_callB (call_fRepr hgd hr.units) rfl T.n_repr boot_reprB (wa_cons (we_var (pv 0)) wa_nil)) (we_callB (call_fRepr hgd hr.units) rfl T.n_repr boot_reprB (wa_cons (we_var (pv 1)) wa_nil)) (nomark _)))))),
    fun es P h => by
      obtain ⟨d, rfl, ok, hp⟩ := h
      obtain ⟨oe, r1, r2, r3, r4, r5⟩ := ok
      have e := eqD_self oe
      walk_at "red"
      cases d with
      | str a => exact ifT (decide_eq_true rfl) ⟨r1, r2, r3, r4, r5, r1, r2, r3, r4, r5, hp⟩
      | int a => exact ifT (decide_eq_true rfl) ⟨r1, r2, r3, r4, r5, r1, r2, r3, r4, r5, hp⟩
      | bl a => exact ifT (decide_eq_true rfl) ⟨r1, r2, r3, r4, r5, r1, r2, r3, r4, r5, hp⟩
      | non => exact ⟨oe, oe, ifT e ⟨r1, r2, r3, r4, r5, r1, r2, r3, r4, r5, hp⟩⟩
      | _ => exact ⟨oe, oe, ifT e ⟨r1, r2, r3, r4, r5, r1, r2, r3, r4, r5, hp⟩⟩⟩)
theorem eachI_filter {t : D → (Bool → Prop) → Prop} {f : D → (D → Prop) → Prop} {p : D → Bool} : ∀ {xs : List D} {P : List D → Prop}, (∀ x ∈ xs, ∀ Q : Bool → Prop, Q (p x) → t x Q) → (∀ x ∈ xs, ∀ Q : D → Prop, Q x → f x Q) → P (xs.filter p) → wEachI t f xs P
  | [], _, _, _, h => h
  | x :: xs, P, ht, hf, h => by
    unfold wEachI
    refine ht x List.mem_cons_self _ ?_
    cases e : p x with
    | true =>
      rw [if_pos rfl]
      rw [List.filter_cons_of_pos e] at h
      exact hf x List.mem_cons_self _ (eachI_filter (P := fun ys => P (x :: ys)) (fun y hy => ht y (List.mem_cons_of_mem _ hy)) (fun y hy => hf y (List.mem_cons_of_mem _ hy)) h)
    | false =>
      rw [if_neg (by decide)]
      rw [List.filter_cons_of_neg (by rw [e]; decide)] at h
      exact eachI_filter (fun y hy => ht y (List.mem_cons_of_mem _ hy)) (fun y hy => hf y (List.mem_cons_of_mem _ hy)) h
/-- where a stretch may begin, ascending -/
def begN (rs : List D) : List Nat := (List.range rs.length).filter fun j => decide ((j : Int) ∈ 0 :: begunL rs.length 0 rs)
theorem ok_lbegun (T : Txt K mg) : FnOk P w K mg base CX0 1 T.d_lbegun.f T.d_lbegun.fd ["_law_rows_here"] (spD fun es P _ => (fun es P => ∃ rs, es = [.tup rs] ∧ rs.length ≤ 12 ∧ (∀ r ∈ rs, RowK r) ∧ P (.lst ((begN rs).map fun (j : Nat) => D.int j))) es P) :=
  fn_ok T.d_lbegun.F sc_lbegun (fun es P h => by first | (obtain ⟨rfl, _⟩ := h; rfl) | exact pure1_len h | exact pure2_len h | exact pure3_len h | (obtain ⟨_, rfl, _⟩ := h; rfl) | (obtain ⟨_, _, rfl, _⟩ := h; rfl) | (obtain ⟨_, _, _, rfl, _⟩ := h; rfl) | (obtain ⟨_, _, _, _, rfl, _⟩ := h; rfl) | (obtain ⟨rfl, _⟩ := h; rfl)) (fun cdv A outer s H E hr => ⟨_,
    (wss_acc sc_lbegun.nd rfl (by first | exact .inl rfl | exact .inr rfl) (fw_lst (wa_cons (we_c pe_int) wa_nil))
      (hss_cons (hs_forE (by decide) (by decide) PassesOwn.never rfl rfl T.n_enumerate (we_var (pv 0)) (pg_name (i := 2) sc_lbegun.nd rfl (by first | exact .inl rfl | exact .inr rfl)) (pg_name (i := 3) sc_lbegun.nd rfl (by first | exact .inl rfl | exact .inr rfl))
        (hss_cons (hs_if (wt_cmp op_dIn (we_ix (we_var (pv 3)) (we_c pe_int)) (we_lst (wa_cons (we_c pe_str) (wa_cons (we_c pe_str) wa_nil))) (by with_unfolding_all rfl))
          (hss_one (hs_appendH (pv 1) (we_callTy call_fInt rfl T.n_int boot_intT (wa_cons (we_ix (we_var (pv 3)) (we_neg (we_c pe_int))) wa_nil))))
          hss_nil)
        (hss_one (hs_if (PW.pt (ww_and (wt_cmp op_dNotIn (we_ix (we_var (pv 3)) (we_c pe_int)) (we_lst (wa_cons (we_c pe_str) (wa_cons (we_c pe_str) wa_nil))) (by with_unfolding_all rfl)) (pw_and1 (wt_cmp op_dLt (we_op op_dAdd (we_var (pv 2)) (we_c pe_int)) (we_callB call_fLen rfl T.n_len boot_lenB (wa_cons (we_var (pv 0)) wa_nil)) (nomark _)))))
          (hss_one (hs_appendH (pv 1) (we_op op_dAdd (we_var (pv 2)) (we_c pe_int))))
          hss_nil))))
      (hss_done (wss_one (ws_ret (we_lci (i := 2) (x := "_law_at") rfl sc_lbegun.nd (wi_range rfl T.n_range (we_callB call_fLen rfl T.n_len boot_lenB (wa_cons (we_var (pv 0)) wa_nil))) (blkOk_by (N := ["_law_rows_here", "_law_drawn", "_law_at", "_law_row"]) (sc := defScope s_lbegun) (by decide +kernel)) (fun _ _ _ _ _ => pg_name sc_lbegun.nd rfl (Or.inl rfl)) (fun _ _ _ _ _ => (wt_cmp op_dInI (we_var (pv 2)) (we_var (pv 1)) (by with_unfolding_all rfl))) (fun _ _ _ _ _ => (we_var (pv 2))))))))),
    fun es P h => by
      obtain ⟨rs, rfl, h12, hk, hp⟩ := h
      have lb : ∀ n : Nat, n ≤ 100000 → n ≤ sizeLine := fun n h => line_big h
      refine acc_cut (fun dv => dv = [.int 0]) (by simp [startD]) (fun Q hq => ?_) ?_
      · walk_at "red"
        exact ⟨lb _ (by omega), hq _ rfl⟩
      rintro dv rfl q
      refine seqH_cut (fun ds dv => (∃ x2 x3, ds = [some (.tup rs), some (.fn q), x2, x3]) ∧ dv = (0 :: begunL rs.length 0 rs).map D.int) (fun N' hN => ?_) ?_
      · refine forEH_of rs (fun Q hq => ?_) (fun k ds dv => (∃ x2 x3, ds = [some (.tup rs), some (.fn q), x2, x3]) ∧ dv = (0 :: begunL rs.length 0 (rs.take k)).map D.int) ⟨⟨_, _, rfl⟩, by simp [begunL]⟩ ?_ ?_
        · walk_at "red"
          exact hq
        · rintro k ds dv hlt ⟨⟨x2, x3, rfl⟩, rfl⟩ N2 hN2
          have kr := hk _ (List.getElem_mem hlt)
          have more := begun_more rs.length rs 0 k hlt
          rw [Nat.zero_add] at more
          have lens : ((0 :: begunL rs.length 0 (rs.take k)).map D.int).length ≤ 25 := by
            have := begun_len rs.length (rs.take k) 0
            rw [List.length_take] at this
            simp only [List.length_map, List.length_cons]
            omega
          have fin : ∀ dv', dv' = (0 :: begunL rs.length 0 (rs.take k)).map D.int ++ (contrib rs.length k rs[k]).map D.int → N2 [some (.tup rs), some (.fn q), some (.int k), some rs[k]] dv' := fun dv' e => hN2 _ _ ⟨⟨_, _, rfl⟩, by
            rw [e, more]
            simp⟩
          generalize (0 :: begunL rs.length 0 (rs.take k)).map D.int = dv at lens fin
          generalize rs[k] = r at kr fin
          have other : ∀ w' r0, decide (w' ∈ (["if", "go"] : List Str)) = false → decide (w' ∈ (["set", "copy"] : List Str)) = false → r = .tup (.str w' :: r0) → if decide ((k : Int) + 1 < rs.length) = true then dv.length < sizeLine ∧ N2 [some (.tup rs), some (.fn q), some (.int k), some r] (dv ++ [.int (k + 1)]) else N2 [some (.tup rs), some (.fn q), some (.int k), some r] dv := fun w' r0 h1 h2 e => by
            by_cases hn : k + 1 < rs.length
            · exact ifT (decide_eq_true (by omega)) ⟨line_lt (by omega), fin _ (by rw [e, con_other h1 h2, if_pos hn]; rfl)⟩
            · exact ifF (decide_eq_false (by omega)) (fin _ (by rw [e, con_other h1 h2, if_neg hn]; simp))
          have jump : ∀ w' r0, decide (w' ∈ (["if", "go"] : List Str)) = true → decide (w' ∈ (["set", "copy"] : List Str)) = false → r = .tup (.str w' :: r0) → if decide ((k : Int) + 1 < rs.length) = true then (dv ++ [D.int (tgt r)]).length < sizeLine ∧ N2 [some (.tup rs), some (.fn q), some (.int k), some r] (dv ++ [.int (tgt r)] ++ [.int (k + 1)]) else N2 [some (.tup rs), some (.fn q), some (.int k), some r] (dv ++ [.int (tgt r)]) := fun w' r0 h1 h2 e => by
            by_cases hn : k + 1 < rs.length
            · exact ifT (decide_eq_true (by omega)) ⟨line_lt (by simp; omega), fin _ (by rw [e, con_jump h1 h2, if_pos hn]; simp)⟩
            · exact ifF (decide_eq_false (by omega)) (fin _ (by rw [e, con_jump h1 h2, if_neg hn]; simp))
          have two := lb 2 (by omega)
          cases kr with
          | set a b c d =>
            walk_at "red"
            exact ⟨two, ifF (by decide) ⟨two, ifF (by decide) (fin _ (by rw [con_plain (by decide) (by decide)]; simp))⟩⟩
          | copy a b =>
            walk_at "red"
            exact ⟨two, ifF (by decide) ⟨two, ifF (by decide) (fin _ (by rw [con_plain (by decide) (by decide)]; simp))⟩⟩
          | cond b c =>
            walk_at "red"
            exact ⟨two, ifT (by decide) ⟨_, rfl, line_lt (by omega), two, ifT (by decide) (jump _ _ (by decide) (by decide) rfl)⟩⟩
          | go c =>
            walk_at "red"
            exact ⟨two, ifT (by decide) ⟨_, rfl, line_lt (by omega), two, ifT (by decide) (jump _ _ (by decide) (by decide) rfl)⟩⟩
          | get a =>
            walk_at "red"
            exact ⟨two, ifF (by decide) ⟨two, ifT (by decide) (other _ _ (by decide) (by decide) rfl)⟩⟩
          | out a =>
            walk_at "red"
            exact ⟨two, ifF (by decide) ⟨two, ifT (by decide) (other _ _ (by decide) (by decide) rfl)⟩⟩
          | back a =>
            walk_at "red"
            exact ⟨two, ifF (by decide) ⟨two, ifT (by decide) (other _ _ (by decide) (by decide) rfl)⟩⟩
          | call a b c d =>
            walk_at "red"
            exact ⟨two, ifF (by decide) ⟨two, ifT (by decide) (other _ _ (by decide) (by decide) rfl)⟩⟩
        · rintro ds dv ⟨hds, hdv⟩
          rw [List.take_length] at hdv
          exact hN _ _ ⟨hds, hdv⟩
      · rintro ds dv ⟨⟨x2, x3, rfl⟩, rfl⟩
        have l2 := begun_len rs.length rs 0
        walk_at "red"
        have il : (intsD (rs.length : Int).toNat) = (List.range rs.length).map fun (j : Nat) => D.int j := by simp [intsD]
        refine ⟨by omega, by omega, by rw [il]; simp; exact line_lt (by omega), eachI_filter (p := fun x => match x with | .int k => decide (k ∈ 0 :: begunL rs.length 0 rs) | _ => false) (fun x hx Q hq => ?_) (fun x hx Q hq => hq) ?_⟩
        · rw [il] at hx
          obtain ⟨j, _, rfl⟩ := List.mem_map.mp hx
          exact ⟨_, rfl, 0 :: begunL rs.length 0 rs, ints_map (0 :: begunL rs.length 0 rs), hq⟩
        · rw [il, List.filter_map]
          exact hp⟩)
end
end K07

set_option maxHeartbeats 2000000
namespace K07
open PySem PySem.Spec PyProof.Rows L2 DL
/-! stretches, as the program and as the law goes through them -/
abbrev Pr := Nat × Nat
def strStep (beg : List Nat) (acc : List Pr) (j : Nat) (r : D) : List Pr :=
  if plainR r = true then (if j ∈ beg then acc ++ [(j, j)] else acc.set (acc.length - 1) ((acc.getD (acc.length - 1) (0, 0)).1, j)) else acc
def strTo (beg : List Nat) : Nat → List D → List Pr → List Pr
  | _, [], acc => acc
  | j, r :: rs, acc => strTo beg (j + 1) rs (strStep beg acc j r)
def strOf (rs : List D) : List Pr := strTo (begN rs) 0 rs []
def lotEnd (beg : List Nat) (st : List Pr × Option Nat) (j : Nat) (r : D) : List Pr × Option Nat :=
  match st.2 with
  | some a => if (!plainR r || decide (j ∈ beg)) = true then (st.1 ++ [(a, j - 1)], none) else st
  | none => st
def lotNew (st : List Pr × Option Nat) (j : Nat) (r : D) : List Pr × Option Nat :=
  match st.2 with
  | none => if plainR r = true then (st.1, some j) else st
  | some _ => st
def lotStep (beg : List Nat) (st : List Pr × Option Nat) (j : Nat) (r : D) : List Pr × Option Nat := lotNew (lotEnd beg st j r) j r
def lotTo (beg : List Nat) : Nat → List D → List Pr × Option Nat → List Pr × Option Nat
  | _, [], st => st
  | j, r :: rs, st => lotTo beg (j + 1) rs (lotStep beg st j r)
theorem str_more (beg : List Nat) : ∀ (rs : List D) (j k : Nat) (acc : List Pr) (h : k < rs.length), strTo beg j (rs.take (k + 1)) acc = strStep beg (strTo beg j (rs.take k) acc) (j + k) rs[k]
  | [], _, _, _, h => absurd h (Nat.not_lt_zero _)
  | r :: rs, j, 0, acc, _ => by simp [strTo]
  | r :: rs, j, k + 1, acc, h => by
    have ih := str_more beg rs (j + 1) k (strStep beg acc j r) (by simpa using h)
    simp only [List.take_succ_cons, strTo, List.getElem_cons_succ]
    rw [ih, show j + 1 + k = j + (k + 1) by omega]
theorem lot_more (beg : List Nat) : ∀ (rs : List D) (j k : Nat) (st : List Pr × Option Nat) (h : k < rs.length), lotTo beg j (rs.take (k + 1)) st = lotStep beg (lotTo beg j (rs.take k) st) (j + k) rs[k]
  | [], _, _, _, h => absurd h (Nat.not_lt_zero _)
  | r :: rs, j, 0, acc, _ => by simp [lotTo]
  | r :: rs, j, k + 1, acc, h => by
    have ih := lot_more beg rs (j + 1) k (lotStep beg acc j r) (by simpa using h)
    simp only [List.take_succ_cons, lotTo, List.getElem_cons_succ]
    rw [ih, show j + 1 + k = j + (k + 1) by omega]
def plainAt (rs : List D) (i : Nat) : Bool := plainR (rs.getD i .non)
def cont (i : Nat) (p : Pr) : Bool := decide (p.1 ≤ i) && decide (i ≤ p.2)
def tailOf (k : Nat) : Option Nat → List Pr
  | some a => [(a, k - 1)]
  | none => []
structure Both (rs : List D) (k : Nat) (s : List Pr) (st : List Pr × Option Nat) : Prop where
  eq : s = st.1 ++ tailOf k st.2
  fst : st.2.isSome = true ↔ 0 < k ∧ plainAt rs (k - 1) = true
  rng : ∀ p ∈ s, p.1 ≤ p.2 ∧ p.2 < k
  cov : ∀ i, i < k → (s.filter (cont i)).length = if plainAt rs i = true then 1 else 0
theorem mem_begun (n : Nat) {x : Int} : ∀ (rs : List D) (j k : Nat) (h : k < rs.length), x ∈ contrib n (j + k) rs[k] → x ∈ begunL n j rs
  | [], _, _, h, _ => absurd h (Nat.not_lt_zero _)
  | r :: rs, j, 0, _, hx => List.mem_append_left _ hx
  | r :: rs, j, k + 1, h, hx => by
    refine List.mem_append_right _ (mem_begun n rs (j + 1) k (by simpa using h) ?_)
    rw [show j + 1 + k = j + (k + 1) by omega]
    exact hx
theorem not_beg {rs : List D} {k : Nat} (hk : k < rs.length) (h : k ∉ begN rs) : 0 < k ∧ plainAt rs (k - 1) = true := by
  have no : ¬ ((k : Int) ∈ 0 :: begunL rs.length 0 rs) := fun z => h (List.mem_filter.mpr ⟨List.mem_range.mpr hk, decide_eq_true z⟩)
  have pos : 0 < k := by
    rcases Nat.eq_zero_or_pos k with e | e
    · subst e
      exact absurd List.mem_cons_self no
    · exact e
  refine ⟨pos, ?_⟩
  cases e : plainAt rs (k - 1) with
  | true => rfl
  | false =>
    exfalso
    have h1 : k - 1 < rs.length := by omega
    refine no (List.mem_cons_of_mem _ (mem_begun rs.length rs 0 (k - 1) h1 ?_))
    have e1 : plainR rs[k - 1] = false := by
      unfold plainAt at e
      rwa [List.getD_eq_getElem?_getD, List.getElem?_eq_getElem h1] at e
    unfold contrib
    refine List.mem_append_right _ ?_
    rw [e1, Nat.zero_add, show k - 1 + 1 = k by omega, decide_eq_true hk]
    rw [if_pos (by rfl)]
    rw [List.mem_singleton]
    omega
theorem cont_out {s : List Pr} {k i : Nat} (h : ∀ p ∈ s, p.1 ≤ p.2 ∧ p.2 < k) (hi : k ≤ i) : s.filter (cont i) = [] := by
  rw [List.filter_eq_nil_iff]
  intro p hp
  have := (h p hp).2
  unfold cont
  rw [decide_eq_false (show ¬ i ≤ p.2 by omega), Bool.and_false]
  decide
theorem both_step {rs : List D} {k : Nat} {s : List Pr} {st : List Pr × Option Nat} (hk : k < rs.length) (B : Both rs k s st) : Both rs (k + 1) (strStep (begN rs) s k rs[k]) (lotStep (begN rs) st k rs[k]) := by
  obtain ⟨heq, hfst, hrng, hcov⟩ := B
  obtain ⟨acc, first⟩ := st
  have here : plainAt rs k = plainR rs[k] := by
    unfold plainAt
    rw [List.getD_eq_getElem?_getD, List.getElem?_eq_getElem hk]
    rfl
  simp only at heq hfst
  cases hp : plainR rs[k] with
  | false =>
    have e1 : strStep (begN rs) s k rs[k] = s := by unfold strStep; rw [hp, if_neg (by decide)]
    have e2 : lotStep (begN rs) (acc, first) k rs[k] = (s, none) := by
      cases first with
      | none =>
        unfold lotStep lotEnd lotNew
        simp only [hp, Bool.false_eq_true, if_false]
        rw [heq]
        simp [tailOf]
      | some a =>
        unfold lotStep lotEnd lotNew
        simp only [hp, Bool.not_false, Bool.true_or, if_true, Bool.false_eq_true, if_false]
        rw [heq]
        rfl
    rw [e1, e2]
    refine ⟨by simp [tailOf], ?_, fun p h => ⟨(hrng p h).1, by have := (hrng p h).2; omega⟩, fun i hi => ?_⟩
    · simp only [Option.isSome_none, Bool.false_eq_true, false_iff, Nat.add_sub_cancel]
      rw [here, hp]
      simp
    · by_cases h : i < k
      · exact hcov i h
      · have : i = k := by omega
        subst this
        rw [cont_out hrng (Nat.le_refl _), here, hp]
        rfl
  | true =>
    by_cases hb : k ∈ begN rs
    · have e1 : strStep (begN rs) s k rs[k] = s ++ [(k, k)] := by unfold strStep; rw [hp, if_pos rfl, if_pos hb]
      have e2 : lotStep (begN rs) (acc, first) k rs[k] = (s, some k) := by
        cases first with
        | none =>
          unfold lotStep lotEnd lotNew
          simp only [hp, if_true]
          rw [heq]
          simp [tailOf]
        | some a =>
          unfold lotStep lotEnd lotNew
          simp only [hp, hb, Bool.not_true, Bool.false_or, decide_true, if_true]
          rw [heq]
          rfl
      rw [e1, e2]
      refine ⟨rfl, ?_, fun p h => ?_, fun i hi => ?_⟩
      · simp only [Option.isSome_some, true_iff, Nat.add_sub_cancel]
        exact ⟨by omega, by rw [here, hp]⟩
      · rcases List.mem_append.mp h with z | z
        · have := hrng p z
          exact ⟨this.1, by omega⟩
        · rw [List.mem_singleton.mp z]
          exact ⟨Nat.le_refl _, Nat.lt_succ_self _⟩
      · rw [List.filter_append, List.length_append]
        by_cases h : i < k
        · rw [hcov i h]
          have : [(k, k)].filter (cont i) = [] := by
            rw [List.filter_eq_nil_iff]
            intro p hp2
            rw [List.mem_singleton.mp hp2]
            unfold cont
            rw [decide_eq_false (show ¬ (k, k).1 ≤ i from by simp; omega)]
            simp
          rw [this]
          rfl
        · have : i = k := by omega
          subst this
          rw [cont_out hrng (Nat.le_refl _), here, hp]
          have : [(i, i)].filter (cont i) = [(i, i)] := by
            rw [List.filter_cons_of_pos (by unfold cont; simp)]
            rfl
          rw [this]
          rfl
    · obtain ⟨pos, prev⟩ := not_beg hk hb
      have isS := hfst.mpr ⟨pos, prev⟩
      cases first with
      | none => cases isS
      | some a =>
        have heq' : s = acc ++ [(a, k - 1)] := heq
        have e1 : strStep (begN rs) s k rs[k] = acc ++ [(a, k)] := by
          unfold strStep
          rw [hp, if_pos rfl, if_neg hb, heq']
          have l : (acc ++ [(a, k - 1)]).length - 1 = acc.length := by simp
          rw [l]
          rw [List.getD_eq_getElem?_getD, List.getElem?_append_right (Nat.le_refl _), Nat.sub_self]
          rw [List.set_append_right _ _ (Nat.le_refl _), Nat.sub_self]
          rfl
        have e2 : lotStep (begN rs) (acc, some a) k rs[k] = (acc, some a) := by
          unfold lotStep lotEnd lotNew
          simp only [hp, hb, Bool.not_true, Bool.false_or, decide_false, Bool.false_eq_true, if_false]
        rw [e1, e2]
        have ra := hrng (a, k - 1) (by rw [heq']; simp)
        have racc : ∀ p ∈ acc, p.1 ≤ p.2 ∧ p.2 < k := fun p h => hrng p (by rw [heq']; exact List.mem_append_left _ h)
        refine ⟨rfl, ?_, fun p h => ?_, fun i hi => ?_⟩
        · simp only [Option.isSome_some, true_iff, Nat.add_sub_cancel]
          exact ⟨by omega, by rw [here, hp]⟩
        · rcases List.mem_append.mp h with z | z
          · have := racc p z
            exact ⟨this.1, by omega⟩
          · rw [List.mem_singleton.mp z]
            have := ra.1
            exact ⟨by simp at this ⊢; omega, Nat.lt_succ_self _⟩
        · by_cases h : i < k
          · have c := hcov i h
            rw [heq', List.filter_append] at c
            rw [List.filter_append]
            have same : cont i (a, k) = cont i (a, k - 1) := by
              unfold cont
              simp only
              rw [decide_eq_true (show i ≤ k by omega), decide_eq_true (show i ≤ k - 1 by omega)]
            have : ([(a, k)].filter (cont i)).length = ([(a, k - 1)].filter (cont i)).length := by
              simp only [List.filter_cons, same, List.filter_nil]
              split <;> rfl
            rw [List.length_append, this, ← List.length_append]
            exact c
          · have : i = k := by omega
            subst this
            rw [List.filter_append, cont_out racc (Nat.le_refl _), here, hp]
            have : [(a, i)].filter (cont i) = [(a, i)] := by
              have := ra.1
              rw [List.filter_cons_of_pos (by unfold cont; simp at this ⊢; omega)]
              rfl
            rw [this]
            rfl
theorem both_all (rs : List D) : ∀ k, k ≤ rs.length → Both rs k (strTo (begN rs) 0 (rs.take k) []) (lotTo (begN rs) 0 (rs.take k) ([], none))
  | 0, _ => by
    rw [List.take_zero]
    exact ⟨rfl, by simp [lotTo], fun p h => by simp [strTo] at h, fun i h => absurd h (Nat.not_lt_zero _)⟩
  | k + 1, h => by
    have := both_step h (both_all rs k (by omega))
    rw [str_more _ _ _ _ _ h, lot_more _ _ _ _ _ h, Nat.zero_add]
    exact this
theorem lot_end {rs : List D} {a : D} {fr : List D} (e : rs = fr ++ [.tup [.str "back", a]]) : lotTo (begN rs) 0 rs ([], none) = (strOf rs, none) := by
  have B := both_all rs rs.length (Nat.le_refl _)
  rw [List.take_length] at B
  have last : plainAt rs (rs.length - 1) = false := by
    unfold plainAt
    rw [e]
    simp
    rfl
  have h := B.fst
  rw [last] at h
  unfold strOf
  generalize lotTo (begN rs) 0 rs ([], none) = st at B h
  obtain ⟨acc, first⟩ := st
  cases first with
  | some a => simp at h
  | none =>
    have := B.eq
    simp only [tailOf, List.append_nil] at this
    rw [this]
theorem str_cov (rs : List D) : ∀ i, i < rs.length → ((strOf rs).filter (cont i)).length = if plainAt rs i = true then 1 else 0 := by
  have B := both_all rs rs.length (Nat.le_refl _)
  rw [List.take_length] at B
  exact B.cov
theorem str_rng (rs : List D) : ∀ p ∈ strOf rs, p.1 ≤ p.2 ∧ p.2 < rs.length := by
  have B := both_all rs rs.length (Nat.le_refl _)
  rw [List.take_length] at B
  exact B.rng
theorem str_few (beg : List Nat) : ∀ (rs : List D) (j : Nat) (acc : List Pr), (strTo beg j rs acc).length ≤ acc.length + rs.length
  | [], _, _ => Nat.le_refl _
  | r :: rs, j, acc => by
    have ih := str_few beg rs (j + 1) (strStep beg acc j r)
    have : (strStep beg acc j r).length ≤ acc.length + 1 := by
      unfold strStep
      split
      · split <;> simp
      · omega
    simp only [strTo, List.length_cons]
    omega
end K07

set_option maxHeartbeats 2000000
namespace K07
open PySem PySem.Spec PyProof.Rows L2 DL
variable [TabCtx]
local macro_rules | `(tactic| walk_at "red") => `(tactic| simp only [gRetG, gSeqHF, dInI, dNotIn, fIsC2, gFor3, gForH3, gStoreH, fwSortSet, wzMeth, wFell, fwCat, gForELH, wDGet2, fDict, dRepT, gSeqF, gSeqHF, gDoneF, gAccF, fwIf, gParAcc, gForHS, dRep, wDNIn, wD0, gClearH, fIsC, dNeI, DL.tyD_dct, DL.isInt_dct, DL.isStr_dct, DL.isBl_dct, DL.isTup_dct, DL.isLst_dct, wSortC, gExtH, fwList, wiSeq, seqOf_lst, seqOf_tup, wiAny, wzE, wzOpL, wzIf, gzRet, gzSet, gzDrop, gPar, wLcZ, wiZip, wTupRg3, wiRg3, fMin, fAbs, fMaxL, fMinL, gUn2, gUn3, gUn2L, gFor2L, wLcI, wLam3, gSrc, or_false, false_or, exists_false, false_and, and_false, wDc3, gAcc, gSeqH, gForEH, gForE, gForH, gIfH, gLift, gNextH, gAppendH, gAppend, gDone, gSetH, DL.seen, dIsN, dNotN, wDc, wFld, wMeth, wDIn, wDIx, wDGetN, wNew, wzNew, wLcI, gField, gCL, fLenQ, dIxQ, wNeK, wIndex, gTryRet, gTryDrop, wzCall, wzCallL, wTold, fIsE, fRepr, wJoin, wDGet, wVals, dPow, wSrc, gSrcSet, dMulS, dFdivS, fInt, fMax, fTuple, fList, startD, gNext, gSeq, gRet, gSet, gIf, gDrop, gRaise, gFor, wVar, wC, wOp, wTest, wChain, wAnd, wOr, wNot, wtAnd, wtOr, wtNot, wIf, waNil, waCons, wTup, wLst, wCall, quiet, wIsi, wInK, wLc, wiStr, wiTup, wiLst, wiRange, wSl, woNone, woSome, dSl, wNeg, dNeg, fLen, fAll, dEq, dNe, dLe, dLt, dGe, dGt, dAdd, dSub, dMod, dIx, dIn, dIsB, strsOf, boolsOf, DL.tyD_non, at_0, at_1, at_2, at_3, at_4, DL.isInt_non, DL.isStr_non, DL.isBl_non, DL.isTup_non, DL.isLst_non, DL.tyD_bl, DL.isInt_bl, DL.isStr_bl, DL.isBl_bl, DL.isTup_bl, DL.isLst_bl, DL.tyD_int, DL.isInt_int, DL.isStr_int, DL.isBl_int, DL.isTup_int, DL.isLst_int, DL.tyD_str, DL.isInt_str, DL.isStr_str, DL.isBl_str, DL.isTup_str, DL.isLst_str, DL.tyD_lst, DL.isInt_lst, DL.isStr_lst, DL.isBl_lst, DL.isTup_lst, DL.isLst_lst, DL.tyD_tup, DL.isInt_tup, DL.isStr_tup, DL.isBl_tup, DL.isTup_tup, DL.isLst_tup, pure1, pure2, pure3, Option.map_some,
  List.map_cons, List.map_nil, List.length_cons, List.length_nil, List.cons_append, List.nil_append, List.getElem?_cons_zero, List.getElem?_cons_succ, Option.some.injEq, exists_eq_left', exists_eq_left, exists_eq_right, exists_eq_right', D.bl.injEq, D.int.injEq, D.str.injEq, D.tup.injEq, D.lst.injEq, D.fn.injEq, D.sq.injEq, D.exn.injEq, List.cons.injEq, and_true, true_and, and_self, exists_and_left, exists_and_right, Option.isSome_some, List.set_cons_zero, List.set_cons_succ, if_true, Bool.false_eq_true, if_false, Bool.not_true, Bool.not_false, reduceCtorEq, List.replicate, Nat.reduceSub, Nat.reduceAdd])
section
variable {P : Program} {w : World} {K : PySem.W.Frag} {mg : Str → Option Value} {base : Heap}
/-- a procedure's rows -/
structure RowsG (rs : List D) : Prop where
  len : rs.length ≤ 12 ∧ 1 ≤ rs.length
  row : ∀ r ∈ rs, RowK r ∧ tgt r < (rs.length : Int)
  last : ∃ a fr, OpK a ∧ rs = fr ++ [.tup [.str "back", a]]
def toD (n : Str) (p : Pr) : D := .tup [.str n, .int p.1, .int p.2]
theorem asc_unique : ∀ {l m : List Int}, l.Pairwise (· < ·) → m.Pairwise (· < ·) → (∀ k, k ∈ l ↔ k ∈ m) → l = m
  | [], [], _, _, _ => rfl
  | [], b :: m, _, _, h => absurd ((h b).mpr List.mem_cons_self) (by simp)
  | a :: l, [], _, _, h => absurd ((h a).mp List.mem_cons_self) (by simp)
  | a :: l, b :: m, h1, h2, h => by
    obtain ⟨a1, a2⟩ := List.pairwise_cons.mp h1
    obtain ⟨b1, b2⟩ := List.pairwise_cons.mp h2
    have e : a = b := by
      rcases List.mem_cons.mp ((h a).mp List.mem_cons_self) with z | z
      · exact z
      · rcases List.mem_cons.mp ((h b).mpr List.mem_cons_self) with y | y
        · exact y.symm
        · have := b1 a z
          have := a1 b y
          omega
    subst e
    congr 1
    refine asc_unique a2 b2 fun k => ⟨fun z => ?_, fun z => ?_⟩
    · rcases List.mem_cons.mp ((h k).mp (List.mem_cons_of_mem _ z)) with y | y
      · have := a1 k z
        omega
      · exact y
    · rcases List.mem_cons.mp ((h k).mpr (List.mem_cons_of_mem _ z)) with y | y
      · have := b1 k z
        omega
      · exact y
theorem tgt_nat {r : D} (h : RowK r) : 0 ≤ tgt r := by
  cases h with
  | set a b c d => exact Int.le_refl _
  | copy a b => rcases b with ⟨y, rfl, _⟩ | ⟨n, _, rfl⟩ <;> exact Int.le_refl _
  | get a => exact Int.le_refl _
  | out b => rcases b with ⟨y, rfl, _⟩ | ⟨n, _, rfl⟩ <;> exact Int.le_refl _
  | back b => rcases b with ⟨y, rfl, _⟩ | ⟨n, _, rfl⟩ <;> exact Int.le_refl _
  | @cond a t b c => exact Int.natCast_nonneg t
  | @go t c => exact Int.natCast_nonneg t
  | call a b c d => exact Int.le_refl _
theorem begun_rng {n : Nat} : ∀ {rs : List D} {j : Nat}, (∀ r ∈ rs, RowK r ∧ tgt r < (n : Int)) → ∀ x ∈ begunL n j rs, 0 ≤ x ∧ x < n
  | [], _, _, x, h => by simp [begunL] at h
  | r :: rs, j, hr, x, h => by
    rcases List.mem_append.mp h with z | z
    · unfold contrib at z
      rcases List.mem_append.mp z with z | z
      · split at z
        · rw [List.mem_singleton.mp z]
          exact ⟨tgt_nat (hr r List.mem_cons_self).1, (hr r List.mem_cons_self).2⟩
        · cases z
      · split at z
        · rename_i c
          simp only [Bool.and_eq_true, decide_eq_true_eq] at c
          rw [List.mem_singleton.mp z]
          omega
        · cases z
    · exact begun_rng (fun r' h' => hr r' (List.mem_cons_of_mem _ h')) x z
theorem begN_asc (rs : List D) : ((begN rs).map fun (j : Nat) => (j : Int)).Pairwise (· < ·) := by
  rw [List.pairwise_map]
  refine ((List.pairwise_lt_range).filter _).imp fun h => by omega
theorem sort_beg {rs : List D} {P : List D → Prop} (g : RowsG rs) (h : P ((begN rs).map fun (j : Nat) => D.int j)) : SortI (0 :: begunL rs.length 0 rs) P := by
  intro ks asc mem
  have : ks = (begN rs).map fun (j : Nat) => (j : Int) := asc_unique asc (begN_asc rs) fun k => by
    rw [mem k]
    constructor
    · intro hk
      have r : 0 ≤ k ∧ k < rs.length := by
        rcases List.mem_cons.mp hk with e | e
        · have := g.len.2
          omega
        · exact begun_rng g.row k e
      obtain ⟨n, rfl⟩ := Int.eq_ofNat_of_zero_le r.1
      exact List.mem_map.mpr ⟨n, List.mem_filter.mpr ⟨List.mem_range.mpr (by omega), decide_eq_true hk⟩, rfl⟩
    · intro hk
      obtain ⟨n, hn, rfl⟩ := List.mem_map.mp hk
      exact of_decide_eq_true (List.mem_filter.mp hn).2
  rw [this, List.map_map]
  exact h
theorem row_word {r : D} (h : RowK r) : ∃ w r0, r = .tup (.str w :: r0) := by
  cases h <;> exact ⟨_, _, rfl⟩
theorem lastD_app : ∀ (xs : List D) (x : D), lastD (xs ++ [x]) = x
  | [], _ => rfl
  | [y], x => rfl
  | y :: z :: r, x => lastD_app (z :: r) x
theorem ok_stretches_within (T : Txt K mg) : FnOk P w K mg base CX0 3 T.d_stretches_within.f T.d_stretches_within.fd ["name", "rows"] (spFr (fun es P => ∃ n rs, es = [.str n, .tup rs] ∧ RowsG rs ∧ P ((strOf rs).map (toD n)))) :=
  fn_okF T.d_stretches_within.F sc_stretches_within (fun es P h => by first | (obtain ⟨_, rfl, _⟩ := h; rfl) | (obtain ⟨_, _, rfl, _⟩ := h; rfl) | (obtain ⟨_, _, _, rfl, _⟩ := h; rfl) | (obtain ⟨_, _, _, _, rfl, _⟩ := h; rfl)) (fun cdv A outer s H E hr => ⟨_,
    (sf_cons (E := fun _ _ _ => False) (ws_set (i := 2) sc_stretches_within.nd rfl (by first | exact .inl rfl | exact .inr rfl) (we_call (fr_ok (ok_ubeginnings T)) (hr.mono (by decide)) rfl T.d_ubeginnings.m T.d_ubeginnings.F.kp T.d_ubeginnings.b (wa_cons (we_var (pv 1)) wa_nil)))
      (sg_acc sc_stretches_within.nd rfl (by first | exact .inl rfl | exact .inr rfl) (fw_lst wa_nil)
      (hg_cons (E := fun _ _ _ => False) (hs_forEC (by decide) (by decide) PassesOwn.never rfl rfl T.n_enumerate (we_var (pv 1)) (pg_name (i := 4) sc_stretches_within.nd rfl (by first | exact .inl rfl | exact .inr rfl)) (pg_name (i := 5) sc_stretches_within.nd rfl (by first | exact .inl rfl | exact .inr rfl))
        (hss_cont (wt_not (wt_val (we_call (ok_is_plain T) (hr.mono (by decide)) rfl T.d_is_plain.m T.d_is_plain.F.kp T.d_is_plain.b (wa_cons (we_var (pv 5)) wa_nil))))
        (hss_one (hs_if (wt_cmp op_dInI (we_var (pv 4)) (we_var (pv 2)) (by with_unfolding_all rfl))
          (hss_one (hs_appendH (pv 3) (we_tup (wa_cons (we_var (pv 0)) (wa_cons (we_var (pv 4)) (wa_cons (we_var (pv 4)) wa_nil))))))
          (hss_one (hs_store (pv 3) (we_neg (we_c pe_int)) (we_tup (wa_cons (we_var (pv 0)) (wa_cons (we_ix (we_ix (we_var (pv 3)) (we_neg (we_c pe_int))) (we_c pe_int)) (wa_cons (we_var (pv 4)) wa_nil))))))))))
      (hg_ret (pv 3))))),
    fun es P h => by
      obtain ⟨n, rs, rfl, g, hp⟩ := h
      have lb : ∀ n : Nat, n ≤ 100000 → n ≤ sizeLine := fun n h => line_big h
      refine seqF_cut (fun ds => ds = [some (.str n), some (.tup rs), some (.lst ((begN rs).map fun (j : Nat) => D.int j)), none, none, none]) (fun N' hN => ?_) ?_
      · walk_at "red"
        exact ⟨g.len.1, fun r hr => (g.row r hr).1, sort_beg g (hN _ rfl)⟩
      rintro ds rfl
      refine accF_cut (fun dv => dv = []) (by simp) (fun Q hq => ?_) ?_
      · walk_at "red"
        exact ⟨lb _ (by omega), hq _ rfl⟩
      rintro dv rfl q
      refine seqHF_cut (fun ds dv => (∃ x4 x5, ds = [some (.str n), some (.tup rs), some (.lst ((begN rs).map fun (j : Nat) => D.int j)), some (.fn q), x4, x5]) ∧ dv = (strOf rs).map (toD n)) (fun N' hN => ?_) ?_
      · refine forEH_of rs (fun Q hq => ?_) (fun k ds dv => (∃ x4 x5, ds = [some (.str n), some (.tup rs), some (.lst ((begN rs).map fun (j : Nat) => D.int j)), some (.fn q), x4, x5]) ∧ dv = (strTo (begN rs) 0 (rs.take k) []).map (toD n)) ⟨⟨_, _, rfl⟩, by simp [strTo]⟩ ?_ ?_
        · walk_at "red"
          exact hq
        · rintro k ds dv hlt ⟨⟨x4, x5, rfl⟩, rfl⟩ N2 hN2
          have B := both_all rs k (by omega)
          have more := str_more (begN rs) rs 0 k [] hlt
          rw [Nat.zero_add] at more
          have fin : ∀ dv', dv' = (strStep (begN rs) (strTo (begN rs) 0 (rs.take k) []) k rs[k]).map (toD n) → N2 [some (.str n), some (.tup rs), some (.lst ((begN rs).map fun (j : Nat) => D.int j)), some (.fn q), some (.int k), some rs[k]] dv' := fun dv' e => hN2 _ _ ⟨⟨_, _, rfl⟩, by rw [e, more]⟩
          have kr := (g.row _ (List.getElem_mem hlt)).1
          have nb := not_beg (rs := rs) hlt
          have few : (strTo (begN rs) 0 (rs.take k) []).length ≤ 12 := by
            have := str_few (begN rs) (rs.take k) 0 []
            rw [List.length_take] at this
            have := g.len.1
            simp at *
            omega
          generalize strTo (begN rs) 0 (rs.take k) [] = s at B fin few
          generalize rs[k] = r at kr fin
          obtain ⟨w', r0, rfl⟩ := row_word kr
          have pr : plainR (.tup (.str w' :: r0)) = decide (w' ∈ (["set", "copy"] : List Str)) := rfl
          have ib : intsOf ((begN rs).map fun (j : Nat) => D.int j) = some ((begN rs).map fun (j : Nat) => (j : Int)) := by
            have := ints_map ((begN rs).map fun (j : Nat) => (j : Int))
            rw [List.map_map] at this
            exact this
          have mb : decide ((k : Int) ∈ (begN rs).map fun (j : Nat) => (j : Int)) = decide (k ∈ begN rs) := by
            by_cases e : k ∈ begN rs
            · rw [decide_eq_true e, decide_eq_true (List.mem_map.mpr ⟨k, e, rfl⟩)]
            · rw [decide_eq_false e, decide_eq_false fun z => by
                obtain ⟨j, hj, ej⟩ := List.mem_map.mp z
                exact e (by rw [show k = j by omega]; exact hj)]
          walk_at "red"
          cases e : decide (w' ∈ (["set", "copy"] : List Str)) with
          | false =>
            refine ifT rfl (fin _ ?_)
            unfold strStep
            rw [pr, e, if_neg (by decide)]
          | true =>
            refine ifF rfl ⟨_, ib, ?_⟩
            rw [mb]
            by_cases hb : k ∈ begN rs
            · refine ifT (decide_eq_true hb) ⟨lb _ (by omega), line_lt (by simp; omega), fin _ ?_⟩
              unfold strStep
              rw [pr, e, if_pos rfl, if_pos hb, List.map_append]
              rfl
            · refine ifF (decide_eq_false hb) ?_
              obtain ⟨pos, prev⟩ := nb hb
              have isS := B.fst.mpr ⟨pos, prev⟩
              have heq := B.eq
              generalize lotTo (begN rs) 0 (rs.take k) ([], none) = st at isS heq
              obtain ⟨acc, first⟩ := st
              cases first with
              | none => cases isS
              | some a =>
                have hs : s = acc ++ [(a, k - 1)] := heq
                have last : atI (s.map (toD n)) (-1) = some (toD n (a, k - 1)) := by
                  rw [at_last (by rw [hs]; simp), hs, List.map_append]
                  congr 1
                  exact lastD_app _ _
                refine ⟨_, last, _, at_1, lb _ (by omega), rfl, by rw [hs]; simp, fin _ ?_⟩
                unfold strStep
                rw [pr, e, if_pos rfl, if_neg hb, hs]
                have l : ((acc ++ [(a, k - 1)]).map (toD n)).length - 1 = acc.length := by simp
                have l2 : (acc ++ [(a, k - 1)]).length - 1 = acc.length := by simp
                rw [l, l2, List.map_append, List.set_append_right _ _ (by simp), List.getD_eq_getElem?_getD, List.getElem?_append_right (Nat.le_refl _), List.set_append_right _ _ (Nat.le_refl _)]
                simp [toD]
        · rintro ds dv ⟨hds, hdv⟩
          rw [List.take_length] at hdv
          exact hN _ _ ⟨hds, hdv⟩
      · rintro ds dv ⟨⟨x4, x5, rfl⟩, rfl⟩
        exact hp⟩)
/-- what is told of a program -/
structure ProgS (pl : List D) : Prop where
  len : pl.length ≤ 4
  proc : ∀ x ∈ pl, isProc x = true
  nd : (keysOf pl).Nodup
  rows : ∀ x ∈ pl, RowsG (rowsOf x)
  good : ∀ x ∈ pl, Good x
def lotsOf (pl : List D) : List D := pl.flatMap fun x => (strOf (rowsOf x)).map (toD (nameOf x))
theorem proc_name {x : D} (h : isProc x = true) : isName (.str (nameOf x)) = true := by
  obtain ⟨n, ps, rs, rfl⟩ := proc_shape h
  simp only [isProc, Bool.and_eq_true] at h
  exact h.1.1
omit [TabCtx] in
theorem val_at {x : D} : ∀ {xs : List D}, (keysOf xs).Nodup → x ∈ xs → valD (keysOf xs) xs (Sum.inr (nameOf x)) = some x
  | y :: ys, nd, hx => by
    obtain ⟨n1, n2⟩ := List.nodup_cons.mp (show (Sum.inr (nameOf y) :: keysOf ys).Nodup from nd)
    show (if Sum.inr (nameOf y) = (Sum.inr (nameOf x) : Key) then some y else valD (keysOf ys) ys (Sum.inr (nameOf x))) = some x
    rcases List.mem_cons.mp hx with rfl | hx
    · rw [if_pos rfl]
    · rw [if_neg, val_at n2 hx]
      intro e
      exact n1 (by rw [e]; exact List.mem_map.mpr ⟨x, hx, rfl⟩)
theorem lots_few : ∀ xs : List D, (∀ x ∈ xs, (rowsOf x).length ≤ 12) → (lotsOf xs).length ≤ xs.length * 12
  | [], _ => by simp [lotsOf]
  | x :: xs, h => by
    have ih := lots_few xs fun y hy => h y (List.mem_cons_of_mem _ hy)
    have h1 := str_few (begN (rowsOf x)) (rowsOf x) 0 []
    have h2 := h x List.mem_cons_self
    unfold lotsOf at ih ⊢
    rw [List.flatMap_cons, List.length_append, List.length_cons, Nat.succ_mul]
    have : ((strOf (rowsOf x)).map (toD (nameOf x))).length ≤ 12 := by
      rw [List.length_map]
      unfold strOf
      simp at h1
      omega
    omega
theorem ok_stretches (T : Txt K mg) : FnOk P w K mg base CX0 5 T.d_stretches.f T.d_stretches.fd ["program"] (spFr (fun es P => ∃ xs vs, es = [progD T xs vs] ∧ ProgS xs ∧ P (lotsOf xs))) :=
  fn_okF T.d_stretches.F sc_stretches (fun es P h => by first | (obtain ⟨_, rfl, _⟩ := h; rfl) | (obtain ⟨_, _, rfl, _⟩ := h; rfl) | (obtain ⟨_, _, _, rfl, _⟩ := h; rfl) | (obtain ⟨_, _, _, _, rfl, _⟩ := h; rfl)) (fun cdv A outer s H E hr => ⟨_,
    (sf_cons (E := fun _ _ _ => False) (ws_drop (we_callX (ok_need_program T) (hr.mono (by decide)) rfl T.d_need_program.m T.d_need_program.F.kp T.d_need_program.b (wa_cons (we_var (pv 0)) wa_nil)))
      (sg_acc sc_stretches.nd rfl (by first | exact .inl rfl | exact .inr rfl) (fw_lst wa_nil)
      (hg_cons (E := fun _ _ _ => False) (hs_for (j := 2) (by decide) PassesOwn.never rfl (wi_sq (we_meth0 (we_var (pv 0)) T.c_Program.ic.cl T.d_Program_names.meth (ok_Program_names T) (hr.mono (by decide)) T.d_Program_names.b)) (pg_name (i := 2) sc_stretches.nd rfl (by first | exact .inl rfl | exact .inr rfl))
        (hss_one (hs_extH (pv 1) (we_call (fr_ok (ok_stretches_within T)) (hr.mono (by decide)) rfl T.d_stretches_within.m T.d_stretches_within.F.kp T.d_stretches_within.b (wa_cons (we_var (pv 2)) (wa_cons (we_ix (we_meth (we_var (pv 0)) T.c_Program.ic.cl T.d_Program_procedure.meth (ok_Program_procedure T) (hr.mono (by decide)) T.d_Program_procedure.b (wa_cons (we_var (pv 2)) wa_nil)) (we_c pe_int)) wa_nil))))))
      (hg_ret (pv 1))))),
    fun es P h => by
      obtain ⟨xs, vs, rfl, g, hp⟩ := h
      have lb : ∀ n : Nat, n ≤ 100000 → n ≤ sizeLine := fun n h => line_big h
      refine seqF_cut (fun ds => ds = [some (progD T xs vs), none, none]) (fun N' hN => ?_) ?_
      · walk_at "red"
        exact ⟨⟨_, _, rfl⟩, hN _ rfl⟩
      rintro ds rfl
      refine accF_cut (fun dv => dv = []) (by simp) (fun Q hq => ?_) ?_
      · walk_at "red"
        exact ⟨lb _ (by omega), hq _ rfl⟩
      rintro dv rfl q
      refine seqHF_cut (fun ds dv => (∃ x2, ds = [some (progD T xs vs), some (.fn q), x2]) ∧ dv = lotsOf xs) (fun N' hN => ?_) ?_
      · refine forH_of (xs.map fun x => .str (nameOf x)) (fun Q hq => ?_) (fun k ds dv => (∃ x2, ds = [some (progD T xs vs), some (.fn q), x2]) ∧ dv = lotsOf (xs.take k)) ⟨⟨_, rfl⟩, by simp [lotsOf]⟩ (fun k ds dv h => by obtain ⟨⟨x2, rfl⟩, _⟩ := h; simp) ?_ ?_
        · walk_at "red"
          exact ⟨_, ⟨_, rfl⟩, by decide, xs, ⟨vs, rfl⟩, g.proc, g.len, hq⟩
        · rintro k ds dv hlt ⟨⟨x2, rfl⟩, rfl⟩ N2 hN2
          have hk : k < xs.length := by simpa using hlt
          have ek : (xs.map fun x => D.str (nameOf x))[k] = .str (nameOf xs[k]) := by simp
          rw [ek]
          have hm := List.getElem_mem hk
          have hv := val_at g.nd hm
          have gr := g.rows _ hm
          have gn := proc_name (g.proc _ hm)
          have fin : N2 [some (progD T xs vs), some (.fn q), some (.str (nameOf xs[k]))] (lotsOf (xs.take k) ++ (strOf (rowsOf xs[k])).map (toD (nameOf xs[k]))) := hN2 _ _ ⟨⟨_, rfl⟩, by
            unfold lotsOf
            rw [List.take_succ, List.getElem?_eq_getElem hk, List.flatMap_append]
            simp⟩
          have few : (lotsOf (xs.take k)).length ≤ 48 := by
            have : (xs.take k).length ≤ 4 := by rw [List.length_take]; have := g.len; omega
            refine Nat.le_trans (lots_few (xs.take k) fun x hx => ?_) (by omega)
            exact (g.rows x (List.mem_of_mem_take hx)).len.1
          have few2 : (strOf (rowsOf xs[k])).length ≤ 12 := Nat.le_trans (str_few _ _ _ _) (by have := gr.len.1; simp; omega)
          have gd := name_gd (n := 8) gn
          generalize hx : xs[k] = x at *
          obtain ⟨n, ps, rs, rfl, _⟩ := proc_rows (g.proc _ hm)
          generalize lotsOf (xs.take k) = done at *
          walk_at "red"
          have pv : procOf xs (.str n) = some (.tup [.str n, .tup ps, .tup rs]) := by
            simp only [procOf]
            rw [if_pos (show isName (.str n) = true from gn)]
            exact hv
          refine ⟨_, ⟨_, rfl⟩, by decide, xs, vs, .str n, ⟨rfl, rfl⟩, gd, ?_⟩
          rw [pv]
          exact ⟨_, at_2, n, rs, ⟨rfl, rfl⟩, gr, lb _ (by simp; exact Nat.le_trans (Nat.add_le_add few few2) (by decide)), fin⟩
        · rintro ds dv ⟨hds, hdv⟩
          rw [List.length_map, List.take_length] at hdv
          exact hN _ _ ⟨hds, hdv⟩
      · rintro ds dv ⟨⟨x2, rfl⟩, rfl⟩
        exact hp⟩)
end
end K07

set_option maxHeartbeats 2000000
namespace K07
open PySem PySem.Spec PyProof.Rows L2 DL
variable [TabCtx]
local macro_rules | `(tactic| walk_at "red") => `(tactic| simp only [gRetG, gSeqHF, dInI, dNotIn, fIsC2, gFor3, gForH3, gStoreH, fwSortSet, wzMeth, wFell, fwCat, gForELH, wDGet2, fDict, dRepT, gSeqF, gSeqHF, gDoneF, gAccF, fwIf, gParAcc, gForHS, dRep, wDNIn, wD0, gClearH, fIsC, dNeI, DL.tyD_dct, DL.isInt_dct, DL.isStr_dct, DL.isBl_dct, DL.isTup_dct, DL.isLst_dct, wSortC, gExtH, fwList, wiSeq, seqOf_lst, seqOf_tup, wiAny, wzE, wzOpL, wzIf, gzRet, gzSet, gzDrop, gPar, wLcZ, wiZip, wTupRg3, wiRg3, fMin, fAbs, fMaxL, fMinL, gUn2, gUn3, gUn2L, gFor2L, wLcI, wLam3, gSrc, or_false, false_or, exists_false, false_and, and_false, wDc3, gAcc, gSeqH, gForEH, gForE, gForH, gIfH, gLift, gNextH, gAppendH, gAppend, gDone, gSetH, DL.seen, dIsN, dNotN, wDc, wFld, wMeth, wDIn, wDIx, wDGetN, wNew, wzNew, wLcI, gField, gCL, fLenQ, dIxQ, wNeK, wIndex, gTryRet, gTryDrop, wzCall, wzCallL, wTold, fIsE, fRepr, wJoin, wDGet, wVals, dPow, wSrc, gSrcSet, dMulS, dFdivS, fInt, fMax, fTuple, fList, startD, gNext, gSeq, gRet, gSet, gIf, gDrop, gRaise, gFor, wVar, wC, wOp, wTest, wChain, wAnd, wOr, wNot, wtAnd, wtOr, wtNot, wIf, waNil, waCons, wTup, wLst, wCall, quiet, wIsi, wInK, wLc, wiStr, wiTup, wiLst, wiRange, wSl, woNone, woSome, dSl, wNeg, dNeg, fLen, fAll, dEq, dNe, dLe, dLt, dGe, dGt, dAdd, dSub, dMod, dIx, dIn, dIsB, strsOf, boolsOf, DL.tyD_non, at_0, at_1, at_2, at_3, at_4, DL.isInt_non, DL.isStr_non, DL.isBl_non, DL.isTup_non, DL.isLst_non, DL.tyD_bl, DL.isInt_bl, DL.isStr_bl, DL.isBl_bl, DL.isTup_bl, DL.isLst_bl, DL.tyD_int, DL.isInt_int, DL.isStr_int, DL.isBl_int, DL.isTup_int, DL.isLst_int, DL.tyD_str, DL.isInt_str, DL.isStr_str, DL.isBl_str, DL.isTup_str, DL.isLst_str, DL.tyD_lst, DL.isInt_lst, DL.isStr_lst, DL.isBl_lst, DL.isTup_lst, DL.isLst_lst, DL.tyD_tup, DL.isInt_tup, DL.isStr_tup, DL.isBl_tup, DL.isTup_tup, DL.isLst_tup, pure1, pure2, pure3, Option.map_some,
  List.map_cons, List.map_nil, List.length_cons, List.length_nil, List.cons_append, List.nil_append, List.getElem?_cons_zero, List.getElem?_cons_succ, Option.some.injEq, exists_eq_left', exists_eq_left, exists_eq_right, exists_eq_right', D.bl.injEq, D.int.injEq, D.str.injEq, D.tup.injEq, D.lst.injEq, D.fn.injEq, D.sq.injEq, D.exn.injEq, List.cons.injEq, and_true, true_and, and_self, exists_and_left, exists_and_right, Option.isSome_some, List.set_cons_zero, List.set_cons_succ, if_true, Bool.false_eq_true, if_false, Bool.not_true, Bool.not_false, reduceCtorEq, List.replicate, Nat.reduceSub, Nat.reduceAdd])
section
variable {P : Program} {w : World} {K : PySem.W.Frag} {mg : Str → Option Value} {base : Heap}
theorem ok_beginnings (T : Txt K mg) : FnOk P w K mg base CX0 6 T.d_beginnings.f T.d_beginnings.fd ["program", "procedure"] (spFr (fun es P => ∃ xs vs n x, es = [progD T xs vs, .str n] ∧ procOf xs (.str n) = some x ∧ isProc x = true ∧ RowsG (rowsOf x) ∧ Good (.str n) ∧ P ((begN (rowsOf x)).map fun (j : Nat) => D.int j))) :=
  fn_okF T.d_beginnings.F sc_beginnings (fun es P h => by first | (obtain ⟨_, rfl, _⟩ := h; rfl) | (obtain ⟨_, _, rfl, _⟩ := h; rfl) | (obtain ⟨_, _, _, rfl, _⟩ := h; rfl) | (obtain ⟨_, _, _, _, rfl, _⟩ := h; rfl)) (fun cdv A outer s H E hr => ⟨_,
    (sf_cons (E := fun _ _ _ => False) (ws_drop (we_callX (ok_need_procedure T) (hr.mono (by decide)) rfl T.d_need_procedure.m T.d_need_procedure.F.kp T.d_need_procedure.b (wa_cons (we_var (pv 0)) (wa_cons (we_var (pv 1)) wa_nil))))
      (sf_ret (fw_call (ok_ubeginnings T) (hr.mono (by decide)) rfl T.d_ubeginnings.m T.d_ubeginnings.F.kp T.d_ubeginnings.b (wa_cons (we_ix (we_meth (we_var (pv 0)) T.c_Program.ic.cl T.d_Program_procedure.meth (ok_Program_procedure T) (hr.mono (by decide)) T.d_Program_procedure.b (wa_cons (we_var (pv 1)) wa_nil)) (we_c pe_int)) wa_nil)))),
    fun es P h => by
      obtain ⟨xs, vs, n, x, rfl, hx, hpr, g, gn, hp⟩ := h
      obtain ⟨n', ps, rs, rfl, _⟩ := proc_rows hpr
      walk_at "red"
      refine ⟨_, _, ⟨rfl, rfl⟩, xs, ⟨_, rfl⟩, gn, ?_⟩
      rw [hx]
      refine ⟨_, ⟨_, rfl⟩, by decide, xs, vs, _, ⟨rfl, rfl⟩, gn, ?_⟩
      rw [hx]
      exact ⟨_, at_2, rs, rfl, g.len.1, fun r hr => (g.row r hr).1, sort_beg g hp⟩⟩)
theorem ok_beginningsZ (T : Txt K mg) : FnOk P w K mg base (L2.CX P w) 6 T.d_beginnings.f T.d_beginnings.fd ["program", "procedure"] (spD (fun es P Z => ∃ d e, es = [d, e] ∧ (((tyD d).isSome = true ∧ Z T.x_NoProgram.C d) ∨ ∃ xs vs, d = progD T xs vs ∧ Good e ∧ procOf xs e = none ∧ Z T.x_NoProcedure.C e))) :=
  fn_okX T.d_beginnings.F sc_beginnings (fun es P Z h => by first | (obtain ⟨_, rfl, _⟩ := h; rfl) | (obtain ⟨_, _, rfl, _⟩ := h; rfl) | (obtain ⟨_, _, _, rfl, _⟩ := h; rfl) | (obtain ⟨_, _, _, _, rfl, _⟩ := h; rfl)) (fun cdv A outer s H E hr => ⟨_,
    (wss_cons (ws_zdrop (we_zcall (ok_need_procedure T) (hr.mono (by decide)) (takes_of rfl rfl rfl rfl) rfl T.d_need_procedure.m T.d_need_procedure.F.kp T.d_need_procedure.b (wa_cons (we_var (pv 0)) (wa_cons (we_var (pv 1)) wa_nil))))
      (wss_one (ws_ret (we_call (fr_ok (ok_ubeginnings T)) (hr.mono (by decide)) rfl T.d_ubeginnings.m T.d_ubeginnings.F.kp T.d_ubeginnings.b (wa_cons (we_ix (we_meth (we_var (pv 0)) T.c_Program.ic.cl T.d_Program_procedure.meth (ok_Program_procedure T) (hr.mono (by decide)) T.d_Program_procedure.b (wa_cons (we_var (pv 1)) wa_nil)) (we_c pe_int)) wa_nil))))),
    fun es P Z h => by
      obtain ⟨d, e, rfl, hp⟩ := h
      walk_at "red"
      refine ⟨d, e, ⟨rfl, rfl⟩, ?_⟩
      rcases hp with h | ⟨xs, vs, rfl, ge, hn, hz⟩
      · exact .inl h
      · refine .inr ⟨xs, ⟨_, rfl⟩, ge, ?_⟩
        rw [hn]
        exact hz⟩)
theorem ok_stretchesZ (T : Txt K mg) : FnOk P w K mg base (L2.CX P w) 5 T.d_stretches.f T.d_stretches.fd ["program"] (spD (fun es P Z => ∃ d, es = [d] ∧ (tyD d).isSome = true ∧ Z T.x_NoProgram.C d)) :=
  fn_okX T.d_stretches.F sc_stretches (fun es P Z h => by first | (obtain ⟨_, rfl, _⟩ := h; rfl) | (obtain ⟨_, _, rfl, _⟩ := h; rfl) | (obtain ⟨_, _, _, rfl, _⟩ := h; rfl) | (obtain ⟨_, _, _, _, rfl, _⟩ := h; rfl)) (fun cdv A outer s H E hr => ⟨_,
    (wss_cons (ws_zdrop (we_zcall (ok_need_program T) (hr.mono (by decide)) (takes_of rfl rfl rfl rfl) rfl T.d_need_program.m T.d_need_program.F.kp T.d_need_program.b (wa_cons (we_var (pv 0)) wa_nil)))
      (wss_acc sc_stretches.nd rfl (by first | exact .inl rfl | exact .inr rfl) (fw_lst wa_nil)
      (hss_cons (hs_for (j := 2) (by decide) (passes_of rfl) rfl (wi_sq (we_meth0 (we_var (pv 0)) T.c_Program.ic.cl T.d_Program_names.meth (ok_Program_names T) (hr.mono (by decide)) T.d_Program_names.b)) (pg_name (i := 2) sc_stretches.nd rfl (by first | exact .inl rfl | exact .inr rfl))
        (hss_one (hs_extH (pv 1) (we_call (fr_ok (ok_stretches_within T)) (hr.mono (by decide)) rfl T.d_stretches_within.m T.d_stretches_within.F.kp T.d_stretches_within.b (wa_cons (we_var (pv 2)) (wa_cons (we_ix (we_meth (we_var (pv 0)) T.c_Program.ic.cl T.d_Program_procedure.meth (ok_Program_procedure T) (hr.mono (by decide)) T.d_Program_procedure.b (wa_cons (we_var (pv 2)) wa_nil)) (we_c pe_int)) wa_nil))))))
      (hss_done (wss_one (ws_ret (we_var (pv 1)))))))),
    fun es P Z h => by
      obtain ⟨d, rfl, ht, hp⟩ := h
      walk_at "red"
      exact .inl ⟨ht, hp⟩⟩)
def strAt (n : Str) (rs : List D) (i : Nat) : D := match (strOf rs).filter (cont i) with
  | p :: _ => toD n p
  | [] => .non
theorem ok_stretch_of (T : Txt K mg) : FnOk P w K mg base (L2.CX P w) 6 T.d_stretch_of.f T.d_stretch_of.fd ["program", "spot"] (spD (fun es P Z => ∃ d e, es = [d, e] ∧ (((tyD d).isSome = true ∧ Z T.x_NoProgram.C d) ∨ ∃ xs vs, d = progD T xs vs ∧ Good e ∧ ProgS xs ∧ ((hasSpot xs e = false ∧ Z T.x_NoSpot.C e) ∨ ∃ (n : Str) (i : Nat) (x : D), e = .tup [.str n, .int i] ∧ procOf xs (.str n) = some x ∧ i < (rowsOf x).length ∧ P (strAt n (rowsOf x) i))))) :=
  fn_okX T.d_stretch_of.F sc_stretch_of (fun es P Z h => by first | (obtain ⟨rfl, _⟩ := h; rfl) | exact pure1_len h | exact pure2_len h | exact pure3_len h | (obtain ⟨_, rfl, _⟩ := h; rfl) | (obtain ⟨_, _, rfl, _⟩ := h; rfl) | (obtain ⟨_, _, _, rfl, _⟩ := h; rfl) | (obtain ⟨_, _, _, _, rfl, _⟩ := h; rfl) | (obtain ⟨rfl, _⟩ := h; rfl)) (fun cdv A outer s H E hr => ⟨_,
    (wss_cons (ws_zdrop (we_zcall (ok_need_spot T) (hr.mono (by decide)) (takes_of rfl rfl rfl rfl) rfl T.d_need_spot.m T.d_need_spot.F.kp T.d_need_spot.b (wa_cons (we_var (pv 0)) (wa_cons (we_var (pv 1)) wa_nil))))
      (wss_cons (ws_for (x := "") (passes_of rfl) rfl (wi_sq (we_call (fr_ok (ok_stretches_within T)) (hr.mono (by decide)) rfl T.d_stretches_within.m T.d_stretches_within.F.kp T.d_stretches_within.b (wa_cons (we_ix (we_var (pv 1)) (we_c pe_int)) (wa_cons (we_ix (we_meth (we_var (pv 0)) T.c_Program.ic.cl T.d_Program_procedure.meth (ok_Program_procedure T) (hr.mono (by decide)) T.d_Program_procedure.b (wa_cons (we_ix (we_var (pv 1)) (we_c pe_int)) wa_nil)) (we_c pe_int)) wa_nil)))) (pg_name (i := 2) sc_stretch_of.nd rfl (by first | exact .inl rfl | exact .inr rfl))
        (wss_one (ws_if (wt_chain op_dLe op_dLe (we_ix (we_var (pv 2)) (we_c pe_int)) (we_ix (we_var (pv 1)) (we_c pe_int)) (we_ix (we_var (pv 2)) (we_c pe_int)))
          (wss_one (ws_ret (we_var (pv 2))))
          wss_nil)))
      (wss_one (ws_ret (we_c pe_non))))),
    fun es P Z h => by
      obtain ⟨d, e, rfl, hp⟩ := h
      refine seqW_cut (fun ds => ∃ (xs vs : List D) (n : Str) (i : Nat) (x : D), d = progD T xs vs ∧ e = .tup [.str n, .int i] ∧ Good e ∧ ProgS xs ∧ procOf xs (.str n) = some x ∧ i < (rowsOf x).length ∧ P (strAt n (rowsOf x) i) ∧ ds = [some d, some e, none]) (fun N' hN => ?_) ?_
      · walk_at "red"
        refine ⟨d, e, ⟨rfl, rfl⟩, ?_⟩
        rcases hp with h | ⟨xs, vs, rfl, ge, g, hp⟩
        · exact .inl h
        · refine .inr ⟨xs, ⟨_, rfl⟩, ge, g.proc, fun x hx => (g.rows x hx).len.1, ?_⟩
          rcases hp with ⟨hs, hz⟩ | ⟨n, i, x, rfl, hx, hi, hp⟩
          · exact ifF hs hz
          · refine ifT ?_ (hN _ ⟨xs, vs, n, i, x, rfl, rfl, ge, g, hx, hi, hp, rfl⟩)
            simp only [hasSpot, hx]
            simp only [isWithin, isNum, Bool.and_eq_true, decide_eq_true_eq]
            omega
      rintro ds ⟨xs, vs, n, i, x, rfl, rfl, ge, g, hx, hi, hp, rfl⟩
      have hn : isName (.str n) = true ∧ valD (keysOf xs) xs (Sum.inr n) = some x := by
        simp only [procOf] at hx
        split at hx
        · rename_i c
          exact ⟨c, hx⟩
        · cases hx
      have hm := val_mem hn.2
      have gr := g.rows x hm
      obtain ⟨n', ps, rs, rfl, _⟩ := proc_rows (g.proc x hm)
      have gn : Good (.str n) := name_gd hn.1
      refine seqW_cut (fun ds => (∃ x2, ds = [some (progD T xs vs), some (.tup [.str n, .int i]), x2]) ∧ (strOf rs).filter (cont i) = []) (fun N' hN => ?_) ?_
      · refine for_of ((strOf rs).map (toD n)) (fun Q hq => ?_) (fun k ds => (∃ x2, ds = [some (progD T xs vs), some (.tup [.str n, .int i]), x2]) ∧ ((strOf rs).take k).filter (cont i) = []) ⟨⟨_, rfl⟩, by simp⟩ ?_ ?_
        · walk_at "red"
          refine ⟨_, ⟨_, rfl⟩, by decide, xs, vs, .str n, ⟨rfl, rfl⟩, gn, ?_⟩
          rw [hx]
          exact ⟨_, at_2, n, rs, ⟨rfl, rfl⟩, gr, hq⟩
        · rintro k ds hk ⟨⟨x2, rfl⟩, hf⟩ N2 hN2
          have hk' : k < (strOf rs).length := by simpa using hk
          have ek : ((strOf rs).map (toD n))[k] = toD n (strOf rs)[k] := by simp
          rw [ek]
          have split : (strOf rs).take (k + 1) = (strOf rs).take k ++ [(strOf rs)[k]] := by rw [List.take_succ, List.getElem?_eq_getElem hk']; rfl
          have yes : cont i (strOf rs)[k] = true → P (toD n (strOf rs)[k]) := fun c => by
            have e : (strOf rs).filter (cont i) = (strOf rs)[k] :: ((strOf rs).drop (k + 1)).filter (cont i) := by
              conv => lhs; rw [← List.take_append_drop k (strOf rs), List.filter_append, hf, List.drop_eq_getElem_cons hk', List.filter_cons_of_pos c]
              rfl
            have : strAt n rs i = toD n (strOf rs)[k] := by unfold strAt; rw [e]
            rw [← this]
            exact hp
          have no : cont i (strOf rs)[k] = false → ∀ x2, N2 [some (progD T xs vs), some (.tup [.str n, .int i]), x2] := fun c x2 => hN2 _ ⟨⟨_, rfl⟩, by
            rw [split, List.filter_append, hf, List.filter_cons_of_neg (by rw [c]; decide)]
            rfl⟩
          generalize (strOf rs)[k] = p at yes no
          unfold toD
          walk_at "red"
          by_cases h1 : p.1 ≤ i
          · refine ifT (decide_eq_true (by omega)) ?_
            by_cases h2 : i ≤ p.2
            · exact ifT (decide_eq_true (by omega)) (yes (by unfold cont; rw [decide_eq_true h1, decide_eq_true h2]; rfl))
            · exact ifF (decide_eq_false (by omega)) (no (by unfold cont; rw [decide_eq_false h2, Bool.and_false]) _)
          · exact ifF (decide_eq_false (by omega)) (no (by unfold cont; rw [decide_eq_false h1, Bool.false_and]) _)
        · rintro ds ⟨hds, hf⟩
          rw [List.length_map, List.take_length] at hf
          exact hN _ ⟨hds, hf⟩
      · rintro ds ⟨⟨x2, rfl⟩, hf⟩
        have : strAt n rs i = .non := by unfold strAt; rw [hf]
        have hp' : P (strAt n rs i) := hp
        rw [this] at hp'
        walk_at "red"
        exact hp'⟩)
end
end K07

set_option maxHeartbeats 2000000
namespace K07
open PySem PySem.Spec PyProof.Rows L2 DL
variable [TabCtx]
local macro_rules | `(tactic| walk_at "red") => `(tactic| simp only [gRetG, gSeqHF, dInI, dNotIn, fIsC2, gFor3, gForH3, gStoreH, fwSortSet, wzMeth, wFell, fwCat, gForELH, wDGet2, fDict, dRepT, gSeqF, gSeqHF, gDoneF, gAccF, fwIf, gParAcc, gForHS, dRep, wDNIn, wD0, gClearH, fIsC, dNeI, DL.tyD_dct, DL.isInt_dct, DL.isStr_dct, DL.isBl_dct, DL.isTup_dct, DL.isLst_dct, wSortC, gExtH, fwList, wiSeq, seqOf_lst, seqOf_tup, wiAny, wzE, wzOpL, wzIf, gzRet, gzSet, gzDrop, gPar, wLcZ, wiZip, wTupRg3, wiRg3, fMin, fAbs, fMaxL, fMinL, gUn2, gUn3, gUn2L, gFor2L, wLcI, wLam3, gSrc, or_false, false_or, exists_false, false_and, and_false, wDc3, gAcc, gSeqH, gForEH, gForE, gForH, gIfH, gLift, gNextH, gAppendH, gAppend, gDone, gSetH, DL.seen, dIsN, dNotN, wDc, wFld, wMeth, wDIn, wDIx, wDGetN, wNew, wzNew, wLcI, gField, gCL, fLenQ, dIxQ, wNeK, wIndex, gTryRet, gTryDrop, wzCall, wzCallL, wTold, fIsE, fRepr, wJoin, wDGet, wVals, dPow, wSrc, gSrcSet, dMulS, dFdivS, fInt, fMax, fTuple, fList, startD, gNext, gSeq, gRet, gSet, gIf, gDrop, gRaise, gFor, wVar, wC, wOp, wTest, wChain, wAnd, wOr, wNot, wtAnd, wtOr, wtNot, wIf, waNil, waCons, wTup, wLst, wCall, quiet, wIsi, wInK, wLc, wiStr, wiTup, wiLst, wiRange, wSl, woNone, woSome, dSl, wNeg, dNeg, fLen, fAll, dEq, dNe, dLe, dLt, dGe, dGt, dAdd, dSub, dMod, dIx, dIn, dIsB, strsOf, boolsOf, DL.tyD_non, at_0, at_1, at_2, at_3, at_4, DL.isInt_non, DL.isStr_non, DL.isBl_non, DL.isTup_non, DL.isLst_non, DL.tyD_bl, DL.isInt_bl, DL.isStr_bl, DL.isBl_bl, DL.isTup_bl, DL.isLst_bl, DL.tyD_int, DL.isInt_int, DL.isStr_int, DL.isBl_int, DL.isTup_int, DL.isLst_int, DL.tyD_str, DL.isInt_str, DL.isStr_str, DL.isBl_str, DL.isTup_str, DL.isLst_str, DL.tyD_lst, DL.isInt_lst, DL.isStr_lst, DL.isBl_lst, DL.isTup_lst, DL.isLst_lst, DL.tyD_tup, DL.isInt_tup, DL.isStr_tup, DL.isBl_tup, DL.isTup_tup, DL.isLst_tup, pure1, pure2, pure3, Option.map_some,
  List.map_cons, List.map_nil, List.length_cons, List.length_nil, List.cons_append, List.nil_append, List.getElem?_cons_zero, List.getElem?_cons_succ, Option.some.injEq, exists_eq_left', exists_eq_left, exists_eq_right, exists_eq_right', D.bl.injEq, D.int.injEq, D.str.injEq, D.tup.injEq, D.lst.injEq, D.fn.injEq, D.sq.injEq, D.exn.injEq, List.cons.injEq, and_true, true_and, and_self, exists_and_left, exists_and_right, Option.isSome_some, List.set_cons_zero, List.set_cons_succ, if_true, Bool.false_eq_true, if_false, Bool.not_true, Bool.not_false, reduceCtorEq, List.replicate, Nat.reduceSub, Nat.reduceAdd])
section
variable {P : Program} {w : World} {K : PySem.W.Frag} {mg : Str → Option Value} {base : Heap}
/-- the law's programs -/
def PartsG (pl : List D) : Prop := pl.length ≤ 4 ∧ ∀ x ∈ pl, ∃ (n : Str) (ps rs : List D), x = .tup [.str n, .tup ps, .tup rs] ∧ RowsG rs ∧ isName (.str n) = true
def optD : Option Nat → D
  | some a => .int a
  | none => .non
theorem ok_llots (T : Txt K mg) : FnOk P w K mg base CX0 2 T.d_llots.f T.d_llots.fd ["_law_pl"] (spD fun es P _ => (fun es P => ∃ pl, es = [.lst pl] ∧ PartsG pl ∧ P (.lst (lotsOf pl))) es P) :=
  fn_ok T.d_llots.F sc_llots (fun es P h => by first | (obtain ⟨rfl, _⟩ := h; rfl) | exact pure1_len h | exact pure2_len h | exact pure3_len h | (obtain ⟨_, rfl, _⟩ := h; rfl) | (obtain ⟨_, _, rfl, _⟩ := h; rfl) | (obtain ⟨_, _, _, rfl, _⟩ := h; rfl) | (obtain ⟨_, _, _, _, rfl, _⟩ := h; rfl) | (obtain ⟨rfl, _⟩ := h; rfl)) (fun cdv A outer s H E hr => ⟨_,
    (wss_acc sc_llots.nd rfl (by first | exact .inl rfl | exact .inr rfl) (fw_lst wa_nil)
      (hss_cons (hs_for3 (by decide) (by decide) (by decide) PassesOwn.never rfl (wi_sq (we_var (pv 0))) (pg_name (i := 2) sc_llots.nd rfl (by first | exact .inl rfl | exact .inr rfl)) (pg_name (i := 3) sc_llots.nd rfl (by first | exact .inl rfl | exact .inr rfl)) (pg_name (i := 4) sc_llots.nd rfl (by first | exact .inl rfl | exact .inr rfl))
        (hss_cons (hs_lift (ws_par (hw := by first | rfl | with_unfolding_all rfl) (i := 5) (j := 6) rfl sc_llots.nd rfl rfl (by decide) rfl rfl (wa_cons (we_c pe_non) (wa_cons (we_call (ok_lbegun T) (hr.mono (by decide)) rfl T.d_lbegun.m T.d_lbegun.F.kp T.d_lbegun.b (wa_cons (we_var (pv 4)) wa_nil)) wa_nil))))
        (hss_one (hs_forE (by decide) (by decide) PassesOwn.never rfl rfl T.n_enumerate (we_var (pv 4)) (pg_name (i := 7) sc_llots.nd rfl (by first | exact .inl rfl | exact .inr rfl)) (pg_name (i := 8) sc_llots.nd rfl (by first | exact .inl rfl | exact .inr rfl))
          (hss_cons (hs_if (PW.pt (ww_and (wt_cmp op_dNotN (we_var (pv 5)) (we_c pe_non) (nomark _)) (pw_and1 (PW.pt (ww_or (wt_cmp op_dNotIn (we_ix (we_var (pv 8)) (we_c pe_int)) (we_lst (wa_cons (we_c pe_str) (wa_cons (we_c pe_str) wa_nil))) (by with_unfolding_all rfl)) (pw_or1 (wt_cmp op_dInI (we_var (pv 7)) (we_var (pv 6)) (by with_unfolding_all rfl))))))))
            (hss_cons (hs_appendH (pv 1) (we_tup (wa_cons (we_var (pv 2)) (wa_cons (we_var (pv 5)) (wa_cons (we_op op_dSub (we_var (pv 7)) (we_c pe_int)) wa_nil)))))
            (hss_one (hs_lift (ws_set (i := 5) sc_llots.nd rfl (by first | exact .inl rfl | exact .inr rfl) (we_c pe_non)))))
            hss_nil)
          (hss_one (hs_lift (ws_if (PW.pt (ww_and (wt_cmp op_dIsN (we_var (pv 5)) (we_c pe_non) (nomark _)) (pw_and1 (wt_cmp op_dIn (we_ix (we_var (pv 8)) (we_c pe_int)) (we_lst (wa_cons (we_c pe_str) (wa_cons (we_c pe_str) wa_nil))) (by with_unfolding_all rfl)))))
            (wss_one (ws_set (i := 5) sc_llots.nd rfl (by first | exact .inl rfl | exact .inr rfl) (we_var (pv 7))))
            wss_nil))))))))
      (hss_done (wss_one (ws_ret (we_var (pv 1))))))),
    fun es P h => by
      obtain ⟨pl, rfl, ⟨l4, g⟩, hp⟩ := h
      have lb : ∀ n : Nat, n ≤ 100000 → n ≤ sizeLine := fun n h => line_big h
      refine acc_cut (fun dv => dv = []) (by simp [startD]) (fun Q hq => ?_) ?_
      · walk_at "red"
        exact ⟨lb _ (by omega), hq _ rfl⟩
      rintro dv rfl q
      refine seqH_cut (fun ds dv => (∃ x2 x3 x4 x5 x6 x7 x8, ds = [some (.lst pl), some (.fn q), x2, x3, x4, x5, x6, x7, x8]) ∧ dv = lotsOf pl) (fun N' hN => ?_) ?_
      · refine forH3_of pl (fun Q hq => ?_) (fun k ds dv => (∃ x2 x3 x4 x5 x6 x7 x8, ds = [some (.lst pl), some (.fn q), x2, x3, x4, x5, x6, x7, x8]) ∧ dv = lotsOf (pl.take k)) ⟨⟨_, _, _, _, _, _, _, rfl⟩, by simp [lotsOf]⟩ ?_ ?_
        · walk_at "red"
          exact hq
        · rintro k ds dv hk ⟨⟨x2, x3, x4, x5, x6, x7, x8, rfl⟩, rfl⟩ N2 hN2
          have hm := List.getElem_mem hk
          obtain ⟨n, ps, rs, ex, gr, gn⟩ := g _ hm
          refine ⟨_, _, _, ex, ?_⟩
          have fin : ∀ x5 x6 x7 x8, N2 [some (.lst pl), some (.fn q), some (.str n), some (.tup ps), some (.tup rs), x5, x6, x7, x8] (lotsOf (pl.take k) ++ (strOf rs).map (toD n)) := fun x5 x6 x7 x8 => hN2 _ _ ⟨⟨_, _, _, _, _, _, _, rfl⟩, by
            unfold lotsOf
            rw [List.take_succ, List.getElem?_eq_getElem hk, List.flatMap_append, ex]
            simp [rowsOf, nameOf]⟩
          have few : (lotsOf (pl.take k)).length ≤ 48 := by
            have : (pl.take k).length ≤ 4 := by rw [List.length_take]; omega
            refine Nat.le_trans (lots_few (pl.take k) fun x hx => ?_) (by omega)
            obtain ⟨n, ps, rs, rfl, gr, _⟩ := g x (List.mem_of_mem_take hx)
            exact gr.len.1
          generalize lotsOf (pl.take k) = done at *
          have ib : intsOf ((begN rs).map fun (j : Nat) => D.int j) = some ((begN rs).map fun (j : Nat) => (j : Int)) := by
            have := ints_map ((begN rs).map fun (j : Nat) => (j : Int))
            rw [List.map_map] at this
            exact this
          refine seqH_cut (fun ds dv => (∃ x7 x8, ds = [some (.lst pl), some (.fn q), some (.str n), some (.tup ps), some (.tup rs), some .non, some (.lst ((begN rs).map fun (j : Nat) => D.int j)), x7, x8]) ∧ dv = done) (fun N3 hN3 => ?_) ?_
          · walk_at "red"
            exact ⟨gr.len.1, fun r hr => (gr.row r hr).1, _, _, ⟨rfl, rfl⟩, hN3 _ _ ⟨⟨_, _, rfl⟩, rfl⟩⟩
          rintro ds dv ⟨⟨x7, x8, rfl⟩, rfl⟩
          refine forEH_of rs (fun Q hq => ?_) (fun j ds dv' => (∃ x7 x8, ds = [some (.lst pl), some (.fn q), some (.str n), some (.tup ps), some (.tup rs), some (optD (lotTo (begN rs) 0 (rs.take j) ([], none)).2), some (.lst ((begN rs).map fun (j : Nat) => D.int j)), x7, x8]) ∧ dv' = dv ++ (lotTo (begN rs) 0 (rs.take j) ([], none)).1.map (toD n)) ⟨⟨_, _, rfl⟩, by simp [lotTo]⟩ ?_ ?_
          · walk_at "red"
            exact hq
          · rintro j ds dv' hj ⟨⟨x7, x8, rfl⟩, rfl⟩ N3 hN3
            have Bo := both_all rs j (by omega)
            have more := lot_more (begN rs) rs 0 j ([], none) hj
            rw [Nat.zero_add] at more
            have kr := (gr.row _ (List.getElem_mem hj)).1
            have fsts := Bo.fst
            have few1 : (lotTo (begN rs) 0 (rs.take j) ([], none)).1.length ≤ 12 := by
              have h1 := str_few (begN rs) (rs.take j) 0 []
              rw [Bo.eq, List.length_append, List.length_take] at h1
              have := gr.len.1
              simp at h1
              omega
            have fin : ∀ ds dv', (∃ x7 x8, ds = [some (.lst pl), some (.fn q), some (.str n), some (.tup ps), some (.tup rs), some (optD (lotStep (begN rs) (lotTo (begN rs) 0 (rs.take j) ([], none)) j rs[j]).2), some (.lst ((begN rs).map fun (j : Nat) => D.int j)), x7, x8]) ∧ dv' = dv ++ (lotStep (begN rs) (lotTo (begN rs) 0 (rs.take j) ([], none)) j rs[j]).1.map (toD n) → N3 ds dv' := fun ds dv' h => hN3 ds dv' (by rw [more]; exact h)
            generalize lotTo (begN rs) 0 (rs.take j) ([], none) = st at *
            generalize rs[j] = r at *
            obtain ⟨w', r0, rfl⟩ := row_word kr
            have pr : plainR (.tup (.str w' :: r0)) = decide (w' ∈ (["set", "copy"] : List Str)) := rfl
            have mb : decide ((j : Int) ∈ (begN rs).map fun (j : Nat) => (j : Int)) = decide (j ∈ begN rs) := by
              by_cases e : j ∈ begN rs
              · rw [decide_eq_true e, decide_eq_true (List.mem_map.mpr ⟨j, e, rfl⟩)]
              · rw [decide_eq_false e, decide_eq_false fun z => by
                  obtain ⟨i, hi, ei⟩ := List.mem_map.mp z
                  exact e (by rw [show j = i by omega]; exact hi)]
            refine seqH_cut (fun ds dv' => ds = [some (.lst pl), some (.fn q), some (.str n), some (.tup ps), some (.tup rs), some (optD (lotEnd (begN rs) st j (.tup (.str w' :: r0))).2), some (.lst ((begN rs).map fun (j : Nat) => D.int j)), some (.int j), some (.tup (.str w' :: r0))] ∧ dv' = dv ++ (lotEnd (begN rs) st j (.tup (.str w' :: r0))).1.map (toD n)) (fun N4 hN4 => ?_) ?_
            · obtain ⟨acc, first⟩ := st
              cases first with
              | none =>
                walk_at "red"
                exact hN4 _ _ ⟨rfl, rfl⟩
              | some a =>
                have jp : 0 < j := (fsts.mp rfl).1
                have out : lotEnd (begN rs) (acc, some a) j (.tup (.str w' :: r0)) = (acc ++ [(a, j - 1)], none) → N4 [some (.lst pl), some (.fn q), some (.str n), some (.tup ps), some (.tup rs), some .non, some (.lst ((begN rs).map fun (j : Nat) => D.int j)), some (.int j), some (.tup (.str w' :: r0))] (dv ++ acc.map (toD n) ++ [.tup [.str n, .int (a : Int), .int ((j : Int) - 1)]]) := fun h => hN4 _ _ ⟨by rw [h]; rfl, by
                  rw [h, List.map_append, List.append_assoc]
                  show _ = dv ++ (acc.map (toD n) ++ [D.tup [.str n, .int (a : Int), .int ((j - 1 : Nat) : Int)]])
                  rw [show ((j - 1 : Nat) : Int) = (j : Int) - 1 by omega]⟩
                have fits : (dv ++ acc.map (toD n)).length < sizeLine := line_lt (by
                  rw [List.length_append, List.length_map]
                  have := few1
                  simp at this
                  omega)
                have lend : lotEnd (begN rs) (acc, some a) j (.tup (.str w' :: r0)) = if (!decide (w' ∈ (["set", "copy"] : List Str)) || decide (j ∈ begN rs)) = true then (acc ++ [(a, j - 1)], none) else (acc, some a) := rfl
                walk_at "red"
                refine ifT rfl ⟨lb _ (by omega), ?_⟩
                cases e : decide (w' ∈ (["set", "copy"] : List Str)) with
                | false => exact ifT rfl ⟨lb _ (by omega), fits, out (by rw [lend, e]; rfl)⟩
                | true =>
                  refine ifF rfl ⟨_, ib, ?_⟩
                  rw [mb]
                  by_cases hb : j ∈ begN rs
                  · exact ifT (decide_eq_true hb) ⟨lb _ (by omega), fits, out (by rw [lend, e, decide_eq_true hb]; rfl)⟩
                  · refine ifF (decide_eq_false hb) (hN4 _ _ ?_)
                    have : lotEnd (begN rs) (acc, some a) j (.tup (.str w' :: r0)) = (acc, some a) := by rw [lend, e, decide_eq_false hb]; rfl
                    rw [this]
                    exact ⟨rfl, rfl⟩
            · rintro ds dv' ⟨rfl, rfl⟩
              unfold lotStep at fin
              generalize lotEnd (begN rs) st j (.tup (.str w' :: r0)) = st1 at *
              obtain ⟨acc, first⟩ := st1
              cases first with
              | some a =>
                walk_at "red"
                exact ifF rfl (fin _ _ ⟨⟨_, _, rfl⟩, rfl⟩)
              | none =>
                have lnew : lotNew (acc, none) j (.tup (.str w' :: r0)) = if decide (w' ∈ (["set", "copy"] : List Str)) = true then (acc, some j) else (acc, none) := rfl
                walk_at "red"
                refine ifT rfl ⟨lb _ (by omega), ?_⟩
                cases e : decide (w' ∈ (["set", "copy"] : List Str)) with
                | false =>
                  refine ifF rfl (fin _ _ ?_)
                  rw [lnew, e]
                  exact ⟨⟨_, _, rfl⟩, rfl⟩
                | true =>
                  refine ifT rfl (fin _ _ ?_)
                  rw [lnew, e]
                  exact ⟨⟨_, _, rfl⟩, rfl⟩
          · rintro ds dv' ⟨⟨x7, x8, rfl⟩, rfl⟩
            obtain ⟨a, fr, ha, el⟩ := gr.last
            rw [List.take_length, lot_end el]
            exact fin _ _ _ _
        · rintro ds dv ⟨hds, hdv⟩
          rw [List.take_length] at hdv
          exact hN _ _ ⟨hds, hdv⟩
      · rintro ds dv ⟨⟨x2, x3, x4, x5, x6, x7, x8, rfl⟩, rfl⟩
        walk_at "red"
        exact hp⟩)
end
end K07

set_option maxHeartbeats 4000000
namespace K07
open PySem PySem.Spec PyProof.Rows L2 DL
variable [TabCtx]
local macro_rules | `(tactic| walk_at "red") => `(tactic| simp only [gRetG, gSeqHF, dInI, dNotIn, fIsC2, gFor3, gForH3, gStoreH, fwSortSet, wzMeth, wFell, fwCat, gForELH, wDGet2, fDict, dRepT, gSeqF, gSeqHF, gDoneF, gAccF, fwIf, gParAcc, gForHS, dRep, wDNIn, wD0, gClearH, fIsC, dNeI, DL.tyD_dct, DL.isInt_dct, DL.isStr_dct, DL.isBl_dct, DL.isTup_dct, DL.isLst_dct, wSortC, gExtH, fwList, wiSeq, seqOf_lst, seqOf_tup, wiAny, wzE, wzOpL, wzIf, gzRet, gzSet, gzDrop, gPar, wLcZ, wiZip, wTupRg3, wiRg3, fMin, fAbs, fMaxL, fMinL, gUn2, gUn3, gUn2L, gFor2L, wLcI, wLam3, gSrc, or_false, false_or, exists_false, false_and, and_false, wDc3, gAcc, gSeqH, gForEH, gForE, gForH, gIfH, gLift, gNextH, gAppendH, gAppend, gDone, gSetH, DL.seen, dIsN, dNotN, wDc, wFld, wMeth, wDIn, wDIx, wDGetN, wNew, wzNew, wLcI, gField, gCL, fLenQ, dIxQ, wNeK, wIndex, gTryRet, gTryDrop, wzCall, wzCallL, wTold, fIsE, fRepr, wJoin, wDGet, wVals, dPow, wSrc, gSrcSet, dMulS, dFdivS, fInt, fMax, fTuple, fList, startD, gNext, gSeq, gRet, gSet, gIf, gDrop, gRaise, gFor, wVar, wC, wOp, wTest, wChain, wAnd, wOr, wNot, wtAnd, wtOr, wtNot, wIf, waNil, waCons, wTup, wLst, wCall, quiet, wIsi, wInK, wLc, wiStr, wiTup, wiLst, wiRange, wSl, woNone, woSome, dSl, wNeg, dNeg, fLen, fAll, dEq, dNe, dLe, dLt, dGe, dGt, dAdd, dSub, dMod, dIx, dIn, dIsB, strsOf, boolsOf, DL.tyD_non, at_0, at_1, at_2, at_3, at_4, DL.isInt_non, DL.isStr_non, DL.isBl_non, DL.isTup_non, DL.isLst_non, DL.tyD_bl, DL.isInt_bl, DL.isStr_bl, DL.isBl_bl, DL.isTup_bl, DL.isLst_bl, DL.tyD_int, DL.isInt_int, DL.isStr_int, DL.isBl_int, DL.isTup_int, DL.isLst_int, DL.tyD_str, DL.isInt_str, DL.isStr_str, DL.isBl_str, DL.isTup_str, DL.isLst_str, DL.tyD_lst, DL.isInt_lst, DL.isStr_lst, DL.isBl_lst, DL.isTup_lst, DL.isLst_lst, DL.tyD_tup, DL.isInt_tup, DL.isStr_tup, DL.isBl_tup, DL.isTup_tup, DL.isLst_tup, pure1, pure2, pure3, Option.map_some,
  List.map_cons, List.map_nil, List.length_cons, List.length_nil, List.cons_append, List.nil_append, List.getElem?_cons_zero, List.getElem?_cons_succ, Option.some.injEq, exists_eq_left', exists_eq_left, exists_eq_right, exists_eq_right', D.bl.injEq, D.int.injEq, D.str.injEq, D.tup.injEq, D.lst.injEq, D.fn.injEq, D.sq.injEq, D.exn.injEq, List.cons.injEq, and_true, true_and, and_self, exists_and_left, exists_and_right, Option.isSome_some, List.set_cons_zero, List.set_cons_succ, if_true, Bool.false_eq_true, if_false, Bool.not_true, Bool.not_false, reduceCtorEq, List.replicate, Nat.reduceSub, Nat.reduceAdd])
section
variable {P : Program} {w : World} {K : PySem.W.Frag} {mg : Str → Option Value} {base : Heap}
abbrev LQ : Str := (envOfC "_law_refused_right" (defScope s_lrefused_right) 0 0 .none).qual ++ "<lambda>"
def cls (T : Txt K mg) : List (Addr × Str) := [(T.x_NoProgram.C, "program"), (T.x_NoProcedure.C, "procedure"), (T.x_NoSpot.C, "spot")]
/-- what the lambdas of the law ask of the top -/
structure Lm (T : Txt K mg) (base : Heap) where
  c : Addr
  tab : Addr
  code : T.d_lrefused_right.fd.code = .ref c
  tb : LamX.TabB base mg c tab
  hm : (tab, LQ) ∈ TabCtx.T
  hu : ∀ p ∈ TabCtx.T, p.1 = tab → p.2 = LQ
  no1 : PySem.W.exmOne K (.ref T.x_NoProcedure.C) (.ref T.x_NoProgram.C) = some false
  no2 : PySem.W.exmOne K (.ref T.x_NoSpot.C) (.ref T.x_NoProgram.C) = some false
  no3 : PySem.W.exmOne K (.ref T.x_NoSpot.C) (.ref T.x_NoProcedure.C) = some false
  oc : Value
  od : Option Addr
  kV : Value
  doc : Value
  pm : Value
  an : Option Addr
  cdv : Value
  ct : Value
  osl : Array (Option Value)
  lk : K.lookup T.d_lfell.f = some ⟨oc, od, .func (PySem.W.fnOf "_law_fell" "_law_fell" (defArgs s_lfell) (defBody s_lfell) (defScope s_lfell) .none kV doc pm an cdv ct), osl⟩
  hcd : PySem.W.codeIn K cdv "_law_fell" = true
  hb : Binds K (PySem.W.fnOf "_law_fell" "_law_fell" (defArgs s_lfell) (defBody s_lfell) (defScope s_lfell) .none kV doc pm an cdv ct) ["_law_call"] []
theorem hit1 {T : Txt K mg} : Hits K (cls T) T.x_NoProgram.C "program" := .here T.x2_NoProgram.em
theorem hit2 {T : Txt K mg} (X9 : Lm T base) : Hits K (cls T) T.x_NoProcedure.C "procedure" := .there X9.no1 (.here T.x2_NoProcedure.em)
theorem hit3 {T : Txt K mg} (X9 : Lm T base) : Hits K (cls T) T.x_NoSpot.C "spot" := .there X9.no2 (.there X9.no3 (.here T.x2_NoSpot.em))
def fRef (T : Txt K mg) : DFn := fun es P => ∃ xs vs rs, es = [progD T xs vs, .tup rs] ∧ ProgS xs ∧ rs.length ≤ 12 ∧ procOf xs (.str "zzz") = none ∧ (∃ x, procOf xs (.str "main") = some x ∧ rowsOf x = rs) ∧ P (.bl true)
theorem room80 {k : Nat} {A : Around} (r : L2.Room k A) : A.units + 80 < cLine := by have := r.un; omega
theorem ok_told {w s : Str} (h : PyData.strOk w = true) (k : PyData.strOk s = true) : okEq (.lst [.str w, .str s]) :=
  ⟨rfl, by simp [D.py, D.pys, SeqAt.shaped, PyData.canLay0, PyData.canLayAll0, PyData.depth, PyData.depthAll, h, k]⟩
theorem lens_ok : ∀ n : Nat, n ≤ 12 → gs 3 (.tup [.str "main", .int (n : Int)]) = true ∧ PyData.strOk (D.tup [.str "main", .int (n : Int)]).py.shown = true := by decide +kernel
theorem same_told {w : Str} {t : D} {A B : Prop} (r : rept t) (ok : okEq (.lst [.str w, .str t.py.shown])) (b : B) : t.pl = true ∧ t.py.showable = true ∧ t.py.hasDict = false ∧ t.py.depth ≤ 60 ∧ t.py.shown.length ≤ sizeLine ∧ 2 ≤ sizeLine ∧ okEq (.lst [.str w, .str t.py.shown]) ∧ okEq (.lst [.str w, .str t.py.shown]) ∧
    if (!eqD (.lst [.str w, .str t.py.shown]) (.lst [.str w, .str t.py.shown])) = true then A else B :=
  ⟨r.1, r.2.1, r.2.2.1, r.2.2.2.1, r.2.2.2.2, line_big (by omega), ok, ok, ifF (by rw [eqD_self ok]; rfl) b⟩
theorem ok_lrefused_right (T : Txt K mg) (X9 : Lm T base) : FnG P w K mg base CX0 9 T.d_lrefused_right.f T.d_lrefused_right.fd ["_law_first", "_law_rows_here"] (spD fun es P _ => (fRef T) es P) :=
  fnG_okC T.d_lrefused_right.F X9.code sc_lrefused_right (fun es P h => by first | (obtain ⟨_, rfl, _⟩ := h; rfl) | (obtain ⟨_, _, rfl, _⟩ := h; rfl) | (obtain ⟨_, _, _, rfl, _⟩ := h; rfl) | (obtain ⟨_, _, _, _, rfl, _⟩ := h; rfl)) (fun A outer s H E hgd hr => ⟨_,
    (wss_cons (ws_for (x := "") PassesOwn.never rfl (wi_sq (we_lst (wa_cons (we_c pe_non) (wa_cons (we_c pe_int) (wa_cons (we_c pe_str) (wa_cons (we_lst wa_nil) (wa_cons (we_tup (wa_cons (we_c pe_str) (wa_cons (we_tup wa_nil) wa_nil))) wa_nil))))))) (pg_name (i := 2) sc_lrefused_right.nd rfl (by first | exact .inl rfl | exact .inr rfl))
        (wss_cons (ws_if (wt_cmp (op_dNe hr.units) (we_fell (x := "_law_fell") (a := "_law_call") (Ng := ["_law_call", "e"]) (w0 := "none") (cs := cls T) (k := 6) rfl T.d_lfell.m T.d_lfell.F.kp X9.lk X9.hcd X9.hb sc_lfell rfl (.inl rfl) (fells_gives (j0 := 0) (by decide) rfl rfl T.n_repr (by decide) (by decide) hgd (room80 hr) (.also (j := 0) rfl (by decide) T.x_NoProgram.m T.x2_NoProgram (.also (j := 0) rfl (by decide) T.x_NoProcedure.m T.x2_NoProcedure (.also (j := 0) rfl (by decide) T.x_NoSpot.m T.x2_NoSpot .last))) (fun _ _ => rfl)) X9.tb rfl X9.hm X9.hu (hr.mono (by decide)) (show LamX.LamS (defScope s_lrefused_right) _ from LamX.lamS_by (by decide +kernel)) rfl (fun _ _ _ _ _ => rfl) (fun A outer s H E f c' hr => (we_zcall (ok_stretchesZ T) (hr.mono (by decide)) (takes_of rfl rfl rfl rfl) rfl T.d_stretches.m T.d_stretches.F.kp T.d_stretches.b (wa_cons (we_var (pv 2)) wa_nil)))) (we_lst (wa_cons (we_c pe_str) (wa_cons (we_callB (call_fRepr hgd hr.units) rfl T.n_repr boot_reprB (wa_cons (we_var (pv 2)) wa_nil)) wa_nil))) (nomark _))
          (wss_one (ws_ret (we_c pe_bl)))
          wss_nil)
        (wss_cons (ws_if (wt_cmp (op_dNe hr.units) (we_fell (x := "_law_fell") (a := "_law_call") (Ng := ["_law_call", "e"]) (w0 := "none") (cs := cls T) (k := 6) rfl T.d_lfell.m T.d_lfell.F.kp X9.lk X9.hcd X9.hb sc_lfell rfl (.inl rfl) (fells_gives (j0 := 0) (by decide) rfl rfl T.n_repr (by decide) (by decide) hgd (room80 hr) (.also (j := 0) rfl (by decide) T.x_NoProgram.m T.x2_NoProgram (.also (j := 0) rfl (by decide) T.x_NoProcedure.m T.x2_NoProcedure (.also (j := 0) rfl (by decide) T.x_NoSpot.m T.x2_NoSpot .last))) (fun _ _ => rfl)) X9.tb rfl X9.hm X9.hu (hr.mono (by decide)) (show LamX.LamS (defScope s_lrefused_right) _ from LamX.lamS_by (by decide +kernel)) rfl (fun _ _ _ _ _ => rfl) (fun A outer s H E f c' hr => (we_zcall (ok_beginningsZ T) (hr.mono (by decide)) (takes_of rfl rfl rfl rfl) rfl T.d_beginnings.m T.d_beginnings.F.kp T.d_beginnings.b (wa_cons (we_var (pv 2)) (wa_cons (we_c pe_non) wa_nil))))) (we_lst (wa_cons (we_c pe_str) (wa_cons (we_callB (call_fRepr hgd hr.units) rfl T.n_repr boot_reprB (wa_cons (we_var (pv 2)) wa_nil)) wa_nil))) (nomark _))
          (wss_one (ws_ret (we_c pe_bl)))
          wss_nil)
        (wss_one (ws_if (wt_cmp (op_dNe hr.units) (we_fell (x := "_law_fell") (a := "_law_call") (Ng := ["_law_call", "e"]) (w0 := "none") (cs := cls T) (k := 6) rfl T.d_lfell.m T.d_lfell.F.kp X9.lk X9.hcd X9.hb sc_lfell rfl (.inl rfl) (fells_gives (j0 := 0) (by decide) rfl rfl T.n_repr (by decide) (by decide) hgd (room80 hr) (.also (j := 0) rfl (by decide) T.x_NoProgram.m T.x2_NoProgram (.also (j := 0) rfl (by decide) T.x_NoProcedure.m T.x2_NoProcedure (.also (j := 0) rfl (by decide) T.x_NoSpot.m T.x2_NoSpot .last))) (fun _ _ => rfl)) X9.tb rfl X9.hm X9.hu (hr.mono (by decide)) (show LamX.LamS (defScope s_lrefused_right) _ from LamX.lamS_by (by decide +kernel)) rfl (fun _ _ _ _ _ => rfl) (fun A outer s H E f c' hr => (we_zcall (ok_stretch_of T) (hr.mono (by decide)) (takes_of rfl rfl rfl rfl) rfl T.d_stretch_of.m T.d_stretch_of.F.kp T.d_stretch_of.b (wa_cons (we_var (pv 2)) (wa_cons (we_c pe_non) wa_nil))))) (we_lst (wa_cons (we_c pe_str) (wa_cons (we_callB (call_fRepr hgd hr.units) rfl T.n_repr boot_reprB (wa_cons (we_var (pv 2)) wa_nil)) wa_nil))) (nomark _))
          (wss_one (ws_ret (we_c pe_bl)))
          wss_nil)))))
      (wss_cons (ws_for (x := "") PassesOwn.never rfl (wi_sq (we_lst (wa_cons (we_c pe_non) (wa_cons (we_c pe_int) (wa_cons (we_c pe_str) (wa_cons (we_c pe_str) (wa_cons (we_tup (wa_cons (we_c pe_str) wa_nil)) (wa_cons (we_lst (wa_cons (we_c pe_str) wa_nil)) (wa_cons (we_c pe_bl) wa_nil))))))))) (pg_name (i := 2) sc_lrefused_right.nd rfl (by first | exact .inl rfl | exact .inr rfl))
        (wss_one (ws_if (wt_cmp (op_dNe hr.units) (we_fell (x := "_law_fell") (a := "_law_call") (Ng := ["_law_call", "e"]) (w0 := "none") (cs := cls T) (k := 6) rfl T.d_lfell.m T.d_lfell.F.kp X9.lk X9.hcd X9.hb sc_lfell rfl (.inl rfl) (fells_gives (j0 := 0) (by decide) rfl rfl T.n_repr (by decide) (by decide) hgd (room80 hr) (.also (j := 0) rfl (by decide) T.x_NoProgram.m T.x2_NoProgram (.also (j := 0) rfl (by decide) T.x_NoProcedure.m T.x2_NoProcedure (.also (j := 0) rfl (by decide) T.x_NoSpot.m T.x2_NoSpot .last))) (fun _ _ => rfl)) X9.tb rfl X9.hm X9.hu (hr.mono (by decide)) (show LamX.LamS (defScope s_lrefused_right) _ from LamX.lamS_by (by decide +kernel)) rfl (fun _ _ _ _ _ => rfl) (fun A outer s H E f c' hr => (we_zcall (ok_beginningsZ T) (hr.mono (by decide)) (takes_of rfl rfl rfl rfl) rfl T.d_beginnings.m T.d_beginnings.F.kp T.d_beginnings.b (wa_cons (we_var (pv 0)) (wa_cons (we_var (pv 2)) wa_nil))))) (we_lst (wa_cons (we_c pe_str) (wa_cons (we_callB (call_fRepr hgd hr.units) rfl T.n_repr boot_reprB (wa_cons (we_var (pv 2)) wa_nil)) wa_nil))) (nomark _))
          (wss_one (ws_ret (we_c pe_bl)))
          wss_nil)))
      (wss_cons (ws_for (x := "") PassesOwn.never rfl (wi_sq (we_lst (wa_cons (we_c pe_non) (wa_cons (we_c pe_str) (wa_cons (we_tup (wa_cons (we_c pe_str) wa_nil)) (wa_cons (we_tup (wa_cons (we_c pe_str) (wa_cons (we_neg (we_c pe_int)) wa_nil))) (wa_cons (we_tup (wa_cons (we_c pe_str) (wa_cons (we_callB call_fLen rfl T.n_len boot_lenB (wa_cons (we_var (pv 1)) wa_nil)) wa_nil))) (wa_cons (we_tup (wa_cons (we_c pe_str) (wa_cons (we_c pe_bl) wa_nil))) (wa_cons (we_lst (wa_cons (we_c pe_str) (wa_cons (we_c pe_int) wa_nil))) (wa_cons (we_tup (wa_cons (we_c pe_str) (wa_cons (we_c pe_int) wa_nil))) wa_nil)))))))))) (pg_name (i := 2) sc_lrefused_right.nd rfl (by first | exact .inl rfl | exact .inr rfl))
        (wss_one (ws_if (wt_cmp (op_dNe hr.units) (we_fell (x := "_law_fell") (a := "_law_call") (Ng := ["_law_call", "e"]) (w0 := "none") (cs := cls T) (k := 6) rfl T.d_lfell.m T.d_lfell.F.kp X9.lk X9.hcd X9.hb sc_lfell rfl (.inl rfl) (fells_gives (j0 := 0) (by decide) rfl rfl T.n_repr (by decide) (by decide) hgd (room80 hr) (.also (j := 0) rfl (by decide) T.x_NoProgram.m T.x2_NoProgram (.also (j := 0) rfl (by decide) T.x_NoProcedure.m T.x2_NoProcedure (.also (j := 0) rfl (by decide) T.x_NoSpot.m T.x2_NoSpot .last))) (fun _ _ => rfl)) X9.tb rfl X9.hm X9.hu (hr.mono (by decide)) (show LamX.LamS (defScope s_lrefused_right) _ from LamX.lamS_by (by decide +kernel)) rfl (fun _ _ _ _ _ => rfl) (fun A outer s H E f c' hr => (we_zcall (ok_stretch_of T) (hr.mono (by decide)) (takes_of rfl rfl rfl rfl) rfl T.d_stretch_of.m T.d_stretch_of.F.kp T.d_stretch_of.b (wa_cons (we_var (pv 0)) (wa_cons (we_var (pv 2)) wa_nil))))) (we_lst (wa_cons (we_c pe_str) (wa_cons (we_callB (call_fRepr hgd hr.units) rfl T.n_repr boot_reprB (wa_cons (we_var (pv 2)) wa_nil)) wa_nil))) (nomark _))
          (wss_one (ws_ret (we_c pe_bl)))
          wss_nil)))
      (wss_one (ws_ret (we_c pe_bl)))))),
    fun es P h => by
      obtain ⟨xs, vs, rs, rfl, g, l12, hz, ⟨x, hx, hrs⟩, hp⟩ := h
      have lb : ∀ n : Nat, n ≤ 100000 → n ≤ sizeLine := fun n h => line_big h
      refine seqW_cut (fun ds => ∃ x2, ds = [some (progD T xs vs), some (.tup rs), x2]) (fun N' hN => ?_) ?_
      · refine for_of [.non, .int 5, .str "main", .lst [], .tup [.str "main", .tup []]] (fun Q hq => ?_) (fun k ds => ∃ x2, ds = [some (progD T xs vs), some (.tup rs), x2]) ⟨_, rfl⟩ ?_ ?_
        · walk_at "red"
          exact ⟨lb _ (by omega), lb _ (by omega), lb _ (by omega), lb _ (by omega), hq⟩
        · rintro k ds hk ⟨x2, rfl⟩ N2 hN2
          have hm := List.getElem_mem hk
          generalize ([.non, .int 5, .str "main", .lst [], .tup [.str "main", .tup []]] : List D)[k] = odd at hm
          have F : (tyD odd).isSome = true ∧ Sm odd ∧ PyData.strOk odd.py.shown = true := by
            simp only [List.mem_cons, List.not_mem_nil, or_false] at hm
            unfold Sm
            rcases hm with rfl | rfl | rfl | rfl | rfl <;> decide +kernel
          obtain ⟨ht, sm, so⟩ := F
          have rp := (Rp.sm sm).re
          have okp : okEq (.lst [.str "program", .str odd.py.shown]) := ok_told (by decide +kernel) so
          refine seqW_cut (fun ds => ds = [some (progD T xs vs), some (.tup rs), some odd]) (fun N3 hN3 => ?_) ?_
          · walk_at "red"
            exact ⟨ht, _, hit1, rp, same_told rp okp (hN3 _ rfl)⟩
          rintro ds rfl
          refine seqW_cut (fun ds => ds = [some (progD T xs vs), some (.tup rs), some odd]) (fun N3 hN3 => ?_) ?_
          · walk_at "red"
            exact ⟨odd, .non, ⟨rfl, rfl⟩, .inl ⟨ht, _, hit1, rp, same_told rp okp (hN3 _ rfl)⟩⟩
          rintro ds rfl
          walk_at "red"
          exact ⟨odd, .non, ⟨rfl, rfl⟩, .inl ⟨ht, _, hit1, rp, same_told rp okp (hN2 _ ⟨_, rfl⟩)⟩⟩
        · rintro ds hds
          exact hN ds hds
      rintro ds ⟨x2, rfl⟩
      refine seqW_cut (fun ds => ∃ x2, ds = [some (progD T xs vs), some (.tup rs), x2]) (fun N' hN => ?_) ?_
      · refine for_of [.non, .int 5, .str "zzz", .str "Main", .tup [.str "main"], .lst [.str "main"], .bl true] (fun Q hq => ?_) (fun k ds => ∃ x2, ds = [some (progD T xs vs), some (.tup rs), x2]) ⟨_, rfl⟩ ?_ ?_
        · walk_at "red"
          exact ⟨lb _ (by omega), lb _ (by omega), lb _ (by omega), hq⟩
        · rintro k ds hk ⟨x2, rfl⟩ N2 hN2
          have hm := List.getElem_mem hk
          generalize ([.non, .int 5, .str "zzz", .str "Main", .tup [.str "main"], .lst [.str "main"], .bl true] : List D)[k] = odd at hm
          simp only [List.mem_cons, List.not_mem_nil, or_false] at hm
          have F : Sm odd ∧ PyData.strOk odd.py.shown = true := by
            unfold Sm
            rcases hm with rfl | rfl | rfl | rfl | rfl | rfl | rfl <;> decide +kernel
          have no : procOf xs odd = none := by
            rcases hm with rfl | rfl | rfl | rfl | rfl | rfl | rfl
            · rfl
            · rfl
            · exact hz
            · simp only [procOf]
              rw [if_neg (by decide +kernel)]
            · rfl
            · rfl
            · rfl
          obtain ⟨sm, so⟩ := F
          have rp := (Rp.sm sm).re
          have okp : okEq (.lst [.str "procedure", .str odd.py.shown]) := ok_told (by decide +kernel) so
          walk_at "red"
          exact ⟨_, odd, ⟨rfl, rfl⟩, .inr ⟨xs, ⟨vs, rfl⟩, sm.good, no, _, hit2 X9, rp, same_told rp okp (hN2 _ ⟨_, rfl⟩)⟩⟩
        · rintro ds hds
          exact hN ds hds
      rintro ds ⟨x2, rfl⟩
      refine seqW_cut (fun ds => ∃ x2, ds = [some (progD T xs vs), some (.tup rs), x2]) (fun N' hN => ?_) ?_
      · refine for_of [.non, .str "main", .tup [.str "main"], .tup [.str "main", .int (-1)], .tup [.str "main", .int rs.length], .tup [.str "main", .bl true], .lst [.str "main", .int 0], .tup [.str "zzz", .int 0]] (fun Q hq => ?_) (fun k ds => ∃ x2, ds = [some (progD T xs vs), some (.tup rs), x2]) ⟨_, rfl⟩ ?_ ?_
        · walk_at "red"
          exact ⟨lb _ (by omega), lb _ (by omega), lb _ (by omega), lb _ (by omega), lb _ (by omega), lb _ (by omega), lb _ (by omega), hq⟩
        · rintro k ds hk ⟨x2, rfl⟩ N2 hN2
          have hm := List.getElem_mem hk
          generalize ([.non, .str "main", .tup [.str "main"], .tup [.str "main", .int (-1)], .tup [.str "main", .int rs.length], .tup [.str "main", .bl true], .lst [.str "main", .int 0], .tup [.str "zzz", .int 0]] : List D)[k] = odd at hm
          simp only [List.mem_cons, List.not_mem_nil, or_false] at hm
          have F : Sm odd ∧ PyData.strOk odd.py.shown = true := by
            unfold Sm
            rcases hm with rfl | rfl | rfl | rfl | rfl | rfl | rfl | rfl
            · decide +kernel
            · decide +kernel
            · decide +kernel
            · decide +kernel
            · exact lens_ok rs.length l12
            · decide +kernel
            · decide +kernel
            · decide +kernel
          have no : hasSpot xs odd = false := by
            rcases hm with rfl | rfl | rfl | rfl | rfl | rfl | rfl | rfl
            · rfl
            · rfl
            · rfl
            · simp only [hasSpot, hx]
              rfl
            · simp only [hasSpot, hx, isWithin, isNum, hrs]
              simp
              omega
            · simp only [hasSpot, hx]
              rfl
            · rfl
            · simp only [hasSpot, hz]
          obtain ⟨sm, so⟩ := F
          have rp := (Rp.sm sm).re
          have okp : okEq (.lst [.str "spot", .str odd.py.shown]) := ok_told (by decide +kernel) so
          walk_at "red"
          exact ⟨_, odd, ⟨rfl, rfl⟩, .inr ⟨xs, ⟨vs, rfl⟩, sm.good, g, .inl ⟨no, _, hit3 X9, rp, same_told rp okp (hN2 _ ⟨_, rfl⟩)⟩⟩⟩
        · rintro ds hds
          exact hN ds hds
      rintro ds ⟨x2, rfl⟩
      walk_at "red"
      exact hp⟩)
end
end K07

set_option maxHeartbeats 2000000
namespace K07
open PySem PySem.Spec PyProof.Rows L2 DL
variable [TabCtx]
local macro_rules | `(tactic| walk_at "red") => `(tactic| simp only [gRetG, gSeqHF, dInI, dNotIn, fIsC2, gFor3, gForH3, gStoreH, fwSortSet, wzMeth, wFell, fwCat, gForELH, wDGet2, fDict, dRepT, gSeqF, gSeqHF, gDoneF, gAccF, fwIf, gParAcc, gForHS, dRep, wDNIn, wD0, gClearH, fIsC, dNeI, DL.tyD_dct, DL.isInt_dct, DL.isStr_dct, DL.isBl_dct, DL.isTup_dct, DL.isLst_dct, wSortC, gExtH, fwList, wiSeq, seqOf_lst, seqOf_tup, wiAny, wzE, wzOpL, wzIf, gzRet, gzSet, gzDrop, gPar, wLcZ, wiZip, wTupRg3, wiRg3, fMin, fAbs, fMaxL, fMinL, gUn2, gUn3, gUn2L, gFor2L, wLcI, wLam3, gSrc, or_false, false_or, exists_false, false_and, and_false, wDc3, gAcc, gSeqH, gForEH, gForE, gForH, gIfH, gLift, gNextH, gAppendH, gAppend, gDone, gSetH, DL.seen, dIsN, dNotN, wDc, wFld, wMeth, wDIn, wDIx, wDGetN, wNew, wzNew, wLcI, gField, gCL, fLenQ, dIxQ, wNeK, wIndex, gTryRet, gTryDrop, wzCall, wzCallL, wTold, fIsE, fRepr, wJoin, wDGet, wVals, dPow, wSrc, gSrcSet, dMulS, dFdivS, fInt, fMax, fTuple, fList, startD, gNext, gSeq, gRet, gSet, gIf, gDrop, gRaise, gFor, wVar, wC, wOp, wTest, wChain, wAnd, wOr, wNot, wtAnd, wtOr, wtNot, wIf, waNil, waCons, wTup, wLst, wCall, quiet, wIsi, wInK, wLc, wiStr, wiTup, wiLst, wiRange, wSl, woNone, woSome, dSl, wNeg, dNeg, fLen, fAll, dEq, dNe, dLe, dLt, dGe, dGt, dAdd, dSub, dMod, dIx, dIn, dIsB, strsOf, boolsOf, DL.tyD_non, at_0, at_1, at_2, at_3, at_4, DL.isInt_non, DL.isStr_non, DL.isBl_non, DL.isTup_non, DL.isLst_non, DL.tyD_bl, DL.isInt_bl, DL.isStr_bl, DL.isBl_bl, DL.isTup_bl, DL.isLst_bl, DL.tyD_int, DL.isInt_int, DL.isStr_int, DL.isBl_int, DL.isTup_int, DL.isLst_int, DL.tyD_str, DL.isInt_str, DL.isStr_str, DL.isBl_str, DL.isTup_str, DL.isLst_str, DL.tyD_lst, DL.isInt_lst, DL.isStr_lst, DL.isBl_lst, DL.isTup_lst, DL.isLst_lst, DL.tyD_tup, DL.isInt_tup, DL.isStr_tup, DL.isBl_tup, DL.isTup_tup, DL.isLst_tup, pure1, pure2, pure3, Option.map_some,
  List.map_cons, List.map_nil, List.length_cons, List.length_nil, List.cons_append, List.nil_append, List.getElem?_cons_zero, List.getElem?_cons_succ, Option.some.injEq, exists_eq_left', exists_eq_left, exists_eq_right, exists_eq_right', D.bl.injEq, D.int.injEq, D.str.injEq, D.tup.injEq, D.lst.injEq, D.fn.injEq, D.sq.injEq, D.exn.injEq, List.cons.injEq, and_true, true_and, and_self, exists_and_left, exists_and_right, Option.isSome_some, List.set_cons_zero, List.set_cons_succ, if_true, Bool.false_eq_true, if_false, Bool.not_true, Bool.not_false, reduceCtorEq, List.replicate, Nat.reduceSub, Nat.reduceAdd])
section
variable {P : Program} {w : World} {K : PySem.W.Frag} {mg : Str → Option Value} {base : Heap}
/-- a list that makes a program -/
def ValidP (pl : List D) : Prop := Good (.lst pl) ∧ 1 ≤ pl.length ∧ pl.length ≤ 4 ∧ isNonD (wrongOf pl) = true
omit [TabCtx] in
theorem wrong_first {xs : List D} (h : isNonD (wrongOf xs) = true) : isNonD (firstWrong 0 [] xs) = true := by
  unfold wrongOf at h
  cases e : isNonD (firstWrong 0 [] xs) with
  | true => rfl
  | false =>
    rw [e, if_neg (by decide)] at h
    rw [h] at e
    cases e
def RsW (rs : D) : Prop := ∃ l, (rs = .tup l ∨ rs = .lst l) ∧ l.length ≤ 13 ∧ ∀ r ∈ l, RowK r
def Wp (x : D) : Prop := ∃ (n : Str) (hs : List D) (rs : D), x = .tup [.str n, .tup hs, rs] ∧ isName (.str n) = true ∧ hs.length ≤ 3 ∧ (∀ h ∈ hs, ∃ z, h = .str z ∧ isName (.str z) = true) ∧ RsW rs
def OddK (x : D) : Prop := x = .non ∨ x = .tup [] ∨ x = .lst [] ∨ x = .str "p" ∨ x = .int 7
def WL (pl : List D) : Prop := 1 ≤ pl.length ∧ pl.length ≤ 4 ∧ ∀ x ∈ pl, Wp x ∨ OddK x
def okSelf (at_ : Nat) (ahead : List Str) (x : D) : Bool := isProc x && !decide (nameOf x ∈ ahead) && !(decide (at_ = 0) && decide (0 < parsLen x))
def jump : D → Bool
  | .tup (.str w :: _) => decide (w ∈ (["if", "go"] : List Str))
  | _ => false
theorem rowk_row {r : D} (h : RowK r) : isRow r = decide (tgt r ≤ 11) := by
  have o : ∀ {a : D}, OpK a → isOperand a = true := fun ha => by
    rcases ha with ⟨x, rfl, hx⟩ | ⟨n, hn, rfl⟩
    · unfold isOperand
      rw [hx]
      exact Bool.or_true _
    · simp only [isOperand, isWithin, isName, Bool.or_false, Bool.and_eq_true, decide_eq_true_eq]
      omega
  cases h with
  | @set x op a b h1 h2 h3 h4 =>
    have e : tgt (.tup [.str "set", .str x, .str op, a, b]) = 0 := rfl
    rw [e]
    show (isName (.str x) && isOp (.str op) && isOperand a && isOperand b) = true
    rw [h1, o h3, o h4, show isOp (.str op) = true from decide_eq_true h2]
    rfl
  | @copy x a h1 h2 =>
    have e : tgt (.tup [.str "copy", .str x, a]) = 0 := by rcases h2 with ⟨y, rfl, _⟩ | ⟨n, _, rfl⟩ <;> rfl
    rw [e]
    show (isName (.str x) && isOperand a) = true
    rw [h1, o h2]
    rfl
  | @get x h1 => exact h1
  | @out a h1 =>
    have e : tgt (.tup [.str "out", a]) = 0 := by rcases h1 with ⟨y, rfl, _⟩ | ⟨n, _, rfl⟩ <;> rfl
    rw [e]
    show (true && isOperand a) = true
    rw [o h1]
    rfl
  | @back a h1 =>
    have e : tgt (.tup [.str "back", a]) = 0 := by rcases h1 with ⟨y, rfl, _⟩ | ⟨n, _, rfl⟩ <;> rfl
    rw [e]
    show (true && isOperand a) = true
    rw [o h1]
    rfl
  | @cond a t h1 h2 =>
    have e : tgt (.tup [.str "if", a, .int (t : Int)]) = t := rfl
    rw [e]
    show (isOperand a && (decide (0 ≤ (t : Int)) && decide ((t : Int) ≤ 11))) = decide ((t : Int) ≤ 11)
    rw [o h1, decide_eq_true (show (0 : Int) ≤ t by omega)]
    rfl
  | @go t h1 =>
    have e : tgt (.tup [.str "go", .int (t : Int)]) = t := rfl
    rw [e]
    show (decide (0 ≤ (t : Int)) && decide ((t : Int) ≤ 11)) = decide ((t : Int) ≤ 11)
    rw [decide_eq_true (show (0 : Int) ≤ t by omega)]
    rfl
  | @call x c os h1 h2 h3 h4 =>
    show (isName (.str x) && isName (.str c) && (decide ((os.length : Int) ≤ 2) && os.all isOperand)) = true
    rw [h1, h2, decide_eq_true (show ((os.length : Int)) ≤ 2 by omega), List.all_eq_true.mpr fun a ha => o (h4 a ha)]
    rfl
theorem rowk_led {r : D} (h : RowK r) {m : Int} (hm : 1 ≤ m) : isLed m r = decide (tgt r < m) := by
  cases h with
  | @set x op a b h1 h2 h3 h4 => exact (decide_eq_true (show (0 : Int) < m by omega)).symm
  | @copy x a h1 h2 =>
    rcases h2 with ⟨y, rfl, _⟩ | ⟨n, _, rfl⟩ <;> exact (decide_eq_true (show (0 : Int) < m by omega)).symm
  | @get x h1 => exact (decide_eq_true (show (0 : Int) < m by omega)).symm
  | @out a h2 => rcases h2 with ⟨y, rfl, _⟩ | ⟨n, _, rfl⟩ <;> exact (decide_eq_true (show (0 : Int) < m by omega)).symm
  | @back a h2 => rcases h2 with ⟨y, rfl, _⟩ | ⟨n, _, rfl⟩ <;> exact (decide_eq_true (show (0 : Int) < m by omega)).symm
  | @cond a t h1 h2 => rfl
  | @go t h1 => rfl
  | @call x c os h1 h2 h3 h4 => exact (decide_eq_true (show (0 : Int) < m by omega)).symm
omit [TabCtx] in
theorem last_mem : ∀ {l : List D}, l ≠ [] → lastD l ∈ l
  | [], h => absurd rfl h
  | [x], _ => by simp [lastD]
  | _ :: x :: r, _ => List.mem_cons_of_mem _ (last_mem (l := x :: r) (by simp))
theorem ok12 : ∀ x : Str, x ∈ (["set", "copy", "get", "out", "back", "if", "go", "call", "add", "sub", "mul", "less"] : List Str) → (decide (x.length ≤ 100) && PyData.strOk x) = true := by decide +kernel
theorem rowk_good {r : D} {n : Nat} (h : RowK r) : gd (n + 2) r = true := by
  have s : ∀ {x : Str} {m : Nat}, x ∈ (["set", "copy", "get", "out", "back", "if", "go", "call", "add", "sub", "mul", "less"] : List Str) → gd m (.str x) = true := fun {x m} hx => by
    have e : gd m (.str x) = (decide (x.length ≤ 100) && PyData.strOk x) := by cases m <;> rfl
    rw [e]
    clear e
    revert hx
    exact ok12 x
  have opx : ∀ {x : Str} {m : Nat}, x ∈ OPS → gd m (.str x) = true := fun {x m} hx => s (by
    simp only [OPS, List.mem_cons, List.not_mem_nil, or_false] at hx ⊢
    rcases hx with rfl | rfl | rfl | rfl <;> simp)
  cases h with
  | set a b c d =>
      refine gd_tup (by simp) fun y hy => ?_
      simp only [List.mem_cons, List.not_mem_nil, or_false] at hy
      rcases hy with rfl | rfl | rfl | rfl | rfl
      · exact s (by simp)
      · exact name_gd a
      · exact opx b
      · exact c.gd
      · exact d.gd
  | copy a b =>
      refine gd_tup (by simp) fun y hy => ?_
      simp only [List.mem_cons, List.not_mem_nil, or_false] at hy
      rcases hy with rfl | rfl | rfl
      · exact s (by simp)
      · exact name_gd a
      · exact b.gd
  | get a =>
      refine gd_tup (by simp) fun y hy => ?_
      simp only [List.mem_cons, List.not_mem_nil, or_false] at hy
      rcases hy with rfl | rfl
      · exact s (by simp)
      · exact name_gd a
  | out b =>
      refine gd_tup (by simp) fun y hy => ?_
      simp only [List.mem_cons, List.not_mem_nil, or_false] at hy
      rcases hy with rfl | rfl
      · exact s (by simp)
      · exact b.gd
  | back b =>
      refine gd_tup (by simp) fun y hy => ?_
      simp only [List.mem_cons, List.not_mem_nil, or_false] at hy
      rcases hy with rfl | rfl
      · exact s (by simp)
      · exact b.gd
  | cond b c =>
      refine gd_tup (by simp) fun y hy => ?_
      simp only [List.mem_cons, List.not_mem_nil, or_false] at hy
      rcases hy with rfl | rfl | rfl
      · exact s (by simp)
      · exact b.gd
      · exact gd_small (by omega)
  | go c =>
      refine gd_tup (by simp) fun y hy => ?_
      simp only [List.mem_cons, List.not_mem_nil, or_false] at hy
      rcases hy with rfl | rfl
      · exact s (by simp)
      · exact gd_small (by omega)
  | call a b c d =>
      refine gd_tup (by simp) fun y hy => ?_
      simp only [List.mem_cons, List.not_mem_nil, or_false] at hy
      rcases hy with rfl | rfl | rfl | rfl
      · exact s (by simp)
      · exact name_gd a
      · exact name_gd b
      · exact gd_tup (by omega) fun z hz => (d z hz).gd
theorem wp_good {x : D} (h : Wp x) : gd 7 x = true := by
  obtain ⟨n, hs, rs, rfl, hn, h3, hh, l, hl, l13, hr⟩ := h
  refine gd_tup (n := 6) (by simp) fun y hy => ?_
  simp only [List.mem_cons, List.not_mem_nil, or_false] at hy
  rcases hy with rfl | rfl | rfl
  · exact name_gd hn
  · exact gd_tup (n := 5) (by omega) fun z hz => by
      obtain ⟨w', rfl, hz'⟩ := hh z hz
      exact name_gd hz'
  · rcases hl with rfl | rfl
    · exact gd_tup (n := 5) (by omega) fun r hr' => rowk_good (n := 3) (hr r hr')
    · exact gd_lst (n := 5) (by omega) fun r hr' => rowk_good (n := 3) (hr r hr')
theorem wk_good {x : D} (h : Wp x ∨ OddK x) : gd 7 x = true := by
  rcases h with h | h
  · exact wp_good h
  · rcases h with rfl | rfl | rfl | rfl | rfl <;> decide +kernel
/-- where the first parts have been passed, they are right -/
def SP (x : D) : Prop := ∃ (n : Str) (hs l : List D), x = .tup [.str n, .tup hs, .tup l] ∧ isName (.str n) = true ∧ hs.length ≤ 3 ∧ (∀ h ∈ hs, ∃ z, h = .str z ∧ isName (.str z) = true) ∧ 1 ≤ l.length ∧ l.length ≤ 13 ∧ ∀ r ∈ l, RowK r
theorem first_ok : ∀ {xs : List D} {k : Nat} {ah : List Str}, (∀ x ∈ xs, isProc x = true) → (keysOf xs).Nodup → (∀ x ∈ xs, nameOf x ∉ ah) → (k = 0 → ∀ x r, xs = x :: r → parsLen x = 0) → firstWrong k ah xs = .non
  | [], _, _, _, _, _, _ => rfl
  | x :: xs, k, ah, hp, nd, hn, h0 => by
    obtain ⟨n1, n2⟩ := List.nodup_cons.mp (show (Sum.inr (nameOf x) :: keysOf xs).Nodup from nd)
    unfold firstWrong
    rw [hp x List.mem_cons_self, if_neg (by decide), if_neg (hn x List.mem_cons_self), if_neg fun z => by have := h0 z.1 x xs rfl; omega]
    refine first_ok (fun y hy => hp y (List.mem_cons_of_mem _ hy)) n2 (fun y hy hm => ?_) (fun z => absurd z (by omega))
    rcases List.mem_append.mp hm with z | z
    · exact hn y (List.mem_cons_of_mem _ hy) z
    · exact n1 (by rw [← List.mem_singleton.mp z]; exact List.mem_map.mpr ⟨y, hy, rfl⟩)
theorem caller_ok {ks : List Key} {es : List D} : ∀ {xs : List D} {k : Nat}, (∀ x ∈ xs, ∀ r ∈ rowsOf x, badRow ks es r = false) → wrongCaller ks es k xs = .non
  | [], _, _ => rfl
  | x :: xs, k, h => by
    unfold wrongCaller
    rw [if_neg (by rw [List.any_eq_false.mpr fun r hr => by rw [h x List.mem_cons_self r hr]; decide]; decide)]
    exact caller_ok fun y hy => h y (List.mem_cons_of_mem _ hy)
theorem val_len {x : D} : ∀ {xs : List D}, (keysOf xs).Nodup → x ∈ xs → valD (keysOf xs) (lensOf xs) (Sum.inr (nameOf x)) = some (.int (parsLen x : Int))
  | y :: ys, nd, hx => by
    obtain ⟨n1, n2⟩ := List.nodup_cons.mp (show (Sum.inr (nameOf y) :: keysOf ys).Nodup from nd)
    show (if Sum.inr (nameOf y) = (Sum.inr (nameOf x) : Key) then some (D.int (parsLen y : Int)) else valD (keysOf ys) (lensOf ys) (Sum.inr (nameOf x))) = _
    rcases List.mem_cons.mp hx with rfl | hx
    · rw [if_pos rfl]
    · rw [if_neg, val_len n2 hx]
      intro e
      exact n1 (by rw [e]; exact List.mem_map.mpr ⟨x, hx, rfl⟩)
theorem last_app (b : D) : ∀ fr : List D, lastD (fr ++ [b]) = b
  | [] => rfl
  | [x] => rfl
  | x :: y :: r => by
    show lastD (y :: (r ++ [b])) = b
    exact last_app b (y :: r)
theorem part_proc {x : D} (h : PartK x) : isProc x = true := by
  obtain ⟨n, ps, rs, rfl, h1, h2, h3, h4, h5, a, fr, ha, e⟩ := h
  show (isName (.str n) && isPars (.tup ps) && (decide (1 ≤ rs.length) && decide (rs.length ≤ 12) && (rs.all isRow && lastWord (lastD rs)) && rs.all (isLed (rs.length : Int)))) = true
  have e1 : lastWord (lastD rs) = true := by rw [e, last_app]; rfl
  rw [h1, h2, decide_eq_true h4, decide_eq_true h3, e1, List.all_eq_true.mpr fun r hr => (by rw [rowk_row (h5 r hr).1]; exact decide_eq_true (by have := (h5 r hr).2; omega)),
    List.all_eq_true.mpr fun r hr => (by rw [rowk_led (h5 r hr).1 (by omega)]; exact decide_eq_true (h5 r hr).2)]
  rfl
theorem part_sp {x : D} (h : PartK x) : SP x := by
  obtain ⟨n, ps, rs, rfl, h1, h2, h3, h4, h5, _⟩ := h
  have nm : ∀ {d : D}, isName d = true → ∃ z, d = .str z ∧ isName (.str z) = true := fun {d} h => by
    cases d with
    | str z => exact ⟨z, rfl, h⟩
    | _ => cases h
  refine ⟨n, ps, rs, rfl, h1, ?_, ?_, h4, by omega, fun r hr => (h5 r hr).1⟩
  · match ps, h2 with
    | [], _ => simp
    | [_], _ => simp
    | [_, _], _ => simp
    | _ :: _ :: _ :: _, h => cases h
  · match ps, h2 with
    | [], _ => exact nofun
    | [a], h => exact fun y hy => by rw [List.mem_singleton.mp hy]; exact nm h
    | [a, b], h =>
      simp only [isPars, Bool.and_eq_true] at h
      exact fun y hy => by
        simp only [List.mem_cons, List.not_mem_nil, or_false] at hy
        rcases hy with rfl | rfl
        · exact nm h.1.1
        · exact nm h.1.2
    | _ :: _ :: _ :: _, h => cases h
theorem sp_wp {x : D} (h : SP x) : Wp x := by
  obtain ⟨n, hs, l, e, a1, a2, a3, a4, a5, a6⟩ := h
  exact ⟨n, hs, _, e, a1, a2, a3, l, .inl rfl, a5, a6⟩
theorem valid_of {pl : List D} (l1 : 1 ≤ pl.length) (l4 : pl.length ≤ 4) (part : ∀ x ∈ pl, PartK x) (nd : (keysOf pl).Nodup) (main : ∀ x r, pl = x :: r → parsLen x = 0)
    (call : ∀ x ∈ pl, ∀ r ∈ rowsOf x, ∀ c n, callOf r = some (c, n) → ∃ y ∈ pl.drop 1, nameOf y = c ∧ parsLen y = n) : ValidP pl := by
  have f0 : firstWrong 0 [] pl = .non := first_ok (fun x hx => part_proc (part x hx)) nd (fun _ _ => by simp) (fun _ => main)
  have nd1 : (keysOf (pl.drop 1)).Nodup := by
    unfold keysOf at nd ⊢
    rw [List.map_drop]
    exact nd.sublist (List.drop_sublist 1 _)
  refine ⟨gd_lst (n := 7) (by omega) fun x hx => wp_good (sp_wp (part_sp (part x hx))), l1, l4, ?_⟩
  have e : wrongOf pl = wrongCaller (keysOf (pl.drop 1)) (lensOf (pl.drop 1)) 0 pl := by unfold wrongOf; rw [f0]; rfl
  rw [e, caller_ok fun x hx r hr => ?_]
  · rfl
  · obtain ⟨n, ps, rs, rfl, _, _, _, _, h5, _⟩ := part x hx
    have hr' : r ∈ rs := hr
    have kr := (h5 r hr').1
    cases hc : callOf r with
    | none =>
      cases kr with
      | set a b c d => rcases c with ⟨y, rfl, _⟩ | ⟨n, _, rfl⟩ <;> rfl
      | copy a b => rcases b with ⟨y, rfl, _⟩ | ⟨n, _, rfl⟩ <;> rfl
      | get a => rfl
      | out b => rcases b with ⟨y, rfl, _⟩ | ⟨n, _, rfl⟩ <;> rfl
      | back b => rcases b with ⟨y, rfl, _⟩ | ⟨n, _, rfl⟩ <;> rfl
      | cond b c => rcases b with ⟨y, rfl, _⟩ | ⟨n, _, rfl⟩ <;> rfl
      | go c => rfl
      | call a b c d => cases hc
    | some cn =>
      obtain ⟨c, m⟩ := cn
      obtain ⟨y, hy, q1, q2⟩ := call _ hx r hr c m hc
      have hv := val_len nd1 hy
      rw [q1, q2] at hv
      cases kr with
      | set a b c d => rw [(RowP.set a b c d).call] at hc; cases hc
      | copy a b => rw [(RowP.copy a b).call] at hc; cases hc
      | get a => cases hc
      | out b => rw [(RowP.out b).call] at hc; cases hc
      | back b => rw [(back_k b).2] at hc; cases hc
      | cond b c => rw [cond_call] at hc; cases hc
      | go c => cases hc
      | @call x' c' os a b l o =>
        have hc' : some (c', os.length) = some (c, m) := hc
        cases hc'
        show (decide (("call" : Str) = "call") && (match valD (keysOf (pl.drop 1)) (lensOf (pl.drop 1)) (Sum.inr c) with | some (.int n) => !decide (n = (os.length : Int)) | _ => true)) = false
        rw [hv]
        simp
theorem prog_valid {pl : List D} (h : ProgK pl) : ValidP pl := valid_of h.len.1 (by have := h.len.2; omega) h.part h.nd h.main h.call
theorem part_rows {x : D} (h : PartK x) : ∃ (n : Str) (ps rs : List D), x = .tup [.str n, .tup ps, .tup rs] ∧ RowsG rs ∧ isName (.str n) = true := by
  obtain ⟨n, ps, rs, rfl, h1, h2, h3, h4, h5, h6⟩ := h
  exact ⟨n, ps, rs, rfl, ⟨⟨h3, h4⟩, h5, h6⟩, h1⟩
theorem prog_parts {pl : List D} (h : ProgK pl) : PartsG pl := ⟨by have := h.len.2; omega, fun x hx => part_rows (h.part x hx)⟩
theorem prog_s {pl : List D} (h : ProgK pl) : ProgS pl := by
  have v := prog_valid h
  refine ⟨by have := h.len.2; omega, fun x hx => part_proc (h.part x hx), h.nd, fun x hx => ?_, fun x hx => v.1.lst.2 x hx⟩
  obtain ⟨n, ps, rs, rfl, g, _⟩ := part_rows (h.part x hx)
  exact g
end
end K07

set_option maxHeartbeats 4000000
namespace DL
open PySem PySem.Spec PyProof.Rows L2 LamX
/-! the end of a law whose defs make lambdas and ask that nothing is being written -/
/-- as headG, with tables of code objects: tb, the code objects and their tables -/
theorem headTG {P : Program} {w : World} {K : PySem.W.Frag} {mg mb : Str → Option Value} {n : Nat} {fl a : Addr} {tb : List (Addr × Addr)} {fd : FuncData} {nm : Str} {sp : Sp} {t : Shared} {us : List Value} {ks : List Int}
    (inK : K.In t.heap) (top : t.heap.Ns mainGlobals mg) (blt : t.heap.Ns builtinsNs mb) (boot : ∀ y : Str, y ≠ "__name__" → mb y = bootBuiltins y) (free : t.heap.NoLimit) (none_ : t.gens = #[])
    (isTab : ∀ p ∈ tb, t.heap.get? p.2 = some { cls := .none, data := .fields #[] }) (notK : ∀ p ∈ tb, K.lookup p.2 = none) (code : ∀ p ∈ tb, PySem.W.CodeHd t.heap p.1 p.2)
    (bmain : ∃ (bm : Addr) (ob : Obj), mg "__builtins__" = some (.ref bm) ∧ bm ≠ builtinsNs ∧ t.heap.get? bm = some ob ∧ ob.cls = .type "module" ∧ ob.dict = some builtinsNs ∧ ob.data = .plain)
    (obj : t.heap.get? a = some { cls := .type "list", data := .seq us.toArray }) (are : IntsAre us ks) (few : ks.length ≤ sizeLine) (room : Room n callerA)
    (G : ∀ base : Heap, K.In base → base.Ns mainGlobals mg → (∀ p ∈ tb, TabB base mg p.1 p.2) → FnG P w K mg base CX0 n fl fd [nm] sp) (bind : ∀ (s : Shared) (u : Value), BindsTo s fd ⟨[u], []⟩ [(nm, u)])
    (told : ∀ H : Hp, (∀ p ∈ tb, H p.2 = some (.tbl #[])) → SqL K H a (ks.map V.int) → sp [.ref a] H (fun v _ => v = .bl true) fun _ _ _ => False) :
    codeAny (model P w) callerA (.call (.ref fl) ⟨[.ref a], []⟩) (fun z s' => z = .ok (.ret (.bool true)) ∧ OldK t.heap s'.heap ∧ s'.os = t.os ∧ AllBare s'.gens) t := by
  have vals := vals_ints are
  have lenU := are.length
  let ts : List Addr := tb.map fun p => p.2
  have inT : ∀ p ∈ tb, p.2 ∈ ts := fun p hp => List.mem_map.mpr ⟨p, hp, rfl⟩
  have tabAt : ∀ c, c ∈ ts → t.heap.get? c = some { cls := .none, data := .fields #[] } := fun c hc => by
    obtain ⟨p, hp, rfl⟩ := List.mem_map.mp hc
    exact isTab p hp
  have aOff : a ∉ ts := fun hc => by
    have q := tabAt a hc
    rw [obj] at q
    cases q
  have main : ∀ H : Hp, (∀ p ∈ tb, H p.2 = some (.tbl #[])) → (∀ c, H c = none ∨ c ∈ ts ∨ ∃ ob ys, H c = some (.frz ob (.lst ys))) → SqL K H a (ks.map V.int) → HOk P w H t.heap → (∀ c, H c ≠ none → c = a ∨ c ∈ ts) → (H a ≠ none → K.lookup a = none) →
      codeAny (model P w) callerA (.call (.ref fl) ⟨[.ref a], []⟩) (fun z s' => z = .ok (.ret (.bool true)) ∧ OldK t.heap s'.heap ∧ s'.os = t.os ∧ AllBare s'.gens) t := by
    intro H hTb only seq ho isA nk
    have under : ∀ {c : Addr} {o : Obj}, t.heap.get? c = some o → H c = none → (hidT t.heap H).get? c = some o := fun z m => hidT_get z m
    have unH : ∀ {c : Addr} {o : Obj}, t.heap.get? c = some o → (∀ vs m, o.data ≠ .seq vs m) → o.data ≠ .fields #[] → H c = none := fun {c o} z h1 h2 => by
      match q : H c with
      | none => rfl
      | some u =>
        rcases isA c (by rw [q]; exact Option.some_ne_none u) with e | e
        · subst e
          rw [obj] at z
          cases z
          exact absurd rfl (h1 _ _)
        · rw [tabAt c e] at z
          cases z
          exact absurd rfl h2
    have dictFree : ∀ {c : Addr} {o : Obj} {ents : Array DictEntry} {ep : Nat}, t.heap.get? c = some o → o.data = .dict ents ep → H c = none := fun z d => unH z (fun vs m y => by rw [d] at y; cases y) fun y => by rw [d] at y; cases y
    have nsUnder : ∀ {c : Addr} {m : Str → Option Value}, t.heap.Ns c m → (hidT t.heap H).Ns c m := by
      rintro c m ⟨o, ents, ep, z, d, r⟩
      exact ⟨o, ents, ep, under z (dictFree z d), d, r⟩
    have inUnder : K.In (hidT t.heap H) := by
      intro c o z
      refine under (inK c o z) ?_
      match q : H c with
      | none => rfl
      | some u =>
        have ne : H c ≠ none := by rw [q]; exact Option.some_ne_none u
        rcases isA c ne with e | e
        · subst e
          rw [nk ne] at z
          cases z
        · obtain ⟨p, hp, rfl⟩ := List.mem_map.mp e
          rw [notK p hp] at z
          cases z
    have TB : ∀ p ∈ tb, TabB (hidT t.heap H) mg p.1 p.2 := fun p hp => by
      have hp2 := isTab p hp
      have notMain : mainGlobals ≠ p.2 := fun z => by
        obtain ⟨o, ents, ep, e, d, _⟩ := top
        rw [z, hp2] at e
        cases e
        cases d
      refine ⟨?_, ?_, notMain⟩
      · obtain ⟨o, us2, f1, f2, f3, f4, f5, f6, f7, e1, r1, r2, r3, rest⟩ := code p hp
        exact ⟨o, us2, f1, f2, f3, f4, f5, f6, f7, under e1 (unH e1 (fun vs m z => by rw [r2] at z; cases z) fun z => by rw [r2] at z; cases z; simp at r3), r1, r2, r3, rest⟩
      · obtain ⟨bm, ob, b1, b2, b3, b4, b5, b6⟩ := bmain
        have n1 : bm ≠ mainGlobals := fun q => by
          obtain ⟨o, ents, ep, e, d, _⟩ := top
          rw [q, e] at b3
          cases b3
          rw [d] at b6
          cases b6
        have n2 : bm ≠ p.2 := fun q => by
          rw [q, hp2] at b3
          cases b3
          cases b6
        exact ⟨bm, ob, b1, b2, n1, n2, under b3 (unH b3 (fun vs m z => by rw [b6] at z; cases z) fun z => by rw [b6] at z; cases z), b4, b5, b6⟩
    obtain ⟨mc, lim1, lim2⟩ := free
    have modU : Mod K mg (hidT t.heap H) := ⟨inUnder, nsUnder top, ⟨mb, nsUnder blt, boot⟩, ⟨mc, nsUnder lim1, lim2⟩⟩
    have env0 : Env0 P w K mg (hidT t.heap H) callerA [] t H := ⟨rfl, modU, fun c o z => of_hidT z, Nat.le_of_eq (hidT_size _ _), trivial, fun c hc => (List.not_mem_nil hc).elim, ho, .of_eq none_⟩
    refine codeAny_mono ((G _ inUnder (nsUnder top) TB).go callerA [] t H ⟨[.ref a], []⟩ [.ref a] [.ref a] _ _ rfl room env0 (bind t (.ref a)) (.cons rfl .nil) (told H hTb seq)) fun z s' h => ?_
    match z, h with
    | .error e, h => exact False.elim h
    | .ok .next, h => exact False.elim h
    | .ok .brk, h => exact False.elim h
    | .ok .cont, h => exact False.elim h
    | .ok (.ret u), h =>
      obtain ⟨v, H', os', bare', un', ho', rel, ev⟩ := h
      have ev' : v = .bl true := ev
      subst ev'
      obtain rfl : u = Value.bool true := rel
      have same : ∀ c o, c ∉ ts → t.heap.get? c = some o → s'.heap.get? c = some o := fun c o nc z => by
        match q : H c with
        | none => exact un'.keep c o z q (fun y => List.not_mem_nil (show c ∈ ([] : List Addr) from y)) List.not_mem_nil
        | some u =>
          rcases only c with y | y | ⟨ob, ys, y⟩
          · rw [q] at y
            cases y
          · exact absurd y nc
          · obtain ⟨z1, _⟩ := ho c _ y
            obtain ⟨z2, _⟩ := ho' c _ (un'.frzs c ob _ y)
            rw [z] at z1
            cases z1
            exact z2
      have more : ∀ p ∈ tb, ∃ vs : Array Value, s'.heap.get? p.2 = some { cls := .none, data := .fields vs } := fun p hp => by
        obtain ⟨vs, y⟩ := un'.tbls p.2 #[] (hTb p hp)
        exact ⟨_, ho' p.2 _ y⟩
      refine ⟨rfl, ⟨fun c o z => ?_, fun c o z => ?_⟩, os', bare'⟩
      · by_cases hc : c ∈ ts
        · obtain ⟨p, hp, rfl⟩ := List.mem_map.mp hc
          obtain ⟨vs, hv⟩ := more p hp
          rw [isTab p hp] at z
          cases z
          exact .inr (.inl ⟨((code p hp).tab (isTab p hp)).isCodeTable, rfl, #[], vs, rfl, by rw [Array.empty_append]; exact hv⟩)
        · exact .inl (same c o hc z)
      · by_cases hc : c ∈ ts
        · obtain ⟨p, hp, rfl⟩ := List.mem_map.mp hc
          obtain ⟨vs, hv⟩ := more p hp
          exact ⟨_, hv⟩
        · exact ⟨o, same c o hc z⟩
  match kl : K.lookup a with
  | some o =>
    have z := inK a o kl
    rw [obj] at z
    cases z
    let H : Hp := fun c => if c ∈ ts then some (.tbl #[]) else none
    have onT : ∀ c, c ∈ ts → H c = some (.tbl #[]) := fun c hc => if_pos hc
    have off : ∀ c, c ∉ ts → H c = none := fun c hc => if_neg hc
    refine main H (fun p hp => onT _ (inT p hp)) (fun c => ?_) (.inr ⟨_, us.toArray, _, kl, rfl, rfl, rfl, by rw [List.size_toArray, lenU]; exact few, by simpa using vals⟩) (fun c u y => ?_) (fun c y => ?_) fun y => absurd (off a aOff) y
    · by_cases hc : c ∈ ts
      · exact .inr (.inl hc)
      · exact .inl (off c hc)
    · by_cases hc : c ∈ ts
      · rw [onT c hc] at y
        cases y
        exact tabAt c hc
      · rw [off c hc] at y
        cases y
    · by_cases hc : c ∈ ts
      · exact .inr hc
      · exact absurd (off c hc) y
  | none =>
    let H : Hp := fun c => if c = a then some (.frz { cls := .type "list", data := .seq us.toArray } (.lst (ks.map V.int))) else if c ∈ ts then some (.tbl #[]) else none
    have atA : H a = some (.frz { cls := .type "list", data := .seq us.toArray } (.lst (ks.map V.int))) := if_pos rfl
    have onT : ∀ c, c ∈ ts → H c = some (.tbl #[]) := fun c hc => (if_neg (show ¬ c = a from fun z => aOff (z ▸ hc))).trans (if_pos hc)
    have off : ∀ c, c ≠ a → c ∉ ts → H c = none := fun c h1 h2 => (if_neg h1).trans (if_neg h2)
    refine main H (fun p hp => onT _ (inT p hp)) (fun c => ?_) (.inl (.inr ⟨_, atA⟩)) (fun c u y => ?_) (fun c y => ?_) fun _ => kl
    · by_cases h1 : c = a
      · rw [h1]
        exact .inr (.inr ⟨_, _, atA⟩)
      · by_cases h2 : c ∈ ts
        · exact .inr (.inl h2)
        · exact .inl (off c h1 h2)
    · by_cases h1 : c = a
      · subst h1
        rw [atA] at y
        cases y
        exact ⟨obj, by rw [List.length_map]; exact few, us, _, vals, obj⟩
      · by_cases h2 : c ∈ ts
        · rw [onT c h2] at y
          cases y
          exact tabAt c h2
        · rw [off c h1 h2] at y
          cases y
    · by_cases h1 : c = a
      · exact .inl h1
      · by_cases h2 : c ∈ ts
        · exact .inr h2
        · exact absurd (off c h1 h2) y
/-- what is known of such a law at its head's heap -/
def LawTG (l : PySem.W.OpenLaw) (w : World) (K : PySem.W.Frag) (n most : Nat) (nm : Str) (mg : Str → Option Value) (fl : Addr) (h : Heap) : Prop :=
  ∃ (fd : FuncData) (tb : List (Addr × Addr)) (sp : Sp), (∀ p ∈ tb, h.get? p.2 = some { cls := .none, data := .fields #[] }) ∧ (∀ p ∈ tb, K.lookup p.2 = none) ∧ (∀ p ∈ tb, PySem.W.CodeHd h p.1 p.2) ∧ (∀ (s : Shared) (u : Value), BindsTo s fd ⟨[u], []⟩ [(nm, u)]) ∧
    (∀ (H : Hp) (a : Addr) (ks : List Int), ks.length ≤ most → (∀ p ∈ tb, H p.2 = some (.tbl #[])) → SqL K H a (ks.map V.int) → sp [.ref a] H (fun v _ => v = .bl true) fun _ _ _ => False) ∧
    ∀ base : Heap, K.In base → base.Ns mainGlobals mg → (∀ p ∈ tb, TabB base mg p.1 p.2) → FnG l.prog w K mg base CX0 n fl fd [nm] sp
theorem walkTG {l : PySem.W.OpenLaw} {most n : Nat} {q : Program} {loose : List Str} {XP : (Str → Option Value) → Heap → Prop} {YP : World → Heap → Prop} {d : DefRec} {K : Params → PySem.W.Frag} {nm : Str}
    (hm : l.most = some most) (hs : most ≤ sizeLine) (nodef : d.params.defaults = []) (room : Room n callerA) (parts : ∀ (w : World) (h : Heap), YP w h → (K w.params).In h)
    (F : ∀ (w : World) (mg : Str → Option Value) (fl : Addr) (h : Heap), YP w h → (K w.params).In h → h.Ns mainGlobals mg → mg d.name = some (.ref fl) → LawTG l w (K w.params) n most nm mg fl h) :
    PySem.W.WalkO q loose XP YP l.row.toRowW d [] (fun f vs => PySem.call f vs) := by
  refine Att.attach_call hm nodef fun w s₀ t mg mb fl o pm cd doc a us ks Gr Y _ _ _ hmg obj are len gens => ?_
  have inK := parts w _ Y
  obtain ⟨fd, tb, sp, hT, nT, C, hb, hsp, hF⟩ := F w mg fl _ Y inK Gr.T.g hmg
  exact headTG inK Gr.T.g Gr.T.b Gr.T.builtins Gr.T.nolimit gens hT nT C Gr.T.bmain obj are (Nat.le_trans len hs) room hF hb fun H hH seq => hsp H a ks len hH seq
end DL

set_option maxHeartbeats 4000000
namespace DL
open PySem PySem.Spec PyProof.Rows L2
variable [TabCtx]
/-! ### a list that is held for a while and let go within the block -/
abbrev WHR := Sl → List D → (Sl → Prop) → (D → Prop) → (Addr → D → Prop) → Prop
def tHR (E : XK) (i : Nat) (G : WHR) : TS := fun Dn σ H => ∃ (O : Ow) (p : Addr) (vs : List V) (ds : Sl) (dv : List D) (N : Sl → Prop) (R : DL.D → Prop) (Z : Addr → DL.D → Prop), Out O p ∧ ds[i]? = some (some (.fn p)) ∧ Hd O p vs H σ ds dv ∧ G ds dv N R Z ∧
  (∀ ds', N ds' → ∀ σ' H', ExtH O p H H' → SlD O H' σ' ds' → Dn.nx σ' H') ∧ (∀ d, R d → ∀ v H', ExtH O p H H' → Dq O H' v d → Dn.rt v H') ∧
  ∀ C d, Z C d → ∀ dx v H', ExtH O p H H' → Out O dx → H' dx = some (.xd [("told", v)]) → Dq O H' v d → E (.ref C) (some dx) H'
def gSeqHR (G1 : WH) (F : WHR) : WHR := fun ds dv N R Z => G1 ds dv (fun ds' dv' => F ds' dv' N R Z) R Z
def gFree (i : Nat) (G : WS) : WHR := fun ds dv N R Z => G (seen i ds dv) N R Z
def gAccR (i : Nat) (W : WF) (G : WHR) : WS := fun ds N R Z => i < ds.length ∧ W ds fun es => ∀ p, G (ds.set i (some (.fn p))) es N R Z
section
variable {X : Cx} {E : XK} {st : Stmt} {rest : List Stmt} {G1 : WH} {F : WHR} {G : WS} {W : WF} {i : Nat} {e : Expr}
theorem hr_cons (h1 : PS X st (tHW E i G1)) (h2 : PSs X rest (tHR E i F)) : PSs X (st :: rest) (tHR E i (gSeqHR G1 F)) :=
  PSs.weak (pss_cons h1 h2) fun D σ H ⟨O, p, vs, ds, dv, N, R, Z, op, hi, hd, hG, hN, hR, hZ⟩ => ⟨O, p, vs, ds, dv, _, R, Z, op, hi, hd, hG, fun ds' dv' h vs' σ' H' e hi' hd' =>
    ⟨O, p, vs', ds', dv', N, R, Z, op, hi', hd', h, fun ds2 h2 σ2 H2 e2 s2 => hN ds2 h2 σ2 H2 (e.trans e2) s2, fun d h v H2 e2 q => hR d h v H2 (e.trans e2) q, fun C d h dx v H2 e2 ox => hZ C d h dx v H2 (e.trans e2) ox⟩, hR, hZ⟩
theorem hr_free (h : PSs X rest (tSW E G)) : PSs X rest (tHR E i (gFree i G)) :=
  PSs.weak h fun D σ H ⟨O, p, vs, ds, dv, N, R, Z, op, hi, hd, hG, hN, hR, hZ⟩ => ⟨O, _, N, R, Z, hd.seen op hi, hd.ow.less, hG, fun ds' hd' σ' H' e s => hN ds' hd' σ' H' (.free e) s, fun d h v H' e q => hR d h v H' (.free e) q, fun C d h dx v H' e ox => hZ C d h dx v H' (.free e) ox⟩
theorem wss_accR {x : Str} {pos pos' : Pos} (hN : X.N.Nodup) (hi : X.N[i]? = some x) (hx : Loc X.env.scope x) (he : PE X e (tFW W)) (hr : PSs X rest (tHR E i F)) (hs : swapsWith e (some (.Name x pos')) pos.line X.env = pure false := by rfl)
    (hf : X.fn x = true ∨ X.env.scope.names.lookup x = some .local := by first | exact .inl rfl | exact .inr rfl) : PSs X (.Assign [.Name x pos'] e pos :: rest) (tSW E (gAccR i W F)) :=
  PSs.weak (pss_cons (ps_set hN hi hx he hs hf) hr) fun D σ H ⟨O, ds, N, R, Z, hS, hO, ⟨hl, hG⟩, hNx, hR, hZ⟩ => ⟨O, ds, _, hS, hO, hG, fun es hes p vs H' op np e1 hp hq => by
    have kk : ∀ b o, Out (O ++ [(p, Own.hold (HO.lst vs))]) b → H b = some o → NT o → H' b = some o := fun b o x hh t => e1.keep b o x.hold_out hh t
    exact ⟨O, p, vs, ds.set i (some (.fn p)), es, N, R, Z, op, List.getElem?_set_self hl, ⟨((hS.more np).keep kk).set i (.fn p), hq, OwnAll.hold (hO.mono e1) op hp⟩, hes p,
      fun ds' h σ2 H2 e2 s2 => hNx _ h σ2 H2 (e2.drop e1 np) s2, fun d h v H2 e2 q => hR d h v H2 (e2.drop e1 np) q, fun C d h dx v H2 e2 ox => hZ C d h dx v H2 (e2.drop e1 np) ox⟩⟩
end
theorem accR_cut {i : Nat} {W : WF} {G : WHR} {ds : Sl} {N : Sl → Prop} {R : D → Prop} {Z : Addr → D → Prop} (S : List D → Prop) (hi : i < ds.length) (h1 : ∀ Q' : List D → Prop, (∀ x, S x → Q' x) → W ds Q') (h2 : ∀ x, S x → ∀ p, G (ds.set i (some (.fn p))) x N R Z) : gAccR i W G ds N R Z :=
  ⟨hi, h1 _ fun x hx p => h2 x hx p⟩
theorem seqHR_cut {G : WH} {F : WHR} {ds : Sl} {dv : List D} {N : Sl → Prop} {R : D → Prop} {Z : Addr → D → Prop} (S : Sl → List D → Prop) (h1 : ∀ N' : Sl → List D → Prop, (∀ ds dv, S ds dv → N' ds dv) → G ds dv N' R Z) (h2 : ∀ ds dv, S ds dv → F ds dv N R Z) : gSeqHR G F ds dv N R Z :=
  h1 _ h2
end DL

set_option maxHeartbeats 2000000
namespace K07
open PySem PySem.Spec PyProof.Rows L2 DL
variable [TabCtx]
local macro_rules | `(tactic| walk_at "red") => `(tactic| simp only [gRetG, gSeqHF, dInI, dNotIn, fIsC2, gFor3, gForH3, gStoreH, fwSortSet, wzMeth, wFell, fwCat, gForELH, wDGet2, fDict, dRepT, gSeqF, gSeqHF, gDoneF, gAccF, fwIf, gParAcc, gForHS, dRep, wDNIn, wD0, gClearH, fIsC, dNeI, DL.tyD_dct, DL.isInt_dct, DL.isStr_dct, DL.isBl_dct, DL.isTup_dct, DL.isLst_dct, wSortC, gExtH, fwList, wiSeq, seqOf_lst, seqOf_tup, wiAny, wzE, wzOpL, wzIf, gzRet, gzSet, gzDrop, gPar, wLcZ, wiZip, wTupRg3, wiRg3, fMin, fAbs, fMaxL, fMinL, gUn2, gUn3, gUn2L, gFor2L, wLcI, wLam3, gSrc, or_false, false_or, exists_false, false_and, and_false, wDc3, gAcc, gSeqH, gForEH, gForE, gForH, gIfH, gLift, gNextH, gAppendH, gAppend, gDone, gSetH, DL.seen, dIsN, dNotN, wDc, wFld, wMeth, wDIn, wDIx, wDGetN, wNew, wzNew, wLcI, gField, gCL, fLenQ, dIxQ, wNeK, wIndex, gTryRet, gTryDrop, wzCall, wzCallL, wTold, fIsE, fRepr, wJoin, wDGet, wVals, dPow, wSrc, gSrcSet, dMulS, dFdivS, fInt, fMax, fTuple, fList, startD, gNext, gSeq, gRet, gSet, gIf, gDrop, gRaise, gFor, wVar, wC, wOp, wTest, wChain, wAnd, wOr, wNot, wtAnd, wtOr, wtNot, wIf, waNil, waCons, wTup, wLst, wCall, quiet, wIsi, wInK, wLc, wiStr, wiTup, wiLst, wiRange, wSl, woNone, woSome, dSl, wNeg, dNeg, fLen, fAll, dEq, dNe, dLe, dLt, dGe, dGt, dAdd, dSub, dMod, dIx, dIn, dIsB, strsOf, boolsOf, DL.tyD_non, at_0, at_1, at_2, at_3, at_4, DL.isInt_non, DL.isStr_non, DL.isBl_non, DL.isTup_non, DL.isLst_non, DL.tyD_bl, DL.isInt_bl, DL.isStr_bl, DL.isBl_bl, DL.isTup_bl, DL.isLst_bl, DL.tyD_int, DL.isInt_int, DL.isStr_int, DL.isBl_int, DL.isTup_int, DL.isLst_int, DL.tyD_str, DL.isInt_str, DL.isStr_str, DL.isBl_str, DL.isTup_str, DL.isLst_str, DL.tyD_lst, DL.isInt_lst, DL.isStr_lst, DL.isBl_lst, DL.isTup_lst, DL.isLst_lst, DL.tyD_tup, DL.isInt_tup, DL.isStr_tup, DL.isBl_tup, DL.isTup_tup, DL.isLst_tup, pure1, pure2, pure3, Option.map_some,
  List.map_cons, List.map_nil, List.length_cons, List.length_nil, List.cons_append, List.nil_append, List.getElem?_cons_zero, List.getElem?_cons_succ, Option.some.injEq, exists_eq_left', exists_eq_left, exists_eq_right, exists_eq_right', D.bl.injEq, D.int.injEq, D.str.injEq, D.tup.injEq, D.lst.injEq, D.fn.injEq, D.sq.injEq, D.exn.injEq, List.cons.injEq, and_true, true_and, and_self, exists_and_left, exists_and_right, Option.isSome_some, List.set_cons_zero, List.set_cons_succ, if_true, Bool.false_eq_true, if_false, Bool.not_true, Bool.not_false, reduceCtorEq, List.replicate, Nat.reduceSub, Nat.reduceAdd])
section
variable {P : Program} {w : World} {K : PySem.W.Frag} {mg : Str → Option Value} {base : Heap}
/-! what is told may be compared and written -/
theorem gs_num {n : Nat} {i : Nat} (h : i ≤ 100) : gs n (.int (i : Int)) = true := by
  have e : gs n (.int (i : Int)) = decide ((i : Int).natAbs.log2 < 200) := by cases n <;> rfl
  rw [e, Int.natAbs_natCast, decide_eq_true]
  have all : ∀ i : Nat, i ≤ 100 → i.log2 < 200 := by decide +kernel
  exact all i h
theorem gs_name {n : Nat} {x : Str} (h : isName (.str x) = true) : gs n (.str x) = true := by
  have e : gs n (.str x) = (decide (x.length ≤ 20) && PyData.strOk x) := by cases n <;> rfl
  have g := name_gd (n := 0) h
  have e2 : gd 0 (.str x) = (decide (x.length ≤ 100) && PyData.strOk x) := rfl
  rw [e2, Bool.and_eq_true] at g
  simp only [isName, Bool.and_eq_true, decide_eq_true_eq] at h
  rw [e, decide_eq_true (by omega), g.2]
  rfl
theorem toD_gs {n : Nat} {x : Str} {p : Pr} (h : isName (.str x) = true) (h1 : p.1 ≤ 100) (h2 : p.2 ≤ 100) : gs (n + 1) (toD x p) = true := by
  show (decide ((3 : Nat) ≤ 12) && (gs n (.str x) && (gs n (.int p.1) && (gs n (.int p.2) && true)))) = true
  rw [gs_name h, gs_num h1, gs_num h2]
  decide
theorem lots_rp {pl : List D} (g : PartsG pl) : Rp (.lst (lotsOf pl)) := by
  refine Rp.lst (fun d hd => ?_) ?_
  · unfold lotsOf at hd
    obtain ⟨x, hx, hd⟩ := List.mem_flatMap.mp hd
    obtain ⟨n, ps, rs, rfl, gr, gn⟩ := g.2 x hx
    obtain ⟨p, hp, rfl⟩ := List.mem_map.mp hd
    have := str_rng rs p hp
    have := gr.len.1
    exact toD_gs gn (by omega) (by omega)
  · refine Nat.le_trans (lots_few pl fun x hx => ?_) (by have := g.1; omega)
    obtain ⟨n, ps, rs, rfl, gr, _⟩ := g.2 x hx
    exact gr.len.1
theorem beg_rp {rs : List D} (h : rs.length ≤ 12) : Rp (.lst ((begN rs).map fun (j : Nat) => D.int j)) := by
  have few : (begN rs).length ≤ 12 := Nat.le_trans (List.length_filter_le _ _) (by rw [List.length_range]; exact h)
  refine Rp.lst (fun d hd => ?_) (by rw [List.length_map]; omega)
  obtain ⟨j, hj, rfl⟩ := List.mem_map.mp hd
  have := List.mem_range.mp (List.mem_filter.mp hj).1
  exact gs_num (by omega)
theorem at_rp {n : Str} {rs : List D} {i : Nat} (gn : isName (.str n) = true) (h : rs.length ≤ 12) : Rp (strAt n rs i) := by
  refine Rp.sm ?_
  unfold strAt
  cases e : (strOf rs).filter (cont i) with
  | nil => exact (show gs 3 .non = true from rfl)
  | cons p l =>
    have hp : p ∈ (strOf rs).filter (cont i) := by rw [e]; exact List.mem_cons_self
    have := str_rng rs p (List.mem_filter.mp hp).1
    exact toD_gs gn (by omega) (by omega)
/-- the lots of a procedure about a row -/
def sel (n : Str) (i : Nat) : D → Bool
  | .tup [.str m, .int a, .int b] => decide (m = n) && (decide (a ≤ (i : Int)) && decide ((i : Int) ≤ b))
  | _ => false
theorem sel_toD (n m : Str) (i : Nat) (p : Pr) : sel n i (toD m p) = (decide (m = n) && cont i p) := by
  show (decide (m = n) && (decide ((p.1 : Int) ≤ (i : Int)) && decide ((i : Int) ≤ (p.2 : Int)))) = _
  unfold cont
  have e1 : decide ((p.1 : Int) ≤ (i : Int)) = decide (p.1 ≤ i) := by by_cases h : p.1 ≤ i <;> simp [h]
  have e2 : decide ((i : Int) ≤ (p.2 : Int)) = decide (i ≤ p.2) := by by_cases h : i ≤ p.2 <;> simp [h]
  rw [e1, e2]
theorem sel_off {n : Str} {i : Nat} : ∀ {pl : List D}, (∀ x ∈ pl, nameOf x ≠ n) → (lotsOf pl).filter (sel n i) = []
  | [], _ => rfl
  | x :: pl, h => by
    have ih := sel_off (n := n) (i := i) fun y hy => h y (List.mem_cons_of_mem _ hy)
    unfold lotsOf at ih ⊢
    rw [List.flatMap_cons, List.filter_append, ih, List.append_nil, List.filter_eq_nil_iff]
    intro d hd
    obtain ⟨p, _, rfl⟩ := List.mem_map.mp hd
    rw [sel_toD, decide_eq_false (h x List.mem_cons_self)]
    simp
theorem sel_on {i : Nat} {x : D} : ∀ {pl : List D}, (keysOf pl).Nodup → x ∈ pl → (lotsOf pl).filter (sel (nameOf x) i) = ((strOf (rowsOf x)).filter (cont i)).map (toD (nameOf x))
  | y :: pl, nd, hx => by
    obtain ⟨n1, n2⟩ := List.nodup_cons.mp (show (Sum.inr (nameOf y) :: keysOf pl).Nodup from nd)
    have own : ((strOf (rowsOf x)).map (toD (nameOf x))).filter (sel (nameOf x) i) = ((strOf (rowsOf x)).filter (cont i)).map (toD (nameOf x)) := by
      rw [List.filter_map]
      congr 1
      refine List.filter_congr fun p _ => ?_
      show sel (nameOf x) i (toD (nameOf x) p) = _
      rw [sel_toD, decide_eq_true rfl, Bool.true_and]
    have cons : lotsOf (y :: pl) = (strOf (rowsOf y)).map (toD (nameOf y)) ++ lotsOf pl := by unfold lotsOf; rw [List.flatMap_cons]
    rw [cons, List.filter_append]
    rcases List.mem_cons.mp hx with rfl | hx
    · rw [own, sel_off (fun z hz e => n1 (List.mem_map.mpr ⟨z, hz, by rw [e]⟩)), List.append_nil]
    · have ne : nameOf y ≠ nameOf x := fun e => n1 (List.mem_map.mpr ⟨x, hx, by rw [e]⟩)
      rw [sel_on n2 hx]
      have : ((strOf (rowsOf y)).map (toD (nameOf y))).filter (sel (nameOf x) i) = [] := by
        rw [List.filter_eq_nil_iff]
        intro d hd
        obtain ⟨p, _, rfl⟩ := List.mem_map.mp hd
        rw [sel_toD, decide_eq_false ne]
        simp
      rw [this, List.nil_append]
end
end K07

set_option maxHeartbeats 4000000
namespace K07
open PySem PySem.Spec PyProof.Rows L2 DL
variable [TabCtx]
local macro_rules | `(tactic| walk_at "red") => `(tactic| simp only [gFree, gSeqHR, gAccR, gRetG, gSeqHF, dInI, dNotIn, fIsC2, gFor3, gForH3, gStoreH, fwSortSet, wzMeth, wFell, fwCat, gForELH, wDGet2, fDict, dRepT, gSeqF, gSeqHF, gDoneF, gAccF, fwIf, gParAcc, gForHS, dRep, wDNIn, wD0, gClearH, fIsC, dNeI, DL.tyD_dct, DL.isInt_dct, DL.isStr_dct, DL.isBl_dct, DL.isTup_dct, DL.isLst_dct, wSortC, gExtH, fwList, wiSeq, seqOf_lst, seqOf_tup, wiAny, wzE, wzOpL, wzIf, gzRet, gzSet, gzDrop, gPar, wLcZ, wiZip, wTupRg3, wiRg3, fMin, fAbs, fMaxL, fMinL, gUn2, gUn3, gUn2L, gFor2L, wLcI, wLam3, gSrc, or_false, false_or, exists_false, false_and, and_false, wDc3, gAcc, gSeqH, gForEH, gForE, gForH, gIfH, gLift, gNextH, gAppendH, gAppend, gDone, gSetH, DL.seen, dIsN, dNotN, wDc, wFld, wMeth, wDIn, wDIx, wDGetN, wNew, wzNew, wLcI, gField, gCL, fLenQ, dIxQ, wNeK, wIndex, gTryRet, gTryDrop, wzCall, wzCallL, wTold, fIsE, fRepr, wJoin, wDGet, wVals, dPow, wSrc, gSrcSet, dMulS, dFdivS, fInt, fMax, fTuple, fList, startD, gNext, gSeq, gRet, gSet, gIf, gDrop, gRaise, gFor, wVar, wC, wOp, wTest, wChain, wAnd, wOr, wNot, wtAnd, wtOr, wtNot, wIf, waNil, waCons, wTup, wLst, wCall, quiet, wIsi, wInK, wLc, wiStr, wiTup, wiLst, wiRange, wSl, woNone, woSome, dSl, wNeg, dNeg, fLen, fAll, dEq, dNe, dLe, dLt, dGe, dGt, dAdd, dSub, dMod, dIx, dIn, dIsB, strsOf, boolsOf, DL.tyD_non, at_0, at_1, at_2, at_3, at_4, DL.isInt_non, DL.isStr_non, DL.isBl_non, DL.isTup_non, DL.isLst_non, DL.tyD_bl, DL.isInt_bl, DL.isStr_bl, DL.isBl_bl, DL.isTup_bl, DL.isLst_bl, DL.tyD_int, DL.isInt_int, DL.isStr_int, DL.isBl_int, DL.isTup_int, DL.isLst_int, DL.tyD_str, DL.isInt_str, DL.isStr_str, DL.isBl_str, DL.isTup_str, DL.isLst_str, DL.tyD_lst, DL.isInt_lst, DL.isStr_lst, DL.isBl_lst, DL.isTup_lst, DL.isLst_lst, DL.tyD_tup, DL.isInt_tup, DL.isStr_tup, DL.isBl_tup, DL.isTup_tup, DL.isLst_tup, pure1, pure2, pure3, Option.map_some,
  List.map_cons, List.map_nil, List.length_cons, List.length_nil, List.cons_append, List.nil_append, List.getElem?_cons_zero, List.getElem?_cons_succ, Option.some.injEq, exists_eq_left', exists_eq_left, exists_eq_right, exists_eq_right', D.bl.injEq, D.int.injEq, D.str.injEq, D.tup.injEq, D.lst.injEq, D.fn.injEq, D.sq.injEq, D.exn.injEq, List.cons.injEq, and_true, true_and, and_self, exists_and_left, exists_and_right, Option.isSome_some, List.set_cons_zero, List.set_cons_succ, if_true, Bool.false_eq_true, if_false, Bool.not_true, Bool.not_false, reduceCtorEq, List.replicate, Nat.reduceSub, Nat.reduceAdd])
section
variable {P : Program} {w : World} {K : PySem.W.Frag} {mg : Str → Option Value} {base : Heap}
def fPool (K : PySem.W.Frag) : List D → (List D → Prop) → Prop := fun es P => ∃ (xs : List Int) (k : Nat), es = [.sq K xs, .int k] ∧ k ≤ 5 ∧ ∀ x y : Int, 0 ≤ y → y < 2147483647 → P [.int x, .int y]
theorem ok_lpool (T : Txt K mg) : FnOk P w K mg base CX0 1 T.d_lpool.f T.d_lpool.fd ["_law_script", "_law_k"] (spFr (fPool K)) :=
  fn_okF T.d_lpool.F sc_lpool (fun es P h => by first | (obtain ⟨_, rfl, _⟩ := h; rfl) | (obtain ⟨_, _, rfl, _⟩ := h; rfl) | (obtain ⟨_, _, _, rfl, _⟩ := h; rfl) | (obtain ⟨_, _, _, _, rfl, _⟩ := h; rfl)) (fun cdv A outer s H E hr => ⟨_,
    (sf_cons (E := fun _ _ _ => False) (ws_set (i := 2) sc_lpool.nd rfl (by first | exact .inl rfl | exact .inr rfl) (we_c pe_int))
      (sf_cons (E := fun _ _ _ => False) (ws_if (wt_cmp op_dLt (we_var (pv 1)) (we_callB call_fLenQ rfl T.n_len boot_lenB (wa_cons (we_var (pv 0)) wa_nil)) (nomark _))
        (wss_one (ws_set (i := 2) sc_lpool.nd rfl (by first | exact .inl rfl | exact .inr rfl) (we_ixQ (we_var (pv 0)) (we_var (pv 1)))))
        wss_nil)
      (sf_cons (E := fun _ _ _ => False) (ws_set (i := 3) sc_lpool.nd rfl (by first | exact .inl rfl | exact .inr rfl) (we_callB (call_fMax rfl) rfl T.n_max boot_maxB (wa_cons (we_callTy call_fInt rfl T.n_int boot_intT (wa_cons (we_var (pv 2)) wa_nil)) (wa_cons (we_callTy call_fInt rfl T.n_int boot_intT (wa_cons (we_op op_dSub (we_neg (we_c pe_int)) (we_var (pv 2))) wa_nil)) wa_nil))))
      (sf_cons (E := fun _ _ _ => False) (ws_set (i := 4) sc_lpool.nd rfl (by first | exact .inl rfl | exact .inr rfl) (we_op op_dMod (we_callTy call_fInt rfl T.n_int boot_intT (wa_cons (we_op op_dMulS (we_op op_dAdd (we_op op_dAdd (we_op op_dAdd (we_op op_dMod (we_callTy call_fInt rfl T.n_int boot_intT (wa_cons (we_var (pv 3)) wa_nil)) (we_c pe_int)) (we_op op_dMulS (we_op op_dMulS (we_c pe_int) (we_var (pv 1))) (we_var (pv 1)))) (we_op op_dMulS (we_c pe_int) (we_var (pv 1)))) (we_c pe_int)) (we_c pe_int)) wa_nil)) (we_c pe_int)))
      (sf_ret (fw_lst (wa_cons (we_op op_dMulS (we_var (pv 3)) (we_callTy call_fInt rfl T.n_int boot_intT (wa_cons (we_cmp op_dGe (we_var (pv 3)) (we_op op_dPow (we_c pe_int) (we_c pe_int)) (nomark _)) wa_nil))) (wa_cons (we_var (pv 4)) wa_nil)))))))),
    fun es P h => by
      obtain ⟨xs, k, rfl, hk, hp⟩ := h
      simp only [gSeqF]
      walk_at "red"
      have tail : ∀ b : Int, 0 < (2147483629 : Int) ∧ CMul 7919 (k : Int) ∧ CMul (7919 * (k : Int)) (k : Int) ∧ CMul 31 (k : Int) ∧ CMul (b % 2147483629 + 7919 * (k : Int) * (k : Int) + 31 * (k : Int) + 17) 48271 ∧ 0 < (2147483647 : Int) ∧ CPow 10 18 ∧
          CMul b (if decide (10 ^ Int.toNat 18 ≤ b) = true then 1 else 0) ∧ 2 ≤ sizeLine ∧
          P [D.int (b * if decide (10 ^ Int.toNat 18 ≤ b) = true then 1 else 0), D.int ((b % 2147483629 + 7919 * (k : Int) * (k : Int) + 31 * (k : Int) + 17) * 48271 % 2147483647)] := fun b =>
        ⟨by decide, .inl ⟨by decide, by decide⟩, .inr ⟨by omega, by omega⟩, .inl ⟨by decide, by decide⟩, .inr ⟨by decide, by decide⟩, by decide, ⟨by decide, by decide, by decide⟩, .inr (by split <;> exact ⟨by decide, by decide⟩), line_big (by omega),
          hp _ _ (Int.emod_nonneg _ (by decide)) (Int.emod_lt_of_pos _ (by decide))⟩
      refine ⟨_, ⟨rfl, rfl⟩, ?_⟩
      by_cases h : k < xs.length
      · exact ifT (decide_eq_true (by omega)) ⟨_, ⟨rfl, rfl⟩, xs[k], atI_nat (List.getElem?_eq_getElem h), tail _⟩
      · exact ifF (decide_eq_false (by omega)) (tail _)⟩)
theorem forRg_of {i n : Nat} {W : WE} {G : WS} {ds : Sl} {N : Sl → Prop} {R : D → Prop} {Z : Addr → D → Prop} (hn : n ≤ 100000) (hW : ∀ Q : D → Prop, Q (.int (n : Int)) → W ds Q) (I : Nat → Sl → Prop) (h0 : I 0 ds)
    (step : ∀ k ds', k < n → I k ds' → ∀ N' : Sl → Prop, (∀ ds, I (k + 1) ds → N' ds) → G (ds'.set i (some (.int (k : Int)))) N' R Z) (last : ∀ ds', I n ds' → N ds') : gFor i (wiRange W) G ds N R Z := by
  unfold gFor wiRange
  have hl : (intsD (n : Int).toNat).length = n := by simp [intsD]
  refine hW _ ⟨n, rfl, by omega, by omega, I, h0, fun k x ds' hx hI => ?_, fun ds' hI => last ds' (by rw [hl] at hI; exact hI)⟩
  have e : (intsD (n : Int).toNat)[k]? = some x := hx
  unfold intsD at e
  rw [List.getElem?_map, Int.toNat_natCast] at e
  by_cases hk : k < n
  · rw [List.getElem?_range hk] at e
    cases e
    exact step k ds' hk hI _ fun _ h => h
  · rw [List.getElem?_eq_none (by simpa using hk)] at e
    cases e
theorem src_cut {i : Nat} {W : WF} {G : WS} {ds : Sl} {N : Sl → Prop} {R : D → Prop} {Z : Addr → D → Prop} (h1 : ∀ Q' : List D → Prop, (∀ x y : Int, 0 ≤ y → y < 2147483647 → Q' [.int x, .int y]) → W ds Q')
    (h2 : ∀ p, G (ds.set i (some (.src p))) (fun ds' => N (cleanS ds')) (fun d => noS d = true ∧ R d) (fun C d => noS d = true ∧ Z C d)) : gSrc i W G ds N R Z := h1 _ fun x y h0 h3 => ⟨x, y, rfl, h0, h3, h2⟩
omit [TabCtx] in
theorem val_none {n : Str} : ∀ {xs : List D}, (∀ x ∈ xs, nameOf x ≠ n) → valD (keysOf xs) xs (Sum.inr n) = none
  | [], _ => rfl
  | x :: xs, h => by
    show (if (Sum.inr (nameOf x) : Key) = Sum.inr n then some x else valD (keysOf xs) xs (Sum.inr n)) = none
    rw [if_neg fun e => h x List.mem_cons_self (Sum.inr.inj e)]
    exact val_none fun y hy => h y (List.mem_cons_of_mem _ hy)
def Sc (K : PySem.W.Frag) (ns : List Int) (ds : Sl) : Prop := ∃ x1 x2 x3 x4 x5 x6 x7 x8 x9 x10 x11 x12 x13 x14, ds = [some (.sq K ns), x1, x2, x3, x4, x5, x6, x7, x8, x9, x10, x11, x12, x13, x14]
def spLaw (K : PySem.W.Frag) (tab : Addr) : Sp := fun vs H Q _ => ∃ (a : Addr) (ns : List Int), vs = [.ref a] ∧ SqL K H a (ns.map V.int) ∧ H tab = some (.tbl #[]) ∧ ∀ H', Q (.bl true) H'
theorem ok_law (T : Txt K mg) (X9 : Lm T base) (hT : TabCtx.T = [(X9.tab, LQ)]) : FnG P w K mg base CX0 13 T.d_law.f T.d_law.fd ["_law_script"] (spLaw K X9.tab) :=
  FnG.of T.d_law.F sc_law (fun vs H Q E h => by obtain ⟨a, ns, rfl, _⟩ := h; rfl) (fun cdv A outer s H E0 Q E hgd hr h => ⟨_, PSs.nox (t := tSW (fun _ _ _ => False) _)
(wss_cons (ws_for (x := "") PassesOwn.never rfl (wi_range rfl T.n_range (we_callB (call_fMax rfl) rfl T.n_max boot_maxB (wa_cons (we_c pe_int) (wa_cons (we_callB (call_fMin rfl) rfl T.n_min boot_minB (wa_cons (we_callB call_fLenQ rfl T.n_len boot_lenB (wa_cons (we_var (pv 0)) wa_nil)) (wa_cons (we_c pe_int) wa_nil))) wa_nil)))) (pg_name (i := 1) sc_law.nd rfl (by first | exact .inl rfl | exact .inr rfl))
        (wss_src (i := 2) sc_law.nd rfl (by first | exact .inl rfl | exact .inr rfl) (fw_call (ok_lpool T) (hr.mono (by decide)) rfl T.d_lpool.m T.d_lpool.F.kp T.d_lpool.b (wa_cons (we_var (pv 0)) (wa_cons (we_var (pv 1)) wa_nil)))
        (wss_cons (ws_set (i := 3) sc_law.nd rfl (by first | exact .inl rfl | exact .inr rfl) (we_call (ok_lprogram T) (hr.mono (by decide)) rfl T.d_lprogram.m T.d_lprogram.F.kp T.d_lprogram.b (wa_cons (we_var (pv 2)) (wa_cons (we_c pe_int) wa_nil))))
        (wss_cons (ws_par (hw := by first | rfl | with_unfolding_all rfl) (i := 4) (j := 5) rfl sc_law.nd rfl rfl (by decide) rfl rfl (wa_cons (we_new (T.c_Program.make T.d_Program_init) (ok_Program_init T) (hr.mono (by decide)) rfl T.c_Program.m T.d_Program_init.b (wa_cons (we_var (pv 3)) wa_nil)) (wa_cons (we_call (ok_llots T) (hr.mono (by decide)) rfl T.d_llots.m T.d_llots.F.kp T.d_llots.b (wa_cons (we_var (pv 3)) wa_nil)) wa_nil)))
        (wss_accR sc_law.nd rfl (by first | exact .inl rfl | exact .inr rfl) (fw_call (ok_stretches T) (hr.mono (by decide)) rfl T.d_stretches.m T.d_stretches.F.kp T.d_stretches.b (wa_cons (we_var (pv 4)) wa_nil))
        (hr_cons (hs_if (wt_not (wt_val (we_callG (ok_lsame T) hgd (hr.mono (by decide)) rfl T.d_lsame.m T.d_lsame.F.kp T.d_lsame.b (wa_cons (we_var (pv 6)) (wa_cons (we_var (pv 5)) wa_nil)))))
          (hss_done (wss_one (ws_ret (we_c pe_bl))))
          hss_nil)
        (hr_cons (hs_appendH (pv 6) (we_c pe_non))
        (hr_free (wss_accR sc_law.nd rfl (by first | exact .inl rfl | exact .inr rfl) (fw_call (ok_beginnings T) (hr.mono (by decide)) rfl T.d_beginnings.m T.d_beginnings.F.kp T.d_beginnings.b (wa_cons (we_var (pv 4)) (wa_cons (we_c pe_str) wa_nil)))
        (hr_cons (hs_appendH (pv 6) (we_c pe_non))
        (hr_free (wss_cons (ws_if (wt_not (wt_val (we_callG (ok_lsame T) hgd (hr.mono (by decide)) rfl T.d_lsame.m T.d_lsame.F.kp T.d_lsame.b (wa_cons (we_call (fr_ok (ok_stretches T)) (hr.mono (by decide)) rfl T.d_stretches.m T.d_stretches.F.kp T.d_stretches.b (wa_cons (we_var (pv 4)) wa_nil)) (wa_cons (we_var (pv 5)) wa_nil)))))
          (wss_one (ws_ret (we_c pe_bl)))
          wss_nil)
        (wss_cons (ws_for3 PassesOwn.never rfl (wi_sq (we_var (pv 3))) (pg_name (i := 7) sc_law.nd rfl (by first | exact .inl rfl | exact .inr rfl)) (pg_name (i := 8) sc_law.nd rfl (by first | exact .inl rfl | exact .inr rfl)) (pg_name (i := 9) sc_law.nd rfl (by first | exact .inl rfl | exact .inr rfl))
          (wss_cons (ws_if (wt_not (wt_val (we_callG (ok_lsame T) hgd (hr.mono (by decide)) rfl T.d_lsame.m T.d_lsame.F.kp T.d_lsame.b (wa_cons (we_call (fr_ok (ok_beginnings T)) (hr.mono (by decide)) rfl T.d_beginnings.m T.d_beginnings.F.kp T.d_beginnings.b (wa_cons (we_var (pv 4)) (wa_cons (we_var (pv 7)) wa_nil))) (wa_cons (we_call (ok_lbegun T) (hr.mono (by decide)) rfl T.d_lbegun.m T.d_lbegun.F.kp T.d_lbegun.b (wa_cons (we_var (pv 9)) wa_nil)) wa_nil)))))
            (wss_one (ws_ret (we_c pe_bl)))
            wss_nil)
          (wss_one (ws_forE PassesOwn.never rfl rfl T.n_enumerate (we_var (pv 9)) (pg_name (i := 10) sc_law.nd rfl (by first | exact .inl rfl | exact .inr rfl)) (pg_name (i := 11) sc_law.nd rfl (by first | exact .inl rfl | exact .inr rfl))
            (wss_cons (ws_setLcI (i := 12) (i1 := 14) (x1 := "_law_lot") rfl sc_law.nd rfl rfl (wi_sq (we_var (pv 5))) (blkOk_by (N := ["_law_script", "_law_k", "_law_source", "_law_pl", "_law_first", "_law_lots_here", "_law_told", "_law_name", "_law_head", "_law_rows_here", "_law_at", "_law_row", "_law_some", "_law_due", "_law_lot"]) (sc := defScope s_law) (by decide +kernel)) (fun _ _ _ _ _ => pg_name sc_law.nd rfl (Or.inl rfl)) (fun _ _ _ _ _ => (PW.pt (ww_and (wt_cmp (op_dEq hr.units) (we_ix (we_var (pv 14)) (we_c pe_int)) (we_var (pv 7)) (nomark _)) (pw_and1 (wt_chain op_dLe op_dLe (we_ix (we_var (pv 14)) (we_c pe_int)) (we_var (pv 10)) (we_ix (we_var (pv 14)) (we_c pe_int))))))) (fun _ _ _ _ _ => (we_var (pv 14))))
            (wss_cons (ws_set (i := 13) sc_law.nd rfl (by first | exact .inl rfl | exact .inr rfl) (we_if (wt_cmp op_dIn (we_ix (we_var (pv 11)) (we_c pe_int)) (we_lst (wa_cons (we_c pe_str) (wa_cons (we_c pe_str) wa_nil))) (by with_unfolding_all rfl)) (we_ix (we_var (pv 12)) (we_c pe_int)) (we_c pe_non)))
            (wss_one (ws_if (PW.pt (ww_or (wt_cmp (op_dNe hr.units) (we_callB call_fLen rfl T.n_len boot_lenB (wa_cons (we_var (pv 12)) wa_nil)) (we_callTy call_fInt rfl T.n_int boot_intT (wa_cons (we_cmp op_dNotN (we_var (pv 13)) (we_c pe_non) (nomark _)) wa_nil)) (nomark _)) (pw_or1 (wt_not (wt_val (we_callG (ok_lsame T) hgd (hr.mono (by decide)) rfl T.d_lsame.m T.d_lsame.F.kp T.d_lsame.b (wa_cons (we_callX (ok_stretch_of T) (hr.mono (by decide)) rfl T.d_stretch_of.m T.d_stretch_of.F.kp T.d_stretch_of.b (wa_cons (we_var (pv 4)) (wa_cons (we_tup (wa_cons (we_var (pv 7)) (wa_cons (we_var (pv 10)) wa_nil))) wa_nil))) (wa_cons (we_var (pv 13)) wa_nil))))))))
              (wss_one (ws_ret (we_c pe_bl)))
              wss_nil))))))))
        (wss_one (ws_if (wt_not (wt_val (we_callG (ok_lrefused_right T X9) hgd (hr.mono (by decide)) rfl T.d_lrefused_right.m T.d_lrefused_right.F.kp T.d_lrefused_right.b (wa_cons (we_var (pv 4)) (wa_cons (we_ix (we_ix (we_var (pv 3)) (we_c pe_int)) (we_c pe_int)) wa_nil)))))
          (wss_one (ws_ret (we_c pe_bl)))
          wss_nil)))))))))))))))
      (wss_one (ws_ret (we_c pe_bl))))
    , by
      obtain ⟨a, ns, rfl, hS, hH, hq⟩ := h
      have lb : ∀ n : Nat, n ≤ 100000 → n ≤ sizeLine := fun n h => line_big h
      refine ⟨[(X9.tab, .tab LQ)], startD ["_law_script", "_law_k", "_law_source", "_law_pl", "_law_first", "_law_lots_here", "_law_told", "_law_name", "_law_head", "_law_rows_here", "_law_at", "_law_row", "_law_some", "_law_due", "_law_lot"] [.sq K ns], fun _ => False, fun d => d = .bl true, fun _ _ => False, start_sl (.cons (.sq ?_) .nil), ?_, ?_, fun _ z => z.elim, fun d hd v H' e q => ?_, fun _ _ z => z.elim⟩
      · rcases hS with hS | hS
        · refine .inl ⟨fun q hq e => ?_, hS⟩
          rw [List.mem_singleton.mp hq] at e
          subst e
          rcases hS with hS | ⟨o, hS⟩ <;> (rw [hH] at hS; cases hS)
        · exact .inr (.inr hS)
      · refine ⟨fun q hq => ?_, fun q hq r hr _ => ?_, ⟨fun t => ?_, fun p o hp => ?_⟩⟩
        · rw [List.mem_singleton.mp hq]
          refine ⟨_, hH, #[], rfl, True.intro, fun pos cv z => ?_⟩
          have z' : codeAmong pos [] = some cv := z
          simp [codeAmong] at z'
        · rw [List.mem_singleton.mp hq, List.mem_singleton.mp hr]
        · rw [hT]
          obtain ⟨t1, t2⟩ := t
          simp
        · cases List.mem_singleton.mp hp
      · refine seqW_cut (Sc K ns) (fun N' hN => ?_) ?_
        · refine forRg_of (n := max 1 (min ns.length 5)) (by omega) (fun Q hq => ?_) (fun k ds => Sc K ns ds) ⟨_, _, _, _, _, _, _, _, _, _, _, _, _, _, rfl⟩ ?_ hN
          · walk_at "red"
            refine ⟨ns, ⟨rfl, rfl⟩, ?_⟩
            have e : (if (if (5 : Int) < (ns.length : Int) then (5 : Int) else (ns.length : Int)) > 1 then (if (5 : Int) < (ns.length : Int) then (5 : Int) else (ns.length : Int)) else 1) = ((max 1 (min ns.length 5) : Nat) : Int) := by split <;> split <;> omega
            rw [e]
            exact hq
          · rintro k ds hk ⟨x1, x2, x3, x4, x5, x6, x7, x8, x9, x10, x11, x12, x13, x14, rfl⟩ N2 hN2
            refine src_cut (fun Q' hQ => ?_) fun p => ?_
            · walk_at "red"
              first | exact ⟨ns, k, ⟨rfl, rfl⟩, by omega, hQ⟩ | exact ⟨ns, k, rfl, by omega, hQ⟩
            have drop : ∀ ds : Sl, Sc K ns ds → Sc K ns (cleanS ds) := by
              rintro ds ⟨y1, y2, y3, y4, y5, y6, y7, y8, y9, y10, y11, y12, y13, y14, rfl⟩
              exact ⟨_, _, _, _, _, _, _, _, _, _, _, _, _, _, rfl⟩
            refine seqW_cut (fun ds => ∃ pl, ProgK pl ∧ ds = [some (.sq K ns), some (.int k), some (.src p), some (.lst pl), x4, x5, x6, x7, x8, x9, x10, x11, x12, x13, x14]) (fun N3 hN3 => ?_) ?_
            · walk_at "red"
              exact ⟨p, 12, ⟨rfl, rfl⟩, by decide, by decide, fun pl hk => hN3 _ ⟨pl, hk, rfl⟩⟩
            rintro ds ⟨pl, hk2, rfl⟩
            have gS := prog_s hk2
            have gP := prog_parts hk2
            have gV := prog_valid hk2
            refine seqW_cut (fun ds => ∃ vs, ds = [some (.sq K ns), some (.int k), some (.src p), some (.lst pl), some (progD T pl vs), some (.lst (lotsOf pl)), x6, x7, x8, x9, x10, x11, x12, x13, x14]) (fun N3 hN3 => ?_) ?_
            · walk_at "red"
              refine ⟨gV.1, ?_⟩
              rw [show progItems (.lst pl) = some pl from if_pos ⟨gV.2.1, gV.2.2.1⟩]
              show if isNonD (wrongOf pl) = true then _ else _
              rw [if_pos gV.2.2.2]
              exact fun vs hvs => ⟨gP, _, _, ⟨rfl, rfl⟩, hN3 _ ⟨vs, rfl⟩⟩
            rintro ds ⟨vs, rfl⟩
            obtain ⟨rs0, tl, epl⟩ := hk2.head
            have m0 : D.tup [.str "main", .tup [], .tup rs0] ∈ pl := by rw [epl]; exact List.mem_cons_self
            have nm : isName (.str "main") = true := by decide +kernel
            have pm : procOf pl (.str "main") = some (.tup [.str "main", .tup [], .tup rs0]) := by
              simp only [procOf]
              rw [if_pos nm]
              exact val_at gS.nd m0
            have lots := lots_rp gP
            have same : ∀ d, Rp d → ∀ Q : Prop, Q → ∃ d', (d = d' ∧ d = d') ∧ Rp d' ∧ Q := fun d h Q q => ⟨d, ⟨rfl, rfl⟩, h, q⟩
            refine accR_cut (fun dv => dv = lotsOf pl) (by simp) (fun Q hq => ?_) ?_
            · walk_at "red"
              exact ⟨pl, ⟨vs, rfl⟩, gS, hq _ rfl⟩
            rintro dv rfl q
            refine seqHR_cut (fun ds dv => ds = [some (.sq K ns), some (.int k), some (.src p), some (.lst pl), some (progD T pl vs), some (.lst (lotsOf pl)), some (.fn q), x7, x8, x9, x10, x11, x12, x13, x14] ∧ dv = lotsOf pl) (fun N3 hN3 => ?_) ?_
            · walk_at "red"
              exact ⟨lots, hN3 _ _ ⟨rfl, rfl⟩⟩
            rintro _ _ ⟨rfl, rfl⟩
            refine seqHR_cut (fun ds dv => ds = [some (.sq K ns), some (.int k), some (.src p), some (.lst pl), some (progD T pl vs), some (.lst (lotsOf pl)), some (.fn q), x7, x8, x9, x10, x11, x12, x13, x14]) (fun N3 hN3 => ?_) ?_
            · walk_at "red"
              exact ⟨line_lt (Nat.lt_of_le_of_lt (lots_few pl fun x hx => (gS.rows x hx).len.1) (by have := gS.len; omega)), hN3 _ _ rfl⟩
            rintro _ dv rfl
            unfold gFree
            refine accR_cut (fun dv => dv.length ≤ 12) (by simp [DL.seen]) (fun Q hq => ?_) ?_
            · walk_at "red"
              have l12 : rs0.length ≤ 12 := (gS.rows _ m0).len.1
              exact ⟨pl, vs, _, ⟨rfl, rfl⟩, _, pm, gS.proc _ m0, gS.rows _ m0, name_gd nm, hq _ (by rw [List.length_map]; exact Nat.le_trans (List.length_filter_le _ _) (by rw [List.length_range]; exact l12))⟩
            rintro dv2 l2 q2
            refine seqHR_cut (fun ds dv => ds = [some (.sq K ns), some (.int k), some (.src p), some (.lst pl), some (progD T pl vs), some (.lst (lotsOf pl)), some (.fn q2), x7, x8, x9, x10, x11, x12, x13, x14]) (fun N3 hN3 => ?_) ?_
            · walk_at "red"
              exact ⟨line_lt (by omega), hN3 _ _ rfl⟩
            rintro _ dv3 rfl
            refine seqW_cut (fun ds => ∃ x6, ds = [some (.sq K ns), some (.int k), some (.src p), some (.lst pl), some (progD T pl vs), some (.lst (lotsOf pl)), x6, x7, x8, x9, x10, x11, x12, x13, x14]) (fun N3 hN3 => ?_) ?_
            · walk_at "red"
              exact ⟨pl, ⟨vs, rfl⟩, gS, _, ⟨rfl, rfl⟩, lots, hN3 _ ⟨_, rfl⟩⟩
            rintro _ ⟨x6', rfl⟩
            refine seqW_cut (fun ds => ∃ x6 x7 x8 x9 x10 x11 x12 x13 x14, ds = [some (.sq K ns), some (.int k), some (.src p), some (.lst pl), some (progD T pl vs), some (.lst (lotsOf pl)), x6, x7, x8, x9, x10, x11, x12, x13, x14]) (fun N3 hN3 => ?_) ?_
            · refine for3_of pl (fun Q hq => ?_) (fun i ds => ∃ x6 x7 x8 x9 x10 x11 x12 x13 x14, ds = [some (.sq K ns), some (.int k), some (.src p), some (.lst pl), some (progD T pl vs), some (.lst (lotsOf pl)), x6, x7, x8, x9, x10, x11, x12, x13, x14]) ⟨_, _, _, _, _, _, _, _, _, rfl⟩ ?_ hN3
              · walk_at "red"
                exact hq
              · rintro i ds hi ⟨x6, x7, x8, x9, x10, x11, x12, x13, x14, rfl⟩ N4 hN4
                have hm := List.getElem_mem hi
                obtain ⟨n, ps, rs, ex, gr, gn⟩ := gP.2 _ hm
                refine ⟨_, _, _, ex, ?_⟩
                rw [ex] at hm
                have hv : procOf pl (.str n) = some (.tup [.str n, .tup ps, .tup rs]) := by
                  simp only [procOf]
                  rw [if_pos gn]
                  exact val_at gS.nd hm
                refine seqW_cut (fun ds => ds = [some (.sq K ns), some (.int k), some (.src p), some (.lst pl), some (progD T pl vs), some (.lst (lotsOf pl)), x6, some (.str n), some (.tup ps), some (.tup rs), x10, x11, x12, x13, x14]) (fun N5 hN5 => ?_) ?_
                · walk_at "red"
                  exact ⟨pl, vs, n, ⟨rfl, rfl⟩, _, hv, gS.proc _ hm, gr, name_gd gn, gr.len.1, fun r hr => (gr.row r hr).1, _, ⟨rfl, rfl⟩, beg_rp gr.len.1, hN5 _ rfl⟩
                rintro _ rfl
                refine forE_of rs (fun Q hq => ?_) (fun j ds => ∃ x10 x11 x12 x13 x14, ds = [some (.sq K ns), some (.int k), some (.src p), some (.lst pl), some (progD T pl vs), some (.lst (lotsOf pl)), x6, some (.str n), some (.tup ps), some (.tup rs), x10, x11, x12, x13, x14]) ⟨_, _, _, _, _, rfl⟩ ?_ (fun ds ⟨x10, x11, x12, x13, x14, h⟩ => hN4 _ ⟨_, _, _, _, _, _, _, _, _, h⟩)
                · walk_at "red"
                  exact hq
                · rintro j ds hj ⟨x10, x11, x12, x13, x14, rfl⟩ N5 hN5
                  have kr := (gr.row _ (List.getElem_mem hj)).1
                  have here : plainAt rs j = plainR rs[j] := by
                    unfold plainAt
                    rw [List.getD_eq_getElem?_getD, List.getElem?_eq_getElem hj]
                    rfl
                  have cov := str_cov rs j hj
                  rw [here] at cov
                  generalize rs[j] = r at kr cov
                  obtain ⟨w', r0, rfl⟩ := row_word kr
                  have pr : plainR (.tup (.str w' :: r0)) = decide (w' ∈ (["set", "copy"] : List Str)) := rfl
                  rw [pr] at cov
                  refine seqW_cut (fun ds => ∃ x13 x14, ds = [some (.sq K ns), some (.int k), some (.src p), some (.lst pl), some (progD T pl vs), some (.lst (lotsOf pl)), x6, some (.str n), some (.tup ps), some (.tup rs), some (.int j), some (.tup (.str w' :: r0)), some (.lst (((strOf rs).filter (cont j)).map (toD n))), x13, x14]) (fun N6 hN6 => ?_) ?_
                  · walk_at "red"
                    refine ⟨line_lt (Nat.lt_of_le_of_lt (lots_few pl fun x hx => (gS.rows x hx).len.1) (by have := gS.len; omega)), eachI_filter (p := sel n j) (fun d hd Q hq => ?_) (fun d _ Q hq => hq) ?_⟩
                    · unfold lotsOf at hd
                      obtain ⟨y, hy, hd⟩ := List.mem_flatMap.mp hd
                      obtain ⟨p, hp, rfl⟩ := List.mem_map.mp hd
                      rw [sel_toD] at hq
                      refine ⟨_, at_0, ?_⟩
                      by_cases h0 : nameOf y = n
                      · rw [decide_eq_true h0, Bool.true_and] at hq
                        refine ifT (decide_eq_true h0) ⟨_, at_1, ?_⟩
                        unfold cont at hq
                        by_cases h1 : p.1 ≤ j
                        · rw [decide_eq_true h1, Bool.true_and] at hq
                          refine ifT (decide_eq_true (by omega)) ⟨_, at_2, ?_⟩
                          have e : decide ((j : Int) ≤ (p.2 : Int)) = decide (j ≤ p.2) := by by_cases h : j ≤ p.2 <;> simp [h]
                          show Q (decide ((j : Int) ≤ (p.2 : Int)))
                          rw [e]
                          exact hq
                        · rw [decide_eq_false h1, Bool.false_and] at hq
                          exact ifF (decide_eq_false (by omega)) hq
                      · rw [decide_eq_false h0, Bool.false_and] at hq
                        exact ifF (decide_eq_false h0) hq
                    · have esel : (lotsOf pl).filter (sel n j) = ((strOf rs).filter (cont j)).map (toD n) := sel_on (i := j) gS.nd hm
                      rw [esel]
                      exact hN6 _ ⟨_, _, rfl⟩
                  rintro _ ⟨x13', x14', rfl⟩
                  refine seqW_cut (fun ds => ∃ x14, ds = [some (.sq K ns), some (.int k), some (.src p), some (.lst pl), some (progD T pl vs), some (.lst (lotsOf pl)), x6, some (.str n), some (.tup ps), some (.tup rs), some (.int j), some (.tup (.str w' :: r0)), some (.lst (((strOf rs).filter (cont j)).map (toD n))), some (strAt n rs j), x14]) (fun N6 hN6 => ?_) ?_
                  · walk_at "red"
                    refine ⟨lb _ (by omega), ?_⟩
                    unfold strAt at hN6
                    cases e : decide (w' ∈ (["set", "copy"] : List Str)) with
                    | true =>
                      rw [e, if_pos rfl] at cov
                      generalize (strOf rs).filter (cont j) = some_ at cov hN6
                      match some_, cov with
                      | [p], _ => exact ifT rfl ⟨_, rfl, hN6 _ ⟨_, rfl⟩⟩
                    | false =>
                      rw [e, if_neg (by decide)] at cov
                      generalize (strOf rs).filter (cont j) = some_ at cov hN6
                      match some_, cov with
                      | [], _ => exact ifF rfl (hN6 _ ⟨_, rfl⟩)
                  rintro _ ⟨x14'', rfl⟩
                  have e1 : ((((strOf rs).filter (cont j)).map (toD n)).length : Int) = if (!isNonD (strAt n rs j)) = true then 1 else 0 := by
                    unfold strAt
                    generalize (strOf rs).filter (cont j) = l at cov
                    match l, cov with
                    | [], _ => rfl
                    | [p], _ => rfl
                    | _ :: _ :: _, cov =>
                      simp only [List.length_cons] at cov
                      split at cov <;> omega
                  have good : Good (.tup [.str n, .int (j : Int)]) := gd_tup (n := 7) (by simp) fun y hy => by
                    simp only [List.mem_cons, List.not_mem_nil, or_false] at hy
                    rcases hy with rfl | rfl
                    · exact name_gd gn
                    · exact gd_small (by have := gr.len.1; omega)
                  walk_at "red"
                  exact ifF (by rw [decide_eq_true e1]; rfl) ⟨lb _ (by omega), _, _, ⟨rfl, rfl⟩, pl, ⟨vs, rfl⟩, good, gS, n, j, rfl, _, hv, hj, _, ⟨rfl, rfl⟩, at_rp gn gr.len.1, hN5 _ ⟨_, _, _, _, _, rfl⟩⟩
            rintro _ ⟨x6, x7, x8, x9, x10, x11, x12, x13, x14, rfl⟩
            have pz : procOf pl (.str "zzz") = none := by
              simp only [procOf]
              split
              · exact val_none fun x hx => (hk2.notu x hx).2
              · rfl
            have a0 : atI pl 0 = some (.tup [.str "main", .tup [], .tup rs0]) := by rw [epl]; exact at_0
            walk_at "red"
            refine ⟨_, a0, ?_⟩
            exact ⟨_, at_2, pl, vs, rs0, rfl, gS, (gS.rows _ m0).len.1, pz, ⟨_, pm, rfl⟩, _, rfl, ifF rfl (hN2 _ (drop _ ⟨_, _, _, _, _, _, _, _, _, _, _, _, _, _, rfl⟩))⟩
        · rintro ds ⟨x1, x2, x3, x4, x5, x6, x7, x8, x9, x10, x11, x12, x13, x14, rfl⟩
          walk_at "red"
      · subst hd
        cases q
        exact hq H'⟩)
end
end K07

set_option maxHeartbeats 4000000
namespace K07
open PySem PySem.Spec PyProof.Rows L2 DL
theorem kit_no {K : PySem.W.Frag} {C : Addr} {t : String} (hd : PySem.W.hasDictIn K C = true) (tC : PySem.W.typeIn K (.ref C) = some (.type "type")) (s : PySem.W.subIn K (.type t) (.ref C) = some false) : PySem.W.kitOne K (.type t) (.ref C) = some false := by
  obtain ⟨cdM, hcM, _⟩ := PySem.W.any_some hd
  have e : ((PySem.W.clsIn K C).isSome && PySem.W.typeIn K (.ref C) == some (.type "type")) = true := by rw [hcM, tC] <;> rfl
  unfold PySem.W.kitOne; rw [if_neg (by intro z; cases (beq_iff_eq.mp z))]
  show (if ((PySem.W.clsIn K C).isSome && PySem.W.typeIn K (.ref C) == some (.type "type")) = true then PySem.W.subIn K (.type t) (.ref C) else none) = some false; rw [if_pos e]; exact s
theorem noC_mk {K : PySem.W.Frag} {C : Addr} (hd : PySem.W.hasDictIn K C = true) (tC : PySem.W.typeIn K (.ref C) = some (.type "type")) (s0 : PySem.W.subIn K (.type "NoneType") (.ref C) = some false) (s1 : PySem.W.subIn K (.type "bool") (.ref C) = some false) (s2 : PySem.W.subIn K (.type "int") (.ref C) = some false) (s3 : PySem.W.subIn K (.type "str") (.ref C) = some false) (s4 : PySem.W.subIn K (.type "list") (.ref C) = some false) (s5 : PySem.W.subIn K (.type "tuple") (.ref C) = some false) (s6 : PySem.W.subIn K (.type "dict") (.ref C) = some false) : NoC K C := ⟨fun t ht => by
  simp only [List.mem_cons, List.not_mem_nil, or_false] at ht
  rcases ht with rfl | rfl | rfl | rfl | rfl | rfl | rfl
  · exact kit_no hd tC s0
  · exact kit_no hd tC s1
  · exact kit_no hd tC s2
  · exact kit_no hd tC s3
  · exact kit_no hd tC s4
  · exact kit_no hd tC s5
  · exact kit_no hd tC s6⟩
theorem all_mk {P : Program} {w : World} {K : PySem.W.Frag} {h : Heap} {mg : Str → Option Value} {fl : Addr} (X : K.In h) (G : h.Ns mainGlobals mg) (hf : mg "law" = some (.ref fl))
    {t_MODULUS t_MOST_ROWS t_MOST_OPERANDS t_MOST_PROCEDURES : Tok} {u_OPS0 u_OPS1 u_OPS2 u_OPS3 : Tok} {q_OPS : Addr} {dd_OPS : Option Addr} {n_OPS : Nat} {sl_OPS : Array (Option Value)} {M fR c tab : Addr} {ocR : Value} {odR : Option Addr} {fdR : FuncData} {slR : Array (Option Value)} {E0 : Addr} {E1 : Addr} {E2 : Addr} {C_Program : Addr}
    (n_all : PySem.W.nsIn K mainGlobals "all" = some none)
    (n_bool : PySem.W.nsIn K mainGlobals "bool" = some none)
    (n_enumerate : PySem.W.nsIn K mainGlobals "enumerate" = some none)
    (n_int : PySem.W.nsIn K mainGlobals "int" = some none)
    (n_isinstance : PySem.W.nsIn K mainGlobals "isinstance" = some none)
    (n_len : PySem.W.nsIn K mainGlobals "len" = some none)
    (n_list : PySem.W.nsIn K mainGlobals "list" = some none)
    (n_max : PySem.W.nsIn K mainGlobals "max" = some none)
    (n_min : PySem.W.nsIn K mainGlobals "min" = some none)
    (n_range : PySem.W.nsIn K mainGlobals "range" = some none)
    (n_repr : PySem.W.nsIn K mainGlobals "repr" = some none)
    (n_set : PySem.W.nsIn K mainGlobals "set" = some none)
    (n_sorted : PySem.W.nsIn K mainGlobals "sorted" = some none)
    (n_str : PySem.W.nsIn K mainGlobals "str" = some none)
    (n_tuple : PySem.W.nsIn K mainGlobals "tuple" = some none)
    (m_MODULUS : PySem.W.nsIn K mainGlobals "MODULUS" = some (some (.int 9973 t_MODULUS)))
    (m_MOST_ROWS : PySem.W.nsIn K mainGlobals "MOST_ROWS" = some (some (.int 12 t_MOST_ROWS)))
    (m_MOST_OPERANDS : PySem.W.nsIn K mainGlobals "MOST_OPERANDS" = some (some (.int 2 t_MOST_OPERANDS)))
    (m_MOST_PROCEDURES : PySem.W.nsIn K mainGlobals "MOST_PROCEDURES" = some (some (.int 4 t_MOST_PROCEDURES)))
    (a_OPS : PySem.W.nsIn K mainGlobals "OPS" = some (some (.ref q_OPS)))
    (l_OPS : K.lookup q_OPS = some ⟨.type "tuple", dd_OPS, .seq #[.str "add" u_OPS0, .str "sub" u_OPS1, .str "mul" u_OPS2, .str "less" u_OPS3] n_OPS, sl_OPS⟩)
    (a_M : PySem.W.nsIn K mainGlobals "MomentError" = some (some (.ref M)))
    (a_R : PySem.W.nsIn K mainGlobals "_law_refused_right" = some (some (.ref fR)))
    (l_R : K.lookup fR = some ⟨ocR, odR, .func fdR, slR⟩)
    (c_R : fdR.code = .ref c)
    (a_E0 : PySem.W.nsIn K mainGlobals "NoProgram" = some (some (.ref E0)))
    (e_E0 : PySem.W.subIn K (.ref E0) (.type "BaseException") = some true)
    (h_E0 : PySem.W.hasDictIn K E0 = true)
    (t_E0 : PySem.W.typeIn K (.ref E0) = some (.type "type"))
    (a_E1 : PySem.W.nsIn K mainGlobals "NoProcedure" = some (some (.ref E1)))
    (e_E1 : PySem.W.subIn K (.ref E1) (.type "BaseException") = some true)
    (h_E1 : PySem.W.hasDictIn K E1 = true)
    (t_E1 : PySem.W.typeIn K (.ref E1) = some (.type "type"))
    (s_1_0 : PySem.W.subIn K (.ref E1) (.ref E0) = some false)
    (a_E2 : PySem.W.nsIn K mainGlobals "NoSpot" = some (some (.ref E2)))
    (s_2_0 : PySem.W.subIn K (.ref E2) (.ref E0) = some false)
    (s_2_1 : PySem.W.subIn K (.ref E2) (.ref E1) = some false)
    (d_wall : DnF K "_wall" s_wall)
    (d_is_number : DnF K "is_number" s_is_number)
    (d_is_within : DnF K "is_within" s_is_within)
    (d_is_value : DnF K "is_value" s_is_value)
    (d_is_name : DnF K "is_name" s_is_name)
    (d_is_listed : DnF K "is_listed" s_is_listed)
    (d_is_tuple_of : DnF K "is_tuple_of" s_is_tuple_of)
    (d_is_op : DnF K "is_op" s_is_op)
    (d_is_operand : DnF K "is_operand" s_is_operand)
    (d_is_row_index : DnF K "is_row_index" s_is_row_index)
    (d_is_set : DnF K "_is_set" s_is_set)
    (d_is_call : DnF K "_is_call" s_is_call)
    (d_are_operands : DnF K "_are_operands" s_are_operands)
    (d_is_pair_row : DnF K "_is_pair_row" s_is_pair_row)
    (d_is_row : DnF K "is_row" s_is_row)
    (d_operands_of : DnF K "operands_of" s_operands_of)
    (d_set_by : DnF K "set_by" s_set_by)
    (d_are_parameters : DnF K "_are_parameters" s_are_parameters)
    (d_is_led_within : DnF K "_is_led_within" s_is_led_within)
    (d_are_rows : DnF K "_are_rows" s_are_rows)
    (d_is_procedure : DnF K "_is_procedure" s_is_procedure)
    (d_first_wrong_procedure : DnF K "_first_wrong_procedure" s_first_wrong_procedure)
    (d_first_wrong_caller : DnF K "_first_wrong_caller" s_first_wrong_caller)
    (d_variables : DnF K "_variables" s_variables)
    (d_need_program : DnF K "need_program" s_need_program)
    (d_need_procedure : DnF K "need_procedure" s_need_procedure)
    (d_need_spot : DnF K "need_spot" s_need_spot)
    (d_is_plain : DnF K "_is_plain" s_is_plain)
    (d_ubeginnings : DnF K "_beginnings" s_ubeginnings)
    (d_beginnings : DnF K "beginnings" s_beginnings)
    (d_stretches_within : DnF K "_stretches_within" s_stretches_within)
    (d_stretches : DnF K "stretches" s_stretches)
    (d_stretch_of : DnF K "stretch_of" s_stretch_of)
    (d_lpool : DnF K "_law_pool" s_lpool)
    (d_ltake : DnF K "_law_take" s_ltake)
    (d_lone : DnF K "_law_one" s_lone)
    (d_loperand : DnF K "_law_operand" s_loperand)
    (d_lplain_row : DnF K "_law_plain_row" s_lplain_row)
    (d_lloop : DnF K "_law_loop" s_lloop)
    (d_lrows : DnF K "_law_rows" s_lrows)
    (d_ldeep : DnF K "_law_deep" s_ldeep)
    (d_lprogram : DnF K "_law_program" s_lprogram)
    (d_lshifted : DnF K "_law_shifted" s_lshifted)
    (d_lsame : DnF K "_law_same" s_lsame)
    (d_lbegun : DnF K "_law_begun" s_lbegun)
    (d_llots : DnF K "_law_lots" s_llots)
    (d_lfell : DnF K "_law_fell" s_lfell)
    (d_lrefused_right : DnF K "_law_refused_right" s_lrefused_right)
    (d_law : DnF K "law" s_law)
    (x_NoRow : ExF K "NoRow" "MomentError.__init__" s_MomentError_init M)
    (x_NoProgram : ExF K "NoProgram" "MomentError.__init__" s_MomentError_init M)
    (x_NoProcedure : ExF K "NoProcedure" "MomentError.__init__" s_MomentError_init M)
    (x_NoSpot : ExF K "NoSpot" "MomentError.__init__" s_MomentError_init M)
    (PProgram_a : PySem.W.nsIn K mainGlobals "Program" = some (some (.ref C_Program)))
    (PProgram_pg : PySem.W.plainGet K C_Program Str.empty = true)
    (PProgram_hd : PySem.W.hasDictIn K C_Program = true)
    (PProgram_po : PySem.W.plainOver K C_Program = true)
    (PProgram_sa : PySem.W.findIn K (.ref C_Program) "__setattr__" = some (some (.builtin "object.__setattr__")))
    (PProgram_ha : PySem.W.findIn K (.ref C_Program) "__class__" = some (some (.builtin "object.__class__")))
    (PProgram_hn : PySem.W.specialIn K (.builtin "object.__class__") "__get__" = some (some (.builtin "getset_descriptor.__get__")))
    (PProgram_tk : PySem.W.takesIn K (.builtin "object.__class__") = some true)
    (PProgram_hm : PySem.W.mroIn K C_Program (.type "object") = some true)
    (PProgram_tC : PySem.W.typeIn K (.ref C_Program) = some (.type "type"))
    (PProgram_sC : PySem.W.subIn K (.ref C_Program) (.ref C_Program) = some true)
    (PProgram_kp : PySem.W.keepIn K (.ref C_Program) = true)
    (PProgram_mk : PySem.W.makesIn K C_Program = true)
    (PProgram_ne : PySem.W.findIn K (.ref C_Program) "__ne__" = some (some (.builtin "object.__ne__")))
    (PProgram_noNoneType : PySem.W.subIn K (.type "NoneType") (.ref C_Program) = some false)
    (PProgram_nobool : PySem.W.subIn K (.type "bool") (.ref C_Program) = some false)
    (PProgram_noint : PySem.W.subIn K (.type "int") (.ref C_Program) = some false)
    (PProgram_nostr : PySem.W.subIn K (.type "str") (.ref C_Program) = some false)
    (PProgram_nolist : PySem.W.subIn K (.type "list") (.ref C_Program) = some false)
    (PProgram_notuple : PySem.W.subIn K (.type "tuple") (.ref C_Program) = some false)
    (PProgram_nodict : PySem.W.subIn K (.type "dict") (.ref C_Program) = some false)
    (FProgram__procedures : PySem.W.findIn K (.ref C_Program) "_procedures" = some none)
    (FProgram__named : PySem.W.findIn K (.ref C_Program) "_named" = some none)
    (FProgram__variables : PySem.W.findIn K (.ref C_Program) "_variables" = some none)
    (d_Program_init : MdF K C_Program "__init__" "Program.__init__" s_Program_init)
    (d_Program_eq : MdF K C_Program "__eq__" "Program.__eq__" s_Program_eq)
    (d_Program_names : MdF K C_Program "names" "Program.names" s_Program_names)
    (d_Program_procedure : MdF K C_Program "procedure" "Program.procedure" s_Program_procedure)
    (d_Program_has_spot : MdF K C_Program "has_spot" "Program.has_spot" s_Program_has_spot)
    (d_Program_row : MdF K C_Program "row" "Program.row" s_Program_row)
    : ∃ fd : FuncData, (∀ (s : Shared) (u : Value), BindsTo s fd ⟨[u], []⟩ [("_law_script", u)]) ∧ ∀ base : Heap, K.In base → base.Ns mainGlobals mg → LamX.TabB base mg c tab → FnG P w K mg base CX0 13 fl fd ["_law_script"] (spLaw K tab) := by
  letI : TabCtx := ⟨[(tab, LQ)]⟩
  obtain ⟨e_wall⟩ := d_wall.dn (mg := mg) (ps := ["k"]) X G fun _ _ _ _ _ _ us hl => match us, hl with | [_], _ => rfl
  obtain ⟨e_is_number⟩ := d_is_number.dn (mg := mg) (ps := ["value"]) X G fun _ _ _ _ _ _ us hl => match us, hl with | [_], _ => rfl
  obtain ⟨e_is_within⟩ := d_is_within.dn (mg := mg) (ps := ["value", "low", "high"]) X G fun _ _ _ _ _ _ us hl => match us, hl with | [_, _, _], _ => rfl
  obtain ⟨e_is_value⟩ := d_is_value.dn (mg := mg) (ps := ["value"]) X G fun _ _ _ _ _ _ us hl => match us, hl with | [_], _ => rfl
  obtain ⟨e_is_name⟩ := d_is_name.dn (mg := mg) (ps := ["value"]) X G fun _ _ _ _ _ _ us hl => match us, hl with | [_], _ => rfl
  obtain ⟨e_is_listed⟩ := d_is_listed.dn (mg := mg) (ps := ["value", "most"]) X G fun _ _ _ _ _ _ us hl => match us, hl with | [_, _], _ => rfl
  obtain ⟨e_is_tuple_of⟩ := d_is_tuple_of.dn (mg := mg) (ps := ["value", "many"]) X G fun _ _ _ _ _ _ us hl => match us, hl with | [_, _], _ => rfl
  obtain ⟨e_is_op⟩ := d_is_op.dn (mg := mg) (ps := ["value"]) X G fun _ _ _ _ _ _ us hl => match us, hl with | [_], _ => rfl
  obtain ⟨e_is_operand⟩ := d_is_operand.dn (mg := mg) (ps := ["value"]) X G fun _ _ _ _ _ _ us hl => match us, hl with | [_], _ => rfl
  obtain ⟨e_is_row_index⟩ := d_is_row_index.dn (mg := mg) (ps := ["value"]) X G fun _ _ _ _ _ _ us hl => match us, hl with | [_], _ => rfl
  obtain ⟨e_is_set⟩ := d_is_set.dn (mg := mg) (ps := ["value"]) X G fun _ _ _ _ _ _ us hl => match us, hl with | [_], _ => rfl
  obtain ⟨e_is_call⟩ := d_is_call.dn (mg := mg) (ps := ["value"]) X G fun _ _ _ _ _ _ us hl => match us, hl with | [_], _ => rfl
  obtain ⟨e_are_operands⟩ := d_are_operands.dn (mg := mg) (ps := ["values"]) X G fun _ _ _ _ _ _ us hl => match us, hl with | [_], _ => rfl
  obtain ⟨e_is_pair_row⟩ := d_is_pair_row.dn (mg := mg) (ps := ["word", "part"]) X G fun _ _ _ _ _ _ us hl => match us, hl with | [_, _], _ => rfl
  obtain ⟨e_is_row⟩ := d_is_row.dn (mg := mg) (ps := ["value"]) X G fun _ _ _ _ _ _ us hl => match us, hl with | [_], _ => rfl
  obtain ⟨e_operands_of⟩ := d_operands_of.dn (mg := mg) (ps := ["row"]) X G fun _ _ _ _ _ _ us hl => match us, hl with | [_], _ => rfl
  obtain ⟨e_set_by⟩ := d_set_by.dn (mg := mg) (ps := ["row"]) X G fun _ _ _ _ _ _ us hl => match us, hl with | [_], _ => rfl
  obtain ⟨e_are_parameters⟩ := d_are_parameters.dn (mg := mg) (ps := ["value"]) X G fun _ _ _ _ _ _ us hl => match us, hl with | [_], _ => rfl
  obtain ⟨e_is_led_within⟩ := d_is_led_within.dn (mg := mg) (ps := ["row", "many"]) X G fun _ _ _ _ _ _ us hl => match us, hl with | [_, _], _ => rfl
  obtain ⟨e_are_rows⟩ := d_are_rows.dn (mg := mg) (ps := ["value"]) X G fun _ _ _ _ _ _ us hl => match us, hl with | [_], _ => rfl
  obtain ⟨e_is_procedure⟩ := d_is_procedure.dn (mg := mg) (ps := ["value"]) X G fun _ _ _ _ _ _ us hl => match us, hl with | [_], _ => rfl
  obtain ⟨e_first_wrong_procedure⟩ := d_first_wrong_procedure.dn (mg := mg) (ps := ["procedures"]) X G fun _ _ _ _ _ _ us hl => match us, hl with | [_], _ => rfl
  obtain ⟨e_first_wrong_caller⟩ := d_first_wrong_caller.dn (mg := mg) (ps := ["procedures"]) X G fun _ _ _ _ _ _ us hl => match us, hl with | [_], _ => rfl
  obtain ⟨e_variables⟩ := d_variables.dn (mg := mg) (ps := ["procedure"]) X G fun _ _ _ _ _ _ us hl => match us, hl with | [_], _ => rfl
  obtain ⟨e_need_program⟩ := d_need_program.dn (mg := mg) (ps := ["program"]) X G fun _ _ _ _ _ _ us hl => match us, hl with | [_], _ => rfl
  obtain ⟨e_need_procedure⟩ := d_need_procedure.dn (mg := mg) (ps := ["program", "procedure"]) X G fun _ _ _ _ _ _ us hl => match us, hl with | [_, _], _ => rfl
  obtain ⟨e_need_spot⟩ := d_need_spot.dn (mg := mg) (ps := ["program", "spot"]) X G fun _ _ _ _ _ _ us hl => match us, hl with | [_, _], _ => rfl
  obtain ⟨e_is_plain⟩ := d_is_plain.dn (mg := mg) (ps := ["row"]) X G fun _ _ _ _ _ _ us hl => match us, hl with | [_], _ => rfl
  obtain ⟨e_ubeginnings⟩ := d_ubeginnings.dn (mg := mg) (ps := ["rows"]) X G fun _ _ _ _ _ _ us hl => match us, hl with | [_], _ => rfl
  obtain ⟨e_beginnings⟩ := d_beginnings.dn (mg := mg) (ps := ["program", "procedure"]) X G fun _ _ _ _ _ _ us hl => match us, hl with | [_, _], _ => rfl
  obtain ⟨e_stretches_within⟩ := d_stretches_within.dn (mg := mg) (ps := ["name", "rows"]) X G fun _ _ _ _ _ _ us hl => match us, hl with | [_, _], _ => rfl
  obtain ⟨e_stretches⟩ := d_stretches.dn (mg := mg) (ps := ["program"]) X G fun _ _ _ _ _ _ us hl => match us, hl with | [_], _ => rfl
  obtain ⟨e_stretch_of⟩ := d_stretch_of.dn (mg := mg) (ps := ["program", "spot"]) X G fun _ _ _ _ _ _ us hl => match us, hl with | [_, _], _ => rfl
  obtain ⟨e_lpool⟩ := d_lpool.dn (mg := mg) (ps := ["_law_script", "_law_k"]) X G fun _ _ _ _ _ _ us hl => match us, hl with | [_, _], _ => rfl
  obtain ⟨e_ltake⟩ := d_ltake.dn (mg := mg) (ps := ["_law_source", "_law_top"]) X G fun _ _ _ _ _ _ us hl => match us, hl with | [_, _], _ => rfl
  obtain ⟨e_lone⟩ := d_lone.dn (mg := mg) (ps := ["_law_source", "_law_things"]) X G fun _ _ _ _ _ _ us hl => match us, hl with | [_, _], _ => rfl
  obtain ⟨e_loperand⟩ := d_loperand.dn (mg := mg) (ps := ["_law_source", "_law_words"]) X G fun _ _ _ _ _ _ us hl => match us, hl with | [_, _], _ => rfl
  obtain ⟨e_lplain_row⟩ := d_lplain_row.dn (mg := mg) (ps := ["_law_source", "_law_words"]) X G fun _ _ _ _ _ _ us hl => match us, hl with | [_, _], _ => rfl
  obtain ⟨e_lloop⟩ := d_lloop.dn (mg := mg) (ps := ["_law_source", "_law_words"]) X G fun _ _ _ _ _ _ us hl => match us, hl with | [_, _], _ => rfl
  obtain ⟨e_lrows⟩ := d_lrows.dn (mg := mg) (ps := ["_law_source", "_law_words", "_law_callees", "_law_room"]) X G fun _ _ _ _ _ _ us hl => match us, hl with | [_, _, _, _], _ => rfl
  obtain ⟨e_ldeep⟩ := d_ldeep.dn (mg := mg) (ps := []) X G fun _ _ _ _ _ _ us hl => match us, hl with | [], _ => rfl
  obtain ⟨e_lprogram⟩ := d_lprogram.dn (mg := mg) (ps := ["_law_source", "_law_room"]) X G fun _ _ _ _ _ _ us hl => match us, hl with | [_, _], _ => rfl
  obtain ⟨e_lshifted⟩ := d_lshifted.dn (mg := mg) (ps := ["_law_rows_here"]) X G fun _ _ _ _ _ _ us hl => match us, hl with | [_], _ => rfl
  obtain ⟨e_lsame⟩ := d_lsame.dn (mg := mg) (ps := ["_law_one_here", "_law_other"]) X G fun _ _ _ _ _ _ us hl => match us, hl with | [_, _], _ => rfl
  obtain ⟨e_lbegun⟩ := d_lbegun.dn (mg := mg) (ps := ["_law_rows_here"]) X G fun _ _ _ _ _ _ us hl => match us, hl with | [_], _ => rfl
  obtain ⟨e_llots⟩ := d_llots.dn (mg := mg) (ps := ["_law_pl"]) X G fun _ _ _ _ _ _ us hl => match us, hl with | [_], _ => rfl
  obtain ⟨e_lfell⟩ := d_lfell.dn (mg := mg) (ps := ["_law_call"]) X G fun _ _ _ _ _ _ us hl => match us, hl with | [_], _ => rfl
  obtain ⟨e_lrefused_right⟩ := d_lrefused_right.dn (mg := mg) (ps := ["_law_first", "_law_rows_here"]) X G fun _ _ _ _ _ _ us hl => match us, hl with | [_, _], _ => rfl
  obtain ⟨e_law⟩ := d_law.dn (mg := mg) (ps := ["_law_script"]) X G fun _ _ _ _ _ _ us hl => match us, hl with | [_], _ => rfl
  obtain ⟨e_Program_init⟩ := d_Program_init.md (ps := ["self", "procedures"]) fun _ _ _ _ _ _ us hl => match us, hl with | [_, _], _ => rfl
  obtain ⟨e_Program_eq⟩ := d_Program_eq.md (ps := ["self", "other"]) fun _ _ _ _ _ _ us hl => match us, hl with | [_, _], _ => rfl
  obtain ⟨e_Program_names⟩ := d_Program_names.md (ps := ["self"]) fun _ _ _ _ _ _ us hl => match us, hl with | [_], _ => rfl
  obtain ⟨e_Program_procedure⟩ := d_Program_procedure.md (ps := ["self", "name"]) fun _ _ _ _ _ _ us hl => match us, hl with | [_, _], _ => rfl
  obtain ⟨e_Program_has_spot⟩ := d_Program_has_spot.md (ps := ["self", "value"]) fun _ _ _ _ _ _ us hl => match us, hl with | [_, _], _ => rfl
  obtain ⟨e_Program_row⟩ := d_Program_row.md (ps := ["self", "spot"]) fun _ _ _ _ _ _ us hl => match us, hl with | [_, _], _ => rfl
  obtain ⟨e_NoRow, z_NoRow⟩ := x_NoRow.ex mg h X G fun _ _ _ _ _ _ us hl => match us, hl with | [_, _], _ => rfl
  obtain ⟨e_NoProgram, z_NoProgram⟩ := x_NoProgram.ex mg h X G fun _ _ _ _ _ _ us hl => match us, hl with | [_, _], _ => rfl
  obtain ⟨e_NoProcedure, z_NoProcedure⟩ := x_NoProcedure.ex mg h X G fun _ _ _ _ _ _ us hl => match us, hl with | [_, _], _ => rfl
  obtain ⟨e_NoSpot, z_NoSpot⟩ := x_NoSpot.ex mg h X G fun _ _ _ _ _ _ us hl => match us, hl with | [_, _], _ => rfl
  have T : Nonempty (Txt K mg) := ⟨{ n_all := PySem.W.mg_none_of X G n_all, n_bool := PySem.W.mg_none_of X G n_bool, n_enumerate := PySem.W.mg_none_of X G n_enumerate, n_int := PySem.W.mg_none_of X G n_int, n_isinstance := PySem.W.mg_none_of X G n_isinstance, n_len := PySem.W.mg_none_of X G n_len, n_list := PySem.W.mg_none_of X G n_list, n_max := PySem.W.mg_none_of X G n_max, n_min := PySem.W.mg_none_of X G n_min, n_range := PySem.W.mg_none_of X G n_range, n_repr := PySem.W.mg_none_of X G n_repr, n_set := PySem.W.mg_none_of X G n_set, n_sorted := PySem.W.mg_none_of X G n_sorted, n_str := PySem.W.mg_none_of X G n_str, n_tuple := PySem.W.mg_none_of X G n_tuple, m_MODULUS := ⟨_, PySem.W.mg_of X G m_MODULUS⟩, m_MOST_ROWS := ⟨_, PySem.W.mg_of X G m_MOST_ROWS⟩, m_MOST_OPERANDS := ⟨_, PySem.W.mg_of X G m_MOST_OPERANDS⟩, m_MOST_PROCEDURES := ⟨_, PySem.W.mg_of X G m_MOST_PROCEDURES⟩, m_OPS := ⟨q_OPS, PySem.W.mg_of X G a_OPS, _, _, _, l_OPS, rfl, rfl, (show 4 ≤ sizeLine from line_big (by omega)), (.cons ⟨_, rfl⟩ (.cons ⟨_, rfl⟩ (.cons ⟨_, rfl⟩ (.cons ⟨_, rfl⟩ .nil))))⟩, d_wall := e_wall, d_is_number := e_is_number, d_is_within := e_is_within, d_is_value := e_is_value, d_is_name := e_is_name, d_is_listed := e_is_listed, d_is_tuple_of := e_is_tuple_of, d_is_op := e_is_op, d_is_operand := e_is_operand, d_is_row_index := e_is_row_index, d_is_set := e_is_set, d_is_call := e_is_call, d_are_operands := e_are_operands, d_is_pair_row := e_is_pair_row, d_is_row := e_is_row, d_operands_of := e_operands_of, d_set_by := e_set_by, d_are_parameters := e_are_parameters, d_is_led_within := e_is_led_within, d_are_rows := e_are_rows, d_is_procedure := e_is_procedure, d_first_wrong_procedure := e_first_wrong_procedure, d_first_wrong_caller := e_first_wrong_caller, d_variables := e_variables, d_need_program := e_need_program, d_need_procedure := e_need_procedure, d_need_spot := e_need_spot, d_is_plain := e_is_plain, d_ubeginnings := e_ubeginnings, d_beginnings := e_beginnings, d_stretches_within := e_stretches_within, d_stretches := e_stretches, d_stretch_of := e_stretch_of, d_lpool := e_lpool, d_ltake := e_ltake, d_lone := e_lone, d_loperand := e_loperand, d_lplain_row := e_lplain_row, d_lloop := e_lloop, d_lrows := e_lrows, d_ldeep := e_ldeep, d_lprogram := e_lprogram, d_lshifted := e_lshifted, d_lsame := e_lsame, d_lbegun := e_lbegun, d_llots := e_llots, d_lfell := e_lfell, d_lrefused_right := e_lrefused_right, d_law := e_law, a_MomentError := M, m_MomentError := PySem.W.mg_of X G a_M, x_NoRow := e_NoRow, x_NoProgram := e_NoProgram, x_NoProcedure := e_NoProcedure, x_NoSpot := e_NoSpot, c_Program := ⟨C_Program, PySem.W.mg_of X G PProgram_a, ⟨⟨PProgram_pg, PProgram_hd, PProgram_po, PProgram_sa⟩, PProgram_ha, PProgram_hn, PProgram_tk, PProgram_hm, kit_self PProgram_hd PProgram_tC PProgram_sC⟩, PProgram_kp, PProgram_mk, PProgram_ne⟩, w_Program := noC_mk PProgram_hd PProgram_tC PProgram_noNoneType PProgram_nobool PProgram_noint PProgram_nostr PProgram_nolist PProgram_notuple PProgram_nodict, f_Program__procedures := FProgram__procedures, f_Program__named := FProgram__named, f_Program__variables := FProgram__variables, d_Program_init := e_Program_init, d_Program_eq := e_Program_eq, d_Program_names := e_Program_names, d_Program_procedure := e_Program_procedure, d_Program_has_spot := e_Program_has_spot, d_Program_row := e_Program_row, x2_NoRow := z_NoRow, x2_NoProgram := z_NoProgram, x2_NoProcedure := z_NoProcedure, x2_NoSpot := z_NoSpot }⟩
  obtain ⟨T⟩ := T
  have ef := hf.symm.trans T.d_law.m
  cases ef
  refine ⟨T.d_law.fd, fun s u => ?_, fun base _ _ hTB => ?_⟩
  · obtain ⟨oc, od, kV, doc, pm, an, cdv, ct, osl, e, lk, hcd⟩ := T.d_law.F.ex
    rw [e]
    exact .of_eq rfl
  · obtain ⟨oc, od, kV, doc, pm, an, cdv, ct, osl, e, lk, hcd⟩ := T.d_lfell.F.ex
    have eR := (PySem.W.mg_of X G a_R).symm.trans T.d_lrefused_right.m
    have q0 := (PySem.W.mg_of X G a_E0).symm.trans T.x_NoProgram.m
    have f0 : E0 = T.x_NoProgram.C := by injection q0 with q0; injection q0
    have q1 := (PySem.W.mg_of X G a_E1).symm.trans T.x_NoProcedure.m
    have f1 : E1 = T.x_NoProcedure.C := by injection q1 with q1; injection q1
    have q2 := (PySem.W.mg_of X G a_E2).symm.trans T.x_NoSpot.m
    have f2 : E2 = T.x_NoSpot.C := by injection q2 with q2; injection q2
    have kR : T.d_lrefused_right.fd.code = .ref c := by
      obtain ⟨oc2, od2, kV2, doc2, pm2, an2, cdv2, ct2, osl2, eq2, lk2, hcd2⟩ := T.d_lrefused_right.F.ex
      cases eR
      have z := l_R.symm.trans lk2
      have z2 : fdR = T.d_lrefused_right.fd := by injection z with z; injection z with _ _ z _; injection z
      rw [← z2]
      exact c_R
    have no1 : PySem.W.exmOne K (.ref T.x_NoProcedure.C) (.ref T.x_NoProgram.C) = some false := by
      rw [← f1, ← f0]
      exact PySem.W.exm_ref e_E0 h_E0 t_E0 s_1_0
    have no2 : PySem.W.exmOne K (.ref T.x_NoSpot.C) (.ref T.x_NoProgram.C) = some false := by
      rw [← f2, ← f0]
      exact PySem.W.exm_ref e_E0 h_E0 t_E0 s_2_0
    have no3 : PySem.W.exmOne K (.ref T.x_NoSpot.C) (.ref T.x_NoProcedure.C) = some false := by
      rw [← f2, ← f1]
      exact PySem.W.exm_ref e_E1 h_E1 t_E1 s_2_1
    have X9 : ∃ Y : Lm T base, Y.tab = tab := ⟨{ c := c, tab := tab, code := kR, tb := hTB, hm := (show (tab, LQ) ∈ [(tab, LQ)] from List.mem_singleton.mpr rfl), hu := fun p hp _ => (by rw [List.mem_singleton.mp (show p ∈ [(tab, LQ)] from hp)]), no1 := no1, no2 := no2, no3 := no3, oc := oc, od := od, kV := kV, doc := doc, pm := pm, an := an, cdv := cdv, ct := ct, osl := osl, lk := by rw [← e]; exact lk, hcd := hcd, hb := by rw [← e]; exact T.d_lfell.b }, rfl⟩
    obtain ⟨Y, hY⟩ := X9
    have z := ok_law (P := P) (w := w) T Y (by rw [hY]; rfl)
    rw [hY] at z
    exact z
theorem law_at {l : PySem.W.OpenLaw} {w : World} {K : PySem.W.Frag} {h : Heap} {mg : Str → Option Value} {fl : Addr} (X : K.In h) (G : h.Ns mainGlobals mg) (hf : mg "law" = some (.ref fl))
    {t_MODULUS t_MOST_ROWS t_MOST_OPERANDS t_MOST_PROCEDURES : Tok} {u_OPS0 u_OPS1 u_OPS2 u_OPS3 : Tok} {q_OPS : Addr} {dd_OPS : Option Addr} {n_OPS : Nat} {sl_OPS : Array (Option Value)} {M fR c tab : Addr} {ocR : Value} {odR : Option Addr} {fdR : FuncData} {slR : Array (Option Value)} {E0 : Addr} {E1 : Addr} {E2 : Addr} {C_Program : Addr}
    (n_all : PySem.W.nsIn K mainGlobals "all" = some none)
    (n_bool : PySem.W.nsIn K mainGlobals "bool" = some none)
    (n_enumerate : PySem.W.nsIn K mainGlobals "enumerate" = some none)
    (n_int : PySem.W.nsIn K mainGlobals "int" = some none)
    (n_isinstance : PySem.W.nsIn K mainGlobals "isinstance" = some none)
    (n_len : PySem.W.nsIn K mainGlobals "len" = some none)
    (n_list : PySem.W.nsIn K mainGlobals "list" = some none)
    (n_max : PySem.W.nsIn K mainGlobals "max" = some none)
    (n_min : PySem.W.nsIn K mainGlobals "min" = some none)
    (n_range : PySem.W.nsIn K mainGlobals "range" = some none)
    (n_repr : PySem.W.nsIn K mainGlobals "repr" = some none)
    (n_set : PySem.W.nsIn K mainGlobals "set" = some none)
    (n_sorted : PySem.W.nsIn K mainGlobals "sorted" = some none)
    (n_str : PySem.W.nsIn K mainGlobals "str" = some none)
    (n_tuple : PySem.W.nsIn K mainGlobals "tuple" = some none)
    (m_MODULUS : PySem.W.nsIn K mainGlobals "MODULUS" = some (some (.int 9973 t_MODULUS)))
    (m_MOST_ROWS : PySem.W.nsIn K mainGlobals "MOST_ROWS" = some (some (.int 12 t_MOST_ROWS)))
    (m_MOST_OPERANDS : PySem.W.nsIn K mainGlobals "MOST_OPERANDS" = some (some (.int 2 t_MOST_OPERANDS)))
    (m_MOST_PROCEDURES : PySem.W.nsIn K mainGlobals "MOST_PROCEDURES" = some (some (.int 4 t_MOST_PROCEDURES)))
    (a_OPS : PySem.W.nsIn K mainGlobals "OPS" = some (some (.ref q_OPS)))
    (l_OPS : K.lookup q_OPS = some ⟨.type "tuple", dd_OPS, .seq #[.str "add" u_OPS0, .str "sub" u_OPS1, .str "mul" u_OPS2, .str "less" u_OPS3] n_OPS, sl_OPS⟩)
    (a_M : PySem.W.nsIn K mainGlobals "MomentError" = some (some (.ref M)))
    (a_R : PySem.W.nsIn K mainGlobals "_law_refused_right" = some (some (.ref fR)))
    (l_R : K.lookup fR = some ⟨ocR, odR, .func fdR, slR⟩)
    (c_R : fdR.code = .ref c)
    (a_E0 : PySem.W.nsIn K mainGlobals "NoProgram" = some (some (.ref E0)))
    (e_E0 : PySem.W.subIn K (.ref E0) (.type "BaseException") = some true)
    (h_E0 : PySem.W.hasDictIn K E0 = true)
    (t_E0 : PySem.W.typeIn K (.ref E0) = some (.type "type"))
    (a_E1 : PySem.W.nsIn K mainGlobals "NoProcedure" = some (some (.ref E1)))
    (e_E1 : PySem.W.subIn K (.ref E1) (.type "BaseException") = some true)
    (h_E1 : PySem.W.hasDictIn K E1 = true)
    (t_E1 : PySem.W.typeIn K (.ref E1) = some (.type "type"))
    (s_1_0 : PySem.W.subIn K (.ref E1) (.ref E0) = some false)
    (a_E2 : PySem.W.nsIn K mainGlobals "NoSpot" = some (some (.ref E2)))
    (s_2_0 : PySem.W.subIn K (.ref E2) (.ref E0) = some false)
    (s_2_1 : PySem.W.subIn K (.ref E2) (.ref E1) = some false)
    (d_wall : DnF K "_wall" s_wall)
    (d_is_number : DnF K "is_number" s_is_number)
    (d_is_within : DnF K "is_within" s_is_within)
    (d_is_value : DnF K "is_value" s_is_value)
    (d_is_name : DnF K "is_name" s_is_name)
    (d_is_listed : DnF K "is_listed" s_is_listed)
    (d_is_tuple_of : DnF K "is_tuple_of" s_is_tuple_of)
    (d_is_op : DnF K "is_op" s_is_op)
    (d_is_operand : DnF K "is_operand" s_is_operand)
    (d_is_row_index : DnF K "is_row_index" s_is_row_index)
    (d_is_set : DnF K "_is_set" s_is_set)
    (d_is_call : DnF K "_is_call" s_is_call)
    (d_are_operands : DnF K "_are_operands" s_are_operands)
    (d_is_pair_row : DnF K "_is_pair_row" s_is_pair_row)
    (d_is_row : DnF K "is_row" s_is_row)
    (d_operands_of : DnF K "operands_of" s_operands_of)
    (d_set_by : DnF K "set_by" s_set_by)
    (d_are_parameters : DnF K "_are_parameters" s_are_parameters)
    (d_is_led_within : DnF K "_is_led_within" s_is_led_within)
    (d_are_rows : DnF K "_are_rows" s_are_rows)
    (d_is_procedure : DnF K "_is_procedure" s_is_procedure)
    (d_first_wrong_procedure : DnF K "_first_wrong_procedure" s_first_wrong_procedure)
    (d_first_wrong_caller : DnF K "_first_wrong_caller" s_first_wrong_caller)
    (d_variables : DnF K "_variables" s_variables)
    (d_need_program : DnF K "need_program" s_need_program)
    (d_need_procedure : DnF K "need_procedure" s_need_procedure)
    (d_need_spot : DnF K "need_spot" s_need_spot)
    (d_is_plain : DnF K "_is_plain" s_is_plain)
    (d_ubeginnings : DnF K "_beginnings" s_ubeginnings)
    (d_beginnings : DnF K "beginnings" s_beginnings)
    (d_stretches_within : DnF K "_stretches_within" s_stretches_within)
    (d_stretches : DnF K "stretches" s_stretches)
    (d_stretch_of : DnF K "stretch_of" s_stretch_of)
    (d_lpool : DnF K "_law_pool" s_lpool)
    (d_ltake : DnF K "_law_take" s_ltake)
    (d_lone : DnF K "_law_one" s_lone)
    (d_loperand : DnF K "_law_operand" s_loperand)
    (d_lplain_row : DnF K "_law_plain_row" s_lplain_row)
    (d_lloop : DnF K "_law_loop" s_lloop)
    (d_lrows : DnF K "_law_rows" s_lrows)
    (d_ldeep : DnF K "_law_deep" s_ldeep)
    (d_lprogram : DnF K "_law_program" s_lprogram)
    (d_lshifted : DnF K "_law_shifted" s_lshifted)
    (d_lsame : DnF K "_law_same" s_lsame)
    (d_lbegun : DnF K "_law_begun" s_lbegun)
    (d_llots : DnF K "_law_lots" s_llots)
    (d_lfell : DnF K "_law_fell" s_lfell)
    (d_lrefused_right : DnF K "_law_refused_right" s_lrefused_right)
    (d_law : DnF K "law" s_law)
    (x_NoRow : ExF K "NoRow" "MomentError.__init__" s_MomentError_init M)
    (x_NoProgram : ExF K "NoProgram" "MomentError.__init__" s_MomentError_init M)
    (x_NoProcedure : ExF K "NoProcedure" "MomentError.__init__" s_MomentError_init M)
    (x_NoSpot : ExF K "NoSpot" "MomentError.__init__" s_MomentError_init M)
    (PProgram_a : PySem.W.nsIn K mainGlobals "Program" = some (some (.ref C_Program)))
    (PProgram_pg : PySem.W.plainGet K C_Program Str.empty = true)
    (PProgram_hd : PySem.W.hasDictIn K C_Program = true)
    (PProgram_po : PySem.W.plainOver K C_Program = true)
    (PProgram_sa : PySem.W.findIn K (.ref C_Program) "__setattr__" = some (some (.builtin "object.__setattr__")))
    (PProgram_ha : PySem.W.findIn K (.ref C_Program) "__class__" = some (some (.builtin "object.__class__")))
    (PProgram_hn : PySem.W.specialIn K (.builtin "object.__class__") "__get__" = some (some (.builtin "getset_descriptor.__get__")))
    (PProgram_tk : PySem.W.takesIn K (.builtin "object.__class__") = some true)
    (PProgram_hm : PySem.W.mroIn K C_Program (.type "object") = some true)
    (PProgram_tC : PySem.W.typeIn K (.ref C_Program) = some (.type "type"))
    (PProgram_sC : PySem.W.subIn K (.ref C_Program) (.ref C_Program) = some true)
    (PProgram_kp : PySem.W.keepIn K (.ref C_Program) = true)
    (PProgram_mk : PySem.W.makesIn K C_Program = true)
    (PProgram_ne : PySem.W.findIn K (.ref C_Program) "__ne__" = some (some (.builtin "object.__ne__")))
    (PProgram_noNoneType : PySem.W.subIn K (.type "NoneType") (.ref C_Program) = some false)
    (PProgram_nobool : PySem.W.subIn K (.type "bool") (.ref C_Program) = some false)
    (PProgram_noint : PySem.W.subIn K (.type "int") (.ref C_Program) = some false)
    (PProgram_nostr : PySem.W.subIn K (.type "str") (.ref C_Program) = some false)
    (PProgram_nolist : PySem.W.subIn K (.type "list") (.ref C_Program) = some false)
    (PProgram_notuple : PySem.W.subIn K (.type "tuple") (.ref C_Program) = some false)
    (PProgram_nodict : PySem.W.subIn K (.type "dict") (.ref C_Program) = some false)
    (FProgram__procedures : PySem.W.findIn K (.ref C_Program) "_procedures" = some none)
    (FProgram__named : PySem.W.findIn K (.ref C_Program) "_named" = some none)
    (FProgram__variables : PySem.W.findIn K (.ref C_Program) "_variables" = some none)
    (d_Program_init : MdF K C_Program "__init__" "Program.__init__" s_Program_init)
    (d_Program_eq : MdF K C_Program "__eq__" "Program.__eq__" s_Program_eq)
    (d_Program_names : MdF K C_Program "names" "Program.names" s_Program_names)
    (d_Program_procedure : MdF K C_Program "procedure" "Program.procedure" s_Program_procedure)
    (d_Program_has_spot : MdF K C_Program "has_spot" "Program.has_spot" s_Program_has_spot)
    (d_Program_row : MdF K C_Program "row" "Program.row" s_Program_row)
    (hT : h.get? tab = some { cls := .none, data := .fields #[] }) (nT : K.lookup tab = none) (hC : PySem.W.CodeHd h c tab)
    : DL.LawTG l w K 13 63 "_law_script" mg fl h := by
  obtain ⟨fd, hb, hF⟩ := all_mk (P := l.prog) (w := w) X G hf n_all n_bool n_enumerate n_int n_isinstance n_len n_list n_max n_min n_range n_repr n_set n_sorted n_str n_tuple m_MODULUS m_MOST_ROWS m_MOST_OPERANDS m_MOST_PROCEDURES a_OPS l_OPS a_M a_R l_R c_R a_E0 e_E0 h_E0 t_E0 a_E1 e_E1 h_E1 t_E1 s_1_0 a_E2 s_2_0 s_2_1 d_wall d_is_number d_is_within d_is_value d_is_name d_is_listed d_is_tuple_of d_is_op d_is_operand d_is_row_index d_is_set d_is_call d_are_operands d_is_pair_row d_is_row d_operands_of d_set_by d_are_parameters d_is_led_within d_are_rows d_is_procedure d_first_wrong_procedure d_first_wrong_caller d_variables d_need_program d_need_procedure d_need_spot d_is_plain d_ubeginnings d_beginnings d_stretches_within d_stretches d_stretch_of d_lpool d_ltake d_lone d_loperand d_lplain_row d_lloop d_lrows d_ldeep d_lprogram d_lshifted d_lsame d_lbegun d_llots d_lfell d_lrefused_right d_law x_NoRow x_NoProgram x_NoProcedure x_NoSpot PProgram_a PProgram_pg PProgram_hd PProgram_po PProgram_sa PProgram_ha PProgram_hn PProgram_tk PProgram_hm PProgram_tC PProgram_sC PProgram_kp PProgram_mk PProgram_ne PProgram_noNoneType PProgram_nobool PProgram_noint PProgram_nostr PProgram_nolist PProgram_notuple PProgram_nodict FProgram__procedures FProgram__named FProgram__variables d_Program_init d_Program_eq d_Program_names d_Program_procedure d_Program_has_spot d_Program_row
  refine ⟨fd, [(c, tab)], spLaw K tab, fun p hp => ?_, fun p hp => ?_, fun p hp => ?_, hb, fun H a ns _ hT hS => ⟨a, ns, rfl, hS, hT (c, tab) (List.mem_singleton.mpr rfl), fun _ => rfl⟩, fun base KB GB hTB => hF base KB GB (hTB (c, tab) (List.mem_singleton.mpr rfl))⟩
  · rw [List.mem_singleton.mp hp]; exact hT
  · rw [List.mem_singleton.mp hp]; exact nT
  · rw [List.mem_singleton.mp hp]; exact hC
end K07

set_option maxHeartbeats 4000000
open PySem PySem.W PyProof.Rows
set_option maxRecDepth 100000 in
set_option maxHeartbeats 0 in
theorem PySem.Challenge.cw_plainmoment_k07_stretches_told_holds : PySem.Challenge.rw_plainmoment_k07_stretches_told.Holds := by
  w_on; o_law; k_head; (case hw => w_witness2)
  k_fill
  letI : DL.TabCtx := ⟨[]⟩
  refine DL.walkTG (l := PySem.Challenge.rw_plainmoment_k07_stretches_told) (most := 63) (n := 13) (nm := "_law_script") rfl (by decide) rfl ⟨rfl, by decide, by decide⟩ (fun w h Y => PySem.W.km_in_of Y) ?F
  case F =>
    intro w mg fl h Y KX G hmg
    have hT8 := PySem.W.km_tabs_of Y
    refine' K07.law_at (c := 471) (tab := 467) KX G hmg ?n_all ?n_bool ?n_enumerate ?n_int ?n_isinstance ?n_len ?n_list ?n_max ?n_min ?n_range ?n_repr ?n_set ?n_sorted ?n_str ?n_tuple ?m_MODULUS ?m_MOST_ROWS ?m_MOST_OPERANDS ?m_MOST_PROCEDURES ?a_OPS ?l_OPS ?a_M ?a_R ?l_R ?c_R ?a_E0 ?e_E0 ?h_E0 ?t_E0 ?a_E1 ?e_E1 ?h_E1 ?t_E1 ?s_1_0 ?a_E2 ?s_2_0 ?s_2_1 ?d_wall ?d_is_number ?d_is_within ?d_is_value ?d_is_name ?d_is_listed ?d_is_tuple_of ?d_is_op ?d_is_operand ?d_is_row_index ?d_is_set ?d_is_call ?d_are_operands ?d_is_pair_row ?d_is_row ?d_operands_of ?d_set_by ?d_are_parameters ?d_is_led_within ?d_are_rows ?d_is_procedure ?d_first_wrong_procedure ?d_first_wrong_caller ?d_variables ?d_need_program ?d_need_procedure ?d_need_spot ?d_is_plain ?d_ubeginnings ?d_beginnings ?d_stretches_within ?d_stretches ?d_stretch_of ?d_lpool ?d_ltake ?d_lone ?d_loperand ?d_lplain_row ?d_lloop ?d_lrows ?d_ldeep ?d_lprogram ?d_lshifted ?d_lsame ?d_lbegun ?d_llots ?d_lfell ?d_lrefused_right ?d_law ?x_NoRow ?x_NoProgram ?x_NoProcedure ?x_NoSpot ?PProgram_a ?PProgram_pg ?PProgram_hd ?PProgram_po ?PProgram_sa ?PProgram_ha ?PProgram_hn ?PProgram_tk ?PProgram_hm ?PProgram_tC ?PProgram_sC ?PProgram_kp ?PProgram_mk ?PProgram_ne ?PProgram_noNoneType ?PProgram_nobool ?PProgram_noint ?PProgram_nostr ?PProgram_nolist ?PProgram_notuple ?PProgram_nodict ?FProgram__procedures ?FProgram__named ?FProgram__variables ?d_Program_init ?d_Program_eq ?d_Program_names ?d_Program_procedure ?d_Program_has_spot ?d_Program_row (hT8 467 (by decide)) (by kernel_rfl) (PySem.W.codeHd_of_K (c := 471) (P := 467) KX (by kernel_rfl))
    (case n_all => k_is)
    (case n_bool => k_is)
    (case n_enumerate => k_is)
    (case n_int => k_is)
    (case n_isinstance => k_is)
    (case n_len => k_is)
    (case n_list => k_is)
    (case n_max => k_is)
    (case n_min => k_is)
    (case n_range => k_is)
    (case n_repr => k_is)
    (case n_set => k_is)
    (case n_sorted => k_is)
    (case n_str => k_is)
    (case n_tuple => k_is)
    (case m_MODULUS => k_is)
    (case m_MOST_ROWS => k_is)
    (case m_MOST_OPERANDS => k_is)
    (case m_MOST_PROCEDURES => k_is)
    (case a_OPS => k_is)
    (case l_OPS => k_is)
    (case a_M => k_is)
    (case a_R => k_is)
    (case l_R => k_is)
    (case c_R => rfl)
    (case a_E0 => k_is)
    (case e_E0 => k_is)
    (case h_E0 => k_is)
    (case t_E0 => k_is)
    (case a_E1 => k_is)
    (case e_E1 => k_is)
    (case h_E1 => k_is)
    (case t_E1 => k_is)
    (case s_1_0 => k_is)
    (case a_E2 => k_is)
    (case s_2_0 => k_is)
    (case s_2_1 => k_is)
    (case d_wall => (refine' DL.dnF ?ka ?kl ?kc ?kk; (case ka => k_is); (case kl => k_is); (case kc => k_is); (case kk => k_is)))
    (case d_is_number => (refine' DL.dnF ?ka ?kl ?kc ?kk; (case ka => k_is); (case kl => k_is); (case kc => k_is); (case kk => k_is)))
    (case d_is_within => (refine' DL.dnF ?ka ?kl ?kc ?kk; (case ka => k_is); (case kl => k_is); (case kc => k_is); (case kk => k_is)))
    (case d_is_value => (refine' DL.dnF ?ka ?kl ?kc ?kk; (case ka => k_is); (case kl => k_is); (case kc => k_is); (case kk => k_is)))
    (case d_is_name => (refine' DL.dnF ?ka ?kl ?kc ?kk; (case ka => k_is); (case kl => k_is); (case kc => k_is); (case kk => k_is)))
    (case d_is_listed => (refine' DL.dnF ?ka ?kl ?kc ?kk; (case ka => k_is); (case kl => k_is); (case kc => k_is); (case kk => k_is)))
    (case d_is_tuple_of => (refine' DL.dnF ?ka ?kl ?kc ?kk; (case ka => k_is); (case kl => k_is); (case kc => k_is); (case kk => k_is)))
    (case d_is_op => (refine' DL.dnF ?ka ?kl ?kc ?kk; (case ka => k_is); (case kl => k_is); (case kc => k_is); (case kk => k_is)))
    (case d_is_operand => (refine' DL.dnF ?ka ?kl ?kc ?kk; (case ka => k_is); (case kl => k_is); (case kc => k_is); (case kk => k_is)))
    (case d_is_row_index => (refine' DL.dnF ?ka ?kl ?kc ?kk; (case ka => k_is); (case kl => k_is); (case kc => k_is); (case kk => k_is)))
    (case d_is_set => (refine' DL.dnF ?ka ?kl ?kc ?kk; (case ka => k_is); (case kl => k_is); (case kc => k_is); (case kk => k_is)))
    (case d_is_call => (refine' DL.dnF ?ka ?kl ?kc ?kk; (case ka => k_is); (case kl => k_is); (case kc => k_is); (case kk => k_is)))
    (case d_are_operands => (refine' DL.dnF ?ka ?kl ?kc ?kk; (case ka => k_is); (case kl => k_is); (case kc => k_is); (case kk => k_is)))
    (case d_is_pair_row => (refine' DL.dnF ?ka ?kl ?kc ?kk; (case ka => k_is); (case kl => k_is); (case kc => k_is); (case kk => k_is)))
    (case d_is_row => (refine' DL.dnF ?ka ?kl ?kc ?kk; (case ka => k_is); (case kl => k_is); (case kc => k_is); (case kk => k_is)))
    (case d_operands_of => (refine' DL.dnF ?ka ?kl ?kc ?kk; (case ka => k_is); (case kl => k_is); (case kc => k_is); (case kk => k_is)))
    (case d_set_by => (refine' DL.dnF ?ka ?kl ?kc ?kk; (case ka => k_is); (case kl => k_is); (case kc => k_is); (case kk => k_is)))
    (case d_are_parameters => (refine' DL.dnF ?ka ?kl ?kc ?kk; (case ka => k_is); (case kl => k_is); (case kc => k_is); (case kk => k_is)))
    (case d_is_led_within => (refine' DL.dnF ?ka ?kl ?kc ?kk; (case ka => k_is); (case kl => k_is); (case kc => k_is); (case kk => k_is)))
    (case d_are_rows => (refine' DL.dnF ?ka ?kl ?kc ?kk; (case ka => k_is); (case kl => k_is); (case kc => k_is); (case kk => k_is)))
    (case d_is_procedure => (refine' DL.dnF ?ka ?kl ?kc ?kk; (case ka => k_is); (case kl => k_is); (case kc => k_is); (case kk => k_is)))
    (case d_first_wrong_procedure => (refine' DL.dnF ?ka ?kl ?kc ?kk; (case ka => k_is); (case kl => k_is); (case kc => k_is); (case kk => k_is)))
    (case d_first_wrong_caller => (refine' DL.dnF ?ka ?kl ?kc ?kk; (case ka => k_is); (case kl => k_is); (case kc => k_is); (case kk => k_is)))
    (case d_variables => (refine' DL.dnF ?ka ?kl ?kc ?kk; (case ka => k_is); (case kl => k_is); (case kc => k_is); (case kk => k_is)))
    (case d_need_program => (refine' DL.dnF ?ka ?kl ?kc ?kk; (case ka => k_is); (case kl => k_is); (case kc => k_is); (case kk => k_is)))
    (case d_need_procedure => (refine' DL.dnF ?ka ?kl ?kc ?kk; (case ka => k_is); (case kl => k_is); (case kc => k_is); (case kk => k_is)))
    (case d_need_spot => (refine' DL.dnF ?ka ?kl ?kc ?kk; (case ka => k_is); (case kl => k_is); (case kc => k_is); (case kk => k_is)))
    (case d_is_plain => (refine' DL.dnF ?ka ?kl ?kc ?kk; (case ka => k_is); (case kl => k_is); (case kc => k_is); (case kk => k_is)))
    (case d_ubeginnings => (refine' DL.dnF ?ka ?kl ?kc ?kk; (case ka => k_is); (case kl => k_is); (case kc => k_is); (case kk => k_is)))
    (case d_beginnings => (refine' DL.dnF ?ka ?kl ?kc ?kk; (case ka => k_is); (case kl => k_is); (case kc => k_is); (case kk => k_is)))
    (case d_stretches_within => (refine' DL.dnF ?ka ?kl ?kc ?kk; (case ka => k_is); (case kl => k_is); (case kc => k_is); (case kk => k_is)))
    (case d_stretches => (refine' DL.dnF ?ka ?kl ?kc ?kk; (case ka => k_is); (case kl => k_is); (case kc => k_is); (case kk => k_is)))
    (case d_stretch_of => (refine' DL.dnF ?ka ?kl ?kc ?kk; (case ka => k_is); (case kl => k_is); (case kc => k_is); (case kk => k_is)))
    (case d_lpool => (refine' DL.dnF ?ka ?kl ?kc ?kk; (case ka => k_is); (case kl => k_is); (case kc => k_is); (case kk => k_is)))
    (case d_ltake => (refine' DL.dnF ?ka ?kl ?kc ?kk; (case ka => k_is); (case kl => k_is); (case kc => k_is); (case kk => k_is)))
    (case d_lone => (refine' DL.dnF ?ka ?kl ?kc ?kk; (case ka => k_is); (case kl => k_is); (case kc => k_is); (case kk => k_is)))
    (case d_loperand => (refine' DL.dnF ?ka ?kl ?kc ?kk; (case ka => k_is); (case kl => k_is); (case kc => k_is); (case kk => k_is)))
    (case d_lplain_row => (refine' DL.dnF ?ka ?kl ?kc ?kk; (case ka => k_is); (case kl => k_is); (case kc => k_is); (case kk => k_is)))
    (case d_lloop => (refine' DL.dnF ?ka ?kl ?kc ?kk; (case ka => k_is); (case kl => k_is); (case kc => k_is); (case kk => k_is)))
    (case d_lrows => (refine' DL.dnF ?ka ?kl ?kc ?kk; (case ka => k_is); (case kl => k_is); (case kc => k_is); (case kk => k_is)))
    (case d_ldeep => (refine' DL.dnF ?ka ?kl ?kc ?kk; (case ka => k_is); (case kl => k_is); (case kc => k_is); (case kk => k_is)))
    (case d_lprogram => (refine' DL.dnF ?ka ?kl ?kc ?kk; (case ka => k_is); (case kl => k_is); (case kc => k_is); (case kk => k_is)))
    (case d_lshifted => (refine' DL.dnF ?ka ?kl ?kc ?kk; (case ka => k_is); (case kl => k_is); (case kc => k_is); (case kk => k_is)))
    (case d_lsame => (refine' DL.dnF ?ka ?kl ?kc ?kk; (case ka => k_is); (case kl => k_is); (case kc => k_is); (case kk => k_is)))
    (case d_lbegun => (refine' DL.dnF ?ka ?kl ?kc ?kk; (case ka => k_is); (case kl => k_is); (case kc => k_is); (case kk => k_is)))
    (case d_llots => (refine' DL.dnF ?ka ?kl ?kc ?kk; (case ka => k_is); (case kl => k_is); (case kc => k_is); (case kk => k_is)))
    (case d_lfell => (refine' DL.dnF ?ka ?kl ?kc ?kk; (case ka => k_is); (case kl => k_is); (case kc => k_is); (case kk => k_is)))
    (case d_lrefused_right => (refine' DL.dnF ?ka ?kl ?kc ?kk; (case ka => k_is); (case kl => k_is); (case kc => k_is); (case kk => k_is)))
    (case d_law => (refine' DL.dnF ?ka ?kl ?kc ?kk; (case ka => k_is); (case kl => k_is); (case kc => k_is); (case kk => k_is)))
    (case x_NoRow => (refine' DL.exF ?yaC ?yxL ?yvb ?ysa ?yga ?ygg ?yno ?yai ?yti ?yli ?yci ?yki ?ykC ?yeC ?ytC ?yhC ?ysC ?ysM ?ytM ?yhM ?yca ?ysg ?ytk ?ymr; (case yaC => k_is); (case yxL => k_is); (case yvb => decide +kernel); (case ysa => k_is); (case yga => k_is); (case ygg => k_is); (case yno => k_is); (case yai => k_is); (case yti => k_is); (case yli => k_is); (case yci => k_is); (case yki => k_is); (case ykC => k_is); (case yeC => k_is); (case ytC => k_is); (case yhC => k_is); (case ysC => k_is); (case ysM => k_is); (case ytM => k_is); (case yhM => k_is); (case yca => k_is); (case ysg => k_is); (case ytk => k_is); (case ymr => k_is)))
    (case x_NoProgram => (refine' DL.exF ?yaC ?yxL ?yvb ?ysa ?yga ?ygg ?yno ?yai ?yti ?yli ?yci ?yki ?ykC ?yeC ?ytC ?yhC ?ysC ?ysM ?ytM ?yhM ?yca ?ysg ?ytk ?ymr; (case yaC => k_is); (case yxL => k_is); (case yvb => decide +kernel); (case ysa => k_is); (case yga => k_is); (case ygg => k_is); (case yno => k_is); (case yai => k_is); (case yti => k_is); (case yli => k_is); (case yci => k_is); (case yki => k_is); (case ykC => k_is); (case yeC => k_is); (case ytC => k_is); (case yhC => k_is); (case ysC => k_is); (case ysM => k_is); (case ytM => k_is); (case yhM => k_is); (case yca => k_is); (case ysg => k_is); (case ytk => k_is); (case ymr => k_is)))
    (case x_NoProcedure => (refine' DL.exF ?yaC ?yxL ?yvb ?ysa ?yga ?ygg ?yno ?yai ?yti ?yli ?yci ?yki ?ykC ?yeC ?ytC ?yhC ?ysC ?ysM ?ytM ?yhM ?yca ?ysg ?ytk ?ymr; (case yaC => k_is); (case yxL => k_is); (case yvb => decide +kernel); (case ysa => k_is); (case yga => k_is); (case ygg => k_is); (case yno => k_is); (case yai => k_is); (case yti => k_is); (case yli => k_is); (case yci => k_is); (case yki => k_is); (case ykC => k_is); (case yeC => k_is); (case ytC => k_is); (case yhC => k_is); (case ysC => k_is); (case ysM => k_is); (case ytM => k_is); (case yhM => k_is); (case yca => k_is); (case ysg => k_is); (case ytk => k_is); (case ymr => k_is)))
    (case x_NoSpot => (refine' DL.exF ?yaC ?yxL ?yvb ?ysa ?yga ?ygg ?yno ?yai ?yti ?yli ?yci ?yki ?ykC ?yeC ?ytC ?yhC ?ysC ?ysM ?ytM ?yhM ?yca ?ysg ?ytk ?ymr; (case yaC => k_is); (case yxL => k_is); (case yvb => decide +kernel); (case ysa => k_is); (case yga => k_is); (case ygg => k_is); (case yno => k_is); (case yai => k_is); (case yti => k_is); (case yli => k_is); (case yci => k_is); (case yki => k_is); (case ykC => k_is); (case yeC => k_is); (case ytC => k_is); (case yhC => k_is); (case ysC => k_is); (case ysM => k_is); (case ytM => k_is); (case yhM => k_is); (case yca => k_is); (case ysg => k_is); (case ytk => k_is); (case ymr => k_is)))
    (case PProgram_a => k_is)
    (case PProgram_pg => k_is)
    (case PProgram_hd => k_is)
    (case PProgram_po => k_is)
    (case PProgram_sa => k_is)
    (case PProgram_ha => k_is)
    (case PProgram_hn => k_is)
    (case PProgram_tk => k_is)
    (case PProgram_hm => k_is)
    (case PProgram_tC => k_is)
    (case PProgram_sC => k_is)
    (case PProgram_kp => k_is)
    (case PProgram_mk => k_is)
    (case PProgram_ne => k_is)
    (case PProgram_noNoneType => k_is)
    (case PProgram_nobool => k_is)
    (case PProgram_noint => k_is)
    (case PProgram_nostr => k_is)
    (case PProgram_nolist => k_is)
    (case PProgram_notuple => k_is)
    (case PProgram_nodict => k_is)
    (case FProgram__procedures => k_is)
    (case FProgram__named => k_is)
    (case FProgram__variables => k_is)
    (case d_Program_init => (refine' DL.mdF ?ma ?mb ?ml ?mc ?mk; (case ma => k_is); (case mb => k_is); (case ml => k_is); (case mc => k_is); (case mk => k_is)))
    (case d_Program_eq => (refine' DL.mdF ?ma ?mb ?ml ?mc ?mk; (case ma => k_is); (case mb => k_is); (case ml => k_is); (case mc => k_is); (case mk => k_is)))
    (case d_Program_names => (refine' DL.mdF ?ma ?mb ?ml ?mc ?mk; (case ma => k_is); (case mb => k_is); (case ml => k_is); (case mc => k_is); (case mk => k_is)))
    (case d_Program_procedure => (refine' DL.mdF ?ma ?mb ?ml ?mc ?mk; (case ma => k_is); (case mb => k_is); (case ml => k_is); (case mc => k_is); (case mk => k_is)))
    (case d_Program_has_spot => (refine' DL.mdF ?ma ?mb ?ml ?mc ?mk; (case ma => k_is); (case mb => k_is); (case ml => k_is); (case mc => k_is); (case mk => k_is)))
    (case d_Program_row => (refine' DL.mdF ?ma ?mb ?ml ?mc ?mk; (case ma => k_is); (case mb => k_is); (case ml => k_is); (case mc => k_is); (case mk => k_is)))
