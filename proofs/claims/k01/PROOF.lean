import PyProof.Rows.All
import Wide.All
import OpenK.AllK
import Wide.FinOn
import HandS.ForMost
import HandS.IsInst
import HandS.NoneIn
import HandS.Style
import HandS.TupAny
import HandS.Evl
import PyProof.ReprRoads
import HandS.Walk
import HandS.TupLe
import PySem.Challenge.RW_versionjudge_k01_whole_next_versions
set_option Elab.async false
set_option linter.all false
set_option maxRecDepth 100000
set_option maxHeartbeats 4000000
namespace Zj
open PySem L2
/-! ### frames, the deck -/
def Kp (d l : Addr) (H H' : Hp) : Prop := ∀ b o, b ≠ d → b ≠ l → H b = some o → H' b = some o
def dkv (l : Addr) (m t : Int) : List (Key × V) := [(.inr "left", .ref l), (.inr "mixed", .int m), (.inr "turn", .int t)]
def Deck (d l : Addr) (H : Hp) : Prop := ∃ (ns : List Int) (m t : Int), H d = some (.dK (dkv l m t)) ∧ H l = some (.lst (ns.map V.int)) ∧ ns.length ≤ 63 ∧ 0 ≤ m ∧ m < 2147483647
theorem Kp.refl {d l : Addr} (H : Hp) : Kp d l H H := fun _ _ _ _ h => h
theorem Kp.trans {d l : Addr} {H H1 H2 : Hp} (a : Kp d l H H1) (b : Kp d l H1 H2) : Kp d l H H2 := fun c o h1 h2 h => b c o h1 h2 (a c o h1 h2 h)
theorem Kp.new {d l p : Addr} {H : Hp} {o : HO} (h : H p = none) : Kp d l H (upd H p o) := fun b u _ _ e => by
  rw [upd_ne (ne_of_none e h)]
  exact e
theorem Deck.ned {d l a : Addr} {H : Hp} {xs : List V} (D : Deck d l H) (h : H a = some (.tup xs)) : a ≠ d := by
  obtain ⟨ns, m, t, h1, _⟩ := D
  exact ne_of h h1 (fun q => nomatch q)
theorem Deck.nel {d l a : Addr} {H : Hp} {xs : List V} (D : Deck d l H) (h : H a = some (.tup xs)) : a ≠ l := by
  obtain ⟨ns, m, t, _, h1, _⟩ := D
  exact ne_of h h1 (fun q => nomatch q)
theorem Deck.nedl {d l a : Addr} {H : Hp} {xs : List V} (D : Deck d l H) (h : H a = some (.lst xs)) : a ≠ d := by
  obtain ⟨ns, m, t, h1, _⟩ := D
  exact ne_of h h1 (fun q => nomatch q)
theorem Deck.dl {d l : Addr} {H : Hp} (D : Deck d l H) : d ≠ l := by
  obtain ⟨ns, m, t, h1, h2, _⟩ := D
  exact ne_of h1 h2 (fun q => nomatch q)
theorem Kp.tup {d l a : Addr} {H H' : Hp} {xs : List V} (k : Kp d l H H') (D : Deck d l H) (h : H a = some (.tup xs)) : H' a = some (.tup xs) := k a _ (D.ned h) (D.nel h) h
theorem Kp.lst {d l a : Addr} {H H' : Hp} {xs : List V} (k : Kp d l H H') (D : Deck d l H) (ne : a ≠ l) (h : H a = some (.lst xs)) : H' a = some (.lst xs) := k a _ (D.nedl h) ne h
theorem Deck.new {d l p : Addr} {H : Hp} {o : HO} (D : Deck d l H) (h : H p = none) : Deck d l (upd H p o) := by
  obtain ⟨ns, m, t, h1, h2, r⟩ := D
  exact ⟨ns, m, t, by rw [upd_ne (ne_of_none h1 h)]; exact h1, by rw [upd_ne (ne_of_none h2 h)]; exact h2, r⟩
/-- a store at another place -/
theorem Deck.mut {d l p : Addr} {H : Hp} {o : HO} (D : Deck d l H) (h1 : p ≠ d) (h2 : p ≠ l) : Deck d l (upd H p o) := by
  obtain ⟨ns, m, t, e1, e2, r⟩ := D
  exact ⟨ns, m, t, by rw [upd_ne h1.symm]; exact e1, by rw [upd_ne h2.symm]; exact e2, r⟩
theorem Deck.free {d l p : Addr} {H : Hp} (D : Deck d l H) (h : H p = none) : p ≠ l := by
  obtain ⟨ns, m, t, _, h1, _⟩ := D
  exact (ne_of_none h1 h).symm
/-- an object that H does not know may change -/
theorem Kp.out {d l p : Addr} {H H' : Hp} {o : HO} (k : Kp d l H H') (h : H p = none) : Kp d l H (upd H' p o) := fun b u n1 n2 e => by
  rw [upd_ne (ne_of_none e h)]
  exact k b u n1 n2 e
theorem nLM : ¬ (("left" : Str) = "mixed") := by decide +kernel
theorem nLT : ¬ (("left" : Str) = "turn") := by decide +kernel
theorem nMT : ¬ (("mixed" : Str) = "turn") := by decide +kernel
theorem inr_ne {a b : Str} (h : ¬ a = b) : ¬ ((Sum.inr a : Key) = Sum.inr b) := fun q => h (Sum.inr.inj q)
section
variable {H : Hp} {d l : Addr} {m t : Int}
theorem val_left : valV (dkv l m t) (.inr "left") = some (.ref l) := by
  unfold valV dkv
  rw [List.find?_cons_of_pos (by simp)]
  rfl
theorem val_mixed : valV (dkv l m t) (.inr "mixed") = some (.int m) := by
  unfold valV dkv
  rw [List.find?_cons_of_neg (by simp [nLM]), List.find?_cons_of_pos (by simp)]
  rfl
theorem val_turn : valV (dkv l m t) (.inr "turn") = some (.int t) := by
  unfold valV dkv
  rw [List.find?_cons_of_neg (by simp [nLT]), List.find?_cons_of_neg (by simp [nMT]), List.find?_cons_of_pos (by simp)]
  rfl
theorem put_turn (t' : Int) : putK (dkv l m t) (.inr "turn") (.int t') = dkv l m t' := by
  simp [putK, dkv, nLT, nMT]
theorem put_mixed (m' : Int) : putK (dkv l m t) (.inr "mixed") (.int m') = dkv l m' t := by
  simp [putK, dkv, nLM, Ne.symm nMT]
theorem get_left (h : H d = some (.dK (dkv l m t))) : DGet H d (.str "left") (some (.ref l)) := by
  have := DGet.k (k := (.inr "left" : Key)) h
  rw [val_left] at this
  exact this
theorem get_mixed (h : H d = some (.dK (dkv l m t))) : DGet H d (.str "mixed") (some (.int m)) := by
  have := DGet.k (k := (.inr "mixed" : Key)) h
  rw [val_mixed] at this
  exact this
theorem get_turn (h : H d = some (.dK (dkv l m t))) : DGet H d (.str "turn") (some (.int t)) := by
  have := DGet.k (k := (.inr "turn" : Key)) h
  rw [val_turn] at this
  exact this
theorem set_turn (t' : Int) (h : H d = some (.dK (dkv l m t))) : DPut H d (.str "turn") (.int t') (upd H d (.dK (dkv l m t'))) := by
  have := DPut.k (k := (.inr "turn" : Key)) (v := .int t') h (by show 3 < sizeLine; decide)
  rw [put_turn] at this
  exact this
theorem set_mixed (m' : Int) (h : H d = some (.dK (dkv l m t))) : DPut H d (.str "mixed") (.int m') (upd H d (.dK (dkv l m' t))) := by
  have := DPut.k (k := (.inr "mixed" : Key)) (v := .int m') h (by show 3 < sizeLine; decide)
  rw [put_mixed] at this
  exact this
end
theorem DpAll.ints {K : PySem.W.Frag} {H : Hp} : ∀ ns : List Int, DpAll K H (ns.map V.int) (ns.map PyData.int)
  | [] => .nil
  | n :: r => .cons (.int n) (DpAll.ints r)
theorem lay_ints : ∀ ns : List Int, PyData.canLayAll0 (ns.map PyData.int) = true
  | [] => rfl
  | n :: r => by show (PyData.canLay0 (.int n) && _) = true; rw [lay_ints r]; rfl
theorem dep_ints : ∀ ns : List Int, PyData.depthAll (ns.map PyData.int) ≤ 1
  | [] => by decide
  | n :: r => by
    have := dep_ints r
    simp only [List.map_cons, PyData.depthAll, PyData.depth]
    omega
theorem sh_ints (ns : List Int) : SeqAt.shaped (.list (ns.map PyData.int)) = true := by
  have h := dep_ints ns
  unfold SeqAt.shaped
  rw [Bool.and_eq_true]
  refine ⟨lay_ints ns, decide_eq_true ?_⟩
  simp only [PyData.depth]
  omega

/-! ### versions as tuples of five ints -/
def IV (H : Hp) (v : V) (x : List Int) : Prop := ∃ a, v = .ref a ∧ H a = some (.tup (x.map V.int))
def Ver (B : Int) (x : List Int) : Prop := ∃ a b c k n : Int, x = [a, b, c, k, n] ∧ 0 ≤ a ∧ a ≤ B ∧ 0 ≤ b ∧ b ≤ B ∧ 0 ≤ c ∧ c ≤ B ∧ 0 ≤ k ∧ k ≤ 3 ∧ 0 ≤ n ∧ n ≤ B ∧ (k = 3 → n = 0)
def VV (B : Int) (H : Hp) (v : V) : Prop := ∃ x, IV H v x ∧ Ver B x
def nxt : List Int → List Int
  | [a, b, c, k, n] => if k < 3 then [a, b, c, k, n + 1] else [a, b, c + 1, 0, 0]
  | x => x
theorem Ver.nxt {B : Int} {x : List Int} (h : Ver B x) : Ver (B + 1) (nxt x) := by
  obtain ⟨a, b, c, k, n, rfl, h1, h2, h3, h4, h5, h6, h7, h8, h9, h10, h11⟩ := h
  unfold Zj.nxt
  simp only
  split
  · exact ⟨_, _, _, _, _, rfl, by omega, by omega, by omega, by omega, by omega, by omega, by omega, by omega, by omega, by omega, by omega⟩
  · exact ⟨_, _, _, _, _, rfl, by omega, by omega, by omega, by omega, by omega, by omega, by omega, by omega, by omega, by omega, by omega⟩
theorem Ver.mono {B C : Int} {x : List Int} (h : Ver B x) (hc : B ≤ C) : Ver C x := by
  obtain ⟨a, b, c, k, n, rfl, h1, h2, h3, h4, h5, h6, h7, h8, h9, h10, h11⟩ := h
  exact ⟨_, _, _, _, _, rfl, by omega, by omega, by omega, by omega, by omega, by omega, by omega, by omega, by omega, by omega, by omega⟩
theorem VV.mono {B C : Int} {H : Hp} {v : V} (h : VV B H v) (hc : B ≤ C) : VV C H v := by
  obtain ⟨x, h1, h2⟩ := h
  exact ⟨x, h1, h2.mono hc⟩
theorem IV.kp {d l : Addr} {H H' : Hp} {v : V} {x : List Int} (h : IV H v x) (k : Kp d l H H') (D : Deck d l H) : IV H' v x := by
  obtain ⟨a, e, h⟩ := h
  exact ⟨a, e, k.tup D h⟩
theorem VV.kp {d l : Addr} {H H' : Hp} {v : V} {B : Int} (h : VV B H v) (k : Kp d l H H') (D : Deck d l H) : VV B H' v := by
  obtain ⟨x, h1, h2⟩ := h
  exact ⟨x, h1.kp k D, h2⟩
theorem IV.same {H H' : Hp} {v : V} {x : List Int} (h : IV H v x) (k : ∀ a xs, H a = some (.tup xs) → H' a = some (.tup xs)) : IV H' v x := by
  obtain ⟨a, e, h⟩ := h
  exact ⟨a, e, k _ _ h⟩
theorem VV.same {H H' : Hp} {v : V} {B : Int} (h : VV B H v) (k : ∀ a xs, H a = some (.tup xs) → H' a = some (.tup xs)) : VV B H' v := by
  obtain ⟨x, h1, h2⟩ := h
  exact ⟨x, h1.same k, h2⟩
/-- a list is changed, all tuples stay -/
theorem tup_mut {H : Hp} {p : Addr} {xs ys : List V} (h : H p = some (.lst xs)) : ∀ a zs, H a = some (.tup zs) → upd H p (.lst ys) a = some (.tup zs) := fun a zs e => by
  rw [upd_ne (ne_of e h (fun q => nomatch q))]
  exact e
theorem tup_new {H : Hp} {p : Addr} {o : HO} (h : H p = none) : ∀ a zs, H a = some (.tup zs) → upd H p o a = some (.tup zs) := fun a zs e => by
  rw [upd_ne (ne_of_none e h)]
  exact e
/-! ### data -/
def Shp (K : PySem.W.Frag) (H : Hp) (vs : List V) : Prop := ∃ ds, DpAll K H vs ds ∧ SeqAt.shaped (.list ds) = true
theorem dpall_len {K : PySem.W.Frag} {H : Hp} : ∀ {vs : List V} {ds : List PyData}, DpAll K H vs ds → ds.length = vs.length
  | _, _, .nil => rfl
  | _, _, .cons _ h => by rw [List.length_cons, List.length_cons, dpall_len h]
theorem eqv_nil (ds : List PyData) : PyData.eqv (.list ds) (.list []) = ds.isEmpty := by
  cases ds <;> rfl
theorem neNil {K : PySem.W.Frag} {H : Hp} {a b : Addr} {xs : List V} {Q : VK} (ha : SqL K H a xs) (hb : SqL K H b []) (hs : Shp K H xs) (h : Q (.bl (!xs.isEmpty)) H) : rNeD K (.ref a) (.ref b) H Q := by
  obtain ⟨ds, h1, h2⟩ := hs
  refine ⟨_, _, .lst ha h1, .lst hb .nil, h2, by decide, ?_⟩
  have e := dpall_len h1
  rw [eqv_nil]
  have e2 : ds.isEmpty = xs.isEmpty := by
    cases ds <;> cases xs <;> simp at e <;> rfl
  rw [e2]
  exact h
theorem IV.dp {K : PySem.W.Frag} {H : Hp} {v : V} {x : List Int} (h : IV H v x) : Dp K H v (.tuple (x.map PyData.int)) := by
  obtain ⟨a, rfl, h⟩ := h
  exact .tup (SqT.of h) (DpAll.ints x)
theorem shp_of {K : PySem.W.Frag} {H : Hp} : ∀ {vs : List V}, (∀ v ∈ vs, ∃ x, IV H v x) → ∃ ds, DpAll K H vs ds ∧ PyData.canLayAll0 ds = true ∧ PyData.depthAll ds ≤ 2
  | [], _ => ⟨[], .nil, rfl, by decide⟩
  | v :: vs, h => by
    obtain ⟨x, hx⟩ := h v (List.mem_cons.mpr (.inl rfl))
    obtain ⟨ds, h1, h2, h3⟩ := shp_of (vs := vs) (K := K) fun u hu => h u (List.mem_cons.mpr (.inr hu))
    refine ⟨_, .cons hx.dp h1, ?_, ?_⟩
    · show (PyData.canLayAll0 (x.map PyData.int) && _) = true
      rw [lay_ints, h2]
      rfl
    · have := dep_ints x
      simp only [PyData.depthAll, PyData.depth]
      omega
theorem shp_vv {K : PySem.W.Frag} {H : Hp} {vs : List V} {B : Int} (h : ∀ v ∈ vs, VV B H v) : Shp K H vs := by
  obtain ⟨ds, h1, h2, h3⟩ := shp_of (K := K) (fun v hv => let ⟨x, hx, _⟩ := h v hv; ⟨x, hx⟩)
  refine ⟨ds, h1, ?_⟩
  unfold SeqAt.shaped
  rw [Bool.and_eq_true]
  refine ⟨h2, decide_eq_true ?_⟩
  simp only [PyData.depth]
  omega
/-- where a def of the text stands -/
structure DefAt (K : PySem.W.Frag) (mg : Str → Option Value) (x : Str) (st : Stmt) (ps : List Str) (f : Addr) (fd : FuncData) : Prop where
  F : Fun K x x st f fd
  g : mg x = some (.ref f)
  b : Binds K fd ps []
theorem pe_globI {X : Cx} {x : Str} {i : Int} {pos : Pos} (hg : Gl X x) (h : ∃ t, X.mg x = some (.int i t)) (hd : (x == ("__debug__" : Str)) = false := by decide) : PE X (.Name x pos) (tC (.int i)) := by
  obtain ⟨t, h⟩ := h
  exact pe_glob hg h ⟨t, rfl⟩ hd
end Zj
namespace Zj
open PySem PySem.Spec PyProof.Rows L2
structure FnG (P : Program) (w : World) (K : PySem.W.Frag) (mg : Str → Option Value) (base : Heap) (k : Nat) (f : Addr) (fd : FuncData) (ps : List Str) (sp : Sp) : Prop where
  len : ∀ vs H Q E, sp vs H Q E → vs.length = ps.length
  go : ∀ (A : Around) (outer : List Env) (s : Shared) (H : Hp) (args : Args) (us : List Value) (vs : List V) (Q : VK), A.guards = some [] → Room k A → Env0 P w K mg base A outer s H → BindsTo s fd args (ps.zip us) → Vals vs us → sp vs H Q E0 →
    codeAny (model P w) A (.call (.ref f) args) (CR CX0 outer P w H s Q E0) s
theorem FnG.of {P : Program} {w : World} {K : PySem.W.Frag} {mg : Str → Option Value} {base : Heap} {k : Nat} {f : Addr} {fd : FuncData} {ps : List Str} {sp : Sp} (F : FnOk P w K mg base CX0 k f fd ps sp) : FnG P w K mg base k f fd ps sp :=
  ⟨F.len, fun A o s H args us vs Q _ => F.run A o s H args us vs Q E0⟩
/-- a def by its body, no repr under way -/
theorem FnG.body {P : Program} {w : World} {K : PySem.W.Frag} {mg : Str → Option Value} {base : Heap} {x qual : Str} {st : Stmt} {f : Addr} {fd : FuncData} {N ps : List Str} {k : Nat} {sp : Sp} (F : Fun K x qual st f fd) (S : FnScope N ps (defScope st))
    (len : ∀ vs H Q E, sp vs H Q E → vs.length = ps.length)
    (hb : ∀ (cdv : Value) (A : Around) (outer : List Env) (s : Shared) (H : Hp) (vs : List V) (Q : VK), A.guards = some [] → Room k (A.deeper (envOfC qual (defScope st) s.heap.objs.size f cdv)) → sp vs H Q E0 →
      ∃ t, PSs (cxOf CX0 P w K mg base N qual (defScope st) f cdv A outer s H E0).nox (defBody st) t ∧ t { nx := fun _ H' => Q .non H', rt := Q } (start N vs) H) : FnG P w K mg base (k + 1) f fd ps sp := by
  obtain ⟨oc, od, kV, doc, pm, an, cdv, ct, osl, rfl, lk, hcd⟩ := F.ex
  refine ⟨len, fun A outer s H args us vs Q hg hr e0 hbn r hsp => ?_⟩
  have hl := len _ _ _ _ hsp
  have kb := fun b o e => (e0.bs b o e).1
  have KX : K.In s.heap := e0.mod.kin.keeps kb
  refine codeAny_call_function hr.depth (KX _ _ lk) rfl S.co S.gen rfl (PySem.W.codeRec_of KX hcd) (hbn _ _ _ _ ?_)
  refine wpAny_newFunctionEnv_cells S.kind (fun y hy => (S.par y.1 (List.of_mem_zip (show (y.1, y.2) ∈ ps.zip us from hy)).1).elim Or.inl fun q => Or.inr ⟨q, PySem.W.cellsFrom_some _ _ _ (.inl q)⟩) fun env he s1 x => ?_
  subst he
  refine ⟨(e0.mod.nolimit.keeps kb).keeps x.toInCall.keep, codeAny_func ?_⟩
  obtain ⟨t, ht, hq⟩ := hb cdv A outer s H vs Q hg (hr.deeper _) hsp
  have I := inv_start (CX := CX0) (E := E0) S hr.hd e0 hl r x
  refine wpAny_mono (ht.nox.run [] s1 (start N vs) H _ I hq) (fun fl s' hs => ?_) fun e s' hs => hs
  cases fl with
  | ret u =>
    obtain ⟨v, σ', H', J, rv, q⟩ := hs
    exact ⟨v, H', J.os, J.bare, J.base, J.hok, rv, q⟩
  | next =>
    obtain ⟨σ', H', J, q⟩ := hs
    exact ⟨V.non, H', J.os, J.bare, J.base, J.hok, rfl, q⟩
  | brk =>
    obtain ⟨_, _, _, q⟩ := hs
    exact q.elim
  | cont =>
    obtain ⟨_, _, _, q⟩ := hs
    exact q.elim
section
variable {X : Cx} {k : Nat} {f : Addr} {fd : FuncData} {ps : List Str} {sp : Sp} {x : Str} {p pos : Pos} {e : Expr} {es : List Expr} {t : TA}
/-- f(e, ..), f such a def -/
theorem pe_callG (F : FnG X.prog X.w X.K X.mg X.base k f fd ps sp) (hgd : X.A.guards = some []) (hr : Room k X.A) (hg : Gl X x) (hm : X.mg x = some (.ref f)) (hk : PySem.W.keepIn X.K (.ref f) = true) (hb : Binds X.K fd ps [])
    (ha : PA X (e :: es) t) (hdb : (x == ("__debug__" : Str)) = false := by decide) (he : starEach (e :: es) X.env = (false, eval e X.env) :: starEach es X.env := by rfl) (hpl : (backTo pos (starEach es X.env)).any (·.1) = false := by rfl) :
    PE X (.Call (.Name x p) (e :: es) [] pos) (tCall sp [] E0 t) := by
  refine ⟨fun pins s σ H Q I h => wpAny_Call_Name_kw (ld_glob I hg hm (PySem.W.callWith_K (h₀ := X.base) I.ok.mod.kin hk (thn (ha.run pos pins s σ H _ I h) fun us s1 ⟨vs, H1, I1, r, q⟩ => ⟨I1.kIn, ?_⟩) he hpl) hdb)⟩
  have r2 : Vals (vs ++ []) (us ++ []) := r.append .nil
  have hl : (us ++ []).length = ps.length := r2.length.symm.trans (F.len _ _ _ _ q)
  refine wpAny_call (codeAny_mono (F.go X.A X.stack s1 H1 ⟨us, []⟩ _ _ Q hgd hr I1.env0 (hb s1 us I1.kIn hl) r2 q) fun r s' hq => ?_)
  cases r with
  | error e => exact hq.elim
  | ok fl =>
    cases fl with
    | ret u => exact I1.after hq
    | next => exact hq.elim
    | brk => exact hq.elim
    | cont => exact hq.elim
/-- f(k = e, ..), all by name -/
theorem pe_callK0 {g : List Value → List Value → List Value} {gV : List V → List V → List V} {kws : List Keyword} {ks : List Str} {tk : TA} (F : FnOk X.prog X.w X.K X.mg X.base CX0 k f fd ps sp) (hr : Room k X.A) (hg : Gl X x) (hm : X.mg x = some (.ref f)) (hk : PySem.W.keepIn X.K (.ref f) = true) (hb : KBinds X.K fd ps ks g gV)
    (hx : Passes CX0 X E0) (hkw : PK X kws tk) (hall : (backToKw pos (keywordEach kws X.env)).all (·.1.isSome) = true := by rfl) (hks : (backToKw pos (keywordEach kws X.env)).filterMap (·.1) = ks := by rfl) (hdb : (x == ("__debug__" : Str)) = false := by decide)
    (hpl : ((backTo pos (starEach [] X.env)).any (·.1) || (backToKw pos (keywordEach kws X.env)).any (·.1.isNone)) = false := by rfl) : PE X (.Call (.Name x p) [] kws pos) (tCallK sp gV E0 tNil tk) := by
  refine ⟨fun pins s σ H Q I h => wpAny_Call_Name_kw (ld_glob I hg hm ?_ hdb)⟩
  refine PySem.W.callWith_KW0 (h₀ := X.base) I.ok.mod.kin hk hall (thn (hkw.run pos pins s σ H _ I h) fun ws s2 ⟨zs, H2, I2, rz, q2⟩ => ⟨I2.kIn, ?_⟩) hpl
  rw [hks]
  exact run_fnk (us := []) (vs := []) F hr hb hx I2 .nil rz q2
def kwG (us ws : List Value) : List Value := match us with | [] => ws | _ => []
def kwV (vs zs : List V) : List V := match vs with | [] => zs | _ => []
theorem kb1 {K : PySem.W.Frag} {q qual : Str} {st : Stmt} {f : Addr} {fd : FuncData} {n : Str} (F : Fun K q qual st f fd)
    (h : ∀ (kV doc pm : Value) (an : Option Addr) (cdv ct v : Value), bindArgs (PySem.W.fnOf q qual (defArgs st) (defBody st) (defScope st) .none kV doc pm an cdv ct) ⟨[], [(n, v)]⟩ = pure [(n, v)]) : KBinds K fd [n] [n] kwG kwV := by
  obtain ⟨oc, od, kV, doc, pm, an, cdv, ct, osl, rfl, lk, hcd⟩ := F.ex
  refine ⟨fun s us ws _ hl => ?_, fun {vs us zs ws} r rz => ?_⟩
  · match us, ws, hl with
    | [], [v], _ => exact .of_eq (h kV doc pm an cdv ct v)
  · cases r with
    | nil => exact rz
    | cons _ _ => exact .nil
/-- repr(x), x data without dicts -/
theorem call_reprD (hgd : X.A.guards = some []) (hu : X.A.units + 64 < cLine) : CallR X (.builtin "repr") (fun xs H Q => ∃ v d, xs = [v] ∧ Dp X.K H v d ∧ d.showable = true ∧ SeqAt.shaped d = true ∧ d.depth < 60 ∧ d.shown.length ≤ sizeLine ∧ Q (.str d.shown) H) := by
  intro pins s σ H xs us Q I r h
  obtain ⟨v, d, rfl, hd, hs, hsh, hdp, hz, q⟩ := h
  obtain ⟨u, rfl, ru⟩ := vals1 r
  obtain ⟨as, rd⟩ := Dp.reads I d v u hd ru
  have nd : d.hasDict = false := PyData.hasDict_of_canLay d (SeqAt.canLay_of_shaped hsh)
  have fin : ∀ (h' : Heap) (t tk : Tok), (∀ b o, s.heap.get? b = some o → h'.get? b = some o) → EP X pins σ Q (.str d.shown t) { s with heap := h', toks := tk } := fun h' t tk hk =>
    ⟨.str _, H, I.kept hk, ⟨_, rfl⟩, q⟩
  cases hd with
  | non =>
    cases ru
    exact PySem.P.repr_of_none (fin _ _ _ fun _ _ h => h)
  | bl b =>
    cases ru
    exact PySem.P.repr_of_bool (fin _ _ _ fun _ _ h => h)
  | int i =>
    obtain ⟨tk, rfl⟩ := ru
    exact PySem.P.repr_of_int (of_decide_eq_true hs) (fin _ _ _ fun _ _ h => h)
  | str z =>
    obtain ⟨tk, rfl⟩ := ru
    exact PySem.P.repr_of_str (fin _ _ _ fun _ _ h => h)
  | lst h1 h2 =>
    cases ru
    exact repr_of_reads' rd hs (fun z => by rw [nd] at z; cases z) hgd (by omega) (fun _ _ z => z) (fun h' t tk hk => fin h' t tk hk) hz
  | tup h1 h2 =>
    cases ru
    exact repr_of_reads' rd hs (fun z => by rw [nd] at z; cases z) hgd (by omega) (fun _ _ z => z) (fun h' t tk hk => fin h' t tk hk) hz
/-! within a comprehension: the written part told outside -/
variable {K : PySem.W.Frag}
theorem op_ltTK (K : PySem.W.Frag) (hu : X.A.units < cLine) (e : X.K = K := by rfl) : OpR X (compareOp .Lt) (rLtT K) := by
  subst e
  exact op_ltT hu
theorem op_eqDK (K : PySem.W.Frag) (hu : X.A.units + 64 < cLine) (e : X.K = K := by rfl) : OpR X (compareOp .Eq) (rEqD K) := by
  subst e
  exact op_eqD hu
theorem op_neDK (K : PySem.W.Frag) (hu : X.A.units + 64 < cLine) (e : X.K = K := by rfl) : OpR X (compareOp .NotEq) (rNeD K) := by
  subst e
  exact op_neD hu
theorem ix_tupK (K : PySem.W.Frag) (e : X.K = K := by rfl) : IxR X (rIxT K) := by
  subst e
  exact ix_tup
theorem ix_listK (K : PySem.W.Frag) (e : X.K = K := by rfl) : IxR X (rIxL K) := by
  subst e
  exact ix_list
theorem sl_tupAK (K : PySem.W.Frag) (e : X.K = K := by rfl) : SlR X (rSlA K) := by
  subst e
  exact sl_tupA
theorem op_catAK (K : PySem.W.Frag) (e : X.K = K := by rfl) : OpR X (binaryOp .Add) (rCatA K) := by
  subst e
  exact op_catA
def rLenSK (K : PySem.W.Frag) : List V → Hp → VK → Prop := fun xs H Q => ∃ p ys, xs = [.ref p] ∧ (SqL K H p ys ∨ SqT K H p ys) ∧ Q (.int ys.length) H
theorem call_len_seqK (K : PySem.W.Frag) (e : X.K = K := by rfl) : CallR X (.builtin "len") (rLenSK K) := by
  subst e
  exact call_len_seq
theorem call_isiKK (K : PySem.W.Frag) (e : X.K = K := by rfl) : CallR X (.builtin "isinstance") (rIsi K) := by
  subst e
  exact call_isi
def rReprD (K : PySem.W.Frag) : List V → Hp → VK → Prop := fun xs H Q => ∃ v d, xs = [v] ∧ Dp K H v d ∧ d.showable = true ∧ SeqAt.shaped d = true ∧ d.depth < 60 ∧ d.shown.length ≤ sizeLine ∧ Q (.str d.shown) H
theorem call_reprDK (K : PySem.W.Frag) (hgd : X.A.guards = some []) (hu : X.A.units + 64 < cLine) (e : X.K = K := by rfl) : CallR X (.builtin "repr") (rReprD K) := by
  subst e
  exact call_reprD hgd hu
end
end Zj
namespace Zj
open PySem PySem.Spec PyProof.Rows L2
/-- the law's call at the heap behind the top -/
theorem endG {P : Program} {w : World} {K : PySem.W.Frag} {mg mb : Str → Option Value} {k : Nat} {fa a : Addr} {fd : FuncData} {x : Str} {sp : Sp} {s1 : Shared} {vs : List Value} {ns : List Int}
    (KX : K.In s1.heap) (hns : s1.heap.Ns mainGlobals mg) (hb : s1.heap.Ns builtinsNs mb) (hbb : ∀ x : Str, x ≠ "__name__" → mb x = bootBuiltins x) (hlim : s1.heap.NoLimit) (hg : s1.gens = #[])
    (ha : s1.heap.get? a = some { cls := .type "list", data := .seq vs.toArray }) (hi : IntsAre vs ns) (hl : ns.length ≤ sizeLine) (hr : Room k callerA)
    (F : ∀ base : Heap, K.In base → base.Ns mainGlobals mg → FnG P w K mg base k fa fd [x] sp) (hbind : ∀ (s : Shared) (u : Value), BindsTo s fd ⟨[u], []⟩ [(x, u)])
    (hsp : ∀ H : Hp, SqL K H a (ns.map V.int) → sp [.ref a] H (fun v _ => v = .bl true) E0) :
    codeAny (model P w) callerA (.call (.ref fa) ⟨[.ref a], []⟩) (fun r s' => r = .ok (.ret (.bool true)) ∧ OldK s1.heap s'.heap ∧ s'.os = s1.os ∧ AllBare s'.gens) s1 := by
  have rv := vals_ints hi
  have main : ∀ H : Hp, SqL K H a (ns.map V.int) → HOk P w H s1.heap → (∀ b u, H b = some u → b = a ∧ K.lookup a = none ∧ ∃ o z, u = .frz o (.lst z)) →
      codeAny (model P w) callerA (.call (.ref fa) ⟨[.ref a], []⟩) (fun r s' => r = .ok (.ret (.bool true)) ∧ OldK s1.heap s'.heap ∧ s'.os = s1.os ∧ AllBare s'.gens) s1 := by
    intro H hS hok hA
    have free : ∀ {b : Addr} {o : Obj}, s1.heap.get? b = some o → (b = a → (∃ es ep, o.data = .dict es ep) ∨ K.lookup a = some o) → H b = none := fun {b o} e q => by
      cases h : H b with
      | none => rfl
      | some u =>
        obtain ⟨rfl, h2, _⟩ := hA b u h
        rcases q rfl with ⟨es, ep, d⟩ | d
        · rw [ha] at e
          cases e
          cases d
        · rw [h2] at d
          cases d
    have at_ns : ∀ {b : Addr} {m : Str → Option Value}, s1.heap.Ns b m → (hidT s1.heap H).Ns b m := fun ⟨o, es, ep, e, d, r⟩ => ⟨o, es, ep, hidT_get e (free e fun _ => .inl ⟨es, ep, d⟩), d, r⟩
    have KB : K.In (hidT s1.heap H) := fun b o e => hidT_get (KX b o e) (free (KX b o e) fun q => .inr (by rw [← q]; exact e))
    obtain ⟨mc, c1, c2⟩ := hlim
    have env : Env0 P w K mg (hidT s1.heap H) callerA [] s1 H := ⟨rfl, ⟨KB, at_ns hns, ⟨mb, at_ns hb, hbb⟩, ⟨mc, at_ns c1, c2⟩⟩, fun b o e => of_hidT e, Nat.le_of_eq (hidT_size _ _), trivial, (fun b q => nomatch q), hok, .of_eq hg⟩
    refine codeAny_mono ((F _ KB (at_ns hns)).go callerA [] s1 H ⟨[.ref a], []⟩ [.ref a] [.ref a] _ rfl hr env (hbind s1 (.ref a)) (.cons rfl .nil) (hsp H hS)) fun r s' h => ?_
    cases r with
    | error e => exact h.elim
    | ok fl =>
      cases fl with
      | next => exact h.elim
      | brk => exact h.elim
      | cont => exact h.elim
      | ret u =>
        obtain ⟨v, H', os, bare, un, hok', r', q⟩ := h
        obtain rfl : v = .bl true := q
        obtain rfl : u = Value.bool true := r'
        refine ⟨rfl, OldK.of_keep fun b o e => ?_, os, bare⟩
        cases q : H b with
        | none => exact un.keep b o e q (fun z => nomatch z) (fun z => nomatch z)
        | some u =>
          obtain ⟨_, _, o2, z2, rfl⟩ := hA b u q
          have t1 := (hok b _ q).1
          have t2 := (hok' b _ (un.frzs b o2 _ q)).1
          rw [t1] at e
          cases e
          exact t2
  cases hk : K.lookup a with
  | some o =>
    have e := KX a o hk
    rw [ha] at e
    cases e
    exact main (fun _ => none) (.inr ⟨_, vs.toArray, _, hk, rfl, rfl, rfl, by rw [List.size_toArray, hi.length]; exact hl, rv⟩) (fun _ _ z => nomatch z) fun _ _ z => nomatch z
  | none =>
    have one : ∀ (b : Addr) (u : HO), (if b = a then some (HO.frz { cls := .type "list", data := .seq vs.toArray } (.lst (ns.map V.int))) else none) = some u → b = a ∧ u = HO.frz { cls := .type "list", data := .seq vs.toArray } (.lst (ns.map V.int)) := fun b u z => by
      split at z
      · rename_i e
        exact ⟨e, (Option.some.inj z).symm⟩
      · cases z
    refine main (fun b => if b = a then some (.frz { cls := .type "list", data := .seq vs.toArray } (.lst (ns.map V.int))) else none) (.inl (.inr ⟨_, if_pos rfl⟩)) (fun b u z => ?_) fun b u z => ?_
    · obtain ⟨rfl, rfl⟩ := one b u z
      exact ⟨ha, by rw [List.length_map]; exact hl, vs, _, rv, ha⟩
    · obtain ⟨rfl, rfl⟩ := one b u z
      exact ⟨rfl, hk, _, _, rfl⟩
theorem walkG {l : PySem.W.OpenLaw} {n k : Nat} {q : Program} {loose : List Str} {XP : (Str → Option Value) → Heap → Prop} {YP : World → Heap → Prop} {d : DefRec} {K : Params → PySem.W.Frag} {sp : PySem.W.Frag → Sp} {x : Str}
    (hn : l.most = some n) (hn2 : n ≤ sizeLine) (hdf : d.params.defaults = []) (hr : Room k callerA) (hY : ∀ (w : World) (h : Heap), YP w h → (K w.params).In h)
    (F : ∀ (w : World) (mg : Str → Option Value) (fa : Addr) (h : Heap), (K w.params).In h → h.Ns mainGlobals mg → mg d.name = some (.ref fa) →
      ∃ fd : FuncData, (∀ (s : Shared) (u : Value), BindsTo s fd ⟨[u], []⟩ [(x, u)]) ∧ ∀ base : Heap, (K w.params).In base → base.Ns mainGlobals mg → FnG l.prog w (K w.params) mg base k fa fd [x] (sp (K w.params)))
    (hsp : ∀ (K : PySem.W.Frag) (H : Hp) (a : Addr) (ns : List Int), ns.length ≤ n → SqL K H a (ns.map V.int) → sp K [.ref a] H (fun v _ => v = .bl true) E0) :
    PySem.W.WalkO q loose XP YP l.row.toRowW d [] (fun f vs => PySem.call f vs) := by
  refine Att.attach_call hn hdf fun w s0 s1 mg mb fa o pm cd doc a vs ns G Y ho hd hcd hmg hobj hints hlen hg => ?_
  obtain ⟨fd, hb, hF⟩ := F w mg fa _ (hY w _ Y) G.T.g hmg
  exact endG (hY w _ Y) G.T.g G.T.b G.T.builtins G.T.nolimit hg hobj hints (Nat.le_trans hlen hn2) hr hF hb fun H hS => hsp _ H a ns hlen hS
end Zj
namespace Zj
open PySem L2
theorem lx5 (a b c k n a' b' c' k' n' : Int) : HT.lexLt [a, b, c, k, n] [a', b', c', k', n'] = true ↔ (a < a' ∨ (a = a' ∧ (b < b' ∨ (b = b' ∧ (c < c' ∨ (c = c' ∧ (k < k' ∨ (k = k' ∧ n < n')))))))) := by
  simp only [HT.lexLt]
  by_cases h1 : a = a'
  · rw [if_pos h1]
    by_cases h2 : b = b'
    · rw [if_pos h2]
      by_cases h3 : c = c'
      · rw [if_pos h3]
        by_cases h4 : k = k'
        · rw [if_pos h4]
          by_cases h5 : n = n'
          · rw [if_pos h5]
            constructor
            · intro h; cases h
            · omega
          · rw [if_neg h5, decide_eq_true_eq]
            omega
        · rw [if_neg h4, decide_eq_true_eq]
          omega
      · rw [if_neg h3, decide_eq_true_eq]
        omega
    · rw [if_neg h2, decide_eq_true_eq]
      omega
  · rw [if_neg h1, decide_eq_true_eq]
    omega
theorem lx_nxt {B : Int} {x : List Int} (h : Ver B x) : HT.lexLt x (nxt x) = true := by
  obtain ⟨a, b, c, k, n, rfl, h1⟩ := h
  unfold nxt
  simp only
  split
  · rw [lx5]; omega
  · rw [lx5]; omega
theorem lx_gap {B C : Int} {x y : List Int} (h : Ver B x) (h' : Ver C y) (e : HT.lexLt x y = true) : HT.lexLt y (nxt x) = false := by
  obtain ⟨a, b, c, k, n, rfl, h1⟩ := h
  obtain ⟨a', b', c', k', n', rfl, h1'⟩ := h'
  rw [lx5] at e
  cases q : HT.lexLt [a', b', c', k', n'] (nxt [a, b, c, k, n]) with
  | false => rfl
  | true =>
    exfalso
    unfold nxt at q
    simp only at q
    split at q
    · rw [lx5] at q; omega
    · rw [lx5] at q; omega
theorem nxt_early {B : Int} {x : List Int} (h : Ver B x) : ¬ ((nxt x)[3]? = some 3) := by
  obtain ⟨a, b, c, k, n, rfl, h1⟩ := h
  unfold nxt
  simp only
  split
  · simp; omega
  · simp
/-! repr of a tuple of bounded ints -/
theorem short_int {z : Int} (h0 : 0 ≤ z) (h : z < 10 ^ 13) : PyData.leavesShort 13 (.int z) = true := by
  show decide ((PyData.shown (.int z)).length ≤ 13) = true
  exact decide_eq_true (PyProof.Rows.toString_length_le h0 (by decide) h)
theorem short_ints : ∀ {x : List Int}, (∀ z ∈ x, 0 ≤ z ∧ z < 10 ^ 13) → PyData.leavesShortAll 13 (x.map PyData.int) = true
  | [], _ => rfl
  | z :: x, h => by
    have h1 := h z (List.mem_cons.mpr (.inl rfl))
    show (PyData.leavesShort 13 (.int z) && PyData.leavesShortAll 13 (x.map PyData.int)) = true
    rw [short_int h1.1 h1.2, short_ints fun y hy => h y (List.mem_cons.mpr (.inr hy))]
    rfl
theorem bulk_ints : ∀ x : List Int, PyData.bulkAll (x.map PyData.int) = x.length
  | [] => rfl
  | z :: x => by
    show PyData.bulk (.int z) + 1 + PyData.bulkAll (x.map PyData.int) = x.length + 1
    rw [bulk_ints x]
    show 0 + 1 + x.length = x.length + 1
    omega
theorem log_small {z : Int} (h0 : 0 ≤ z) (h : z < 10 ^ 13) : z.natAbs.log2 < 1920 := by
  have : z.natAbs < 2 ^ 1920 := Nat.lt_of_lt_of_le (show z.natAbs < 10 ^ 13 by omega) (by decide)
  by_cases e : z.natAbs = 0
  · rw [e]; decide
  · exact (Nat.log2_lt e).mpr this
theorem showable_ints : ∀ {x : List Int}, (∀ z ∈ x, 0 ≤ z ∧ z < 10 ^ 13) → PyData.showableAll (x.map PyData.int) = true
  | [], _ => rfl
  | z :: x, h => by
    have h1 := h z (List.mem_cons.mpr (.inl rfl))
    show (decide (z.natAbs.log2 < 1920) && PyData.showableAll (x.map PyData.int)) = true
    rw [decide_eq_true (log_small h1.1 h1.2), showable_ints fun y hy => h y (List.mem_cons.mpr (.inr hy))]
    rfl
/-- all that repr asks of a datum -/
def Rp (d : PyData) : Prop := d.showable = true ∧ SeqAt.shaped d = true ∧ d.depth < 60 ∧ d.shown.length ≤ sizeLine
theorem rp_of {d : PyData} (h1 : d.showable = true) (h2 : d.canLay0 = true) (h3 : d.depth < 60) (h4 : d.leavesShort 13 = true) (h5 : d.bulk ≤ 2 ^ 20) : Rp d := by
  refine ⟨h1, ?_, h3, PyData.shown_fits_bulk (by decide) (by decide) h4 h5⟩
  unfold SeqAt.shaped
  rw [Bool.and_eq_true]
  exact ⟨h2, decide_eq_true (by omega)⟩
theorem rp_ints {x : List Int} (h : ∀ z ∈ x, 0 ≤ z ∧ z < 10 ^ 13) (hl : x.length ≤ 100) : Rp (.tuple (x.map PyData.int)) := by
  have dp := dep_ints x
  refine rp_of (showable_ints h) (lay_ints x) ?_ (short_ints h) ?_
  · simp only [PyData.depth]; omega
  · show PyData.bulkAll (x.map PyData.int) ≤ 2 ^ 20
    rw [bulk_ints]; omega
theorem Ver.small {B : Int} {x : List Int} (h : Ver B x) (hB : B < 9999999999999) : ∀ z ∈ x, 0 ≤ z ∧ z < 10 ^ 13 := by
  obtain ⟨a, b, c, k, n, rfl, h1⟩ := h
  intro z hz
  simp only [List.mem_cons, List.not_mem_nil, or_false] at hz
  rcases hz with rfl | rfl | rfl | rfl | rfl <;> omega
theorem rp_ver {B : Int} {x : List Int} (h : Ver B x) (hB : B < 9999999999999) : Rp (.tuple (x.map PyData.int)) := by
  refine rp_ints (h.small hB) ?_
  obtain ⟨a, b, c, k, n, rfl, _⟩ := h
  show 5 ≤ 100
  decide

theorem Same.new {H : Hp} {p : Addr} {o : HO} (h : H p = none) : Same H (upd H p o) := fun b u e => by
  rw [upd_ne (ne_of_none e h)]
  exact e
theorem Same.out {H H' : Hp} {p : Addr} {o : HO} (k : Same H H') (h : H p = none) : Same H (upd H' p o) := fun b u e => by
  rw [upd_ne (ne_of_none e h)]
  exact k b u e
theorem cutV_map (ns : List Int) (lo hi : Option Int) : ∃ ms : List Int, cutV (ns.map V.int) lo hi = ms.map V.int ∧ ms.length ≤ ns.length := by
  refine ⟨(ns.drop (HT.sIx (ns.map V.int).length 0 lo)).take (HT.sIx (ns.map V.int).length (ns.map V.int).length hi - HT.sIx (ns.map V.int).length 0 lo), ?_, ?_⟩
  · unfold cutV
    rw [List.map_take, List.map_drop]
  · rw [List.length_take, List.length_drop]
    omega
theorem map_get {ns : List Int} {i : Nat} {y : V} (h : (ns.map V.int)[i]? = some y) : ∃ z, ns[i]? = some z ∧ y = V.int z := by
  rw [List.getElem?_map] at h
  cases e : ns[i]? with
  | none =>
    rw [e] at h
    cases h
  | some z =>
    rw [e] at h
    exact ⟨z, rfl, (Option.some.inj h).symm⟩
theorem merge_dkv (l : Addr) (m t : Int) : mergeK [] (dkv l m t) = dkv l m t := by
  simp [mergeK, dkv, putK, nLM, nLT, nMT]
theorem rep_all (n : Nat) : (List.replicate n true).all id = true := by
  induction n with
  | zero => rfl
  | succ n ih => rw [List.replicate_succ, List.all_cons, ih]; rfl
theorem rep_snoc {α : Type} (n : Nat) (a : α) : List.replicate n a ++ [a] = List.replicate (n + 1) a := by
  induction n with
  | zero => rfl
  | succ n ih =>
    rw [List.replicate_succ, List.cons_append, ih]
    rfl
theorem Ver.nonneg {B : Int} {x : List Int} (h : Ver B x) : ∀ z ∈ x, 0 ≤ z := by
  obtain ⟨a, b, c, k, n, rfl, h1, h2, h3, h4, h5, h6, h7, h8, h9, h10, h11⟩ := h
  intro z hz
  simp only [List.mem_cons, List.not_mem_nil, or_false] at hz
  rcases hz with rfl | rfl | rfl | rfl | rfl <;> omega
theorem Ver.len {B : Int} {x : List Int} (h : Ver B x) : x.length = 5 := by
  obtain ⟨a, b, c, k, n, rfl, _⟩ := h
  rfl
theorem Kp.same {d l : Addr} {H H' : Hp} (s : Same H H') : Kp d l H H' := fun b o _ _ e => s b o e
theorem notTT {A B : Prop} {x y : V} (e : x = y) (h : B) : if (!decide (x = y)) = true then A else B := iteNS e h
theorem lx_up {B : Int} {a b c k n : Int} (hk : k < 3) : HT.lexLt (nxt [a, b, c, k, n]) [a, b, c, k + 1, 0] = true := by
  have e : nxt [a, b, c, k, n] = [a, b, c, k, n + 1] := if_pos hk
  rw [e, lx5]
  omega
theorem IV.tup {H : Hp} {p : Addr} {x : List Int} (h : H p = some (.tup (x.map V.int))) : IV H (.ref p) x := ⟨p, rfl, h⟩
end Zj
namespace Zj
open PySem L2
def top (i : Nat) : Stmt := PySem.Challenge.pw_versionjudge_k01_whole_next_versions.main.body.getD i (.Pass ⟨0, 0, 0, 0⟩)
structure Blt (mg : Str → Option Value) : Prop where
  isinstance : mg "isinstance" = none
  tuple : mg "tuple" = none
  bool : mg "bool" = none
  all : mg "all" = none
  list : mg "list" = none
  repr : mg "repr" = none
  enumerate : mg "enumerate" = none
  int : mg "int" = none
  max : mg "max" = none
  len : mg "len" = none
  range : mg "range" = none
  g_WHOLE : ∃ t, mg "WHOLE" = some (.int 3 t)

abbrev sLDraw : Stmt := top 13
abbrev nLDraw : List Str := ["_law_deck_here", "_law_below", "_law_figure", "_law_cell"]
abbrev pLDraw : List Str := ["_law_deck_here", "_law_below"]
theorem scLDraw : FnScope nLDraw pLDraw (defScope sLDraw) := ⟨rfl, rfl, rfl, by decide +kernel, rfl, by decide +kernel, by decide +kernel⟩
def spLDraw : Sp := fun vs H Q _ => ∃ (d l : Addr) (m : Int), vs = [.ref d, .int m] ∧ Deck d l H ∧ 0 < m ∧ m < 1073741824 ∧ ∀ (H' : Hp) (r : Int), Kp d l H H' → Deck d l H' → 0 ≤ r → r < m → Q (.int r) H'
section
variable {P : Program} {w : World} {K : PySem.W.Frag} {mg : Str → Option Value} {base : Heap}
theorem ok_LDraw {f : Addr} {fd : FuncData} (Z : Blt mg) (D : DefAt K mg "_law_draw" sLDraw pLDraw f fd) : FnOk P w K mg base CX0 1 f fd pLDraw spLDraw := by
  refine D.F.ok scLDraw (fun vs H Q E h => ?_) (fun cdv A outer s0 H vs Q E hr h => ?_)
  · obtain ⟨d, l, m, rfl, _⟩ := h
    rfl
  have hu := hu_of hr
  obtain ⟨d, l, m, rfl, Dk, hm0, hm1, k⟩ := h
  refine ⟨_, (pss_cons (ps_dput hu (pv 0) pe_str (pe_op op_add (pe_dget hu (pv 0) pe_str (fun _ _ => rfl)) pe_int) rfl)
    (pss_cons (ps_set (i := 2) scLDraw.nd rfl (Or.inl rfl) (pe_op op_add (pe_dget hu (pv 0) pe_str (fun _ _ => rfl)) (pe_op op_mul pe_int (pe_dget hu (pv 0) pe_str (fun _ _ => rfl)))))
    (Evl.pss_cut (ps_if (pt_cmpR (op_neD hr.units) (pe_dget hu (pv 0) pe_str (fun _ _ => rfl)) (pe_lst pa_nil) (nomark _))
    (pss_cons (ps_set (i := 3) scLDraw.nd rfl (Or.inl rfl) (pe_bm0 PySem.F.plainAttrs_list PySem.F.slot_list_pop PySem.F.type_list_pop mt_pop (pe_dget hu (pv 0) pe_str (fun _ _ => rfl))))
      (pss_cons (ps_if (pt_cmpR op_ge (pv 3) (pe_op op_pow pe_int pe_int) (nomark _))
      (pss_cons (ps_expr (pe_bm PySem.F.plainAttrs_list PySem.F.slot_list_append PySem.F.type_list_append mt_append (pe_dget hu (pv 0) pe_str (fun _ _ => rfl)) (pa_cons (pe_op op_fdivN (pv 3) (pe_callB (call_max2 rfl) (by rfl) Z.max (by decide +kernel) (pa_cons pe_int (pa_cons (pv 1) pa_nil)))) pa_nil)))
        (pss_one (ps_ret (pe_op op_mod (pe_callTy call_int1 (by rfl) Z.int (by decide +kernel) (pa_cons (pv 3) pa_nil)) (pv 1)))))
      pss_nil)
      (pss_cons (ps_dput hu (pv 0) pe_str (pe_op op_mod (pe_callTy call_int1 (by rfl) Z.int (by decide +kernel) (pa_cons (pe_op op_add (pe_op op_add (pe_op op_mul (pe_dget hu (pv 0) pe_str (fun _ _ => rfl)) pe_int) (pe_op op_mod (pe_callTy call_int1 (by rfl) Z.int (by decide +kernel) (pa_cons (pv 3) pa_nil)) pe_int)) pe_int) pa_nil)) pe_int) rfl)
      (pss_one (ps_set (i := 2) scLDraw.nd rfl (Or.inl rfl) (pe_op op_add (pv 2) (pe_op op_mod (pe_callTy call_int1 (by rfl) Z.int (by decide +kernel) (pa_cons (pv 3) pa_nil)) pe_int)))))))
    pss_nil)
    (pss_cons (ps_set (i := 2) scLDraw.nd rfl (Or.inl rfl) (pe_op op_mod (pe_callTy call_int1 (by rfl) Z.int (by decide +kernel) (pa_cons (pe_op op_add (pe_op op_mul (pv 2) pe_int) pe_int) pa_nil)) pe_int))
    (pss_cons (ps_set (i := 2) scLDraw.nd rfl (Or.inl rfl) (pe_op op_mod (pe_callTy call_int1 (by rfl) Z.int (by decide +kernel) (pa_cons (pe_op op_add (pe_op op_add (pe_op op_mul (pv 2) (pv 2)) (pe_op op_mul pe_int (pe_dget hu (pv 0) pe_str (fun _ _ => rfl)))) pe_int) pa_nil)) pe_int))
    (pss_cons (ps_set (i := 2) scLDraw.nd rfl (Or.inl rfl) (pe_op op_mod (pe_callTy call_int1 (by rfl) Z.int (by decide +kernel) (pa_cons (pe_op op_add (pe_op op_mul (pv 2) pe_int) pe_int) pa_nil)) pe_int))
    (pss_one (ps_ret (pe_op op_mod (pe_callTy call_int1 (by rfl) Z.int (by decide +kernel) (pa_cons (pe_op op_fdiv (pv 2) pe_int) pa_nil)) (pv 1)))))))))), ?_⟩
  obtain ⟨ns, mx, t, h1, h2, hl, a0, a1⟩ := Dk
  have ndl : d ≠ l := ne_of h1 h2 (fun q => nomatch q)
  refine ⟨_, rfl, d, _, rfl, get_turn h1, _, _, rfl, rfl, _, rfl, d, _, rfl, set_turn _ h1, ?_⟩
  have h1' := (upd_same (H := H) (a := d) (o := .dK (dkv l mx (t + 1))))
  have h2' : upd H d (.dK (dkv l mx (t + 1))) l = some (.lst (ns.map V.int)) := by rw [upd_ne ndl.symm]; exact h2
  have k1 : Kp d l H (upd H d (.dK (dkv l mx (t + 1)))) := fun b o n1 _ e => by rw [upd_ne n1]; exact e
  generalize upd H d (.dK (dkv l mx (t + 1))) = H1 at *
  refine ⟨_, rfl, d, _, rfl, get_mixed h1', _, rfl, d, _, rfl, get_turn h1', _, _, rfl, rfl, .inl (by decide), _, _, rfl, rfl, ?_⟩
  refine ⟨fun σ' H' => ∃ (fig : Int) (v3 : Option V), σ' = [some (.ref d), some (.int m), some (.int fig), v3] ∧ Deck d l H' ∧ Kp d l H H', ?_, ?_⟩
  · refine ⟨_, rfl, d, _, rfl, get_left h1', Nat.zero_le _, fun p hp => ?_⟩
    have h3 : upd H1 p (.lst []) d = some (.dK (dkv l mx (t + 1))) := by rw [upd_ne (ne_of_none h1' hp)]; exact h1'
    have h4 : upd H1 p (.lst []) l = some (.lst (ns.map V.int)) := by rw [upd_ne (ne_of_none h2' hp)]; exact h2'
    have h5 : upd H1 p (.lst []) p = some (.lst []) := upd_same
    have k2 : Kp d l H (upd H1 p (.lst [])) := k1.trans (Kp.new hp)
    generalize upd H1 p (.lst []) = H2 at *
    refine ⟨_, _, .lst (SqL.of h4) (DpAll.ints ns), .lst (SqL.of h5) .nil, sh_ints ns, by decide, _, rfl, ?_⟩
    cases ns with
    | nil =>
      refine iteF ?_
      exact ⟨_, none, rfl, ⟨[], mx, t + 1, h3, h4, hl, a0, a1⟩, k2⟩
    | cons n0 nr =>
      refine iteT ?_
      generalize hz : (n0 :: nr : List Int) = zs at *
      have hzl : zs ≠ [] := by rw [← hz]; exact List.cons_ne_nil _ _
      obtain ⟨z, hzz⟩ : ∃ z, zs = zs.dropLast ++ [z] := ⟨zs.getLast hzl, (List.dropLast_concat_getLast hzl).symm⟩
      have hget : (zs.map V.int)[(zs.map V.int).length - 1]? = some (V.int z) := by
        rw [hzz]; simp
      have hdl : (zs.map V.int).dropLast = zs.dropLast.map V.int := by simp
      refine ⟨_, rfl, d, _, rfl, get_left h3, .inl ⟨rfl, _, SqL.of h4⟩, l, _, _, rfl, rfl, h4, hget, ?_⟩
      rw [hdl]
      have h6 : upd H2 l (.lst (zs.dropLast.map V.int)) d = some (.dK (dkv l mx (t + 1))) := by rw [upd_ne ndl]; exact h3
      have h7 : upd H2 l (.lst (zs.dropLast.map V.int)) l = some (.lst (zs.dropLast.map V.int)) := upd_same
      have k3 : Kp d l H (upd H2 l (.lst (zs.dropLast.map V.int))) := fun b o n1 n2 e => by rw [upd_ne n2]; exact k2 b o n1 n2 e
      have hl2 : zs.dropLast.length + 1 ≤ 63 := by
        have := congrArg List.length hzz
        rw [List.length_append, List.length_singleton] at this
        omega
      generalize upd H2 l (.lst (zs.dropLast.map V.int)) = H3 at *
      generalize zs.dropLast = ws at *
      refine ⟨_, rfl, _, _, rfl, rfl, ⟨by decide, by decide, by decide⟩, _, _, rfl, rfl, _, rfl, ?_⟩
      refine ite2 (fun _ => ?_) (fun _ => ?_)
      · refine ⟨_, rfl, d, _, rfl, get_left h6, .inl ⟨rfl, _, SqL.of h7⟩, _, rfl, _, rfl, _, _, rfl, _, _, rfl, rfl, ⟨?_, ?_⟩, l, _, _, rfl, rfl, h7, ?_, ?_⟩
        · split <;> omega
        · split <;> omega
        · rw [List.length_map]; exact small1000 (by omega)
        · have h8 : upd H3 l (.lst (ws.map V.int ++ [V.int (z.fdiv (if m > 2 then m else 2))])) d = some (.dK (dkv l mx (t + 1))) := by rw [upd_ne ndl]; exact h6
          refine ⟨_, rfl, .inl ⟨_, rfl, _, rfl, _, _, rfl, rfl, hm0, ?_⟩⟩
          refine k _ _ ?_ ?_ (Int.emod_nonneg _ (by omega)) (Int.emod_lt_of_pos _ hm0)
          · intro b o n1 n2 e
            rw [upd_ne n2]
            exact k3 b o n1 n2 e
          · refine ⟨ws ++ [z.fdiv (if m > 2 then m else 2)], mx, t + 1, h8, ?_, ?_, a0, a1⟩
            · rw [upd_same, List.map_append]; rfl
            · rw [List.length_append, List.length_singleton]; exact hl2
      · refine ⟨_, rfl, d, _, rfl, get_mixed h6, _, _, rfl, rfl, .inr (by decide), _, rfl, .inl ⟨_, rfl, _, _, rfl, rfl, (by show (0 : Int) < 2147483587; decide), _, _, rfl, rfl, _, _, rfl, rfl, .inl ⟨_, rfl, _, _, rfl, rfl, (by show (0 : Int) < 2147483647; decide), _, rfl, d, _, rfl, set_mixed _ h6, ?_⟩⟩⟩
        have hm2 : (mx * 16807 + z % 2147483587 + 3) % 2147483647 < 2147483647 := Int.emod_lt_of_pos _ (by decide)
        have hm3 : 0 ≤ (mx * 16807 + z % 2147483587 + 3) % 2147483647 := Int.emod_nonneg _ (by decide)
        generalize (mx * 16807 + z % 2147483587 + 3) % 2147483647 = mx2 at *
        refine ⟨_, rfl, _, rfl, .inl ⟨_, rfl, _, _, rfl, rfl, (by show (0 : Int) < 2147483563; decide), _, _, rfl, rfl, ?_⟩⟩
        refine ⟨_, _, rfl, ⟨ws, mx2, t + 1, upd_same, by rw [upd_ne ndl.symm]; exact h7, by omega, hm3, hm2⟩, fun b o n1 n2 e => ?_⟩
        rw [upd_ne n1]
        exact k3 b o n1 n2 e
  · rintro σ' H' ⟨fig, v3, rfl, ⟨ns', mx', t', g1, g2, g3, g4, g5⟩, k4⟩
    refine ⟨_, rfl, _, _, rfl, rfl, .inr (by decide), _, _, rfl, rfl, .inl ⟨_, rfl, _, _, rfl, rfl, (by show (0 : Int) < 2147483629; decide), ?_⟩⟩
    have b1 : (fig * 40014 + 19) % 2147483629 < 2147483629 := Int.emod_lt_of_pos _ (by decide)
    have b2 : 0 ≤ (fig * 40014 + 19) % 2147483629 := Int.emod_nonneg _ (by decide)
    generalize (fig * 40014 + 19) % 2147483629 = f1 at *
    refine ⟨_, rfl, _, rfl, _, _, rfl, rfl, .inl ⟨by omega, by omega⟩, _, rfl, d, _, rfl, get_turn g1, _, _, rfl, rfl, .inl (by decide), _, _, rfl, rfl, _, _, rfl, rfl, .inl ⟨_, rfl, _, _, rfl, rfl, (by show (0 : Int) < 2147483587; decide), ?_⟩⟩
    generalize (f1 * f1 + 77773 * t' + 5) % 2147483587 = f2 at *
    refine ⟨_, rfl, _, _, rfl, rfl, .inr (by decide), _, _, rfl, rfl, .inl ⟨_, rfl, _, _, rfl, rfl, (by show (0 : Int) < 2147483563; decide), ?_⟩⟩
    generalize (f2 * 40692 + 3) % 2147483563 = f3 at *
    refine ⟨_, rfl, _, _, rfl, rfl, ⟨by decide, by decide⟩, .inl ⟨_, rfl, _, rfl, _, _, rfl, rfl, hm0, ?_⟩⟩
    exact k _ _ k4 ⟨ns', mx', t', g1, g2, g3, g4, g5⟩ (Int.emod_nonneg _ (by omega)) (Int.emod_lt_of_pos _ hm0)
end
abbrev sLPick : Stmt := top 14
abbrev nLPick : List Str := ["_law_deck_here", "_law_some"]
abbrev pLPick : List Str := ["_law_deck_here", "_law_some"]
theorem scLPick : FnScope nLPick pLPick (defScope sLPick) := ⟨rfl, rfl, rfl, by decide +kernel, rfl, by decide +kernel, by decide +kernel⟩
abbrev sLNumber : Stmt := top 15
abbrev nLNumber : List Str := ["_law_deck_here"]
abbrev pLNumber : List Str := ["_law_deck_here"]
theorem scLNumber : FnScope nLNumber pLNumber (defScope sLNumber) := ⟨rfl, rfl, rfl, by decide +kernel, rfl, by decide +kernel, by decide +kernel⟩
abbrev sLVersion : Stmt := top 16
abbrev nLVersion : List Str := ["_law_deck_here", "_law_near", "_law_k", "_law_a", "_law_b", "_law_c", "_law_n", "_law_turn", "_law_other"]
abbrev pLVersion : List Str := ["_law_deck_here", "_law_near"]
theorem scLVersion : FnScope nLVersion pLVersion (defScope sLVersion) := ⟨rfl, rfl, rfl, by decide +kernel, rfl, by decide +kernel, by decide +kernel⟩
abbrev sLVersions : Stmt := top 17
abbrev nLVersions : List Str := ["_law_deck_here", "_law_many", "_law_found", "_law_turn", "_law_version_here"]
abbrev pLVersions : List Str := ["_law_deck_here", "_law_many"]
theorem scLVersions : FnScope nLVersions pLVersions (defScope sLVersions) := ⟨rfl, rfl, rfl, by decide +kernel, rfl, by decide +kernel, by decide +kernel⟩
abbrev sLNext : Stmt := top 18
abbrev nLNext : List Str := ["_law_version_here", "_law_a", "_law_b", "_law_c", "_law_k", "_law_n"]
abbrev pLNext : List Str := ["_law_version_here"]
theorem scLNext : FnScope nLNext pLNext (defScope sLNext) := ⟨rfl, rfl, rfl, by decide +kernel, rfl, by decide +kernel, by decide +kernel⟩
def spLPick : Sp := fun vs H Q _ => ∃ (d l s : Addr) (xs : List V), vs = [.ref d, .ref s] ∧ Deck d l H ∧ H s = some (.lst xs) ∧ s ≠ l ∧ 0 < xs.length ∧ xs.length < 1000000 ∧ ∀ (H' : Hp) (v : V), Kp d l H H' → Deck d l H' → v ∈ xs → Q v H'
def spLNumber : Sp := fun vs H Q _ => ∃ (d l : Addr), vs = [.ref d] ∧ Deck d l H ∧ ∀ (H' : Hp) (r : Int), Kp d l H H' → Deck d l H' → 0 ≤ r → r ≤ 1000000000 → Q (.int r) H'
def spLVersion : Sp := fun vs H Q _ => ∃ (d l s : Addr) (xs : List V) (B : Int), vs = [.ref d, .ref s] ∧ Deck d l H ∧ H s = some (.lst xs) ∧ s ≠ l ∧ xs.length < 1000000 ∧ 1000000000 ≤ B ∧ (∀ v ∈ xs, VV B H v) ∧ ∀ (H' : Hp) (v : V), Kp d l H H' → Deck d l H' → VV B H' v → Q v H'
section
variable {P : Program} {w : World} {K : PySem.W.Frag} {mg : Str → Option Value} {base : Heap}
theorem ok_LPick {f : Addr} {fd : FuncData} {fLDraw : Addr} {fdLDraw : FuncData} (Z : Blt mg) (D : DefAt K mg "_law_pick" sLPick pLPick f fd) (DLDraw : DefAt K mg "_law_draw" sLDraw pLDraw fLDraw fdLDraw) (GLDraw : FnOk P w K mg base CX0 1 fLDraw fdLDraw pLDraw spLDraw) : FnOk P w K mg base CX0 2 f fd pLPick spLPick := by
  refine D.F.ok scLPick (fun vs H Q E h => ?_) (fun cdv A outer s0 H vs Q E hr h => ?_)
  · obtain ⟨d, l, s, xs, rfl, _⟩ := h
    rfl
  have hu := hu_of hr
  obtain ⟨d, l, s, xs, rfl, Dk, hs, nsl, h0, h1, k⟩ := h
  refine ⟨_, (pss_one (ps_ret (pe_ix ix_list (pv 1) (pe_call GLDraw (hr.mono (by decide)) rfl DLDraw.g DLDraw.F.kp DLDraw.b .nil pass0 (pa_cons (pv 0) (pa_cons (pe_callB call_len_seq (by rfl) Z.len (by decide +kernel) (pa_cons (pv 1) pa_nil)) pa_nil))) (fun _ _ => rfl)))), ?_⟩
  refine ⟨_, rfl, _, rfl, _, rfl, s, xs, rfl, .inl (SqL.of hs), d, l, _, rfl, Dk, by omega, by omega, fun H' r k1 D1 r0 r1 => ?_⟩
  have hs' := k1.lst Dk nsl hs
  obtain ⟨n, rfl⟩ : ∃ n : Nat, r = (n : Int) := ⟨r.toNat, by omega⟩
  have hn : n < xs.length := by omega
  exact ⟨s, xs, _, xs[n], rfl, rfl, SqL.of hs', atI_nat (List.getElem?_eq_getElem hn), k _ _ k1 D1 (List.getElem_mem hn)⟩
theorem ok_LNumber {f : Addr} {fd : FuncData} {fLDraw : Addr} {fdLDraw : FuncData} {fLPick : Addr} {fdLPick : FuncData} (Z : Blt mg) (D : DefAt K mg "_law_number" sLNumber pLNumber f fd) (DLDraw : DefAt K mg "_law_draw" sLDraw pLDraw fLDraw fdLDraw) (GLDraw : FnOk P w K mg base CX0 1 fLDraw fdLDraw pLDraw spLDraw) (DLPick : DefAt K mg "_law_pick" sLPick pLPick fLPick fdLPick) (GLPick : FnOk P w K mg base CX0 2 fLPick fdLPick pLPick spLPick) : FnOk P w K mg base CX0 3 f fd pLNumber spLNumber := by
  refine D.F.ok scLNumber (fun vs H Q E h => ?_) (fun cdv A outer s0 H vs Q E hr h => ?_)
  · obtain ⟨d, l, rfl, _⟩ := h
    rfl
  have hu := hu_of hr
  obtain ⟨d, l, rfl, Dk, k⟩ := h
  refine ⟨_, (pss_one (ps_ret (pe_call GLPick (hr.mono (by decide)) rfl DLPick.g DLPick.F.kp DLPick.b .nil pass0 (pa_cons (pv 0) (pa_cons (pe_lst (pa_cons pe_int (pa_cons pe_int (pa_cons pe_int (pa_cons pe_int (pa_cons pe_int (pa_cons pe_int (pa_cons pe_int (pa_cons pe_int (pa_cons pe_int (pa_cons pe_int (pa_cons pe_int (pa_cons (pe_op op_sub (pe_op op_pow pe_int pe_int) pe_int) (pa_cons (pe_call GLDraw (hr.mono (by decide)) rfl DLDraw.g DLDraw.F.kp DLDraw.b .nil pass0 (pa_cons (pv 0) (pa_cons (pe_op op_pow pe_int pe_int) pa_nil))) pa_nil)))))))))))))) pa_nil))))), ?_⟩
  refine ⟨_, rfl, _, _, rfl, rfl, ⟨by decide, by decide, by decide⟩, _, _, rfl, rfl, _, rfl, _, _, rfl, rfl, ⟨by decide, by decide, by decide⟩, d, l, _, rfl, Dk, by decide, by decide, fun H1 r k1 D1 r0 r1 => ?_⟩
  refine ⟨by show 13 ≤ sizeLine; decide, fun p hp => ?_⟩
  have D2 := D1.new (o := .lst [.int 0, .int 0, .int 0, .int 1, .int 1, .int 2, .int 3, .int 9, .int 10, .int 19, .int 100, .int (10 ^ (9 : Int).toNat - 30), .int r]) hp
  refine ⟨d, l, p, _, rfl, D2, upd_same, ?_, by show 0 < 13; decide, by show 13 < 1000000; decide, fun H2 v k2 D3 hv => ?_⟩
  · intro e
    obtain ⟨_, _, _, _, q, _⟩ := D1
    rw [← e, hp] at q
    cases q
  · have k3 := (k1.trans (Kp.new hp)).trans k2
    have r2 : (10 : Int) ^ (9 : Int).toNat = 1000000000 := by decide
    have r3 : (10 : Int) ^ (6 : Int).toNat = 1000000 := by decide
    rw [r2] at hv
    rw [r3] at r1
    simp only [List.mem_cons, List.not_mem_nil, or_false] at hv
    rcases hv with rfl | rfl | rfl | rfl | rfl | rfl | rfl | rfl | rfl | rfl | rfl | rfl | rfl
    all_goals exact k _ _ k3 D3 (by omega) (by omega)
theorem ok_LVersion {f : Addr} {fd : FuncData} {fLDraw : Addr} {fdLDraw : FuncData} {fLNumber : Addr} {fdLNumber : FuncData} {fLPick : Addr} {fdLPick : FuncData} (Z : Blt mg) (D : DefAt K mg "_law_version" sLVersion pLVersion f fd) (DLDraw : DefAt K mg "_law_draw" sLDraw pLDraw fLDraw fdLDraw) (GLDraw : FnOk P w K mg base CX0 1 fLDraw fdLDraw pLDraw spLDraw) (DLNumber : DefAt K mg "_law_number" sLNumber pLNumber fLNumber fdLNumber) (GLNumber : FnOk P w K mg base CX0 3 fLNumber fdLNumber pLNumber spLNumber) (DLPick : DefAt K mg "_law_pick" sLPick pLPick fLPick fdLPick) (GLPick : FnOk P w K mg base CX0 2 fLPick fdLPick pLPick spLPick) : FnOk P w K mg base CX0 4 f fd pLVersion spLVersion := by
  refine D.F.ok scLVersion (fun vs H Q E h => ?_) (fun cdv A outer s0 H vs Q E hr h => ?_)
  · obtain ⟨d, l, s, xs, B, rfl, _⟩ := h
    rfl
  have hu := hu_of hr
  obtain ⟨d, l, s, xs, B, rfl, Dk, hs, nsl, hl, hB, hv, k⟩ := h
  refine ⟨_, (pss_cons (ps_set (i := 2) scLVersion.nd rfl (Or.inl rfl) (pe_call GLPick (hr.mono (by decide)) rfl DLPick.g DLPick.F.kp DLPick.b .nil pass0 (pa_cons (pv 0) (pa_cons (pe_lst (pa_cons pe_int (pa_cons pe_int (pa_cons pe_int (pa_cons pe_int (pa_cons pe_int (pa_cons pe_int pa_nil))))))) pa_nil))))
    (pss_cons (ps_asg (pe_lc (own := [("_law_turn", 7)]) (g := gName 7) (tt := tYes) rfl scLVersion.nd (pi_range1 (by rfl) Z.range (pa_cons pe_int pa_nil)) (blkOk_by (own := [("_law_turn", 7)]) (N := nLVersion) (sc := defScope sLVersion) (by decide +kernel)) (fun _ _ _ _ _ => (pg_name (i := 7) scLVersion.nd rfl (Or.inl rfl))) (fun _ _ _ _ _ => pts_nil) (fun _ _ _ _ _ => (pe_call GLNumber (hr.mono (by decide)) rfl DLNumber.g DLNumber.F.kp DLNumber.b .nil pass0 (pa_cons (pv 0) pa_nil)))) (pg_unl rfl (pgs_cons (pg_name (i := 3) scLVersion.nd rfl (Or.inl rfl)) (pgs_cons (pg_name (i := 4) scLVersion.nd rfl (Or.inl rfl)) (pgs_cons (pg_name (i := 5) scLVersion.nd rfl (Or.inl rfl)) (pgs_cons (pg_name (i := 6) scLVersion.nd rfl (Or.inl rfl)) pgs_nil))))))
    (Evl.pss_cut (ps_if (PW.pt (pw_and (pt_cmpR (op_neD hr.units) (pv 1) (pe_lst pa_nil) (nomark _)) (pw_and1 (pt_cmpR op_gt (pe_call GLDraw (hr.mono (by decide)) rfl DLDraw.g DLDraw.F.kp DLDraw.b .nil pass0 (pa_cons (pv 0) (pa_cons pe_int pa_nil))) pe_int (nomark _)))))
    (pss_cons (ps_set (i := 8) scLVersion.nd rfl (Or.inl rfl) (pe_call GLPick (hr.mono (by decide)) rfl DLPick.g DLPick.F.kp DLPick.b .nil pass0 (pa_cons (pv 0) (pa_cons (pv 1) pa_nil))))
      (Evl.pss_cut (ps_set (i := 3) scLVersion.nd rfl (Or.inl rfl) (pe_ifExp (pt_cmpR op_gt (pe_call GLDraw (hr.mono (by decide)) rfl DLDraw.g DLDraw.F.kp DLDraw.b .nil pass0 (pa_cons (pv 0) (pa_cons pe_int pa_nil))) pe_int (nomark _)) (pe_ix ix_tup (pv 8) pe_int (fun _ _ => rfl)) (pv 3)))
      (Evl.pss_cut (ps_set (i := 4) scLVersion.nd rfl (Or.inl rfl) (pe_ifExp (pt_cmpR op_gt (pe_call GLDraw (hr.mono (by decide)) rfl DLDraw.g DLDraw.F.kp DLDraw.b .nil pass0 (pa_cons (pv 0) (pa_cons pe_int pa_nil))) pe_int (nomark _)) (pe_ix ix_tup (pv 8) pe_int (fun _ _ => rfl)) (pv 4)))
      (Evl.pss_cut (ps_set (i := 5) scLVersion.nd rfl (Or.inl rfl) (pe_ifExp (pt_cmpR op_gt (pe_call GLDraw (hr.mono (by decide)) rfl DLDraw.g DLDraw.F.kp DLDraw.b .nil pass0 (pa_cons (pv 0) (pa_cons pe_int pa_nil))) pe_int (nomark _)) (pe_ix ix_tup (pv 8) pe_int (fun _ _ => rfl)) (pv 5)))
      (pss_one (ps_set (i := 6) scLVersion.nd rfl (Or.inl rfl) (pe_ifExp (pt_cmpR op_gt (pe_call GLDraw (hr.mono (by decide)) rfl DLDraw.g DLDraw.F.kp DLDraw.b .nil pass0 (pa_cons (pv 0) (pa_cons pe_int pa_nil))) pe_int (nomark _)) (pe_ix ix_tup (pv 8) pe_int (fun _ _ => rfl)) (pv 6))))))))
    pss_nil)
    (pss_one (ps_ret (pe_tup (pa_cons (pv 3) (pa_cons (pv 4) (pa_cons (pv 5) (pa_cons (pv 2) (pa_cons (pe_ifExp (pt_cmpR op_eq (pv 2) pe_int (nomark _)) pe_int (pv 6)) pa_nil))))))))))), ?_⟩
  refine ⟨_, rfl, by show 6 ≤ sizeLine; decide, fun p hp => ?_⟩
  have D1 := Dk.new (o := .lst [.int 3, .int 3, .int 3, .int 0, .int 1, .int 2]) hp
  have k1 : Kp d l H _ := Kp.new (o := .lst [.int 3, .int 3, .int 3, .int 0, .int 1, .int 2]) hp
  refine ⟨d, l, p, _, rfl, D1, upd_same, Dk.free hp, by show 0 < 6; decide, by show 6 < 1000000; decide, fun H2 kv k2 D2 hk => ?_⟩
  have kk := k1.trans k2
  obtain ⟨kn, rfl, kn0, kn3⟩ : ∃ kn : Int, kv = .int kn ∧ 0 ≤ kn ∧ kn ≤ 3 := by
    simp only [List.mem_cons, List.not_mem_nil, or_false] at hk
    rcases hk with rfl | rfl | rfl | rfl | rfl | rfl
    all_goals exact ⟨_, rfl, by decide, by decide⟩
  clear hk k1 k2 D1
  refine ⟨_, rfl, by decide, by decide, fun L hL => lc_range (lo := 0) (n := 4) (fun i H' => ∃ rs : List Int, rs.length = i ∧ (∀ r ∈ rs, 0 ≤ r ∧ r ≤ 1000000000) ∧ H' L = some (.lst (rs.map V.int)) ∧ Kp d l H2 H' ∧ Deck d l H') ⟨[], rfl, by simp, upd_same, Kp.new hL, D2.new hL⟩ ?_ ?_⟩
  · rintro i H3 hi ⟨rs, e1, e2, e3, k3, D3⟩
    refine ⟨rfl, ?_⟩
    refine ⟨_, rfl, d, l, rfl, D3, fun H4 r k4 D4 r0 r1 => ?_⟩
    have nL : L ≠ l := D2.free hL
    have nd : L ≠ d := D3.nedl e3
    refine ⟨_, k4.lst D3 nL e3, by rw [List.length_map]; exact small1000 (by omega), rs ++ [r], by rw [List.length_append, e1]; rfl, ?_, by rw [upd_same, List.map_append]; rfl, ?_, D4.mut nd nL⟩
    · intro r' hr'
      rcases List.mem_append.mp hr' with q | q
      · exact e2 _ q
      · rw [List.mem_singleton.mp q]
        exact ⟨r0, r1⟩
    · exact (k3.trans k4).out hL
  · rintro H3 ⟨rs, e1, e2, e3, k3, D3⟩
    obtain ⟨a, b, c, n, rfl⟩ : ∃ a b c n, rs = [a, b, c, n] := by
      match rs, e1 with
      | [a, b, c, n], _ => exact ⟨a, b, c, n, rfl⟩
    have ha := e2 a (by simp)
    have hb := e2 b (by simp)
    have hc := e2 c (by simp)
    have hn := e2 n (by simp)
    clear e2
    refine ⟨L, _, rfl, SqL.of e3, rfl, _, _, rfl, _, _, rfl, _, _, rfl, _, _, rfl, rfl, ?_⟩
    have k5 := kk.trans k3
    have hs5 := k5.lst Dk nsl hs
    have hv5 : ∀ v ∈ xs, VV B H3 v := fun v q => (hv v q).kp k5 Dk
    refine ⟨fun σ' H' => ∃ (a b c n : Int) (v7 v8 : Option V), σ' = [some (.ref d), some (.ref s), some (.int kn), some (.int a), some (.int b), some (.int c), some (.int n), v7, v8] ∧ (0 ≤ a ∧ a ≤ B) ∧ (0 ≤ b ∧ b ≤ B) ∧ (0 ≤ c ∧ c ≤ B) ∧ (0 ≤ n ∧ n ≤ B) ∧ Kp d l H H' ∧ Deck d l H', ?_, ?_⟩
    · refine ⟨_, rfl, Nat.zero_le _, fun q hq => ?_⟩
      have D6 := D3.new (o := .lst []) hq
      have k6 := k5.trans (Kp.new (o := .lst []) hq)
      have hs6 := (Kp.new (d := d) (l := l) (o := .lst []) hq).lst D3 nsl hs5
      have hv6 : ∀ v ∈ xs, VV B (upd H3 q (.lst [])) v := fun v z => (hv5 v z).same (tup_new hq)
      refine neNil (SqL.of hs6) (SqL.of upd_same) (shp_vv hv6) ⟨_, rfl, ?_⟩
      cases xs with
      | nil => exact iteF (iteF ⟨a, b, c, n, _, _, rfl, by omega, by omega, by omega, by omega, k6, D6⟩)
      | cons x0 xr =>
        refine iteT ?_
        refine ⟨_, rfl, d, l, _, rfl, D6, by decide, by decide, fun H7 r k7 D7 r0 r1 => ⟨_, _, rfl, rfl, _, rfl, ?_⟩⟩
        have kk7 := k6.trans k7
        refine ite2 (fun _ => ?_) (fun _ => ⟨a, b, c, n, _, _, rfl, by omega, by omega, by omega, by omega, kk7, D7⟩)
        refine ⟨_, rfl, _, rfl, d, l, s, _, rfl, D7, k7.lst D6 nsl hs6, nsl, by simp, hl, fun H8 u k8 D8 hu => ?_⟩
        obtain ⟨x, ⟨ax, rfl, hx⟩, z0, z1, z2, z3, z4, rfl, w1, w2, w3, w4, w5, w6, w7, w8, w9, w10, w11⟩ := (hv6 u hu).kp (k7.trans k8) D6
        have kk8 := kk7.trans k8
        clear kk7 k7 k8 hv6 hv5 hv k6 D6 D7 hs6 hs5 k5
        have at0 : atI ([z0, z1, z2, z3, z4].map V.int) 0 = some (.int z0) := atI_nat rfl
        have at1 : atI ([z0, z1, z2, z3, z4].map V.int) 1 = some (.int z1) := atI_nat rfl
        have at2 : atI ([z0, z1, z2, z3, z4].map V.int) 2 = some (.int z2) := atI_nat rfl
        have at4 : atI ([z0, z1, z2, z3, z4].map V.int) 4 = some (.int z4) := atI_nat rfl
        let M : L2.St → Hp → Prop := fun σ' H' => ∃ (a b c n : Int) (v7 : Option V), σ' = [some (.ref d), some (.ref s), some (.int kn), some (.int a), some (.int b), some (.int c), some (.int n), v7, some (.ref ax)] ∧ (0 ≤ a ∧ a ≤ B) ∧ (0 ≤ b ∧ b ≤ B) ∧ (0 ≤ c ∧ c ≤ B) ∧ (0 ≤ n ∧ n ≤ B) ∧ Kp d l H H' ∧ Deck d l H' ∧ H' ax = some (.tup ([z0, z1, z2, z3, z4].map V.int))
        refine ⟨M, ?_, ?_⟩
        · refine ⟨_, rfl, d, l, _, rfl, D8, by decide, by decide, fun H9 r9 k9 D9 _ _ => ⟨_, _, rfl, rfl, _, rfl, ?_⟩⟩
          refine ite2 (fun _ => ⟨_, rfl, ax, _, _, _, rfl, rfl, SqT.of (k9.tup D8 hx), at0, ?_⟩) (fun _ => ⟨_, rfl, ?_⟩)
          · exact ⟨z0, b, c, n, _, rfl, by omega, by omega, by omega, by omega, kk8.trans k9, D9, k9.tup D8 hx⟩
          · exact ⟨a, b, c, n, _, rfl, by omega, by omega, by omega, by omega, kk8.trans k9, D9, k9.tup D8 hx⟩
        rintro σ' H8 ⟨a, b, c, n, v7, rfl, ha, hb, hc, hn, kk8, D8, hx⟩
        refine ⟨M, ?_, ?_⟩
        · refine ⟨_, rfl, d, l, _, rfl, D8, by decide, by decide, fun H9 r9 k9 D9 _ _ => ⟨_, _, rfl, rfl, _, rfl, ?_⟩⟩
          refine ite2 (fun _ => ⟨_, rfl, ax, _, _, _, rfl, rfl, SqT.of (k9.tup D8 hx), at1, ?_⟩) (fun _ => ⟨_, rfl, ?_⟩)
          · exact ⟨a, z1, c, n, _, rfl, by omega, by omega, by omega, by omega, kk8.trans k9, D9, k9.tup D8 hx⟩
          · exact ⟨a, b, c, n, _, rfl, by omega, by omega, by omega, by omega, kk8.trans k9, D9, k9.tup D8 hx⟩
        rintro σ' H8 ⟨a, b, c, n, v7, rfl, ha, hb, hc, hn, kk8, D8, hx⟩
        refine ⟨M, ?_, ?_⟩
        · refine ⟨_, rfl, d, l, _, rfl, D8, by decide, by decide, fun H9 r9 k9 D9 _ _ => ⟨_, _, rfl, rfl, _, rfl, ?_⟩⟩
          refine ite2 (fun _ => ⟨_, rfl, ax, _, _, _, rfl, rfl, SqT.of (k9.tup D8 hx), at2, ?_⟩) (fun _ => ⟨_, rfl, ?_⟩)
          · exact ⟨a, b, z2, n, _, rfl, by omega, by omega, by omega, by omega, kk8.trans k9, D9, k9.tup D8 hx⟩
          · exact ⟨a, b, c, n, _, rfl, by omega, by omega, by omega, by omega, kk8.trans k9, D9, k9.tup D8 hx⟩
        rintro σ' H8 ⟨a, b, c, n, v7, rfl, ha, hb, hc, hn, kk8, D8, hx⟩
        refine ⟨_, rfl, d, l, _, rfl, D8, by decide, by decide, fun H9 r9 k9 D9 _ _ => ⟨_, _, rfl, rfl, _, rfl, ?_⟩⟩
        refine ite2 (fun _ => ⟨_, rfl, ax, _, _, _, rfl, rfl, SqT.of (k9.tup D8 hx), at4, ?_⟩) (fun _ => ⟨_, rfl, ?_⟩)
        · exact ⟨a, b, c, z4, _, _, rfl, by omega, by omega, by omega, by omega, kk8.trans k9, D9⟩
        · exact ⟨a, b, c, n, _, _, rfl, by omega, by omega, by omega, by omega, kk8.trans k9, D9⟩
    · rintro σ' H' ⟨a, b, c, n, v7, v8, rfl, g1, g2, g3, g4, g5, D9⟩
      refine ⟨_, rfl, _, rfl, _, rfl, _, rfl, _, rfl, rfl, _, rfl, ?_⟩
      refine ite2 (fun e => ⟨by show 5 ≤ sizeLine; decide, fun p hp => ?_⟩) (fun e => ⟨_, rfl, by show 5 ≤ sizeLine; decide, fun p hp => ?_⟩)
      · exact k _ _ (g5.trans (Kp.new hp)) (D9.new hp) ⟨[a, b, c, kn, 0], ⟨p, rfl, upd_same⟩, a, b, c, kn, 0, rfl, by omega, by omega, by omega, by omega, by omega, by omega, by omega, by omega, by omega, by omega, fun _ => rfl⟩
      · have ek : kn ≠ 3 := fun z => e (decide_eq_true (by rw [z]))
        exact k _ _ (g5.trans (Kp.new hp)) (D9.new hp) ⟨[a, b, c, kn, n], ⟨p, rfl, upd_same⟩, a, b, c, kn, n, rfl, by omega, by omega, by omega, by omega, by omega, by omega, by omega, by omega, by omega, by omega, fun z => absurd z ek⟩
end
def spLNext : Sp := fun vs H Q _ => ∃ (a : Addr) (x : List Int) (B : Int), vs = [.ref a] ∧ H a = some (.tup (x.map V.int)) ∧ Ver B x ∧ ∀ p, H p = none → Q (.ref p) (upd H p (.tup ((nxt x).map V.int)))
def spLVersions : Sp := fun vs H Q _ => ∃ (d l : Addr) (n : Nat), vs = [.ref d, .int (n : Int)] ∧ Deck d l H ∧ n ≤ 100 ∧ ∀ (H' : Hp) (p : Addr) (xs : List V), Kp d l H H' → Deck d l H' → H p = none → H' p = some (.lst xs) → xs.length = n → (∀ v ∈ xs, VV (1000000000 + (n : Int)) H' v) → Q (.ref p) H'
section
variable {P : Program} {w : World} {K : PySem.W.Frag} {mg : Str → Option Value} {base : Heap}
theorem ok_LNext {f : Addr} {fd : FuncData} (Z : Blt mg) (D : DefAt K mg "_law_next" sLNext pLNext f fd) : FnOk P w K mg base CX0 1 f fd pLNext spLNext := by
  refine D.F.ok scLNext (fun vs H Q E h => ?_) (fun cdv A outer s0 H vs Q E hr h => ?_)
  · obtain ⟨a, x, B, rfl, _⟩ := h
    rfl
  have hu := hu_of hr
  obtain ⟨a, x, B, rfl, ha, hx, k⟩ := h
  refine ⟨_, (pss_cons (ps_asg (pv 0) (pg_tup rfl (pgs_cons (pg_name (i := 1) scLNext.nd rfl (Or.inl rfl)) (pgs_cons (pg_name (i := 2) scLNext.nd rfl (Or.inl rfl)) (pgs_cons (pg_name (i := 3) scLNext.nd rfl (Or.inl rfl)) (pgs_cons (pg_name (i := 4) scLNext.nd rfl (Or.inl rfl)) (pgs_cons (pg_name (i := 5) scLNext.nd rfl (Or.inl rfl)) pgs_nil)))))))
    (pss_one (ps_ret (pe_ifExp (pt_cmpR op_lt (pv 4) pe_int (nomark _)) (pe_tup (pa_cons (pv 1) (pa_cons (pv 2) (pa_cons (pv 3) (pa_cons (pv 4) (pa_cons (pe_op op_add (pv 5) pe_int) pa_nil)))))) (pe_tup (pa_cons (pv 1) (pa_cons (pv 2) (pa_cons (pe_op op_add (pv 3) pe_int) (pa_cons pe_int (pa_cons pe_int pa_nil)))))))))), ?_⟩
  obtain ⟨z0, z1, z2, z3, z4, rfl, h1, h2, h3, h4, h5, h6, h7, h8, h9, h10, h11⟩ := hx
  refine ⟨_, rfl, a, _, rfl, SqT.of ha, rfl, _, _, rfl, _, _, rfl, _, _, rfl, _, _, rfl, _, _, rfl, rfl, _, rfl, _, _, rfl, rfl, _, rfl, ?_⟩
  refine ite2 (fun e => ?_) (fun e => ?_)
  · have e := of_decide_eq_true e
    refine ⟨_, rfl, _, rfl, _, rfl, _, rfl, _, rfl, _, _, rfl, rfl, by show 5 ≤ sizeLine; decide, fun p hp => ?_⟩
    have q := k p hp
    have eq : nxt [z0, z1, z2, z3, z4] = [z0, z1, z2, z3, z4 + 1] := if_pos e
    rw [eq] at q
    exact q
  · have e : ¬ z3 < 3 := fun z => e (decide_eq_true z)
    refine ⟨_, rfl, _, rfl, _, rfl, _, _, rfl, rfl, by show 5 ≤ sizeLine; decide, fun p hp => ?_⟩
    have q := k p hp
    have eq : nxt [z0, z1, z2, z3, z4] = [z0, z1, z2 + 1, 0, 0] := if_neg e
    rw [eq] at q
    exact q
theorem ok_LVersions {f : Addr} {fd : FuncData} {fLDraw : Addr} {fdLDraw : FuncData} {fLNext : Addr} {fdLNext : FuncData} {fLPick : Addr} {fdLPick : FuncData} {fLVersion : Addr} {fdLVersion : FuncData} (Z : Blt mg) (D : DefAt K mg "_law_versions" sLVersions pLVersions f fd) (DLDraw : DefAt K mg "_law_draw" sLDraw pLDraw fLDraw fdLDraw) (GLDraw : FnOk P w K mg base CX0 1 fLDraw fdLDraw pLDraw spLDraw) (DLNext : DefAt K mg "_law_next" sLNext pLNext fLNext fdLNext) (GLNext : FnOk P w K mg base CX0 1 fLNext fdLNext pLNext spLNext) (DLPick : DefAt K mg "_law_pick" sLPick pLPick fLPick fdLPick) (GLPick : FnOk P w K mg base CX0 2 fLPick fdLPick pLPick spLPick) (DLVersion : DefAt K mg "_law_version" sLVersion pLVersion fLVersion fdLVersion) (GLVersion : FnOk P w K mg base CX0 4 fLVersion fdLVersion pLVersion spLVersion) : FnOk P w K mg base CX0 5 f fd pLVersions spLVersions := by
  refine D.F.ok scLVersions (fun vs H Q E h => ?_) (fun cdv A outer s0 H vs Q E hr h => ?_)
  · obtain ⟨d, l, n, rfl, _⟩ := h
    rfl
  have hu := hu_of hr
  obtain ⟨d, l, n, rfl, Dk, hn, k⟩ := h
  refine ⟨_, (pss_cons (ps_set (i := 2) scLVersions.nd rfl (Or.inl rfl) (pe_lst pa_nil))
    (pss_cons (ps_for PassesOwn.never rfl (pi_range1 (by rfl) Z.range (pa_cons (pv 1) pa_nil)) (pg_name (i := 3) scLVersions.nd rfl (Or.inl rfl))
    (pss_cons (ps_set (i := 4) scLVersions.nd rfl (Or.inl rfl) (pe_call GLVersion (hr.mono (by decide)) rfl DLVersion.g DLVersion.F.kp DLVersion.b .nil pass0 (pa_cons (pv 0) (pa_cons (pv 2) pa_nil))))
      (Evl.pss_cut (ps_if (PW.pt (pw_and (pt_cmpR (op_neD hr.units) (pv 2) (pe_lst pa_nil) (nomark _)) (pw_and1 (pt_cmpR op_eq (pe_call GLDraw (hr.mono (by decide)) rfl DLDraw.g DLDraw.F.kp DLDraw.b .nil pass0 (pa_cons (pv 0) (pa_cons pe_int pa_nil))) pe_int (nomark _)))))
      (pss_one (ps_set (i := 4) scLVersions.nd rfl (Or.inl rfl) (pe_call GLNext (hr.mono (by decide)) rfl DLNext.g DLNext.F.kp DLNext.b .nil pass0 (pa_cons (pe_call GLPick (hr.mono (by decide)) rfl DLPick.g DLPick.F.kp DLPick.b .nil pass0 (pa_cons (pv 0) (pa_cons (pv 2) pa_nil))) pa_nil))))
      pss_nil)
      (pss_one (ps_expr (pe_bm PySem.F.plainAttrs_list PySem.F.slot_list_append PySem.F.type_list_append mt_append (pv 2) (pa_cons (pv 4) pa_nil)))))))
    (pss_one (ps_ret (pv 2))))), ?_⟩
  refine ⟨Nat.zero_le _, fun p hp => ?_⟩
  have npl := Dk.free hp
  refine ⟨_, rfl, _, rfl, by omega, by omega, for_range (lo := 0) (n := n) (fun i σ H' => ∃ (xs : List V) (v3 v4 : Option V), σ = [some (.ref d), some (.int (n : Int)), some (.ref p), v3, v4] ∧ H' p = some (.lst xs) ∧ xs.length = i ∧ (∀ v ∈ xs, VV (1000000000 + (i : Int)) H' v) ∧ Kp d l H H' ∧ Deck d l H') ⟨[], _, _, rfl, upd_same, rfl, by simp, Kp.new hp, Dk.new hp⟩ ?_ ?_⟩
  · rintro i σ H1 hi ⟨xs, v3, v4, rfl, e1, e2, e3, k1, D1⟩
    refine ⟨_, rfl, _, rfl, d, l, p, xs, 1000000000 + (i : Int), rfl, D1, e1, npl, by omega, by omega, e3, fun H2 v k2 D2 hv => ?_⟩
    have e1' := k2.lst D1 npl e1
    have e3' : ∀ v ∈ xs, VV (1000000000 + (i : Int)) H2 v := fun u hu => (e3 u hu).kp k2 D1
    have kk := k1.trans k2
    clear e1 e3 k1 k2 D1
    refine ⟨fun σ' H' => ∃ v, σ' = [some (.ref d), some (.int (n : Int)), some (.ref p), some (.int (0 + (i : Int))), some v] ∧ H' p = some (.lst xs) ∧ (∀ v ∈ xs, VV (1000000000 + (i : Int)) H' v) ∧ Kp d l H H' ∧ Deck d l H' ∧ VV (1000000000 + (i : Int) + 1) H' v, ?_, ?_⟩
    · refine ⟨_, rfl, Nat.zero_le _, fun q hq => ?_⟩
      have s3 := (Kp.new (d := d) (l := l) (o := .lst []) hq)
      have D3 := D2.new (o := .lst []) hq
      have e4 := s3.lst D2 npl e1'
      have e5 : ∀ v ∈ xs, VV (1000000000 + (i : Int)) (upd H2 q (.lst [])) v := fun u hu => (e3' u hu).kp s3 D2
      refine neNil (SqL.of e4) (SqL.of upd_same) (shp_vv e5) ⟨_, rfl, ?_⟩
      have k3 := kk.trans s3
      have hv3 := (hv.kp s3 D2).mono (show 1000000000 + (i : Int) ≤ 1000000000 + (i : Int) + 1 by omega)
      cases xs with
      | nil => exact iteF (iteF ⟨v, rfl, e4, e5, k3, D3, hv3⟩)
      | cons x0 xr =>
        refine iteT ?_
        refine ⟨_, rfl, d, l, _, rfl, D3, by decide, by decide, fun H4 r k4 D4 _ _ => ⟨rfl, _, rfl, ?_⟩⟩
        have e6 := k4.lst D3 npl e4
        have e7 : ∀ v ∈ x0 :: xr, VV (1000000000 + (i : Int)) H4 v := fun u hu => (e5 u hu).kp k4 D3
        refine ite2 (fun _ => ?_) (fun _ => ⟨v, rfl, e6, e7, k3.trans k4, D4, hv3.kp k4 D3⟩)
        refine ⟨_, rfl, _, rfl, d, l, p, _, rfl, D4, e6, npl, by simp, by simp only [List.length_cons] at e2 ⊢; omega, fun H5 u k5 D5 hu => ?_⟩
        obtain ⟨x, ⟨ax, rfl, hx⟩, hb⟩ := (e7 u hu).kp k5 D4
        refine ⟨ax, x, _, rfl, hx, hb, fun t ht => ?_⟩
        have s5 := (Kp.new (d := d) (l := l) (o := .tup ((nxt x).map V.int)) ht)
        refine ⟨_, rfl, s5.lst D5 npl (k5.lst D4 npl e6), fun u hu => ((e7 u hu).kp k5 D4).kp s5 D5, ((k3.trans k4).trans k5).trans s5, D5.new ht, _, ⟨t, rfl, upd_same⟩, hb.nxt⟩
    · rintro σ' H3 ⟨v, rfl, e4, e5, k3, D3, hv⟩
      refine ⟨_, rfl, .inl ⟨rfl, _, SqL.of e4⟩, _, rfl, p, _, _, rfl, rfl, e4, small1000 (by omega), ?_⟩
      refine ⟨_, _, _, rfl, upd_same, by rw [List.length_append, e2]; rfl, ?_, k3.out hp, D3.mut (D3.nedl e4) npl⟩
      intro u hu
      rcases List.mem_append.mp hu with z | z
      · exact ((e5 u z).same (tup_mut e4)).mono (by omega)
      · rw [List.mem_singleton.mp z]
        exact (hv.same (tup_mut e4)).mono (by omega)
  · rintro σ H1 ⟨xs, v3, v4, rfl, e1, e2, e3, k1, D1⟩
    exact ⟨_, rfl, k _ p xs k1 D1 hp e1 e2 e3⟩
end
abbrev sLDeck : Stmt := top 12
abbrev nLDeck : List Str := ["_law_script", "_law_mixed", "_law_cell"]
abbrev pLDeck : List Str := ["_law_script"]
theorem scLDeck : FnScope nLDeck pLDeck (defScope sLDeck) := ⟨rfl, rfl, rfl, by decide +kernel, rfl, by decide +kernel, by decide +kernel⟩
def spLDeck (K : PySem.W.Frag) : Sp := fun vs H Q _ => ∃ (a : Addr) (ns : List Int), vs = [.ref a] ∧ SqL K H a (ns.map V.int) ∧ ns.length ≤ 63 ∧ ∀ (H' : Hp) (d l : Addr), Same H H' → H d = none → H l = none → Deck d l H' → Q (.ref d) H'
section
variable {P : Program} {w : World} {K : PySem.W.Frag} {mg : Str → Option Value} {base : Heap}
theorem ok_LDeck {f : Addr} {fd : FuncData} (Z : Blt mg) (D : DefAt K mg "_law_deck" sLDeck pLDeck f fd) : FnOk P w K mg base CX0 1 f fd pLDeck (spLDeck K) := by
  refine D.F.ok scLDeck (fun vs H Q E h => ?_) (fun cdv A outer s0 H vs Q E hr h => ?_)
  · obtain ⟨a, ns, rfl, _⟩ := h
    rfl
  have hu := hu_of hr
  obtain ⟨a, ns, rfl, ha, hl, k⟩ := h
  refine ⟨_, (pss_cons (ps_set (i := 1) scLDeck.nd rfl (Or.inl rfl) pe_int)
    (pss_cons (ps_for PassesOwn.never rfl (pi_list (pe_slice sl_list (pv 0) po_none (po_some pe_int))) (pg_name (i := 2) scLDeck.nd rfl (Or.inl rfl))
    (pss_one (ps_set (i := 1) scLDeck.nd rfl (Or.inl rfl) (pe_op op_mod (pe_callTy call_int1 (by rfl) Z.int (by decide +kernel) (pa_cons (pe_op op_add (pe_op op_add (pe_op op_mul (pv 1) pe_int) (pe_op op_mod (pe_callTy call_int1 (by rfl) Z.int (by decide +kernel) (pa_cons (pv 2) pa_nil)) pe_int)) pe_int) pa_nil)) pe_int))))
    (pss_one (ps_ret (pe_disp (pps_cons pe_str (pe_revL (pe_lc (own := [("_law_cell", 2)]) (g := gName 2) (tt := tYes) rfl scLDeck.nd (pi_list (pe_slice sl_list (pv 0) po_none (po_some pe_int))) (blkOk_by (own := [("_law_cell", 2)]) (N := nLDeck) (sc := defScope sLDeck) (by decide +kernel)) (fun _ _ _ _ _ => (pg_name (i := 2) scLDeck.nd rfl (Or.inl rfl))) (fun _ _ _ _ _ => pts_nil) (fun _ _ _ _ _ => (pe_callTy call_int1 (by rfl) Z.int (by decide +kernel) (pa_cons (pv 2) pa_nil))))) (pps_cons pe_str (pv 1) (pps_cons pe_str pe_int pps_nil))) (by rfl) (by rfl) (fun z => by cases z) (by decide)))))), ?_⟩
  obtain ⟨ms, em, lm⟩ := cutV_map ns none (some 63)
  refine ⟨_, rfl, 63, rfl, a, _, rfl, ha, fun p hp => ?_⟩
  rw [em]
  have s1 : Same H (upd H p (.lst (ms.map V.int))) := Same.new hp
  have hp1 : upd H p (.lst (ms.map V.int)) p = some (.lst (ms.map V.int)) := upd_same
  generalize upd H p (.lst (ms.map V.int)) = H1 at *
  refine ⟨p, rfl, ⟨_, SqL.of hp1⟩, for_list (K := K) (a := p) (xs := ms.map V.int) (fun i σ H' => ∃ (m : Int) (v : Option V), σ = [some (.ref a), some (.int m), v] ∧ 0 ≤ m ∧ m < 2147483647 ∧ Same H1 H') ⟨1374201, none, rfl, by decide, by decide, Same.refl _⟩ (fun i σ H' _ ⟨_, _, _, _, _, s⟩ => SqL.of (s _ _ hp1)) ?_ ?_⟩
  · rintro i y σ H' hi ⟨m, v, rfl, m0, m1, s2⟩
    obtain ⟨z, _, rfl⟩ := map_get hi
    refine ⟨_, rfl, _, _, rfl, rfl, .inr (by decide), _, rfl, .inl ⟨_, rfl, _, _, rfl, rfl, (by show (0 : Int) < 2147483629; decide), _, _, rfl, rfl, _, _, rfl, rfl, .inl ⟨_, rfl, _, _, rfl, rfl, (by show (0 : Int) < 2147483647; decide), ?_⟩⟩⟩
    exact ⟨_, _, rfl, Int.emod_nonneg _ (by decide), Int.emod_lt_of_pos _ (by decide), s2⟩
  · rintro σ H2 ⟨m, v, rfl, m0, m1, s2⟩
    have s3 := s1.trans s2
    intro d hd
    have s4 : Same H2 (upd H2 d (.dK [])) := Same.new hd
    have hd4 : upd H2 d (.dK []) d = some (.dK []) := upd_same
    have s5 := s3.trans s4
    generalize upd H2 d (.dK []) = H4 at *
    refine ⟨_, rfl, 63, rfl, a, _, rfl, s5.seq ha, fun q hq => ?_⟩
    rw [em]
    have s6 : Same H4 (upd H4 q (.lst (ms.map V.int))) := Same.new hq
    have hq6 : upd H4 q (.lst (ms.map V.int)) q = some (.lst (ms.map V.int)) := upd_same
    generalize upd H4 q (.lst (ms.map V.int)) = H6 at *
    refine ⟨q, rfl, ⟨_, SqL.of hq6⟩, fun L hL => lc_list (K := K) (a := q) (xs := ms.map V.int) (fun i H' => ∃ rs : List Int, rs.length = i ∧ H' L = some (.lst (rs.map V.int)) ∧ Same H6 H') ⟨[], rfl, upd_same, Same.new hL⟩ (fun i H' _ ⟨_, _, _, s⟩ => SqL.of (s _ _ hq6)) ?_ ?_⟩
    · rintro i y H7 hi ⟨rs, e1, e2, s7⟩
      obtain ⟨z, hz, rfl⟩ := map_get hi
      refine ⟨rfl, ?_⟩
      refine ⟨_, rfl, .inl ⟨_, rfl, rs.map V.int, e2, ?_, rs ++ [z], by rw [List.length_append, e1]; rfl, by rw [upd_same, List.map_append]; rfl, Same.out s7 hL⟩⟩
      have := (List.getElem?_eq_some_iff.mp hz).1
      rw [List.length_map]
      exact small1000 (by omega)
    · rintro H7 ⟨rs, e1, e2, s7⟩
      refine ⟨L, _, rfl, SqL.of e2, fun l hl7 => ?_⟩
      have s8 : Same H7 (upd H7 l (.lst (rs.map V.int).reverse)) := Same.new hl7
      refine ⟨_, rfl, ?_⟩
      have hd8 := s8 _ _ (s7 _ _ (s6 _ _ hd4))
      refine ⟨hd8, dkv l m 0, rfl, by show 3 ≤ 15; decide, ?_⟩
      rw [merge_dkv]
      have nld : l ≠ d := (ne_of_none (s7 _ _ (s6 _ _ hd4)) hl7).symm
      have hdH : H d = none := s3.free hd
      refine k _ d l ?_ hdH (((s5.trans s6).trans s7).free hl7) ⟨rs.reverse, m, 0, upd_same, ?_, ?_, m0, m1⟩
      · exact Same.out (((s5.trans s6).trans s7).trans s8) hdH
      · rw [upd_ne nld, upd_same, List.map_reverse]
      · rw [List.length_reverse, e1, List.length_map]
        omega
end


abbrev sIsInteger : Stmt := top 4
abbrev nIsInteger : List Str := ["thing"]
abbrev pIsInteger : List Str := ["thing"]
theorem scIsInteger : FnScope nIsInteger pIsInteger (defScope sIsInteger) := ⟨rfl, rfl, rfl, by decide +kernel, rfl, by decide +kernel, by decide +kernel⟩
abbrev sIsVersion : Stmt := top 7
abbrev nIsVersion : List Str := ["thing", "item", "sort", "number"]
abbrev pIsVersion : List Str := ["thing"]
theorem scIsVersion : FnScope nIsVersion pIsVersion (defScope sIsVersion) := ⟨rfl, rfl, rfl, by decide +kernel, rfl, by decide +kernel, by decide +kernel⟩
abbrev sCheckVersion : Stmt := top 8
abbrev nCheckVersion : List Str := ["version"]
abbrev pCheckVersion : List Str := ["version"]
theorem scCheckVersion : FnScope nCheckVersion pCheckVersion (defScope sCheckVersion) := ⟨rfl, rfl, rfl, by decide +kernel, rfl, by decide +kernel, by decide +kernel⟩
abbrev sIsEarly : Stmt := top 9
abbrev nIsEarly : List Str := ["version"]
abbrev pIsEarly : List Str := ["version"]
theorem scIsEarly : FnScope nIsEarly pIsEarly (defScope sIsEarly) := ⟨rfl, rfl, rfl, by decide +kernel, rfl, by decide +kernel, by decide +kernel⟩
abbrev sNextVersion : Stmt := top 10
abbrev nNextVersion : List Str := ["version", "a", "b", "c", "sort", "number"]
abbrev pNextVersion : List Str := ["version"]
theorem scNextVersion : FnScope nNextVersion pNextVersion (defScope sNextVersion) := ⟨rfl, rfl, rfl, by decide +kernel, rfl, by decide +kernel, by decide +kernel⟩
abbrev sLIsCount : Stmt := top 19
abbrev nLIsCount : List Str := ["_law_thing"]
abbrev pLIsCount : List Str := ["_law_thing"]
theorem scLIsCount : FnScope nLIsCount pLIsCount (defScope sLIsCount) := ⟨rfl, rfl, rfl, by decide +kernel, rfl, by decide +kernel, by decide +kernel⟩
abbrev sLIsVersion : Stmt := top 20
abbrev nLIsVersion : List Str := ["_law_thing", "_law_part"]
abbrev pLIsVersion : List Str := ["_law_thing"]
theorem scLIsVersion : FnScope nLIsVersion pLIsVersion (defScope sLIsVersion) := ⟨rfl, rfl, rfl, by decide +kernel, rfl, by decide +kernel, by decide +kernel⟩
def spIsInteger : Sp := fun vs H Q _ => ∃ (i : Int), vs = [.int i] ∧ Q (.bl true) H
def spLIsCount : Sp := fun vs H Q _ => ∃ (i : Int), vs = [.int i] ∧ Q (.bl (decide (0 ≤ i))) H
def spIsVersion : Sp := fun vs H Q _ => ∃ (a : Addr) (x : List Int) (B : Int), vs = [.ref a] ∧ H a = some (.tup (x.map V.int)) ∧ Ver B x ∧ ∀ H', Same H H' → Q (.bl true) H'
def spLIsVersion : Sp := spIsVersion
def spCheckVersion : Sp := fun vs H Q _ => ∃ (a : Addr) (x : List Int) (B : Int), vs = [.ref a] ∧ H a = some (.tup (x.map V.int)) ∧ Ver B x ∧ ∀ H', Same H H' → Q .non H'
def spIsEarly : Sp := fun vs H Q _ => ∃ (a : Addr) (x : List Int) (B : Int), vs = [.ref a] ∧ H a = some (.tup (x.map V.int)) ∧ Ver B x ∧ ∀ H', Same H H' → Q (.bl (!decide (x[3]? = some 3))) H'
def spNextVersion : Sp := fun vs H Q _ => ∃ (a : Addr) (x : List Int) (B : Int), vs = [.ref a] ∧ H a = some (.tup (x.map V.int)) ∧ Ver B x ∧ ∀ H' p, Same H H' → H p = none → H' p = some (.tup ((nxt x).map V.int)) → Q (.ref p) H'
section
variable {P : Program} {w : World} {K : PySem.W.Frag} {mg : Str → Option Value} {base : Heap}
theorem ok_IsInteger {f : Addr} {fd : FuncData} (Z : Blt mg) (D : DefAt K mg "is_integer" sIsInteger pIsInteger f fd) : FnOk P w K mg base CX0 1 f fd pIsInteger spIsInteger := by
  refine D.F.ok scIsInteger (fun vs H Q E h => ?_) (fun cdv A outer s0 H vs Q E hr h => ?_)
  · obtain ⟨i, rfl, _⟩ := h
    rfl
  have hu := hu_of hr
  obtain ⟨i, rfl, k⟩ := h
  refine ⟨_, (pss_one (ps_ret (pe_and (pe_callB call_isi (by rfl) Z.isinstance (by decide +kernel) (pa_cons (pv 0) (pa_cons (pe_bltn (v := .ty "int") (u := Value.type "int") (by rfl) Z.int (by decide +kernel) rfl) pa_nil))) (pe_one (pe_not (pe_callB call_isi (by rfl) Z.isinstance (by decide +kernel) (pa_cons (pv 0) (pa_cons (pe_bltn (v := .ty "bool") (u := Value.type "bool") (by rfl) Z.bool (by decide +kernel) rfl) pa_nil)))))))), ?_⟩
  exact ⟨_, rfl, _, _, _, _, true, rfl, .ty "int", .base (.int i), kit_ty (by decide +kernel), true, rfl, _, rfl, _, _, _, _, false, rfl, .ty "bool", .base (.int i), kit_ty (by decide +kernel), false, rfl, k⟩
theorem ok_LIsCount {f : Addr} {fd : FuncData} (Z : Blt mg) (D : DefAt K mg "_law_is_count" sLIsCount pLIsCount f fd) : FnOk P w K mg base CX0 1 f fd pLIsCount spLIsCount := by
  refine D.F.ok scLIsCount (fun vs H Q E h => ?_) (fun cdv A outer s0 H vs Q E hr h => ?_)
  · obtain ⟨i, rfl, _⟩ := h
    rfl
  have hu := hu_of hr
  obtain ⟨i, rfl, k⟩ := h
  refine ⟨_, (pss_one (ps_ret (pe_and (pe_callB call_isi (by rfl) Z.isinstance (by decide +kernel) (pa_cons (pv 0) (pa_cons (pe_bltn (v := .ty "int") (u := Value.type "int") (by rfl) Z.int (by decide +kernel) rfl) pa_nil))) (pe_and (pe_not (pe_callB call_isi (by rfl) Z.isinstance (by decide +kernel) (pa_cons (pv 0) (pa_cons (pe_bltn (v := .ty "bool") (u := Value.type "bool") (by rfl) Z.bool (by decide +kernel) rfl) pa_nil)))) (pe_one (pe_cmpR op_ge (pv 0) pe_int (nomark _))))))), ?_⟩
  exact ⟨_, rfl, _, _, _, _, true, rfl, .ty "int", .base (.int i), kit_ty (by decide +kernel), true, rfl, _, rfl, _, _, _, _, false, rfl, .ty "bool", .base (.int i), kit_ty (by decide +kernel), false, rfl, true, rfl, _, rfl, _, _, rfl, rfl, k⟩
theorem ok_IsVersion {f : Addr} {fd : FuncData} {fIsInteger : Addr} {fdIsInteger : FuncData} (Z : Blt mg) (D : DefAt K mg "is_version" sIsVersion pIsVersion f fd) (DIsInteger : DefAt K mg "is_integer" sIsInteger pIsInteger fIsInteger fdIsInteger) (GIsInteger : FnOk P w K mg base CX0 1 fIsInteger fdIsInteger pIsInteger spIsInteger) : FnOk P w K mg base CX0 2 f fd pIsVersion spIsVersion := by
  refine D.F.ok scIsVersion (fun vs H Q E h => ?_) (fun cdv A outer s0 H vs Q E hr h => ?_)
  · obtain ⟨a, x, B, rfl, _⟩ := h
    rfl
  have hu := hu_of hr
  obtain ⟨a, x, B, rfl, ha, hx, k⟩ := h
  refine ⟨_, (pss_cons (ps_if (PW.pt (pw_or (pt_not (pt_val (pe_callB call_isi (by rfl) Z.isinstance (by decide +kernel) (pa_cons (pv 0) (pa_cons (pe_bltn (v := .ty "tuple") (u := Value.type "tuple") (by rfl) Z.tuple (by decide +kernel) rfl) pa_nil))))) (pw_or1 (pt_cmpR op_ne (pe_callB call_len_seq (by rfl) Z.len (by decide +kernel) (pa_cons (pv 0) pa_nil)) pe_int (nomark _)))))
    (pss_one (ps_ret pe_bl))
    pss_nil)
    (pss_cons (ps_if (pt_not (pt_val (pe_callB (cr_all rfl) (by rfl) Z.all (by decide +kernel) (pa_cons (pe_lc (own := [("item", 1)]) (g := gName 1) (tt := tYes) rfl scIsVersion.nd (pi_tup (pv 0)) (blkOk_by (own := [("item", 1)]) (N := nIsVersion) (sc := defScope sIsVersion) (by decide +kernel)) (fun _ _ _ _ _ => (pg_name (i := 1) scIsVersion.nd rfl (Or.inl rfl))) (fun _ _ _ _ _ => pts_nil) (fun _ _ _ _ _ => (pe_and (pe_call GIsInteger (hr.mono (by decide)) rfl DIsInteger.g DIsInteger.F.kp DIsInteger.b .nil pass0 (pa_cons (pv 1) pa_nil)) (pe_one (pe_cmpR op_ge (pv 1) pe_int (nomark _)))))) pa_nil))))
    (pss_one (ps_ret pe_bl))
    pss_nil)
    (pss_cons (ps_asg (pe_slice sl_tupA (pv 0) (po_some pe_int) po_none) (pg_tup rfl (pgs_cons (pg_name (i := 2) scIsVersion.nd rfl (Or.inl rfl)) (pgs_cons (pg_name (i := 3) scIsVersion.nd rfl (Or.inl rfl)) pgs_nil))))
    (pss_one (ps_ret (pe_or (pe_cmpR op_lt (pv 2) (pe_globI rfl Z.g_WHOLE) (nomark _)) (pe_one (pe_and (pe_cmpR op_eq (pv 2) (pe_globI rfl Z.g_WHOLE) (nomark _)) (pe_one (pe_cmpR op_eq (pv 3) pe_int (nomark _))))))))))), ?_⟩
  have hlen := hx.len
  have hnn := hx.nonneg
  refine ⟨_, rfl, _, _, _, _, true, rfl, .ty "tuple", .base (.tup ha), kit_ty (by decide +kernel), true, rfl, ?_⟩
  refine ⟨_, rfl, a, _, rfl, .inr (SqT.of ha), rfl, _, rfl, ?_⟩
  rw [List.length_map, hlen]
  refine iteF ?_
  refine ⟨_, rfl, a, rfl, ⟨_, SqT.of ha⟩, fun L hL => lc_tup (K := K) (a := a) (xs := x.map V.int) (fun i H' => H' L = some (.lst ((List.replicate i true).map V.bl)) ∧ Same H H') ⟨upd_same, Same.new hL⟩ (fun i H' _ ⟨_, s⟩ => SqT.of (s _ _ ha)) ?_ ?_⟩
  · rintro i y H' hi ⟨e, s1⟩
    obtain ⟨z, hz, rfl⟩ := map_get hi
    refine ⟨rfl, ?_⟩
    have z0 := hnn z (List.mem_of_getElem? hz)
    have hi5 := (List.getElem?_eq_some_iff.mp hz).1
    refine ⟨_, rfl, z, rfl, true, rfl, _, rfl, _, _, rfl, rfl, _, e, by rw [List.length_map, List.length_replicate]; exact small1000 (by omega), ?_, Same.out s1 hL⟩
    have ez : decide (0 ≤ z) = true := decide_eq_true z0
    rw [upd_same]
    show some (HO.lst (_ ++ [V.bl (decide (0 ≤ z))])) = _
    rw [ez, ← rep_snoc, List.map_append]
    rfl
  · rintro H1 ⟨e, s1⟩
    refine ⟨L, _, rfl, SqL.of e, _, rfl, ?_⟩
    rw [rep_all]
    refine iteF ?_
    obtain ⟨z0, z1, z2, z3, z4, rfl, h1, h2, h3, h4, h5, h6, h7, h8, h9, h10, h11⟩ := hx
    refine ⟨_, rfl, 3, rfl, a, _, rfl, SqT.of (s1 _ _ ha), fun q => absurd q.1 (show ¬ HT.sIx 5 0 (some 3) = 0 by decide), fun _ p hp => ?_⟩
    refine ⟨p, _, rfl, SqT.of upd_same, rfl, _, _, rfl, _, _, rfl, rfl, ?_⟩
    have s2 := s1.trans (Same.new (o := .tup [.int z3, .int z4]) hp)
    refine ⟨_, rfl, _, _, rfl, rfl, _, rfl, ?_⟩
    refine ite2 (fun _ => k _ s2) (fun e1 => ?_)
    have e3 : z3 = 3 := by
      have : ¬ z3 < 3 := fun z => e1 (decide_eq_true z)
      omega
    have e4 := h11 e3
    subst e3 e4
    exact ⟨_, rfl, rfl, _, rfl, _, rfl, rfl, k _ s2⟩
theorem ok_LIsVersion {f : Addr} {fd : FuncData} {fLIsCount : Addr} {fdLIsCount : FuncData} (Z : Blt mg) (D : DefAt K mg "_law_is_version" sLIsVersion pLIsVersion f fd) (DLIsCount : DefAt K mg "_law_is_count" sLIsCount pLIsCount fLIsCount fdLIsCount) (GLIsCount : FnOk P w K mg base CX0 1 fLIsCount fdLIsCount pLIsCount spLIsCount) : FnOk P w K mg base CX0 2 f fd pLIsVersion spLIsVersion := by
  refine D.F.ok scLIsVersion (fun vs H Q E h => ?_) (fun cdv A outer s0 H vs Q E hr h => ?_)
  · obtain ⟨a, x, B, rfl, _⟩ := h
    rfl
  have hu := hu_of hr
  obtain ⟨a, x, B, rfl, ha, hx, k⟩ := h
  refine ⟨_, (pss_cons (ps_if (PW.pt (pw_or (pt_not (pt_val (pe_callB call_isi (by rfl) Z.isinstance (by decide +kernel) (pa_cons (pv 0) (pa_cons (pe_bltn (v := .ty "tuple") (u := Value.type "tuple") (by rfl) Z.tuple (by decide +kernel) rfl) pa_nil))))) (pw_or (pt_cmpR op_ne (pe_callB call_len_seq (by rfl) Z.len (by decide +kernel) (pa_cons (pv 0) pa_nil)) pe_int (nomark _)) (pw_or1 (pt_cmpR (op_neD hr.units) (pe_lc (own := [("_law_part", 1)]) (g := gName 1) rfl scLIsVersion.nd (pi_tup (pv 0)) (blkOk_by (own := [("_law_part", 1)]) (N := nLIsVersion) (sc := defScope sLIsVersion) (by decide +kernel)) (fun _ _ _ _ _ => (pg_name (i := 1) scLIsVersion.nd rfl (Or.inl rfl))) (fun _ _ _ _ _ => (pts_one (pt_not (pt_val (pe_call GLIsCount (hr.mono (by decide)) rfl DLIsCount.g DLIsCount.F.kp DLIsCount.b .nil pass0 (pa_cons (pv 1) pa_nil)))))) (fun _ _ _ _ _ => pe_int)) (pe_lst pa_nil) (nomark _))))))
    (pss_one (ps_ret pe_bl))
    pss_nil)
    (pss_one (ps_ret (pe_or (pe_cmpR op_lt (pe_ix ix_tup (pv 0) pe_int (fun _ _ => rfl)) pe_int (nomark _)) (pe_one (pe_and (pe_cmpR op_eq (pe_ix ix_tup (pv 0) pe_int (fun _ _ => rfl)) pe_int (nomark _)) (pe_one (pe_cmpR op_eq (pe_ix ix_tup (pv 0) pe_int (fun _ _ => rfl)) pe_int (nomark _))))))))), ?_⟩
  have hlen := hx.len
  have hnn := hx.nonneg
  refine ⟨_, rfl, _, _, _, _, true, rfl, .ty "tuple", .base (.tup ha), kit_ty (by decide +kernel), true, rfl, ?_⟩
  refine ⟨_, rfl, a, _, rfl, .inr (SqT.of ha), rfl, _, rfl, ?_⟩
  rw [List.length_map, hlen]
  refine iteF ?_
  refine ⟨_, rfl, a, rfl, ⟨_, SqT.of ha⟩, fun L hL => lc_tup (K := K) (a := a) (xs := x.map V.int) (fun i H' => H' L = some (.lst []) ∧ Same H H') ⟨upd_same, Same.new hL⟩ (fun i H' _ ⟨_, s⟩ => SqT.of (s _ _ ha)) ?_ ?_⟩
  · rintro i y H' hi ⟨e, s1⟩
    obtain ⟨z, hz, rfl⟩ := map_get hi
    refine ⟨rfl, ?_⟩
    have z0 := hnn z (List.mem_of_getElem? hz)
    have ez : decide (0 ≤ z) = true := decide_eq_true z0
    refine ⟨_, rfl, z, rfl, ?_⟩
    rw [ez]
    exact ⟨true, rfl, e, s1⟩
  · rintro H1 ⟨e, s1⟩
    refine ⟨Nat.zero_le _, fun p hp => ?_⟩
    have s2 := s1.trans (Same.new (o := .lst []) hp)
    refine ⟨.list [], .list [], .lst (SqL.of (Same.new hp _ _ e)) .nil, .lst (SqL.of upd_same) .nil, by decide, by decide, _, rfl, ?_⟩
    refine iteF ?_
    obtain ⟨z0, z1, z2, z3, z4, rfl, h1, h2, h3, h4, h5, h6, h7, h8, h9, h10, h11⟩ := hx
    have ha2 := s2 _ _ ha
    refine ⟨_, rfl, a, _, _, _, rfl, rfl, SqT.of ha2, atI_nat (j := 3) rfl, _, _, rfl, rfl, _, rfl, ?_⟩
    refine ite2 (fun _ => k _ s2) (fun e1 => ?_)
    have e3 : z3 = 3 := by
      have : ¬ z3 < 3 := fun z => e1 (decide_eq_true z)
      omega
    have e4 := h11 e3
    subst e3 e4
    exact ⟨_, rfl, a, _, _, _, rfl, rfl, SqT.of ha2, atI_nat (j := 3) rfl, rfl, _, rfl, _, rfl, a, _, _, _, rfl, rfl, SqT.of ha2, atI_nat (j := 4) rfl, rfl, k _ s2⟩
theorem ok_CheckVersion {f : Addr} {fd : FuncData} {fIsVersion : Addr} {fdIsVersion : FuncData} (Z : Blt mg) (D : DefAt K mg "check_version" sCheckVersion pCheckVersion f fd) (DIsVersion : DefAt K mg "is_version" sIsVersion pIsVersion fIsVersion fdIsVersion) (GIsVersion : FnOk P w K mg base CX0 2 fIsVersion fdIsVersion pIsVersion spIsVersion) : FnOk P w K mg base CX0 3 f fd pCheckVersion spCheckVersion := by
  refine D.F.ok scCheckVersion (fun vs H Q E h => ?_) (fun cdv A outer s0 H vs Q E hr h => ?_)
  · obtain ⟨a, x, B, rfl, _⟩ := h
    rfl
  have hu := hu_of hr
  obtain ⟨a, x, B, rfl, ha, hx, k⟩ := h
  refine ⟨_, (pss_one (ps_if (pt_not (pt_val (pe_call GIsVersion (hr.mono (by decide)) rfl DIsVersion.g DIsVersion.F.kp DIsVersion.b .nil pass0 (pa_cons (pv 0) pa_nil))))
    (pss_one ps_never)
    pss_nil)), ?_⟩
  exact ⟨_, rfl, a, x, B, rfl, ha, hx, fun H' s => ⟨_, rfl, iteF (k _ s)⟩⟩
theorem ok_IsEarly {f : Addr} {fd : FuncData} {fCheckVersion : Addr} {fdCheckVersion : FuncData} (Z : Blt mg) (D : DefAt K mg "is_early" sIsEarly pIsEarly f fd) (DCheckVersion : DefAt K mg "check_version" sCheckVersion pCheckVersion fCheckVersion fdCheckVersion) (GCheckVersion : FnOk P w K mg base CX0 3 fCheckVersion fdCheckVersion pCheckVersion spCheckVersion) : FnOk P w K mg base CX0 4 f fd pIsEarly spIsEarly := by
  refine D.F.ok scIsEarly (fun vs H Q E h => ?_) (fun cdv A outer s0 H vs Q E hr h => ?_)
  · obtain ⟨a, x, B, rfl, _⟩ := h
    rfl
  have hu := hu_of hr
  obtain ⟨a, x, B, rfl, ha, hx, k⟩ := h
  refine ⟨_, (pss_cons (ps_expr (pe_call GCheckVersion (hr.mono (by decide)) rfl DCheckVersion.g DCheckVersion.F.kp DCheckVersion.b .nil pass0 (pa_cons (pv 0) pa_nil)))
    (pss_one (ps_ret (pe_cmpR op_ne (pe_ix ix_tup (pv 0) pe_int (fun _ _ => rfl)) (pe_globI rfl Z.g_WHOLE) (nomark _))))), ?_⟩
  refine ⟨_, rfl, a, x, B, rfl, ha, hx, fun H' s => ?_⟩
  obtain ⟨z0, z1, z2, z3, z4, rfl, h1⟩ := hx
  refine ⟨_, rfl, a, _, _, _, rfl, rfl, SqT.of (s _ _ ha), atI_nat (j := 3) rfl, rfl, ?_⟩
  have e : (!decide ((V.int z3) = V.int 3)) = (!decide (([z0, z1, z2, z3, z4] : List Int)[3]? = some 3)) := by
    have : (V.int z3 = V.int 3) ↔ (([z0, z1, z2, z3, z4] : List Int)[3]? = some 3) := by simp
    simp only [this]
  have q := k H' s
  rw [← e] at q
  exact q
theorem ok_NextVersion {f : Addr} {fd : FuncData} {fCheckVersion : Addr} {fdCheckVersion : FuncData} (Z : Blt mg) (D : DefAt K mg "next_version" sNextVersion pNextVersion f fd) (DCheckVersion : DefAt K mg "check_version" sCheckVersion pCheckVersion fCheckVersion fdCheckVersion) (GCheckVersion : FnOk P w K mg base CX0 3 fCheckVersion fdCheckVersion pCheckVersion spCheckVersion) : FnOk P w K mg base CX0 4 f fd pNextVersion spNextVersion := by
  refine D.F.ok scNextVersion (fun vs H Q E h => ?_) (fun cdv A outer s0 H vs Q E hr h => ?_)
  · obtain ⟨a, x, B, rfl, _⟩ := h
    rfl
  have hu := hu_of hr
  obtain ⟨a, x, B, rfl, ha, hx, k⟩ := h
  refine ⟨_, (pss_cons (ps_expr (pe_call GCheckVersion (hr.mono (by decide)) rfl DCheckVersion.g DCheckVersion.F.kp DCheckVersion.b .nil pass0 (pa_cons (pv 0) pa_nil)))
    (pss_cons (ps_asg (pv 0) (pg_tup rfl (pgs_cons (pg_name (i := 1) scNextVersion.nd rfl (Or.inl rfl)) (pgs_cons (pg_name (i := 2) scNextVersion.nd rfl (Or.inl rfl)) (pgs_cons (pg_name (i := 3) scNextVersion.nd rfl (Or.inl rfl)) (pgs_cons (pg_name (i := 4) scNextVersion.nd rfl (Or.inl rfl)) (pgs_cons (pg_name (i := 5) scNextVersion.nd rfl (Or.inl rfl)) pgs_nil)))))))
    (pss_cons (ps_if (pt_cmpR op_eq (pv 4) (pe_globI rfl Z.g_WHOLE) (nomark _))
    (pss_one (ps_ret (pe_tup (pa_cons (pv 1) (pa_cons (pv 2) (pa_cons (pe_op op_add (pv 3) pe_int) (pa_cons pe_int (pa_cons pe_int pa_nil))))))))
    pss_nil)
    (pss_one (ps_ret (pe_tup (pa_cons (pv 1) (pa_cons (pv 2) (pa_cons (pv 3) (pa_cons (pv 4) (pa_cons (pe_op op_add (pv 5) pe_int) pa_nil))))))))))), ?_⟩
  refine ⟨_, rfl, a, x, B, rfl, ha, hx, fun H' s => ?_⟩
  obtain ⟨z0, z1, z2, z3, z4, rfl, h1, h2, h3, h4, h5, h6, h7, h8, h9, h10, h11⟩ := hx
  refine ⟨_, rfl, a, _, rfl, SqT.of (s _ _ ha), rfl, _, _, rfl, _, _, rfl, _, _, rfl, _, _, rfl, _, _, rfl, rfl, _, rfl, rfl, _, rfl, ?_⟩
  refine ite2 (fun e => ?_) (fun e => ?_)
  · have e := V.int.inj (of_decide_eq_true e)
    refine ⟨_, rfl, _, rfl, _, rfl, _, _, rfl, rfl, by show 5 ≤ sizeLine; decide, fun p hp => ?_⟩
    have eq : nxt [z0, z1, z2, z3, z4] = [z0, z1, z2 + 1, 0, 0] := if_neg (by omega)
    refine k _ p (s.trans (Same.new hp)) (s.free hp) ?_
    rw [eq]
    exact upd_same
  · have e : ¬ z3 = 3 := fun z => e (decide_eq_true (by rw [z]))
    refine ⟨_, rfl, _, rfl, _, rfl, _, rfl, _, rfl, _, _, rfl, rfl, by show 5 ≤ sizeLine; decide, fun p hp => ?_⟩
    have eq : nxt [z0, z1, z2, z3, z4] = [z0, z1, z2, z3, z4 + 1] := if_pos (by omega)
    refine k _ p (s.trans (Same.new hp)) (s.free hp) ?_
    rw [eq]
    exact upd_same
end


abbrev sLaw : Stmt := top 21
abbrev nLaw : List Str := ["_law_script", "_law_deck_here", "_law_versions_here", "_law_pool", "_law_version_here", "_law_at", "_law_told", "_law_one", "_law_now", "_law_turn", "_law_after"]
abbrev pLaw : List Str := ["_law_script"]
theorem scLaw : FnScope nLaw pLaw (defScope sLaw) := ⟨rfl, rfl, rfl, by decide +kernel, rfl, by decide +kernel, by decide +kernel⟩
def spLaw (K : PySem.W.Frag) : Sp := fun vs H Q _ => ∃ (a : Addr) (ns : List Int), vs = [.ref a] ∧ SqL K H a (ns.map V.int) ∧ ns.length ≤ 63 ∧ ∀ H', Q (.bl true) H'
section
variable {P : Program} {w : World} {K : PySem.W.Frag} {mg : Str → Option Value} {base : Heap}
theorem ok_Law {f : Addr} {fd : FuncData} {fLDeck : Addr} {fdLDeck : FuncData} {fLIsVersion : Addr} {fdLIsVersion : FuncData} {fLNext : Addr} {fdLNext : FuncData} {fLVersions : Addr} {fdLVersions : FuncData} {fIsEarly : Addr} {fdIsEarly : FuncData} {fIsVersion : Addr} {fdIsVersion : FuncData} {fNextVersion : Addr} {fdNextVersion : FuncData} (Z : Blt mg) (D : DefAt K mg "law" sLaw pLaw f fd) (DLDeck : DefAt K mg "_law_deck" sLDeck pLDeck fLDeck fdLDeck) (GLDeck : FnOk P w K mg base CX0 1 fLDeck fdLDeck pLDeck (spLDeck K)) (DLIsVersion : DefAt K mg "_law_is_version" sLIsVersion pLIsVersion fLIsVersion fdLIsVersion) (GLIsVersion : FnOk P w K mg base CX0 2 fLIsVersion fdLIsVersion pLIsVersion spLIsVersion) (DLNext : DefAt K mg "_law_next" sLNext pLNext fLNext fdLNext) (GLNext : FnOk P w K mg base CX0 1 fLNext fdLNext pLNext spLNext) (DLVersions : DefAt K mg "_law_versions" sLVersions pLVersions fLVersions fdLVersions) (GLVersions : FnOk P w K mg base CX0 5 fLVersions fdLVersions pLVersions spLVersions) (DIsEarly : DefAt K mg "is_early" sIsEarly pIsEarly fIsEarly fdIsEarly) (GIsEarly : FnOk P w K mg base CX0 4 fIsEarly fdIsEarly pIsEarly spIsEarly) (DIsVersion : DefAt K mg "is_version" sIsVersion pIsVersion fIsVersion fdIsVersion) (GIsVersion : FnOk P w K mg base CX0 2 fIsVersion fdIsVersion pIsVersion spIsVersion) (DNextVersion : DefAt K mg "next_version" sNextVersion pNextVersion fNextVersion fdNextVersion) (GNextVersion : FnOk P w K mg base CX0 4 fNextVersion fdNextVersion pNextVersion spNextVersion) (kbNextVersion : KBinds K fdNextVersion pNextVersion ["version"] kwG kwV) : FnG P w K mg base 6 f fd pLaw (spLaw K) := by
  refine FnG.body D.F scLaw (fun vs H Q E h => ?_) (fun cdv A outer s0 H vs Q hgd hr h => ?_)
  · obtain ⟨a, ns, rfl, _⟩ := h
    rfl
  have hu := hu_of hr
  obtain ⟨a, ns, rfl, ha, hl, k⟩ := h
  refine ⟨_, (pss_cons (ps_set (i := 1) scLaw.nd rfl (Or.inl rfl) (pe_call GLDeck (hr.mono (by decide)) rfl DLDeck.g DLDeck.F.kp DLDeck.b .nil pass0 (pa_cons (pv 0) pa_nil)))
    (pss_cons (ps_set (i := 2) scLaw.nd rfl (Or.inl rfl) (pe_call GLVersions (hr.mono (by decide)) rfl DLVersions.g DLVersions.F.kp DLVersions.b .nil pass0 (pa_cons (pv 1) (pa_cons pe_int pa_nil))))
    (pss_cons (ps_set (i := 3) scLaw.nd rfl (Or.inl rfl) (pe_op op_cat (pv 2) (pe_lst (pa_cons (pe_tup (pa_cons pe_int (pa_cons pe_int (pa_cons pe_int (pa_cons pe_int (pa_cons pe_int pa_nil)))))) (pa_cons (pe_tup (pa_cons pe_int (pa_cons pe_int (pa_cons pe_int (pa_cons pe_int (pa_cons pe_int pa_nil)))))) (pa_cons (pe_tup (pa_cons pe_int (pa_cons pe_int (pa_cons pe_int (pa_cons pe_int (pa_cons pe_int pa_nil)))))) (pa_cons (pe_tup (pa_cons pe_int (pa_cons pe_int (pa_cons pe_int (pa_cons pe_int (pa_cons pe_int pa_nil)))))) pa_nil)))))))
    (pss_cons (ps_for PassesOwn.never rfl (pi_list (pe_callTy call_list_of (by rfl) Z.list (by decide +kernel) (pa_cons (pv 2) pa_nil))) (pg_name (i := 4) scLaw.nd rfl (Or.inr rfl))
    (pss_one (ps_expr (pe_bm PySem.F.plainAttrs_list PySem.F.slot_list_extend PySem.F.type_list_extend mt_extend (pv 3) (pa_cons (pe_lst (pa_cons (pe_call GLNext (hr.mono (by decide)) rfl DLNext.g DLNext.F.kp DLNext.b .nil pass0 (pa_cons (pv 4) pa_nil)) (pa_cons (pe_op op_catA (pe_slice sl_tupA (pv 4) po_none (po_some pe_int)) (pe_tup (pa_cons pe_int (pa_cons pe_int pa_nil)))) (pa_cons (pe_tup (pa_cons (pe_ix ix_tup (pv 4) pe_int (fun _ _ => rfl)) (pa_cons (pe_ix ix_tup (pv 4) pe_int (fun _ _ => rfl)) (pa_cons (pe_op op_add (pe_ix ix_tup (pv 4) pe_int (fun _ _ => rfl)) pe_int) (pa_cons pe_int (pa_cons pe_int pa_nil)))))) pa_nil)))) pa_nil)))))
    (pss_cons (ps_for PassesOwn.never rfl (pi_enum (by rfl) Z.enumerate (pa_cons (pv 2) pa_nil)) (pg_tup rfl (pgs_cons (pg_name (i := 5) scLaw.nd rfl (Or.inl rfl)) (pgs_cons (pg_name (i := 4) scLaw.nd rfl (Or.inr rfl)) pgs_nil)))
    (Evl.pss_cut (ps_set (i := 6) scLaw.nd rfl (Or.inr rfl) (pe_ifExp (pt_cmpR op_eq (pe_op op_mod (pe_callTy call_int1 (by rfl) Z.int (by decide +kernel) (pa_cons (pv 5) pa_nil)) pe_int) pe_int (nomark _)) (pe_call GNextVersion (hr.mono (by decide)) rfl DNextVersion.g DNextVersion.F.kp DNextVersion.b .nil pass0 (pa_cons (pv 4) pa_nil)) (pe_callK0 GNextVersion (hr.mono (by decide)) rfl DNextVersion.g DNextVersion.F.kp kbNextVersion pass0 (pk_cons (pv 4) pk_nil))))
      (pss_cons (ps_if (PW.pt (pw_or (pt_not (pt_val (pe_call GLIsVersion (hr.mono (by decide)) rfl DLIsVersion.g DLIsVersion.F.kp DLIsVersion.b .nil pass0 (pa_cons (pv 6) pa_nil)))) (pw_or (pt_not (pt_cmpR (op_ltT hr.units0) (pv 4) (pv 6) (nomark _))) (pw_or1 (pt_cmpR (op_neD hr.units) (pe_lc (own := [("_law_one", 7)]) (g := gName 7) rfl scLaw.nd (pi_list (pv 3)) (blkOk_by (own := [("_law_one", 7)]) (N := nLaw) (sc := defScope sLaw) (by decide +kernel)) (fun _ _ _ _ _ => (pg_name (i := 7) scLaw.nd rfl (Or.inl rfl))) (fun _ _ _ _ _ => (pts_one (pt_chain (op_ltTK K hr.units0) (op_ltTK K hr.units0) (pv 4) (pv 7) (pv 6)))) (fun _ _ _ _ _ => (pv 7))) (pe_lst pa_nil) (nomark _))))))
      (pss_one (ps_ret pe_bl))
      pss_nil)
      (pss_cons (ps_if (PW.pt (pw_or (pt_cmpR op_ne (pe_callB (call_reprD hgd hr.units) (by rfl) Z.repr (by decide +kernel) (pa_cons (pv 6) pa_nil)) (pe_callB (call_reprD hgd hr.units) (by rfl) Z.repr (by decide +kernel) (pa_cons (pe_call GLNext (hr.mono (by decide)) rfl DLNext.g DLNext.F.kp DLNext.b .nil pass0 (pa_cons (pv 4) pa_nil)) pa_nil)) (nomark _)) (pw_or (pt_cmpR op_notBl (pe_call GIsVersion (hr.mono (by decide)) rfl DIsVersion.g DIsVersion.F.kp DIsVersion.b .nil pass0 (pa_cons (pv 6) pa_nil)) pe_bl (nomark _)) (pw_or1 (pt_cmpR op_notBl (pe_call GIsEarly (hr.mono (by decide)) rfl DIsEarly.g DIsEarly.F.kp DIsEarly.b .nil pass0 (pa_cons (pv 6) pa_nil)) pe_bl (nomark _))))))
      (pss_one (ps_ret pe_bl))
      pss_nil)
      (pss_cons (ps_set (i := 8) scLaw.nd rfl (Or.inl rfl) (pv 4))
      (pss_one (ps_for PassesOwn.never rfl (pi_range1 (by rfl) Z.range (pa_cons pe_int pa_nil)) (pg_name (i := 9) scLaw.nd rfl (Or.inl rfl))
      (pss_cons (ps_set (i := 10) scLaw.nd rfl (Or.inl rfl) (pe_call GNextVersion (hr.mono (by decide)) rfl DNextVersion.g DNextVersion.F.kp DNextVersion.b .nil pass0 (pa_cons (pv 8) pa_nil)))
        (pss_cons (ps_if (PW.pt (pw_or (pt_not (pt_val (pe_call GLIsVersion (hr.mono (by decide)) rfl DLIsVersion.g DLIsVersion.F.kp DLIsVersion.b .nil pass0 (pa_cons (pv 10) pa_nil)))) (pw_or1 (PW.pt (pw_and (pt_cmpR op_lt (pe_ix ix_tup (pv 8) pe_int (fun _ _ => rfl)) pe_int (nomark _)) (pw_and1 (pt_not (pt_cmpR (op_ltT hr.units0) (pv 10) (pe_op op_catA (pe_slice sl_tupA (pv 8) po_none (po_some pe_int)) (pe_tup (pa_cons (pe_op op_add (pe_ix ix_tup (pv 8) pe_int (fun _ _ => rfl)) pe_int) (pa_cons pe_int pa_nil)))) (nomark _)))))))))
        (pss_one (ps_ret pe_bl))
        pss_nil)
        (pss_cons (ps_if (PW.pt (pw_and (pt_cmpR op_lt (pe_ix ix_tup (pv 8) pe_int (fun _ _ => rfl)) pe_int (nomark _)) (pw_and1 (pt_cmpR op_ne (pe_callB (call_reprD hgd hr.units) (by rfl) Z.repr (by decide +kernel) (pa_cons (pv 10) pa_nil)) (pe_callB (call_reprD hgd hr.units) (by rfl) Z.repr (by decide +kernel) (pa_cons (pe_op op_catA (pe_slice sl_tupA (pv 8) po_none (po_some pe_int)) (pe_tup (pa_cons (pe_op op_add (pe_ix ix_tup (pv 8) pe_int (fun _ _ => rfl)) pe_int) pa_nil))) pa_nil)) (nomark _)))))
        (pss_one (ps_ret pe_bl))
        pss_nil)
        (pss_cons (ps_if (PW.pt (pw_and (pt_cmpR op_eq (pe_ix ix_tup (pv 8) pe_int (fun _ _ => rfl)) pe_int (nomark _)) (pw_and1 (pt_cmpR op_ne (pe_callB (call_reprD hgd hr.units) (by rfl) Z.repr (by decide +kernel) (pa_cons (pv 10) pa_nil)) (pe_callB (call_reprD hgd hr.units) (by rfl) Z.repr (by decide +kernel) (pa_cons (pe_op op_catA (pe_slice sl_tupA (pv 8) po_none (po_some pe_int)) (pe_tup (pa_cons (pe_op op_add (pe_ix ix_tup (pv 8) pe_int (fun _ _ => rfl)) pe_int) (pa_cons pe_int (pa_cons pe_int pa_nil))))) pa_nil)) (nomark _)))))
        (pss_one (ps_ret pe_bl))
        pss_nil)
        (pss_one (ps_set (i := 8) scLaw.nd rfl (Or.inl rfl) (pv 10))))))))))))))
    (pss_one (ps_ret pe_bl))))))), ?_⟩
  refine ⟨_, rfl, a, ns, rfl, ha, hl, fun H1 d l s1 hd hlN D1 => ?_⟩
  refine ⟨_, rfl, d, l, 8, rfl, D1, by decide, fun H2 p xs k2 D2 hp e2 len2 hv2 => ?_⟩
  have npl : p ≠ l := D1.free hp
  refine ⟨_, rfl, ?_⟩
  refine ⟨by show 5 ≤ sizeLine; decide, fun t0 ht0 => ?_⟩
  generalize hGA0 : upd H2 t0 (.tup [.int 0, .int 0, .int 0, .int 0, .int 0]) = A0
  have kA0 : Kp d l H2 A0 := by rw [← hGA0]; exact Kp.new ht0
  have DA0 : Deck d l A0 := by rw [← hGA0]; exact D2.new ht0
  have eA0 : A0 t0 = some (.tup [.int 0, .int 0, .int 0, .int 0, .int 0]) := by rw [← hGA0]; exact upd_same
  clear hGA0
  refine ⟨by show 5 ≤ sizeLine; decide, fun t1 ht1 => ?_⟩
  generalize hGA1 : upd A0 t1 (.tup [.int 0, .int 0, .int 0, .int 0, .int 1]) = A1
  have kA1 : Kp d l A0 A1 := by rw [← hGA1]; exact Kp.new ht1
  have DA1 : Deck d l A1 := by rw [← hGA1]; exact DA0.new ht1
  have eA1 : A1 t1 = some (.tup [.int 0, .int 0, .int 0, .int 0, .int 1]) := by rw [← hGA1]; exact upd_same
  clear hGA1
  refine ⟨by show 5 ≤ sizeLine; decide, fun t2 ht2 => ?_⟩
  generalize hGA2 : upd A1 t2 (.tup [.int 0, .int 0, .int 0, .int 0, .int 2]) = A2
  have kA2 : Kp d l A1 A2 := by rw [← hGA2]; exact Kp.new ht2
  have DA2 : Deck d l A2 := by rw [← hGA2]; exact DA1.new ht2
  have eA2 : A2 t2 = some (.tup [.int 0, .int 0, .int 0, .int 0, .int 2]) := by rw [← hGA2]; exact upd_same
  clear hGA2
  refine ⟨by show 5 ≤ sizeLine; decide, fun t3 ht3 => ?_⟩
  generalize hGA3 : upd A2 t3 (.tup [.int 0, .int 0, .int 0, .int 3, .int 0]) = A3
  have kA3 : Kp d l A2 A3 := by rw [← hGA3]; exact Kp.new ht3
  have DA3 : Deck d l A3 := by rw [← hGA3]; exact DA2.new ht3
  have eA3 : A3 t3 = some (.tup [.int 0, .int 0, .int 0, .int 3, .int 0]) := by rw [← hGA3]; exact upd_same
  clear hGA3
  refine ⟨by show 4 ≤ sizeLine; decide, fun q hq => ?_⟩
  generalize hGHq : upd A3 q (.lst [.ref t0, .ref t1, .ref t2, .ref t3]) = Hq
  have kHq : Kp d l A3 Hq := by rw [← hGHq]; exact Kp.new hq
  have DHq : Deck d l Hq := by rw [← hGHq]; exact DA3.new hq
  have eHq : Hq q = some (.lst [.ref t0, .ref t1, .ref t2, .ref t3]) := by rw [← hGHq]; exact upd_same
  clear hGHq
  have kq : Kp d l H2 Hq := (((kA0.trans kA1).trans kA2).trans kA3).trans kHq
  have e2q := kq.lst D2 npl e2
  refine ⟨p, q, xs, _, rfl, rfl, e2q, eHq, by rw [len2]; show 8 + 4 ≤ sizeLine; decide, fun po hpo => ?_⟩
  have nplo : po ≠ l := DHq.free hpo
  generalize hGH5 : upd Hq po (.lst (xs ++ [.ref t0, .ref t1, .ref t2, .ref t3])) = H5
  have kH5 : Kp d l Hq H5 := by rw [← hGH5]; exact Kp.new hpo
  have DH5 : Deck d l H5 := by rw [← hGH5]; exact DHq.new hpo
  have eH5 : H5 po = some (.lst (xs ++ [.ref t0, .ref t1, .ref t2, .ref t3])) := by rw [← hGH5]; exact upd_same
  clear hGH5
  have z0 : VV 2000000000 H5 (.ref t0) := ⟨[0, 0, 0, 0, 0], ⟨t0, rfl, ((((kA1.trans kA2).trans kA3).trans kHq).trans kH5).tup DA0 eA0⟩, 0, 0, 0, 0, 0, rfl, by omega⟩
  have z1 : VV 2000000000 H5 (.ref t1) := ⟨[0, 0, 0, 0, 1], ⟨t1, rfl, (((kA2.trans kA3).trans kHq).trans kH5).tup DA1 eA1⟩, 0, 0, 0, 0, 1, rfl, by omega⟩
  have z2 : VV 2000000000 H5 (.ref t2) := ⟨[0, 0, 0, 0, 2], ⟨t2, rfl, ((kA3.trans kHq).trans kH5).tup DA2 eA2⟩, 0, 0, 0, 0, 2, rfl, by omega⟩
  have z3 : VV 2000000000 H5 (.ref t3) := ⟨[0, 0, 0, 3, 0], ⟨t3, rfl, (kHq.trans kH5).tup DA3 eA3⟩, 0, 0, 0, 3, 0, rfl, by omega⟩
  have hv5 : ∀ v ∈ xs ++ [V.ref t0, .ref t1, .ref t2, .ref t3], VV 2000000000 H5 v := by
    intro v hv
    rcases List.mem_append.mp hv with z | z
    · exact ((hv2 v z).kp (kq.trans kH5) D2).mono (by decide)
    · simp only [List.mem_cons, List.not_mem_nil, or_false] at z
      rcases z with rfl | rfl | rfl | rfl
      · exact z0
      · exact z1
      · exact z2
      · exact z3
  have hvq : ∀ v ∈ xs, VV 1000000008 Hq v := fun v z => (hv2 v z).kp kq D2
  have len5 : (xs ++ [V.ref t0, .ref t1, .ref t2, .ref t3]).length = 12 := by rw [List.length_append, len2]; rfl
  generalize hys : xs ++ [V.ref t0, .ref t1, .ref t2, .ref t3] = ys0 at hv5 len5 eH5
  have npp : p ≠ po := ne_of_none e2q hpo
  have e2s := kH5.lst DHq npl e2q
  clear z0 z1 z2 z3 hys eA0 eA1 eA2 eA3 eHq
  refine ⟨_, rfl, p, _, rfl, .inl (SqL.of e2s), fun c hc => ?_⟩
  have npc : po ≠ c := ne_of_none eH5 hc
  have ncl : c ≠ l := DH5.free hc
  generalize hGH6 : upd H5 c (.lst xs) = H6
  have kH6 : Kp d l H5 H6 := by rw [← hGH6]; exact Kp.new hc
  have DH6 : Deck d l H6 := by rw [← hGH6]; exact DH5.new hc
  have eH6 : H6 c = some (.lst xs) := by rw [← hGH6]; exact upd_same
  clear hGH6
  refine ⟨c, rfl, ⟨_, SqL.of eH6⟩, for_list (K := K) (a := c) (xs := xs) (fun i σ H' => ∃ (ys : List V) (v4 : Option V), σ = [some (.ref a), some (.ref d), some (.ref p), some (.ref po), v4, none, none, none, none, none, none] ∧ H' po = some (.lst ys) ∧ ys.length = 12 + 3 * i ∧ (∀ v ∈ ys, VV 2000000000 H' v) ∧ Kp d l Hq H' ∧ Deck d l H' ∧ H' c = some (.lst xs))
    ⟨ys0, none, rfl, kH6.lst DH5 nplo eH5, len5, fun v z => (hv5 v z).kp kH6 DH5, kH5.trans kH6, DH6, eH6⟩ (fun i σ H' _ ⟨_, _, _, _, _, _, _, _, s⟩ => SqL.of s) ?_ ?_⟩
  · rintro i y σ G hi ⟨ys, v4, rfl, e1, g2, g3, g4, g5, g6⟩
    have hi8 := (List.getElem?_eq_some_iff.mp hi).1
    obtain ⟨x, ⟨ay, rfl, hx⟩, hver⟩ := (hvq y (List.mem_of_getElem? hi)).kp g4 DHq
    refine ⟨_, rfl, .inl ⟨rfl, _, SqL.of e1⟩, _, rfl, ay, x, _, rfl, hx, hver, fun n1 hn1 => ?_⟩
    generalize hGG1 : upd G n1 (.tup ((nxt x).map V.int)) = G1
    have kG1 : Kp d l G G1 := by rw [← hGG1]; exact Kp.new hn1
    have DG1 : Deck d l G1 := by rw [← hGG1]; exact g5.new hn1
    have eG1 : G1 n1 = some (.tup ((nxt x).map V.int)) := by rw [← hGG1]; exact upd_same
    clear hGG1
    obtain ⟨z0, z1, z2, z3, z4, rfl, hz⟩ := id hver
    have hx1 := kG1.tup g5 hx
    refine ⟨_, rfl, 3, rfl, ay, _, rfl, SqT.of hx1, fun q => absurd q.2 (show ¬ HT.sIx 5 5 (some 3) = 5 by decide), fun _ s1 hs1 => ?_⟩
    generalize hGG2 : upd G1 s1 (.tup (cutV (([z0, z1, z2, z3, z4] : List Int).map V.int) none (some 3))) = G2
    have kG2 : Kp d l G1 G2 := by rw [← hGG2]; exact Kp.new hs1
    have DG2 : Deck d l G2 := by rw [← hGG2]; exact DG1.new hs1
    have eG2 : G2 s1 = some (.tup (cutV (([z0, z1, z2, z3, z4] : List Int).map V.int) none (some 3))) := by rw [← hGG2]; exact upd_same
    clear hGG2
    refine ⟨by show 2 ≤ sizeLine; decide, fun s2 hs2 => ?_⟩
    generalize hGG3 : upd G2 s2 (.tup [.int 3, .int 0]) = G3
    have kG3 : Kp d l G2 G3 := by rw [← hGG3]; exact Kp.new hs2
    have DG3 : Deck d l G3 := by rw [← hGG3]; exact DG2.new hs2
    have eG3 : G3 s2 = some (.tup [.int 3, .int 0]) := by rw [← hGG3]; exact upd_same
    clear hGG3
    refine ⟨s1, s2, _, _, rfl, rfl, SqT.of (kG3.tup DG2 eG2), SqT.of eG3, by show 3 + 2 ≤ sizeLine; decide, (fun q => nomatch q), (fun _ q => nomatch q), fun _ _ s3 hs3 => ?_⟩
    generalize hGG4 : upd G3 s3 (.tup (cutV (([z0, z1, z2, z3, z4] : List Int).map V.int) none (some 3) ++ [.int 3, .int 0])) = G4
    have kG4 : Kp d l G3 G4 := by rw [← hGG4]; exact Kp.new hs3
    have DG4 : Deck d l G4 := by rw [← hGG4]; exact DG3.new hs3
    have eG4 : G4 s3 = some (.tup (cutV (([z0, z1, z2, z3, z4] : List Int).map V.int) none (some 3) ++ [.int 3, .int 0])) := by rw [← hGG4]; exact upd_same
    clear hGG4
    have hx4 := ((kG2.trans kG3).trans kG4).tup DG1 hx1
    refine ⟨_, rfl, ay, _, _, _, rfl, rfl, SqT.of hx4, atI_nat (j := 0) rfl, _, rfl, ay, _, _, _, rfl, rfl, SqT.of hx4, atI_nat (j := 1) rfl, _, rfl, ay, _, _, _, rfl, rfl, SqT.of hx4, atI_nat (j := 2) rfl, _, _, rfl, rfl, by show 5 ≤ sizeLine; decide, fun s4 hs4 => ?_⟩
    generalize hGG5 : upd G4 s4 (.tup [.int z0, .int z1, .int (z2 + 1), .int 0, .int 0]) = G5
    have kG5 : Kp d l G4 G5 := by rw [← hGG5]; exact Kp.new hs4
    have DG5 : Deck d l G5 := by rw [← hGG5]; exact DG4.new hs4
    have eG5 : G5 s4 = some (.tup [.int z0, .int z1, .int (z2 + 1), .int 0, .int 0]) := by rw [← hGG5]; exact upd_same
    clear hGG5
    refine ⟨by show 3 ≤ sizeLine; decide, fun ex hex => ?_⟩
    generalize hGG6 : upd G5 ex (.lst [.ref n1, .ref s3, .ref s4]) = G6
    have kG6 : Kp d l G5 G6 := by rw [← hGG6]; exact Kp.new hex
    have DG6 : Deck d l G6 := by rw [← hGG6]; exact DG5.new hex
    have eG6 : G6 ex = some (.lst [.ref n1, .ref s3, .ref s4]) := by rw [← hGG6]; exact upd_same
    clear hGG6
    have kGG : Kp d l G G6 := ((((kG1.trans kG2).trans kG3).trans kG4).trans kG5).trans kG6
    refine ⟨po, ex, ys, _, rfl, rfl, kGG.lst g5 nplo e1, eG6, ?_, ?_⟩
    · rw [g2, show xs.length = 8 from len2] at *
      show 12 + 3 * i + 3 ≤ sizeLine
      have : sizeLine = 16777216 := by decide
      omega
    · have npo6 := kGG.lst g5 nplo e1
      refine ⟨_, _, rfl, upd_same, ?_, ?_, (g4.trans kGG).out hpo, DG6.mut (DG6.nedl npo6) nplo, ?_⟩
      · rw [List.length_append, g2]
        show 12 + 3 * i + 3 = 12 + 3 * (i + 1)
        omega
      · intro v hv
        refine VV.same ?_ (tup_mut npo6)
        rcases List.mem_append.mp hv with z | z
        · exact (g3 v z).kp kGG g5
        · simp only [List.mem_cons, List.not_mem_nil, or_false] at z
          rcases z with rfl | rfl | rfl
          · exact ⟨_, ⟨n1, rfl, (((((kG2.trans kG3).trans kG4).trans kG5).trans kG6)).tup DG1 eG1⟩, hver.nxt.mono (by decide)⟩
          · refine ⟨[z0, z1, z2, 3, 0], ⟨s3, rfl, (kG5.trans kG6).tup DG4 eG4⟩, z0, z1, z2, 3, 0, rfl, by omega⟩
          · refine ⟨[z0, z1, z2 + 1, 0, 0], ⟨s4, rfl, kG6.tup DG5 eG5⟩, z0, z1, z2 + 1, 0, 0, rfl, by omega⟩
      · rw [upd_ne npc.symm]
        exact kGG.lst g5 ncl g6
  · rintro σ G ⟨ys, v4, rfl, e1, g2, g3, g4, g5, g6⟩
    have e2G := g4.lst DHq npl e2q
    have hvG : ∀ v ∈ xs, VV 1000000008 G v := fun v z => (hvq v z).kp g4 DHq
    refine ⟨_, rfl, p, xs, rfl, SqL.of e2G, for_it (walk_enum (K := K) (a := p) (xs := xs)) (fun i σ G' => ∃ (v4 v5 v6 v8 v9 v10 : Option V), σ = [some (.ref a), some (.ref d), some (.ref p), some (.ref po), v4, v5, v6, none, v8, v9, v10] ∧ Same G G')
      ⟨v4, none, none, none, none, none, rfl, Same.refl _⟩ (fun i σ G' _ ⟨_, _, _, _, _, _, _, s⟩ => SqL.of (s _ _ e2G)) ?_ ?_⟩
    · rintro i _ σ G0 _ hi ⟨v4, v5, v6, v8, v9, v10, rfl, sG0⟩ ⟨T, x1, y1, rfl, hT, rfl, h1, h2⟩
      obtain rfl : V.int (i : Nat) = x1 := Option.some.inj h1
      obtain ⟨x, ⟨ay, rfl, hx⟩, hver⟩ := hvG y1 (List.mem_of_getElem? h2)
      refine ⟨T, _, rfl, SqT.of upd_same, rfl, _, _, rfl, _, _, rfl, rfl, ?_⟩
      have sG1 := sG0.trans (Same.new (o := .tup [.int (i : Nat), .ref ay]) hT)
      generalize upd G0 T (.tup [.int (i : Nat), .ref ay]) = G1 at sG1
      have hx1 := sG1 _ _ hx
      have vn := hver.nxt
      refine ⟨fun σ' G' => ∃ (t : Addr), σ' = [some (.ref a), some (.ref d), some (.ref p), some (.ref po), some (.ref ay), some (.int (i : Nat)), some (.ref t), none, v8, v9, v10] ∧ G' t = some (.tup ((nxt x).map V.int)) ∧ Same G G', ?_, ?_⟩
      · refine ⟨_, rfl, .inl ⟨_, rfl, _, _, rfl, rfl, (by show (0 : Int) < 2; decide), rfl, _, rfl, ?_⟩⟩
        refine ite2 (fun _ => ?_) (fun _ => ?_)
        · exact ⟨_, rfl, ay, x, _, rfl, hx1, hver, fun G2 t s2 ht et => ⟨t, rfl, et, sG1.trans s2⟩⟩
        · exact ⟨_, rfl, ay, x, _, rfl, hx1, hver, fun G2 t s2 ht et => ⟨t, rfl, et, sG1.trans s2⟩⟩
      rintro σ' G2 ⟨t, rfl, et, s2⟩
      refine ⟨_, rfl, t, nxt x, _, rfl, et, vn, fun G3 s3 => ⟨true, rfl, iteF ?_⟩⟩
      have sG3 := s2.trans s3
      refine ⟨_, rfl, _, rfl, ay, t, x, nxt x, rfl, rfl, SqT.of (sG3 _ _ hx), SqT.of (s3 _ _ et), _, rfl, ?_⟩
      rw [lx_nxt hver]
      refine iteF ?_
      refine ⟨_, rfl, po, rfl, ⟨ys, SqL.of (sG3 _ _ e1)⟩, fun L hL => lc_list (K := K) (a := po) (xs := ys) (fun j G' => G' L = some (.lst []) ∧ Same G3 G') ⟨upd_same, Same.new hL⟩ (fun j G' _ ⟨_, s⟩ => SqL.of (s _ _ (sG3 _ _ e1))) ?_ ?_⟩
      · rintro j y G4 hj ⟨eL, s4⟩
        obtain ⟨y', ⟨aj, rfl, hy⟩, hvy⟩ := g3 y (List.mem_of_getElem? hj)
        have sG4 := sG3.trans s4
        refine ⟨rfl, ?_⟩
        refine ⟨_, rfl, _, rfl, ay, aj, x, y', rfl, rfl, SqT.of (sG4 _ _ hx), SqT.of (sG4 _ _ hy), _, rfl, ?_⟩
        cases q : HT.lexLt x y' with
        | false => exact iteF ⟨false, rfl, eL, s4⟩
        | true =>
          refine iteT ?_
          refine ⟨_, rfl, aj, t, y', nxt x, rfl, rfl, SqT.of (sG4 _ _ hy), SqT.of (s4 _ _ (s3 _ _ et)), _, rfl, ?_⟩
          rw [lx_gap hver hvy q]
          exact ⟨eL, s4⟩
      rintro G4 ⟨eL, s4⟩
      refine ⟨Nat.zero_le _, fun q hq => ?_⟩
      have s5 := (sG3.trans s4).trans (Same.new (o := .lst []) hq)
      have et5 := Same.new (o := .lst []) hq _ _ (s4 _ _ (s3 _ _ et))
      refine ⟨.list [], .list [], .lst (SqL.of (Same.new hq _ _ eL)) .nil, .lst (SqL.of upd_same) .nil, by decide, by decide, _, rfl, iteF ?_⟩
      generalize upd G4 q (.lst []) = G5 at s5 et5
      clear s4 s3 sG3 s2 et hx1 sG1 sG0 eL
      -- repr
      have rn := rp_ver vn (show (1000000008 + 1 : Int) < 9999999999999 by decide)
      refine ⟨_, rfl, _, _, rfl, (IV.tup et5).dp, rn.1, rn.2.1, rn.2.2.1, rn.2.2.2, _, rfl, ay, x, _, rfl, s5 _ _ hx, hver, fun n hn => ?_⟩
      have s6 := s5.trans (Same.new (o := .tup ((nxt x).map V.int)) hn)
      have en : upd G5 n (.tup ((nxt x).map V.int)) n = some (.tup ((nxt x).map V.int)) := upd_same
      have et6 := Same.new (o := .tup ((nxt x).map V.int)) hn _ _ et5
      generalize upd G5 n (.tup ((nxt x).map V.int)) = G6 at s6 en et6
      refine ⟨_, _, rfl, (IV.tup en).dp, rn.1, rn.2.1, rn.2.2.1, rn.2.2.2, rfl, _, rfl, notTT rfl ?_⟩
      refine ⟨_, rfl, t, nxt x, _, rfl, et6, vn, fun G7 s7 => ⟨_, _, rfl, rfl, _, rfl, iteF ?_⟩⟩
      refine ⟨_, rfl, t, nxt x, _, rfl, s7 _ _ et6, vn, fun G8 s8 => ?_⟩
      have ee : (!decide ((nxt x)[3]? = some 3)) = true := by rw [decide_eq_false (nxt_early hver)]; rfl
      rw [ee]
      refine ⟨_, _, rfl, rfl, _, rfl, iteF ?_⟩
      refine ⟨_, rfl, ?_⟩
      have sG8 := (s6.trans s7).trans s8
      refine ⟨6, rfl, by decide, by decide, for_range (lo := 0) (n := 6) (fun j σ G' => ∃ (na : Addr) (xn : List Int) (v9 v10 : Option V), σ = [some (.ref a), some (.ref d), some (.ref p), some (.ref po), some (.ref ay), some (.int (i : Nat)), some (.ref t), none, some (.ref na), v9, v10] ∧ G' na = some (.tup (xn.map V.int)) ∧ Ver (2000000000 + (j : Int)) xn ∧ Same G G')
        ⟨ay, x, v9, v10, rfl, sG8 _ _ hx, hver.mono (by decide), sG8⟩ ?_ ?_⟩
      · rintro j σ G9 hj ⟨na, xn, v9, v10, rfl, hn, hvn, s9⟩
        refine ⟨_, rfl, na, xn, _, rfl, hn, hvn, fun K1 u sk hu eu => ?_⟩
        have vu := hvn.nxt
        have hn1 := sk _ _ hn
        have fin : ∀ (G' : Hp), Same K1 G' → ∃ (na : Addr) (xn : List Int) (v9 v10 : Option V), [some (V.ref a), some (.ref d), some (.ref p), some (.ref po), some (.ref ay), some (.int (i : Nat)), some (.ref t), none, some (.ref u), some (.int (0 + (j : Int))), some (.ref u)] = [some (.ref a), some (.ref d), some (.ref p), some (.ref po), some (.ref ay), some (.int (i : Nat)), some (.ref t), none, some (.ref na), v9, v10] ∧ G' na = some (.tup (xn.map V.int)) ∧ Ver (2000000000 + ((j + 1 : Nat) : Int)) xn ∧ Same G G' :=
          fun G' s => ⟨u, nxt xn, _, _, rfl, s _ _ eu, vu.mono (by omega), (s9.trans sk).trans s⟩
        clear hn hx s9
        obtain ⟨z0, z1, z2, z3, z4, rfl, hz⟩ := id hvn
        have rn := rp_ver vu (show (2000000000 + (j : Int) + 1 : Int) < 9999999999999 by omega)
        -- the first test
        refine ⟨_, rfl, u, _, _, rfl, eu, vu, fun K2 s2 => ⟨true, rfl, iteF ?_⟩⟩
        have hn2 := s2 _ _ hn1
        have eu2 := s2 _ _ eu
        refine ⟨_, rfl, na, _, _, _, rfl, rfl, SqT.of hn2, atI_nat (j := 3) rfl, _, _, rfl, rfl, _, rfl, ?_⟩
        by_cases hk : z3 < 3
        · rw [decide_eq_true hk]
          refine iteT ?_
          refine ⟨_, rfl, _, rfl, 3, rfl, na, _, rfl, SqT.of hn2, fun q => absurd q.2 (show ¬ HT.sIx 5 5 (some 3) = 5 by decide), fun _ q1 hq1 => ?_⟩
          have sK3 : Same K2 (upd K2 q1 (.tup (cutV (([z0, z1, z2, z3, z4] : List Int).map V.int) none (some 3)))) := Same.new hq1
          have eK3 : upd K2 q1 (.tup (cutV (([z0, z1, z2, z3, z4] : List Int).map V.int) none (some 3))) q1 = some (.tup (cutV (([z0, z1, z2, z3, z4] : List Int).map V.int) none (some 3))) := upd_same
          generalize upd K2 q1 (.tup (cutV (([z0, z1, z2, z3, z4] : List Int).map V.int) none (some 3))) = K3 at sK3 eK3
          refine ⟨_, rfl, na, _, _, _, rfl, rfl, SqT.of (sK3 _ _ hn2), atI_nat (j := 3) rfl, _, _, rfl, rfl, by show 2 ≤ sizeLine; decide, fun q2 hq2 => ?_⟩
          have sK4 : Same K3 (upd K3 q2 (.tup [.int (z3 + 1), .int 0])) := Same.new hq2
          have eK4 : upd K3 q2 (.tup [.int (z3 + 1), .int 0]) q2 = some (.tup [.int (z3 + 1), .int 0]) := upd_same
          generalize upd K3 q2 (.tup [.int (z3 + 1), .int 0]) = K4 at sK4 eK4
          refine ⟨q1, q2, _, _, rfl, rfl, SqT.of (sK4 _ _ eK3), SqT.of eK4, by show 3 + 2 ≤ sizeLine; decide, (fun q => nomatch q), (fun _ q => nomatch q), fun _ _ q3 hq3 => ?_⟩
          have sK5 : Same K4 (upd K4 q3 (.tup (cutV (([z0, z1, z2, z3, z4] : List Int).map V.int) none (some 3) ++ [.int (z3 + 1), .int 0]))) := Same.new hq3
          have eK5 : upd K4 q3 (.tup (cutV (([z0, z1, z2, z3, z4] : List Int).map V.int) none (some 3) ++ [.int (z3 + 1), .int 0])) q3 = some (.tup (cutV (([z0, z1, z2, z3, z4] : List Int).map V.int) none (some 3) ++ [.int (z3 + 1), .int 0])) := upd_same
          generalize upd K4 q3 (.tup (cutV (([z0, z1, z2, z3, z4] : List Int).map V.int) none (some 3) ++ [.int (z3 + 1), .int 0])) = K5 at sK5 eK5
          have s5 := (sK3.trans sK4).trans sK5
          refine ⟨u, q3, nxt [z0, z1, z2, z3, z4], [z0, z1, z2, z3 + 1, 0], rfl, rfl, SqT.of (s5 _ _ eu2), SqT.of eK5, _, rfl, ?_⟩
          rw [lx_up (B := 0) hk]
          refine iteF ?_
          -- repr of the next one within the sort
          have hn5 := s5 _ _ hn2
          have eu5 := s5 _ _ eu2
          have eq : nxt [z0, z1, z2, z3, z4] = [z0, z1, z2, z3, z4 + 1] := if_pos hk
          refine ⟨_, rfl, na, _, _, _, rfl, rfl, SqT.of hn5, atI_nat (j := 3) rfl, _, _, rfl, rfl, _, rfl, ?_⟩
          rw [decide_eq_true hk]
          refine iteT ?_
          refine ⟨_, rfl, _, _, rfl, (IV.tup eu5).dp, rn.1, rn.2.1, rn.2.2.1, rn.2.2.2, _, rfl, 4, rfl, na, _, rfl, SqT.of hn5, fun q => absurd q.2 (show ¬ HT.sIx 5 5 (some 4) = 5 by decide), fun _ q4 hq4 => ?_⟩
          have sK6 : Same K5 (upd K5 q4 (.tup (cutV (([z0, z1, z2, z3, z4] : List Int).map V.int) none (some 4)))) := Same.new hq4
          have eK6 : upd K5 q4 (.tup (cutV (([z0, z1, z2, z3, z4] : List Int).map V.int) none (some 4))) q4 = some (.tup (cutV (([z0, z1, z2, z3, z4] : List Int).map V.int) none (some 4))) := upd_same
          generalize upd K5 q4 (.tup (cutV (([z0, z1, z2, z3, z4] : List Int).map V.int) none (some 4))) = K6 at sK6 eK6
          refine ⟨_, rfl, na, _, _, _, rfl, rfl, SqT.of (sK6 _ _ hn5), atI_nat (j := 4) rfl, _, _, rfl, rfl, by show 1 ≤ sizeLine; decide, fun q5 hq5 => ?_⟩
          have sK7 : Same K6 (upd K6 q5 (.tup [.int (z4 + 1)])) := Same.new hq5
          have eK7 : upd K6 q5 (.tup [.int (z4 + 1)]) q5 = some (.tup [.int (z4 + 1)]) := upd_same
          generalize upd K6 q5 (.tup [.int (z4 + 1)]) = K7 at sK7 eK7
          refine ⟨q4, q5, _, _, rfl, rfl, SqT.of (sK7 _ _ eK6), SqT.of eK7, by show 4 + 1 ≤ sizeLine; decide, (fun q => nomatch q), (fun _ q => nomatch q), fun _ _ q6 hq6 => ?_⟩
          have sK8 : Same K7 (upd K7 q6 (.tup (cutV (([z0, z1, z2, z3, z4] : List Int).map V.int) none (some 4) ++ [.int (z4 + 1)]))) := Same.new hq6
          have eK8 : upd K7 q6 (.tup (cutV (([z0, z1, z2, z3, z4] : List Int).map V.int) none (some 4) ++ [.int (z4 + 1)])) q6 = some (.tup (cutV (([z0, z1, z2, z3, z4] : List Int).map V.int) none (some 4) ++ [.int (z4 + 1)])) := upd_same
          generalize upd K7 q6 (.tup (cutV (([z0, z1, z2, z3, z4] : List Int).map V.int) none (some 4) ++ [.int (z4 + 1)])) = K8 at sK8 eK8
          have e8 : K8 q6 = some (.tup ((nxt [z0, z1, z2, z3, z4]).map V.int)) := by rw [eq]; exact eK8
          refine ⟨_, _, rfl, (IV.tup e8).dp, rn.1, rn.2.1, rn.2.2.1, rn.2.2.2, rfl, _, rfl, notTT rfl ?_⟩
          have s8 := (((s5.trans sK6).trans sK7).trans sK8)
          refine ⟨_, rfl, na, _, _, _, rfl, rfl, SqT.of (s8 _ _ hn2), atI_nat (j := 3) rfl, rfl, _, rfl, ?_⟩
          have ne3 : ¬ (V.int z3 = V.int 3) := fun q => by
            have := V.int.inj q
            omega
          rw [decide_eq_false ne3]
          refine iteF (iteF ?_)
          exact ⟨_, rfl, fin _ (s2.trans s8)⟩
        · rw [decide_eq_false hk]
          refine iteF (iteF ?_)
          have e3 : z3 = 3 := by omega
          subst e3
          refine ⟨_, rfl, na, _, _, _, rfl, rfl, SqT.of hn2, atI_nat (j := 3) rfl, _, _, rfl, rfl, _, rfl, iteF (iteF ?_)⟩
          refine ⟨_, rfl, na, _, _, _, rfl, rfl, SqT.of hn2, atI_nat (j := 3) rfl, rfl, _, rfl, iteT ?_⟩
          have eq : nxt [z0, z1, z2, 3, z4] = [z0, z1, z2 + 1, 0, 0] := rfl
          refine ⟨_, rfl, _, _, rfl, (IV.tup eu2).dp, rn.1, rn.2.1, rn.2.2.1, rn.2.2.2, _, rfl, 2, rfl, na, _, rfl, SqT.of hn2, fun q => absurd q.2 (show ¬ HT.sIx 5 5 (some 2) = 5 by decide), fun _ q4 hq4 => ?_⟩
          have sK6 : Same K2 (upd K2 q4 (.tup (cutV (([z0, z1, z2, 3, z4] : List Int).map V.int) none (some 2)))) := Same.new hq4
          have eK6 : upd K2 q4 (.tup (cutV (([z0, z1, z2, 3, z4] : List Int).map V.int) none (some 2))) q4 = some (.tup (cutV (([z0, z1, z2, 3, z4] : List Int).map V.int) none (some 2))) := upd_same
          generalize upd K2 q4 (.tup (cutV (([z0, z1, z2, 3, z4] : List Int).map V.int) none (some 2))) = K6 at sK6 eK6
          refine ⟨_, rfl, na, _, _, _, rfl, rfl, SqT.of (sK6 _ _ hn2), atI_nat (j := 2) rfl, _, _, rfl, rfl, by show 3 ≤ sizeLine; decide, fun q5 hq5 => ?_⟩
          have sK7 : Same K6 (upd K6 q5 (.tup [.int (z2 + 1), .int 0, .int 0])) := Same.new hq5
          have eK7 : upd K6 q5 (.tup [.int (z2 + 1), .int 0, .int 0]) q5 = some (.tup [.int (z2 + 1), .int 0, .int 0]) := upd_same
          generalize upd K6 q5 (.tup [.int (z2 + 1), .int 0, .int 0]) = K7 at sK7 eK7
          refine ⟨q4, q5, _, _, rfl, rfl, SqT.of (sK7 _ _ eK6), SqT.of eK7, by show 2 + 3 ≤ sizeLine; decide, (fun q => nomatch q), (fun _ q => nomatch q), fun _ _ q6 hq6 => ?_⟩
          have sK8 : Same K7 (upd K7 q6 (.tup (cutV (([z0, z1, z2, 3, z4] : List Int).map V.int) none (some 2) ++ [.int (z2 + 1), .int 0, .int 0]))) := Same.new hq6
          have eK8 : upd K7 q6 (.tup (cutV (([z0, z1, z2, 3, z4] : List Int).map V.int) none (some 2) ++ [.int (z2 + 1), .int 0, .int 0])) q6 = some (.tup (cutV (([z0, z1, z2, 3, z4] : List Int).map V.int) none (some 2) ++ [.int (z2 + 1), .int 0, .int 0])) := upd_same
          generalize upd K7 q6 (.tup (cutV (([z0, z1, z2, 3, z4] : List Int).map V.int) none (some 2) ++ [.int (z2 + 1), .int 0, .int 0])) = K8 at sK8 eK8
          have e8 : K8 q6 = some (.tup ((nxt [z0, z1, z2, 3, z4]).map V.int)) := by rw [eq]; exact eK8
          refine ⟨_, _, rfl, (IV.tup e8).dp, rn.1, rn.2.1, rn.2.2.1, rn.2.2.2, rfl, _, rfl, notTT rfl ?_⟩
          exact ⟨_, rfl, fin _ ((s2.trans sK6).trans (sK7.trans sK8))⟩
      · rintro σ G9 ⟨na, xn, v9, v10, rfl, hn, hvn, s9⟩
        exact ⟨_, _, _, _, _, _, rfl, s9⟩
    · rintro σ G9 ⟨v4, v5, v6, v8, v9, v10, rfl, s9⟩
      exact k _
end


end Zj
namespace Zj
open PySem L2
theorem all_mk {l : PySem.W.OpenLaw} {w : World} {K : PySem.W.Frag} {h : Heap} {mg : Str → Option Value} {fa : Addr} (X : K.In h) (G : h.Ns mainGlobals mg) (hfa : mg "law" = some (.ref fa))
    {fLDeck : Addr} {odLDeck anLDeck : Option Addr} {slLDeck : Array (Option Value)} {ocLDeck kVLDeck dcLDeck pmLDeck cdLDeck ctLDeck : Value}
    (aLDeck : PySem.W.nsIn K mainGlobals "_law_deck" = some (some (.ref fLDeck))) (lLDeck : K.lookup fLDeck = some ⟨ocLDeck, odLDeck, .func (PySem.W.fnOf "_law_deck" "_law_deck" (defArgs sLDeck) (defBody sLDeck) (defScope sLDeck) .none kVLDeck dcLDeck pmLDeck anLDeck cdLDeck ctLDeck), slLDeck⟩) (cLDeck : PySem.W.codeIn K cdLDeck "_law_deck" = true) (kLDeck : PySem.W.keepIn K (.ref fLDeck) = true)
    {fLIsCount : Addr} {odLIsCount anLIsCount : Option Addr} {slLIsCount : Array (Option Value)} {ocLIsCount kVLIsCount dcLIsCount pmLIsCount cdLIsCount ctLIsCount : Value}
    (aLIsCount : PySem.W.nsIn K mainGlobals "_law_is_count" = some (some (.ref fLIsCount))) (lLIsCount : K.lookup fLIsCount = some ⟨ocLIsCount, odLIsCount, .func (PySem.W.fnOf "_law_is_count" "_law_is_count" (defArgs sLIsCount) (defBody sLIsCount) (defScope sLIsCount) .none kVLIsCount dcLIsCount pmLIsCount anLIsCount cdLIsCount ctLIsCount), slLIsCount⟩) (cLIsCount : PySem.W.codeIn K cdLIsCount "_law_is_count" = true) (kLIsCount : PySem.W.keepIn K (.ref fLIsCount) = true)
    {fLIsVersion : Addr} {odLIsVersion anLIsVersion : Option Addr} {slLIsVersion : Array (Option Value)} {ocLIsVersion kVLIsVersion dcLIsVersion pmLIsVersion cdLIsVersion ctLIsVersion : Value}
    (aLIsVersion : PySem.W.nsIn K mainGlobals "_law_is_version" = some (some (.ref fLIsVersion))) (lLIsVersion : K.lookup fLIsVersion = some ⟨ocLIsVersion, odLIsVersion, .func (PySem.W.fnOf "_law_is_version" "_law_is_version" (defArgs sLIsVersion) (defBody sLIsVersion) (defScope sLIsVersion) .none kVLIsVersion dcLIsVersion pmLIsVersion anLIsVersion cdLIsVersion ctLIsVersion), slLIsVersion⟩) (cLIsVersion : PySem.W.codeIn K cdLIsVersion "_law_is_version" = true) (kLIsVersion : PySem.W.keepIn K (.ref fLIsVersion) = true)
    {fLNext : Addr} {odLNext anLNext : Option Addr} {slLNext : Array (Option Value)} {ocLNext kVLNext dcLNext pmLNext cdLNext ctLNext : Value}
    (aLNext : PySem.W.nsIn K mainGlobals "_law_next" = some (some (.ref fLNext))) (lLNext : K.lookup fLNext = some ⟨ocLNext, odLNext, .func (PySem.W.fnOf "_law_next" "_law_next" (defArgs sLNext) (defBody sLNext) (defScope sLNext) .none kVLNext dcLNext pmLNext anLNext cdLNext ctLNext), slLNext⟩) (cLNext : PySem.W.codeIn K cdLNext "_law_next" = true) (kLNext : PySem.W.keepIn K (.ref fLNext) = true)
    {fLDraw : Addr} {odLDraw anLDraw : Option Addr} {slLDraw : Array (Option Value)} {ocLDraw kVLDraw dcLDraw pmLDraw cdLDraw ctLDraw : Value}
    (aLDraw : PySem.W.nsIn K mainGlobals "_law_draw" = some (some (.ref fLDraw))) (lLDraw : K.lookup fLDraw = some ⟨ocLDraw, odLDraw, .func (PySem.W.fnOf "_law_draw" "_law_draw" (defArgs sLDraw) (defBody sLDraw) (defScope sLDraw) .none kVLDraw dcLDraw pmLDraw anLDraw cdLDraw ctLDraw), slLDraw⟩) (cLDraw : PySem.W.codeIn K cdLDraw "_law_draw" = true) (kLDraw : PySem.W.keepIn K (.ref fLDraw) = true)
    {fLPick : Addr} {odLPick anLPick : Option Addr} {slLPick : Array (Option Value)} {ocLPick kVLPick dcLPick pmLPick cdLPick ctLPick : Value}
    (aLPick : PySem.W.nsIn K mainGlobals "_law_pick" = some (some (.ref fLPick))) (lLPick : K.lookup fLPick = some ⟨ocLPick, odLPick, .func (PySem.W.fnOf "_law_pick" "_law_pick" (defArgs sLPick) (defBody sLPick) (defScope sLPick) .none kVLPick dcLPick pmLPick anLPick cdLPick ctLPick), slLPick⟩) (cLPick : PySem.W.codeIn K cdLPick "_law_pick" = true) (kLPick : PySem.W.keepIn K (.ref fLPick) = true)
    {fLNumber : Addr} {odLNumber anLNumber : Option Addr} {slLNumber : Array (Option Value)} {ocLNumber kVLNumber dcLNumber pmLNumber cdLNumber ctLNumber : Value}
    (aLNumber : PySem.W.nsIn K mainGlobals "_law_number" = some (some (.ref fLNumber))) (lLNumber : K.lookup fLNumber = some ⟨ocLNumber, odLNumber, .func (PySem.W.fnOf "_law_number" "_law_number" (defArgs sLNumber) (defBody sLNumber) (defScope sLNumber) .none kVLNumber dcLNumber pmLNumber anLNumber cdLNumber ctLNumber), slLNumber⟩) (cLNumber : PySem.W.codeIn K cdLNumber "_law_number" = true) (kLNumber : PySem.W.keepIn K (.ref fLNumber) = true)
    {fLVersion : Addr} {odLVersion anLVersion : Option Addr} {slLVersion : Array (Option Value)} {ocLVersion kVLVersion dcLVersion pmLVersion cdLVersion ctLVersion : Value}
    (aLVersion : PySem.W.nsIn K mainGlobals "_law_version" = some (some (.ref fLVersion))) (lLVersion : K.lookup fLVersion = some ⟨ocLVersion, odLVersion, .func (PySem.W.fnOf "_law_version" "_law_version" (defArgs sLVersion) (defBody sLVersion) (defScope sLVersion) .none kVLVersion dcLVersion pmLVersion anLVersion cdLVersion ctLVersion), slLVersion⟩) (cLVersion : PySem.W.codeIn K cdLVersion "_law_version" = true) (kLVersion : PySem.W.keepIn K (.ref fLVersion) = true)
    {fLVersions : Addr} {odLVersions anLVersions : Option Addr} {slLVersions : Array (Option Value)} {ocLVersions kVLVersions dcLVersions pmLVersions cdLVersions ctLVersions : Value}
    (aLVersions : PySem.W.nsIn K mainGlobals "_law_versions" = some (some (.ref fLVersions))) (lLVersions : K.lookup fLVersions = some ⟨ocLVersions, odLVersions, .func (PySem.W.fnOf "_law_versions" "_law_versions" (defArgs sLVersions) (defBody sLVersions) (defScope sLVersions) .none kVLVersions dcLVersions pmLVersions anLVersions cdLVersions ctLVersions), slLVersions⟩) (cLVersions : PySem.W.codeIn K cdLVersions "_law_versions" = true) (kLVersions : PySem.W.keepIn K (.ref fLVersions) = true)
    {fIsInteger : Addr} {odIsInteger anIsInteger : Option Addr} {slIsInteger : Array (Option Value)} {ocIsInteger kVIsInteger dcIsInteger pmIsInteger cdIsInteger ctIsInteger : Value}
    (aIsInteger : PySem.W.nsIn K mainGlobals "is_integer" = some (some (.ref fIsInteger))) (lIsInteger : K.lookup fIsInteger = some ⟨ocIsInteger, odIsInteger, .func (PySem.W.fnOf "is_integer" "is_integer" (defArgs sIsInteger) (defBody sIsInteger) (defScope sIsInteger) .none kVIsInteger dcIsInteger pmIsInteger anIsInteger cdIsInteger ctIsInteger), slIsInteger⟩) (cIsInteger : PySem.W.codeIn K cdIsInteger "is_integer" = true) (kIsInteger : PySem.W.keepIn K (.ref fIsInteger) = true)
    {fIsVersion : Addr} {odIsVersion anIsVersion : Option Addr} {slIsVersion : Array (Option Value)} {ocIsVersion kVIsVersion dcIsVersion pmIsVersion cdIsVersion ctIsVersion : Value}
    (aIsVersion : PySem.W.nsIn K mainGlobals "is_version" = some (some (.ref fIsVersion))) (lIsVersion : K.lookup fIsVersion = some ⟨ocIsVersion, odIsVersion, .func (PySem.W.fnOf "is_version" "is_version" (defArgs sIsVersion) (defBody sIsVersion) (defScope sIsVersion) .none kVIsVersion dcIsVersion pmIsVersion anIsVersion cdIsVersion ctIsVersion), slIsVersion⟩) (cIsVersion : PySem.W.codeIn K cdIsVersion "is_version" = true) (kIsVersion : PySem.W.keepIn K (.ref fIsVersion) = true)
    {fCheckVersion : Addr} {odCheckVersion anCheckVersion : Option Addr} {slCheckVersion : Array (Option Value)} {ocCheckVersion kVCheckVersion dcCheckVersion pmCheckVersion cdCheckVersion ctCheckVersion : Value}
    (aCheckVersion : PySem.W.nsIn K mainGlobals "check_version" = some (some (.ref fCheckVersion))) (lCheckVersion : K.lookup fCheckVersion = some ⟨ocCheckVersion, odCheckVersion, .func (PySem.W.fnOf "check_version" "check_version" (defArgs sCheckVersion) (defBody sCheckVersion) (defScope sCheckVersion) .none kVCheckVersion dcCheckVersion pmCheckVersion anCheckVersion cdCheckVersion ctCheckVersion), slCheckVersion⟩) (cCheckVersion : PySem.W.codeIn K cdCheckVersion "check_version" = true) (kCheckVersion : PySem.W.keepIn K (.ref fCheckVersion) = true)
    {fIsEarly : Addr} {odIsEarly anIsEarly : Option Addr} {slIsEarly : Array (Option Value)} {ocIsEarly kVIsEarly dcIsEarly pmIsEarly cdIsEarly ctIsEarly : Value}
    (aIsEarly : PySem.W.nsIn K mainGlobals "is_early" = some (some (.ref fIsEarly))) (lIsEarly : K.lookup fIsEarly = some ⟨ocIsEarly, odIsEarly, .func (PySem.W.fnOf "is_early" "is_early" (defArgs sIsEarly) (defBody sIsEarly) (defScope sIsEarly) .none kVIsEarly dcIsEarly pmIsEarly anIsEarly cdIsEarly ctIsEarly), slIsEarly⟩) (cIsEarly : PySem.W.codeIn K cdIsEarly "is_early" = true) (kIsEarly : PySem.W.keepIn K (.ref fIsEarly) = true)
    {fNextVersion : Addr} {odNextVersion anNextVersion : Option Addr} {slNextVersion : Array (Option Value)} {ocNextVersion kVNextVersion dcNextVersion pmNextVersion cdNextVersion ctNextVersion : Value}
    (aNextVersion : PySem.W.nsIn K mainGlobals "next_version" = some (some (.ref fNextVersion))) (lNextVersion : K.lookup fNextVersion = some ⟨ocNextVersion, odNextVersion, .func (PySem.W.fnOf "next_version" "next_version" (defArgs sNextVersion) (defBody sNextVersion) (defScope sNextVersion) .none kVNextVersion dcNextVersion pmNextVersion anNextVersion cdNextVersion ctNextVersion), slNextVersion⟩) (cNextVersion : PySem.W.codeIn K cdNextVersion "next_version" = true) (kNextVersion : PySem.W.keepIn K (.ref fNextVersion) = true)
    {fLaw : Addr} {odLaw anLaw : Option Addr} {slLaw : Array (Option Value)} {ocLaw kVLaw dcLaw pmLaw cdLaw ctLaw : Value}
    (aLaw : PySem.W.nsIn K mainGlobals "law" = some (some (.ref fLaw))) (lLaw : K.lookup fLaw = some ⟨ocLaw, odLaw, .func (PySem.W.fnOf "law" "law" (defArgs sLaw) (defBody sLaw) (defScope sLaw) .none kVLaw dcLaw pmLaw anLaw cdLaw ctLaw), slLaw⟩) (cLaw : PySem.W.codeIn K cdLaw "law" = true) (kLaw : PySem.W.keepIn K (.ref fLaw) = true)
    (zisinstance : PySem.W.nsIn K mainGlobals "isinstance" = some none)
    (ztuple : PySem.W.nsIn K mainGlobals "tuple" = some none)
    (zbool : PySem.W.nsIn K mainGlobals "bool" = some none)
    (zall : PySem.W.nsIn K mainGlobals "all" = some none)
    (zlist : PySem.W.nsIn K mainGlobals "list" = some none)
    (zrepr : PySem.W.nsIn K mainGlobals "repr" = some none)
    (zenumerate : PySem.W.nsIn K mainGlobals "enumerate" = some none)
    (zint : PySem.W.nsIn K mainGlobals "int" = some none)
    (zmax : PySem.W.nsIn K mainGlobals "max" = some none)
    (zlen : PySem.W.nsIn K mainGlobals "len" = some none)
    (zrange : PySem.W.nsIn K mainGlobals "range" = some none)
    {tWHOLE : Tok} (zWHOLE : PySem.W.nsIn K mainGlobals "WHOLE" = some (some (.int 3 tWHOLE))) :
    ∃ fd : FuncData, (∀ (s : Shared) (v : Value), BindsTo s fd ⟨[v], []⟩ [("_law_script", v)]) ∧ ∀ base : Heap, K.In base → base.Ns mainGlobals mg → FnG l.prog w K mg base 6 fa fd ["_law_script"] (spLaw K) := by
  have e := hfa.symm.trans (PySem.W.mg_of X G aLaw)
  cases e
  have Z : Blt mg := { isinstance := PySem.W.mg_none_of X G zisinstance, tuple := PySem.W.mg_none_of X G ztuple, bool := PySem.W.mg_none_of X G zbool, all := PySem.W.mg_none_of X G zall, list := PySem.W.mg_none_of X G zlist, repr := PySem.W.mg_none_of X G zrepr, enumerate := PySem.W.mg_none_of X G zenumerate, int := PySem.W.mg_none_of X G zint, max := PySem.W.mg_none_of X G zmax, len := PySem.W.mg_none_of X G zlen, range := PySem.W.mg_none_of X G zrange, g_WHOLE := ⟨_, PySem.W.mg_of X G zWHOLE⟩ }
  have FLDeck := fun_mk (st := sLDeck) lLDeck cLDeck kLDeck
  have DLDeck : DefAt K mg "_law_deck" sLDeck pLDeck fLDeck _ := ⟨FLDeck, PySem.W.mg_of X G aLDeck, FLDeck.binds (ps := pLDeck) fun _ _ _ _ _ _ us hl => match us, hl with | [_], _ => rfl⟩
  have FLIsCount := fun_mk (st := sLIsCount) lLIsCount cLIsCount kLIsCount
  have DLIsCount : DefAt K mg "_law_is_count" sLIsCount pLIsCount fLIsCount _ := ⟨FLIsCount, PySem.W.mg_of X G aLIsCount, FLIsCount.binds (ps := pLIsCount) fun _ _ _ _ _ _ us hl => match us, hl with | [_], _ => rfl⟩
  have FLIsVersion := fun_mk (st := sLIsVersion) lLIsVersion cLIsVersion kLIsVersion
  have DLIsVersion : DefAt K mg "_law_is_version" sLIsVersion pLIsVersion fLIsVersion _ := ⟨FLIsVersion, PySem.W.mg_of X G aLIsVersion, FLIsVersion.binds (ps := pLIsVersion) fun _ _ _ _ _ _ us hl => match us, hl with | [_], _ => rfl⟩
  have FLNext := fun_mk (st := sLNext) lLNext cLNext kLNext
  have DLNext : DefAt K mg "_law_next" sLNext pLNext fLNext _ := ⟨FLNext, PySem.W.mg_of X G aLNext, FLNext.binds (ps := pLNext) fun _ _ _ _ _ _ us hl => match us, hl with | [_], _ => rfl⟩
  have FLDraw := fun_mk (st := sLDraw) lLDraw cLDraw kLDraw
  have DLDraw : DefAt K mg "_law_draw" sLDraw pLDraw fLDraw _ := ⟨FLDraw, PySem.W.mg_of X G aLDraw, FLDraw.binds (ps := pLDraw) fun _ _ _ _ _ _ us hl => match us, hl with | [_, _], _ => rfl⟩
  have FLPick := fun_mk (st := sLPick) lLPick cLPick kLPick
  have DLPick : DefAt K mg "_law_pick" sLPick pLPick fLPick _ := ⟨FLPick, PySem.W.mg_of X G aLPick, FLPick.binds (ps := pLPick) fun _ _ _ _ _ _ us hl => match us, hl with | [_, _], _ => rfl⟩
  have FLNumber := fun_mk (st := sLNumber) lLNumber cLNumber kLNumber
  have DLNumber : DefAt K mg "_law_number" sLNumber pLNumber fLNumber _ := ⟨FLNumber, PySem.W.mg_of X G aLNumber, FLNumber.binds (ps := pLNumber) fun _ _ _ _ _ _ us hl => match us, hl with | [_], _ => rfl⟩
  have FLVersion := fun_mk (st := sLVersion) lLVersion cLVersion kLVersion
  have DLVersion : DefAt K mg "_law_version" sLVersion pLVersion fLVersion _ := ⟨FLVersion, PySem.W.mg_of X G aLVersion, FLVersion.binds (ps := pLVersion) fun _ _ _ _ _ _ us hl => match us, hl with | [_, _], _ => rfl⟩
  have FLVersions := fun_mk (st := sLVersions) lLVersions cLVersions kLVersions
  have DLVersions : DefAt K mg "_law_versions" sLVersions pLVersions fLVersions _ := ⟨FLVersions, PySem.W.mg_of X G aLVersions, FLVersions.binds (ps := pLVersions) fun _ _ _ _ _ _ us hl => match us, hl with | [_, _], _ => rfl⟩
  have FIsInteger := fun_mk (st := sIsInteger) lIsInteger cIsInteger kIsInteger
  have DIsInteger : DefAt K mg "is_integer" sIsInteger pIsInteger fIsInteger _ := ⟨FIsInteger, PySem.W.mg_of X G aIsInteger, FIsInteger.binds (ps := pIsInteger) fun _ _ _ _ _ _ us hl => match us, hl with | [_], _ => rfl⟩
  have FIsVersion := fun_mk (st := sIsVersion) lIsVersion cIsVersion kIsVersion
  have DIsVersion : DefAt K mg "is_version" sIsVersion pIsVersion fIsVersion _ := ⟨FIsVersion, PySem.W.mg_of X G aIsVersion, FIsVersion.binds (ps := pIsVersion) fun _ _ _ _ _ _ us hl => match us, hl with | [_], _ => rfl⟩
  have FCheckVersion := fun_mk (st := sCheckVersion) lCheckVersion cCheckVersion kCheckVersion
  have DCheckVersion : DefAt K mg "check_version" sCheckVersion pCheckVersion fCheckVersion _ := ⟨FCheckVersion, PySem.W.mg_of X G aCheckVersion, FCheckVersion.binds (ps := pCheckVersion) fun _ _ _ _ _ _ us hl => match us, hl with | [_], _ => rfl⟩
  have FIsEarly := fun_mk (st := sIsEarly) lIsEarly cIsEarly kIsEarly
  have DIsEarly : DefAt K mg "is_early" sIsEarly pIsEarly fIsEarly _ := ⟨FIsEarly, PySem.W.mg_of X G aIsEarly, FIsEarly.binds (ps := pIsEarly) fun _ _ _ _ _ _ us hl => match us, hl with | [_], _ => rfl⟩
  have FNextVersion := fun_mk (st := sNextVersion) lNextVersion cNextVersion kNextVersion
  have DNextVersion : DefAt K mg "next_version" sNextVersion pNextVersion fNextVersion _ := ⟨FNextVersion, PySem.W.mg_of X G aNextVersion, FNextVersion.binds (ps := pNextVersion) fun _ _ _ _ _ _ us hl => match us, hl with | [_], _ => rfl⟩
  have FLaw := fun_mk (st := sLaw) lLaw cLaw kLaw
  have DLaw : DefAt K mg "law" sLaw pLaw fa _ := ⟨FLaw, PySem.W.mg_of X G aLaw, FLaw.binds (ps := pLaw) fun _ _ _ _ _ _ us hl => match us, hl with | [_], _ => rfl⟩
  have kbNextVersion : KBinds K _ pNextVersion ["version"] kwG kwV := kb1 FNextVersion fun _ _ _ _ _ _ _ => rfl
  refine ⟨PySem.W.fnOf "law" "law" (defArgs sLaw) (defBody sLaw) (defScope sLaw) .none kVLaw dcLaw pmLaw anLaw cdLaw ctLaw, fun s v => .of_eq rfl, fun base _ _ => ?_⟩
  have GLDeck : FnOk l.prog w K mg base CX0 1 fLDeck _ pLDeck (spLDeck K) := ok_LDeck Z DLDeck 
  have GLIsCount : FnOk l.prog w K mg base CX0 1 fLIsCount _ pLIsCount spLIsCount := ok_LIsCount Z DLIsCount 
  have GLIsVersion : FnOk l.prog w K mg base CX0 2 fLIsVersion _ pLIsVersion spLIsVersion := ok_LIsVersion Z DLIsVersion DLIsCount GLIsCount 
  have GLNext : FnOk l.prog w K mg base CX0 1 fLNext _ pLNext spLNext := ok_LNext Z DLNext 
  have GLDraw : FnOk l.prog w K mg base CX0 1 fLDraw _ pLDraw spLDraw := ok_LDraw Z DLDraw 
  have GLPick : FnOk l.prog w K mg base CX0 2 fLPick _ pLPick spLPick := ok_LPick Z DLPick DLDraw GLDraw 
  have GLNumber : FnOk l.prog w K mg base CX0 3 fLNumber _ pLNumber spLNumber := ok_LNumber Z DLNumber DLDraw GLDraw DLPick GLPick 
  have GLVersion : FnOk l.prog w K mg base CX0 4 fLVersion _ pLVersion spLVersion := ok_LVersion Z DLVersion DLDraw GLDraw DLNumber GLNumber DLPick GLPick 
  have GLVersions : FnOk l.prog w K mg base CX0 5 fLVersions _ pLVersions spLVersions := ok_LVersions Z DLVersions DLDraw GLDraw DLNext GLNext DLPick GLPick DLVersion GLVersion 
  have GIsInteger : FnOk l.prog w K mg base CX0 1 fIsInteger _ pIsInteger spIsInteger := ok_IsInteger Z DIsInteger 
  have GIsVersion : FnOk l.prog w K mg base CX0 2 fIsVersion _ pIsVersion spIsVersion := ok_IsVersion Z DIsVersion DIsInteger GIsInteger 
  have GCheckVersion : FnOk l.prog w K mg base CX0 3 fCheckVersion _ pCheckVersion spCheckVersion := ok_CheckVersion Z DCheckVersion DIsVersion GIsVersion 
  have GIsEarly : FnOk l.prog w K mg base CX0 4 fIsEarly _ pIsEarly spIsEarly := ok_IsEarly Z DIsEarly DCheckVersion GCheckVersion 
  have GNextVersion : FnOk l.prog w K mg base CX0 4 fNextVersion _ pNextVersion spNextVersion := ok_NextVersion Z DNextVersion DCheckVersion GCheckVersion 
  exact ok_Law Z DLaw DLDeck GLDeck DLIsVersion GLIsVersion DLNext GLNext DLVersions GLVersions DIsEarly GIsEarly DIsVersion GIsVersion DNextVersion GNextVersion kbNextVersion 
end Zj

open PySem PySem.W PyProof.Rows in
set_option maxRecDepth 100000 in
set_option maxHeartbeats 0 in
theorem PySem.Challenge.cw_versionjudge_k01_whole_next_versions_holds : PySem.Challenge.rw_versionjudge_k01_whole_next_versions.Holds := by
  w_on; o_law; k_head; (case hw => w_witness2)
  k_fill
  refine Zj.walkG (n := 63) (k := 6) (x := "_law_script") (sp := Zj.spLaw) (l := PySem.Challenge.rw_versionjudge_k01_whole_next_versions) rfl (by decide) rfl ⟨rfl, by decide, by decide⟩ (fun w h Y => PySem.W.kIn_of Y) ?F (fun K H a ns hl hS => ⟨a, ns, rfl, hS, hl, fun _ => rfl⟩)
  case F =>
    intro w mg fa h KX G hmg
    refine' Zj.all_mk KX G hmg ?aLDeck ?lLDeck ?cLDeck ?kLDeck ?aLIsCount ?lLIsCount ?cLIsCount ?kLIsCount ?aLIsVersion ?lLIsVersion ?cLIsVersion ?kLIsVersion ?aLNext ?lLNext ?cLNext ?kLNext ?aLDraw ?lLDraw ?cLDraw ?kLDraw ?aLPick ?lLPick ?cLPick ?kLPick ?aLNumber ?lLNumber ?cLNumber ?kLNumber ?aLVersion ?lLVersion ?cLVersion ?kLVersion ?aLVersions ?lLVersions ?cLVersions ?kLVersions ?aIsInteger ?lIsInteger ?cIsInteger ?kIsInteger ?aIsVersion ?lIsVersion ?cIsVersion ?kIsVersion ?aCheckVersion ?lCheckVersion ?cCheckVersion ?kCheckVersion ?aIsEarly ?lIsEarly ?cIsEarly ?kIsEarly ?aNextVersion ?lNextVersion ?cNextVersion ?kNextVersion ?aLaw ?lLaw ?cLaw ?kLaw ?zisinstance ?ztuple ?zbool ?zall ?zlist ?zrepr ?zenumerate ?zint ?zmax ?zlen ?zrange ?zWHOLE
    (case aLDeck => k_is)
    (case lLDeck => k_is)
    (case cLDeck => k_is)
    (case kLDeck => k_is)
    (case aLIsCount => k_is)
    (case lLIsCount => k_is)
    (case cLIsCount => k_is)
    (case kLIsCount => k_is)
    (case aLIsVersion => k_is)
    (case lLIsVersion => k_is)
    (case cLIsVersion => k_is)
    (case kLIsVersion => k_is)
    (case aLNext => k_is)
    (case lLNext => k_is)
    (case cLNext => k_is)
    (case kLNext => k_is)
    (case aLDraw => k_is)
    (case lLDraw => k_is)
    (case cLDraw => k_is)
    (case kLDraw => k_is)
    (case aLPick => k_is)
    (case lLPick => k_is)
    (case cLPick => k_is)
    (case kLPick => k_is)
    (case aLNumber => k_is)
    (case lLNumber => k_is)
    (case cLNumber => k_is)
    (case kLNumber => k_is)
    (case aLVersion => k_is)
    (case lLVersion => k_is)
    (case cLVersion => k_is)
    (case kLVersion => k_is)
    (case aLVersions => k_is)
    (case lLVersions => k_is)
    (case cLVersions => k_is)
    (case kLVersions => k_is)
    (case aIsInteger => k_is)
    (case lIsInteger => k_is)
    (case cIsInteger => k_is)
    (case kIsInteger => k_is)
    (case aIsVersion => k_is)
    (case lIsVersion => k_is)
    (case cIsVersion => k_is)
    (case kIsVersion => k_is)
    (case aCheckVersion => k_is)
    (case lCheckVersion => k_is)
    (case cCheckVersion => k_is)
    (case kCheckVersion => k_is)
    (case aIsEarly => k_is)
    (case lIsEarly => k_is)
    (case cIsEarly => k_is)
    (case kIsEarly => k_is)
    (case aNextVersion => k_is)
    (case lNextVersion => k_is)
    (case cNextVersion => k_is)
    (case kNextVersion => k_is)
    (case aLaw => k_is)
    (case lLaw => k_is)
    (case cLaw => k_is)
    (case kLaw => k_is)
    (case zisinstance => k_is)
    (case ztuple => k_is)
    (case zbool => k_is)
    (case zall => k_is)
    (case zlist => k_is)
    (case zrepr => k_is)
    (case zenumerate => k_is)
    (case zint => k_is)
    (case zmax => k_is)
    (case zlen => k_is)
    (case zrange => k_is)
    (case zWHOLE => k_is)
#print axioms PySem.Challenge.cw_versionjudge_k01_whole_next_versions_holds
