import PyProof.Rows.All
import Wide.All
import OpenK.AllK
import Wide.FinOn
import HandS.ForMost
import HandS.IsInst
import HandS.Zip
import HandS.Wide
import HandS.Star
import HandS.Codes
import HandS.Walk
import HandS.Rev
import HandS.SetBool
import HandS.More
import KE.KSetDisp
import PyProof.Rows.CallKwBuiltin
import KE.GoesEnum
import PyProof.EnumMake
import HandS.HeadHook3
import HandS.Style
import HandS.FStr
import HandS.StrMore
import HandS.Steps
import PySem.Challenge.RW_scatterwords_k15_formula_texts
set_option Elab.async false
set_option linter.all false
set_option maxRecDepth 100000
set_option maxHeartbeats 4000000
namespace SW
open PySem PySem.Spec PyProof.Rows L2

/-- a def that stands in the module -/
structure Df (K : PySem.W.Frag) (mg : Str → Option Value) (x : Str) (st : Stmt) (ps : List Str) : Prop where
  ex : ∃ f fd, Fun K x x st f fd ∧ mg x = some (.ref f) ∧ Binds K fd ps []
/-- a def that keeps a promise and can be called by its name -/
structure Cal (P : Program) (w : World) (K : PySem.W.Frag) (mg : Str → Option Value) (base : Heap) (k : Nat) (x : Str) (ps : List Str) (sp : Sp) : Prop where
  ex : ∃ f fd, FnOk P w K mg base CX0 k f fd ps sp ∧ mg x = some (.ref f) ∧ PySem.W.keepIn K (.ref f) = true ∧ Binds K fd ps [] ∧ ∃ oc od osl, K.lookup f = some ⟨oc, od, .func fd, osl⟩
/-- the built-in names that are not bound in the module -/
structure Bi (mg : Str → Option Value) : Prop where
  len : mg "len" = none
  int : mg "int" = none
  list : mg "list" = none
  tuple : mg "tuple" = none
  isinstance : mg "isinstance" = none
  zip : mg "zip" = none
  all : mg "all" = none
  sum : mg "sum" = none
  range : mg "range" = none
  str : mg "str" = none
  bool : mg "bool" = none
  reversed : mg "reversed" = none
  max : mg "max" = none
  sorted : mg "sorted" = none
  ord : mg "ord" = none
  min : mg "min" = none
  any : mg "any" = none
  dict : mg "dict" = none
  set : mg "set" = none
section
variable {P : Program} {w : World} {K : PySem.W.Frag} {mg : Str → Option Value} {base : Heap}
theorem Cal.imp {k : Nat} {x : Str} {ps : List Str} {sp sp' : Sp} (c : Cal P w K mg base k x ps sp) (h : ∀ vs H Q E, sp' vs H Q E → sp vs H Q E) : Cal P w K mg base k x ps sp' := by
  obtain ⟨f, fd, F, a, b, d⟩ := c.ex
  exact ⟨f, fd, F.imp h, a, b, d⟩
theorem Cal.mono {j k : Nat} {x : Str} {ps : List Str} {sp : Sp} (c : Cal P w K mg base j x ps sp) (h : j ≤ k) : Cal P w K mg base k x ps sp := by
  obtain ⟨f, fd, F, a, b, d⟩ := c.ex
  exact ⟨f, fd, F.mono h, a, b, d⟩
theorem Df.ok {x : Str} {st : Stmt} {N ps : List Str} {k : Nat} {sp : Sp} (D : Df K mg x st ps) (S : FnScope N ps (defScope st)) (len : ∀ vs H Q E, sp vs H Q E → vs.length = ps.length)
    (hbody : ∀ (f : Addr) (cdv : Value) (A : Around) (outer : List Env) (s : Shared) (H : Hp) (vs : List V) (Q : VK) (E : XK), Room k (A.deeper (envOfC x (defScope st) s.heap.objs.size f cdv)) → sp vs H Q E →
      ∃ t, PSs (cxOf CX0 P w K mg base N x (defScope st) f cdv A outer s H E).nox (defBody st) t ∧ t { nx := fun _ H' => Q .non H', rt := Q } (start N vs) H) : Cal P w K mg base (k + 1) x ps sp := by
  obtain ⟨f, fd, F, m, b⟩ := D.ex
  obtain ⟨oc, od, kV, doc, pm, an, cdv, ct, osl, _, lk, _⟩ := F.ex
  exact ⟨f, fd, F.ok S len fun cdv A outer s H vs Q E hr h => hbody f cdv A outer s H vs Q E hr h, m, F.kp, b, oc, od, osl, lk⟩
/-- a promise that asks what cannot be is kept by every def -/
theorem Df.no {x : Str} {st : Stmt} {ps : List Str} {k : Nat} {sp : Sp} (D : Df K mg x st ps) (h : ∀ vs H Q E, ¬ sp vs H Q E) : Cal P w K mg base k x ps sp := by
  obtain ⟨f, fd, F, m, b⟩ := D.ex
  obtain ⟨oc, od, kV, doc, pm, an, cdv, ct, osl, _, lk, _⟩ := F.ex
  exact ⟨f, fd, ⟨fun vs H Q E q => absurd q (h vs H Q E), fun A outer s H args us vs Q E _ _ _ _ q => absurd q (h vs H Q E)⟩, m, F.kp, b, oc, od, osl, lk⟩
end
section
variable {X : Cx} {k j : Nat} {x : Str} {ps : List Str} {sp : Sp} {p pos : Pos} {e : Expr} {es : List Expr} {t : TA}
theorem pe_own (c : Cal X.prog X.w X.K X.mg X.base k x ps sp) (hr : Room j X.A) (hk : k ≤ j) (hg : Gl X x) (ha : PA X (e :: es) t) (hdb : (x == ("__debug__" : Str)) = false := by decide)
    (he : starEach (e :: es) X.env = (false, eval e X.env) :: starEach es X.env := by rfl) (hpl : (backTo pos (starEach es X.env)).any (·.1) = false := by rfl) :
    PE X (.Call (.Name x p) (e :: es) [] pos) (tCall sp [] E0 t) := by
  obtain ⟨f, fd, F, hm, hK, hb, _⟩ := c.ex
  exact pe_call F (hr.mono hk) hg hm hK hb .nil pass0 ha hdb he hpl
end
section
variable {X : Cx} {k j : Nat} {x : Str} {ps ks : List Str} {sp : Sp} {p pos : Pos} {kws : List Keyword} {tk : TA} {st : Stmt} {g : List Value → List Value → List Value} {gV : List V → List V → List V} {e : Expr} {es : List Expr} {t : TA}
theorem kbinds {K : PySem.W.Frag} {mg : Str → Option Value} {f : Addr} {fd : FuncData} (D : Df K mg x st ps) (hm : mg x = some (.ref f)) (hl : ∃ oc od osl, K.lookup f = some ⟨oc, od, .func fd, osl⟩)
    (hb : ∀ (kV doc pm : Value) (an : Option Addr) (cdv ct : Value) (us ws : List Value), (g us ws).length = ps.length → bindArgs (PySem.W.fnOf x x (defArgs st) (defBody st) (defScope st) .none kV doc pm an cdv ct) ⟨us, ks.zip ws⟩ = pure (ps.zip (g us ws)))
    (hrel : ∀ {vs : List V} {us : List Value} {zs : List V} {ws : List Value}, Vals vs us → Vals zs ws → Vals (gV vs zs) (g us ws)) : KBinds K fd ps ks g gV := by
  obtain ⟨f', fd', F, m, b⟩ := D.ex
  have e : f' = f := by
    rw [hm] at m
    cases m
    rfl
  subst e
  obtain ⟨oc, od, kV, doc, pm, an, cdv, ct, osl, rfl, lk, _⟩ := F.ex
  obtain ⟨oc', od', osl', lk'⟩ := hl
  rw [lk] at lk'
  cases lk'
  exact ⟨fun s us ws _ hlen => .of_eq (hb kV doc pm an cdv ct us ws hlen), hrel⟩
/-- a call with keywords alone -/
theorem pe_ownK0 (c : Cal X.prog X.w X.K X.mg X.base k x ps sp) (D : Df X.K X.mg x st ps) (hr : Room j X.A) (hk : k ≤ j) (hg : Gl X x)
    (hb : ∀ (kV doc pm : Value) (an : Option Addr) (cdv ct : Value) (us ws : List Value), (g us ws).length = ps.length → bindArgs (PySem.W.fnOf x x (defArgs st) (defBody st) (defScope st) .none kV doc pm an cdv ct) ⟨us, ks.zip ws⟩ = pure (ps.zip (g us ws)))
    (hrel : ∀ {vs : List V} {us : List Value} {zs : List V} {ws : List Value}, Vals vs us → Vals zs ws → Vals (gV vs zs) (g us ws)) (hkw : PK X kws tk) (hall : (backToKw pos (keywordEach kws X.env)).all (·.1.isSome) = true := by rfl) (hks : (backToKw pos (keywordEach kws X.env)).filterMap (·.1) = ks := by rfl)
    (hdb : (x == ("__debug__" : Str)) = false := by decide)
    (hpl : ((backTo pos (starEach [] X.env)).any (·.1) || (backToKw pos (keywordEach kws X.env)).any (·.1.isNone)) = false := by rfl) :
    PE X (.Call (.Name x p) [] kws pos) (tCallK sp gV E0 tNil tk) := by
  obtain ⟨f, fd, F, hm, hK, _, hl⟩ := c.ex
  have hb' : KBinds X.K fd ps ks g gV := kbinds D hm hl hb hrel
  refine ⟨fun pins s σ H Q I h => ?_⟩
  refine wpAny_Call_Name_kw (ld_glob I hg hm ?_ hdb)
  refine PySem.W.callWith_KW0 (h₀ := X.base) I.ok.mod.kin hK hall (thn (hkw.run pos pins s σ H _ I h) fun ws s2 ⟨zs, H2, I2, rz, q2⟩ => ⟨I2.kIn, ?_⟩) hpl
  rw [hks]
  exact run_fnk (F.mono hk) hr hb' pass0 I2 .nil rz q2
/-- a call with places and keywords -/
theorem pe_ownK (c : Cal X.prog X.w X.K X.mg X.base k x ps sp) (D : Df X.K X.mg x st ps) (hr : Room j X.A) (hk : k ≤ j) (hg : Gl X x)
    (hb : ∀ (kV doc pm : Value) (an : Option Addr) (cdv ct : Value) (us ws : List Value), (g us ws).length = ps.length → bindArgs (PySem.W.fnOf x x (defArgs st) (defBody st) (defScope st) .none kV doc pm an cdv ct) ⟨us, ks.zip ws⟩ = pure (ps.zip (g us ws)))
    (hrel : ∀ {vs : List V} {us : List Value} {zs : List V} {ws : List Value}, Vals vs us → Vals zs ws → Vals (gV vs zs) (g us ws)) (ha : PA X (e :: es) t) (hkw : PK X kws tk) (hall : (backToKw pos (keywordEach kws X.env)).all (·.1.isSome) = true := by rfl) (hks : (backToKw pos (keywordEach kws X.env)).filterMap (·.1) = ks := by rfl)
    (hdb : (x == ("__debug__" : Str)) = false := by decide) (he : starEach (e :: es) X.env = (false, eval e X.env) :: starEach es X.env := by rfl)
    (hpl : ((backTo pos (starEach (e :: es) X.env)).any (·.1) || (backToKw pos (keywordEach kws X.env)).any (·.1.isNone)) = false := by rfl) :
    PE X (.Call (.Name x p) (e :: es) kws pos) (tCallK sp gV E0 t tk) := by
  obtain ⟨f, fd, F, hm, hK, _, hl⟩ := c.ex
  exact pe_callK (F.mono hk) hr hg hm hK (kbinds D hm hl hb hrel) pass0 ha hkw hall hks hdb he hpl
end
/-! ### how keywords come to their places -/
def g1 {α : Type} : List α → List α → List α
  | [], [a] => [a]
  | _, _ => []
def g2 {α : Type} : List α → List α → List α
  | [], [a, b] => [a, b]
  | _, _ => []
def g2s {α : Type} : List α → List α → List α
  | [], [a, b] => [b, a]
  | _, _ => []
def g11 {α : Type} : List α → List α → List α
  | [a], [b] => [a, b]
  | _, _ => []
theorem g1_inv {α : Type} {us ws : List α} (h : (g1 us ws).length = 1) : ∃ a, us = [] ∧ ws = [a] := by
  unfold g1 at h
  split at h
  · exact ⟨_, rfl, rfl⟩
  · cases h
theorem g2_inv {α : Type} {us ws : List α} (h : (g2 us ws).length = 2) : ∃ a b, us = [] ∧ ws = [a, b] := by
  unfold g2 at h
  split at h
  · exact ⟨_, _, rfl, rfl⟩
  · cases h
theorem g2s_inv {α : Type} {us ws : List α} (h : (g2s us ws).length = 2) : ∃ a b, us = [] ∧ ws = [a, b] := by
  unfold g2s at h
  split at h
  · exact ⟨_, _, rfl, rfl⟩
  · cases h
theorem g11_inv {α : Type} {us ws : List α} (h : (g11 us ws).length = 2) : ∃ a b, us = [a] ∧ ws = [b] := by
  unfold g11 at h
  split at h
  · exact ⟨_, _, rfl, rfl⟩
  · cases h
theorem g1_rel {vs : List V} {us : List Value} {zs : List V} {ws : List Value} (a : Vals vs us) (b : Vals zs ws) : Vals (g1 vs zs) (g1 us ws) := by
  cases a <;> cases b <;> try exact .nil
  rename_i t
  cases t
  · exact .cons ‹_› .nil
  · exact .nil
theorem g2_rel {vs : List V} {us : List Value} {zs : List V} {ws : List Value} (a : Vals vs us) (b : Vals zs ws) : Vals (g2 vs zs) (g2 us ws) := by
  cases a with
  | cons r t => exact .nil
  | nil =>
    cases b with
    | nil => exact .nil
    | cons r t =>
      cases t with
      | nil => exact .nil
      | cons r2 t =>
        cases t with
        | nil => exact .cons r (.cons r2 .nil)
        | cons _ _ => exact .nil
theorem g2s_rel {vs : List V} {us : List Value} {zs : List V} {ws : List Value} (a : Vals vs us) (b : Vals zs ws) : Vals (g2s vs zs) (g2s us ws) := by
  cases a with
  | cons r t => exact .nil
  | nil =>
    cases b with
    | nil => exact .nil
    | cons r t =>
      cases t with
      | nil => exact .nil
      | cons r2 t =>
        cases t with
        | nil => exact .cons r2 (.cons r .nil)
        | cons _ _ => exact .nil
theorem g11_rel {vs : List V} {us : List Value} {zs : List V} {ws : List Value} (a : Vals vs us) (b : Vals zs ws) : Vals (g11 vs zs) (g11 us ws) := by
  cases a with
  | nil => exact .nil
  | cons r t =>
    cases t with
    | cons _ _ => exact .nil
    | nil =>
      cases b with
      | nil => exact .nil
      | cons r2 t2 =>
        cases t2 with
        | nil => exact .cons r (.cons r2 .nil)
        | cons _ _ => exact .nil
/-! ### heaps -/
/-- all that was tracked, but what stands at r, is as it was -/
def Kp (r : Addr) (H H' : Hp) : Prop := ∀ b o, b ≠ r → H b = some o → H' b = some o
theorem Kp.refl (r : Addr) (H : Hp) : Kp r H H := fun _ _ _ h => h
theorem Kp.trans {r : Addr} {H H1 H2 : Hp} (a : Kp r H H1) (b : Kp r H1 H2) : Kp r H H2 := fun c o n h => b c o n (a c o n h)
theorem Kp.new {r p : Addr} {H : Hp} {o : HO} (h : H p = none) : Kp r H (upd H p o) := fun b u _ e => by
  rw [upd_ne (ne_of_none e h)]
  exact e
theorem Kp.at {r : Addr} {H : Hp} {o : HO} : Kp r H (upd H r o) := fun b u n e => by
  rw [upd_ne n]
  exact e
theorem Kp.free {r p : Addr} {H H' : Hp} (a : Kp r H H') (n : p ≠ r) (h : H' p = none) : H p = none := by
  cases q : H p with
  | none => rfl
  | some o =>
    rw [a p o n q] at h
    cases h
/-- the generator's list at r, its script at l -/
def Rng (H : Hp) (r l : Addr) : Prop := ∃ (ns : List Int) (i d st c : Int), H r = some (.lst [.ref l, .int i, .int d, .int st, .int c]) ∧ H l = some (.lst (ns.map V.int)) ∧ 0 ≤ i ∧ l ≠ r
theorem Rng.new {H : Hp} {r l p : Addr} {o : HO} (g : Rng H r l) (h : H p = none) : Rng (upd H p o) r l := by
  obtain ⟨ns, i, d, st, c, h1, h2, h3, h4⟩ := g
  exact ⟨ns, i, d, st, c, by rw [upd_ne (ne_of_none h1 h)]; exact h1, by rw [upd_ne (ne_of_none h2 h)]; exact h2, h3, h4⟩
theorem Rng.kp {H H' : Hp} {r l : Addr} {x y z : V} (g : Rng H r l) (k : Kp r H H') {v : List V} (h : H' r = H r) : Rng H' r l := by
  obtain ⟨ns, i, d, st, c, h1, h2, h3, h4⟩ := g
  exact ⟨ns, i, d, st, c, h.trans h1, k _ _ h4 h2, h3, h4⟩
end SW

set_option Elab.async false
set_option linter.all false
set_option maxRecDepth 100000
set_option maxHeartbeats 4000000
namespace SW
open PySem PySem.Spec PyProof.Rows L2
/-! ### words as trees -/
inductive W where
  | emp
  | ltr (c : Str)
  | nam (c : Str)
  | join (ws : List W)
  | times (w : W) (n : Int)
  | right (w : W)
  | left (w : W)
mutual
def W.dat : W → PyData
  | .emp => .tuple [.str "empty"]
  | .ltr c => .tuple [.str "letter", .str c]
  | .nam c => .tuple [.str "name", .str c]
  | .join ws => .tuple [.str "join", .tuple (W.dats ws)]
  | .times w n => .tuple [.str "times", w.dat, .int n]
  | .right w => .tuple [.str "right", w.dat]
  | .left w => .tuple [.str "left", w.dat]
def W.dats : List W → List PyData
  | [] => []
  | w :: r => w.dat :: W.dats r
end
mutual
def W.dep : W → Nat
  | .emp => 1
  | .ltr _ => 1
  | .nam _ => 1
  | .join ws => W.deps ws + 1
  | .times w _ => w.dep + 1
  | .right w => w.dep + 1
  | .left w => w.dep + 1
def W.deps : List W → Nat
  | [] => 0
  | w :: r => max w.dep (W.deps r)
end
mutual
/-- letters among L, joins of at most three parts, numbers of copies up to 10 ** 30 -/
def W.Ok (L : List Str) : W → Prop
  | .emp => True
  | .ltr c => c ∈ L
  | .nam _ => False
  | .join ws => ws.length ≤ 3 ∧ W.Oks L ws
  | .times w n => 0 ≤ n ∧ n ≤ 1000000000000000000000000000000 ∧ w.Ok L
  | .right w => w.Ok L
  | .left w => w.Ok L
def W.Oks (L : List Str) : List W → Prop
  | [] => True
  | w :: r => w.Ok L ∧ W.Oks L r
end
abbrev abc : List Str := ["a", "b", "c"]
abbrev abcABC : List Str := ["a", "b", "c", "A", "B", "C"]
def W.kind : W → Str
  | .emp => "empty"
  | .ltr _ => "letter"
  | .nam _ => "name"
  | .join _ => "join"
  | .times _ _ => "times"
  | .right _ => "right"
  | .left _ => "left"
theorem W.dep_pos (w : W) : 1 ≤ w.dep := by cases w <;> unfold W.dep <;> omega
theorem W.deps_mem : ∀ {ws : List W} {w : W}, w ∈ ws → w.dep ≤ W.deps ws
  | x :: r, w, h => by
    unfold W.deps
    rcases List.mem_cons.mp h with e | h
    · subst e
      exact Nat.le_max_left _ _
    · exact Nat.le_trans (W.deps_mem h) (Nat.le_max_right _ _)
theorem W.deps_le : ∀ {ws : List W} {n : Nat}, (∀ w ∈ ws, w.dep ≤ n) → W.deps ws ≤ n
  | [], n, _ => by
    unfold W.deps
    exact Nat.zero_le _
  | x :: r, n, h => by
    unfold W.deps
    exact Nat.max_le.mpr ⟨h x (List.mem_cons_self ..), W.deps_le fun w q => h w (List.mem_cons_of_mem _ q)⟩
theorem W.oks_mem {L : List Str} : ∀ {ws : List W} {w : W}, w ∈ ws → W.Oks L ws → w.Ok L
  | x :: r, w, h, o => by
    unfold W.Oks at o
    rcases List.mem_cons.mp h with e | h
    · subst e
      exact o.1
    · exact W.oks_mem h o.2
theorem W.oks_of {L : List Str} : ∀ {ws : List W}, (∀ w ∈ ws, w.Ok L) → W.Oks L ws
  | [], _ => by
    unfold W.Oks
    trivial
  | x :: r, h => by
    unfold W.Oks
    exact ⟨h x (List.mem_cons_self ..), W.oks_of fun w q => h w (List.mem_cons_of_mem _ q)⟩
theorem W.dats_map : ∀ ws : List W, W.dats ws = ws.map W.dat
  | [] => by
    unfold W.dats
    rfl
  | w :: r => by
    unfold W.dats
    rw [W.dats_map r]
    rfl
theorem W.oks_iff {L : List Str} {ws : List W} : W.Oks L ws ↔ ∀ w ∈ ws, w.Ok L := ⟨fun h w m => W.oks_mem m h, W.oks_of⟩
mutual
theorem W.Ok.mono {L M : List Str} (hs : ∀ c ∈ L, c ∈ M) : ∀ w : W, w.Ok L → w.Ok M
  | .emp, h => by unfold W.Ok; trivial
  | .ltr c, h => by unfold W.Ok at h ⊢; exact hs c h
  | .nam c, h => by unfold W.Ok at h; exact h.elim
  | .join ws, h => by unfold W.Ok at h ⊢; exact ⟨h.1, W.Oks.mono hs ws h.2⟩
  | .times w n, h => by unfold W.Ok at h ⊢; exact ⟨h.1, h.2.1, W.Ok.mono hs w h.2.2⟩
  | .right w, h => by unfold W.Ok at h ⊢; exact W.Ok.mono hs w h
  | .left w, h => by unfold W.Ok at h ⊢; exact W.Ok.mono hs w h
theorem W.Oks.mono {L M : List Str} (hs : ∀ c ∈ L, c ∈ M) : ∀ ws : List W, W.Oks L ws → W.Oks M ws
  | [], h => by unfold W.Oks; trivial
  | w :: r, h => by unfold W.Oks at h ⊢; exact ⟨W.Ok.mono hs w h.1, W.Oks.mono hs r h.2⟩
end
theorem abc_sub : ∀ c ∈ abc, c ∈ abcABC := by
  intro c h
  simp only [abc, abcABC, List.mem_cons, List.not_mem_nil, or_false] at h ⊢
  rcases h with h | h | h <;> simp [h]
/-! ### how the heap bears them -/
abbrev WV (K : PySem.W.Frag) (H : Hp) (v : V) (w : W) : Prop := Dp K H v w.dat
abbrev WVs (K : PySem.W.Frag) (H : Hp) (vs : List V) (ws : List W) : Prop := DpAll K H vs (W.dats ws)
/-- every tuple stays -/
def Tp (H H' : Hp) : Prop := ∀ a xs, Rd H a (.tup xs) → Rd H' a (.tup xs)
theorem Tp.refl (H : Hp) : Tp H H := fun _ _ h => h
theorem Tp.trans {H H1 H2 : Hp} (a : Tp H H1) (b : Tp H1 H2) : Tp H H2 := fun x o h => b x o (a x o h)
theorem Tp.sq {K : PySem.W.Frag} {H H' : Hp} (t : Tp H H') {a : Addr} {xs : List V} (h : SqT K H a xs) : SqT K H' a xs := by
  rcases h with h | h
  · exact .inl (t _ _ h)
  · exact .inr h
theorem Kp.tp {r : Addr} {H H' : Hp} {z : List V} (k : Kp r H H') (h : H r = some (.lst z)) : Tp H H' := fun a xs q => by
  rcases q with q | ⟨o, q⟩
  · exact .inl (k _ _ (ne_of q h (by intro e; cases e)) q)
  · exact .inr ⟨o, k _ _ (ne_of q h (by intro e; cases e)) q⟩
theorem tp_new {p : Addr} {H : Hp} {o : HO} (h : H p = none) : Tp H (upd H p o) := fun a xs q => by
  rcases q with q | ⟨u, q⟩
  · exact .inl (by rw [upd_ne (ne_of_none q h)]; exact q)
  · exact .inr ⟨u, by rw [upd_ne (ne_of_none q h)]; exact q⟩
theorem tp_set {p : Addr} {H : Hp} {o : HO} {z : List V} (h : H p = some (.lst z)) : Tp H (upd H p o) := Kp.tp Kp.at h
theorem tp_same {H H' : Hp} (s : Same H H') : Tp H H' := fun a xs q => by
  rcases q with q | ⟨o, q⟩
  · exact .inl (s _ _ q)
  · exact .inr ⟨o, s _ _ q⟩
mutual
theorem WV.tp {K : PySem.W.Frag} {H H' : Hp} (t : Tp H H') : ∀ (w : W) {v : V}, WV K H v w → WV K H' v w
  | .emp, v, h => by
    unfold WV W.dat at *
    cases h with | tup s a => ?_
    refine .tup (t.sq s) ?_
    cases a with | cons a b => ?_
    cases a
    cases b
    exact .cons (.str _) .nil
  | .ltr c, v, h => by
    unfold WV W.dat at *
    cases h with | tup s a => ?_
    refine .tup (t.sq s) ?_
    cases a with | cons a b => ?_
    cases b with | cons b d => ?_
    cases a
    cases b
    cases d
    exact .cons (.str _) (.cons (.str _) .nil)
  | .nam c, v, h => by
    unfold WV W.dat at *
    cases h with | tup s a => ?_
    refine .tup (t.sq s) ?_
    cases a with | cons a b => ?_
    cases b with | cons b d => ?_
    cases a
    cases b
    cases d
    exact .cons (.str _) (.cons (.str _) .nil)
  | .join ws, v, h => by
    unfold WV W.dat at *
    cases h with | tup s a => ?_
    refine .tup (t.sq s) ?_
    cases a with | cons a b => ?_
    cases b with | cons b d => ?_
    cases a
    cases d
    cases b with | tup s2 b => ?_
    exact .cons (.str _) (.cons (.tup (t.sq s2) (WVs.tp t ws b)) .nil)
  | .times w n, v, h => by
    unfold WV W.dat at *
    cases h with | tup s a => ?_
    refine .tup (t.sq s) ?_
    cases a with | cons a b => ?_
    cases b with | cons b d => ?_
    cases d with | cons d e => ?_
    cases a
    cases d
    cases e
    exact .cons (.str _) (.cons (WV.tp t w b) (.cons (.int _) .nil))
  | .right w, v, h => by
    unfold WV W.dat at *
    cases h with | tup s a => ?_
    refine .tup (t.sq s) ?_
    cases a with | cons a b => ?_
    cases b with | cons b d => ?_
    cases a
    cases d
    exact .cons (.str _) (.cons (WV.tp t w b) .nil)
  | .left w, v, h => by
    unfold WV W.dat at *
    cases h with | tup s a => ?_
    refine .tup (t.sq s) ?_
    cases a with | cons a b => ?_
    cases b with | cons b d => ?_
    cases a
    cases d
    exact .cons (.str _) (.cons (WV.tp t w b) .nil)
theorem WVs.tp {K : PySem.W.Frag} {H H' : Hp} (t : Tp H H') : ∀ (ws : List W) {vs : List V}, WVs K H vs ws → WVs K H' vs ws
  | [], vs, h => by
    unfold WVs W.dats at *
    cases h
    exact .nil
  | w :: r, vs, h => by
    unfold WVs W.dats at *
    cases h with | cons a b => ?_
    exact .cons (WV.tp t w a) (WVs.tp t r b)
end
/-- what stands at a word's address -/
inductive WAt (K : PySem.W.Frag) (H : Hp) (v : V) : W → Prop where
  | emp {a : Addr} (e : v = .ref a) (s : SqT K H a [.str "empty"]) : WAt K H v .emp
  | ltr {a : Addr} {c : Str} (e : v = .ref a) (s : SqT K H a [.str "letter", .str c]) : WAt K H v (.ltr c)
  | nam {a : Addr} {c : Str} (e : v = .ref a) (s : SqT K H a [.str "name", .str c]) : WAt K H v (.nam c)
  | join {a b : Addr} {xs : List V} {ws : List W} (e : v = .ref a) (s : SqT K H a [.str "join", .ref b]) (s2 : SqT K H b xs) (h : WVs K H xs ws) : WAt K H v (.join ws)
  | times {a : Addr} {x : V} {w : W} {n : Int} (e : v = .ref a) (s : SqT K H a [.str "times", x, .int n]) (h : WV K H x w) : WAt K H v (.times w n)
  | right {a : Addr} {x : V} {w : W} (e : v = .ref a) (s : SqT K H a [.str "right", x]) (h : WV K H x w) : WAt K H v (.right w)
  | left {a : Addr} {x : V} {w : W} (e : v = .ref a) (s : SqT K H a [.str "left", x]) (h : WV K H x w) : WAt K H v (.left w)
theorem WV.at {K : PySem.W.Frag} {H : Hp} {v : V} : ∀ {w : W}, WV K H v w → WAt K H v w
  | .emp, h => by
    unfold WV W.dat at h
    cases h with | tup s a => ?_
    cases a with | cons a b => ?_
    cases a
    cases b
    exact .emp rfl s
  | .ltr c, h => by
    unfold WV W.dat at h
    cases h with | tup s a => ?_
    cases a with | cons a b => ?_
    cases b with | cons b d => ?_
    cases a
    cases b
    cases d
    exact .ltr rfl s
  | .nam c, h => by
    unfold WV W.dat at h
    cases h with | tup s a => ?_
    cases a with | cons a b => ?_
    cases b with | cons b d => ?_
    cases a
    cases b
    cases d
    exact .nam rfl s
  | .join ws, h => by
    unfold WV W.dat at h
    cases h with | tup s a => ?_
    cases a with | cons a b => ?_
    cases b with | cons b d => ?_
    cases a
    cases d
    cases b with | tup s2 b => ?_
    exact .join rfl s s2 b
  | .times w n, h => by
    unfold WV W.dat at h
    cases h with | tup s a => ?_
    cases a with | cons a b => ?_
    cases b with | cons b d => ?_
    cases d with | cons d e => ?_
    cases a
    cases d
    cases e
    exact .times rfl s b
  | .right w, h => by
    unfold WV W.dat at h
    cases h with | tup s a => ?_
    cases a with | cons a b => ?_
    cases b with | cons b d => ?_
    cases a
    cases d
    exact .right rfl s b
  | .left w, h => by
    unfold WV W.dat at h
    cases h with | tup s a => ?_
    cases a with | cons a b => ?_
    cases b with | cons b d => ?_
    cases a
    cases d
    exact .left rfl s b
section
variable {K : PySem.W.Frag} {H : Hp} {a b : Addr} {x : V} {w : W}
theorem wv_emp (s : SqT K H a [.str "empty"]) : WV K H (.ref a) .emp := by
  unfold WV W.dat
  exact .tup s (.cons (.str _) .nil)
theorem wv_ltr {c : Str} (s : SqT K H a [.str "letter", .str c]) : WV K H (.ref a) (.ltr c) := by
  unfold WV W.dat
  exact .tup s (.cons (.str _) (.cons (.str _) .nil))
theorem wv_nam {c : Str} (s : SqT K H a [.str "name", .str c]) : WV K H (.ref a) (.nam c) := by
  unfold WV W.dat
  exact .tup s (.cons (.str _) (.cons (.str _) .nil))
theorem wv_join {xs : List V} {ws : List W} (s : SqT K H a [.str "join", .ref b]) (s2 : SqT K H b xs) (h : WVs K H xs ws) : WV K H (.ref a) (.join ws) := by
  unfold WV W.dat
  exact .tup s (.cons (.str _) (.cons (.tup s2 h) .nil))
theorem wv_times {n : Int} (s : SqT K H a [.str "times", x, .int n]) (h : WV K H x w) : WV K H (.ref a) (.times w n) := by
  unfold WV W.dat
  exact .tup s (.cons (.str _) (.cons h (.cons (.int _) .nil)))
theorem wv_right (s : SqT K H a [.str "right", x]) (h : WV K H x w) : WV K H (.ref a) (.right w) := by
  unfold WV W.dat
  exact .tup s (.cons (.str _) (.cons h .nil))
theorem wv_left (s : SqT K H a [.str "left", x]) (h : WV K H x w) : WV K H (.ref a) (.left w) := by
  unfold WV W.dat
  exact .tup s (.cons (.str _) (.cons h .nil))
theorem wvs_nil : WVs K H [] [] := by
  unfold WVs W.dats
  exact .nil
theorem wvs_cons {xs : List V} {ws : List W} (h : WV K H x w) (t : WVs K H xs ws) : WVs K H (x :: xs) (w :: ws) := by
  unfold WVs W.dats
  exact .cons h t
end
theorem WVs.length {K : PySem.W.Frag} {H : Hp} : ∀ {ws : List W} {xs : List V}, WVs K H xs ws → xs.length = ws.length
  | [], xs, h => by
    unfold WVs W.dats at h
    cases h
    rfl
  | w :: r, xs, h => by
    unfold WVs W.dats at h
    cases h with | cons a b => ?_
    rw [List.length_cons, List.length_cons, WVs.length (ws := r) b]
theorem WVs.get {K : PySem.W.Frag} {H : Hp} : ∀ {ws : List W} {xs : List V} {i : Nat} {x : V}, WVs K H xs ws → xs[i]? = some x → ∃ w, ws[i]? = some w ∧ WV K H x w
  | [], xs, i, x, h, e => by
    unfold WVs W.dats at h
    cases h
    simp at e
  | w :: r, xs, 0, x, h, e => by
    unfold WVs W.dats at h
    cases h with | cons a b => ?_
    cases e
    exact ⟨w, rfl, a⟩
  | w :: r, xs, i + 1, x, h, e => by
    unfold WVs W.dats at h
    cases h with | cons a b => ?_
    exact WVs.get (ws := r) (i := i) b e
theorem WVs.app {K : PySem.W.Frag} {H : Hp} {x : V} {w : W} (q : WV K H x w) : ∀ {ws : List W} {xs : List V}, WVs K H xs ws → WVs K H (xs ++ [x]) (ws ++ [w])
  | [], xs, h => by
    unfold WVs W.dats at h
    cases h
    exact wvs_cons q wvs_nil
  | v :: r, xs, h => by
    unfold WVs W.dats at h
    cases h with | cons a b => ?_
    exact wvs_cons a (WVs.app q (ws := r) b)
/-! ### the two lists that a drawing of a tree changes -/
def Kp2 (r k : Addr) (H H' : Hp) : Prop := ∀ b o, b ≠ r → b ≠ k → H b = some o → H' b = some o
theorem Kp2.refl (r k : Addr) (H : Hp) : Kp2 r k H H := fun _ _ _ _ h => h
theorem Kp2.trans {r k : Addr} {H H1 H2 : Hp} (a : Kp2 r k H H1) (b : Kp2 r k H1 H2) : Kp2 r k H H2 := fun c o n m h => b c o n m (a c o n m h)
theorem Kp.two {r k : Addr} {H H' : Hp} (a : Kp r H H') : Kp2 r k H H' := fun c o n _ h => a c o n h
theorem Kp2.at {r k : Addr} {H : Hp} {o : HO} : Kp2 r k H (upd H k o) := fun b u _ n e => by
  rw [upd_ne n]
  exact e
theorem Kp2.tp {r k : Addr} {H H' : Hp} {z y : List V} (q : Kp2 r k H H') (h : H r = some (.lst z)) (g : H k = some (.lst y)) : Tp H H' := fun a xs p => by
  rcases p with p | ⟨o, p⟩
  · exact .inl (q _ _ (ne_of p h (by intro e; cases e)) (ne_of p g (by intro e; cases e)) p)
  · exact .inr ⟨o, q _ _ (ne_of p h (by intro e; cases e)) (ne_of p g (by intro e; cases e)) p⟩
theorem Kp2.fresh {r k : Addr} {H H' : Hp} {o : HO} (h : H k = none) (q : Kp2 r k (upd H k o) H') : Kp r H H' := fun b u n e =>
  q b u n (ne_of_none e h) (by rw [upd_ne (ne_of_none e h)]; exact e)
theorem Rng.lst {H : Hp} {r l : Addr} (g : Rng H r l) : ∃ z, H r = some (.lst z) := by
  obtain ⟨ns, i, d, st, c, h1, _⟩ := g
  exact ⟨_, h1⟩
theorem Rng.ne {H : Hp} {r l : Addr} (g : Rng H r l) : l ≠ r := by
  obtain ⟨ns, i, d, st, c, h1, h2, h3, h4⟩ := g
  exact h4
/-- the generator stays where neither of its lists is touched -/
theorem Rng.of {H H' : Hp} {r l : Addr} (g : Rng H r l) (a : ∀ o, H r = some o → H' r = some o) (b : ∀ o, H l = some o → H' l = some o) : Rng H' r l := by
  obtain ⟨ns, i, d, st, c, h1, h2, h3, h4⟩ := g
  exact ⟨ns, i, d, st, c, a _ h1, b _ h2, h3, h4⟩
theorem Rng.some_l {H : Hp} {r l : Addr} (g : Rng H r l) : ∃ z, H l = some (.lst z) := by
  obtain ⟨ns, i, d, st, c, h1, h2, h3, h4⟩ := g
  exact ⟨_, h2⟩
/-! ### comprehensions of one name without a test -/
theorem lcr {lo : Int} {n j : Nat} {te : TE} {σ : L2.St} {H1 : Hp} {D : Addr} {Qd : Hp → Prop} (Pv : Nat → Hp → Prop) (h0 : Pv 0 (upd H1 D (.lst [])))
    (hs : ∀ i H, i < n → Pv i H → te (σ.set j (some (.int (lo + i)))) H fun y H4 => ∃ acc, H4 D = some (.lst acc) ∧ acc.length < sizeLine ∧ Pv (i + 1) (upd H4 D (.lst (acc ++ [y])))) (hd : ∀ H, Pv n H → Qd H) :
    ∃ W : Nat → Nat → Hp → Prop, (∃ m, W 0 m (upd H1 D (.lst []))) ∧ ∀ i m H, W i m H →
      ((Itr lo n).stop i H ∧ Qd H) ∨ ((Itr lo n).go i H ∧ ∃ Nx : Hp → Prop, (∀ H', Nx H' → ∃ m', m' < m ∧ W (i + 1) m' H') ∧ ∀ x H', (Itr lo n).yld i H x H' → gName j x (wipe σ [j]) H' fun σ2 H2 => wipe σ2 [j] = wipe σ [j] ∧ tYes σ2 H2 fun b H3 =>
        if b = true then te σ2 H3 fun y H4 => ∃ acc, H4 D = some (.lst acc) ∧ acc.length < sizeLine ∧ Nx (upd H4 D (.lst (acc ++ [y]))) else Nx H3) := by
  refine lc_range Pv h0 (fun i H hi p => ?_) hd
  have e1 : wipe σ [j] = σ.set j none := rfl
  have e2 : (wipe σ [j]).set j (some (.int (lo + i))) = σ.set j (some (.int (lo + i))) := by rw [e1, List.set_set]
  unfold gName tYes
  rw [e2]
  dsimp only
  rw [if_pos rfl]
  refine ⟨?_, hs i H hi p⟩
  show (σ.set j (some (.int (lo + i)))).set j none = σ.set j none
  rw [List.set_set]
theorem lcl {K : PySem.W.Frag} {a : Addr} {xs : List V} {j : Nat} {te : TE} {σ : L2.St} {H1 : Hp} {D : Addr} {Qd : Hp → Prop} (Pv : Nat → Hp → Prop) (h0 : Pv 0 (upd H1 D (.lst []))) (hl : ∀ i H, i ≤ xs.length → Pv i H → SqL K H a xs)
    (hs : ∀ i x H, xs[i]? = some x → Pv i H → te (σ.set j (some x)) H fun y H4 => ∃ acc, H4 D = some (.lst acc) ∧ acc.length < sizeLine ∧ Pv (i + 1) (upd H4 D (.lst (acc ++ [y])))) (hd : ∀ H, Pv xs.length H → Qd H) :
    ∃ W : Nat → Nat → Hp → Prop, (∃ m, W 0 m (upd H1 D (.lst []))) ∧ ∀ i m H, W i m H →
      ((Itl K a).stop i H ∧ Qd H) ∨ ((Itl K a).go i H ∧ ∃ Nx : Hp → Prop, (∀ H', Nx H' → ∃ m', m' < m ∧ W (i + 1) m' H') ∧ ∀ x H', (Itl K a).yld i H x H' → gName j x (wipe σ [j]) H' fun σ2 H2 => wipe σ2 [j] = wipe σ [j] ∧ tYes σ2 H2 fun b H3 =>
        if b = true then te σ2 H3 fun y H4 => ∃ acc, H4 D = some (.lst acc) ∧ acc.length < sizeLine ∧ Nx (upd H4 D (.lst (acc ++ [y]))) else Nx H3) := by
  refine lc_list Pv h0 hl (fun i x H hi p => ?_) hd
  have e1 : wipe σ [j] = σ.set j none := rfl
  have e2 : (wipe σ [j]).set j (some x) = σ.set j (some x) := by rw [e1, List.set_set]
  unfold gName tYes
  rw [e2]
  dsimp only
  rw [if_pos rfl]
  refine ⟨?_, hs i x H hi p⟩
  show (σ.set j (some x)).set j none = σ.set j none
  rw [List.set_set]
theorem lct {K : PySem.W.Frag} {a : Addr} {xs : List V} {j : Nat} {te : TE} {σ : L2.St} {H1 : Hp} {D : Addr} {Qd : Hp → Prop} (Pv : Nat → Hp → Prop) (h0 : Pv 0 (upd H1 D (.lst []))) (hl : ∀ i H, i ≤ xs.length → Pv i H → SqT K H a xs)
    (hs : ∀ i x H, xs[i]? = some x → Pv i H → te (σ.set j (some x)) H fun y H4 => ∃ acc, H4 D = some (.lst acc) ∧ acc.length < sizeLine ∧ Pv (i + 1) (upd H4 D (.lst (acc ++ [y])))) (hd : ∀ H, Pv xs.length H → Qd H) :
    ∃ W : Nat → Nat → Hp → Prop, (∃ m, W 0 m (upd H1 D (.lst []))) ∧ ∀ i m H, W i m H →
      ((Itt K a).stop i H ∧ Qd H) ∨ ((Itt K a).go i H ∧ ∃ Nx : Hp → Prop, (∀ H', Nx H' → ∃ m', m' < m ∧ W (i + 1) m' H') ∧ ∀ x H', (Itt K a).yld i H x H' → gName j x (wipe σ [j]) H' fun σ2 H2 => wipe σ2 [j] = wipe σ [j] ∧ tYes σ2 H2 fun b H3 =>
        if b = true then te σ2 H3 fun y H4 => ∃ acc, H4 D = some (.lst acc) ∧ acc.length < sizeLine ∧ Nx (upd H4 D (.lst (acc ++ [y]))) else Nx H3) := by
  refine lc_tup Pv h0 hl (fun i x H hi p => ?_) hd
  have e1 : wipe σ [j] = σ.set j none := rfl
  have e2 : (wipe σ [j]).set j (some x) = σ.set j (some x) := by rw [e1, List.set_set]
  unfold gName tYes
  rw [e2]
  dsimp only
  rw [if_pos rfl]
  refine ⟨?_, hs i x H hi p⟩
  show (σ.set j (some x)).set j none = σ.set j none
  rw [List.set_set]
end SW

set_option Elab.async false
set_option linter.all false
set_option maxRecDepth 100000
set_option maxHeartbeats 4000000
namespace SW
open PySem PySem.Spec PyProof.Rows L2
/-! ### small data: at most n levels, at most 1000 items -/
def atomD : PyData → Prop
  | .none => True
  | .bool _ => True
  | .int _ => True
  | .str _ => True
  | _ => False
def Sm : Nat → PyData → Prop
  | _ + 1, .list ds => ds.length ≤ 1000 ∧ ∀ d, d ∈ ds → Sm ‹Nat› d
  | _ + 1, .tuple ds => ds.length ≤ 1000 ∧ ∀ d, d ∈ ds → Sm ‹Nat› d
  | _, .none => True
  | _, .bool _ => True
  | _, .int _ => True
  | _, .str _ => True
  | _, _ => False
theorem Sm.mono : ∀ {n m : Nat} {d : PyData}, Sm n d → n ≤ m → Sm m d
  | n, m, .none, _, _ => by cases m <;> (unfold Sm; trivial)
  | n, m, .bool _, _, _ => by cases m <;> (unfold Sm; trivial)
  | n, m, .int _, _, _ => by cases m <;> (unfold Sm; trivial)
  | n, m, .str _, _, _ => by cases m <;> (unfold Sm; trivial)
  | n + 1, m + 1, .list ds, h, l => by
    unfold Sm at h ⊢
    exact ⟨h.1, fun d q => (h.2 d q).mono (by omega)⟩
  | n + 1, m + 1, .tuple ds, h, l => by
    unfold Sm at h ⊢
    exact ⟨h.1, fun d q => (h.2 d q).mono (by omega)⟩
  | 0, m, .list ds, h, l => by unfold Sm at h; exact h.elim
  | 0, m, .tuple ds, h, l => by unfold Sm at h; exact h.elim
  | n + 1, 0, .list ds, h, l => by omega
  | n + 1, 0, .tuple ds, h, l => by omega
  | 0, m, .dict ds, h, l => by unfold Sm at h; exact h.elim
  | n + 1, m, .dict ds, h, l => by unfold Sm at h; exact h.elim
mutual
theorem W.sm {L : List Str} : ∀ w : W, w.Ok L → Sm (2 * w.dep) w.dat
  | .emp, h => by
    unfold W.dat W.dep
    show Sm 2 _
    unfold Sm
    refine ⟨by decide, fun d q => ?_⟩
    cases List.mem_singleton.mp q
    unfold Sm
    trivial
  | .ltr c, h => by
    unfold W.dat W.dep
    show Sm 2 _
    unfold Sm
    refine ⟨by show 2 ≤ 1000; decide, fun d q => ?_⟩
    simp only [List.mem_cons, List.not_mem_nil, or_false] at q
    rcases q with rfl | rfl <;> (unfold Sm; trivial)
  | .nam c, h => by
    unfold W.Ok at h
    exact h.elim
  | .join ws, h => by
    unfold W.Ok at h
    unfold W.dat W.dep
    show Sm (2 * W.deps ws + 1 + 1) _
    unfold Sm
    refine ⟨by show 2 ≤ 1000; decide, fun d q => ?_⟩
    simp only [List.mem_cons, List.not_mem_nil, or_false] at q
    rcases q with rfl | rfl
    · unfold Sm
      trivial
    · unfold Sm
      refine ⟨?_, fun d q => ?_⟩
      · rw [W.dats_map, List.length_map]
        omega
      · exact W.sms ws h.2 d q
  | .times w n, h => by
    unfold W.Ok at h
    unfold W.dat W.dep
    show Sm (2 * w.dep + 1 + 1) _
    unfold Sm
    refine ⟨by show 3 ≤ 1000; decide, fun d q => ?_⟩
    simp only [List.mem_cons, List.not_mem_nil, or_false] at q
    rcases q with rfl | rfl | rfl
    · unfold Sm
      trivial
    · exact (W.sm w h.2.2).mono (by omega)
    · unfold Sm
      trivial
  | .right w, h => by
    unfold W.Ok at h
    unfold W.dat W.dep
    show Sm (2 * w.dep + 1 + 1) _
    unfold Sm
    refine ⟨by show 2 ≤ 1000; decide, fun d q => ?_⟩
    simp only [List.mem_cons, List.not_mem_nil, or_false] at q
    rcases q with rfl | rfl
    · unfold Sm
      trivial
    · exact (W.sm w h).mono (by omega)
  | .left w, h => by
    unfold W.Ok at h
    unfold W.dat W.dep
    show Sm (2 * w.dep + 1 + 1) _
    unfold Sm
    refine ⟨by show 2 ≤ 1000; decide, fun d q => ?_⟩
    simp only [List.mem_cons, List.not_mem_nil, or_false] at q
    rcases q with rfl | rfl
    · unfold Sm
      trivial
    · exact (W.sm w h).mono (by omega)
theorem W.sms {L : List Str} : ∀ ws : List W, W.Oks L ws → ∀ d ∈ W.dats ws, Sm (2 * W.deps ws) d
  | [], h, d, q => by
    unfold W.dats at q
    exact (List.not_mem_nil q).elim
  | w :: r, h, d, q => by
    unfold W.Oks at h
    unfold W.dats at q
    unfold W.deps
    rcases List.mem_cons.mp q with rfl | q
    · exact (W.sm w h.1).mono (Nat.mul_le_mul_left 2 (Nat.le_max_left _ _))
    · exact (W.sms r h.2 d q).mono (Nat.mul_le_mul_left 2 (Nat.le_max_right _ _))
end
/-! ### what == asks of data -/
def strsOk (L : List Str) : Prop := ∀ c ∈ L, PyData.canLay0 (.str c) = true
theorem abc_ok : strsOk abcABC := by
  intro c h
  simp only [abcABC, List.mem_cons, List.not_mem_nil, or_false] at h
  rcases h with rfl | rfl | rfl | rfl | rfl | rfl <;> decide +kernel
mutual
theorem W.lay {L : List Str} (hL : strsOk L) : ∀ w : W, w.Ok L → w.dat.canLay0 = true
  | .emp, h => by
    unfold W.dat
    decide +kernel
  | .ltr c, h => by
    unfold W.Ok at h
    unfold W.dat
    have a := hL c h
    simp only [PyData.canLay0, PyData.canLayAll0, Bool.and_true] at a ⊢
    rw [a]
    decide +kernel
  | .nam c, h => by
    unfold W.Ok at h
    exact h.elim
  | .join ws, h => by
    unfold W.Ok at h
    unfold W.dat
    have a := W.lays hL ws h.2
    simp only [PyData.canLay0, PyData.canLayAll0, Bool.and_true]
    rw [a]
    decide +kernel
  | .times w n, h => by
    unfold W.Ok at h
    unfold W.dat
    have a := W.lay hL w h.2.2
    simp only [PyData.canLay0, PyData.canLayAll0, Bool.and_true]
    rw [a]
    decide +kernel
  | .right w, h => by
    unfold W.Ok at h
    unfold W.dat
    have a := W.lay hL w h
    simp only [PyData.canLay0, PyData.canLayAll0, Bool.and_true]
    rw [a]
    decide +kernel
  | .left w, h => by
    unfold W.Ok at h
    unfold W.dat
    have a := W.lay hL w h
    simp only [PyData.canLay0, PyData.canLayAll0, Bool.and_true]
    rw [a]
    decide +kernel
theorem W.lays {L : List Str} (hL : strsOk L) : ∀ ws : List W, W.Oks L ws → PyData.canLayAll0 (W.dats ws) = true
  | [], h => by
    unfold W.dats
    rfl
  | w :: r, h => by
    unfold W.Oks at h
    unfold W.dats
    simp only [PyData.canLayAll0]
    rw [W.lay hL w h.1, W.lays hL r h.2]
    rfl
end
mutual
theorem Sm.depth : ∀ (n : Nat) (d : PyData), Sm n d → d.depth ≤ n + 1
  | n, .none, _ => by simp [PyData.depth]
  | n, .bool _, _ => by simp [PyData.depth]
  | n, .int _, _ => by simp [PyData.depth]
  | n, .str _, _ => by simp [PyData.depth]
  | 0, .list ds, h => by unfold Sm at h; exact h.elim
  | 0, .tuple ds, h => by unfold Sm at h; exact h.elim
  | 0, .dict ds, h => by unfold Sm at h; exact h.elim
  | n + 1, .dict ds, h => by unfold Sm at h; exact h.elim
  | n + 1, .list ds, h => by
    unfold Sm at h
    have := Sm.depths n ds h.2
    unfold PyData.depth
    omega
  | n + 1, .tuple ds, h => by
    unfold Sm at h
    have := Sm.depths n ds h.2
    unfold PyData.depth
    omega
theorem Sm.depths : ∀ (n : Nat) (ds : List PyData), (∀ d ∈ ds, Sm n d) → PyData.depthAll ds ≤ n + 1
  | n, [], _ => by simp [PyData.depthAll]
  | n, d :: r, h => by
    have a := Sm.depth n d (h d (List.mem_cons_self ..))
    have b := Sm.depths n r fun x q => h x (List.mem_cons_of_mem _ q)
    unfold PyData.depthAll
    omega
end
end SW

set_option Elab.async false
set_option linter.all false
set_option maxRecDepth 100000
set_option maxHeartbeats 4000000
namespace SW
open PySem PySem.Spec PyProof.Rows L2
theorem W.shaped {L : List Str} (hL : strsOk L) {w : W} (h : w.Ok L) (hd : w.dep ≤ 30) : SeqAt.shaped w.dat = true := by
  unfold SeqAt.shaped
  rw [W.lay hL w h, decide_eq_true (p := w.dat.depth ≤ 64) (Nat.le_trans (Sm.depth _ _ (W.sm w h)) (by omega))]
  rfl
theorem W.eqv_refl {L : List Str} (hL : strsOk L) {w : W} (h : w.Ok L) : PyData.eqv w.dat w.dat = true := PySem.SeqAt.eqv_refl _ (W.lay hL w h)
/-! ### types of data -/
def tyN : PyData → String
  | .none => "NoneType"
  | .bool _ => "bool"
  | .int _ => "int"
  | .str _ => "str"
  | .list _ => "list"
  | .tuple _ => "tuple"
  | .dict _ => "dict"
theorem SqL.ty {K : PySem.W.Frag} {H : Hp} {a : Addr} {xs : List V} (h : SqL K H a xs) : TyX K H (.ref a) (.type "list") := by
  rcases h with (h | ⟨o, h⟩) | ⟨o, its, n, h, c, _⟩
  · exact .base (.lst h)
  · exact .base (.frz h)
  · exact .kList h c
theorem SqT.ty {K : PySem.W.Frag} {H : Hp} {a : Addr} {xs : List V} (h : SqT K H a xs) : TyX K H (.ref a) (.type "tuple") := by
  rcases h with (h | ⟨o, h⟩) | ⟨o, its, n, h, c, _⟩
  · exact .base (.tup h)
  · exact .fTuple h
  · exact .kTuple h c
theorem Dp.ty {K : PySem.W.Frag} {H : Hp} {v : V} {d : PyData} (h : Dp K H v d) : TyX K H v (.type (tyN d)) := by
  cases h with
  | non => exact .base .non
  | bl b => exact .base (.bl b)
  | int i => exact .base (.int i)
  | str x => exact .base (.str x)
  | lst s _ => exact SqL.ty s
  | tup s _ => exact SqT.ty s
/-- isinstance(x, T) of data at a slot -/
theorem rd_isi {K : PySem.W.Frag} {σ : L2.St} {H : Hp} {i : Nat} {v : V} {d : PyData} {n : String} {b : Bool} {Q : VK} (hσ : σ[i]? = some (some v)) (h : Dp K H v d) (k : kitB (tyN d) n = some b) (q : Q (.bl b) H) :
    tCB (rIsi K) (tCons (tVar i) (tCons (tC (.ty n)) tNil)) σ H Q := ⟨v, hσ, v, .ty n, _, _, b, rfl, .ty n, Dp.ty h, kit_ty k, q⟩
theorem walk_zipT {K : PySem.W.Frag} {a b : Addr} {xs ys : List V} {n : Nat} (hn : n = min xs.length ys.length) : Walk (RZ.ItzT K a b) n (fun H => SqT K H a xs ∧ SqT K H b ys) (YPair (fun i => xs[i]?) (fun i => ys[i]?)) := by
  subst hn
  refine ⟨fun i _ hi q => ?_, fun _ q => ⟨xs, ys, q.1, q.2, by omega⟩, fun i H v H' _ q y => ?_⟩
  · have h1 : i < xs.length := by omega
    have h2 : i < ys.length := by omega
    exact ⟨xs, ys, xs[i], ys[i], q.1, q.2, by simp [h1], by simp [h2]⟩
  · obtain ⟨T, x, z, h1, h2, h3, h4, h5⟩ := y
    exact ⟨T, x, z, h1, h2, h3, h4 xs q.1, h5 ys q.2⟩
/-- a comprehension over pairs -/
theorem lcz {K : PySem.W.Frag} {J : It} {n : Nat} {G : Hp → Prop} {fx fy : Nat → Option V} (w : Walk J n G (YPair fx fy)) {j1 j2 : Nat} (hj : j1 ≠ j2) {te : TE} {σ : L2.St} {H1 : Hp} {D : Addr} {Qd : Hp → Prop} (Pv : Nat → Hp → Prop) (h0 : Pv 0 (upd H1 D (.lst []))) (hG : ∀ i H, i ≤ n → Pv i H → G H)
    (hs : ∀ i x y T H, i < n → fx i = some x → fy i = some y → Pv i H → H T = none → te ((σ.set j1 (some x)).set j2 (some y)) (upd H T (.tup [x, y])) fun z H4 => ∃ acc, H4 D = some (.lst acc) ∧ acc.length < sizeLine ∧ Pv (i + 1) (upd H4 D (.lst (acc ++ [z])))) (hd : ∀ H, Pv n H → Qd H) :
    ∃ W : Nat → Nat → Hp → Prop, (∃ m, W 0 m (upd H1 D (.lst []))) ∧ ∀ i m H, W i m H →
      (J.stop i H ∧ Qd H) ∨ (J.go i H ∧ ∃ Nx : Hp → Prop, (∀ H', Nx H' → ∃ m', m' < m ∧ W (i + 1) m' H') ∧ ∀ x H', J.yld i H x H' → gTup K 2 (gCons (gName j1) (gCons (gName j2) gNil)) x (wipe σ [j1, j2]) H' fun σ2 H2 => wipe σ2 [j1, j2] = wipe σ [j1, j2] ∧ tYes σ2 H2 fun b H3 =>
        if b = true then te σ2 H3 fun y H4 => ∃ acc, H4 D = some (.lst acc) ∧ acc.length < sizeLine ∧ Nx (upd H4 D (.lst (acc ++ [y]))) else Nx H3) := by
  refine lc_it w Pv h0 hG (fun i v H H' hi p y => ?_) hd
  obtain ⟨T, x, y, rfl, hT, rfl, h1, h2⟩ := y
  have e0 : wipe σ [j1, j2] = (σ.set j2 none).set j1 none := rfl
  have e1 : ((wipe σ [j1, j2]).set j1 (some x)).set j2 (some y) = (σ.set j1 (some x)).set j2 (some y) := by
    rw [e0, List.set_set, List.set_comm _ _ hj.symm, List.set_set]
  refine ⟨T, [x, y], rfl, SqT.of upd_same, rfl, x, [y], rfl, y, [], rfl, rfl, ?_, ?_⟩
  · rw [e1]
    show ((((σ.set j1 (some x)).set j2 (some y))).set j2 none).set j1 none = (σ.set j2 none).set j1 none
    rw [List.set_set, List.set_comm _ _ hj, List.set_set]
  · rw [e1]
    unfold tYes
    dsimp only
    rw [if_pos rfl]
    exact hs i x y T H hi h1 h2 p hT
theorem DpAll.length {K : PySem.W.Frag} {H : Hp} : ∀ {ds : List PyData} {xs : List V}, DpAll K H xs ds → xs.length = ds.length
  | [], _, .nil => rfl
  | _ :: r, _, .cons _ t => by rw [List.length_cons, List.length_cons, DpAll.length t]
theorem DpAll.get {K : PySem.W.Frag} {H : Hp} : ∀ {ds : List PyData} {xs : List V} {i : Nat} {x : V}, DpAll K H xs ds → xs[i]? = some x → ∃ d, ds[i]? = some d ∧ Dp K H x d
  | [], _, i, x, .nil, e => by simp at e
  | d :: r, _, 0, x, .cons a t, e => by
    cases e
    exact ⟨d, rfl, a⟩
  | d :: r, _, i + 1, x, .cons a t, e => DpAll.get (i := i) t e
mutual
theorem Dp.same {K : PySem.W.Frag} {H H' : Hp} (s : Same H H') : ∀ (d : PyData) {v : V}, Dp K H v d → Dp K H' v d
  | .none, _, .non => .non
  | .bool b, _, .bl _ => .bl b
  | .int i, _, .int _ => .int i
  | .str x, _, .str _ => .str x
  | .list ds, _, .lst h a => .lst (s.seq h) (DpAll.same s ds a)
  | .tuple ds, _, .tup h a => .tup ((tp_same s).sq h) (DpAll.same s ds a)
theorem DpAll.same {K : PySem.W.Frag} {H H' : Hp} (s : Same H H') : ∀ (ds : List PyData) {vs : List V}, DpAll K H vs ds → DpAll K H' vs ds
  | [], _, .nil => .nil
  | d :: r, _, .cons a b => .cons (Dp.same s d a) (DpAll.same s r b)
end
theorem same_new {H : Hp} {p : Addr} {o : HO} (h : H p = none) : Same H (upd H p o) := fun b u e => by
  rw [upd_ne (ne_of_none e h)]
  exact e
theorem Same.kp {r : Addr} {H H' : Hp} (s : Same H H') : Kp r H H' := fun b o _ e => s b o e
/-- all of a row of True -/
theorem all_true (n : Nat) : (List.replicate n true).all id = true := by
  induction n with
  | zero => rfl
  | succ n ih => rw [List.replicate_succ, List.all_cons, ih]; rfl
theorem rep_snoc (n : Nat) : (List.replicate n true).map V.bl ++ [V.bl true] = (List.replicate (n + 1) true).map V.bl := by
  rw [List.replicate_succ', List.map_append]
  rfl
end SW

set_option Elab.async false
set_option linter.all false
set_option maxRecDepth 100000
set_option maxHeartbeats 4000000
namespace SW
open PySem PySem.Spec PyProof.Rows L2
/-! ### a starred text in a display -/
def signs (z : Str) : List V := z.cps.toList.map fun c => V.str ⟨#[c]⟩
theorem vals_of : ∀ {xs : List V} {us : List Value}, xs.length = us.length → (∀ (i : Nat) x u, xs[i]? = some x → us[i]? = some u → RelV x u) → Vals xs us
  | [], [], _, _ => .nil
  | x :: xs, u :: us, hl, h => .cons (h 0 x u rfl rfl) (vals_of (by simpa using hl) fun i a b p q => h (i + 1) a b p q)
section
variable {X : Cx} {pins : List (Addr × Obj)} {σ : L2.St} {H : Hp} {s : Shared}
theorem star_str {z : Str} {t : Tok} {E : Value → Shared → Prop} {Q : List Value → Shared → Prop} (hc : X.calm = true) (I : Inv X pins σ H s) (hz : z.cps.size ≤ sizeLine) (hQ : ∀ us s', Inv X pins σ H s' → Vals (signs z) us → Q us s') :
    PySem.W.StarOf (model X.prog X.w) X.A E (.str z t) Q s := by
  have z1 : wpAny (model X.prog X.w) X.A (collect (.str z t)) Q E s := by
    refine wpAny_collect_str (I.ok.hd hc) z t (fun s' acc hk hg hd ho hit => ?_) hz
    have e : s' = { s with heap := s'.heap, toks := s'.toks } := by
      cases s'
      cases s
      simp only at hg hd ho
      subst hg hd ho
      rfl
    rw [e]
    refine hQ acc.toList _ (I.kept (t' := s'.toks) hk) (vals_of ?_ fun i x u p q => ?_)
    · unfold signs
      rw [List.length_map, Array.length_toList, Array.length_toList]
      exact hit.1.symm
    · have q' : acc[i]? = some u := by rw [Array.getElem?_toList] at q; exact q
      obtain ⟨c, tk, h1, h2⟩ := hit.2 i u q'
      unfold signs at p
      rw [List.getElem?_map, Array.getElem?_toList, h1] at p
      cases p
      exact ⟨tk, h2⟩
  unfold PySem.W.StarOf notIterableAtAll
  exact wpAny_bind (wpAny_specialOf (T := "str") (v := .str z t) rfl PySem.F.slot_str_iter.lookup (wpAny_pure ⟨rfl, z1⟩))
end
def tStarS (te : TE) (t : TA) : TA := fun σ H Q => te σ H fun x H1 => ∃ z, x = V.str z ∧ z.cps.size ≤ sizeLine ∧ t σ H1 fun ys H2 => Q (signs z ++ ys) H2
theorem pa_starS {X : Cx} {e : Expr} {es : List Expr} {te : TE} {t : TA} {p : Pos} (hc : X.calm = true) (he : PE X e te) (hr : PA X es t) (hs : starEach (.Starred e p :: es) X.env = (true, eval e X.env) :: starEach es X.env := by rfl) : PA X (.Starred e p :: es) (tStarS te t) := by
  refine ⟨fun pos pins s σ H Q I h => ?_⟩
  refine PySem.W.items_star (thn (he.run pins s σ H _ I h) fun v s1 ⟨y, H1, I1, ry, z, ey, hz, q⟩ => ?_) hs
  subst ey
  obtain ⟨tk, rfl⟩ := (show ∃ t, v = Value.str z t from ry)
  refine star_str hc I1 hz fun us s2 I2 rv => ?_
  exact thn (hr.run pos pins s2 σ H1 _ I2 q) fun ws s3 ⟨vs, H3, I3, r3, q3⟩ => ⟨signs z ++ vs, H3, I3, rv.append r3, q3⟩
/-! ### tests of texts -/
theorem eq_no {a b : Str} {A B : Prop} (h : a ≠ b) (q : B) : ∃ k, V.bl (decide (V.str a = V.str b)) = V.bl k ∧ if k = true then A else B :=
  ⟨false, by rw [decide_eq_false]; intro e; exact h (V.str.inj e), q⟩
theorem eq_yes {a b : Str} {A B : Prop} (h : a = b) (q : A) : ∃ k, V.bl (decide (V.str a = V.str b)) = V.bl k ∧ if k = true then A else B :=
  ⟨true, by rw [h, decide_eq_true rfl], q⟩
/-- membership of a text among texts -/
theorem inV_str {c : Str} : ∀ {L : List Str}, inV (.str c) (L.map V.str) = decide (c ∈ L)
  | [] => rfl
  | a :: r => by
    have ih := inV_str (c := c) (L := r)
    unfold inV at ih ⊢
    rw [List.map_cons, List.any_cons, ih]
    show ((a == c) || decide (c ∈ r)) = _
    by_cases h : a = c
    · subst h
      simp
    · have h' : ¬ c = a := fun e => h e.symm
      simp [h, h']
theorem in_no {c : Str} (L : List Str) {A B : Prop} (h : c ∉ L) (q : B) : ∃ k, V.bl (if false = true then !inV (.str c) (L.map V.str) else inV (.str c) (L.map V.str)) = V.bl k ∧ if k = true then A else B := by
  refine ⟨false, ?_, q⟩
  rw [if_neg (by decide), inV_str, decide_eq_false h]
theorem in_yes {c : Str} (L : List Str) {A B : Prop} (h : c ∈ L) (q : A) : ∃ k, V.bl (if false = true then !inV (.str c) (L.map V.str) else inV (.str c) (L.map V.str)) = V.bl k ∧ if k = true then A else B := by
  refine ⟨true, ?_, q⟩
  rw [if_neg (by decide), inV_str, decide_eq_true h]
/-! ### counts -/
mutual
def W.cnt (L : List Str) : W → Option Int
  | .emp => some 0
  | .ltr c => some (if c ∈ L then 1 else 0)
  | .nam _ => some 0
  | .join ws => W.cnts L ws
  | .times w n => if 0 < n then (w.cnt L).map (· * n) else some 0
  | .right w => if w.cnt L = some 0 then some 0 else none
  | .left w => if w.cnt L = some 0 then some 0 else none
def W.cnts (L : List Str) : List W → Option Int
  | [] => some 0
  | w :: r => match w.cnt L, W.cnts L r with
    | some a, some b => some (a + b)
    | _, _ => none
end
def toV : Option Int → V
  | none => .non
  | some m => .int m
def toL : Option Int → Int
  | none => -1
  | some m => m
theorem cnt_emp {L : List Str} : W.cnt L .emp = some 0 := by rw [W.cnt]
theorem cnt_ltr {L : List Str} {c : Str} : W.cnt L (.ltr c) = some (if c ∈ L then 1 else 0) := by rw [W.cnt]
theorem cnt_join {L : List Str} {ws : List W} : W.cnt L (.join ws) = W.cnts L ws := by rw [W.cnt]
theorem cnt_times {L : List Str} {t : W} {n : Int} : W.cnt L (.times t n) = if 0 < n then (t.cnt L).map (· * n) else some 0 := by rw [W.cnt]
theorem cnt_right {L : List Str} {t : W} : W.cnt L (.right t) = if t.cnt L = some 0 then some 0 else none := by rw [W.cnt]
theorem cnt_left {L : List Str} {t : W} : W.cnt L (.left t) = if t.cnt L = some 0 then some 0 else none := by rw [W.cnt]
theorem W.cnts_none {L : List Str} : ∀ {ws : List W}, none ∈ ws.map (W.cnt L) → W.cnts L ws = none
  | w :: r, h => by
    unfold W.cnts
    rcases List.mem_cons.mp h with e | h
    · rw [← e]
    · rw [W.cnts_none h]
      split <;> simp_all
theorem W.cnts_some {L : List Str} : ∀ {ws : List W}, none ∉ ws.map (W.cnt L) → W.cnts L ws = some ((ws.map fun w => toL (w.cnt L)).sum)
  | [], _ => by
    unfold W.cnts
    rfl
  | w :: r, h => by
    unfold W.cnts
    rw [List.map_cons, List.mem_cons, not_or] at h
    rw [W.cnts_some h.2, List.map_cons, List.sum_cons]
    cases e : w.cnt L with
    | none => exact absurd e.symm h.1
    | some a => rfl
mutual
theorem W.cnt_bd {M L : List Str} : ∀ (w : W) {m : Int}, w.Ok M → w.cnt L = some m → 0 ≤ m ∧ m < 2 ^ (110 * w.dep)
  | .emp, m, o, e => by
    unfold W.cnt at e
    cases e
    exact ⟨by decide, by unfold W.dep; decide⟩
  | .ltr c, m, o, e => by
    unfold W.cnt at e
    unfold W.dep
    split at e <;> (cases e; exact ⟨by decide, by decide⟩)
  | .nam c, m, o, e => by
    unfold W.Ok at o
    exact o.elim
  | .join ws, m, o, e => by
    unfold W.Ok at o
    unfold W.cnt at e
    have h := W.cnts_bd ws o.2 e
    unfold W.dep
    refine ⟨h.1, ?_⟩
    have h2 : m ≤ (ws.length : Int) * 2 ^ (110 * W.deps ws) := h.2
    have h3 : (2 : Int) ^ (110 * (W.deps ws + 1)) = 2 ^ (110 * W.deps ws) * 2 ^ 110 := by rw [← Int.pow_add]; rfl
    have h4 : (0 : Int) < 2 ^ (110 * W.deps ws) := Int.pow_pos (by decide)
    have h5 : (ws.length : Int) * 2 ^ (110 * W.deps ws) ≤ 3 * 2 ^ (110 * W.deps ws) := Int.mul_le_mul_of_nonneg_right (by omega) (Int.le_of_lt h4)
    have h6 : (2 : Int) ^ 110 = 1298074214633706907132624082305024 := by decide
    rw [h3, h6]
    generalize (2 : Int) ^ (110 * W.deps ws) = z at *
    omega
  | .times w n, m, o, e => by
    unfold W.Ok at o
    unfold W.cnt at e
    unfold W.dep
    have h4 : (0 : Int) < 2 ^ (110 * w.dep) := Int.pow_pos (by decide)
    have h3 : (2 : Int) ^ (110 * (w.dep + 1)) = 2 ^ (110 * w.dep) * 2 ^ 110 := by rw [← Int.pow_add]; rfl
    have h6 : (2 : Int) ^ 110 = 1298074214633706907132624082305024 := by decide
    rw [h3, h6]
    split at e
    · cases g : w.cnt L with
      | none =>
        rw [g] at e
        cases e
      | some a =>
        rw [g] at e
        have e' : a * n = m := Option.some.inj e
        have h := W.cnt_bd w o.2.2 g
        subst e'
        refine ⟨Int.mul_nonneg h.1 o.1, ?_⟩
        have a1 : a * n ≤ a * 1000000000000000000000000000000 := Int.mul_le_mul_of_nonneg_left o.2.1 h.1
        generalize (2 : Int) ^ (110 * w.dep) = z at *
        have := h.2
        omega
    · cases e
      generalize (2 : Int) ^ (110 * w.dep) = z at *
      omega
  | .right w, m, o, e => by
    unfold W.cnt at e
    split at e
    · cases e
      exact ⟨by decide, Int.pow_pos (by decide)⟩
    · cases e
  | .left w, m, o, e => by
    unfold W.cnt at e
    split at e
    · cases e
      exact ⟨by decide, Int.pow_pos (by decide)⟩
    · cases e
theorem W.cnts_bd {M L : List Str} : ∀ (ws : List W) {m : Int}, W.Oks M ws → W.cnts L ws = some m → 0 ≤ m ∧ m ≤ (ws.length : Int) * 2 ^ (110 * W.deps ws)
  | [], m, o, e => by
    unfold W.cnts at e
    cases e
    exact ⟨by decide, by simp⟩
  | w :: r, m, o, e => by
    unfold W.Oks at o
    unfold W.cnts at e
    unfold W.deps
    split at e
    · rename_i a b ea eb
      have e' : a + b = m := Option.some.inj e
      have h1 := W.cnt_bd w o.1 ea
      have h2 := W.cnts_bd r o.2 eb
      subst e'
      refine ⟨by omega, ?_⟩
      have p1 : (2 : Int) ^ (110 * w.dep) ≤ 2 ^ (110 * max w.dep (W.deps r)) := by
        have := Nat.pow_le_pow_right (n := 2) (by decide) (Nat.mul_le_mul_left 110 (Nat.le_max_left w.dep (W.deps r)))
        exact_mod_cast this
      have p2 : (2 : Int) ^ (110 * W.deps r) ≤ 2 ^ (110 * max w.dep (W.deps r)) := by
        have := Nat.pow_le_pow_right (n := 2) (by decide) (Nat.mul_le_mul_left 110 (Nat.le_max_right w.dep (W.deps r)))
        exact_mod_cast this
      have p3 : (r.length : Int) * 2 ^ (110 * W.deps r) ≤ (r.length : Int) * 2 ^ (110 * max w.dep (W.deps r)) := Int.mul_le_mul_of_nonneg_left p2 (by omega)
      have p4 : (((w :: r).length : Nat) : Int) * 2 ^ (110 * max w.dep (W.deps r)) = (r.length : Int) * 2 ^ (110 * max w.dep (W.deps r)) + 2 ^ (110 * max w.dep (W.deps r)) := by
        rw [List.length_cons]
        push_cast
        rw [Int.add_mul, Int.one_mul]
      rw [p4]
      omega
    · cases e
end
theorem W.cnt_abs {M L : List Str} {w : W} {m : Int} (o : w.Ok M) (e : w.cnt L = some m) : m.natAbs < 2 ^ (110 * w.dep) := by
  have h := W.cnt_bd w o e
  have : ((m.natAbs : Nat) : Int) < ((2 ^ (110 * w.dep) : Nat) : Int) := by
    rw [Int.natAbs_of_nonneg h.1]
    push_cast
    exact h.2
  exact_mod_cast this
theorem flat_strs (L : List Str) : (L.map V.str).all flatV = true := by
  rw [List.all_map]
  exact List.all_eq_true.mpr fun x _ => rfl
theorem inV_non : ∀ {cs : List (Option Int)}, inV .non (cs.map toV) = decide (none ∈ cs)
  | [] => rfl
  | c :: r => by
    have ih := inV_non (cs := r)
    unfold inV at ih ⊢
    rw [List.map_cons, List.any_cons, ih]
    cases c with
    | none =>
      show (true || _) = _
      simp
    | some m =>
      show (false || _) = _
      simp
theorem flat_toV (cs : List (Option Int)) : (cs.map toV).all flatV = true := by
  rw [List.all_map]
  exact List.all_eq_true.mpr fun x _ => by cases x <;> rfl
theorem toV_ints : ∀ {cs : List (Option Int)}, none ∉ cs → cs.map toV = (cs.map toL).map V.int
  | [], _ => rfl
  | c :: r, h => by
    rw [List.mem_cons, not_or] at h
    rw [List.map_cons, List.map_cons, List.map_cons, toV_ints h.2]
    cases c with
    | none => exact absurd rfl h.1
    | some m => rfl
theorem inV_int {m : Int} : ∀ {ns : List Int}, inV (.int m) (ns.map V.int) = decide (m ∈ ns)
  | [] => rfl
  | a :: r => by
    have ih := inV_int (m := m) (ns := r)
    unfold inV at ih ⊢
    rw [List.map_cons, List.any_cons, ih]
    show ((a == m) || decide (m ∈ r)) = _
    by_cases h : a = m
    · subst h
      simp
    · have h' : ¬ m = a := fun e => h e.symm
      simp [h, h']
theorem flat_ints (ns : List Int) : (ns.map V.int).all flatV = true := by
  rw [List.all_map]
  exact List.all_eq_true.mpr fun x _ => rfl
end SW

set_option Elab.async false
set_option linter.all false
set_option maxRecDepth 100000
set_option maxHeartbeats 4000000
namespace SW
open PySem PySem.Spec PyProof.Rows L2
def W.parts : W → List W
  | .join ws => ws
  | .times w _ => [w]
  | .right w => [w]
  | .left w => [w]
  | _ => []
theorem W.parts_mem {L : List Str} {t x : W} (o : t.Ok L) (h : x ∈ t.parts) : x.Ok L ∧ x.dep + 1 ≤ t.dep := by
  cases t with
  | join ws =>
    unfold W.Ok at o
    have := W.deps_mem (ws := ws) h
    refine ⟨W.oks_mem h o.2, ?_⟩
    rw [W.dep]
    omega
  | times w n =>
    unfold W.Ok at o
    cases List.mem_singleton.mp h
    exact ⟨o.2.2, by rw [W.dep]; omega⟩
  | right w =>
    unfold W.Ok at o
    cases List.mem_singleton.mp h
    exact ⟨o, by rw [W.dep]; omega⟩
  | left w =>
    unfold W.Ok at o
    cases List.mem_singleton.mp h
    exact ⟨o, by rw [W.dep]; omega⟩
  | emp => exact (List.not_mem_nil h).elim
  | ltr c => exact (List.not_mem_nil h).elim
  | nam c => exact (List.not_mem_nil h).elim
theorem W.parts_len {L : List Str} {t : W} (o : t.Ok L) : t.parts.length ≤ 3 := by
  cases t with
  | join ws =>
    unfold W.Ok at o
    exact o.1
  | _ => simp [W.parts]
/-- the law's counts of the parts -/
def W.cs (L : List Str) (t : W) : List Int := t.parts.map fun x => toL (x.cnt L)
theorem toL_neg {M L : List Str} {x : W} (o : x.Ok M) : toL (x.cnt L) = -1 ↔ x.cnt L = none := by
  cases e : x.cnt L with
  | none => exact ⟨fun _ => rfl, fun _ => rfl⟩
  | some m =>
    have h := (W.cnt_bd x o e).1
    refine ⟨fun q => ?_, fun q => by cases q⟩
    have q' : m = -1 := q
    omega
theorem cs_neg {M L : List Str} {t : W} (o : t.Ok M) (hl : ∀ c, t ≠ .ltr c) (ht : ∀ x n, t = .times x n → n ≠ 0) (h : (-1 : Int) ∈ t.cs L) : toL (t.cnt L) = -1 := by
  unfold W.cs at h
  obtain ⟨x, hx, e⟩ := List.mem_map.mp h
  have ox := (W.parts_mem o hx).1
  have en := (toL_neg ox).mp e
  cases t with
  | join ws =>
    rw [cnt_join, W.cnts_none (ws := ws) (List.mem_map.mpr ⟨x, hx, en⟩)]
    rfl
  | times w n =>
    unfold W.Ok at o
    cases List.mem_singleton.mp hx
    have := ht _ n rfl
    rw [cnt_times, if_pos (by omega), en]
    rfl
  | right w =>
    cases List.mem_singleton.mp hx
    rw [cnt_right, en, if_neg (by intro h; cases h)]
    rfl
  | left w =>
    cases List.mem_singleton.mp hx
    rw [cnt_left, en, if_neg (by intro h; cases h)]
    rfl
  | emp => exact (List.not_mem_nil hx).elim
  | ltr c => exact (List.not_mem_nil hx).elim
  | nam c => exact (List.not_mem_nil hx).elim
theorem cs_join {M L : List Str} {ws : List W} (o : (W.join ws).Ok M) (h : ¬ (-1 : Int) ∈ (W.join ws).cs L) : toL ((W.join ws).cnt L) = ((W.join ws).cs L).sum := by
  have hn : none ∉ ws.map (W.cnt L) := fun q => by
    obtain ⟨x, hx, e⟩ := List.mem_map.mp q
    exact h (List.mem_map.mpr ⟨x, hx, (toL_neg (W.parts_mem o hx).1).mpr e⟩)
  rw [cnt_join, W.cnts_some hn]
  rfl
theorem cs_times {M L : List Str} {x : W} {n : Int} (o : (W.times x n).Ok M) (hn : n ≠ 0) (h : ¬ (-1 : Int) ∈ (W.times x n).cs L) : toL ((W.times x n).cnt L) = toL (x.cnt L) * n := by
  unfold W.Ok at o
  have h1 : x.cnt L ≠ none := fun q => h (List.mem_map.mpr ⟨x, List.mem_singleton.mpr rfl, (toL_neg o.2.2).mpr q⟩)
  rw [cnt_times, if_pos (by omega)]
  cases e : x.cnt L with
  | none => exact absurd e h1
  | some m => rfl
theorem cs_end {M L : List Str} {x : W} (o : x.Ok M) : toL (if x.cnt L = some 0 then some 0 else none) = if toL (x.cnt L) = 0 then 0 else -1 := by
  cases e : x.cnt L with
  | none => rw [if_neg (by intro h; cases h), if_neg (by decide)]; rfl
  | some m =>
    show _ = if m = 0 then 0 else -1
    by_cases h : m = 0
    · subst h
      rw [if_pos rfl, if_pos rfl]
      rfl
    · rw [if_neg (by intro q; cases q; exact h rfl), if_neg h]
      rfl
theorem toL_abs {M L : List Str} {x : W} (o : x.Ok M) : (toL (x.cnt L)).natAbs < 2 ^ (110 * x.dep) := by
  cases e : x.cnt L with
  | none =>
    show (1 : Nat) < _
    have := x.dep_pos
    exact Nat.one_lt_two_pow (by omega)
  | some m => exact W.cnt_abs o e
/-! ### letters in lowercase -/
mutual
def W.low : W → W
  | .emp => .emp
  | .ltr c => .ltr (Txt.lower c)
  | .nam c => .nam c
  | .join ws => .join (W.lows ws)
  | .times w n => .times w.low n
  | .right w => .right w.low
  | .left w => .left w.low
def W.lows : List W → List W
  | [] => []
  | w :: r => w.low :: W.lows r
end
theorem lows_map : ∀ ws : List W, W.lows ws = ws.map W.low
  | [] => by rw [W.lows]; rfl
  | w :: r => by rw [W.lows, lows_map r]; rfl
theorem low_abc : ∀ c ∈ abcABC, Txt.lower c ∈ abc := by
  intro c h
  simp only [abcABC, List.mem_cons, List.not_mem_nil, or_false] at h
  rcases h with rfl | rfl | rfl | rfl | rfl | rfl <;> decide +kernel
theorem low_same : ∀ c ∈ abc, Txt.lower c = c := by
  intro c h
  simp only [abc, List.mem_cons, List.not_mem_nil, or_false] at h
  rcases h with rfl | rfl | rfl <;> decide +kernel
theorem len_abc : ∀ c ∈ abcABC, c.length ≤ 5592405 := by
  intro c h
  simp only [abcABC, List.mem_cons, List.not_mem_nil, or_false] at h
  rcases h with rfl | rfl | rfl | rfl | rfl | rfl <;> decide +kernel
mutual
theorem W.low_ok : ∀ w : W, w.Ok abcABC → w.low.Ok abc
  | .emp, h => by rw [W.low]; unfold W.Ok; trivial
  | .ltr c, h => by rw [W.low]; unfold W.Ok at h ⊢; exact low_abc c h
  | .nam c, h => by unfold W.Ok at h; exact h.elim
  | .join ws, h => by
    rw [W.low]
    unfold W.Ok at h ⊢
    exact ⟨by rw [lows_map, List.length_map]; exact h.1, W.lows_ok ws h.2⟩
  | .times w n, h => by rw [W.low]; unfold W.Ok at h ⊢; exact ⟨h.1, h.2.1, W.low_ok w h.2.2⟩
  | .right w, h => by rw [W.low]; unfold W.Ok at h ⊢; exact W.low_ok w h
  | .left w, h => by rw [W.low]; unfold W.Ok at h ⊢; exact W.low_ok w h
theorem W.lows_ok : ∀ ws : List W, W.Oks abcABC ws → W.Oks abc (W.lows ws)
  | [], h => by rw [W.lows]; unfold W.Oks; trivial
  | w :: r, h => by rw [W.lows]; unfold W.Oks at h ⊢; exact ⟨W.low_ok w h.1, W.lows_ok r h.2⟩
theorem W.low_id : ∀ w : W, w.Ok abc → w.low = w
  | .emp, h => by rw [W.low]
  | .ltr c, h => by unfold W.Ok at h; rw [W.low, low_same c h]
  | .nam c, h => by rw [W.low]
  | .join ws, h => by unfold W.Ok at h; rw [W.low, W.lows_id ws h.2]
  | .times w n, h => by unfold W.Ok at h; rw [W.low, W.low_id w h.2.2]
  | .right w, h => by unfold W.Ok at h; rw [W.low, W.low_id w h]
  | .left w, h => by unfold W.Ok at h; rw [W.low, W.low_id w h]
theorem W.lows_id : ∀ ws : List W, W.Oks abc ws → W.lows ws = ws
  | [], h => by rw [W.lows]
  | w :: r, h => by unfold W.Oks at h; rw [W.lows, W.low_id w h.1, W.lows_id r h.2]
end
mutual
theorem W.low_dep : ∀ w : W, w.low.dep = w.dep
  | .emp => by rw [W.low]
  | .ltr c => by rw [W.low, W.dep, W.dep]
  | .nam c => by rw [W.low]
  | .join ws => by rw [W.low, W.dep, W.dep, W.lows_dep ws]
  | .times w n => by rw [W.low, W.dep, W.dep, W.low_dep w]
  | .right w => by rw [W.low, W.dep, W.dep, W.low_dep w]
  | .left w => by rw [W.low, W.dep, W.dep, W.low_dep w]
theorem W.lows_dep : ∀ ws : List W, W.deps (W.lows ws) = W.deps ws
  | [] => by rw [W.lows]
  | w :: r => by rw [W.lows, W.deps, W.deps, W.low_dep w, W.lows_dep r]
end
end SW

set_option Elab.async false
set_option linter.all false
set_option maxRecDepth 100000
set_option maxHeartbeats 4000000
namespace SW
open PySem PySem.Spec PyProof.Rows L2
theorem int_eqv {a b : Int} : PyData.eqv (.list [.int a]) (.list [.int b]) = decide (a = b) := by
  simp only [PyData.eqv, PyData.eqvAll, Bool.and_true]
  rfl
theorem int_shaped {a : Int} : SeqAt.shaped (.list [.int a]) = true := by
  unfold SeqAt.shaped
  simp [PyData.canLay0, PyData.canLayAll0, PyData.depth, PyData.depthAll]
theorem ne_yes {a b : Str} {A B : Prop} (h : a ≠ b) (q : A) : ∃ k, V.bl (!decide (V.str a = V.str b)) = V.bl k ∧ if k = true then A else B :=
  ⟨true, by rw [decide_eq_false (fun e => h (V.str.inj e))]; rfl, q⟩
theorem ne_no {a b : Str} {A B : Prop} (h : a = b) (q : B) : ∃ k, V.bl (!decide (V.str a = V.str b)) = V.bl k ∧ if k = true then A else B :=
  ⟨false, by rw [h, decide_eq_true rfl]; rfl, q⟩
theorem up_abc : ∀ c ∈ abc, Txt.upper c ∈ abcABC := by
  intro c h
  simp only [abc, List.mem_cons, List.not_mem_nil, or_false] at h
  rcases h with rfl | rfl | rfl <;> decide +kernel
theorem low_emp : W.low .emp = .emp := by rw [W.low]
theorem low_ltr {c : Str} : W.low (.ltr c) = .ltr (Txt.lower c) := by rw [W.low]
theorem low_join {ws : List W} : W.low (.join ws) = .join (ws.map W.low) := by rw [W.low, lows_map]
theorem low_times {t : W} {n : Int} : W.low (.times t n) = .times t.low n := by rw [W.low]
theorem low_right {t : W} : W.low (.right t) = .right t.low := by rw [W.low]
theorem low_left {t : W} : W.low (.left t) = .left t.low := by rw [W.low]
theorem wvs_snoc {K : PySem.W.Frag} {H : Hp} {f : W → W} {ws : List W} {acc : List V} {i : Nat} {y : V} {t : W} (e : ws[i]? = some t) (h : WVs K H acc ((ws.take i).map f)) (hy : WV K H y (f t)) : WVs K H (acc ++ [y]) ((ws.take (i + 1)).map f) := by
  rw [List.take_add_one, e]
  show WVs K H (acc ++ [y]) ((ws.take i ++ [t]).map f)
  rw [List.map_append]
  exact WVs.app hy h
theorem cutV_ints (ns : List Int) (lo hi : Option Int) : ∃ ms : List Int, cutV (ns.map V.int) lo hi = ms.map V.int := by
  unfold cutV
  exact ⟨(ns.drop (HT.sIx (ns.map V.int).length 0 lo)).take (HT.sIx (ns.map V.int).length (ns.map V.int).length hi - HT.sIx (ns.map V.int).length 0 lo), by rw [List.map_take, List.map_drop]⟩
/-! ### numbers and lists of them as data -/
def toD : Option Int → PyData
  | none => .none
  | some m => .int m
theorem toD_v {K : PySem.W.Frag} {H : Hp} (o : Option Int) : Dp K H (toV o) (toD o) := by
  cases o with
  | none => exact .non
  | some m => exact .int m
theorem toD_sm (o : Option Int) (n : Nat) : Sm n (toD o) := by
  cases o with
  | none => cases n <;> (unfold toD Sm; trivial)
  | some m => cases n <;> (unfold toD Sm; trivial)
theorem cnt_nonneg {M L : List Str} {t : W} (o : t.Ok M) : ∀ m, t.cnt L = some m → 0 ≤ m := fun m e => (W.cnt_bd t o e).1
theorem ints_sm {ds : List Int} {n : Nat} (h : ds.length ≤ 1000) : Sm (n + 1) (.list (ds.map PyData.int)) := by
  unfold Sm
  refine ⟨by rw [List.length_map]; exact h, fun d q => ?_⟩
  obtain ⟨i, _, rfl⟩ := List.mem_map.mp q
  cases n <;> (unfold Sm; trivial)
theorem ints_dp {K : PySem.W.Frag} {H : Hp} : ∀ ds : List Int, DpAll K H (ds.map V.int) (ds.map PyData.int)
  | [] => .nil
  | d :: r => .cons (.int d) (ints_dp r)
/-! ### a comprehension of one name over any walk of given items -/
theorem lcw {J : It} {n : Nat} {G : Hp → Prop} {xs : List V} (w : Walk J n G (YAt xs)) {j : Nat} {te : TE} {σ : L2.St} {H1 : Hp} {D : Addr} {Qd : Hp → Prop} (Pv : Nat → Hp → Prop) (h0 : Pv 0 (upd H1 D (.lst []))) (hG : ∀ i H, i ≤ n → Pv i H → G H)
    (hs : ∀ i x H, i < n → xs[i]? = some x → Pv i H → te (σ.set j (some x)) H fun y H4 => ∃ acc, H4 D = some (.lst acc) ∧ acc.length < sizeLine ∧ Pv (i + 1) (upd H4 D (.lst (acc ++ [y])))) (hd : ∀ H, Pv n H → Qd H) :
    ∃ W : Nat → Nat → Hp → Prop, (∃ m, W 0 m (upd H1 D (.lst []))) ∧ ∀ i m H, W i m H →
      (J.stop i H ∧ Qd H) ∨ (J.go i H ∧ ∃ Nx : Hp → Prop, (∀ H', Nx H' → ∃ m', m' < m ∧ W (i + 1) m' H') ∧ ∀ x H', J.yld i H x H' → gName j x (wipe σ [j]) H' fun σ2 H2 => wipe σ2 [j] = wipe σ [j] ∧ tYes σ2 H2 fun b H3 =>
        if b = true then te σ2 H3 fun y H4 => ∃ acc, H4 D = some (.lst acc) ∧ acc.length < sizeLine ∧ Nx (upd H4 D (.lst (acc ++ [y]))) else Nx H3) := by
  refine lc_it w Pv h0 hG (fun i x H H' hi p y => ?_) hd
  obtain ⟨rfl, e⟩ := y
  have e1 : wipe σ [j] = σ.set j none := rfl
  have e2 : (wipe σ [j]).set j (some x) = σ.set j (some x) := by rw [e1, List.set_set]
  unfold gName tYes
  rw [e2]
  dsimp only
  rw [if_pos rfl]
  refine ⟨?_, hs i x H' hi e p⟩
  show (σ.set j (some x)).set j none = σ.set j none
  rw [List.set_set]
theorem walk_revT {K : PySem.W.Frag} {a : Addr} {xs : List V} : Walk (RT.ItvT K a xs.length) xs.length (fun H => SqT K H a xs) (YAt xs.reverse) := by
  refine ⟨fun i H hi q => ⟨hi, xs, xs[xs.length - 1 - i], q, by rw [List.getElem?_eq_getElem (by omega)]⟩, fun H q => Nat.le_refl _, fun i H x H' hi q y => ?_⟩
  obtain ⟨e, f⟩ := y
  refine ⟨e, ?_⟩
  rw [List.getElem?_reverse hi]
  exact f xs q
/-! ### a tuple read backwards by a slice -/
section
variable {prog : Program} {w : World} {A : Around} {E : Value → Shared → Prop} {s : Shared}
theorem back_applied {sl : Addr} {vs : Value} {n : Nat} {Q : Int × Int × Nat → Shared → Prop} (hs : s.heap.IsSliceOf sl .none .none vs) (ps : IsPart vs (some (-1))) (h : Q ((n : Int) - 1, -1, n) s) :
    wpAny (model prog w) A (Builtin.Slice.sliceApplied (.ref sl) (pure (n : Int))) Q E s := by
  obtain ⟨ob, ho, hc, hd⟩ := id hs
  unfold Builtin.Slice.sliceApplied Builtin.Slice.sliceFields
  refine wpAny_bind (wpAny_bind (wpAny_field ho hd (x := .none) rfl (wpAny_bind (wpAny_field ho hd (x := .none) rfl (wpAny_bind (wpAny_field ho hd (x := vs) rfl (wpAny_pure ?_)))))))
  refine wpAny_bind (HT.slicePart_ ps ?_)
  show wpAny _ _ (if ((-1 : Int) == 0) = true then _ else _) _ _ s
  rw [if_neg (by decide)]
  refine wpAny_bind (slicePart_none (wpAny_bind (slicePart_none (wpAny_bind (wpAny_pure ?_)))))
  have e : Builtin.Slice.slicePlaces ((n : Int) - 1) (-1) (-1) = n := by
    unfold Builtin.Slice.slicePlaces
    have h1 : ¬ ((-1 : Int) > 0) := by decide
    have h2 : (- -1 : Int) = 1 := by decide
    simp only [h1, if_false, h2, Int.ediv_one]
    split <;> omega
  show wpAny _ _ (pure ((n : Int) - 1, (-1 : Int), Builtin.Slice.slicePlaces ((n : Int) - 1) (-1) (-1))) _ _ s
  rw [e]
  exact wpAny_pure h
theorem fmap_same {α β : Type} {f g : α → Option β} : ∀ {l : List α}, (∀ x ∈ l, f x = g x) → l.filterMap f = l.filterMap g
  | [], _ => rfl
  | x :: r, h => by
    have ih := fmap_same (f := f) (g := g) (l := r) fun y q => h y (List.mem_cons_of_mem _ q)
    rw [List.filterMap_cons, List.filterMap_cons, h x (List.mem_cons_self ..), ih]
theorem back_pick (xs : Array Value) : ((List.range xs.size).filterMap fun (m : Nat) => xs[(((xs.size : Int) - 1) + (m : Int) * -1).toNat]?).toArray = xs.toList.reverse.toArray := by
  have e : (List.range xs.size).filterMap (fun (m : Nat) => xs[(((xs.size : Int) - 1) + (m : Int) * -1).toNat]?) = ((List.range xs.size).map fun k => xs.size - 1 - k).filterMap (xs[·]?) := by
    rw [List.filterMap_map]
    refine fmap_same fun m hm => ?_
    have := List.mem_range.mp hm
    have q : (((xs.size : Int) - 1) + (m : Int) * -1).toNat = xs.size - 1 - m := by omega
    rw [q]
    rfl
  rw [e, PySem.W.krv_range, List.filterMap_reverse, PySem.W.krv_all]
theorem back_tuple {t sl : Addr} {items : Array Value} {vs : Value} {Q : Value → Shared → Prop} (hT : IsTup s.heap t items) (hs : s.heap.IsSliceOf sl .none .none vs) (ps : IsPart vs (some (-1)))
    (h : Q (.ref s.heap.objs.size) { s with heap := s.heap.push { cls := .type "tuple", data := .seq items.toList.reverse.toArray } }) (hz : items.size ≤ sizeLine) : wpAny (model prog w) A (getItem (.ref t) (.ref sl)) Q E s := by
  have hk : sizeOk (.seq items.toList.reverse.toArray) := by
    show items.toList.reverse.toArray.size ≤ sizeLine
    rw [List.size_toArray, List.length_reverse, Array.length_toList]
    exact hz
  obtain ⟨ob, ho, hc, hd⟩ := id hs
  have hS : s.TypeIs (.ref sl) "slice" := ⟨ob, ho, hc⟩
  unfold getItem
  try with_reducible refine wpAny_holding ?_
  first | refine wpAny_bind (wpAny_pure ?_) | skip
  refine wpAny_bind (wpAny_sequenceKey hT.typeIs (by decide) ?_)
  refine wpAny_bind (wpAny_callSpecial?_slot (name := Str.ofString "__getitem__") hT.typeIs PyProof.Rows.slot_tuple_getitem (wpAny_call_entry PyProof.Rows.slot_tuple_getitem hT.typeIs entry_tuple_getitem ?_ (args_tuple_getitem _ _)))
  show wpAny _ _ (Builtin.Tuple.tupleItemsOf (.ref t) >>= _) _ _ s
  refine wpAny_bind (tupleItemsOf_ hT ?_)
  refine wpAny_bind (wpAny_typeOf hS ?_)
  rw [if_pos (by decide)]
  refine wpAny_bind (back_applied hs ps ?_)
  have hno : ¬ ((((items.size : Int) - 1) == 0 && (-1 : Int) == 1 && items.size == items.size) = true) := by
    intro q
    rw [Bool.and_eq_true, Bool.and_eq_true] at q
    exact absurd (eq_of_beq q.1.2) (by decide)
  show wpAny _ _ (if (((items.size : Int) - 1) == 0 && (-1 : Int) == 1 && items.size == items.size) = true then _ else _) _ _ s
  rw [if_neg hno, back_pick]
  first
    | exact wpAny_bind (m := Builtin.Tuple.tupleExact _) (wpAny_newObj_type (wpAny_pure ⟨_, rfl, wpAny_pure h⟩) hk)
    | exact wpAny_bind (m := Builtin.Tuple.tupleExact _) (wpAny_newObj_type (wpAny_bind (wpAny_pure (wpAny_pure ⟨_, rfl, wpAny_pure h⟩))) hk)
    | exact wpAny_bind (wpAny_bind (m := Builtin.Tuple.tupleExact _) (wpAny_newObj_type (wpAny_pure (wpAny_pure ⟨_, rfl, wpAny_pure h⟩)) hk))
    | exact wpAny_bind (wpAny_bind (m := Builtin.Tuple.tupleExact _) (wpAny_newObj_type (wpAny_pure ⟨_, rfl, wpAny_pure h⟩) hk))
end
def tRevT (K : PySem.W.Frag) (te : TE) : TE := fun σ H Q => te σ H fun x H1 => ∃ a xs, x = .ref a ∧ SqT K H1 a xs ∧ ∀ p, H1 p = none → Q (.ref p) (upd H1 p (.tup xs.reverse))
theorem pe_revT {X : Cx} {e : Expr} {te : TE} {k : Nat} {p1 p2 p3 pos : Pos} (he : PE X e te) : PE X (.Subscript e (.Slice none none (some (.UnaryOp .USub (.Constant (.int 1) k p1) p2)) p3) pos) (tRevT X.K te) := by
  refine ⟨fun pins s σ H Q I h => ?_⟩
  refine Subscript_ (thn (he.run pins s σ H _ I h) fun v s1 ⟨x, H1, I1, r1, q1⟩ => ?_)
  obtain ⟨a, xs, rfl, hx, q⟩ := q1
  cases r1
  have hst : PO X (some (.UnaryOp .USub (.Constant (.int 1) k p1) p2)) (tPart (tUn (rU fun i => .int (-i)) (tC (.int 1)))) := po_some (pe_un un_neg pe_int)
  refine wpAny_Slice (thn (po_none.run pins s1 σ H1 (fun o H2 => o = none ∧ H2 = H1) I1 ⟨rfl, rfl⟩) fun vl s2 ⟨l, H2, I2, pl, el, e2⟩ => ?_)
  subst el e2
  refine thn (po_none.run pins s2 σ H2 (fun o H3 => o = none ∧ H3 = H2) I2 ⟨rfl, rfl⟩) fun vu s3 ⟨u, H3, I3, pu, eu, e3⟩ => ?_
  subst eu e3
  refine thn (hst.run pins s3 σ H3 (fun o H4 => o = some (-1) ∧ H4 = H3) I3 ⟨1, rfl, -1, rfl, rfl, rfl⟩) fun vs s4 ⟨o, H4, I4, ps, eo, e4⟩ => ?_
  subst eo e4
  cases pl
  cases pu
  have I5 : Inv X pins σ H4 { s4 with heap := s4.heap.push { cls := .type "slice", data := .fields #[.none, .none, vs] } } := I4.kept (t' := s4.toks) fun b ob q => Heap.get?_push_of_some _ q
  obtain ⟨its, r, hT, hz⟩ := I5.tuple hx
  have hl := r.length
  refine tail_any (ops := [.ref a, .ref s4.heap.objs.size]) hT.typeIs PyProof.Rows.slot_tuple_getitem.lookup ?_ (by with_unfolding_all rfl)
  refine back_tuple hT (Heap.IsSliceOf.new _ .none .none vs) ps ?_ (by rw [List.size_toArray]; omega)
  refine ⟨.ref _, _, I5.laid (t' := s4.toks) (o := .tup xs.reverse) (fun b ob q => Heap.get?_push_of_some _ q) (Nat.le_refl _) ?_, rfl, q _ (I5.hok.fresh (Nat.le_refl _))⟩
  refine ⟨by rw [List.length_reverse]; exact hz, its.reverse, r.reverse, ?_⟩
  have e : its.toArray.toList.reverse = its.reverse := by simp
  rw [e]
  exact IsTup.new _ _
theorem WVs.rev {K : PySem.W.Frag} {H : Hp} : ∀ {ws : List W} {xs : List V}, WVs K H xs ws → WVs K H xs.reverse ws.reverse
  | [], xs, h => by
    unfold WVs W.dats at h
    cases h
    exact wvs_nil
  | w :: r, xs, h => by
    unfold WVs W.dats at h
    cases h with | cons a b => ?_
    rw [List.reverse_cons, List.reverse_cons]
    exact WVs.app a (WVs.rev (ws := r) b)
/-! ### words turned round -/
mutual
def W.mir : W → W
  | .emp => .emp
  | .ltr c => .ltr c
  | .nam c => .nam c
  | .join ws => .join (W.mirs ws).reverse
  | .times w n => .times w.mir n
  | .right w => .left w.mir
  | .left w => .right w.mir
def W.mirs : List W → List W
  | [] => []
  | w :: r => w.mir :: W.mirs r
end
theorem mirs_map : ∀ ws : List W, W.mirs ws = ws.map W.mir
  | [] => by rw [W.mirs]; rfl
  | w :: r => by rw [W.mirs, mirs_map r]; rfl
theorem mir_emp : W.mir .emp = .emp := by rw [W.mir]
theorem mir_ltr {c : Str} : W.mir (.ltr c) = .ltr c := by rw [W.mir]
theorem mir_join {ws : List W} : W.mir (.join ws) = .join (ws.reverse.map W.mir) := by rw [W.mir, mirs_map, List.map_reverse]
theorem mir_times {t : W} {n : Int} : W.mir (.times t n) = .times t.mir n := by rw [W.mir]
theorem mir_right {t : W} : W.mir (.right t) = .left t.mir := by rw [W.mir]
theorem mir_left {t : W} : W.mir (.left t) = .right t.mir := by rw [W.mir]
mutual
theorem W.mir_mir : ∀ w : W, w.mir.mir = w
  | .emp => by rw [mir_emp, mir_emp]
  | .ltr c => by rw [mir_ltr, mir_ltr]
  | .nam c => by rw [W.mir, W.mir]
  | .join ws => by
    rw [mir_join, mir_join, ← List.map_reverse, List.reverse_reverse, List.map_map]
    have := W.mirs_mirs ws
    rw [mirs_map, mirs_map, List.map_map] at this
    rw [this]
  | .times w n => by rw [mir_times, mir_times, W.mir_mir w]
  | .right w => by rw [mir_right, mir_left, W.mir_mir w]
  | .left w => by rw [mir_left, mir_right, W.mir_mir w]
theorem W.mirs_mirs : ∀ ws : List W, W.mirs (W.mirs ws) = ws
  | [] => by rw [W.mirs, W.mirs]
  | w :: r => by rw [W.mirs, W.mirs, W.mir_mir w, W.mirs_mirs r]
end
mutual
theorem W.mir_ok {L : List Str} : ∀ w : W, w.Ok L → w.mir.Ok L
  | .emp, h => by rw [mir_emp]; exact h
  | .ltr c, h => by rw [mir_ltr]; exact h
  | .nam c, h => by unfold W.Ok at h; exact h.elim
  | .join ws, h => by
    rw [W.mir]
    unfold W.Ok at h ⊢
    refine ⟨by rw [List.length_reverse, mirs_map, List.length_map]; exact h.1, W.oks_of fun t q => ?_⟩
    exact W.oks_mem (List.mem_reverse.mp q) (W.mirs_ok ws h.2)
  | .times w n, h => by rw [mir_times]; unfold W.Ok at h ⊢; exact ⟨h.1, h.2.1, W.mir_ok w h.2.2⟩
  | .right w, h => by rw [mir_right]; unfold W.Ok at h ⊢; exact W.mir_ok w h
  | .left w, h => by rw [mir_left]; unfold W.Ok at h ⊢; exact W.mir_ok w h
theorem W.mirs_ok {L : List Str} : ∀ ws : List W, W.Oks L ws → W.Oks L (W.mirs ws)
  | [], h => by rw [W.mirs]; exact h
  | w :: r, h => by rw [W.mirs]; unfold W.Oks at h ⊢; exact ⟨W.mir_ok w h.1, W.mirs_ok r h.2⟩
end
theorem deps_rev {ws : List W} : W.deps ws.reverse = W.deps ws := by
  refine Nat.le_antisymm (W.deps_le fun w h => W.deps_mem (List.mem_reverse.mp h)) (W.deps_le fun w h => W.deps_mem (List.mem_reverse.mpr h))
mutual
theorem W.mir_dep : ∀ w : W, w.mir.dep = w.dep
  | .emp => by rw [mir_emp]
  | .ltr c => by rw [mir_ltr]
  | .nam c => by rw [W.mir]
  | .join ws => by rw [W.mir, W.dep, W.dep, deps_rev, W.mirs_dep ws]
  | .times w n => by rw [mir_times, W.dep, W.dep, W.mir_dep w]
  | .right w => by rw [mir_right, W.dep, W.dep, W.mir_dep w]
  | .left w => by rw [mir_left, W.dep, W.dep, W.mir_dep w]
theorem W.mirs_dep : ∀ ws : List W, W.deps (W.mirs ws) = W.deps ws
  | [] => by rw [W.mirs]
  | w :: r => by rw [W.mirs, W.deps, W.deps, W.mir_dep w, W.mirs_dep r]
end
theorem cnts_rev {L : List Str} {ws : List W} : W.cnts L ws.reverse = W.cnts L ws := by
  by_cases h : none ∈ ws.map (W.cnt L)
  · rw [W.cnts_none h, W.cnts_none (by rw [List.map_reverse]; exact List.mem_reverse.mpr h)]
  · rw [W.cnts_some h, W.cnts_some (by rw [List.map_reverse]; exact fun q => h (List.mem_reverse.mp q)), List.map_reverse, List.sum_reverse]
mutual
theorem W.mir_cnt {L : List Str} : ∀ w : W, w.mir.cnt L = w.cnt L
  | .emp => by rw [mir_emp]
  | .ltr c => by rw [mir_ltr]
  | .nam c => by rw [W.mir]
  | .join ws => by rw [W.mir, cnt_join, cnt_join, cnts_rev, W.mirs_cnt ws]
  | .times w n => by rw [mir_times, cnt_times, cnt_times, W.mir_cnt w]
  | .right w => by rw [mir_right, cnt_right, cnt_left, W.mir_cnt w]
  | .left w => by rw [mir_left, cnt_left, cnt_right, W.mir_cnt w]
theorem W.mirs_cnt {L : List Str} : ∀ ws : List W, W.cnts L (W.mirs ws) = W.cnts L ws
  | [] => by rw [W.mirs]
  | w :: r => by rw [W.mirs, W.cnts, W.cnts, W.mir_cnt w, W.mirs_cnt r]
end
end SW

set_option Elab.async false
set_option linter.all false
set_option maxRecDepth 100000
set_option maxHeartbeats 4000000
/-! ### sets of texts: a list of the members, each once -/
namespace SW
open PySem PySem.Spec PyProof.Rows L2
def kS (e : Int × Value) : Str := match e.2 with
  | .str k _ => k
  | _ => ⟨#[]⟩
def GdS (w : World) (e : Int × Value) : Prop := ∃ k tk, e.2 = Value.str k tk ∧ e.1 = hashStr w k
def insS (l : List Str) (k : Str) : List Str := if k ∈ l then l else l ++ [k]
/-- a set of the texts l at a, which can be walked -/
def SetL (w : World) (h : Heap) (a : Addr) (l : List Str) : Prop :=
  ∃ o es ep t, h.get? a = some o ∧ o.ExactSet ∧ o.data = .set es ep t ∧ (∀ e ∈ es.toList, GdS w e) ∧ (es.toList.map kS).Perm l ∧ l.Nodup ∧
    l.length < scanBound ∧ t.fits es.size = true ∧ Ris t.place.toList ∧ (w.params.followText "set-order" = true ∨ t.led = true)
theorem insS_nodup {l : List Str} {k : Str} (h : l.Nodup) : (insS l k).Nodup := by
  unfold insS
  split
  · exact h
  · rename_i hk
    rw [List.nodup_append]
    refine ⟨h, by simp, fun a ha b hb => ?_⟩
    rw [List.mem_singleton.mp hb]
    exact fun e => hk (e ▸ ha)
theorem mem_insS {l : List Str} {k x : Str} : x ∈ insS l k ↔ x ∈ l ∨ x = k := by
  unfold insS
  split
  · rename_i hk
    exact ⟨.inl, fun q => q.elim id fun e => e ▸ hk⟩
  · rw [List.mem_append, List.mem_singleton]
theorem insS_len {l : List Str} {k : Str} : (insS l k).length ≤ l.length + 1 := by
  unfold insS
  split
  · omega
  · rw [List.length_append, List.length_singleton]; omega
section
variable {P : Program} {w : World} {h h' : Heap} {a : Addr} {l : List Str}
theorem SetL.at (R : SetL w h a l) (k : ∀ o, h.get? a = some o → h'.get? a = some o) : SetL w h' a l := by
  obtain ⟨o, es, ep, t, ho, r⟩ := R
  exact ⟨o, es, ep, t, k o ho, r⟩
theorem gdS_elems {es : List (Int × Value)} (g : ∀ e ∈ es, GdS w e) : ElemsOf (strKind P w) es := fun e he => by
  obtain ⟨k, tk, h1, h2⟩ := g e he
  refine ⟨⟨k, ?_, h2⟩, ?_⟩
  · rw [h1]
    exact strKind_is P w k tk
  · rw [h1] <;> rfl
theorem gdS_is {e : Int × Value} (g : GdS w e) (k : Str) : (strKind P w).is k e.2 = true ↔ kS e = k := by
  obtain ⟨k0, tk, h1, _⟩ := g
  unfold kS
  rw [h1]
  constructor
  · intro q
    obtain ⟨t, e⟩ := Value.isStrOf_shape (show Value.isStrOf k (.str k0 tk) = true from q)
    cases e
    rfl
  · intro q
    have q' : k0 = k := q
    rw [q']
    exact strKind_is P w k tk
theorem gdS_mem {es : List (Int × Value)} (g : ∀ e ∈ es, GdS w e) (k : Str) : k ∈ es.map kS ↔ ∃ e ∈ es, (strKind P w).is k e.2 = true := by
  rw [List.mem_map]
  exact ⟨fun ⟨e, he, q⟩ => ⟨e, he, (gdS_is (g e he) k).2 q⟩, fun ⟨e, he, q⟩ => ⟨e, he, (gdS_is (g e he) k).1 q⟩⟩
theorem SetL.size (R : SetL w h a l) : ∃ o es ep t, h.get? a = some o ∧ o.data = .set es ep t ∧ es.size = l.length := by
  obtain ⟨o, es, ep, t, ho, _, hd, _, pm, _⟩ := R
  refine ⟨o, es, ep, t, ho, hd, ?_⟩
  have := pm.length_eq
  rw [List.length_map, Array.length_toList] at this
  exact this
theorem SetL.setOf (R : SetL w h a l) : h.SetOf (strKind P w) a (fun k => decide (k ∈ l)) l.length := by
  obtain ⟨o, es, ep, t, ho, hx, hd, g, pm, nd, hb, hf, _⟩ := R
  have hz : es.size = l.length := by
    have := pm.length_eq
    rw [List.length_map, Array.length_toList] at this
    exact this
  refine ⟨o, es, ep, t, ho, hx, hd, gdS_elems g, fun k => ?_, by rw [hz]; exact hb, hf, hz⟩
  rw [decide_eq_true_eq, ← pm.mem_iff]
  exact gdS_mem g k
end
section
variable {P : Program} {w : World} {A : Around} {E : Value → Shared → Prop} {s : Shared} {a : Addr} {l : List Str}
theorem stS_at {h : Heap} {o : Obj} {es es' : Array (Int × Value)} {ep : Nat} {t t' : SetTable} (ho : h.get? a = some o) (hd : o.data = .set es ep t) : (h.update a (Obj.putSet es' t')).get? a = some { o with data := .set es' (ep + 1) t' } :=
  PpSet.storeB_at ho hd
theorem setL_tail {g : Bool → Sem Unit} (hg : ∀ (b : Bool) (s₁ : Shared) (Q' : Unit → Shared → Prop), Q' () s₁ → wpAny (model P w) A (g b) Q' E s₁)
    {o : Obj} {es es1 : Array (Int × Value)} {ep : Nat} {t t2 : SetTable} {l' : List Str} {wd : Bool} {R : Option Bool → Shared → Prop} (ho : s.heap.get? a = some o) (hex : o.ExactSet) (hd : o.data = .set es ep t)
    (g1 : ∀ e ∈ es1.toList, GdS w e) (pm1 : (es1.toList.map kS).Perm l') (nd1 : l'.Nodup) (hb1 : l'.length < scanBound) (hf2 : t2.fits es1.size = true) (hr : Ris t2.place.toList) (hl : w.params.followText "set-order" = true ∨ t2.led = true)
    (hR : ∀ h', Heap.SameBut a s.heap h' → SetL w h' a l' → R (some true) { s with heap := h' }) :
    wpAny (model P w) A (storeSet a es1 t2 >>= fun _ => if (!wd && t2.tooFull) = true then
      (g (relayAll t2 es1 (SetTable.grown es1.size)).2.2 >>= fun _ => storeSet a (relayAll t2 es1 (SetTable.grown es1.size)).1 (relayAll t2 es1 (SetTable.grown es1.size)).2.1 >>= fun _ => pure (some true)) else pure (some true)) R E s := by
  have z1 : es1.size = l'.length := by
    have := pm1.length_eq
    rw [List.length_map, Array.length_toList] at this
    exact this
  refine wpAny_bind (wpAny_storeSet_of ho hd ?_ (fits_of_scanBound (by rw [z1]; exact hb1)))
  have o1 := stS_at (es' := es1) (t' := t2) ho hd
  have b1 := Heap.SameBut.update s.heap a (Obj.putSet es1 t2)
  split
  · have p2 := relayAll_perm t2 es1 (SetTable.grown es1.size)
    have f2 := relayAll_fits t2 es1 (SetTable.grown es1.size)
    have r2 := relayAll_ris t2 es1 (SetTable.grown es1.size)
    have l2 := relayAll_led t2 es1 (SetTable.grown es1.size)
    revert p2 f2 r2 l2
    generalize relayAll t2 es1 (SetTable.grown es1.size) = Z
    obtain ⟨es2, t3, gv⟩ := Z
    intro p2 f2 r2 l2
    have z2 : es2.size = l'.length := by rw [← z1, ← Array.length_toList, p2.length_eq, Array.length_toList]
    refine wpAny_bind (hg _ _ _ ?_)
    refine wpAny_bind (wpAny_storeSet_of o1 rfl ?_ (fits_of_scanBound (by rw [z2]; exact hb1)))
    have o2 := stS_at (es' := es2) (t' := t3) o1 rfl
    exact wpAny_pure (hR _ (b1.trans (Heap.SameBut.update _ a _)) ⟨_, es2, _, t3, o2, hex, rfl, fun e he => g1 e (p2.mem_iff.mp he), (p2.map kS).trans pm1, nd1, hb1, f2, r2, hl.imp id fun z => l2.trans z⟩)
  · exact wpAny_pure (hR _ b1 ⟨_, es1, _, t2, o1, hex, rfl, g1, pm1, nd1, hb1, hf2, hr, hl⟩)
theorem setL_add_hashed {k : Str} {tk : Tok} {Q : Bool → Shared → Prop} (R : SetL w s.heap a l) (room : l.length + 1 < scanBound)
    (hQ : ∀ b h', Heap.SameBut a s.heap h' → SetL w h' a (insS l k) → Q b { s with heap := h' }) : wpAny (model P w) A (setAddHashed a (.str k tk) ((strKind P w).hash k)) Q E s := by
  obtain ⟨o, es, ep, t, ho, hex, hd, g, pm, nd, hb, hf, hr, hl⟩ := R
  have z0 : es.size = l.length := by
    have := pm.length_eq
    rw [List.length_map, Array.length_toList] at this
    exact this
  have hb0 : es.size < scanBound := by rw [z0]; exact hb
  have hkey : (strKind P w).is k (.str k tk) = true := strKind_is P w k tk
  have hsc : (Value.str k tk).scannable = true := rfl
  have hel : ElemsOf (strKind P w) es.toList := gdS_elems g
  unfold setAddHashed setAddHashedIn
  refine wpAny_holding (wpAny_bind (wpAny_setState_of ho hd hf ?_))
  dsimp only
  rw [byScan_of hsc hb0 hel]
  simp only [↓reduceIte]
  unfold setAddByScan
  refine wpAny_bind (wpAny_bind (wpAny_rule (wpAny_bind (wpAny_setScan_of hkey ho hd hf hel ?_))))
  cases hfi : List.findIdx? (fun e => (strKind P w).is k e.2) es.toList with
  | some j =>
    dsimp only
    obtain ⟨hj, pj, _⟩ := List.findIdx?_eq_some_iff_getElem.mp hfi
    have hk : k ∈ l := pm.mem_iff.mp ((gdS_mem (P := P) g k).2 ⟨es.toList[j], List.getElem_mem hj, pj⟩)
    have e : insS l k = l := by unfold insS; rw [if_pos hk]
    exact wpAny_pure (wpAny_pure (hQ _ s.heap (Heap.SameBut.refl a s.heap) (by rw [e]; exact ⟨o, es, ep, t, ho, hex, hd, g, pm, nd, hb, hf, hr, hl⟩)))
  | none =>
    dsimp only
    have hk : k ∉ l := fun z => by
      obtain ⟨e, he, q⟩ := (gdS_mem (P := P) g k).1 (pm.mem_iff.mpr z)
      have c := List.findIdx?_eq_none_iff.mp hfi e he
      rw [q] at c
      cases c
    have e : insS l k = l ++ [k] := by unfold insS; rw [if_neg hk]
    rw [e] at hQ
    have gw : ∀ (b : Bool) {s₁ : Shared} {Q' : Unit → Shared → Prop}, Q' () s₁ → wpAny (model P w) A (match b with | true => rule "set.scan.the-table-gave-way" | false => pure ()) Q' E s₁ :=
      fun b s₁ Q' q => by cases b <;> first | exact wpAny_pure q | exact wpAny_rule q
    have p1 := layNew_perm t es ((strKind P w).hash k) (.str k tk)
    have f1 := layNew_fits t es ((strKind P w).hash k) (.str k tk)
    have r1 := layNew_ris t es ((strKind P w).hash k) (.str k tk) hr
    have l1 := layNew_led t es ((strKind P w).hash k) (.str k tk)
    revert p1 f1 r1 l1
    generalize layNew t es ((strKind P w).hash k) (.str k tk) = Z
    obtain ⟨es1, t1, wd, gv⟩ := Z
    intro p1 f1 r1 l1
    dsimp only at p1 f1 r1 l1 ⊢
    rw [Array.toList_push] at p1
    have pk : (es1.toList.map kS).Perm (l ++ [k]) := by
      have := p1.map kS
      rw [List.map_append] at this
      exact this.trans (pm.append_right _)
    have g1 : ∀ e ∈ es1.toList, GdS w e := fun e he => by
      rcases List.mem_append.mp (p1.mem_iff.mp he) with z | z
      · exact g e z
      · rw [List.mem_singleton.mp z]
        exact ⟨k, tk, rfl, rfl⟩
    have nd1 : (l ++ [k]).Nodup := by
      have := insS_nodup (k := k) nd
      rwa [e] at this
    have hb1 : (l ++ [k]).length < scanBound := by rw [List.length_append]; exact room
    have led : w.params.followText "set-order" = true ∨ t1.led = true := hl.imp id fun z => l1.trans z
    refine wpAny_bind (gw _ ?_)
    split
    · refine wpAny_bind ?_
      rw [hashByValue_scannable 8 hsc]
      refine wpAny_pure ?_
      refine setL_tail (fun b s₁ Q' q => by cases b <;> first | exact wpAny_pure q | exact wpAny_rule q) ho hex hd g1 pk nd1 hb1 ?_ ?_ ?_ fun h' sb r => ?_
      · first | exact f1 | (split <;> first | exact f1 | exact SetTable.fits_plain_off f1)
      · first | exact r1 | (split <;> exact r1)
      · first | exact led | (split <;> exact led)
      · dsimp only
        exact wpAny_pure (hQ _ h' sb r)
    · refine wpAny_bind (wpAny_pure ?_)
      simp only [↓reduceIte]
      refine setL_tail (fun b s₁ Q' q => by cases b <;> first | exact wpAny_pure q | exact wpAny_rule q) ho hex hd g1 pk nd1 hb1 f1 r1 led fun h' sb r => ?_
      dsimp only
      exact wpAny_pure (hQ _ h' sb r)
theorem setL_add {k : Str} {tk : Tok} {Q : Value → Shared → Prop} (R : SetL w s.heap a l) (room : l.length + 1 < scanBound)
    (hQ : ∀ h' t', Heap.SameBut a s.heap h' → SetL w h' a (insS l k) → Q .none { s with heap := h', toks := t' }) : wpAny (model P w) A (call (.builtin "set.add") [.ref a, .str k tk]) Q E s := by
  have hS : s.heap.SetOf (strKind P w) a (fun k => decide (k ∈ l)) l.length := R.setOf
  refine wpAny_call_entry F.slot_set_add hS.typeIs F.entry_set_add ?_ (F.args_set_add_2 _ _)
  unfold Builtin.«set.add» Builtin.Frozenset.oneOther
  simp only [List.isEmpty_nil, bind_assoc]
  unfold Builtin.Frozenset.addrOf setAdd
  refine wpAny_bind (wpAny_pure ?_)
  try dsimp only
  refine wpAny_bind (wpAny_pure ?_)
  try dsimp only
  refine wpAny_bind (wpAny_holding (wpAny_bind ((strKind P w).pyHash (strKind_is P w k tk) ?_)))
  refine setL_add_hashed (s := { s with toks := s.toks + 1 }) R room fun b h' sb r => ?_
  show wpAny _ _ (ret Value.none) _ _ _
  exact wpAny_pure ⟨_, rfl, hQ h' _ sb r⟩
theorem setL_fresh {h : Heap} (w : World) : SetL w (h.push { cls := .type "set", dict := none, data := .set #[] 0 (.fresh 0 0 (!w.params.followText "set-order")) }) h.objs.size [] := by
  refine ⟨_, #[], 0, _, Heap.get?_push_size _ rfl, ⟨rfl, rfl, rfl⟩, rfl, fun e he => by simp at he, List.Perm.refl _, List.nodup_nil, by decide, rfl, List.Pairwise.nil, ?_⟩
  cases hb : w.params.followText "set-order"
  · exact .inr rfl
  · exact .inl rfl
/-! ### sorted of such a set -/
theorem kS_strs {es : List Value} (g : ∀ v ∈ es, ∃ k tk, v = Value.str k tk) : StrsAre es (es.map fun v => kS (0, v)) := by
  induction es with
  | nil => exact .nil
  | cons v r ih =>
    obtain ⟨k, tk, rfl⟩ := g v (List.mem_cons_self ..)
    exact .cons k tk (ih fun u hu => g u (List.mem_cons_of_mem _ hu))
theorem sorted_setL {Q : Value → Shared → Prop} (R : SetL w s.heap a l) (hh : A.handled = none) (h64 : l.length < 64)
    (hQ : ∀ s' p (out : Array Value) (c : Nat) (ys : List Str), (∀ b o, s.heap.get? b = some o → s'.heap.get? b = some o) → s'.gens = s.gens → s'.os = s.os → s.heap.objs.size ≤ p →
      s'.heap.get? p = some (seqObj "list" out c) → StrsAre out.toList ys → ys.Perm l → sortedS ys = true → Q (.ref p) s') : wpAny (model P w) A (call (.builtin "sorted") [.ref a]) Q E s := by
  obtain ⟨o, es, ep, t, ho, hex, hd, g, pm, nd, hb, hf, hr, hl⟩ := R
  have z0 : es.size = l.length := by
    have := pm.length_eq
    rw [List.length_map, Array.length_toList] at this
    exact this
  refine Calls.call_function_entry kind_sorted plain_sorted entry_sorted (args_sorted1 _) ?_
  unfold Builtin.«sorted»
  refine wpAny_bind (m := checkCount "sorted" 1 1 _) (wpAny_pure ?_)
  refine wpAny_bind (collect_set (A := A.in1) hh ⟨o, ho, hex.1, hd⟩ hf (by rw [z0]; exact hb) hr hl fun s1 vs k1 hz g1 o1 pm1 => ?_)
  have hvl : vs.length = l.length := by rw [pm1.length_eq, List.length_map, Array.length_toList, z0]
  have hv64 : vs.length < 64 := by rw [hvl]; exact h64
  have hS : StrsAre vs (vs.map fun v => kS (0, v)) := kS_strs fun v hv => by
    obtain ⟨e, he, q⟩ := List.mem_map.mp (pm1.mem_iff.mp hv)
    obtain ⟨k, tk, h1, _⟩ := g e he
    exact ⟨k, tk, by rw [← q]; exact h1⟩
  have pk : (vs.map fun v => kS (0, v)).Perm l := by
    have q := pm1.map fun v => kS (0, v)
    rw [List.map_map] at q
    exact q.trans pm
  refine wpAny_bind (wpAny_newList ?_ (by rw [sizeLine_eq]; omega))
  have hoL : (s1.heap.push (seqObj "list" vs.toArray 0)).get? s1.heap.objs.size = some (seqObj "list" vs.toArray 0) := Heap.get?_push_size _ rfl
  refine wpAny_bind (wpAny_holding (wpAny_call_entry slot_list_sort ⟨_, hoL, rfl⟩ entry_list_sort (list_sort_treeK strKind_oneLt hoL hS.keysOf (fun v₁ v₂ rest e => keyKind_strs (by rw [← e]; exact hS)) hv64 fun st' hp hs => ⟨_, rfl, ?_⟩) (args_list_sort _)))
  obtain ⟨ys, y1, y2, y3⟩ := sorted_out_str hS hp hs
  obtain ⟨c, hc⟩ := sortedHeap_at (vs := vs) (out := (arrOf st').map (·.2)) hoL
  refine wpAny_pure ⟨_, rfl, hQ _ s1.heap.objs.size ((arrOf st').map (·.2)) c ys (fun b u e => ?_) g1 o1 hz hc y1 (y2.trans pk) y3⟩
  have q := k1 b u e
  have hlt := Heap.lt_size q
  show (sortedHeap (s1.heap.push (seqObj "list" vs.toArray 0)) s1.heap.objs.size vs ((arrOf st').map (·.2))).get? b = some u
  rw [sortedHeap_old (Nat.ne_of_lt hlt) (by rw [size_push']; exact Nat.lt_succ_of_lt hlt)]
  exact Heap.get?_push_of_some _ q
end
end SW

set_option Elab.async false
set_option linter.all false
set_option maxRecDepth 100000
set_option maxHeartbeats 4000000
/-! ### sets of texts over the layer: a display, comprehensions, sorted -/
namespace SW
open PySem PySem.Spec PyProof.Rows L2
abbrev emptySet (w : World) : Obj := { cls := .type "set", dict := none, data := .set #[] 0 (.fresh 0 0 (!w.params.followText "set-order")) }
/-- the set of the texts l at a -/
def SetLO (w : World) (a : Addr) (l : List Str) : HO := .ext fun h => SetL w h a l
theorem setLO_ok {w : World} {P : Program} {H : Hp} {h : Heap} {a : Addr} {l : List Str} (R : SetL w h a l) : ObjOk P w H h a (SetLO w a l) := by
  have ⟨o, _, _, _, ho, _⟩ := R
  exact ⟨R, ⟨o, ho⟩, fun _ _ p k => SetL.at p k⟩
section
variable {X : Cx} {pins : List (Addr × Obj)} {σ : L2.St} {H : Hp} {s : Shared} {E : Value → Shared → Prop} {D : Addr} {l : List Str}
theorem setLO_get {a : Addr} (I : Inv X pins σ H s) (ha : H a = some (SetLO X.w a l)) : SetL X.w s.heap a l := (I.hok a _ ha).1
theorem addL_ok {y : Str} {tk : Tok} {A : Around} {Q : Value → Shared → Prop} (I : Inv X pins σ H s) (hD : H D = some (SetLO X.w D l)) (room : l.length + 1 < scanBound)
    (h : ∀ v s', Inv X pins σ (upd H D (SetLO X.w D (insS l y))) s' → Q v s') : wpAny (model X.prog X.w) A (call (.builtin "set.add") [.ref D, .str y tk]) Q E s := by
  refine setL_add (setLO_get I hD) room fun h' t' sb new => h _ _ ?_
  have he : ∃ u, h'.get? D = some u := by
    have ⟨o, _, _, _, ho, _⟩ := new
    exact ⟨o, ho⟩
  exact I.write (e := D) (t' := t') (by rw [hD]; trivial) (.inl rfl) (fun b u hb hu => (sb.2 b hb).trans hu) he (setLO_ok new)
end
/-! ### sorted(set) -/
def rSortedL (w : World) : List V → Hp → VK → Prop := fun vs H Q => ∃ (a : Addr) (l : List Str), vs = [V.ref a] ∧ H a = some (SetLO w a l) ∧ l.length < 64 ∧
  ∀ (ys : List Str) (p : Addr), ys.Perm l → sortedS ys = true → H p = none → Q (.ref p) (upd H p (.lst (ys.map V.str)))
theorem cr_sortedL {X : Cx} (hc : X.calm = true) : CallR X (.builtin "sorted") (rSortedL X.w) := by
  intro pins s σ H vs us Q I r h
  obtain ⟨a, l, rfl, ha, h64, q⟩ := h
  rw [Vals.ref1 r]
  refine sorted_setL (setLO_get I ha) (I.ok.hd hc) h64 fun s' p out c ys k g o hp hg hst pm so => ?_
  have hn : H p = none := I.hok.fresh hp
  have hlen : (ys.map V.str).length ≤ sizeLine := by rw [List.length_map, pm.length_eq]; exact small64 h64
  have J : Inv X pins σ (upd H p (.lst (ys.map V.str))) { s with heap := s'.heap, gens := s'.gens, drawn := s'.drawn, toks := s'.toks } :=
    I.call (ch := []) (Un.laid k hp hn) (I.hok.laid k hp ⟨hlen, out.toList, c, vals_of_strs hst, hg⟩) (by rw [g]; exact I.bare) (fun _ z => nomatch z)
  have e : s' = { s with heap := s'.heap, gens := s'.gens, drawn := s'.drawn, toks := s'.toks } := by
    cases s'
    cases s
    cases o
    rfl
  rw [e]
  exact ⟨.ref p, _, J, rfl, q ys p pm so hn⟩
/-! ### comprehensions -/
section
variable {prog : Program} {w : World} {A : Around} {R : Result → Shared → Prop} {s : Shared} {elt t0 i0 t1 i1 : Expr} {c0 c1 : List Expr} {sc : Scope} {pos : Pos} {it acc : Value} {env : Env}
abbrev SC2 (elt t0 i0 t1 i1 : Expr) (c0 c1 : List Expr) (sc : Scope) (pos : Pos) : Expr := .SetComp elt [⟨t0, i0, c0, 0⟩, ⟨t1, i1, c1, 0⟩] sc pos
theorem sc2_turn0 : compTurn (SC2 elt t0 i0 t1 i1 c0 c1 sc pos) 0 it acc env = (do
      standAt i0.pos
      match ← pyNext it with
      | none => pure (.done .next)
      | some v =>
        letOwnedTupleGo t0 it v; assign t0 env v
        let mut ok := true
        for c in c0 do
          if ok then ok ← isTrue c env (eval c env)
        if ok then
          let x ← eval i1 env
          standAt i1.pos
          let x ← foldedSetIterable i1 env x
          let _ ← runOwn (.compStart (SC2 elt t0 i0 t1 i1 c0 c1 sc pos) 1 (← holding [x] (pyIter x)) acc env) env
        again (.compLoop (SC2 elt t0 i0 t1 i1 c0 c1 sc pos) 0 it acc env)) := by rfl
theorem sc2_turn1 : compTurn (SC2 elt t0 i0 t1 i1 c0 c1 sc pos) 1 it acc env = (do
      standAt i1.pos
      match ← pyNext it with
      | none => pure (.done .next)
      | some v =>
        letOwnedTupleGo t1 it v; assign t1 env v
        let mut ok := true
        for c in c1 do
          if ok then ok ← isTrue c env (eval c env)
        if ok then
          (do let v ← eval elt env; standAt elt.pos; let _ ← call (.builtin "set.add") [acc, v])
        again (.compLoop (SC2 elt t0 i0 t1 i1 c0 c1 sc pos) 1 it acc env)) := by rfl
abbrev tests (cs : List Expr) (env : Env) : Sem Bool := forIn cs true fun c r => if r = true then do let ok ← isTrue c env (eval c env); pure (ForInStep.yield ok) else pure (ForInStep.yield r)
abbrev nb (prog : Program) (w : World) (A : Around) (env : Env) (R : Result → Shared → Prop) : Value → Shared → Prop := notedBy (model prog w) A env fun e s' => R (.error e) s'
theorem sc2_loop0 (hs : ∀ x, foldedSetIterable i1 env x = pure x) (I : Nat → Shared → Prop)
    (turn : ∀ n s, I n s → wpAny (model prog w) A (pyNext it) (fun r s₁ => match r with
      | none => R (.ok .next) s₁
      | some v => wpAny (model prog w) A (letOwnedTupleGo t0 it v) (fun _ s₂ => wpAny (model prog w) A (assign t0 env v) (fun _ s₃ => wpAny (model prog w) A (tests c0 env) (fun ok s₄ =>
            if ok = true then wpAny (model prog w) A (eval i1 env) (fun x s₅ => wpAny (model prog w) A (pyIter x) (fun jt s₆ => codeAny (model prog w) A (.compStart (SC2 elt t0 i0 t1 i1 c0 c1 sc pos) 1 jt acc env)
              (fun r s' => match r with | .ok _ => ∃ m, m < n ∧ I m s' | .error _ => False) s₆) (nb prog w A env R) s₅) (nb prog w A env R) s₄
            else ∃ m, m < n ∧ I m s₄) (nb prog w A env R) s₃) (nb prog w A env R) s₂) (nb prog w A env R) s₁) (nb prog w A env R) s) (n : Nat) (h : I n s) :
    codeAny (model prog w) A (.compLoop (SC2 elt t0 i0 t1 i1 c0 c1 sc pos) 0 it acc env) R s := by
  refine codeAny_loop rfl I (fun n s hI => ?_) n h
  refine wpAny_noted ?_
  rw [sc2_turn0]
  refine wpAny_bind (wpAny_standAt (wpAny_bind (wpAny_mono (turn n s hI) (fun r s₁ z1 => ?_) fun _ _ z => z)))
  cases r with
  | none => exact wpAny_pure z1
  | some v =>
    refine wpAny_bind (wpAny_mono z1 (fun _ s₂ z2 => wpAny_bind (wpAny_mono z2 (fun _ s₃ z3 => wpAny_bind (wpAny_mono z3 (fun ok s₄ z4 => ?_) fun _ _ z => z)) fun _ _ z => z)) fun _ _ z => z)
    cases ok with
    | false => exact wpAny_pure ⟨rfl, z4⟩
    | true =>
      refine wpAny_bind (wpAny_mono z4 (fun x s₅ z5 => wpAny_bind (wpAny_standAt (wpAny_bind (wpAny_of_eq (hs x) (wpAny_bind (wpAny_holding (wpAny_mono z5 (fun jt s₆ z6 => wpAny_bind (wpAny_runOwn ?_)) fun _ _ z => z))))))) fun _ _ z => z)
      rw [Around.mark_none]
      refine codeAny_mono z6 fun r s' hr => ?_
      cases r with
      | ok f => first | exact wpAny_pure ⟨rfl, hr⟩ | exact wpAny_bind (wpAny_pure (wpAny_pure ⟨rfl, hr⟩))
      | error e => exact hr.elim
theorem sc2_loop1 (I : Nat → Shared → Prop)
    (turn : ∀ n s, I n s → wpAny (model prog w) A (pyNext it) (fun r s₁ => match r with
      | none => R (.ok .next) s₁
      | some v => wpAny (model prog w) A (letOwnedTupleGo t1 it v) (fun _ s₂ => wpAny (model prog w) A (assign t1 env v) (fun _ s₃ => wpAny (model prog w) A (tests c1 env) (fun ok s₄ =>
            if ok = true then wpAny (model prog w) A (eval elt env) (fun x s₅ => wpAny (model prog w) A (call (.builtin "set.add") [acc, x]) (fun _ s₆ => ∃ m, m < n ∧ I m s₆) (nb prog w A env R) s₅) (nb prog w A env R) s₄
            else ∃ m, m < n ∧ I m s₄) (nb prog w A env R) s₃) (nb prog w A env R) s₂) (nb prog w A env R) s₁) (nb prog w A env R) s) (n : Nat) (h : I n s) :
    codeAny (model prog w) A (.compLoop (SC2 elt t0 i0 t1 i1 c0 c1 sc pos) 1 it acc env) R s := by
  refine codeAny_loop rfl I (fun n s hI => ?_) n h
  refine wpAny_noted ?_
  rw [sc2_turn1]
  refine wpAny_bind (wpAny_standAt (wpAny_bind (wpAny_mono (turn n s hI) (fun r s₁ z1 => ?_) fun _ _ z => z)))
  cases r with
  | none => exact wpAny_pure z1
  | some v =>
    refine wpAny_bind (wpAny_mono z1 (fun _ s₂ z2 => wpAny_bind (wpAny_mono z2 (fun _ s₃ z3 => wpAny_bind (wpAny_mono z3 (fun ok s₄ z4 => ?_) fun _ _ z => z)) fun _ _ z => z)) fun _ _ z => z)
    cases ok with
    | false => exact wpAny_pure ⟨rfl, z4⟩
    | true => exact wpAny_bind (wpAny_bind (wpAny_mono z4 (fun x s₅ z5 => wpAny_bind (wpAny_standAt (wpAny_bind (wpAny_mono z5 (fun _ s₆ z6 => wpAny_pure (wpAny_pure ⟨rfl, z6⟩)) fun _ _ z => z)))) fun _ _ z => z))
theorem sc2_start1 (h0 : codeAny (model prog w) A (.compLoop (SC2 elt t0 i0 t1 i1 c0 c1 sc pos) 1 it acc env) R s)
    (h : wpAny (model prog w) A (pyIter it) (fun jt s' => codeAny (model prog w) A (.compLoop (SC2 elt t0 i0 t1 i1 c0 c1 sc pos) 1 jt acc env) R s') (nb prog w A env R) s) :
    codeAny (model prog w) A (.compStart (SC2 elt t0 i0 t1 i1 c0 c1 sc pos) 1 it acc env) R s := by
  refine codeAny_of_tree ?_
  refine wpAny_notedAt ?_
  unfold compStart
  show wpAny _ _ (ask >>= _) _ _ s
  refine wpAny_bind (wpAny_askSetting (wpAny_ite ?_))
  split
  · first | exact wpAny_bind (wpAny_pure (wpAny_pure (And.intro rfl h0))) | exact wpAny_pure (And.intro rfl h0)
  · first
      | exact wpAny_bind (wpAny_rule (wpAny_bind (wpAny_standAt (wpAny_bind (wpAny_mono h (fun jt s' z => wpAny_pure (And.intro rfl z)) fun _ _ x => x)))))
      | (refine wpAny_bind (wpAny_rule ?_); show wpAny _ _ (standAt i1.pos >>= _) _ _ s; exact wpAny_bind (wpAny_standAt (wpAny_bind (wpAny_mono h (fun jt s' z => wpAny_pure (And.intro rfl z)) fun _ _ x => x))))
end
/-- the element's end: one more text in the set at D -/
abbrev eSc (w : World) (te : TE) (D : Addr) (Nx : Hp → Prop) : L2.St → Hp → Prop := fun σ H => te σ H fun y H' => ∃ (c : Str) (l : List Str), y = .str c ∧ H' D = some (SetLO w D l) ∧ l.length + 1 < scanBound ∧ Nx (upd H' D (SetLO w D (insS l c)))
/-- {elt for tg in iter if ..}: D the new set -/
def tScL (w : World) (wi : TI) (g : TG) (tt : TT) (te : TE) (vs : List Nat) : TE := fun σ H Q => wi σ H fun J H1 => ∀ D, H1 D = none → ∃ W : Nat → Nat → Hp → Prop, (∃ m, W 0 m (upd H1 D (SetLO w D []))) ∧ ∀ i m H, W i m H →
  (J.stop i H ∧ Q (.ref D) H) ∨ (J.go i H ∧ ∃ Nx : Hp → Prop, (∀ H', Nx H' → ∃ m', m' < m ∧ W (i + 1) m' H') ∧ ∀ x H', J.yld i H x H' → g x (wipe σ vs) H' fun σ2 H2 => wipe σ2 vs = wipe σ vs ∧ tt σ2 H2 fun b H3 => if b = true then eSc w te D Nx σ2 H3 else Nx H3)
/-- .. with a second for -/
def tScL2 (w : World) (wi : TI) (g : TG) (tt : TT) (wi1 : TI) (g1 : TG) (tt1 : TT) (te : TE) (vs vs1 : List Nat) : TE := fun σ H Q => wi σ H fun J H1 => ∀ D, H1 D = none → ∃ W : Nat → Nat → Hp → Prop, (∃ m, W 0 m (upd H1 D (SetLO w D []))) ∧ ∀ i m H, W i m H →
  (J.stop i H ∧ Q (.ref D) H) ∨ (J.go i H ∧ ∃ Nx : Hp → Prop, (∀ H', Nx H' → ∃ m', m' < m ∧ W (i + 1) m' H') ∧ ∀ x H', J.yld i H x H' → g x (wipe σ vs) H' fun σ2 H2 => wipe σ2 vs = wipe σ vs ∧ tt σ2 H2 fun b H3 =>
    if b = true then wi1 σ2 H3 fun J1 H4 => ∃ W1 : Nat → Nat → Hp → Prop, (∃ m, W1 0 m H4) ∧ ∀ j k H, W1 j k H →
      (J1.stop j H ∧ Nx H) ∨ (J1.go j H ∧ ∃ Nx1 : Hp → Prop, (∀ H', Nx1 H' → ∃ k', k' < k ∧ W1 (j + 1) k' H') ∧ ∀ x H', J1.yld j H x H' → g1 x (wipe σ2 vs1) H' fun σ3 H5 => wipe σ3 vs1 = wipe σ2 vs1 ∧ tt1 σ3 H5 fun b H6 => if b = true then eSc w te D Nx1 σ3 H6 else Nx1 H6)
    else Nx H3)
section
variable {X : Cx}
abbrev BX (X : Cx) (scope : Scope) (J : Cx → Prop) : Prop := ∀ (s : Shared) (H : Hp) (C : Addr) (cl : List (PySem.Str × Addr)) (fp : List Addr), J (X.blk s H scope (compEnvC scope cl C X.env) fp)
/-- what the block knows where a set comprehension's loop begins -/
theorem sc_begin {pins : List (Addr × Obj)} {s2 : Shared} {σ : L2.St} {H2 : Hp} {scope : Scope} {own : List (PySem.Str × Nat)} {fp : List Addr} {tn : Nat → Heap → Prop} {D : Addr} {m : Model} {e : Prop}
    (hN : X.N.Nodup) (ok : BlkOk X.N X.env.scope scope own) (I2 : Inv X pins σ H2 s2) (f2 : ∀ b ∈ fp, FpOk X pins H2 b) (hob : ∀ b ∈ fp, ∃ o, s2.heap.get? b = some o) (hD : s2.heap.objs.size = D)
    (k : ∀ s3 H3 s4 cl, H3 = upd H2 D (SetLO X.w D []) → Inv X pins σ H3 s3 → (∀ b ∈ fp, FpOk X pins H3 b ∧ b < s3.heap.objs.size) → (∀ b o, s2.heap.get? b = some o → s4.heap.get? b = some o) →
      s3 = { s2 with heap := s2.heap.push (emptySet X.w) } → s4 = { s3 with heap := pushCells (s3.heap.push { cls := .type "dict", data := .dict #[] }) scope.names } → cl = cellsFrom (s3.heap.objs.size + 1) scope.names (cloFrom X.env.cells scope.names []) →
      Inv (X.blk s3 H3 scope (compEnvC scope cl s3.heap.objs.size X.env) fp) [] (wipe σ (own.map (·.2))) H3 s4 → e) : e := by
  have hnew : SetL X.w (s2.heap.push (emptySet X.w)) D [] := by
    rw [← hD]
    exact setL_fresh X.w
  have I3 : Inv X pins σ (upd H2 D (SetLO X.w D [])) { s2 with heap := s2.heap.push (emptySet X.w) } :=
    I2.laid (t' := s2.toks) (fun b o e => Heap.get?_push_of_some _ e) (Nat.le_of_eq hD) (setLO_ok hnew)
  have f3 : ∀ b ∈ fp, FpOk X pins (upd H2 D (SetLO X.w D [])) b ∧ b < (s2.heap.push (emptySet X.w)).objs.size := fun b hb => by
    obtain ⟨o, eo⟩ := hob b hb
    have hlt := Heap.lt_size eo
    refine ⟨⟨?_, (f2 b hb).2⟩, by rw [Heap.size_push]; exact Nat.lt_succ_of_lt hlt⟩
    rw [upd_ne (by rw [← hD]; exact Nat.ne_of_lt hlt)]
    exact (f2 b hb).1
  exact k _ _ _ _ rfl I3 f3 (fun b o q => pushCells_keeps _ _ _ _ (Heap.get?_push_of_some _ (Heap.get?_push_of_some _ q))) rfl rfl rfl (block_start I3 ok hN f3)
/-- the static part of a footprint within the block -/
theorem blk_stat {s3 : Shared} {H3 : Hp} {scope : Scope} {ce : Env} {fp : List Addr} {σ' : L2.St} {H' : Hp} {s' : Shared} (I' : Inv (X.blk s3 H3 scope ce fp) [] σ' H' s') (hn : ∀ b ∈ fp, H' b = none) : ∀ b ∈ fp, FpOk (X.blk s3 H3 scope ce fp) [] H' b := fun b hb =>
  ⟨hn b hb, (I'.ok.exf b hb).1, I'.ok.exfs b hb, .inl hb, fun x c e => (I'.ok.exf b hb).2 x c e, fun p hp => absurd (show p ∈ ([] : List (Addr × Obj)) ++ [] from hp) (by simp)⟩
theorem sc1_core {pins : List (Addr × Obj)} {s : Shared} {σ : L2.St} {H : Hp} {Q : VK} {elt tg iter : Expr} {ifs : List Expr} {scope : Scope} {own : List (PySem.Str × Nat)} {pos pos' : Pos} {wi : TI} {g : TG} {tt : TT} {te : TE} {use : Option (Value → Sem Unit)} {Qf : Value → Shared → Prop}
    (hc : X.calm = true) (hN : X.N.Nodup) (I : Inv X pins σ H s) (hi : PI X tg iter wi) (ok : BlkOk X.N X.env.scope scope own) (hg : BX X scope fun Y => PG Y tg g) (ht : BX X scope fun Y => PTs Y ifs tt) (he : BX X scope fun Y => PE Y elt te) (hs : ∀ x, foldedSetIterable iter X.env x = pure x)
    (h : tScL X.w wi g tt te (own.map (·.2)) σ H Q) (hRR : ∀ D C s' m H', Inv X pins σ H' s' → Q (.ref D) H' → s'.heap.Ns C m → FpOk X pins H' C → compPost (model X.prog X.w) X.A X.xe use Qf (.ref D) C (.ok .next) s') :
    wpAny (model X.prog X.w) X.A (comprehension (.SetComp elt [⟨tg, iter, ifs, 0⟩] scope pos) scope X.env pos' (newSet (.type "set")) false (eval iter X.env) use) Qf X.xe s := by
  have hfree : ∀ y ∈ scope.names, y.2 = .free → ∃ c, X.env.cells.lookup y.1 = some c := fun y hy e => (ok.free y hy e).elim (fun k => I.ok.has _ (.inl k)) fun k => I.ok.has _ (.inr k)
  refine wpAny_comprehension_free (use := use) rfl hs (closure_ok hfree) ok.kind (fun y hy e => by rw [ok.uniq y hy, e]) (thn (hi.run pins s σ H _ I h) fun xv s1 hx => thn hx fun itv s2 h2 => ?_)
  obtain ⟨it, fp, tn, J, H2, e, I2, T, st2, f2, q⟩ := h2
  subst e
  refine PpSet.newSet_ok (newEnv_comp ?_)
  obtain ⟨W, ⟨m0, w0⟩, turn⟩ := q _ (I2.hok.fresh (Nat.le_refl _))
  refine sc_begin (tn := tn) (m := model X.prog X.w) hN ok I2 f2 (fun b hb => let ⟨o, eo, _⟩ := T.obj _ _ st2 b hb; ⟨o, eo⟩) rfl fun s3 H3 s4 cl eH I3 f3 kp e3 e4 ec I4 => ?_
  have pg := hg s3 H3 s3.heap.objs.size cl fp
  have pt := ht s3 H3 s3.heap.objs.size cl fp
  have pe := he s3 H3 s3.heap.objs.size cl fp
  have st4 : tn 0 s4.heap := T.keep _ _ _ st2 fun b _ o e => kp b o e
  have nfp : ∀ b ∈ fp, H3 b = none := fun b hb => (f3 b hb).1.1
  rw [← eH] at w0
  generalize hD : s2.heap.objs.size = D at *
  suffices Z : codeAny (model X.prog X.w) X.A (.compLoop (.SetComp elt [⟨tg, iter, ifs, 0⟩] scope pos) 0 (.ref it) (.ref D) (compEnvC scope cl s3.heap.objs.size X.env)) (compPost (model X.prog X.w) X.A X.xe use Qf (.ref D) s3.heap.objs.size) s4 by
    have Y := PpSet.codeAny_compStart_set Z (T.self X.A 0 _ _ _ st4 Z)
    subst ec e4 e3
    exact Y
  have cL : (compEnvC scope cl s3.heap.objs.size X.env).locals = s3.heap.objs.size := rfl
  generalize compEnvC scope cl s3.heap.objs.size X.env = ce at I4 pg pt pe cL ⊢
  refine PpSet.compLoopS_any (fun n s' => ∃ i H', Inv (X.blk s3 H3 scope ce fp) [] (wipe σ (own.map (·.2))) H' s' ∧ tn i s'.heap ∧ (∀ b ∈ fp, H' b = none) ∧ W i n H') ?_ m0 ⟨0, H3, I4, st4, nfp, w0⟩
  rintro n s5 ⟨i, H5, I5, st5, n5, w5⟩
  rcases turn i n H5 w5 with ⟨stop, qq⟩ | ⟨go, Nx, hNx, step⟩
  · refine thnF (T.done (X.blk s3 H3 scope ce fp) rfl rfl rfl hc i [] s5 _ H5 (fun _ _ => False) I5 (blk_stat I5 n5) st5 stop) fun r s6 ⟨hr, I6⟩ => ?_
    subst hr
    have I7 : Inv X pins σ H5 s6 := I3.call' (ch := fp) I6.os I6.base I6.hok I6.bare fun b hb => ⟨(f3 b hb).1.2.2.2.1, (f3 b hb).1.2.1, (f3 b hb).1.2.2.2.2.1, (f3 b hb).1.2.2.2.2.2⟩
    have nC : H5 s3.heap.objs.size = none := cL ▸ (show H5 ce.locals = none from I6.free)
    obtain ⟨m, hn, _⟩ := I6.loc
    exact hRR D s3.heap.objs.size s6 m H5 I7 qq (cL ▸ (show s6.heap.Ns ce.locals m from hn)) (I3.fpOk (Nat.le_refl _) nC)
  · refine thnF (T.item (X.blk s3 H3 scope ce fp) rfl rfl rfl hc i [] s5 _ H5 (fun _ _ => False) I5 (blk_stat I5 n5) st5 go) fun r s6 ⟨u, hr, h6⟩ => ?_
    subst hr
    refine thnF h6 fun _ s7 ⟨x, H7, I7, r7, y7, st7, n7⟩ => ?_
    refine thnF (pg.run _ s7 _ H7 x u _ (I7.pinned (blk_stat I7 n7) (T.obj _ _ st7)) r7 (step x H7 y7)) fun _ s8 ⟨σ8, H8, I8, hw8, q8⟩ => ?_
    refine thnF (pt.run _ s8 σ8 H8 _ I8 q8) fun b s9 ⟨H9, I9, q9⟩ => ?_
    have fin : ∀ {s' : Shared} {H' : Hp}, Inv (X.blk s3 H3 scope ce fp) ([] ++ pinsAt fp s7.heap) σ8 H' s' → Nx H' → ∃ m, m < n ∧ ∃ i H', Inv (X.blk s3 H3 scope ce fp) [] (wipe σ (own.map (·.2))) H' s' ∧ tn i s'.heap ∧ (∀ b ∈ fp, H' b = none) ∧ W i m H' := fun {s' H'} I' nx => by
      obtain ⟨m', hm, w'⟩ := hNx H' nx
      have pin' : ∀ b ∈ fp, ∀ o, s7.heap.get? b = some o → s'.heap.get? b = some o ∧ H' b = none := fun b hb o e =>
        let z := I'.pin (b, o) (List.mem_append_right _ (List.mem_append_right _ (mem_pinsAt hb e)))
        ⟨z.1, z.2.1⟩
      refine ⟨m', hm, i + 1, H', (I'.unpinned (pins := [])).weak (by rw [← hw8, wipe_length]) (fun j v e => ?_), T.keep _ _ _ st7 fun b hb o e => (pin' b hb o e).1, fun b hb => ?_, w'⟩
      · rw [← hw8] at e
        exact (wipe_some e).1
      · obtain ⟨o, e, _⟩ := T.obj _ _ st7 b hb
        exact (pin' b hb o e).2
    cases b with
    | false =>
      rw [if_neg Bool.false_ne_true] at q9
      exact fin I9 q9
    | true =>
      rw [if_pos rfl] at q9
      refine thnF (pe.run _ s9 σ8 H9 _ I9 q9) fun z s10 ⟨yv, H10, I10, r10, c, l, ey, hD10, hz10, nx⟩ => ?_
      subst ey
      obtain ⟨tk, rfl⟩ := (show ∃ t, z = Value.str c t from r10)
      exact addL_ok (X := X.blk s3 H3 scope ce fp) I10 hD10 hz10 fun _ s11 I11 => fin I11 nx
theorem pe_scL {elt tg iter : Expr} {ifs : List Expr} {scope : Scope} {own : List (PySem.Str × Nat)} {pos : Pos} {wi : TI} {g : TG} {tt : TT} {te : TE} (hc : X.calm = true) (hN : X.N.Nodup) (hi : PI X tg iter wi) (ok : BlkOk X.N X.env.scope scope own)
    (hg : BX X scope fun Y => PG Y tg g) (ht : BX X scope fun Y => PTs Y ifs tt) (he : BX X scope fun Y => PE Y elt te) (hs : ∀ x, foldedSetIterable iter X.env x = pure x := by intro _; rfl) :
    PE X (.SetComp elt [⟨tg, iter, ifs, 0⟩] scope pos) (tScL X.w wi g tt te (own.map (·.2))) := by
  refine ⟨fun pins s σ H Q I h => ?_⟩
  rw [PpSet.eval_SetComp]
  refine sc1_core hc hN I hi ok hg ht he hs h fun D C s' m H' I' q hn f => ⟨m, hn, fun h'' sb => ?_⟩
  obtain ⟨f0, f1, f2, f3, f4, f5⟩ := f
  exact ⟨.ref D, H', I'.turned (t' := s'.toks) (fun b o hb e => (sb.2 b hb).trans e) f0 f1 f3 f4 f5, rfl, q⟩
end
end SW

set_option Elab.async false
set_option linter.all false
set_option maxRecDepth 100000
set_option maxHeartbeats 4000000
namespace SW
open PySem PySem.Spec PyProof.Rows L2
section
variable {X : Cx}
/-- a set comprehension of two fors -/
theorem sc2_core {pins : List (Addr × Obj)} {s : Shared} {σ : L2.St} {H : Hp} {Q : VK} {elt tg iter tg1 iter1 : Expr} {ifs ifs1 : List Expr} {scope : Scope} {own : List (PySem.Str × Nat)} {vs1 : List Nat} {pos pos' : Pos} {wi wi1 : TI} {g g1 : TG} {tt tt1 : TT} {te : TE} {use : Option (Value → Sem Unit)} {Qf : Value → Shared → Prop}
    (hc : X.calm = true) (hN : X.N.Nodup) (I : Inv X pins σ H s) (hi : PI X tg iter wi) (ok : BlkOk X.N X.env.scope scope own) (hv : ∀ i ∈ vs1, i ∈ own.map (·.2)) (hg : BX X scope fun Y => PG Y tg g) (ht : BX X scope fun Y => PTs Y ifs tt) (he : BX X scope fun Y => PE Y elt te) (hs : ∀ x, foldedSetIterable iter X.env x = pure x)
    (hi1 : BX X scope fun Y => PI Y tg1 iter1 wi1) (hg1 : BX X scope fun Y => PG Y tg1 g1) (ht1 : BX X scope fun Y => PTs Y ifs1 tt1) (hs1 : ∀ env x, foldedSetIterable iter1 env x = pure x)
    (h : tScL2 X.w wi g tt wi1 g1 tt1 te (own.map (·.2)) vs1 σ H Q) (hRR : ∀ D C s' m H', Inv X pins σ H' s' → Q (.ref D) H' → s'.heap.Ns C m → FpOk X pins H' C → compPost (model X.prog X.w) X.A X.xe use Qf (.ref D) C (.ok .next) s') :
    wpAny (model X.prog X.w) X.A (comprehension (SC2 elt tg iter tg1 iter1 ifs ifs1 scope pos) scope X.env pos' (newSet (.type "set")) false (eval iter X.env) use) Qf X.xe s := by
  have hfree : ∀ y ∈ scope.names, y.2 = .free → ∃ c, X.env.cells.lookup y.1 = some c := fun y hy e => (ok.free y hy e).elim (fun k => I.ok.has _ (.inl k)) fun k => I.ok.has _ (.inr k)
  refine wpAny_comprehension_free (use := use) rfl hs (closure_ok hfree) ok.kind (fun y hy e => by rw [ok.uniq y hy, e]) (thn (hi.run pins s σ H _ I h) fun xv s1 hx => thn hx fun itv s2 h2 => ?_)
  obtain ⟨it, fp, tn, J, H2, e, I2, T, st2, f2, q⟩ := h2
  subst e
  refine PpSet.newSet_ok (newEnv_comp ?_)
  obtain ⟨W, ⟨m0, w0⟩, turn⟩ := q _ (I2.hok.fresh (Nat.le_refl _))
  refine sc_begin (tn := tn) (m := model X.prog X.w) hN ok I2 f2 (fun b hb => let ⟨o, eo, _⟩ := T.obj _ _ st2 b hb; ⟨o, eo⟩) rfl fun s3 H3 s4 cl eH I3 f3 kp e3 e4 ec I4 => ?_
  have pg := hg s3 H3 s3.heap.objs.size cl fp
  have pt := ht s3 H3 s3.heap.objs.size cl fp
  have pe := he s3 H3 s3.heap.objs.size cl fp
  have pi1 := hi1 s3 H3 s3.heap.objs.size cl fp
  have pg1 := hg1 s3 H3 s3.heap.objs.size cl fp
  have pt1 := ht1 s3 H3 s3.heap.objs.size cl fp
  have st4 : tn 0 s4.heap := T.keep _ _ _ st2 fun b _ o e => kp b o e
  have nfp : ∀ b ∈ fp, H3 b = none := fun b hb => (f3 b hb).1.1
  rw [← eH] at w0
  generalize hD : s2.heap.objs.size = D at *
  suffices Z : codeAny (model X.prog X.w) X.A (.compLoop (SC2 elt tg iter tg1 iter1 ifs ifs1 scope pos) 0 (.ref it) (.ref D) (compEnvC scope cl s3.heap.objs.size X.env)) (compPost (model X.prog X.w) X.A X.xe use Qf (.ref D) s3.heap.objs.size) s4 by
    have Y := PpSet.codeAny_compStart_set Z (T.self X.A 0 _ _ _ st4 Z)
    subst ec e4 e3
    exact Y
  have cL : (compEnvC scope cl s3.heap.objs.size X.env).locals = s3.heap.objs.size := rfl
  generalize compEnvC scope cl s3.heap.objs.size X.env = ce at I4 pg pt pe pi1 pg1 pt1 cL ⊢
  refine sc2_loop0 (hs1 ce) (fun n s' => ∃ i H', Inv (X.blk s3 H3 scope ce fp) [] (wipe σ (own.map (·.2))) H' s' ∧ tn i s'.heap ∧ (∀ b ∈ fp, H' b = none) ∧ W i n H') ?_ m0 ⟨0, H3, I4, st4, nfp, w0⟩
  rintro n s5 ⟨i, H5, I5, st5, n5, w5⟩
  rcases turn i n H5 w5 with ⟨stop, qq⟩ | ⟨go, Nx, hNx, step⟩
  · refine thnF (T.done (X.blk s3 H3 scope ce fp) rfl rfl rfl hc i [] s5 _ H5 (fun _ _ => False) I5 (blk_stat I5 n5) st5 stop) fun r s6 ⟨hr, I6⟩ => ?_
    subst hr
    have I7 : Inv X pins σ H5 s6 := I3.call' (ch := fp) I6.os I6.base I6.hok I6.bare fun b hb => ⟨(f3 b hb).1.2.2.2.1, (f3 b hb).1.2.1, (f3 b hb).1.2.2.2.2.1, (f3 b hb).1.2.2.2.2.2⟩
    have nC : H5 s3.heap.objs.size = none := cL ▸ (show H5 ce.locals = none from I6.free)
    obtain ⟨m, hn, _⟩ := I6.loc
    exact hRR D s3.heap.objs.size s6 m H5 I7 qq (cL ▸ (show s6.heap.Ns ce.locals m from hn)) (I3.fpOk (Nat.le_refl _) nC)
  · refine thnF (T.item (X.blk s3 H3 scope ce fp) rfl rfl rfl hc i [] s5 _ H5 (fun _ _ => False) I5 (blk_stat I5 n5) st5 go) fun r s6 ⟨u, hr, h6⟩ => ?_
    subst hr
    refine thnF h6 fun _ s7 ⟨x, H7, I7, r7, y7, st7, n7⟩ => ?_
    refine thnF (pg.run _ s7 _ H7 x u _ (I7.pinned (blk_stat I7 n7) (T.obj _ _ st7)) r7 (step x H7 y7)) fun _ s8 ⟨σ8, H8, I8, hw8, q8⟩ => ?_
    refine thnF (pt.run _ s8 σ8 H8 _ I8 q8) fun b s9 ⟨H9, I9, q9⟩ => ?_
    have fin : ∀ {σ9 : L2.St} {s' : Shared} {H' : Hp}, Inv (X.blk s3 H3 scope ce fp) ([] ++ pinsAt fp s7.heap) σ9 H' s' → (wipe σ (own.map (·.2))).length = σ9.length → (∀ (j : Nat) v, (wipe σ (own.map (·.2)))[j]? = some (some v) → σ9[j]? = some (some v)) → Nx H' →
        ∃ m, m < n ∧ ∃ i H', Inv (X.blk s3 H3 scope ce fp) [] (wipe σ (own.map (·.2))) H' s' ∧ tn i s'.heap ∧ (∀ b ∈ fp, H' b = none) ∧ W i m H' := fun {σ9 s' H'} I' hl hk nx => by
      obtain ⟨m', hm, w'⟩ := hNx H' nx
      have pin' : ∀ b ∈ fp, ∀ o, s7.heap.get? b = some o → s'.heap.get? b = some o ∧ H' b = none := fun b hb o e =>
        let z := I'.pin (b, o) (List.mem_append_right _ (List.mem_append_right _ (mem_pinsAt hb e)))
        ⟨z.1, z.2.1⟩
      refine ⟨m', hm, i + 1, H', (I'.unpinned (pins := [])).weak hl hk, T.keep _ _ _ st7 fun b hb o e => (pin' b hb o e).1, fun b hb => ?_, w'⟩
      obtain ⟨o, e, _⟩ := T.obj _ _ st7 b hb
      exact (pin' b hb o e).2
    have hl8 : (wipe σ (own.map (·.2))).length = σ8.length := by rw [← hw8, wipe_length]
    have hk8 : ∀ (j : Nat) v, (wipe σ (own.map (·.2)))[j]? = some (some v) → σ8[j]? = some (some v) ∧ j ∉ own.map (·.2) := fun j v e => by
      rw [← hw8] at e
      exact wipe_some e
    have hk9 : ∀ (j : Nat) v, (wipe σ (own.map (·.2)))[j]? = some (some v) → (wipe σ8 vs1)[j]? = some (some v) := fun j v e => by
      obtain ⟨a, b⟩ := hk8 j v e
      rw [wipe_out fun z => b (hv j z)]
      exact a
    cases b with
    | false =>
      rw [if_neg Bool.false_ne_true] at q9
      exact fin I9 hl8 (fun j v e => (hk8 j v e).1) q9
    | true =>
      rw [if_pos rfl] at q9
      refine thnF (pi1.run _ s9 σ8 H9 _ I9 q9) fun xv s10 hx => thnF hx fun itv s11 h11 => ?_
      obtain ⟨it1, fp1, tn1, J1, H11, e1, I11, T1, st11, f11, W1, ⟨m1, w1⟩, turn1⟩ := h11
      subst e1
      have stat1 : ∀ {H' : Hp}, (∀ b ∈ fp1, H' b = none) → ∀ b ∈ fp1, FpOk (X.blk s3 H3 scope ce fp) ([] ++ pinsAt fp s7.heap) H' b := fun hn b hb => ⟨hn b hb, (f11 b hb).2⟩
      suffices Z : codeAny (model X.prog X.w) X.A (.compLoop (SC2 elt tg iter tg1 iter1 ifs ifs1 scope pos) 1 (.ref it1) (.ref D) ce) (fun r s' => match r with
          | .ok _ => ∃ m, m < n ∧ ∃ i H', Inv (X.blk s3 H3 scope ce fp) [] (wipe σ (own.map (·.2))) H' s' ∧ tn i s'.heap ∧ (∀ b ∈ fp, H' b = none) ∧ W i m H'
          | .error _ => False) s11 from sc2_start1 Z (T1.self X.A 0 _ _ _ st11 Z)
      refine sc2_loop1 (fun k s' => ∃ j H', Inv (X.blk s3 H3 scope ce fp) ([] ++ pinsAt fp s7.heap) (wipe σ8 vs1) H' s' ∧ tn1 j s'.heap ∧ (∀ b ∈ fp1, H' b = none) ∧ W1 j k H') ?_ m1 ⟨0, H11, I11.weak (wipe_length _ _) (fun j v e => (wipe_some e).1), st11, fun b hb => (f11 b hb).1, w1⟩
      rintro k s12 ⟨j, H12, I12, st12, n12, w12⟩
      rcases turn1 j k H12 w12 with ⟨stop1, nx1⟩ | ⟨go1, Nx1, hNx1, step1⟩
      · refine thnF (T1.done (X.blk s3 H3 scope ce fp) rfl rfl rfl hc j _ s12 (wipe σ8 vs1) H12 (fun _ _ => False) I12 (stat1 n12) st12 stop1) fun r s13 ⟨hr, I13⟩ => ?_
        subst hr
        exact fin I13 (hl8.trans (wipe_length σ8 vs1).symm) hk9 nx1
      · refine thnF (T1.item (X.blk s3 H3 scope ce fp) rfl rfl rfl hc j _ s12 (wipe σ8 vs1) H12 (fun _ _ => False) I12 (stat1 n12) st12 go1) fun r s13 ⟨u1, hr, h13⟩ => ?_
        subst hr
        refine thnF h13 fun _ s14 ⟨x1, H14, I14, r14, y14, st14, n14⟩ => ?_
        refine thnF (pg1.run _ s14 (wipe σ8 vs1) H14 x1 u1 _ (I14.pinned (stat1 n14) (T1.obj _ _ st14)) r14 (step1 x1 H14 y14)) fun _ s15 ⟨σ15, H15, I15, hw15, q15⟩ => ?_
        refine thnF (pt1.run _ s15 σ15 H15 _ I15 q15) fun b1 s16 ⟨H16, I16, q16⟩ => ?_
        have fin1 : ∀ {s' : Shared} {H' : Hp}, Inv (X.blk s3 H3 scope ce fp) (([] ++ pinsAt fp s7.heap) ++ pinsAt fp1 s14.heap) σ15 H' s' → Nx1 H' → ∃ m, m < k ∧ ∃ j H', Inv (X.blk s3 H3 scope ce fp) ([] ++ pinsAt fp s7.heap) (wipe σ8 vs1) H' s' ∧ tn1 j s'.heap ∧ (∀ b ∈ fp1, H' b = none) ∧ W1 j m H' := fun {s' H'} I' nx => by
          obtain ⟨m', hm, w'⟩ := hNx1 H' nx
          have pin' : ∀ b ∈ fp1, ∀ o, s14.heap.get? b = some o → s'.heap.get? b = some o ∧ H' b = none := fun b hb o e =>
            let z := I'.pin (b, o) (List.mem_append_right _ (List.mem_append_right _ (mem_pinsAt hb e)))
            ⟨z.1, z.2.1⟩
          refine ⟨m', hm, j + 1, H', I'.unpinned.weak (by rw [← hw15, wipe_length]) (fun j v e => by rw [← hw15] at e; exact (wipe_some e).1), T1.keep _ _ _ st14 fun b hb o e => (pin' b hb o e).1, fun b hb => ?_, w'⟩
          obtain ⟨o, e, _⟩ := T1.obj _ _ st14 b hb
          exact (pin' b hb o e).2
        cases b1 with
        | false =>
          rw [if_neg Bool.false_ne_true] at q16
          exact fin1 I16 q16
        | true =>
          rw [if_pos rfl] at q16
          refine thnF (pe.run _ s16 σ15 H16 _ I16 q16) fun z s17 ⟨yv, H17, I17, r17, c, l, ey, hD17, hz17, nx⟩ => ?_
          subst ey
          obtain ⟨tk, rfl⟩ := (show ∃ t, z = Value.str c t from r17)
          exact addL_ok (X := X.blk s3 H3 scope ce fp) I17 hD17 hz17 fun _ s18 I18 => fin1 I18 nx
theorem pe_scL2 {elt tg iter tg1 iter1 : Expr} {ifs ifs1 : List Expr} {scope : Scope} {own : List (PySem.Str × Nat)} {vs1 : List Nat} {pos : Pos} {wi wi1 : TI} {g g1 : TG} {tt tt1 : TT} {te : TE} (hc : X.calm = true) (hN : X.N.Nodup) (hi : PI X tg iter wi) (ok : BlkOk X.N X.env.scope scope own) (hv : ∀ i ∈ vs1, i ∈ own.map (·.2))
    (hg : BX X scope fun Y => PG Y tg g) (ht : BX X scope fun Y => PTs Y ifs tt) (hi1 : BX X scope fun Y => PI Y tg1 iter1 wi1) (hg1 : BX X scope fun Y => PG Y tg1 g1) (ht1 : BX X scope fun Y => PTs Y ifs1 tt1) (he : BX X scope fun Y => PE Y elt te)
    (hs : ∀ x, foldedSetIterable iter X.env x = pure x := by intro _; rfl) (hs1 : ∀ env x, foldedSetIterable iter1 env x = pure x := by intro _ _; rfl) :
    PE X (SC2 elt tg iter tg1 iter1 ifs ifs1 scope pos) (tScL2 X.w wi g tt wi1 g1 tt1 te (own.map (·.2)) vs1) := by
  refine ⟨fun pins s σ H Q I h => ?_⟩
  rw [PpSet.eval_SetComp]
  refine sc2_core hc hN I hi ok hv hg ht he hs hi1 hg1 ht1 hs1 h fun D C s' m H' I' q hn f => ⟨m, hn, fun h'' sb => ?_⟩
  obtain ⟨f0, f1, f2, f3, f4, f5⟩ := f
  exact ⟨.ref D, H', I'.turned (t' := s'.toks) (fun b o hb e => (sb.2 b hb).trans e) f0 f1 f3 f4 f5, rfl, q⟩
end
/-! ### a display of two texts -/
theorem setL_put {P : Program} {w : World} {A : Around} {E : Value → Shared → Prop} {s : Shared} {a : Addr} {l : List Str} {k : Str} {tk : Tok} {Q : Bool → Shared → Prop} (R : SetL w s.heap a l) (room : l.length + 1 < scanBound)
    (hQ : ∀ b h' t', Heap.SameBut a s.heap h' → SetL w h' a (insS l k) → Q b { s with heap := h', toks := t' }) : wpAny (model P w) A (setAdd a (.str k tk)) Q E s := by
  unfold setAdd
  refine wpAny_holding (wpAny_bind ((strKind P w).pyHash (strKind_is P w k tk) ?_))
  exact setL_add_hashed (s := { s with toks := s.toks + 1 }) R room fun b h' sb r => hQ b h' _ sb r
theorem kdsCode_of {K : PySem.W.Frag} {cdv : Value} {q : PySem.Str} (h : PySem.W.codeIn K cdv q = true) : PySem.W.kdsCode K cdv = true := by
  unfold PySem.W.codeIn at h
  unfold PySem.W.kdsCode
  split at h
  · split at h
    · rename_i e
      simp only [e]
    · cases h
  · cases h
/-- {a, b}, two texts -/
def tSetD (w : World) (ta tb : TE) : TE := fun σ H Q => ∀ D, H D = none → ta σ (upd H D (SetLO w D [])) fun x H1 => tb σ H1 fun y H2 => ∃ a b, x = .str a ∧ y = .str b ∧ H2 D = some (SetLO w D []) ∧ ∀ l, l = insS (insS [] a) b → Q (.ref D) (upd (upd H2 D (SetLO w D (insS [] a))) D (SetLO w D l))
section
variable {X : Cx}
theorem pe_setD {e1 e2 : Expr} {ta tb : TE} {pos : Pos} (hcode : PySem.W.kdsCode X.K X.env.code = true) (h1 : PE X e1 ta) (h2 : PE X e2 tb) (hp : [e1, e2].all PySem.W.kdsPlain = true := by rfl) : PE X (.Set [e1, e2] 0 pos) (tSetD X.w ta tb) := by
  refine ⟨fun pins s σ H Q I h => ?_⟩
  rw [arm_eval_Set]
  refine wpAny_bind (wpAny_standAt ?_)
  refine wpAny_bind (PySem.W.kds_main I.kIn hcode fun b => ?_)
  rw [PySem.W.kds_star _ hp, List.map_map]
  have hroad : displayRoad 0 [e1, e2] = .oneByOne := rfl
  rw [hroad]
  unfold setDisplay
  try dsimp only
  rw [if_neg (by decide)]
  refine wpAny_bind (PpSet.newSet_ok ?_)
  have q0 := h _ (I.hok.fresh (Nat.le_refl s.heap.objs.size))
  have I1 : Inv X pins σ (upd H s.heap.objs.size (SetLO X.w s.heap.objs.size [])) { s with heap := s.heap.push (emptySet X.w) } :=
    I.laid (t' := s.toks) (fun b o e => Heap.get?_push_of_some _ e) (Nat.le_refl _) (setLO_ok (setL_fresh X.w))
  generalize s.heap.objs.size = D at q0 I1 ⊢
  generalize hs1 : ({ s with heap := s.heap.push (emptySet X.w) } : Shared) = s1 at I1
  dsimp only
  refine wpAny_bind (wpAny_holding ?_)
  show wpAny _ _ (evalAll [(eval e1 X.env >>= fun v => standAt pos >>= fun _ => pure v), (eval e2 X.env >>= fun v => standAt pos >>= fun _ => pure v)] >>= _) _ _ s1
  refine wpAny_bind ?_
  show wpAny _ _ ((eval e1 X.env >>= fun v => standAt pos >>= fun _ => pure v) >>= fun v => holding [v] (evalAll [(eval e2 X.env >>= fun v => standAt pos >>= fun _ => pure v)]) >>= fun r => pure (v :: r)) _ _ s1
  refine wpAny_bind (wpAny_bind (thn (h1.run pins s1 σ _ _ I1 q0) fun v s2 ⟨x, H1, I2, r1, q1⟩ => wpAny_bind (wpAny_standAt (wpAny_pure ?_))))
  refine wpAny_bind (wpAny_holding ?_)
  show wpAny _ _ ((eval e2 X.env >>= fun v => standAt pos >>= fun _ => pure v) >>= fun v => holding [v] (evalAll []) >>= fun r => pure (v :: r)) _ _ s2
  refine wpAny_bind (wpAny_bind (thn (h2.run pins s2 σ _ _ I2 q1) fun v2 s3 ⟨y, H2, I3, r2, q2⟩ => wpAny_bind (wpAny_standAt (wpAny_pure ?_))))
  refine wpAny_bind (wpAny_holding (wpAny_pure (wpAny_pure (wpAny_pure ?_))))
  obtain ⟨a, b', rfl, rfl, hD, q⟩ := q2
  obtain ⟨ta', rfl⟩ := (show ∃ t, v = Value.str a t from r1)
  obtain ⟨tb', rfl⟩ := (show ∃ t, v2 = Value.str b' t from r2)
  have wr : ∀ {H' : Hp} {s' : Shared} {l l' : List Str} {h' : Heap} {t' : Nat}, Inv X pins σ H' s' → H' D = some (SetLO X.w D l) → Heap.SameBut D s'.heap h' → SetL X.w h' D l' → Inv X pins σ (upd H' D (SetLO X.w D l')) { s' with heap := h', toks := t' } := fun {H' s' l l' h' t'} J hJ sb R => by
    have he : ∃ u, h'.get? D = some u := by
      have ⟨o, _, _, _, ho, _⟩ := R
      exact ⟨o, ho⟩
    exact J.write (e := D) (t' := t') (by rw [hJ]; trivial) (.inl rfl) (fun b u hb hu => (sb.2 b hb).trans hu) he (setLO_ok R)
  refine wpAny_bind (wpAny_holding ?_)
  rw [List.forIn_cons]
  refine wpAny_bind (wpAny_bind (wpAny_bind (setL_put (setLO_get I3 hD) (by decide) fun b1 h1' t1 sb1 R1 => wpAny_pure ?_)))
  have I4 := wr (t' := t1) I3 hD sb1 R1
  have hz : (insS [] a).length + 1 < scanBound := Nat.lt_of_le_of_lt (Nat.succ_le_succ (insS_len (l := []) (k := a))) (by decide)
  dsimp only
  rw [List.forIn_cons]
  refine wpAny_bind (wpAny_bind (setL_put (setLO_get I4 upd_same) hz fun b2 h2' t2 sb2 R2 => wpAny_pure ?_))
  have I5 := wr (t' := t2) I4 upd_same sb2 R2
  dsimp only
  rw [List.forIn_nil]
  refine wpAny_pure ?_
  rw [if_neg (show ¬ ((DisplayRoad.oneByOne == DisplayRoad.unsure) = true) from by decide)]
  refine wpAny_pure ?_
  show wpAny _ _ (forIn ([] : List (Bool × Sem Value)) PUnit.unit _ >>= _) _ _ _
  rw [List.forIn_nil]
  exact wpAny_bind (wpAny_pure (wpAny_pure (wpAny_pure ⟨.ref D, _, I5, rfl, q _ rfl⟩)))
end
end SW

set_option Elab.async false
set_option linter.all false
set_option maxRecDepth 100000
set_option maxHeartbeats 4000000
/-! ### max(xs, default=d) over a list of ints -/
namespace SW
open PySem PySem.Spec PyProof.Rows L2
section
variable {prog : Program} {w : World} {A : Around} {R : Result → Shared → Prop} {I S : Addr} {fp wr : List Addr} {n : Nat} {Fp : Nat → Value → Prop} {St : Nat → Heap → Prop}
abbrev dk (d : Value) : List (Str × Value) := [(Str.ofString "default", d)]
abbrev lobj (vs : Array Value) (c : Nat) : Obj := { cls := .type "list", dict := none, data := .seq vs c, slots := #[] }
theorem maxD_loop {d : Value} (W : Walks prog w A.in1 I fp wr n Fp St) (bt : Nat → Nat → Bool) (hcmp : CmpOf prog w A.in1 .Gt Fp bt) (hSf : S ∉ fp) :
    ∀ (k j : Nat) (s : Shared) (vb : Value) (c : Nat), n - (j + 1) = k → j + 1 ≤ n → St (j + 1) s.heap → Fp (argBest bt j) vb → s.heap.get? S = some (lobj #[vb, vb] c) →
    (∀ v h' tk, Fp (argBest bt (n - 1)) v → (∀ b o, b ∉ wr → b ≠ S → s.heap.get? b = some o → h'.get? b = some o) → R (.ok (.ret v)) { s with heap := h', toks := tk }) →
    codeAny (model prog w) A (.builtin "max.loop" ⟨[.ref I, .none, .ref S], dk d⟩) R s := by
  have hSw : S ∉ wr := fun h => hSf (W.sub _ h)
  have hname : (toString "max" ++ toString ".loop" : String) = "max.loop" := by decide
  have other : ∀ {f : Obj → Obj} {h : Heap} {b : Addr} {o : Obj}, b ≠ S → h.get? b = some o → (h.update S f).get? b = some o := fun hb e => (Heap.get?_update_other _ _ (Ne.symm hb)).trans e
  have nS : ∀ b ∈ fp, b ≠ S := fun b hb e => hSf (e ▸ hb)
  intro k
  induction k with
  | zero =>
    intro j s vb c hk hj hst hPb hS hR
    have hin : j + 1 = n := by omega
    refine codeAny_builtin F.entry_max_loop ?_
    rw [Around.under_plainId F.plain_max_loop _]
    refine wpAny_bind (wpAny_seqItems hS rfl ?_)
    refine wpAny_bind (wpAny_tryCatch (W.done s _ _ (hin ▸ hst) fun h' tk kp => ?_))
    refine wpAny_bind (m := updateSeq S fun _ => #[]) (wpAny_updateSeq (kp S _ hSw hS) rfl (wpAny_bind (wpAny_letGo (wpAny_pure ?_))))
    exact hR vb _ tk (by rw [← hin]; exact hPb) fun b o hbw hbS e => other hbS (kp b o hbw e)
  | succ k ih =>
    intro j s vb c hk hj hst hPb hS hR
    have hlt : j + 1 < n := by omega
    refine codeAny_builtin F.entry_max_loop ?_
    rw [Around.under_plainId F.plain_max_loop _]
    refine wpAny_bind (wpAny_seqItems hS rfl ?_)
    refine wpAny_bind (wpAny_tryCatch (W.item (j + 1) s _ _ hlt hst fun v h' tk hP hst' kp => ?_))
    have hS' := kp S _ hSw hS
    refine wpAny_bind (m := tryCatch (holding [v, v] (richCompare .Gt v vb >>= _)) _) (wpAny_tryCatch (wpAny_holding (wpAny_bind (hcmp (j + 1) (argBest bt j) v vb _ _ _ hP hPb ?_))))
    refine wpAny_bind (wpAny_holding (wpAny_truthy_bool ?_))
    refine wpAny_bind (wpAny_letGo (wpAny_pure ?_))
    cases hb : bt (j + 1) (argBest bt j) with
    | true =>
      simp only [if_true]
      refine wpAny_bind (wpAny_updateSeq hS' rfl (wpAny_bind (wpAny_letGo ?_)))
      rw [hname]
      refine wpAny_pure ⟨plainId_quiet F.plain_max_loop _, ih (j + 1) _ v _ (by omega) hlt (W.frame _ _ _ hst' fun b hbf o e => other (nS b hbf) e) (by simp only [argBest, hb, if_true]; exact hP) (Heap.get?_update_self _ hS' rfl)
        fun v' h2 tk2 hP2 k2 => hR v' h2 tk2 hP2 fun b o hbw hbS e => k2 b o hbw hbS (other hbS (kp b o hbw e))⟩
    | false =>
      simp only [Bool.false_eq_true, if_false]
      refine wpAny_bind (wpAny_letGo ?_)
      rw [hname]
      exact wpAny_pure ⟨plainId_quiet F.plain_max_loop _, ih (j + 1) _ vb c (by omega) hlt hst' (by simp only [argBest, hb, Bool.false_eq_true, if_false]; exact hPb) hS' fun v' h2 tk2 hP2 k2 => hR v' h2 tk2 hP2 fun b o hbw hbS e => k2 b o hbw hbS (kp b o hbw e)⟩
theorem maxD_first {d : Value} (W : Walks prog w A.in1 I fp wr n Fp St) (bt : Nat → Nat → Bool) (hcmp : CmpOf prog w A.in1 .Gt Fp bt) (hSf : S ∉ fp) {s : Shared} {c : Nat} (hst : St 0 s.heap) (hS : s.heap.get? S = some (lobj #[] c))
    (hR : 0 < n → ∀ v h' tk, Fp (argBest bt (n - 1)) v → (∀ b o, b ∉ wr → b ≠ S → s.heap.get? b = some o → h'.get? b = some o) → R (.ok (.ret v)) { s with heap := h', toks := tk })
    (h0 : n = 0 → ∀ h' tk, (∀ b o, b ∉ wr → s.heap.get? b = some o → h'.get? b = some o) → R (.ok (.ret d)) { s with heap := h', toks := tk }) :
    codeAny (model prog w) A (.builtin "max.loop" ⟨[.ref I, .none, .ref S], dk d⟩) R s := by
  have hSw : S ∉ wr := fun h => hSf (W.sub _ h)
  have hname : (toString "max" ++ toString ".loop" : String) = "max.loop" := by decide
  refine codeAny_builtin F.entry_max_loop ?_
  rw [Around.under_plainId F.plain_max_loop _]
  refine wpAny_bind (wpAny_seqItems hS rfl ?_)
  rcases Nat.eq_zero_or_pos n with hn | hn
  · refine wpAny_bind (wpAny_tryCatch (W.done s _ _ (hn ▸ hst) fun h' tk kp => ?_))
    refine wpAny_bind (wpAny_rule (wpAny_pure ?_))
    exact h0 hn _ tk kp
  · refine wpAny_bind (wpAny_tryCatch (W.item 0 s _ _ hn hst fun v h' tk hP hst' kp => ?_))
    have hS' := kp S _ hSw hS
    refine wpAny_bind (m := updateSeq S fun _ => #[v, v]) (wpAny_updateSeq hS' rfl ?_)
    rw [hname]
    refine wpAny_pure ⟨plainId_quiet F.plain_max_loop _, maxD_loop W bt hcmp hSf _ 0 _ v _ rfl hn (W.frame _ _ _ hst' fun b hbf o e => (Heap.get?_update_other _ _ (fun z : S = b => hSf (z ▸ hbf))).trans e) hP (Heap.get?_update_self _ hS' rfl) fun v' h2 tk2 hP2 k2 => ?_⟩
    exact hR hn v' h2 tk2 hP2 fun b o hbw hbS e => k2 b o hbw hbS ((Heap.get?_update_other _ _ (Ne.symm hbS)).trans (kp b o hbw e))
end
theorem args_maxD (a d : Value) : argsOk "max" ⟨[a], dk d⟩ := by unfold argsOk; kernel_rfl
section
variable {prog : Program} {w : World} {A : Around} {E : Value → Shared → Prop} {s : Shared} {l : Addr} {its : List Value} {ns : List Int}
theorem max_int_D {d : Value} {xs : Array (Int × Tok)} {Q : Value → Shared → Prop} (hh : A.handled = none) (hl : s.heap.IsList l (intItems xs))
    (h : 0 < xs.size → ∀ v h' tk, (intItems xs)[argBest (fun i j => decide (numAt xs i > numAt xs j)) (xs.size - 1)]? = some v → (∀ b o, s.heap.get? b = some o → h'.get? b = some o) → Q v { s with heap := h', toks := tk })
    (h0 : xs.size = 0 → ∀ h' tk, (∀ b o, s.heap.get? b = some o → h'.get? b = some o) → Q d { s with heap := h', toks := tk }) :
    wpAny (model prog w) A (call (.builtin "max") [.ref l] (dk d)) Q E s := by
  have hname : (toString "max" ++ toString ".loop" : String) = "max.loop" := by decide
  refine kmk_tree F.kind_max F.plain_max F.entry_max (args_maxD _ _) ?_
  show wpAny _ A.in1 (Builtin.Builtins.bindParams "max" ["key", "default"] 0 ⟨[], dk d⟩ >>= _) _ _ s
  refine wpAny_bind (wpAny_of_eq (show Builtin.Builtins.bindParams "max" ["key", "default"] 0 ⟨[], dk d⟩ = pure [none, some d] from rfl) ?_)
  refine wpAny_bind (wpAny_pure ?_)
  refine wpAny_bind (iter_intList hl fun s₂ e st hfp hlI => ?_)
  subst e
  refine wpAny_bind (wpAny_newObj_type ?_)
  rw [hname]
  have W := Walks.list (prog := prog) (w := w) (A := A.in1) hh _ l hlI (intItems xs)
  have hSf : (s.heap.push { cls := .type "list_iterator", data := .fields #[.ref l, .int 0 0] }).objs.size ∉ [s.heap.objs.size, l] := fun hm => Nat.lt_irrefl _ (hfp _ hm)
  have hsz : (intItems xs).size = xs.size := by simp [intItems]
  refine wpAny_pure ⟨plainId_quiet F.plain_max_loop _, maxD_first W (fun i j => decide (numAt xs i > numAt xs j)) (CmpOf.ints_gt (numAt xs) (fun _ _ => intItems_at)) hSf (W.frame _ _ _ st fun b _ o e => Heap.get?_push_of_some _ e) (Heap.get?_push_size _ rfl)
    (fun hn v h' tk hP k => ?_) fun hn h' tk k => ?_⟩
  · refine h (by rw [← hsz]; exact hn) v h' tk (by rw [← hsz]; exact hP) fun b o e => k b o (fun hm => ?_) ?_ (Heap.get?_push_of_some _ (Heap.get?_push_of_some _ e))
    · have := Heap.lt_size e
      rw [List.mem_singleton.mp hm] at this
      exact Nat.lt_irrefl _ this
    · exact Nat.ne_of_lt (Heap.lt_size (Heap.get?_push_of_some _ e))
  · refine h0 (by rw [← hsz]; exact hn) h' tk fun b o e => k b o (fun hm => ?_) (Heap.get?_push_of_some _ (Heap.get?_push_of_some _ e))
    have := Heap.lt_size e
    rw [List.mem_singleton.mp hm] at this
    exact Nat.lt_irrefl _ this
/-- the greatest, or d -/
def topD (d : Int) (ns : List Int) (m : Int) : Prop := (ns = [] ∧ m = d) ∨ (m ∈ ns ∧ ∀ y ∈ ns, y ≤ m)
theorem maxD_raw {d : Int} {td : Tok} {Q : Value → Shared → Prop} (hh : A.handled = none) (hl : s.heap.IsList l its.toArray) (hi : IntsAre its ns)
    (h : ∀ h' tk m t', (∀ b o, s.heap.get? b = some o → h'.get? b = some o) → topD d ns m → Q (.int m t') { s with heap := h', toks := tk }) : wpAny (model prog w) A (call (.builtin "max") [.ref l] (dk (.int d td))) Q E s := by
  obtain ⟨xs, e⟩ := hi.allInts.items
  have hn : numsOf (intItems xs).toList = ns := by rw [← e]; exact hi.numsOf
  rw [nums_intItems] at hn
  subst hn
  rw [e] at hl
  refine max_int_D hh hl (fun hsz v h' tk hv hk => ?_) fun hsz h' tk hk => ?_
  · obtain ⟨t, rfl⟩ := intItems_at hv
    obtain ⟨h1, h2⟩ := argBest_gt (numAt xs) (xs.size - 1)
    refine h h' tk _ t hk (.inr ⟨?_, fun a ha => ?_⟩)
    · rw [numAt_eq]; exact PySem.getD_mem (by rw [List.length_map, Array.length_toList]; omega)
    · obtain ⟨j, hj, rfl⟩ := mem_getD ha
      rw [List.length_map, Array.length_toList] at hj
      rw [← numAt_eq]; exact h2 j (by omega)
  · refine h h' tk d td hk (.inl ⟨?_, rfl⟩)
    have : xs.toList = [] := by
      apply List.eq_nil_of_length_eq_zero
      rw [Array.length_toList]; exact hsz
    rw [this]; rfl
end
def tMaxD (K : PySem.W.Frag) (d : Int) (t : TE) : TE := fun σ H Q => t σ H fun x H1 => ∃ a ns, x = .ref a ∧ SqL K H1 a (ns.map V.int) ∧ ∀ m, topD d ns m → Q (.int m) H1
/-- max(xs, default=d) -/
theorem pe_maxD {X : Cx} {e : Expr} {t : TE} {d : Int} {k : Nat} {kp cp p pos : Pos} (hc : X.calm = true) (hg : Gl X "max") (hm : X.mg "max" = none) (he : PE X e t) (hs : starEach [e] X.env = (false, eval e X.env) :: starEach [] X.env := by rfl) :
    PE X (.Call (.Name "max" p) [e] [⟨some "default", .Constant (.int d) k cp, kp⟩] pos) (tMaxD X.K d t) := by
  refine ⟨fun pins s σ H Q I h => ?_⟩
  refine wpAny_Call_Name_kw (ld_blt I hg hm boot_max ?_ (by decide) (by decide))
  have hb : backTo pos (starEach [e] X.env) = (false, eval e X.env) :: backTo pos (starEach [] X.env) := by rw [hs]; rfl
  refine callWith_kw ?_ hb (by rw [hb]; rfl) rfl rfl
  rw [hb]
  refine Calls.spliced_cons (thn (he.run pins s σ H _ I h) fun v s1 ⟨x, H1, I1, r1, a, ns, ex, hl, q⟩ => Calls.spliced_nil ?_)
  subst ex
  obtain rfl : v = Value.ref a := r1
  have hd : PE X (.Constant (.int d) k cp) (tC (.int d)) := pe_int
  refine kws_cons (thn (hd.run pins s1 σ H1 (fun y H2 => y = .int d ∧ H2 = H1) I1 ⟨rfl, rfl⟩) fun u s2 ⟨y, H2, I2, r2, ey, eH⟩ => kws_nil ?_)
  subst ey eH
  obtain ⟨td, rfl⟩ := (show ∃ t, u = Value.int d t from r2)
  obtain ⟨its, rv, hl2, _⟩ := I2.list hl
  refine maxD_raw (I2.ok.hd hc) hl2.isList rv.ints fun h' tk m t' hk tp => ⟨.int m, _, I2.kept hk, ⟨_, rfl⟩, q m tp⟩
end SW

set_option Elab.async false
set_option linter.all false
set_option maxRecDepth 100000
set_option maxHeartbeats 4000000
namespace SW
open PySem PySem.Spec PyProof.Rows L2
/-! ### texts in order -/
def leS (a b : Str) : Prop := ¬ b.cps.toList < a.cps.toList
theorem leS_trans {a b c : Str} (h : leS a b) (g : leS b c) : leS a c := by
  unfold leS at *
  exact fun k => List.not_lt.mpr (List.le_trans (List.not_lt.mp h) (List.not_lt.mp g)) k
theorem leS_anti {a b : Str} (h : leS a b) (g : leS b a) : a = b := by
  have e := List.le_antisymm (List.not_lt.mp h) (List.not_lt.mp g)
  cases a
  cases b
  congr 1
  exact Array.toList_inj.mp e
theorem pw_of_rising : ∀ (p : Str) (l : List Str), risingS p l = true → (p :: l).Pairwise leS
  | p, [], _ => List.pairwise_singleton _ _
  | p, x :: r, h => by
    have h' : (!ltCps x.cps.toList p.cps.toList && risingS x r) = true := h
    rw [Bool.and_eq_true, Bool.not_eq_true', ltCps_eq] at h'
    have a : leS p x := fun z => by
      rw [decide_eq_true z] at h'
      exact absurd h'.1 (by decide)
    have ih := pw_of_rising x r h'.2
    refine List.pairwise_cons.mpr ⟨fun y hy => ?_, ih⟩
    rcases List.mem_cons.mp hy with e | hy
    · rw [e]; exact a
    · exact leS_trans a ((List.pairwise_cons.mp ih).1 y hy)
theorem pw_of_sorted {l : List Str} (h : sortedS l = true) : l.Pairwise leS := by
  cases l with
  | nil => exact List.Pairwise.nil
  | cons x r => exact pw_of_rising x r h
/-- sorted, each once: it is known by its members -/
theorem srt_eq : ∀ {a b : List Str}, a.Pairwise leS → b.Pairwise leS → a.Nodup → b.Nodup → (∀ x, x ∈ a ↔ x ∈ b) → a = b
  | [], [], _, _, _, _, _ => rfl
  | [], y :: s, _, _, _, _, h => absurd ((h y).mpr (List.mem_cons_self ..)) (by simp)
  | x :: r, [], _, _, _, _, h => absurd ((h x).mp (List.mem_cons_self ..)) (by simp)
  | x :: r, y :: s, pa, pb, na, nb, h => by
    obtain ⟨a1, a2⟩ := List.pairwise_cons.mp pa
    obtain ⟨b1, b2⟩ := List.pairwise_cons.mp pb
    obtain ⟨c1, c2⟩ := List.nodup_cons.mp na
    obtain ⟨d1, d2⟩ := List.nodup_cons.mp nb
    have e : x = y := by
      rcases List.mem_cons.mp ((h x).mp (List.mem_cons_self ..)) with e | hx
      · exact e
      · rcases List.mem_cons.mp ((h y).mpr (List.mem_cons_self ..)) with e | hy
        · exact e.symm
        · exact leS_anti (a1 y hy) (b1 x hx)
    subst e
    have := srt_eq a2 b2 c2 d2 fun z => by
      constructor
      · intro hz
        rcases List.mem_cons.mp ((h z).mp (List.mem_cons_of_mem _ hz)) with e | q
        · exact absurd (e ▸ hz) c1
        · exact q
      · intro hz
        rcases List.mem_cons.mp ((h z).mpr (List.mem_cons_of_mem _ hz)) with e | q
        · exact absurd (e ▸ hz) d1
        · exact q
    rw [this]
theorem nodup_len : ∀ (l D : List Str), l.Nodup → (∀ x ∈ l, x ∈ D) → l.length ≤ D.length
  | [], _, _, _ => Nat.zero_le _
  | x :: l, D, hn, hs => by
    obtain ⟨h1, h2⟩ := List.nodup_cons.mp hn
    have hx : x ∈ D := hs x (List.mem_cons_self ..)
    have ih := nodup_len l (D.erase x) h2 fun y hy => (List.mem_erase_of_ne (show y ≠ x from fun e => h1 (e ▸ hy))).2 (hs y (List.mem_cons_of_mem _ hy))
    have e := List.length_erase_of_mem hx
    have hp : 0 < D.length := List.length_pos_of_mem hx
    rw [List.length_cons]
    omega
/-- ys: the members of l, in order, each once -/
structure Srt (ys l : List Str) : Prop where
  pw : ys.Pairwise leS
  nd : ys.Nodup
  mem : ∀ x, x ∈ ys ↔ x ∈ l
theorem Srt.eq {a b l : List Str} (x : Srt a l) (y : Srt b l) : a = b := srt_eq x.pw y.pw x.nd y.nd fun z => (x.mem z).trans (y.mem z).symm
theorem Srt.len {a l : List Str} (x : Srt a l) : a.length ≤ l.length := nodup_len a l x.nd fun z h => (x.mem z).mp h
theorem Srt.sub {a l D : List Str} (x : Srt a l) (h : ∀ z ∈ l, z ∈ D) : a.length ≤ D.length := nodup_len a D x.nd fun z q => h z ((x.mem z).mp q)
theorem srt_of {ys m l : List Str} (p : ys.Perm m) (s : sortedS ys = true) (nd : m.Nodup) (h : ∀ x, x ∈ m ↔ x ∈ l) : Srt ys l :=
  ⟨pw_of_sorted s, p.nodup_iff.mpr nd, fun x => p.mem_iff.trans (h x)⟩
theorem srt_one (c : Str) : Srt [c] [c] := ⟨List.pairwise_singleton _ _, by simp, fun _ => Iff.rfl⟩
theorem srt_nil : Srt [] [] := ⟨List.Pairwise.nil, by simp, fun _ => Iff.rfl⟩
theorem Srt.filter {ys l : List Str} (s : Srt ys l) (p : Str → Bool) : Srt (ys.filter p) (l.filter p) :=
  ⟨s.pw.sublist List.filter_sublist, s.nd.sublist List.filter_sublist, fun x => by rw [List.mem_filter, List.mem_filter, s.mem]⟩
/-! ### formulas -/
inductive Fm where
  | rel (k a b : Str)
  | nam (c : Str)
  | neg (f : Fm)
  | bin (k : Str) (f g : Fm)
  | qu (k x : Str) (f : Fm)
def Fm.dat : Fm → PyData
  | .rel k a b => .tuple [.str k, .str a, .str b]
  | .nam c => .tuple [.str "named", .str c]
  | .neg f => .tuple [.str "not", f.dat]
  | .bin k f g => .tuple [.str k, f.dat, g.dat]
  | .qu k x f => .tuple [.str k, .str x, f.dat]
def Fm.dep : Fm → Nat
  | .rel _ _ _ => 1
  | .nam _ => 1
  | .neg f => f.dep + 1
  | .bin _ f g => max f.dep g.dep + 1
  | .qu _ _ f => f.dep + 1
def Fm.parts : Fm → List Fm
  | .rel _ _ _ => []
  | .nam _ => []
  | .neg f => [f]
  | .bin _ f g => [f, g]
  | .qu _ _ f => [f]
def Fm.size : Fm → Nat
  | .rel _ _ _ => 1
  | .nam _ => 1
  | .neg f => f.size + 1
  | .bin _ f g => f.size + g.size + 1
  | .qu _ _ f => f.size + 1
def Fm.nest : Fm → Nat
  | .rel _ _ _ => 0
  | .nam _ => 0
  | .neg f => f.nest
  | .bin _ f g => max f.nest g.nest
  | .qu _ _ f => f.nest + 1
def Fm.nms : Fm → List Str
  | .rel _ _ _ => []
  | .nam c => [c]
  | .neg f => f.nms
  | .bin _ f g => f.nms ++ g.nms
  | .qu _ _ f => f.nms
def Fm.fvs : Fm → List Str
  | .rel k a b => if k = "letter" then [b] else [a, b]
  | .nam _ => []
  | .neg f => f.fvs
  | .bin _ f g => f.fvs ++ g.fvs
  | .qu _ x f => f.fvs.filter fun y => decide (y ≠ x)
abbrev xyz : List Str := ["x", "y", "z"]
abbrev XYZ : List Str := ["X", "Y", "Z"]
abbrev vrs : List Str := ["x", "y", "z", "X", "Y", "Z"]
/-- names: one to eight lowercase letters -/
def NmOk (c : Str) : Prop := 1 ≤ c.cps.size ∧ c.cps.size ≤ 8 ∧ ∀ x ∈ c.cps.toList, 97 ≤ x ∧ x ≤ 122
inductive RelOk : Str → Str → Str → Prop where
  | ltr {a b : Str} (ha : a ∈ abc) (hb : b ∈ xyz) : RelOk "letter" a b
  | pl {k a b : Str} (hk : k = "before" ∨ k = "next" ∨ k = "same") (ha : a ∈ xyz) (hb : b ∈ xyz) : RelOk k a b
  | el {a b : Str} (ha : a ∈ xyz) (hb : b ∈ XYZ) : RelOk "in" a b
def Fm.Ok : Fm → Prop
  | .rel k a b => RelOk k a b
  | .nam c => NmOk c
  | .neg f => f.Ok
  | .bin k f g => (k = "and" ∨ k = "or") ∧ f.Ok ∧ g.Ok
  | .qu k x f => (k = "some" ∨ k = "all") ∧ x ∈ vrs ∧ f.Ok
theorem Fm.dep_pos (f : Fm) : 1 ≤ f.dep := by cases f <;> unfold Fm.dep <;> omega
theorem xyz_sub : ∀ c ∈ xyz, c ∈ vrs := by
  intro c h
  simp only [xyz, vrs, List.mem_cons, List.not_mem_nil, or_false] at h ⊢
  rcases h with h | h | h <;> simp [h]
theorem XYZ_sub : ∀ c ∈ XYZ, c ∈ vrs := by
  intro c h
  simp only [XYZ, vrs, List.mem_cons, List.not_mem_nil, or_false] at h ⊢
  rcases h with h | h | h <;> simp [h]
theorem Fm.parts_mem {f g : Fm} (o : f.Ok) (h : g ∈ f.parts) : g.Ok ∧ g.dep < f.dep := by
  cases f with
  | rel k a b => exact absurd h (by simp [Fm.parts])
  | nam c => exact absurd h (by simp [Fm.parts])
  | neg f =>
    rw [Fm.parts, List.mem_singleton] at h
    subst h
    exact ⟨o, by rw [Fm.dep]; omega⟩
  | bin k f1 f2 =>
    rw [Fm.parts, List.mem_cons, List.mem_singleton] at h
    obtain ⟨_, o1, o2⟩ := o
    rcases h with rfl | rfl
    · exact ⟨o1, by rw [Fm.dep]; omega⟩
    · exact ⟨o2, by rw [Fm.dep]; omega⟩
  | qu k x f =>
    rw [Fm.parts, List.mem_singleton] at h
    subst h
    exact ⟨o.2.2, by rw [Fm.dep]; omega⟩
theorem Fm.parts_len (f : Fm) : f.parts.length ≤ 2 := by cases f <;> simp [Fm.parts]
theorem Fm.fvs_sub : ∀ f : Fm, f.Ok → ∀ x ∈ f.fvs, x ∈ vrs
  | .rel k a b, o, x, h => by
    rw [Fm.fvs] at h
    have o' : RelOk k a b := o
    cases o' with
    | ltr ha hb =>
      rw [if_pos rfl, List.mem_singleton] at h
      subst h
      exact xyz_sub _ hb
    | pl hk ha hb =>
      split at h
      · rw [List.mem_singleton] at h
        subst h
        exact xyz_sub _ hb
      · rw [List.mem_cons, List.mem_singleton] at h
        rcases h with rfl | rfl
        · exact xyz_sub _ ha
        · exact xyz_sub _ hb
    | el ha hb =>
      rw [if_neg (by decide), List.mem_cons, List.mem_singleton] at h
      rcases h with rfl | rfl
      · exact xyz_sub _ ha
      · exact XYZ_sub _ hb
  | .nam c, o, x, h => absurd h (by simp [Fm.fvs])
  | .neg f, o, x, h => Fm.fvs_sub f o x h
  | .bin k f g, o, x, h => by
    rcases List.mem_append.mp h with h | h
    · exact Fm.fvs_sub f o.2.1 x h
    · exact Fm.fvs_sub g o.2.2 x h
  | .qu k y f, o, x, h => Fm.fvs_sub f o.2.2 x (List.mem_filter.mp h).1
theorem Fm.nms_len : ∀ f : Fm, f.nms.length ≤ 2 ^ (f.dep - 1)
  | .rel k a b => by simp [Fm.nms]
  | .nam c => by simp [Fm.nms, Fm.dep]
  | .neg f => by
    have ih := Fm.nms_len f
    have := f.dep_pos
    rw [Fm.nms, Fm.dep]
    exact Nat.le_trans ih (Nat.pow_le_pow_right (by decide) (by omega))
  | .bin k f g => by
    have h1 := Fm.nms_len f
    have h2 := Fm.nms_len g
    have p1 := f.dep_pos
    have p2 := g.dep_pos
    rw [Fm.nms, Fm.dep, List.length_append]
    have a1 : 2 ^ (f.dep - 1) ≤ 2 ^ (max f.dep g.dep - 1) := Nat.pow_le_pow_right (by decide) (by omega)
    have a2 : 2 ^ (g.dep - 1) ≤ 2 ^ (max f.dep g.dep - 1) := Nat.pow_le_pow_right (by decide) (by omega)
    have e : max f.dep g.dep + 1 - 1 = (max f.dep g.dep - 1) + 1 := by omega
    rw [e, Nat.pow_succ]
    omega
  | .qu k x f => by
    have ih := Fm.nms_len f
    have := f.dep_pos
    rw [Fm.nms, Fm.dep]
    exact Nat.le_trans ih (Nat.pow_le_pow_right (by decide) (by omega))
theorem Fm.nms_32 {f : Fm} (h : f.dep ≤ 6) : f.nms.length ≤ 32 := by
  have := Fm.nms_len f
  have h2 : 2 ^ (f.dep - 1) ≤ 2 ^ 5 := Nat.pow_le_pow_right (by decide) (by omega)
  have e : 2 ^ 5 = 32 := by decide
  omega
theorem Fm.size_le : ∀ f : Fm, f.size < 2 ^ f.dep
  | .rel k a b => by rw [Fm.size, Fm.dep]; decide
  | .nam c => by rw [Fm.size, Fm.dep]; decide
  | .neg f => by
    have := Fm.size_le f
    rw [Fm.size, Fm.dep, Nat.pow_succ]
    omega
  | .bin k f g => by
    have h1 := Fm.size_le f
    have h2 := Fm.size_le g
    have a1 : 2 ^ f.dep ≤ 2 ^ max f.dep g.dep := Nat.pow_le_pow_right (by decide) (Nat.le_max_left _ _)
    have a2 : 2 ^ g.dep ≤ 2 ^ max f.dep g.dep := Nat.pow_le_pow_right (by decide) (Nat.le_max_right _ _)
    rw [Fm.size, Fm.dep, Nat.pow_succ]
    omega
  | .qu k x f => by
    have := Fm.size_le f
    rw [Fm.size, Fm.dep, Nat.pow_succ]
    omega
/-! ### how the heap bears them -/
abbrev FV (K : PySem.W.Frag) (H : Hp) (v : V) (f : Fm) : Prop := Dp K H v f.dat
def FVs (K : PySem.W.Frag) (H : Hp) (vs : List V) (fs : List Fm) : Prop := DpAll K H vs (fs.map Fm.dat)
theorem FV.tp {K : PySem.W.Frag} {H H' : Hp} (t : Tp H H') : ∀ (f : Fm) {v : V}, FV K H v f → FV K H' v f
  | .rel k a b, v, h => by
    unfold FV Fm.dat at *
    cases h with | tup s x => ?_
    cases x with | cons x y => ?_
    cases y with | cons y z => ?_
    cases z with | cons z u => ?_
    cases x
    cases y
    cases z
    cases u
    exact .tup (t.sq s) (.cons (.str _) (.cons (.str _) (.cons (.str _) .nil)))
  | .nam c, v, h => by
    unfold FV Fm.dat at *
    cases h with | tup s x => ?_
    cases x with | cons x y => ?_
    cases y with | cons y z => ?_
    cases x
    cases y
    cases z
    exact .tup (t.sq s) (.cons (.str _) (.cons (.str _) .nil))
  | .neg f, v, h => by
    unfold FV Fm.dat at *
    cases h with | tup s x => ?_
    cases x with | cons x y => ?_
    cases y with | cons y z => ?_
    cases x
    cases z
    exact .tup (t.sq s) (.cons (.str _) (.cons (FV.tp t f y) .nil))
  | .bin k f g, v, h => by
    unfold FV Fm.dat at *
    cases h with | tup s x => ?_
    cases x with | cons x y => ?_
    cases y with | cons y z => ?_
    cases z with | cons z u => ?_
    cases x
    cases u
    exact .tup (t.sq s) (.cons (.str _) (.cons (FV.tp t f y) (.cons (FV.tp t g z) .nil)))
  | .qu k x f, v, h => by
    unfold FV Fm.dat at *
    cases h with | tup s x => ?_
    cases x with | cons x y => ?_
    cases y with | cons y z => ?_
    cases z with | cons z u => ?_
    cases x
    cases y
    cases u
    exact .tup (t.sq s) (.cons (.str _) (.cons (.str _) (.cons (FV.tp t f z) .nil)))
theorem FVs.tp {K : PySem.W.Frag} {H H' : Hp} (t : Tp H H') : ∀ {fs : List Fm} {vs : List V}, FVs K H vs fs → FVs K H' vs fs
  | [], vs, h => by
    unfold FVs at *
    cases h
    exact .nil
  | f :: r, vs, h => by
    unfold FVs at h
    rw [List.map_cons] at h
    cases h with | cons a b => ?_
    exact .cons (FV.tp t f a) (FVs.tp t (fs := r) b)
theorem FVs.length {K : PySem.W.Frag} {H : Hp} {fs : List Fm} {vs : List V} (h : FVs K H vs fs) : vs.length = fs.length := by
  have := DpAll.length h
  rw [List.length_map] at this
  exact this
theorem FVs.get {K : PySem.W.Frag} {H : Hp} {fs : List Fm} {vs : List V} {i : Nat} {x : V} (h : FVs K H vs fs) (e : vs[i]? = some x) : ∃ f, fs[i]? = some f ∧ FV K H x f := by
  obtain ⟨d, h1, h2⟩ := DpAll.get h e
  rw [List.getElem?_map] at h1
  obtain ⟨f, h3, rfl⟩ := Option.map_eq_some_iff.mp h1
  exact ⟨f, h3, h2⟩
inductive FAt (K : PySem.W.Frag) (H : Hp) (v : V) : Fm → Prop where
  | rel {p : Addr} {k a b : Str} (e : v = .ref p) (s : SqT K H p [.str k, .str a, .str b]) : FAt K H v (.rel k a b)
  | nam {p : Addr} {c : Str} (e : v = .ref p) (s : SqT K H p [.str "named", .str c]) : FAt K H v (.nam c)
  | neg {p : Addr} {x : V} {f : Fm} (e : v = .ref p) (s : SqT K H p [.str "not", x]) (h : FV K H x f) : FAt K H v (.neg f)
  | bin {p : Addr} {x y : V} {k : Str} {f g : Fm} (e : v = .ref p) (s : SqT K H p [.str k, x, y]) (h : FV K H x f) (h2 : FV K H y g) : FAt K H v (.bin k f g)
  | qu {p : Addr} {x : V} {k y : Str} {f : Fm} (e : v = .ref p) (s : SqT K H p [.str k, .str y, x]) (h : FV K H x f) : FAt K H v (.qu k y f)
theorem FV.at {K : PySem.W.Frag} {H : Hp} {v : V} : ∀ {f : Fm}, FV K H v f → FAt K H v f
  | .rel k a b, h => by
    unfold FV Fm.dat at h
    cases h with | tup s x => ?_
    cases x with | cons x y => ?_
    cases y with | cons y z => ?_
    cases z with | cons z u => ?_
    cases x
    cases y
    cases z
    cases u
    exact .rel rfl s
  | .nam c, h => by
    unfold FV Fm.dat at h
    cases h with | tup s x => ?_
    cases x with | cons x y => ?_
    cases y with | cons y z => ?_
    cases x
    cases y
    cases z
    exact .nam rfl s
  | .neg f, h => by
    unfold FV Fm.dat at h
    cases h with | tup s x => ?_
    cases x with | cons x y => ?_
    cases y with | cons y z => ?_
    cases x
    cases z
    exact .neg rfl s y
  | .bin k f g, h => by
    unfold FV Fm.dat at h
    cases h with | tup s x => ?_
    cases x with | cons x y => ?_
    cases y with | cons y z => ?_
    cases z with | cons z u => ?_
    cases x
    cases u
    exact .bin rfl s y z
  | .qu k x f, h => by
    unfold FV Fm.dat at h
    cases h with | tup s x => ?_
    cases x with | cons x y => ?_
    cases y with | cons y z => ?_
    cases z with | cons z u => ?_
    cases x
    cases y
    cases u
    exact .qu rfl s z
section
variable {K : PySem.W.Frag} {H : Hp} {p : Addr} {x y : V} {f g : Fm}
theorem fv_rel {k a b : Str} (s : SqT K H p [.str k, .str a, .str b]) : FV K H (.ref p) (.rel k a b) := .tup s (.cons (.str _) (.cons (.str _) (.cons (.str _) .nil)))
theorem fv_nam {c : Str} (s : SqT K H p [.str "named", .str c]) : FV K H (.ref p) (.nam c) := .tup s (.cons (.str _) (.cons (.str _) .nil))
theorem fv_neg (s : SqT K H p [.str "not", x]) (h : FV K H x f) : FV K H (.ref p) (.neg f) := .tup s (.cons (.str _) (.cons h .nil))
theorem fv_bin {k : Str} (s : SqT K H p [.str k, x, y]) (h : FV K H x f) (h2 : FV K H y g) : FV K H (.ref p) (.bin k f g) := .tup s (.cons (.str _) (.cons h (.cons h2 .nil)))
theorem fv_qu {k a : Str} (s : SqT K H p [.str k, .str a, x]) (h : FV K H x f) : FV K H (.ref p) (.qu k a f) := .tup s (.cons (.str _) (.cons (.str _) (.cons h .nil)))
theorem fvs_nil : FVs K H [] [] := .nil
theorem fvs_cons {xs : List V} {fs : List Fm} (h : FV K H x f) (t : FVs K H xs fs) : FVs K H (x :: xs) (f :: fs) := .cons h t
end
theorem strs_dp {K : PySem.W.Frag} {H : Hp} : ∀ ds : List Str, DpAll K H (ds.map V.str) (ds.map PyData.str)
  | [] => .nil
  | d :: r => .cons (.str d) (strs_dp r)
theorem strs_sm {ds : List Str} {n : Nat} (h : ds.length ≤ 1000) : Sm (n + 1) (.list (ds.map PyData.str)) := by
  unfold Sm
  refine ⟨by rw [List.length_map]; exact h, fun d q => ?_⟩
  obtain ⟨i, _, rfl⟩ := List.mem_map.mp q
  cases n <;> (unfold Sm; trivial)
/-! ### a def whose code object is at hand -/
section
variable {P : Program} {w : World} {K : PySem.W.Frag} {mg : Str → Option Value} {base : Heap}
theorem Df.okC {x : Str} {st : Stmt} {N ps : List Str} {k : Nat} {sp : Sp} (D : Df K mg x st ps) (S : FnScope N ps (defScope st)) (len : ∀ vs H Q E, sp vs H Q E → vs.length = ps.length)
    (hbody : ∀ (f : Addr) (cdv : Value) (A : Around) (outer : List Env) (s : Shared) (H : Hp) (vs : List V) (Q : VK) (E : XK), PySem.W.kdsCode K cdv = true → Room k (A.deeper (envOfC x (defScope st) s.heap.objs.size f cdv)) → sp vs H Q E →
      ∃ t, PSs (cxOf CX0 P w K mg base N x (defScope st) f cdv A outer s H E).nox (defBody st) t ∧ t { nx := fun _ H' => Q .non H', rt := Q } (start N vs) H) : Cal P w K mg base (k + 1) x ps sp := by
  obtain ⟨f, fd, F, m, b⟩ := D.ex
  have kp := F.kp
  obtain ⟨oc, od, kV, doc, pm, an, cdv, ct, osl, rfl, lk, hcd⟩ := F.ex
  refine ⟨f, _, fn_of lk hcd S len fun A outer s H vs Q E hr hsp => ?_, m, kp, b, oc, od, osl, lk⟩
  obtain ⟨t, h, q⟩ := hbody f cdv A outer s H vs Q E (kdsCode_of hcd) hr hsp
  exact ⟨t, h.nox, q⟩
end
end SW

set_option Elab.async false
set_option linter.all false
set_option maxRecDepth 100000
set_option maxHeartbeats 4000000
namespace SW
open PySem PySem.Spec PyProof.Rows L2
/-! ### any comprehension over a walk of given items -/
theorem wkAt {J : It} {n : Nat} {G : Hp → Prop} {xs : List V} {H0 : Hp} {Qd : Hp → Prop} {body : (Hp → Prop) → V → Hp → Prop} (w : Walk J n G (YAt xs)) (Pv : Nat → Hp → Prop) (h0 : Pv 0 H0) (hG : ∀ i H, i ≤ n → Pv i H → G H)
    (hs : ∀ i x H, i < n → xs[i]? = some x → Pv i H → body (Pv (i + 1)) x H) (hd : ∀ H, Pv n H → Qd H) :
    ∃ W : Nat → Nat → Hp → Prop, (∃ m, W 0 m H0) ∧ ∀ i m H, W i m H → (J.stop i H ∧ Qd H) ∨ (J.go i H ∧ ∃ Nx : Hp → Prop, (∀ H', Nx H' → ∃ m', m' < m ∧ W (i + 1) m' H') ∧ ∀ x H', J.yld i H x H' → body Nx x H') := by
  refine ⟨fun i m H => m = n - i ∧ i ≤ n ∧ Pv i H, ⟨n, by omega, Nat.zero_le _, h0⟩, ?_⟩
  rintro i m H ⟨rfl, hi, p⟩
  by_cases hlt : i < n
  · refine .inr ⟨w.goes i H hlt (hG i H hi p), Pv (i + 1), fun H' p' => ⟨n - (i + 1), by omega, rfl, hlt, p'⟩, fun x H' y => ?_⟩
    obtain ⟨e, y2⟩ := w.yields i H x H' hlt (hG i H hi p) y
    subst e
    exact hs i x _ hlt y2 p
  · have e : i = n := by omega
    subst e
    exact .inl ⟨w.stops H (hG _ H hi p), hd H p⟩
/-- one more text into the set -/
theorem e_sc {w : World} {D : Addr} {H : Hp} {c : Str} {l : List Str} {Nx : Hp → Prop} (hD : H D = some (SetLO w D l)) (hl : l.length + 1 < 4096) (h : Nx (upd H D (SetLO w D (insS l c)))) :
    ∃ (c' : Str) (l' : List Str), V.str c = .str c' ∧ H D = some (SetLO w D l') ∧ l'.length + 1 < scanBound ∧ Nx (upd H D (SetLO w D (insS l' c'))) := ⟨c, l, rfl, hD, hl, h⟩
def insAll (l : List Str) : List Str → List Str
  | [] => l
  | c :: r => insAll (insS l c) r
theorem insAll_nodup : ∀ {r l : List Str}, l.Nodup → (insAll l r).Nodup
  | [], _, h => h
  | c :: r, _, h => insAll_nodup (r := r) (insS_nodup h)
theorem mem_insAll {x : Str} : ∀ {r l : List Str}, x ∈ insAll l r ↔ x ∈ l ∨ x ∈ r
  | [], l => by simp [insAll]
  | c :: r, l => by
    rw [insAll, mem_insAll, mem_insS, List.mem_cons]
    exact ⟨fun h => h.elim (fun h => h.elim .inl fun h => .inr (.inl h)) fun h => .inr (.inr h), fun h => h.elim (fun h => .inl (.inl h)) fun h => h.elim (fun h => .inl (.inr h)) .inr⟩
theorem insAll_app {a b l : List Str} : insAll l (a ++ b) = insAll (insAll l a) b := by
  induction a generalizing l with
  | nil => rfl
  | cons c r ih => exact ih
theorem insAll_len : ∀ {r l : List Str}, (insAll l r).length ≤ l.length + r.length
  | [], l => by simp [insAll]
  | c :: r, l => by
    have h1 := insAll_len (r := r) (l := insS l c)
    have h2 := insS_len (l := l) (k := c)
    rw [insAll, List.length_cons]
    omega
theorem insAll_one {l : List Str} {c : Str} : insAll l [c] = insS l c := rfl
theorem insAll_take {xs : List Str} {i : Nat} {c : Str} (e : xs[i]? = some c) : insAll [] (xs.take (i + 1)) = insS (insAll [] (xs.take i)) c := by
  rw [List.take_add_one, e]
  show insAll [] (xs.take i ++ [c]) = _
  rw [insAll_app, insAll_one]
theorem insAll_srt {ys r : List Str} (p : ys.Perm (insAll [] r)) (s : sortedS ys = true) : Srt ys r :=
  srt_of p s (insAll_nodup List.nodup_nil) fun x => by rw [mem_insAll]; simp
theorem strs_get {xs : List Str} {i : Nat} {x : V} (e : (xs.map V.str)[i]? = some x) : ∃ c, xs[i]? = some c ∧ x = .str c := by
  rw [List.getElem?_map] at e
  obtain ⟨c, h, rfl⟩ := Option.map_eq_some_iff.mp e
  exact ⟨c, h, rfl⟩
theorem at_ofN {α : Type} {xs : List α} {z : Int} {j : Nat} {v : α} (e : z = (j : Int)) (h : xs[j]? = some v) : atI xs z = some v := by
  rw [e]
  exact atI_nat h
theorem upd_other {H : Hp} {D b : Addr} {o : HO} (h : b ≠ D) : upd H D o b = H b := upd_ne h
theorem ne_str {a b : V} : decide (a = b) = true ↔ a = b := decide_eq_true_iff
/-- l: the members of r, each once -/
structure Srt' (l r : List Str) : Prop where
  nd : l.Nodup
  mem : ∀ x, x ∈ l ↔ x ∈ r
theorem srt0 : Srt' [] [] := ⟨List.nodup_nil, fun _ => Iff.rfl⟩
theorem Srt'.len {l r : List Str} (s : Srt' l r) : l.length ≤ r.length := nodup_len l r s.nd fun x h => (s.mem x).mp h
theorem Srt'.sub {l r D : List Str} (s : Srt' l r) (h : ∀ z ∈ r, z ∈ D) : l.length ≤ D.length := nodup_len l D s.nd fun x q => h x ((s.mem x).mp q)
theorem Srt'.insAll {l r ys z : List Str} (s : Srt' l r) (h : ∀ x, x ∈ ys ↔ x ∈ z) : Srt' (insAll l ys) (r ++ z) :=
  ⟨insAll_nodup s.nd, fun x => by rw [mem_insAll, List.mem_append, s.mem, h]⟩
/-! ### kinds -/
theorem kd_rel {k a b : Str} (o : RelOk k a b) : k = "letter" ∨ k = "before" ∨ k = "next" ∨ k = "same" ∨ k = "in" := by
  cases o with
  | ltr => exact .inl rfl
  | pl hk => rcases hk with h | h | h <;> simp [h]
  | el => simp
theorem rel_notin {k a b : Str} (o : RelOk k a b) {L : List Str} (h : ("letter" : Str) ∉ L ∧ ("before" : Str) ∉ L ∧ ("next" : Str) ∉ L ∧ ("same" : Str) ∉ L ∧ ("in" : Str) ∉ L) : k ∉ L := by
  rcases kd_rel o with e | e | e | e | e <;> rw [e] <;> simp_all
theorem bin_notin {k : Str} (o : k = "and" ∨ k = "or") {L : List Str} (h : ("and" : Str) ∉ L ∧ ("or" : Str) ∉ L) : k ∉ L := by
  rcases o with e | e <;> rw [e] <;> simp_all
theorem bin_in {k : Str} (o : k = "and" ∨ k = "or") {L : List Str} (h : ("and" : Str) ∈ L ∧ ("or" : Str) ∈ L) : k ∈ L := by
  rcases o with e | e <;> rw [e] <;> simp_all
theorem qu_notin {k : Str} (o : k = "some" ∨ k = "all") {L : List Str} (h : ("some" : Str) ∉ L ∧ ("all" : Str) ∉ L) : k ∉ L := by
  rcases o with e | e <;> rw [e] <;> simp_all
theorem qu_in {k : Str} (o : k = "some" ∨ k = "all") {L : List Str} (h : ("some" : Str) ∈ L ∧ ("all" : Str) ∈ L) : k ∈ L := by
  rcases o with e | e <;> rw [e] <;> simp_all
theorem rel_ne {k a b c : Str} (o : RelOk k a b) (h : ("letter" : Str) ∉ [c] ∧ ("before" : Str) ∉ [c] ∧ ("next" : Str) ∉ [c] ∧ ("same" : Str) ∉ [c] ∧ ("in" : Str) ∉ [c]) : k ≠ c := fun e => rel_notin o h (by rw [e]; exact List.mem_cons_self ..)
theorem bin_ne {k c : Str} (o : k = "and" ∨ k = "or") (h : ("and" : Str) ∉ [c] ∧ ("or" : Str) ∉ [c]) : k ≠ c := fun e => bin_notin o h (by rw [e]; exact List.mem_cons_self ..)
theorem qu_ne {k c : Str} (o : k = "some" ∨ k = "all") (h : ("some" : Str) ∉ [c] ∧ ("all" : Str) ∉ [c]) : k ≠ c := fun e => qu_notin o h (by rw [e]; exact List.mem_cons_self ..)
abbrev nab : List Str := ["not", "and", "or"]
abbrev qus : List Str := ["some", "all"]
abbrev bnsi : List Str := ["before", "next", "same", "in"]
theorem sl1 {xs : List V} {hi : Option Int} (h : 1 ≤ xs.length) : ¬ (HT.sIx xs.length 0 (some 1) = 0 ∧ HT.sIx xs.length xs.length hi = xs.length) := by
  rintro ⟨h1, _⟩
  have e : HT.sIx xs.length 0 (some 1) = min 1 xs.length := HT.sIx_nat xs.length 0 1
  rw [e] at h1
  omega
def sizeL (fs : List Fm) : List Int := fs.map fun f => (f.size : Int)
def nestL (fs : List Fm) : List Int := fs.map fun f => (f.nest : Int)
theorem sizeL_snoc {fs : List Fm} {g : Fm} : (sizeL (fs ++ [g])).map V.int = (sizeL fs).map V.int ++ [.int (g.size : Nat)] := by
  rw [sizeL, List.map_append, List.map_append]
  rfl
theorem nestL_snoc {fs : List Fm} {g : Fm} : (nestL (fs ++ [g])).map V.int = (nestL fs).map V.int ++ [.int (g.nest : Nat)] := by
  rw [nestL, List.map_append, List.map_append]
  rfl
end SW

set_option Elab.async false
set_option linter.all false
set_option maxRecDepth 100000
set_option maxHeartbeats 4000000
/-! ### enumerate(tuple) -/
namespace PySem
open Sem (wp)
set_option maxHeartbeats 1000000 in
theorem sw_enum_new1 {v : Value} {o : Obj} {H : Heap → Prop} (B : Begins v o H) :
    Meets (Builtin.«enumerate.__new__» ⟨[.type "enumerate", v], []⟩) (fun _ R s => H s.heap ∧
      R (.ok (.ret (.ref (s.heap.push o).objs.size))) { s with heap := (s.heap.push o).push { cls := .type "enumerate", data := .fields #[.none, .bool false, .ref s.heap.objs.size, rawInt 0, .none, .none] } }) :=
  .of_wp fun prog w A R s h => by
    obtain ⟨hp, g, d, tk, os⟩ := s; obtain ⟨h1, h⟩ := h
    have hsub := sub_enumerate
    have q1 : ∀ {A' : Around} {E : Value → Shared → Prop} {Q : Value → Shared → Prop}, Q (.ref hp.objs.size) ⟨hp.push o, g, d, tk, os⟩ → wpAny (model prog w) A' (pyIter v) Q E ⟨hp, g, d, tk, os⟩ :=
      fun q => B.iter prog w _ _ ⟨hp, g, d, tk, os⟩ _ h1 q
    wp_walk using q1
    refine wpAny_stack_any fun st => wpAny_pure ?_
    split
    · rename_i c _ _ _ _ _
      cases (c == Value.type "enumerate")
      · wp_walk using q1
        exact ⟨_, rfl, h⟩
      · wp_walk using q1
        exact ⟨_, rfl, h⟩
    · wp_walk using q1
      exact ⟨_, rfl, h⟩
section
variable {prog : Program} {w : World} {A : Around} {E : Value → Shared → Prop} {s : Shared}
theorem sw_enum_begins1 {v : Value} {o : Obj} {H : Heap → Prop} {Q : Value → Shared → Prop} (B : Begins v o H) (h1 : H s.heap)
    (h : ∀ h', IsEnum h' (s.heap.objs.size + 1) s.heap.objs.size 0 .none → h'.get? s.heap.objs.size = some o → h'.objs.size = s.heap.objs.size + 2 →
      (∀ b o, s.heap.get? b = some o → h'.get? b = some o) → Q (.ref (s.heap.objs.size + 1)) { s with heap := h' }) :
    wpAny (model prog w) A (call (.type "enumerate") [v]) Q E s := by
  refine callType_new F.called_enumerate (by decide) (F.typeCall_enumerate_1 _) (F.newCall_enumerate_1 _) (fun obj => F.args_object_init_2 obj _) F.entry_enumerate_new
    (sw_enum_new1 B) ⟨h1, ?_⟩
  have hz : (s.heap.push o).objs.size = s.heap.objs.size + 1 := Heap.size_push ..
  show _ ∧ _
  rw [hz]
  have he : IsEnum ((s.heap.push o).push { cls := .type "enumerate", data := .fields #[.none, .bool false, .ref s.heap.objs.size, rawInt 0, .none, .none] }) (s.heap.objs.size + 1) s.heap.objs.size 0 .none := by
    have := Heap.get?_push_size (s.heap.push o) (o := { cls := .type "enumerate", data := .fields #[.none, .bool false, .ref s.heap.objs.size, rawInt 0, .none, .none] }) rfl
    rw [hz] at this; exact this
  refine ⟨⟨_, he, rfl⟩, h _ he (Heap.get?_push_of_some _ (Heap.get?_push_size _ B.free)) (by rw [Heap.size_push, hz]) fun b o x => Heap.get?_push_of_some _ (Heap.get?_push_of_some _ x)⟩
end
end PySem

set_option Elab.async false
set_option linter.all false
set_option maxRecDepth 100000
set_option maxHeartbeats 4000000
namespace SW
open PySem PySem.Spec PyProof.Rows L2
/-! ### list(text) -/
theorem call_list_S {X : Cx} (hc : X.calm = true) : CallR X (.type "list") (fun xs H Q => ∃ z, xs = [.str z] ∧ z.cps.size ≤ sizeLine ∧ ∀ p, H p = none → Q (.ref p) (upd H p (.lst (signs z)))) := by
  intro pins s σ H xs us Q I r h
  obtain ⟨z, rfl, hz, q⟩ := h
  obtain ⟨u, rfl, rx⟩ := vals1 r
  obtain ⟨tk, rfl⟩ := (show ∃ t, u = Value.str z t from rx)
  refine PySem.call_list_str (I.ok.hd hc) z tk (hn := hz) fun h' tk' acc c' hk hS hit => ?_
  have hv : Vals (signs z) acc.toList := by
    refine vals_of ?_ fun i x u p q => ?_
    · unfold signs
      rw [List.length_map, Array.length_toList, Array.length_toList]
      exact hit.1.symm
    · have q' : acc[i]? = some u := by rw [Array.getElem?_toList] at q; exact q
      obtain ⟨c, t2, h1, h2⟩ := hit.2 i u q'
      unfold signs at p
      rw [List.getElem?_map, Array.getElem?_toList, h1] at p
      cases p
      exact ⟨t2, h2⟩
  refine ⟨.ref s.heap.objs.size, upd H s.heap.objs.size (.lst (signs z)), I.laid (t' := tk') hk (Nat.le_refl _)
    (show ObjOk X.prog X.w _ _ _ (.lst (signs z)) from ⟨?_, acc.toList, c', hv, by rw [Array.toArray_toList]; exact hS⟩), rfl, q _ (I.hok.fresh (Nat.le_refl _))⟩
  unfold signs
  rw [List.length_map, Array.length_toList]
  exact hz
/-! ### a text times an int -/
theorem fold_rep (xs : Array Nat) : ∀ (n : Nat) (acc : Array Nat), (List.replicate n xs).foldl (· ++ ·) acc = acc ++ (List.replicate n xs.toList).flatten.toArray
  | 0, acc => by simp
  | n + 1, acc => by
    rw [List.replicate_succ, List.foldl_cons, fold_rep xs n, List.replicate_succ, List.flatten_cons, Array.append_assoc]
    congr 1
    apply Array.toList_inj.mp
    simp
def repS (z : Str) (k : Nat) : Str := ⟨(List.replicate k z.cps.toList).flatten.toArray⟩
def rRepSt : R2 := fun x y H Q => ∃ (z : Str) (k : Nat), x = .str z ∧ y = .int (k : Int) ∧ k ≤ 1000 ∧ z.cps.size ≤ 1000 ∧ Q (.str (repS z k)) H
theorem op_rep_str {X : Cx} : OpR X (binaryOp .Mult) rRepSt := by
  intro pins s σ H x y v u Q I rx ry h
  obtain ⟨z, k, rfl, rfl, hk, hz, q⟩ := h
  obtain ⟨t, rfl⟩ := rx
  obtain ⟨t', rfl⟩ := ry
  have hl : z.length = z.cps.size := rfl
  have hprod : z.cps.size * k ≤ 1000 * 1000 := Nat.mul_le_mul hz hk
  have e63 : (2 : Int) ^ 63 = 9223372036854775808 := by decide
  have hcl : z.cps.size * (Int.ofNat k).toNat ≤ 1000000 := hprod
  refine P.mul_str ?_ ?_ ?_ ?_
  · rw [decide_eq_false (by omega), decide_eq_false (by omega)]
    rfl
  · intro h1 _ h2
    rw [hl] at h2
    have : (2 ^ 63 - 1 : Int) / (k : Int) ≥ 1000 := by
      rw [e63]
      refine Int.le_ediv_of_mul_le (by omega) ?_
      have : (1000 : Int) * k ≤ 1000 * 1000 := by omega
      omega
    omega
  · intro _ _
    show decide _ = false
    refine decide_eq_false ?_
    rw [hl]
    have : (k : Int).toNat = k := Int.toNat_natCast k
    rw [this]
    intro hh
    have : sizeLine < 1000 * 1000 := Nat.lt_of_lt_of_le hh hprod
    exact absurd this (by decide)
  · have fin : ∀ (y : Str) (tk : Tok) (tk2 : Nat), y = repS z k → EP X pins σ Q (.str y tk) { s with toks := tk2 } := fun y tk tk2 e => ⟨.str (repS z k), H, I.tok _, ⟨tk, by rw [e]⟩, q⟩
    have hsz : (repS z k).cps.size ≤ 1000000 := by
      unfold repS
      rw [List.size_toArray, List.length_flatten, List.map_replicate, List.sum_replicate_nat, Array.length_toList, Nat.mul_comm]
      exact hprod
    split
    · have k0 : k = 0 := by omega
      exact ⟨by decide, fin _ _ _ (by rw [k0]; rfl)⟩
    · split
      · rename_i h1 h2
        refine fin z t _ ?_
        rw [Bool.or_eq_true, beq_iff_eq, beq_iff_eq] at h2
        rcases h2 with h2 | h2
        · have k1 : k = 1 := by omega
          rw [k1]
          unfold repS
          simp
        · have e0 : z.cps.toList = [] := by
            have : z.cps.toList.length = 0 := by rw [Array.length_toList]; exact h2
            exact List.eq_nil_of_length_eq_zero this
          unfold repS
          rw [e0]
          cases z with | mk cs => ?_
          have : cs = #[] := by
            have e1 : cs.toList = [] := e0
            exact Array.toList_inj.mp e1
          rw [this]
          simp
      · rename_i h1 h2
        have e : (⟨(List.replicate (k : Int).toNat z.cps).foldl (· ++ ·) #[]⟩ : Str) = repS z k := by
          rw [fold_rep]
          unfold repS
          simp
        refine ⟨?_, fin _ _ _ e⟩
        rw [e]
        exact Nat.le_trans hsz (by decide)
/-! ### list(d), d a dict of the module -/
def keyS (e : DictEntry) : Option Str := match e.key with
  | .str x _ => some x
  | _ => none
def KdL (K : PySem.W.Frag) (w : World) (d : Addr) (ks : List Str) : Prop := ∃ es n, KDict K w d es n ∧ es.toList.map keyS = ks.map some ∧ ks.Nodup ∧ ks.length ≤ sizeLine
theorem pairs_of {prog : Program} {w : World} : ∀ (es : List DictEntry) (ks : List Str), es.map keyS = ks.map some → Pairs (strKind prog w) es (ks.zip (es.map (·.val)))
  | [], [], _ => .nil
  | [], k :: ks, h => by cases h
  | e :: es, [], h => by cases h
  | e :: es, k :: ks, h => by
    rw [List.map_cons, List.map_cons] at h
    injection h with h1 h2
    refine .cons ?_ rfl (pairs_of es ks h2)
    show (strKind prog w).is k e.key = true
    unfold keyS at h1
    split at h1
    · rename_i x t q
      have e := Option.some.inj h1
      rw [q, ← e]
      exact strKind_is prog w x t
    · cases h1
theorem call_list_kd {X : Cx} (hc : X.calm = true) : CallR X (.type "list") (fun xs H Q => ∃ d ks, xs = [.ref d] ∧ KdL X.K X.w d ks ∧ ∀ p, H p = none → Q (.ref p) (upd H p (.lst (ks.map V.str)))) := by
  intro pins s σ H xs us Q I r h
  obtain ⟨d, ks, rfl, ⟨es, n, D, he, nd, hz⟩, q⟩ := h
  obtain ⟨u, rfl, rx⟩ := vals1 r
  obtain rfl : u = Value.ref d := rx
  have hl : ks.length = es.toList.length := by
    have := congrArg List.length he
    rw [List.length_map, List.length_map] at this
    exact this.symm
  have hat : s.heap.DictAt (strKind X.prog X.w) d (ks.zip (es.toList.map (·.val))) n := by
    refine ⟨_, es, I.kIn _ _ D.at_, ⟨rfl, rfl, rfl⟩, rfl, fun e m => ?_, pairs_of _ _ he, ?_⟩
    · obtain ⟨x, t, e1, e2⟩ := D.lit.all e (Array.mem_toList_iff.mpr m)
      exact ⟨x, by rw [e1]; exact strKind_is X.prog X.w x t, e2⟩
    · rw [List.map_fst_zip (by rw [List.length_map]; omega)]
      exact nd
  refine PySem.W.kdl_call (PySem.W.kdl_dict (knd := strKind X.prog X.w) (ep := n) D.low) (I.ok.hd hc) hat ?_ fun h' tk acc' c' hk hS hacc => ?_
  · rw [List.length_zip, List.length_map]
    omega
  have hv : Vals (ks.map V.str) acc'.toList := by
    refine vals_of ?_ fun i x u p q => ?_
    · have h3 := hacc.1
      rw [List.length_zip, List.length_map] at h3
      rw [List.length_map, Array.length_toList (xs := acc'), h3]
      omega
    · obtain ⟨k, y, h1, h2⟩ := hacc.2 i u (by rw [← Array.getElem?_toList]; exact q)
      have e1 : ks[i]? = some k := by
        have := congrArg (fun l => l[i]?) (List.map_fst_zip (l₁ := ks) (l₂ := es.toList.map (·.val)) (by rw [List.length_map]; omega))
        rw [List.getElem?_map, h1] at this
        exact this.symm
      rw [List.getElem?_map, e1] at p
      cases p
      cases u <;> first | (exact absurd h2 (by intro h; cases h)) | skip
      rename_i z t
      have : k = z := by
        have h3 : (Value.isStrOf k (.str z t)) = true := h2
        exact (eq_of_beq (show (z == k) = true from h3)).symm
      exact ⟨t, by rw [this]⟩
  refine ⟨.ref s.heap.objs.size, upd H s.heap.objs.size (.lst (ks.map V.str)), I.laid (t' := tk) hk (Nat.le_refl _)
    (show ObjOk X.prog X.w _ _ _ (.lst (ks.map V.str)) from ⟨by rw [List.length_map]; exact hz, acc'.toList, c', hv, by rw [Array.toArray_toList]; exact hS⟩), rfl, q _ (I.hok.fresh (Nat.le_refl _))⟩
end SW

set_option Elab.async false
set_option linter.all false
set_option maxRecDepth 100000
set_option maxHeartbeats 4000000
namespace SW
open PySem PySem.Spec PyProof.Rows L2
def Ites (z : Str) : It :=
  ⟨fun i _ => i < z.cps.size,
    fun i H v H' => ∃ T c, v = .ref T ∧ H T = none ∧ H' = upd H T (.tup [.int (i : Nat), .str ⟨#[c]⟩]) ∧ z.cps[i]? = some c,
    fun i _ => i = z.cps.size⟩
theorem turn_enumS {P : Program} {w : World} {K : PySem.W.Frag} {elts : List Expr} {kk : Nat} {tpos : Pos} {z : Str} {tz : Tok} {e it : Addr} (n2 : e ≠ it) :
    Turn P w K (.Tuple elts kk tpos) (Ites z) [e, it] e (fun i h => (∃ old, IsEnum h e it (0 + ((i : Nat) : Int)) old) ∧ h.IsStrIter it (strIterType z) z tz i) where
  mem := List.mem_cons_self ..
  obj := fun i h st b hb => by
    obtain ⟨⟨old, he⟩, ⟨o, ho, hc, hd⟩⟩ := st
    have e' : b = e ∨ b = it := by simpa using hb
    rcases e' with z | z
    · rw [z]; exact ⟨_, he, fun v q => nomatch q⟩
    · rw [z]; exact ⟨o, ho, fun v q => by rw [hd] at q; cases q⟩
  keep := fun i h h' st k => let ⟨⟨old, he⟩, ⟨o, ho, r⟩⟩ := st; ⟨⟨old, k e (by simp) _ he⟩, ⟨o, k it (by simp) _ ho, r⟩⟩
  self := fun A i s Q E st h => let ⟨⟨_, he⟩, _⟩ := st; wpAny_pyIter_enum he h
  item := by
    intro X hP hw hK calm i pins s σ H E I fps st going
    subst hP hw hK
    obtain ⟨he, h2⟩ := st
    have hd : X.A.in1.handled = none := I.ok.hd calm
    have W := WalksT.enumFrom (A := X.A) 0 (Draws.text (prog := X.prog) (w := X.w) hd it z tz) e n2 (by simp [n2]) (by simp)
    refine W.item i s _ _ going ⟨he, h2⟩ (fun T vals h' tk hvals hT hTup mid kept => ?_)
    obtain ⟨t, w2, ⟨c, u2, hc, rfl⟩, rfl⟩ := hvals
    have apart := W.apart i T h' mid
    refine ⟨_, rfl, W.go elts kk tpos i T { s with heap := h', toks := tk } _ _ mid (fun h'' st' kept2 => ?_)⟩
    have e0 : (0 : Int) + (i : Int) = ((i : Nat) : Int) := Int.zero_add _
    rw [e0] at hTup
    have hTup2 : h''.IsTuple T #[.int ((i : Nat) : Int) t, .str ⟨#[c]⟩ u2] := hTup.at fun o q => kept2 T o apart q
    have new : ObjOk X.prog X.w (upd H T (.tup [.int (i : Nat), .str ⟨#[c]⟩])) h'' T (.tup [.int (i : Nat), .str ⟨#[c]⟩]) := ⟨by show 2 ≤ sizeLine; decide, [.int ((i : Nat) : Int) t, .str ⟨#[c]⟩ u2], .cons ⟨_, rfl⟩ (.cons ⟨_, rfl⟩ .nil), hTup2⟩
    have sub : ∀ c ∈ [e, it], FpOk X pins H c := fps
    have J : Inv X pins σ (upd H T (.tup [.int (i : Nat), .str ⟨#[c]⟩])) { s with heap := h'', toks := tk } :=
      I.turnedNew (t' := tk) (ch := [e, it]) (fun c o hc q => kept2 c o hc (kept c o hc q)) sub hT new
    refine ⟨.ref T, _, J, rfl, ⟨T, c, rfl, I.hok.fresh hT, rfl, hc⟩, st', fun c hc => ?_⟩
    have hcl : c < s.heap.objs.size := by
      have e' : c = e ∨ c = it := by simpa using hc
      obtain ⟨old, he'⟩ := he
      rcases e' with q | q
      · rw [q]; exact Heap.lt_size he'
      · rw [q]; obtain ⟨_, e1, _⟩ := h2; exact Heap.lt_size e1
    rw [upd_ne (Nat.ne_of_lt (Nat.lt_of_lt_of_le hcl hT))]
    exact (fps c hc).1
  done := by
    intro X hP hw hK calm i pins s σ H E I fps st over
    subst hP hw hK
    obtain ⟨he, h2⟩ := st
    have hd : X.A.in1.handled = none := I.ok.hd calm
    have W := WalksT.enumFrom (A := X.A) 0 (Draws.text (prog := X.prog) (w := X.w) hd it z tz) e n2 (by simp [n2]) (by simp)
    have e' : i = z.cps.size := over
    subst e'
    exact W.done s _ _ ⟨he, h2⟩ (fun h' tk kept => ⟨rfl, I.turnedL (t' := tk) (ch := [e, it]) (fun c o hc q => kept c o hc q) fps⟩)
def iEnumS (ta : TA) : TI := fun σ H R => ta σ H fun vs H1 => ∃ z, vs = [.str z] ∧ R (Ites z) H1
theorem pi_enumS {X : Cx} {e : Expr} {ta : TA} {p pos tpos : Pos} {elts : List Expr} {kk : Nat} (hg : Gl X "enumerate") (hm : X.mg "enumerate" = none) (ha : PA X [e] ta) (hs : starEach [e] X.env = [(false, eval e X.env)] := by rfl) :
    PI X (.Tuple elts kk tpos) (.Call (.Name "enumerate" p) [e] [] pos) (iEnumS ta) := by
  refine ⟨fun pins s σ H R I h => ?_⟩
  refine Call_ (ld_blt I hg hm boot_enumerate (PyProof.Rows.callWith_type1 (thn (ha.run pos pins s σ H _ I h) fun us s1 ⟨vs, H1, I1, r1, q1⟩ => ?_) hs rfl))
  obtain ⟨z, ex, q⟩ := q1
  subst ex
  cases r1 with
  | cons r rr =>
    cases rr
    obtain ⟨tz, rfl⟩ := (show ∃ t, _ = Value.str z t from r)
    refine sw_enum_begins1 (begins_text z tz) trivial fun h' he hit hsz hk => wpAny_pyIter_enum he ?_
    have I2 : Inv X pins σ H1 { s1 with heap := h' } := I1.kept (t' := s1.toks) hk
    refine ⟨s1.heap.objs.size + 1, [s1.heap.objs.size + 1, s1.heap.objs.size], _, _, H1, rfl, I2, turn_enumS (z := z) (tz := tz) (Nat.succ_ne_self _), ⟨⟨.none, he⟩, ⟨_, hit, rfl, rfl⟩⟩, fun b hb => ?_, q⟩
    have e' : b = s1.heap.objs.size + 1 ∨ b = s1.heap.objs.size := by simpa using hb
    have hle : s1.heap.objs.size ≤ b := by
      rcases e' with z | z
      · rw [z]; exact Nat.le_add_right _ _
      · rw [z]; exact Nat.le_refl _
    exact I1.fpOk hle (I1.hok.fresh hle)
theorem for_enumS {z : Str} {g : TG} {tb : TS} {D : Ends} {σ : L2.St} {H : Hp} (Pv : Nat → L2.St → Hp → Prop) (h0 : Pv 0 σ H)
    (hs : ∀ (i c : Nat) (T : Addr) (σ : L2.St) (H : Hp), z.cps[i]? = some c → Pv i σ H → H T = none → g (.ref T) σ (upd H T (.tup [.int (i : Nat), .str ⟨#[c]⟩])) fun σ2 H2 => tb { D with nx := Pv (i + 1), ct := Pv (i + 1), bk := D.nx } σ2 H2) (hd : ∀ σ H, Pv z.cps.size σ H → D.nx σ H) :
    ∃ W : Nat → Nat → L2.St → Hp → Prop, (∃ m, W 0 m σ H) ∧ ∀ i m σ H, W i m σ H →
      ((Ites z).stop i H ∧ D.nx σ H) ∨ ((Ites z).go i H ∧ ∃ N : L2.St → Hp → Prop, (∀ σ' H', N σ' H' → ∃ m', m' < m ∧ W (i + 1) m' σ' H') ∧ ∀ v H', (Ites z).yld i H v H' → g v σ H' fun σ2 H2 => tb { D with nx := N, ct := N, bk := D.nx } σ2 H2) := by
  refine ⟨fun i m σ H => m = z.cps.size - i ∧ i ≤ z.cps.size ∧ Pv i σ H, ⟨z.cps.size, rfl, Nat.zero_le _, h0⟩, ?_⟩
  rintro i m σ H ⟨rfl, hi, p⟩
  by_cases hlt : i < z.cps.size
  · refine .inr ⟨hlt, Pv (i + 1), fun σ' H' p' => ⟨z.cps.size - (i + 1), by omega, rfl, hlt, p'⟩, fun v H' y => ?_⟩
    obtain ⟨T, c, rfl, hT, rfl, f2⟩ := y
    exact hs i c T σ H f2 p hT
  · have e : i = z.cps.size := by omega
    exact .inl ⟨e, hd σ H (e ▸ p)⟩
end SW

set_option Elab.async false
set_option linter.all false
set_option maxRecDepth 100000
set_option maxHeartbeats 4000000
namespace SW
open PySem PySem.Spec PyProof.Rows L2
/-! ### texts as lists of numbers -/
def tx (l : List Nat) : Str := ⟨l.toArray⟩
abbrev ls (z : Str) : List Nat := z.cps.toList
theorem ls_tx (l : List Nat) : ls (tx l) = l := by simp [ls, tx]
theorem tx_ls (z : Str) : tx (ls z) = z := by cases z; simp [ls, tx]
theorem ls_app (a b : Str) : ls (a ++ b) = ls a ++ ls b := by
  show (a.cps ++ b.cps).toList = _
  simp [ls]
theorem ls_inj {a b : Str} (h : ls a = ls b) : a = b := by rw [← tx_ls a, ← tx_ls b, h]
theorem emp_app (a : Str) : Str.empty ++ a = a := ls_inj (by rw [ls_app]; rfl)
theorem len_ls (a : Str) : a.length = (ls a).length := by simp [ls, Str.length]
theorem len_app (a b : Str) : (a ++ b).length = a.length + b.length := by rw [len_ls, len_ls, len_ls, ls_app, List.length_append]
theorem len_tx (l : List Nat) : (tx l).length = l.length := by rw [len_ls, ls_tx]
theorem one_tx (c : Nat) : (⟨#[c]⟩ : Str) = tx [c] := rfl
theorem take_cut (l : List Nat) (a b n : Nat) (hn : n = l.length) : (l.drop (min a n)).take (min b n - min a n) = (l.drop a).take (b - a) := by
  by_cases h : a ≤ n
  · have e1 : min a n = a := Nat.min_eq_left h
    rw [e1]
    by_cases h2 : b ≤ n
    · have e2 : min b n = b := Nat.min_eq_left h2
      rw [e2]
    · have e2 : min b n = n := Nat.min_eq_right (by omega)
      rw [e2, List.take_of_length_le (by rw [List.length_drop]; omega), List.take_of_length_le (by rw [List.length_drop]; omega)]
  · have e1 : min a n = n := Nat.min_eq_right (by omega)
    rw [e1, List.drop_eq_nil_of_le (show l.length ≤ n by omega), List.drop_eq_nil_of_le (show l.length ≤ a by omega), List.take_nil, List.take_nil]
theorem ls_cut (z : Str) (a b : Nat) : ls (cutS z (some (a : Int)) (some (b : Int))) = ((ls z).drop a).take (b - a) := by
  show (((z.cps.toList.drop (HT.sIx z.length 0 (some (a : Int)))).take (HT.sIx z.length z.length (some (b : Int)) - HT.sIx z.length 0 (some (a : Int)))).toArray).toList = _
  rw [HT.sIx_nat, HT.sIx_nat, List.toList_toArray]
  exact take_cut _ a b _ (len_ls z)
/-! ### tokens of a text -/
def low (x : Nat) : Prop := 97 ≤ x ∧ x ≤ 122
instance (x : Nat) : Decidable (low x) := inferInstanceAs (Decidable (_ ∧ _))
def wrd (x : Nat) : Prop := low x ∨ (88 ≤ x ∧ x ≤ 90)
instance (x : Nat) : Decidable (wrd x) := inferInstanceAs (Decidable (_ ∨ _))
def sgc (x : Nat) : Prop := x = 40 ∨ x = 41 ∨ x = 123 ∨ x = 125 ∨ x = 60 ∨ x = 61
instance (x : Nat) : Decidable (sgc x) := inferInstanceAs (Decidable (_ ∨ _))
/-- no small letter stands first -/
def Cl (r : List Nat) : Prop := ∀ x, r.head? = some x → ¬ low x
inductive Tk : List Nat → List Str → Prop where
  | nil : Tk [] []
  | sp {r : List Nat} {ts : List Str} (h : Tk r ts) : Tk (32 :: r) ts
  | word {c : Nat} {w r : List Nat} {ts : List Str} (hc : wrd c) (hw : ∀ x ∈ w, low x) (hr : Cl r) (h : Tk r ts) : Tk (c :: (w ++ r)) (tx (c :: w) :: ts)
  | sign {c : Nat} {r : List Nat} {ts : List Str} (hc : sgc c) (h : Tk r ts) : Tk (c :: r) (tx [c] :: ts)
theorem Tk.sps {r : List Nat} {ts : List Str} (h : Tk r ts) : ∀ k : Nat, Tk (List.replicate k 32 ++ r) ts
  | 0 => h
  | k + 1 => by
    rw [List.replicate_succ, List.cons_append]
    exact .sp (Tk.sps h k)
theorem cl_nil : Cl [] := fun x h => by cases h
theorem cl_of {c : Nat} {r : List Nat} (h : ¬ low c) : Cl (c :: r) := fun x e => by
  cases e
  exact h
/-- the signs that a formula's text is made of -/
def chr (x : Nat) : Prop := x = 32 ∨ sgc x ∨ wrd x
theorem Tk.chars {l : List Nat} {ts : List Str} (h : Tk l ts) : ∀ x ∈ l, chr x := by
  induction h with
  | nil => intro x h; cases h
  | sp h ih =>
    intro x hx
    rcases List.mem_cons.mp hx with e | hx
    · exact .inl e
    · exact ih x hx
  | word hc hw hr h ih =>
    intro x hx
    rcases List.mem_cons.mp hx with e | hx
    · exact e ▸ .inr (.inr hc)
    · rcases List.mem_append.mp hx with hx | hx
      · exact .inr (.inr (.inl (hw x hx)))
      · exact ih x hx
  | sign hc h ih =>
    intro x hx
    rcases List.mem_cons.mp hx with e | hx
    · exact e ▸ .inr (.inl hc)
    · exact ih x hx
def wdB : List Nat → Bool
  | [] => false
  | c :: w => decide (wrd c) && w.all fun x => decide (low x)
theorem tk_wd {c : Str} {r : List Nat} {us : List Str} (h : wdB (ls c) = true) (t : Tk r us) (hr : Cl r) : Tk (ls c ++ r) (c :: us) := by
  cases e : ls c with
  | nil =>
    rw [e] at h
    cases h
  | cons x w =>
    rw [e] at h
    unfold wdB at h
    rw [Bool.and_eq_true, decide_eq_true_iff, List.all_eq_true] at h
    have ec : c = tx (x :: w) := by rw [← e, tx_ls]
    rw [ec]
    exact .word h.1 (fun y hy => of_decide_eq_true (h.2 y hy)) hr t
theorem tk_sg {x : Nat} {c : Str} {r : List Nat} {us : List Str} (e : ls c = [x]) (h : sgc x) (t : Tk r us) : Tk (ls c ++ r) (c :: us) := by
  have ec : c = tx [x] := by rw [← e, tx_ls]
  rw [e, ec]
  exact .sign h t
/-! ### the text of a formula -/
def sgn (k : Str) : Str := if k = "before" then "<" else if k = "same" then "=" else k
def Fm.txt : Fm → Str
  | .rel k a b => if k = "letter" then a ++ "(" ++ b ++ ")" else a ++ " " ++ sgn k ++ " " ++ b
  | .nam c => "{" ++ c ++ "}"
  | .neg f => "not " ++ f.txt
  | .bin k f g => "(" ++ f.txt ++ " " ++ k ++ " " ++ g.txt ++ ")"
  | .qu k x f => k ++ " " ++ x ++ " " ++ f.txt
def Fm.toks : Fm → List Str
  | .rel k a b => if k = "letter" then [a, "(", b, ")"] else [a, sgn k, b]
  | .nam c => ["{", c, "}"]
  | .neg f => "not" :: f.toks
  | .bin k f g => "(" :: (f.toks ++ k :: (g.toks ++ [(")" : Str)]))
  | .qu k x f => k :: x :: f.toks
theorem mem3 {P : Str → Prop} {x a b c : Str} (h : x ∈ [a, b, c]) (ha : P a) (hb : P b) (hc : P c) : P x := by
  simp only [List.mem_cons, List.not_mem_nil, or_false] at h
  rcases h with h | h | h <;> rw [h] <;> assumption
theorem wd_abc {x : Str} (h : x ∈ abc) : wdB (ls x) = true := mem3 (P := fun x => wdB (ls x) = true) h (by decide +kernel) (by decide +kernel) (by decide +kernel)
theorem wd_xyz {x : Str} (h : x ∈ xyz) : wdB (ls x) = true := mem3 (P := fun x => wdB (ls x) = true) h (by decide +kernel) (by decide +kernel) (by decide +kernel)
theorem wd_XYZ {x : Str} (h : x ∈ XYZ) : wdB (ls x) = true := mem3 (P := fun x => wdB (ls x) = true) h (by decide +kernel) (by decide +kernel) (by decide +kernel)
theorem vrs_or {x : Str} (h : x ∈ vrs) : x ∈ xyz ∨ x ∈ XYZ := by
  simp only [vrs, xyz, XYZ, List.mem_cons, List.not_mem_nil, or_false] at h ⊢
  rcases h with h | h | h | h | h | h <;> simp [h]
theorem wd_vrs {x : Str} (h : x ∈ vrs) : wdB (ls x) = true := (vrs_or h).elim wd_xyz wd_XYZ
theorem wd_bin {k : Str} (h : k = "and" ∨ k = "or") : wdB (ls k) = true := by
  rcases h with h | h <;> rw [h] <;> decide +kernel
theorem wd_qu {k : Str} (h : k = "some" ∨ k = "all") : wdB (ls k) = true := by
  rcases h with h | h <;> rw [h] <;> decide +kernel
theorem wd_nm {c : Str} (h : NmOk c) : wdB (ls c) = true := by
  obtain ⟨h1, _, h3⟩ := h
  cases e : ls c with
  | nil =>
    have : (ls c).length = c.cps.size := by simp [ls]
    rw [e] at this
    rw [← this] at h1
    exact absurd h1 (by simp)
  | cons x w =>
    unfold wdB
    rw [Bool.and_eq_true, decide_eq_true_iff, List.all_eq_true]
    have hm : ∀ y ∈ x :: w, low y := fun y hy => h3 y (by rw [← e] at hy; exact hy)
    exact ⟨.inl (hm x (List.mem_cons_self ..)), fun y hy => decide_eq_true (hm y (List.mem_cons_of_mem _ hy))⟩
theorem ls_lp : ls "(" = [40] := by decide +kernel
theorem ls_rp : ls ")" = [41] := by decide +kernel
theorem ls_lb : ls "{" = [123] := by decide +kernel
theorem ls_rb : ls "}" = [125] := by decide +kernel
theorem ls_sp : ls " " = [32] := by decide +kernel
theorem ls_lt : ls "<" = [60] := by decide +kernel
theorem ls_eq : ls "=" = [61] := by decide +kernel
theorem ls_not : ls "not " = ls "not" ++ [32] := by decide +kernel
theorem cl_sp {r : List Nat} : Cl (32 :: r) := cl_of (by decide)
theorem sgn_tk {k a b : Str} (o : RelOk k a b) (hk : k ≠ "letter") {r : List Nat} {us : List Str} (t : Tk r us) (hr : Cl r) : Tk (ls (sgn k) ++ r) (sgn k :: us) := by
  rcases kd_rel o with e | e | e | e | e
  · exact absurd e hk
  · rw [e, show sgn "before" = "<" by decide +kernel]
    exact tk_sg ls_lt (by decide) t
  · rw [e, show sgn "next" = "next" by decide +kernel]
    exact tk_wd (by decide +kernel) t hr
  · rw [e, show sgn "same" = "=" by decide +kernel]
    exact tk_sg ls_eq (by decide) t
  · rw [e, show sgn "in" = "in" by decide +kernel]
    exact tk_wd (by decide +kernel) t hr
theorem rel_wd {k a b : Str} (o : RelOk k a b) (hk : k ≠ "letter") : wdB (ls a) = true ∧ wdB (ls b) = true := by
  cases o with
  | ltr => exact absurd rfl hk
  | pl _ ha hb => exact ⟨wd_xyz ha, wd_xyz hb⟩
  | el ha hb => exact ⟨wd_xyz ha, wd_XYZ hb⟩
theorem tk_fm : ∀ (f : Fm), f.Ok → ∀ {r : List Nat} {us : List Str}, Tk r us → Cl r → Tk (ls f.txt ++ r) (f.toks ++ us)
  | .rel k a b, o, r, us, t, hr => by
    by_cases hk : k = "letter"
    · subst hk
      have o' : RelOk "letter" a b := o
      have hab : a ∈ abc ∧ b ∈ xyz := by
        cases o' with
        | ltr ha hb => exact ⟨ha, hb⟩
        | pl hk => rcases hk with h | h | h <;> exact absurd h (by decide +kernel)
      rw [Fm.txt, if_pos rfl, Fm.toks, if_pos rfl]
      simp only [ls_app, List.append_assoc, List.cons_append, List.nil_append]
      refine tk_wd (wd_abc hab.1) (tk_sg ls_lp (by decide) (tk_wd (wd_xyz hab.2) (tk_sg ls_rp (by decide) t) ?_)) ?_
      · rw [ls_rp]; exact cl_of (by decide)
      · rw [ls_lp]; exact cl_of (by decide)
    · have o' : RelOk k a b := o
      rw [Fm.txt, if_neg hk, Fm.toks, if_neg hk]
      simp only [ls_app, List.append_assoc, List.cons_append, List.nil_append, ls_sp]
      have w := rel_wd o' hk
      exact tk_wd w.1 (.sp (sgn_tk o' hk (.sp (tk_wd w.2 t hr)) cl_sp)) cl_sp
  | .nam c, o, r, us, t, hr => by
    rw [Fm.txt, Fm.toks]
    simp only [ls_app, List.append_assoc, List.cons_append, List.nil_append]
    refine tk_sg ls_lb (by decide) (tk_wd (wd_nm o) (tk_sg ls_rb (by decide) t) ?_)
    rw [ls_rb]; exact cl_of (by decide)
  | .neg f, o, r, us, t, hr => by
    rw [Fm.txt, Fm.toks]
    simp only [ls_app, List.append_assoc, List.cons_append, List.nil_append, ls_not]
    exact tk_wd (by decide +kernel) (.sp (tk_fm f o t hr)) cl_sp
  | .bin k f g, o, r, us, t, hr => by
    rw [Fm.txt, Fm.toks]
    simp only [ls_app, List.append_assoc, List.cons_append, List.nil_append, ls_sp]
    refine tk_sg ls_lp (by decide) (tk_fm f o.2.1 (.sp (tk_wd (wd_bin o.1) (.sp (tk_fm g o.2.2 (tk_sg ls_rp (by decide) t) ?_)) cl_sp)) cl_sp)
    rw [ls_rp]; exact cl_of (by decide)
  | .qu k x f, o, r, us, t, hr => by
    rw [Fm.txt, Fm.toks]
    simp only [ls_app, List.append_assoc, List.cons_append, List.nil_append, ls_sp]
    exact tk_wd (wd_qu o.1) (.sp (tk_wd (wd_vrs o.2.1) (.sp (tk_fm f o.2.2 t hr)) cl_sp)) cl_sp
theorem tk_txt {f : Fm} (o : f.Ok) : Tk (ls f.txt) f.toks := by
  have := tk_fm f o .nil cl_nil
  rw [List.append_nil, List.append_nil] at this
  exact this
/-! ### its length -/
theorem len_mem {L : List Str} {n : Nat} (h : (L.all fun c => decide (c.length ≤ n)) = true) {c : Str} (hc : c ∈ L) : c.length ≤ n := of_decide_eq_true (List.all_eq_true.mp h c hc)
theorem len_vrs {x : Str} (h : x ∈ vrs) : x.length ≤ 1 := len_mem (L := vrs) (by decide +kernel) h
theorem len_abc1 {x : Str} (h : x ∈ abc) : x.length ≤ 1 := len_mem (L := abc) (by decide +kernel) h
theorem len_sgn {k a b : Str} (o : RelOk k a b) : (sgn k).length ≤ 6 := by
  rcases kd_rel o with e | e | e | e | e <;> rw [e] <;> decide +kernel
theorem len_rel {k a b : Str} (o : RelOk k a b) : a.length ≤ 1 ∧ b.length ≤ 1 := by
  cases o with
  | ltr ha hb => exact ⟨len_abc1 ha, len_vrs (xyz_sub _ hb)⟩
  | pl _ ha hb => exact ⟨len_vrs (xyz_sub _ ha), len_vrs (xyz_sub _ hb)⟩
  | el ha hb => exact ⟨len_vrs (xyz_sub _ ha), len_vrs (XYZ_sub _ hb)⟩
theorem l_lp : ("(" : Str).length = 1 := by decide +kernel
theorem l_rp : (")" : Str).length = 1 := by decide +kernel
theorem l_lb : ("{" : Str).length = 1 := by decide +kernel
theorem l_rb : ("}" : Str).length = 1 := by decide +kernel
theorem l_sp : (" " : Str).length = 1 := by decide +kernel
theorem l_not : ("not " : Str).length = 4 := by decide +kernel
theorem len_bin {k : Str} (h : k = "and" ∨ k = "or") : k.length ≤ 3 := by rcases h with h | h <;> rw [h] <;> decide +kernel
theorem len_qu {k : Str} (h : k = "some" ∨ k = "all") : k.length ≤ 4 := by rcases h with h | h <;> rw [h] <;> decide +kernel
theorem Fm.txt_len : ∀ f : Fm, f.Ok → f.txt.length ≤ 10 * f.size
  | .rel k a b, o => by
    have o' : RelOk k a b := o
    have h := len_rel o'
    have hs := len_sgn o'
    rw [Fm.txt, Fm.size]
    split <;> simp only [len_app, l_lp, l_rp, l_sp] <;> omega
  | .nam c, o => by
    have : c.length ≤ 8 := o.2.1
    rw [Fm.txt, Fm.size]
    simp only [len_app, l_lb, l_rb]
    omega
  | .neg f, o => by
    have := Fm.txt_len f o
    rw [Fm.txt, Fm.size]
    simp only [len_app, l_not]
    omega
  | .bin k f g, o => by
    have h1 := Fm.txt_len f o.2.1
    have h2 := Fm.txt_len g o.2.2
    have h3 := len_bin o.1
    rw [Fm.txt, Fm.size]
    simp only [len_app, l_lp, l_rp, l_sp]
    omega
  | .qu k x f, o => by
    have h1 := Fm.txt_len f o.2.2
    have h3 := len_qu o.1
    have h4 := len_vrs o.2.1
    rw [Fm.txt, Fm.size]
    simp only [len_app, l_sp]
    omega
theorem Fm.txt_640 {f : Fm} (o : f.Ok) (h : f.dep ≤ 6) : f.txt.length ≤ 640 := by
  have h1 := f.txt_len o
  have h2 := f.size_le
  have h3 : 2 ^ f.dep ≤ 2 ^ 6 := Nat.pow_le_pow_right (by decide) h
  have e : 2 ^ 6 = 64 := by decide
  omega
theorem Fm.txt_app {a b : Str} {n m k : Nat} (ha : a.length ≤ n) (hb : b.length ≤ m) (h : n + m ≤ k) : (a ++ b).length ≤ k := by
  rw [len_app]
  omega
end SW

set_option Elab.async false
set_option linter.all false
set_option maxRecDepth 100000
set_option maxHeartbeats 4000000
namespace SW
open PySem PySem.Spec PyProof.Rows L2
/-! ### a text with more spaces and fewer -/
def pun (o : Option Nat) : Prop := ∃ x, o = some x ∧ sgc x
def spc (x : Nat) : Prop := x = 32 ∨ sgc x
instance (x : Nat) : Decidable (spc x) := inferInstanceAs (Decidable (_ ∨ _))
inductive Lo : Option Nat → List Nat → List Nat → Prop where
  | nil {p : Option Nat} : Lo p [] []
  | drop {p : Option Nat} {r o : List Nat} (h : pun p ∨ pun r.head?) (t : Lo (some 32) r o) : Lo p (32 :: r) o
  | keep {p : Option Nat} {c k : Nat} {r o : List Nat} (h : k = 0 ∨ spc c) (t : Lo (some c) r o) : Lo p (c :: r) (c :: (List.replicate k 32 ++ o))
theorem low_ne {c : Nat} (h : low c) : c ≠ 32 ∧ ¬ sgc c := by
  unfold low at h
  unfold sgc
  omega
theorem wrd_ne {c : Nat} (h : wrd c) : c ≠ 32 ∧ ¬ sgc c := by
  unfold wrd low at h
  unfold sgc
  omega
/-- a run of letters stays as it is -/
theorem Lo.run : ∀ {w : List Nat} {p : Option Nat} {r o : List Nat}, (∀ x ∈ w, wrd x) → Lo p (w ++ r) o → (¬ pun p) → ∃ q o', o = w ++ o' ∧ Lo q r o' ∧ ¬ pun q
  | [], p, r, o, _, h, hp => ⟨p, o, rfl, h, hp⟩
  | c :: w, p, r, o, hw, h, hp => by
    have hc := hw c (List.mem_cons_self ..)
    have hn := wrd_ne hc
    rw [List.cons_append] at h
    cases h with
    | drop _ _ => exact absurd rfl hn.1
    | @keep _ _ k _ o2 hk t =>
      have k0 : k = 0 := by
        rcases hk with hk | hk | hk
        · exact hk
        · exact absurd hk hn.1
        · exact absurd hk hn.2
      subst k0
      have hp2 : ¬ pun (some c) := fun ⟨x, e, hx⟩ => by
        cases e
        exact hn.2 hx
      obtain ⟨q, o', e, t', hq⟩ := Lo.run (w := w) (fun x hx => hw x (List.mem_cons_of_mem _ hx)) t hp2
      refine ⟨q, o', ?_, t', hq⟩
      rw [e]
      rfl
theorem Lo.cl {q : Option Nat} {r o : List Nat} (h : Lo q r o) (hq : ¬ pun q) (hr : Cl r) : Cl o := by
  cases h with
  | nil => exact cl_nil
  | @drop _ r' o' h t =>
    rcases h with h | h
    · exact absurd h hq
    · obtain ⟨x, e, hx⟩ := h
      cases r' with
      | nil => cases e
      | cons y r'' =>
        cases e
        cases t with
        | drop _ _ => exact absurd hx (by decide)
        | keep _ _ => exact cl_of fun hl => (low_ne hl).2 hx
  | keep h t => exact cl_of (hr _ rfl)
theorem tk_lo {l : List Nat} {ts : List Str} (h : Tk l ts) : ∀ {p : Option Nat} {o : List Nat}, Lo p l o → Tk o ts := by
  induction h with
  | nil =>
    intro p o q
    cases q
    exact .nil
  | sp h ih =>
    intro p o q
    cases q with
    | drop _ t => exact ih t
    | keep _ t => exact .sp (Tk.sps (ih t) _)
  | @word c w r ts hc hw hr h ih =>
    intro p o q
    have hn := wrd_ne hc
    cases q with
    | drop _ _ => exact absurd rfl hn.1
    | @keep _ _ k _ o2 hk t =>
      have k0 : k = 0 := by
        rcases hk with hk | hk | hk
        · exact hk
        · exact absurd hk hn.1
        · exact absurd hk hn.2
      subst k0
      have hp2 : ¬ pun (some c) := fun ⟨x, e, hx⟩ => by
        cases e
        exact hn.2 hx
      obtain ⟨q, o', e, t', hq⟩ := Lo.run (fun x hx => .inl (hw x hx)) t hp2
      rw [e]
      exact .word hc hw (t'.cl hq hr) (ih t')
  | sign hc h ih =>
    intro p o q
    cases q with
    | drop _ _ => exact absurd hc (by decide)
    | keep _ t => exact .sign hc (Tk.sps (ih t) _)
theorem Lo.len {p : Option Nat} {l o : List Nat} {m : Nat} (h : Lo p l o) : (∀ x, x ∈ l → True) → True := fun _ => trivial
/-- how the loop goes: what is made of the first i signs -/
def pvo (l : List Nat) (i : Nat) : Option Nat := if i = 0 then none else l[i - 1]?
theorem pvo_succ {l : List Nat} {i : Nat} {c : Nat} (h : l[i]? = some c) : pvo l (i + 1) = some c := by
  unfold pvo
  rw [if_neg (by omega)]
  exact h
def LoI (l : List Nat) (i : Nat) (out : List Nat) : Prop := ∀ o', Lo (pvo l i) (l.drop i) o' → Lo none l (out ++ o')
theorem loI_zero {l : List Nat} : LoI l 0 [] := fun o' h => h
theorem drop_at {l : List Nat} {i c : Nat} (h : l[i]? = some c) : l.drop i = c :: l.drop (i + 1) := by
  obtain ⟨hl, e⟩ := List.getElem?_eq_some_iff.mp h
  rw [List.drop_eq_getElem_cons hl, e]
theorem loI_keep {l : List Nat} {i c k : Nat} {out : List Nat} (h : LoI l i out) (e : l[i]? = some c) (hk : k = 0 ∨ spc c) : LoI l (i + 1) (out ++ (c :: List.replicate k 32)) := fun o' t => by
  rw [pvo_succ e] at t
  have := h (c :: (List.replicate k 32 ++ o')) (by rw [drop_at e]; exact .keep hk t)
  rw [List.append_assoc, List.cons_append]
  exact this
theorem loI_drop {l : List Nat} {i : Nat} {out : List Nat} (h : LoI l i out) (e : l[i]? = some 32) (hp : pun (pvo l i) ∨ pun l[i + 1]?) : LoI l (i + 1) out := fun o' t => by
  rw [pvo_succ e] at t
  refine h o' ?_
  rw [drop_at e]
  refine .drop ?_ t
  rw [List.head?_drop]
  exact hp
theorem loI_end {l out : List Nat} (h : LoI l l.length out) : Lo none l out := by
  have := h [] (by rw [List.drop_eq_nil_of_le (Nat.le_refl _)]; exact .nil)
  rw [List.append_nil] at this
  exact this
/-! ### a word's end -/
def tw (l : List Nat) : List Nat := l.takeWhile fun x => decide (low x)
theorem tw_app : ∀ {w r : List Nat}, (∀ x ∈ w, low x) → Cl r → tw (w ++ r) = w
  | [], [], _, _ => rfl
  | [], x :: r, _, h => by
    unfold tw
    rw [List.nil_append, List.takeWhile_cons, if_neg]
    rw [decide_eq_true_iff]
    exact h x rfl
  | c :: w, r, hw, h => by
    unfold tw
    rw [List.cons_append, List.takeWhile_cons, if_pos (decide_eq_true (hw c (List.mem_cons_self ..)))]
    have := tw_app (w := w) (fun x hx => hw x (List.mem_cons_of_mem _ hx)) h
    unfold tw at this
    rw [this]
def tend (l : List Nat) (i : Nat) : Nat := i + 1 + match l[i]? with
  | some c => if wrd c then (tw (l.drop (i + 1))).length else 0
  | none => 0
theorem tend_wrd {l : List Nat} {i c : Nat} (e : l[i]? = some c) (h : wrd c) : tend l i = i + 1 + (tw (l.drop (i + 1))).length := by
  unfold tend
  rw [e]
  show i + 1 + (if wrd c then _ else 0) = _
  rw [if_pos h]
theorem tend_not {l : List Nat} {i c : Nat} (e : l[i]? = some c) (h : ¬ wrd c) : tend l i = i + 1 := by
  unfold tend
  rw [e]
  show i + 1 + (if wrd c then _ else 0) = _
  rw [if_neg h]
theorem tw_len (l : List Nat) : (tw l).length ≤ l.length := (List.takeWhile_sublist _).length_le
/-- the next piece of a text of known tokens -/
theorem tk_step {l : List Nat} {i c : Nat} {ts : List Str} (e : l[i]? = some c) (t : Tk (l.drop i) ts) :
    tend l i ≤ l.length ∧ ((c = 32 ∧ Tk (l.drop (tend l i)) ts) ∨ (c ≠ 32 ∧ ∃ ts', ts = tx ((l.drop i).take (tend l i - i)) :: ts' ∧ Tk (l.drop (tend l i)) ts')) := by
  have hi : i < l.length := (List.getElem?_eq_some_iff.mp e).1
  have ed := drop_at e
  rw [ed] at t
  generalize hq : l.drop (i + 1) = q at t
  cases t with
  | sp h =>
    have et := tend_not (l := l) e (by decide)
    rw [et, hq]
    exact ⟨by omega, .inl ⟨rfl, h⟩⟩
  | @word _ w r ts hc hw hr h =>
    have et := tend_wrd e hc
    rw [hq, tw_app hw hr] at et
    have el : l.length = i + 1 + (w.length + r.length) := by
      have := congrArg List.length hq
      rw [List.length_drop, List.length_append] at this
      omega
    refine ⟨by omega, .inr ⟨(wrd_ne hc).1, ts, ?_, ?_⟩⟩
    · congr 2
      rw [ed, hq, et, show i + 1 + w.length - i = w.length + 1 by omega, List.take_succ_cons, List.take_left]
    · rw [et, ← List.drop_drop, hq, List.drop_left]
      exact h
  | @sign _ _ ts hc h =>
    have hn : ¬ wrd c := fun hw => (wrd_ne hw).2 hc
    have et := tend_not e hn
    rw [et, hq]
    refine ⟨by omega, .inr ⟨?_, ts, ?_, h⟩⟩
    · intro h; subst h; exact absurd hc (by decide)
    · congr 2
      rw [ed, show i + 1 - i = 1 by omega]
      rfl
/-! ### what is begun -/
inductive Fr where
  | nt
  | qf (k x : Str)
  | op (k : Str) (g : Fm)
  | bn (k : Str) (f : Fm)
def Fr.tl : Fr → List Str
  | .nt => []
  | .qf _ _ => []
  | .op k g => k :: (g.toks ++ [(")" : Str)])
  | .bn _ _ => [(")" : Str)]
def Fr.Ok : Fr → Prop
  | .nt => True
  | .qf k x => (k = "some" ∨ k = "all") ∧ x ∈ vrs
  | .op k g => (k = "and" ∨ k = "or") ∧ g.Ok
  | .bn k f => (k = "and" ∨ k = "or") ∧ f.Ok
def Fr.plug : Fr → Fm → Fm
  | .nt, f => .neg f
  | .qf k x, f => .qu k x f
  | .op k g, f => .bin k f g
  | .bn k f1, f => .bin k f1 f
/-- behind a formula within: the larger one, or the next one to read -/
def Fr.cl : Fr → Fm → Fm ⊕ (Fm × Fr)
  | .nt, f => .inl (.neg f)
  | .qf k x, f => .inl (.qu k x f)
  | .op k g, f => .inr (g, .bn k f)
  | .bn k f1, f => .inl (.bin k f1 f)
def Fm.opn : Fm → Option (Fm × Fr)
  | .rel _ _ _ => none
  | .nam _ => none
  | .neg f => some (f, .nt)
  | .bin k f g => some (f, .op k g)
  | .qu k x f => some (f, .qf k x)
def Fm.wk : Fm → Nat
  | .rel _ _ _ => 1
  | .nam _ => 1
  | .neg f => f.wk + 2
  | .bin _ f g => f.wk + g.wk + 3
  | .qu _ _ f => f.wk + 2
def Fr.wk : Fr → Nat
  | .nt => 1
  | .qf _ _ => 1
  | .op _ g => g.wk + 2
  | .bn _ _ => 1
def tls : List Fr → List Str
  | [] => []
  | fr :: c => fr.tl ++ tls c
def plugs : List Fr → Fm → Fm
  | [], f => f
  | fr :: c, f => plugs c (fr.plug f)
def wks : List Fr → Nat
  | [] => 0
  | fr :: c => fr.wk + wks c
def FrOks : List Fr → Prop
  | [] => True
  | fr :: c => fr.Ok ∧ FrOks c
theorem Fm.opn_toks {g f : Fm} {fr : Fr} (h : g.opn = some (f, fr)) : fr.plug f = g ∧ (g.Ok → f.Ok ∧ fr.Ok) ∧ g.wk = f.wk + fr.wk + 1 := by
  cases g with
  | rel k a b => cases h
  | nam c => cases h
  | neg f => cases h; exact ⟨rfl, fun o => ⟨o, trivial⟩, rfl⟩
  | bin k f g => cases h; exact ⟨rfl, fun o => ⟨o.2.1, o.1, o.2.2⟩, by rw [Fm.wk, Fr.wk]; omega⟩
  | qu k x f => cases h; exact ⟨rfl, fun o => ⟨o.2.2, o.1, o.2.1⟩, rfl⟩
theorem Fm.atom_wk {g : Fm} (h : g.opn = none) : g.wk = 1 := by
  cases g <;> first | rfl | cases h
theorem Fr.cl_inl {fr : Fr} {f h : Fm} (e : fr.cl f = .inl h) : fr.plug f = h ∧ fr.wk = 1 ∧ (fr.Ok → f.Ok → h.Ok) := by
  cases fr with
  | nt => cases e; exact ⟨rfl, rfl, fun _ o => o⟩
  | qf k x => cases e; exact ⟨rfl, rfl, fun o p => ⟨o.1, o.2, p⟩⟩
  | op k g => cases e
  | bn k f1 => cases e; exact ⟨rfl, rfl, fun o p => ⟨o.1, o.2, p⟩⟩
theorem Fr.cl_inr {fr fr' : Fr} {f g : Fm} (e : fr.cl f = .inr (g, fr')) : fr.plug f = fr'.plug g ∧ fr.wk = g.wk + fr'.wk + 1 ∧ (fr.Ok → f.Ok → g.Ok ∧ fr'.Ok) := by
  cases fr with
  | nt => cases e
  | qf k x => cases e
  | op k g => cases e; exact ⟨rfl, by rw [Fr.wk, Fr.wk], fun o p => ⟨o.2, o.1, p⟩⟩
  | bn k f1 => cases e
/-! ### how the heap bears tokens and what is begun -/
inductive Al {α : Type} (R : V → α → Prop) : List V → List α → Prop where
  | nil : Al R [] []
  | cons {v : V} {x : α} {vs : List V} {xs : List α} (h : R v x) (t : Al R vs xs) : Al R (v :: vs) (x :: xs)
theorem Al.imp {α : Type} {R S : V → α → Prop} (f : ∀ v x, R v x → S v x) : ∀ {vs : List V} {xs : List α}, Al R vs xs → Al S vs xs
  | _, _, .nil => .nil
  | _, _, .cons h t => .cons (f _ _ h) (Al.imp f t)
theorem Al.app {α : Type} {R : V → α → Prop} : ∀ {vs us : List V} {xs ys : List α}, Al R vs xs → Al R us ys → Al R (vs ++ us) (xs ++ ys)
  | _, _, _, _, .nil, h => h
  | _, _, _, _, .cons h t, u => .cons h (Al.app t u)
theorem Al.len {α : Type} {R : V → α → Prop} : ∀ {vs : List V} {xs : List α}, Al R vs xs → vs.length = xs.length
  | _, _, .nil => rfl
  | _, _, .cons h t => by rw [List.length_cons, List.length_cons, Al.len t]
def TkV (K : PySem.W.Frag) (H : Hp) (v : V) (t : Str) : Prop := ∃ p n, v = .ref p ∧ SqT K H p [.int n, .str t]
def FrV (K : PySem.W.Frag) (H : Hp) (v : V) : Fr → Prop
  | .nt => ∃ p, v = .ref p ∧ SqT K H p [.str "not"]
  | .qf k x => ∃ p, v = .ref p ∧ SqT K H p [.str k, .str x]
  | .op _ _ => ∃ p, v = .ref p ∧ SqT K H p [.str "("]
  | .bn k f => ∃ p x, v = .ref p ∧ SqT K H p [.str k, x] ∧ FV K H x f
theorem TkV.tp {K : PySem.W.Frag} {H H' : Hp} (t : Tp H H') (v : V) (s : Str) (h : TkV K H v s) : TkV K H' v s := by
  obtain ⟨p, n, e, q⟩ := h
  exact ⟨p, n, e, t.sq q⟩
theorem FrV.tp {K : PySem.W.Frag} {H H' : Hp} (t : Tp H H') (v : V) (fr : Fr) (h : FrV K H v fr) : FrV K H' v fr := by
  cases fr with
  | nt => obtain ⟨p, e, q⟩ := h; exact ⟨p, e, t.sq q⟩
  | qf k x => obtain ⟨p, e, q⟩ := h; exact ⟨p, e, t.sq q⟩
  | op k g => obtain ⟨p, e, q⟩ := h; exact ⟨p, e, t.sq q⟩
  | bn k f => obtain ⟨p, x, e, q, r⟩ := h; exact ⟨p, x, e, t.sq q, FV.tp t _ r⟩
/-- a list whose last item comes first -/
def Stk {α : Type} (R : Hp → V → α → Prop) (H : Hp) (a : Addr) (xs : List α) : Prop := ∃ vs, H a = some (.lst vs.reverse) ∧ Al (R H) vs xs
abbrev TokL (K : PySem.W.Frag) (H : Hp) (a : Addr) (ts : List Str) : Prop := Stk (TkV K) H a ts
abbrev FrL (K : PySem.W.Frag) (H : Hp) (a : Addr) (c : List Fr) : Prop := Stk (FrV K) H a c
section
variable {α : Type} {R : Hp → V → α → Prop} {H H' : Hp} {a : Addr} {x : α} {xs : List α}
theorem Stk.lst (h : Stk R H a xs) : ∃ z, H a = some (.lst z) := by
  obtain ⟨vs, e, _⟩ := h
  exact ⟨_, e⟩
theorem Stk.keep (h : Stk R H a xs) (hR : ∀ v x, R H v x → R H' v x) (k : ∀ o, H a = some o → H' a = some o) : Stk R H' a xs := by
  obtain ⟨vs, e, q⟩ := h
  exact ⟨vs, k _ e, q.imp hR⟩
/-- its last item is taken -/
theorem Stk.pop (h : Stk R H a (x :: xs)) : ∃ v vs, H a = some (.lst (vs.reverse ++ [v])) ∧ R H v x ∧ Al (R H) vs xs := by
  obtain ⟨vs, e, q⟩ := h
  cases q with | @cons v _ vs' _ h t => exact ⟨v, vs', by rw [e, List.reverse_cons], h, t⟩
theorem Stk.push {v : V} {vs : List V} (e : H' a = some (.lst (vs.reverse ++ [v]))) (h : R H' v x) (t : Al (R H') vs xs) : Stk R H' a (x :: xs) := ⟨v :: vs, by rw [e, List.reverse_cons], .cons h t⟩
end
theorem last_get {vs : List V} {v : V} : (vs ++ [v])[(vs ++ [v]).length - 1]? = some v := by
  rw [List.length_append, List.length_singleton, Nat.add_sub_cancel, List.getElem?_append_right (Nat.le_refl _), Nat.sub_self]
  rfl
end SW

set_option Elab.async false
set_option linter.all false
set_option maxRecDepth 100000
set_option maxHeartbeats 4000000
namespace SW
open PySem PySem.Spec PyProof.Rows L2
/-! ### a dict of the module from texts to texts -/
inductive HS (K : PySem.W.Frag) (a : Addr) : List (Str × Str) → Prop where
  | nil : HS K a []
  | cons {k v : Str} {u : Value} {kvs : List (Str × Str)} (e : PySem.W.nsIn K a k = some (some u)) (r : L2.RelV (.str v) u) (t : HS K a kvs) : HS K a ((k, v) :: kvs)
def KdS (K : PySem.W.Frag) (w : World) (a : Addr) (kvs : List (Str × Str)) : Prop := KdL K w a (kvs.map fun p => p.1) ∧ ∀ p ∈ kvs, KDct K w a p.1 (.str p.2)
theorem HS.get {K : PySem.W.Frag} {a : Addr} {kvs : List (Str × Str)} (h : HS K a kvs) : ∀ p ∈ kvs, ∃ u, PySem.W.nsIn K a p.1 = some (some u) ∧ L2.RelV (.str p.2) u := by
  induction h with
  | nil => intro p hp; cases hp
  | cons e r t ih =>
    intro p hp
    rcases List.mem_cons.mp hp with q | hp
    · rw [q]; exact ⟨_, e, r⟩
    · exact ih p hp
theorem kds_mk {K : PySem.W.Frag} {w : World} {a : Addr} {es : Array DictEntry} {n : Nat} {kvs : List (Str × Str)} (l : K.lookup a = some ⟨.type "dict", none, .dict es n, #[]⟩) (lit : PySem.W.KeysLit w.params es.toList) (lo : (a == sysModules) = false)
    (he : es.toList.map keyS = (kvs.map fun p => p.1).map some) (nd : (kvs.map fun p => p.1).Nodup) (hz : (kvs.map fun p => p.1).length ≤ sizeLine) (hs : HS K a kvs) : KdS K w a kvs :=
  ⟨⟨es, n, ⟨l, lit, lo⟩, he, nd, hz⟩, fun p hp => by
    obtain ⟨u, e, r⟩ := hs.get p hp
    exact ⟨es, n, u, l, lit, e, r⟩⟩
theorem KdS.of {K : PySem.W.Frag} {w : World} {a : Addr} {kvs : List (Str × Str)} (h : KdS K w a kvs) {k v : Str} (m : (k, v) ∈ kvs) : KDct K w a k (.str v) := h.2 _ m
abbrev sgnT : List (Str × Str) := [("before", "<"), ("next", "next"), ("same", "="), ("in", "in")]
abbrev kndT : List (Str × Str) := [("<", "before"), ("next", "next"), ("=", "same"), ("in", "in")]
theorem sgn_mem {k a b : Str} (o : RelOk k a b) (hk : k ≠ "letter") : (k, sgn k) ∈ sgnT := by
  rcases kd_rel o with e | e | e | e | e
  · exact absurd e hk
  all_goals (rw [e]; decide +kernel)
theorem knd_mem {k a b : Str} (o : RelOk k a b) (hk : k ≠ "letter") : (sgn k, k) ∈ kndT := by
  rcases kd_rel o with e | e | e | e | e
  · exact absurd e hk
  all_goals (rw [e]; decide +kernel)
/-! ### lengths -/
theorem fit {n : Nat} (h : n ≤ 100000) : n ≤ sizeLine := Nat.le_trans h (by decide)
/-! ### signs of known texts -/
theorem ls_low : ls "abcdefghijklmnopqrstuvwxyz" = (List.range 26).map fun x => x + 97 := by decide +kernel
theorem mem_low {c : Nat} : c ∈ ls "abcdefghijklmnopqrstuvwxyz" ↔ low c := by
  rw [ls_low, List.mem_map]
  unfold low
  constructor
  · rintro ⟨x, hx, rfl⟩
    have := List.mem_range.mp hx
    omega
  · intro h
    exact ⟨c - 97, List.mem_range.mpr (by omega), by omega⟩
theorem mem_set {c : Nat} : c ∈ ls "XYZ" ↔ 88 ≤ c ∧ c ≤ 90 := by
  rw [show ls "XYZ" = [88, 89, 90] by decide +kernel]
  simp only [List.mem_cons, List.not_mem_nil, or_false]
  omega
theorem mem_sgn {c : Nat} : c ∈ ls "(){}<=" ↔ sgc c := by
  rw [show ls "(){}<=" = [40, 41, 123, 125, 60, 61] by decide +kernel]
  simp only [List.mem_cons, List.not_mem_nil, or_false]
  exact Iff.rfl
theorem mem_sgs {c : Nat} : c ∈ ls " (){}<=" ↔ spc c := by
  rw [show ls " (){}<=" = [32, 40, 41, 123, 125, 60, 61] by decide +kernel]
  simp only [List.mem_cons, List.not_mem_nil, or_false]
  exact Iff.rfl
theorem mem_chr {c : Nat} (h : chr c) : c ∈ ls " (){}<=XYZabcdefghijklmnopqrstuvwxyz" := by
  rw [show ls " (){}<=XYZabcdefghijklmnopqrstuvwxyz" = [32, 40, 41, 123, 125, 60, 61, 88, 89, 90] ++ (List.range 26).map (fun x => x + 97) by decide +kernel]
  rw [List.mem_append, List.mem_map]
  rcases h with h | h | h | h
  · left; rw [h]; decide
  · left
    unfold sgc at h
    simp only [List.mem_cons, List.not_mem_nil, or_false]
    omega
  · right
    unfold low at h
    exact ⟨c - 97, List.mem_range.mpr (by omega), by omega⟩
  · left
    simp only [List.mem_cons, List.not_mem_nil, or_false]
    omega
theorem wrd_mem {c : Nat} : wrd c ↔ c ∈ ls "abcdefghijklmnopqrstuvwxyz" ∨ c ∈ ls "XYZ" := by rw [mem_low, mem_set]; exact Iff.rfl
theorem at_ls {z : Str} {n c : Nat} (h : (ls z)[n]? = some c) {i : Int} (e : i = (n : Int)) : atI z.cps.toList i = some c := by
  rw [e]
  exact atI_nat h
theorem tw_get {l : List Nat} {k c : Nat} (h : l[k]? = some c) (hk : k = (tw l).length) : ¬ low c := by
  induction l generalizing k with
  | nil => cases h
  | cons x r ih =>
    unfold tw at hk
    rw [List.takeWhile_cons] at hk
    by_cases hx : low x
    · rw [if_pos (decide_eq_true hx), List.length_cons] at hk
      subst hk
      exact ih (k := (tw r).length) h rfl
    · rw [if_neg (fun z => hx (of_decide_eq_true z))] at hk
      subst hk
      cases h
      exact hx
theorem tw_lt {l : List Nat} {k c : Nat} (h : l[k]? = some c) (hk : k < (tw l).length) : low c := by
  induction l generalizing k with
  | nil => cases h
  | cons x r ih =>
    unfold tw at hk
    rw [List.takeWhile_cons] at hk
    by_cases hx : low x
    · rw [if_pos (decide_eq_true hx), List.length_cons] at hk
      cases k with
      | zero => cases h; exact hx
      | succ k => exact ih (k := k) h (by unfold tw; omega)
    · rw [if_neg (fun z => hx (of_decide_eq_true z))] at hk
      exact absurd hk (by simp)
end SW

set_option Elab.async false
set_option linter.all false
set_option maxRecDepth 100000
set_option maxHeartbeats 4000000
namespace SW
open PySem PySem.Spec PyProof.Rows L2
section
variable {P : Program} {w : World} {K : PySem.W.Frag} {mg : Str → Option Value} {h : Heap}
theorem df_mk {x : Str} {st : Stmt} {ps : List Str} {f : Addr} {od an : Option Addr} {sl : Array (Option Value)} {oc kV dc pm cd ct : Value} (X : K.In h) (G : h.Ns mainGlobals mg)
    (a : PySem.W.nsIn K mainGlobals x = some (some (.ref f))) (l : K.lookup f = some ⟨oc, od, .func (PySem.W.fnOf x x (defArgs st) (defBody st) (defScope st) .none kV dc pm an cd ct), sl⟩) (c : PySem.W.codeIn K cd x = true) (k : PySem.W.keepIn K (.ref f) = true)
    (hb : ∀ (kV doc pm : Value) (an : Option Addr) (cdv ct : Value) (us : List Value), us.length = ps.length → bindArgs (PySem.W.fnOf x x (defArgs st) (defBody st) (defScope st) .none kV doc pm an cdv ct) ⟨us, []⟩ = pure (ps.zip us)) : Df K mg x st ps := by
  have F := fun_mk (st := st) l c k
  exact ⟨f, _, F, PySem.W.mg_of X G a, F.binds (ps := ps) hb⟩
theorem law_end {st : Stmt} {fa : Addr} {k : Nat} {sp : Sp} (D : Df K mg "law" st ["_law_script"]) (hmg : mg "law" = some (.ref fa))
    (hb : ∀ (kV doc pm : Value) (an : Option Addr) (cdv ct : Value) (v : Value), bindArgs (PySem.W.fnOf "law" "law" (defArgs st) (defBody st) (defScope st) .none kV doc pm an cdv ct) ⟨[v], []⟩ = pure [(("_law_script" : Str), v)])
    (c : ∀ base : Heap, K.In base → base.Ns mainGlobals mg → Cal P w K mg base k "law" ["_law_script"] sp) :
    ∃ fd : FuncData, (∀ (s : Shared) (v : Value), BindsTo s fd ⟨[v], []⟩ [("_law_script", v)]) ∧ ∀ base : Heap, K.In base → base.Ns mainGlobals mg → FnOk P w K mg base CX0 k fa fd ["_law_script"] sp := by
  obtain ⟨f, fd, F, m, b⟩ := D.ex
  have e : f = fa := by
    rw [hmg] at m
    cases m
    rfl
  subst e
  obtain ⟨oc, od, kV, doc, pm, an, cdv, ct, osl, rfl, lk, _⟩ := F.ex
  refine ⟨_, fun s v => .of_eq (hb kV doc pm an cdv ct v), fun base h1 h2 => ?_⟩
  obtain ⟨f', fd', F', m', _, _, oc', od', osl', lk'⟩ := (c base h1 h2).ex
  have e : f' = f := by
    rw [m] at m'
    cases m'
    rfl
  subst e
  rw [lk] at lk'
  cases lk'
  exact F'
theorem sqt_mk {a : Addr} {o : Obj} {its : Array Value} {n : Nat} {xs : List V} (l : K.lookup a = some o) (hc : o.cls = .type "tuple") (hd : o.data = .seq its n) (hs : its.size ≤ sizeLine) (r : Vals xs its.toList) : ∀ H, SqT K H a xs :=
  fun _ => .inr ⟨o, its, n, l, hc, hd, hs, r⟩
end
theorem relstr {z y : Str} {tk : Tok} (h : z = y) : L2.RelV (.str z) (.str y tk) := ⟨tk, by rw [h]⟩
/-- what a law's def promises -/
def spLaw (K : PySem.W.Frag) : Sp := fun vs H Q _ => ∃ (a : Addr) (ns : List Int), vs = [.ref a] ∧ SqL K H a (ns.map V.int) ∧ ∀ H', Q (.bl true) H'
theorem walk {l : PySem.W.OpenLaw} {q : Program} {loose : List Str} {XP : (Str → Option Value) → Heap → Prop} {YP : World → Heap → Prop} {d : DefRec} {K : Params → PySem.W.Frag} {k : Nat} (hr : Room k callerA) (hn : l.most = some 63) (hdf : d.params.defaults = [])
    (hY : ∀ (w : World) (h : Heap), YP w h → (K w.params).In h)
    (F : ∀ (w : World) (mg : Str → Option Value) (fa : Addr) (h : Heap), (K w.params).In h → h.Ns mainGlobals mg → mg d.name = some (.ref fa) →
      ∃ fd : FuncData, (∀ (s : Shared) (u : Value), BindsTo s fd ⟨[u], []⟩ [("_law_script", u)]) ∧ ∀ base : Heap, (K w.params).In base → base.Ns mainGlobals mg → FnOk l.prog w (K w.params) mg base CX0 k fa fd ["_law_script"] (spLaw (K w.params))) :
    PySem.W.WalkO q loose XP YP l.row.toRowW d [] (fun f vs => PySem.call f vs) :=
  L2.walk_of (n := 63) (k := k) (x := "_law_script") (CX := fun _ => CX0) (sp := fun w => spLaw (K w.params)) hn (by decide) hdf hr hY F (fun _ _ a ns hl _ hS => ⟨a, ns, rfl, hS, fun _ => rfl⟩) fun _ _ _ _ _ z => z
end SW

set_option Elab.async false
set_option linter.all false
set_option maxRecDepth 100000
set_option maxHeartbeats 4000000
namespace SW
open PySem PySem.Spec PyProof.Rows L2
def top (i : Nat) : Stmt := PySem.Challenge.pw_scatterwords_k15_formula_texts.main.body.getD i (.Pass ⟨0, 0, 0, 0⟩)
abbrev s_formula_size : Stmt := top 8
abbrev s_nesting : Stmt := top 9
abbrev s_inner_formulas : Stmt := top 10
abbrev s_parse_formula : Stmt := top 22
abbrev s_format_formula : Stmt := top 23
abbrev s__tokens : Stmt := top 24
abbrev s__token_end : Stmt := top 25
abbrev s__take : Stmt := top 26
abbrev s__take_name : Stmt := top 27
abbrev s__read_formula : Stmt := top 28
abbrev s__begin : Stmt := top 29
abbrev s__read_relation : Stmt := top 30
abbrev s__go_on : Stmt := top 31
abbrev s__law_draws : Stmt := top 33
abbrev s__law_draw : Stmt := top 34
abbrev s__law_pick : Stmt := top 35
abbrev s__law_same : Stmt := top 36
abbrev s__law_nested : Stmt := top 37
abbrev s__law_name : Stmt := top 38
abbrev s__law_any_formula : Stmt := top 39
abbrev s__law_written : Stmt := top 40
abbrev s__law_loose : Stmt := top 41
abbrev s_law : Stmt := top 42
section
variable {P : Program} {w : World} {K : PySem.W.Frag} {mg : Str → Option Value} {base : Heap}
/-! ### inner_formulas -/
def spInnerF (K : PySem.W.Frag) : Sp := fun vs H Q _ => ∃ v t, vs = [v] ∧ FV K H v t ∧ t.Ok ∧ ∀ b xs H', SqT K H' b xs → FVs K H' xs t.parts → Same H H' → Q (.ref b) H'
theorem sc_inner_formulas : FnScope ["formula", "kind"] ["formula"] (defScope s_inner_formulas) := ⟨rfl, rfl, rfl, by decide +kernel, rfl, by decide +kernel, by decide +kernel⟩
theorem ok_innerF {aQ : Addr} (D : Df K mg "inner_formulas" s_inner_formulas ["formula"]) (bi : Bi mg) (mQUANTIFIERS : mg "QUANTIFIERS" = some (.ref aQ)) (hQ : ∀ H, SqT K H aQ [.str "some", .str "all"]) : Cal P w K mg base 1 "inner_formulas" ["formula"] (spInnerF K) := by
  refine D.ok sc_inner_formulas (fun vs H Q E h => ?_) (fun f cdv A outer s H vs Q E hr h => ?_)
  · obtain ⟨v, t, rfl, _⟩ := h
    rfl
  obtain ⟨v, t, rfl, hv, ho, q⟩ := h
  refine ⟨_, (pss_cons (ps_set (i := 1) sc_inner_formulas.nd rfl (.inl rfl) (pe_ix ix_tup (pv 0) pe_int (fun _ _ => rfl)))
      (pss_cons (ps_if (pt_cmpR op_in_seq (pv 1) (pe_tup (pa_cons pe_str (pa_cons pe_str (pa_cons pe_str pa_nil)))) (by rfl)) (pss_one (ps_ret (pe_slice sl_tup (pv 0) (po_some pe_int) po_none))) pss_nil)
      (pss_cons (ps_if (pt_cmpR op_in_seq (pv 1) (pe_glob (v := .ref aQ) (by rfl) mQUANTIFIERS rfl) (by rfl)) (pss_one (ps_ret (pe_tup (pa_cons (pe_ix ix_tup (pv 0) pe_int (fun _ _ => rfl)) pa_nil)))) pss_nil)
      (pss_one (ps_ret (pe_tup pa_nil)))))), ?_⟩
  have at_ := hv.at
  cases at_ with
  | @rel p k a b e s =>
    cases e
    refine ⟨_, rfl, _, _, _, _, rfl, rfl, s, rfl, _, rfl, (by show 3 ≤ sizeLine; decide), fun p hp => ?_⟩
    refine ⟨p, _, rfl, .inr (SqT.of upd_same), rfl, rfl, in_no nab (rel_notin ho (by decide +kernel)) ?_⟩
    refine ⟨_, rfl, aQ, _, rfl, .inr (hQ _), rfl, rfl, in_no qus (rel_notin ho (by decide +kernel)) ?_⟩
    refine ⟨Nat.zero_le _, fun p2 hp2 => ?_⟩
    exact q p2 [] _ (SqT.of upd_same) fvs_nil ((same_new hp).trans (same_new hp2))
  | @nam p c e s =>
    cases e
    refine ⟨_, rfl, _, _, _, _, rfl, rfl, s, rfl, _, rfl, (by show 3 ≤ sizeLine; decide), fun p hp => ?_⟩
    refine ⟨p, _, rfl, .inr (SqT.of upd_same), rfl, rfl, in_no nab (by decide +kernel) ?_⟩
    refine ⟨_, rfl, aQ, _, rfl, .inr (hQ _), rfl, rfl, in_no qus (by decide +kernel) ?_⟩
    refine ⟨Nat.zero_le _, fun p2 hp2 => ?_⟩
    exact q p2 [] _ (SqT.of upd_same) fvs_nil ((same_new hp).trans (same_new hp2))
  | @neg p x f e s hx =>
    cases e
    refine ⟨_, rfl, _, _, _, _, rfl, rfl, s, rfl, _, rfl, (by show 3 ≤ sizeLine; decide), fun p hp => ?_⟩
    refine ⟨p, _, rfl, .inr (SqT.of upd_same), rfl, rfl, in_yes nab (by decide +kernel) ?_⟩
    refine ⟨_, rfl, _, rfl, _, _, rfl, (tp_new hp).sq s, sl1 (by show 1 ≤ 2; decide), fun p2 hp2 => ?_⟩
    exact q p2 [x] _ (SqT.of upd_same) (fvs_cons (FV.tp ((tp_new hp).trans (tp_new hp2)) _ hx) fvs_nil) ((same_new hp).trans (same_new hp2))
  | @bin p x y k f g e s hx hy =>
    cases e
    refine ⟨_, rfl, _, _, _, _, rfl, rfl, s, rfl, _, rfl, (by show 3 ≤ sizeLine; decide), fun p hp => ?_⟩
    refine ⟨p, _, rfl, .inr (SqT.of upd_same), rfl, rfl, in_yes nab (bin_in ho.1 (by decide +kernel)) ?_⟩
    refine ⟨_, rfl, _, rfl, _, _, rfl, (tp_new hp).sq s, sl1 (by show 1 ≤ 3; decide), fun p2 hp2 => ?_⟩
    exact q p2 [x, y] _ (SqT.of upd_same) (fvs_cons (FV.tp ((tp_new hp).trans (tp_new hp2)) _ hx) (fvs_cons (FV.tp ((tp_new hp).trans (tp_new hp2)) _ hy) fvs_nil)) ((same_new hp).trans (same_new hp2))
  | @qu p x k y f e s hx =>
    cases e
    refine ⟨_, rfl, _, _, _, _, rfl, rfl, s, rfl, _, rfl, (by show 3 ≤ sizeLine; decide), fun p hp => ?_⟩
    refine ⟨p, _, rfl, .inr (SqT.of upd_same), rfl, rfl, in_no nab (qu_notin ho.1 (by decide +kernel)) ?_⟩
    refine ⟨_, rfl, aQ, _, rfl, .inr (hQ _), rfl, rfl, in_yes qus (qu_in ho.1 (by decide +kernel)) ?_⟩
    refine ⟨_, rfl, _, _, _, _, rfl, rfl, (tp_new hp).sq s, rfl, (by show 1 ≤ sizeLine; decide), fun p2 hp2 => ?_⟩
    exact q p2 [x] _ (SqT.of upd_same) (fvs_cons (FV.tp ((tp_new hp).trans (tp_new hp2)) _ hx) fvs_nil) ((same_new hp).trans (same_new hp2))
/-! ### formula_size, nesting -/
theorem size_sum (f : Fm) : 1 + (sizeL f.parts).sum = (f.size : Int) := by
  cases f <;> simp [sizeL, Fm.parts, Fm.size] <;> omega
theorem nest_top {f : Fm} {m : Int} (h : topD 0 (nestL f.parts) m) : m = ((match f with | .qu _ _ g => g.nest | f => f.nest) : Nat) := by
  cases f with
  | rel k a b =>
    rcases h with h | h
    · exact h.2
    · exact absurd h.1 (by simp [nestL, Fm.parts])
  | nam c =>
    rcases h with h | h
    · exact h.2
    · exact absurd h.1 (by simp [nestL, Fm.parts])
  | neg f =>
    rcases h with h | h
    · exact absurd h.1 (by simp [nestL, Fm.parts])
    · have := h.1
      simp [nestL, Fm.parts] at this
      exact this
  | bin k f g =>
    rcases h with h | h
    · exact absurd h.1 (by simp [nestL, Fm.parts])
    · obtain ⟨h1, h2⟩ := h
      have a1 := h2 (f.nest : Int) (by simp [nestL, Fm.parts])
      have a2 := h2 (g.nest : Int) (by simp [nestL, Fm.parts])
      simp [nestL, Fm.parts] at h1
      show m = ((max f.nest g.nest : Nat) : Int)
      omega
  | qu k x f =>
    rcases h with h | h
    · exact absurd h.1 (by simp [nestL, Fm.parts])
    · have := h.1
      simp [nestL, Fm.parts] at this
      exact this
def spSize (K : PySem.W.Frag) (n : Nat) : Sp := fun vs H Q _ => ∃ v t, vs = [v] ∧ FV K H v t ∧ t.Ok ∧ t.dep ≤ n ∧ ∀ H', Same H H' → Q (.int (t.size : Nat)) H'
theorem sc_formula_size : FnScope ["formula", "part"] ["formula"] (defScope s_formula_size) := ⟨rfl, rfl, rfl, by decide +kernel, rfl, by decide +kernel, by decide +kernel⟩
theorem ok_size1 {n : Nat} (D : Df K mg "formula_size" s_formula_size ["formula"]) (bi : Bi mg) (cinner_formulas : Cal P w K mg base 1 "inner_formulas" ["formula"] (spInnerF K)) (cformula_size : Cal P w K mg base (n + 1) "formula_size" ["formula"] (spSize K n)) :
    Cal P w K mg base (n + 2) "formula_size" ["formula"] (spSize K (n + 1)) := by
  refine D.ok sc_formula_size (fun vs H Q E h => ?_) (fun f cdv A outer s H vs Q E hr h => ?_)
  · obtain ⟨v, t, rfl, _⟩ := h
    rfl
  obtain ⟨v, t, rfl, hv, ho, hd, q⟩ := h
  refine ⟨_, (pss_one (ps_ret (pe_op op_add pe_int (pe_callB (cr_sum rfl) (by rfl) bi.sum (by decide +kernel) (pa_cons (pe_lc (own := [("part", 1)]) (g := gName 1) (tt := tYes) rfl sc_formula_size.nd (pi_tup (pe_own cinner_formulas hr (by omega) (by rfl) (pa_cons (pv 0) pa_nil))) (blkOk_by (N := ["formula", "part"]) (sc := defScope s_formula_size) (by decide +kernel)) (fun _ _ _ _ _ => (pg_name (i := 1) sc_formula_size.nd rfl (.inl rfl))) (fun _ _ _ _ _ => pts_nil) (fun _ _ _ _ _ => (pe_own cformula_size hr (by omega) (by rfl) (pa_cons (pv 1) pa_nil)))) pa_nil))))), ?_⟩
  refine ⟨_, rfl, v, t, rfl, hv, ho, fun b xs H1 hb hx k1 => ⟨b, rfl, ⟨xs, hb⟩, fun Dd hD => ?_⟩⟩
  have hlen := hx.length
  have h2 := t.parts_len
  refine lct (xs := xs) (fun i H3 => H3 Dd = some (.lst ((sizeL (t.parts.take i)).map V.int)) ∧ Same H1 H3) ?_ ?_ ?_ ?_
  · exact ⟨upd_same, same_new hD⟩
  · rintro i H3 _ ⟨_, k3⟩
    exact (tp_same k3).sq hb
  · rintro i x H3 hxi ⟨hA, k3⟩
    obtain ⟨g, e1, h1⟩ := hx.get hxi
    have m1 := Fm.parts_mem ho (List.mem_of_getElem? e1)
    refine ⟨_, rfl, _, g, rfl, FV.tp (tp_same k3) _ h1, m1.1, by omega, fun H4 k4 => ?_⟩
    refine ⟨_, k4 _ _ hA, ?_, ?_, ?_⟩
    · rw [List.length_map, sizeL, List.length_map, List.length_take]
      exact Nat.lt_of_le_of_lt (show _ ≤ 1000 by omega) (by decide)
    · rw [upd_same, List.take_add_one, e1]
      show _ = some (HO.lst ((sizeL (t.parts.take i ++ [g])).map V.int))
      rw [sizeL_snoc]
    · intro b' o hb
      rw [upd_ne (ne_of_none hb hD)]
      exact k4 _ _ (k3 _ _ hb)
  · rintro H3 ⟨hA, k3⟩
    rw [hlen, List.take_length] at hA
    refine ⟨Dd, _, rfl, SqL.of hA, _, _, rfl, rfl, ?_⟩
    show Q (.int (1 + (sizeL t.parts).sum)) H3
    rw [size_sum]
    exact q H3 (k1.trans k3)
theorem ok_size (D : Df K mg "formula_size" s_formula_size ["formula"]) (bi : Bi mg) (ci : Cal P w K mg base 1 "inner_formulas" ["formula"] (spInnerF K)) : ∀ n : Nat, Cal P w K mg base (n + 1) "formula_size" ["formula"] (spSize K n)
  | 0 => D.no fun vs H Q E h => by
    obtain ⟨v, t, _, _, _, h, _⟩ := h
    have := t.dep_pos
    omega
  | n + 1 => ok_size1 D bi ci (ok_size D bi ci n)
def spNest (K : PySem.W.Frag) (n : Nat) : Sp := fun vs H Q _ => ∃ v t, vs = [v] ∧ FV K H v t ∧ t.Ok ∧ t.dep ≤ n ∧ ∀ H', Same H H' → Q (.int (t.nest : Nat)) H'
theorem sc_nesting : FnScope ["formula", "inner", "part"] ["formula"] (defScope s_nesting) := ⟨rfl, rfl, rfl, by decide +kernel, rfl, by decide +kernel, by decide +kernel⟩
theorem ok_nest1 {n : Nat} {aQ : Addr} (D : Df K mg "nesting" s_nesting ["formula"]) (bi : Bi mg) (mQUANTIFIERS : mg "QUANTIFIERS" = some (.ref aQ)) (hQ : ∀ H, SqT K H aQ [.str "some", .str "all"]) (cinner_formulas : Cal P w K mg base 1 "inner_formulas" ["formula"] (spInnerF K)) (cnesting : Cal P w K mg base (n + 1) "nesting" ["formula"] (spNest K n)) :
    Cal P w K mg base (n + 2) "nesting" ["formula"] (spNest K (n + 1)) := by
  refine D.ok sc_nesting (fun vs H Q E h => ?_) (fun f cdv A outer s H vs Q E hr h => ?_)
  · obtain ⟨v, t, rfl, _⟩ := h
    rfl
  obtain ⟨v, t, rfl, hv, ho, hd, q⟩ := h
  refine ⟨_, (pss_cons (ps_set (i := 1) sc_nesting.nd rfl (.inl rfl) (pe_maxD rfl (by rfl) bi.max (pe_lc (own := [("part", 2)]) (g := gName 2) (tt := tYes) rfl sc_nesting.nd (pi_tup (pe_own cinner_formulas hr (by omega) (by rfl) (pa_cons (pv 0) pa_nil))) (blkOk_by (N := ["formula", "inner", "part"]) (sc := defScope s_nesting) (by decide +kernel)) (fun _ _ _ _ _ => (pg_name (i := 2) sc_nesting.nd rfl (.inl rfl))) (fun _ _ _ _ _ => pts_nil) (fun _ _ _ _ _ => (pe_own cnesting hr (by omega) (by rfl) (pa_cons (pv 2) pa_nil))))))
      (pss_one (ps_ret (pe_ifExp (pt_cmpR op_in_seq (pe_ix ix_tup (pv 0) pe_int (fun _ _ => rfl)) (pe_glob (v := .ref aQ) (by rfl) mQUANTIFIERS rfl) (by rfl)) (pe_op op_add (pv 1) pe_int) (pv 1))))), ?_⟩
  refine ⟨_, rfl, v, t, rfl, hv, ho, fun b xs H1 hb hx k1 => ⟨b, rfl, ⟨xs, hb⟩, fun Dd hD => ?_⟩⟩
  have hlen := hx.length
  have h2 := t.parts_len
  refine lct (xs := xs) (fun i H3 => H3 Dd = some (.lst ((nestL (t.parts.take i)).map V.int)) ∧ Same H1 H3) ?_ ?_ ?_ ?_
  · exact ⟨upd_same, same_new hD⟩
  · rintro i H3 _ ⟨_, k3⟩
    exact (tp_same k3).sq hb
  · rintro i x H3 hxi ⟨hA, k3⟩
    obtain ⟨g, e1, h1⟩ := hx.get hxi
    have m1 := Fm.parts_mem ho (List.mem_of_getElem? e1)
    refine ⟨_, rfl, _, g, rfl, FV.tp (tp_same k3) _ h1, m1.1, by omega, fun H4 k4 => ?_⟩
    refine ⟨_, k4 _ _ hA, ?_, ?_, ?_⟩
    · rw [List.length_map, nestL, List.length_map, List.length_take]
      exact Nat.lt_of_le_of_lt (show _ ≤ 1000 by omega) (by decide)
    · rw [upd_same, List.take_add_one, e1]
      show _ = some (HO.lst ((nestL (t.parts.take i ++ [g])).map V.int))
      rw [nestL_snoc]
    · intro b' o hb
      rw [upd_ne (ne_of_none hb hD)]
      exact k4 _ _ (k3 _ _ hb)
  · rintro H3 ⟨hA, k3⟩
    rw [hlen, List.take_length] at hA
    refine ⟨Dd, _, rfl, SqL.of hA, fun m hm => ?_⟩
    have hm := nest_top hm
    have q3 := q H3 (k1.trans k3)
    have at_ := (FV.tp (tp_same (k1.trans k3)) _ hv).at
    cases at_ with
    | @rel p k a b e s =>
      cases e
      refine ⟨_, rfl, _, _, _, _, rfl, rfl, s, rfl, aQ, _, rfl, .inr (hQ _), rfl, rfl, in_no qus (rel_notin ho (by decide +kernel)) ⟨_, rfl, ?_⟩⟩
      rw [hm]
      exact q3
    | @nam p c e s =>
      cases e
      refine ⟨_, rfl, _, _, _, _, rfl, rfl, s, rfl, aQ, _, rfl, .inr (hQ _), rfl, rfl, in_no qus (by decide +kernel) ⟨_, rfl, ?_⟩⟩
      rw [hm]
      exact q3
    | @neg p x f e s hx =>
      cases e
      refine ⟨_, rfl, _, _, _, _, rfl, rfl, s, rfl, aQ, _, rfl, .inr (hQ _), rfl, rfl, in_no qus (by decide +kernel) ⟨_, rfl, ?_⟩⟩
      rw [hm]
      exact q3
    | @bin p x y k f g e s hx hy =>
      cases e
      refine ⟨_, rfl, _, _, _, _, rfl, rfl, s, rfl, aQ, _, rfl, .inr (hQ _), rfl, rfl, in_no qus (bin_notin ho.1 (by decide +kernel)) ⟨_, rfl, ?_⟩⟩
      rw [hm]
      exact q3
    | @qu p x k y f e s hx =>
      cases e
      refine ⟨_, rfl, _, _, _, _, rfl, rfl, s, rfl, aQ, _, rfl, .inr (hQ _), rfl, rfl, in_yes qus (qu_in ho.1 (by decide +kernel)) ⟨_, rfl, _, _, rfl, rfl, ?_⟩⟩
      rw [hm]
      exact q3
theorem ok_nest {aQ : Addr} (D : Df K mg "nesting" s_nesting ["formula"]) (bi : Bi mg) (mQ : mg "QUANTIFIERS" = some (.ref aQ)) (hQ : ∀ H, SqT K H aQ [.str "some", .str "all"]) (ci : Cal P w K mg base 1 "inner_formulas" ["formula"] (spInnerF K)) : ∀ n : Nat, Cal P w K mg base (n + 1) "nesting" ["formula"] (spNest K n)
  | 0 => D.no fun vs H Q E h => by
    obtain ⟨v, t, _, _, _, h, _⟩ := h
    have := t.dep_pos
    omega
  | n + 1 => ok_nest1 D bi mQ hQ ci (ok_nest D bi mQ hQ ci n)
/-! ### _law_nested -/
theorem sc__law_nested : FnScope ["_law_my_formula"] ["_law_my_formula"] (defScope s__law_nested) := ⟨rfl, rfl, rfl, by decide +kernel, rfl, by decide +kernel, by decide +kernel⟩
theorem ok_lnest1 {n : Nat} (D : Df K mg "_law_nested" s__law_nested ["_law_my_formula"]) (bi : Bi mg) (c_law_nested : Cal P w K mg base (n + 1) "_law_nested" ["_law_my_formula"] (spNest K n)) :
    Cal P w K mg base (n + 2) "_law_nested" ["_law_my_formula"] (spNest K (n + 1)) := by
  refine D.ok sc__law_nested (fun vs H Q E h => ?_) (fun f cdv A outer s H vs Q E hr h => ?_)
  · obtain ⟨v, t, rfl, _⟩ := h
    rfl
  obtain ⟨v, t, rfl, hv, ho, hd, q⟩ := h
  refine ⟨_, (pss_cons (ps_if (PW.pt (pw_or (pt_cmpR op_eq (pe_ix ix_tup (pv 0) pe_int (fun _ _ => rfl)) pe_str (nomark _)) (pw_or1 (pt_cmpR op_eq (pe_ix ix_tup (pv 0) pe_int (fun _ _ => rfl)) pe_str (nomark _))))) (pss_one (ps_ret (pe_op op_add pe_int (pe_own c_law_nested hr (by omega) (by rfl) (pa_cons (pe_ix ix_tup (pv 0) pe_int (fun _ _ => rfl)) pa_nil))))) pss_nil)
      (pss_cons (ps_if (PW.pt (pw_or (pt_cmpR op_eq (pe_ix ix_tup (pv 0) pe_int (fun _ _ => rfl)) pe_str (nomark _)) (pw_or1 (pt_cmpR op_eq (pe_ix ix_tup (pv 0) pe_int (fun _ _ => rfl)) pe_str (nomark _))))) (pss_one (ps_ret (pe_callB (call_max2 rfl) (by rfl) bi.max (by decide +kernel) (pa_cons (pe_own c_law_nested hr (by omega) (by rfl) (pa_cons (pe_ix ix_tup (pv 0) pe_int (fun _ _ => rfl)) pa_nil)) (pa_cons (pe_own c_law_nested hr (by omega) (by rfl) (pa_cons (pe_ix ix_tup (pv 0) pe_int (fun _ _ => rfl)) pa_nil)) pa_nil))))) pss_nil)
      (pss_one (ps_ret (pe_ifExp (pt_cmpR op_eq (pe_ix ix_tup (pv 0) pe_int (fun _ _ => rfl)) pe_str (nomark _)) (pe_own c_law_nested hr (by omega) (by rfl) (pa_cons (pe_ix ix_tup (pv 0) pe_int (fun _ _ => rfl)) pa_nil)) pe_int))))), ?_⟩
  have q0 := q H (Same.refl H)
  have at_ := hv.at
  cases at_ with
  | @rel p k a b e s =>
    cases e
    refine ⟨_, rfl, _, _, _, _, rfl, rfl, s, rfl, rfl, eq_no (rel_ne ho (by decide +kernel)) ?_⟩
    refine ⟨_, rfl, _, _, _, _, rfl, rfl, s, rfl, rfl, eq_no (rel_ne ho (by decide +kernel)) ?_⟩
    refine ⟨_, rfl, _, _, _, _, rfl, rfl, s, rfl, rfl, eq_no (rel_ne ho (by decide +kernel)) ?_⟩
    refine ⟨_, rfl, _, _, _, _, rfl, rfl, s, rfl, rfl, eq_no (rel_ne ho (by decide +kernel)) ?_⟩
    exact ⟨_, rfl, _, _, _, _, rfl, rfl, s, rfl, rfl, eq_no (rel_ne ho (by decide +kernel)) q0⟩
  | @nam p c e s =>
    cases e
    refine ⟨_, rfl, _, _, _, _, rfl, rfl, s, rfl, rfl, eq_no (by decide +kernel) ?_⟩
    refine ⟨_, rfl, _, _, _, _, rfl, rfl, s, rfl, rfl, eq_no (by decide +kernel) ?_⟩
    refine ⟨_, rfl, _, _, _, _, rfl, rfl, s, rfl, rfl, eq_no (by decide +kernel) ?_⟩
    refine ⟨_, rfl, _, _, _, _, rfl, rfl, s, rfl, rfl, eq_no (by decide +kernel) ?_⟩
    exact ⟨_, rfl, _, _, _, _, rfl, rfl, s, rfl, rfl, eq_no (by decide +kernel) q0⟩
  | @neg p x f e s hx =>
    cases e
    refine ⟨_, rfl, _, _, _, _, rfl, rfl, s, rfl, rfl, eq_no (by decide +kernel) ?_⟩
    refine ⟨_, rfl, _, _, _, _, rfl, rfl, s, rfl, rfl, eq_no (by decide +kernel) ?_⟩
    refine ⟨_, rfl, _, _, _, _, rfl, rfl, s, rfl, rfl, eq_no (by decide +kernel) ?_⟩
    refine ⟨_, rfl, _, _, _, _, rfl, rfl, s, rfl, rfl, eq_no (by decide +kernel) ?_⟩
    refine ⟨_, rfl, _, _, _, _, rfl, rfl, s, rfl, rfl, eq_yes rfl ?_⟩
    rw [Fm.dep] at hd
    exact ⟨_, rfl, _, _, _, _, rfl, rfl, s, rfl, x, f, rfl, hx, ho, by omega, fun H' k => q H' k⟩
  | @bin p x y k f g e s hx hy =>
    cases e
    rw [Fm.dep] at hd
    refine ⟨_, rfl, _, _, _, _, rfl, rfl, s, rfl, rfl, eq_no (bin_ne ho.1 (by decide +kernel)) ?_⟩
    refine ⟨_, rfl, _, _, _, _, rfl, rfl, s, rfl, rfl, eq_no (bin_ne ho.1 (by decide +kernel)) ?_⟩
    refine ⟨_, rfl, _, _, _, _, rfl, rfl, s, rfl, rfl, ?_⟩
    have fin : tCB (fun xs H Q => ∃ a b, xs = [V.int a, V.int b] ∧ Q (.int (if b > a then b else a)) H) (tCons (tCall (spNest K n) [] E0 (tCons (tOp (rIxT K) (tVar 0) (tC (.int 1))) tNil)) (tCons (tCall (spNest K n) [] E0 (tCons (tOp (rIxT K) (tVar 0) (tC (.int 2))) tNil)) tNil)) [some (.ref p)] H Q := by
      refine ⟨_, rfl, _, _, _, _, rfl, rfl, s, rfl, x, f, rfl, hx, ho.2.1, by omega, fun H1 k1 => ?_⟩
      refine ⟨_, rfl, _, _, _, _, rfl, rfl, (tp_same k1).sq s, rfl, y, g, rfl, FV.tp (tp_same k1) _ hy, ho.2.2, by omega, fun H2 k2 => ?_⟩
      refine ⟨_, _, rfl, ?_⟩
      have e : (if ((g.nest : Nat) : Int) > ((f.nest : Nat) : Int) then ((g.nest : Nat) : Int) else ((f.nest : Nat) : Int)) = ((max f.nest g.nest : Nat) : Int) := by
        split <;> omega
      rw [e]
      exact q H2 (k1.trans k2)
    rcases ho.1 with e | e
    · refine eq_yes e ?_
      exact fin
    · refine eq_no (by rw [e]; decide +kernel) ?_
      refine ⟨_, rfl, _, _, _, _, rfl, rfl, s, rfl, rfl, eq_yes e ?_⟩
      exact fin
  | @qu p x k y f e s hx =>
    cases e
    rw [Fm.dep] at hd
    refine ⟨_, rfl, _, _, _, _, rfl, rfl, s, rfl, rfl, ?_⟩
    have fin : tOp (rI0 fun i j => V.int (i + j)) (tC (.int 1)) (tCall (spNest K n) [] E0 (tCons (tOp (rIxT K) (tVar 0) (tC (.int 2))) tNil)) [some (.ref p)] H Q := by
      refine ⟨_, rfl, _, _, _, _, rfl, rfl, s, rfl, x, f, rfl, hx, ho.2.2, by omega, fun H1 k1 => ?_⟩
      refine ⟨_, _, rfl, rfl, ?_⟩
      have e : (1 : Int) + ((f.nest : Nat) : Int) = ((f.nest + 1 : Nat) : Int) := by omega
      show Q (.int ((1 : Int) + ((f.nest : Nat) : Int))) H1
      rw [e]
      exact q H1 k1
    rcases ho.1 with e | e
    · refine eq_yes e ?_
      exact fin
    · refine eq_no (by rw [e]; decide +kernel) ?_
      refine ⟨_, rfl, _, _, _, _, rfl, rfl, s, rfl, rfl, eq_yes e ?_⟩
      exact fin
theorem ok_lnest (D : Df K mg "_law_nested" s__law_nested ["_law_my_formula"]) (bi : Bi mg) : ∀ n : Nat, Cal P w K mg base (n + 1) "_law_nested" ["_law_my_formula"] (spNest K n)
  | 0 => D.no fun vs H Q E h => by
    obtain ⟨v, t, _, _, _, h, _⟩ := h
    have := t.dep_pos
    omega
  | n + 1 => ok_lnest1 D bi (ok_lnest D bi n)

end
end SW

set_option Elab.async false
set_option linter.all false
set_option maxRecDepth 100000
set_option maxHeartbeats 4000000
namespace SW
open PySem PySem.Spec PyProof.Rows L2
section
variable {P : Program} {w : World} {K : PySem.W.Frag} {mg : Str → Option Value} {base : Heap}
/-! ### _law_draws -/
def spDraws (K : PySem.W.Frag) : Sp := fun vs H Q _ => ∃ (a : Addr) (ns : List Int), vs = [.ref a] ∧ SqL K H a (ns.map V.int) ∧ ∀ r l H', Rng H' r l → Same H H' → Q (.ref r) H'
theorem sc__law_draws : FnScope ["_law_script", "_law_state", "_law_cell"] ["_law_script"] (defScope s__law_draws) := ⟨rfl, rfl, rfl, by decide +kernel, rfl, by decide +kernel, by decide +kernel⟩
theorem ok_draws (D : Df K mg "_law_draws" s__law_draws ["_law_script"]) (bi : Bi mg) : Cal P w K mg base 1 "_law_draws" ["_law_script"] (spDraws K) := by
  refine D.ok sc__law_draws (fun vs H Q E h => ?_) (fun f cdv A outer s H vs Q E hr h => ?_)
  · obtain ⟨a, ns, rfl, _⟩ := h
    rfl
  obtain ⟨a, ns, rfl, hS, q⟩ := h
  refine ⟨_, (pss_cons (ps_set (i := 1) sc__law_draws.nd rfl (.inl rfl) pe_int)
      (pss_cons (ps_for PassesOwn.never rfl (pi_list (pe_slice sl_list (pv 0) po_none (po_some pe_int))) (pg_name (i := 2) sc__law_draws.nd rfl (.inl rfl)) (pss_one (ps_set (i := 1) sc__law_draws.nd rfl (.inl rfl) (pe_op op_modN (pe_callTy call_int1 (by rfl) bi.int (by decide +kernel) (pa_cons (pe_op op_add (pe_op op_add (pe_op op_mul (pv 1) pe_int) (pe_op op_modN (pe_callTy call_int1 (by rfl) bi.int (by decide +kernel) (pa_cons (pv 2) pa_nil)) pe_int)) pe_int) pa_nil)) pe_int))))
      (pss_one (ps_ret (pe_lst (pa_cons (pe_callTy call_list_of (by rfl) bi.list (by decide +kernel) (pa_cons (pe_slice sl_list (pv 0) po_none (po_some pe_int)) pa_nil)) (pa_cons pe_int (pa_cons pe_int (pa_cons (pv 1) (pa_cons pe_int pa_nil)))))))))), ?_⟩
  obtain ⟨ms, hms⟩ := cutV_ints ns none (some 63)
  refine ⟨_, rfl, 63, rfl, a, _, rfl, hS, fun c nc => ?_⟩
  have k1 : Same H (upd H c (.lst (cutV (ns.map V.int) none (some 63)))) := same_new nc
  refine ⟨c, rfl, ⟨_, SqL.of upd_same⟩, for_list (xs := cutV (ns.map V.int) none (some 63)) (fun i σ' H' => ∃ st y2, σ' = [some (.ref a), some (.int st), y2] ∧ H' = upd H c (.lst (cutV (ns.map V.int) none (some 63)))) ?_ ?_ ?_ ?_⟩
  · exact ⟨_, none, rfl, rfl⟩
  · rintro i σ' H' _ ⟨st, y2, _, rfl⟩
    exact SqL.of upd_same
  · rintro i x σ' H' hx ⟨st, y2, rfl, rfl⟩
    rw [hms, List.getElem?_map] at hx
    obtain ⟨m, _, rfl⟩ := Option.map_eq_some_iff.mp hx
    refine ⟨_, rfl, _, _, rfl, rfl, .inr (by decide), _, rfl, .inl ⟨_, rfl, _, _, rfl, rfl, (show (2147483629 : Int) ≠ 0 by decide), _, _, rfl, rfl, _, _, rfl, rfl, .inl ⟨_, rfl, _, _, rfl, rfl, (show (2147483647 : Int) ≠ 0 by decide), ?_⟩⟩⟩
    exact ⟨_, _, rfl, rfl⟩
  · rintro σ' H' ⟨st, y2, rfl, rfl⟩
    refine ⟨_, rfl, 63, rfl, a, _, rfl, k1.seq hS, fun c2 nc2 => ?_⟩
    refine ⟨c2, _, rfl, .inl (SqL.of upd_same), fun l hl => ?_⟩
    refine ⟨_, rfl, (by show 5 ≤ sizeLine; decide), fun r hr' => ?_⟩
    have e1 := upd_same (H := upd (upd H c (.lst (cutV (ns.map V.int) none (some 63)))) c2 (.lst (cutV (ns.map V.int) none (some 63)))) (a := l) (o := .lst (cutV (ns.map V.int) none (some 63)))
    have lr := ne_of_none e1 hr'
    refine q r l _ ⟨ms, 0, 0, st, 0, upd_same, ?_, by decide, lr⟩ (k1.trans ((same_new nc2).trans ((same_new hl).trans (same_new hr'))))
    rw [upd_ne lr, e1, hms]
/-! ### _law_draw -/
def spDrawW : Sp := fun vs H Q _ => ∃ r l m, vs = [.ref r, .int m] ∧ 0 < m ∧ m.natAbs.log2 < 9000 ∧ Rng H r l ∧ ∀ (v : Int) H', 0 ≤ v → v < m → Rng H' r l → Kp r H H' → Q (.int v) H'
def spDraw : Sp := fun vs H Q _ => ∃ r l m, vs = [.ref r, .int m] ∧ 0 < m ∧ m < 1073741824 ∧ Rng H r l ∧ ∀ (v : Int) H', 0 ≤ v → v < m → Rng H' r l → Kp r H H' → Q (.int v) H'
theorem sc__law_draw : FnScope ["_law_rng", "_law_many", "_law_cell", "_law_digit", "_law_seed"] ["_law_rng", "_law_many"] (defScope s__law_draw) := ⟨rfl, rfl, rfl, by decide +kernel, rfl, by decide +kernel, by decide +kernel⟩
theorem ok_drawW (D : Df K mg "_law_draw" s__law_draw ["_law_rng", "_law_many"]) (bi : Bi mg) : Cal P w K mg base 1 "_law_draw" ["_law_rng", "_law_many"] spDrawW := by
  refine D.ok sc__law_draw (fun vs H Q E h => ?_) (fun f cdv A outer s H vs Q E hr h => ?_)
  · obtain ⟨r, l, m, rfl, _⟩ := h
    rfl
  obtain ⟨r, l, m, rfl, hm, hm2, ⟨ns, i, d, st, c, h1, h2, h3, h4⟩, q⟩ := h
  refine ⟨_, (pss_cons (ps_asg (pe_op op_add (pe_ix ix_list (pv 0) pe_int (fun _ _ => rfl)) pe_int) (pg_sub (pv 0) pe_int set_list))
      (C8.pss_cut (ps_if (PW.pt (pw_and (pt_cmpR op_eq (pe_ix ix_list (pv 0) pe_int (fun _ _ => rfl)) pe_int (nomark _)) (pw_and1 (pt_cmpR op_lt (pe_ix ix_list (pv 0) pe_int (fun _ _ => rfl)) (pe_callB call_len_seq (by rfl) bi.len PySem.boot_len (pa_cons (pe_ix ix_list (pv 0) pe_int (fun _ _ => rfl)) pa_nil)) (nomark _))))) (pss_cons (ps_set (i := 2) sc__law_draw.nd rfl (.inl rfl) (pe_ix ix_list (pe_ix ix_list (pv 0) pe_int (fun _ _ => rfl)) (pe_ix ix_list (pv 0) pe_int (fun _ _ => rfl)) (fun _ _ => rfl)))
      (pss_cons (ps_asg (pe_op op_add (pe_ix ix_list (pv 0) pe_int (fun _ _ => rfl)) pe_int) (pg_sub (pv 0) pe_int set_list))
      (pss_one (ps_if (pt_cmpR op_ge (pv 2) (pe_op op_pow pe_int pe_int) (nomark _)) (pss_one (ps_asg (pv 2) (pg_sub (pv 0) pe_int set_list))) (pss_one (ps_asg (pe_op op_modN (pe_callTy call_int1 (by rfl) bi.int (by decide +kernel) (pa_cons (pe_op op_add (pe_op op_add (pe_op op_mul (pe_ix ix_list (pv 0) pe_int (fun _ _ => rfl)) pe_int) (pe_op op_mul (pe_op op_modN (pe_callTy call_int1 (by rfl) bi.int (by decide +kernel) (pa_cons (pv 2) pa_nil)) pe_int) pe_int)) pe_int) pa_nil)) pe_int) (pg_sub (pv 0) pe_int set_list))))))) pss_nil)
      (pss_cons (ps_if (pt_cmpR op_gt (pe_ix ix_list (pv 0) pe_int (fun _ _ => rfl)) pe_int (nomark _)) (pss_cons (ps_set (i := 3) sc__law_draw.nd rfl (.inl rfl) (pe_op op_modN (pe_callTy call_int1 (by rfl) bi.int (by decide +kernel) (pa_cons (pe_ix ix_list (pv 0) pe_int (fun _ _ => rfl)) pa_nil)) (pv 1)))
      (pss_cons (ps_asg (pe_op op_fdivW (pe_ix ix_list (pv 0) pe_int (fun _ _ => rfl)) (pv 1)) (pg_sub (pv 0) pe_int set_list))
      (pss_one (ps_ret (pv 3))))) pss_nil)
      (pss_cons (ps_set (i := 4) sc__law_draw.nd rfl (.inl rfl) (pe_ix ix_list (pv 0) pe_int (fun _ _ => rfl)))
      (pss_cons (ps_asg (pe_op op_modN (pe_callTy call_int1 (by rfl) bi.int (by decide +kernel) (pa_cons (pe_op op_add (pe_op op_add (pe_op op_add (pe_op op_mul (pv 4) pe_int) (pe_op op_mul (pe_op op_fdivN (pv 4) pe_int) pe_int)) (pe_op op_mul (pe_ix ix_list (pv 0) pe_int (fun _ _ => rfl)) pe_int)) pe_int) pa_nil)) pe_int) (pg_sub (pv 0) pe_int set_list))
      (pss_one (ps_ret (pe_op op_modN (pe_callTy call_int1 (by rfl) bi.int (by decide +kernel) (pa_cons (pe_op op_add (pe_op op_fdivN (pe_ix ix_list (pv 0) pe_int (fun _ _ => rfl)) pe_int) (pe_op op_mul (pe_op op_modN (pe_callTy call_int1 (by rfl) bi.int (by decide +kernel) (pa_cons (pe_ix ix_list (pv 0) pe_int (fun _ _ => rfl)) pa_nil)) pe_int) pe_int)) pa_nil)) (pv 1))))))))), ?_⟩
  -- rng[4] += 1
  refine ⟨_, rfl, _, _, _, _, rfl, rfl, SqL.of h1, rfl, _, _, rfl, rfl, _, rfl, r, _, 4, 4, rfl, rfl, h1, rfl, ?_⟩
  have k1 : Kp r H (upd H r (.lst [.ref l, .int i, .int d, .int st, .int (c + 1)])) := Kp.at
  generalize e1 : upd H r (.lst (List.set [.ref l, .int i, .int d, .int st, .int c] 4 (.int (c + 1)))) = H1
  have g1 : H1 r = some (.lst [.ref l, .int i, .int d, .int st, .int (c + 1)]) := by
    rw [← e1]
    exact upd_same
  have k1 : Kp r H H1 := by
    rw [← e1]
    exact Kp.at
  have g2 := k1 _ _ h4 h2
  -- the first if: anything may stand in the three
  refine ⟨fun σ' H' => ∃ y2 i d st c, σ' = [some (.ref r), some (.int m), y2, none, none] ∧ H' r = some (.lst [.ref l, .int i, .int d, .int st, .int c]) ∧ 0 ≤ i ∧ Kp r H H', ?_, ?_⟩
  · refine ⟨_, rfl, _, _, _, _, rfl, rfl, SqL.of g1, rfl, rfl, _, rfl, ?_⟩
    refine ite2 (fun _ => ?_) (fun _ => ⟨none, i, d, st, c + 1, rfl, g1, h3, k1⟩)
    refine ⟨_, rfl, _, _, _, _, rfl, rfl, SqL.of g1, rfl, _, rfl, _, _, _, _, rfl, rfl, SqL.of g1, rfl, l, _, rfl, .inl (SqL.of g2), _, _, rfl, rfl, _, rfl, ?_⟩
    refine ite2 (fun hc => ?_) (fun _ => ⟨none, i, d, st, c + 1, rfl, g1, h3, k1⟩)
    have hc' : i < ((ns.map V.int).length : Int) := of_decide_eq_true hc
    rw [List.length_map] at hc'
    have hi : i.toNat < ns.length := by omega
    have ha : atI (ns.map V.int) i = some (.int ns[i.toNat]) := at_of (j := i.toNat) (by omega) (by rw [List.getElem?_map, List.getElem?_eq_getElem hi]; rfl)
    refine ⟨_, rfl, _, _, _, _, rfl, rfl, SqL.of g1, rfl, _, rfl, _, _, _, _, rfl, rfl, SqL.of g1, rfl, _, _, _, _, rfl, rfl, SqL.of g2, ha, ?_⟩
    refine ⟨_, rfl, _, _, _, _, rfl, rfl, SqL.of g1, rfl, _, _, rfl, rfl, _, rfl, r, _, 1, 1, rfl, rfl, g1, rfl, ?_⟩
    generalize e3 : upd H1 r (.lst (List.set [.ref l, .int i, .int d, .int st, .int (c + 1)] 1 (.int (i + 1)))) = H2
    have g3 : H2 r = some (.lst [.ref l, .int (i + 1), .int d, .int st, .int (c + 1)]) := by
      rw [← e3]
      exact upd_same
    have k3 : Kp r H H2 := by
      rw [← e3]
      exact k1.trans Kp.at
    refine ⟨_, rfl, _, _, rfl, rfl, ⟨by decide, by decide, by decide⟩, _, _, rfl, rfl, _, rfl, ?_⟩
    refine ite2 (fun _ => ?_) (fun _ => ?_)
    · refine ⟨_, rfl, _, rfl, r, _, 2, 2, rfl, rfl, g3, rfl, ?_⟩
      exact ⟨_, i + 1, _, st, c + 1, rfl, upd_same, by omega, k3.trans Kp.at⟩
    · refine ⟨_, rfl, _, _, _, _, rfl, rfl, SqL.of g3, rfl, _, _, rfl, rfl, .inr (by decide), ?_⟩
      refine ⟨_, rfl, .inl ⟨_, rfl, _, _, rfl, rfl, (show (2147483629 : Int) ≠ 0 by decide), _, _, rfl, rfl, .inr (by decide), _, _, rfl, rfl, _, _, rfl, rfl, .inl ⟨_, rfl, _, _, rfl, rfl, (show (2147483647 : Int) ≠ 0 by decide), ?_⟩⟩⟩
      refine ⟨_, rfl, r, _, 3, 3, rfl, rfl, g3, rfl, ?_⟩
      exact ⟨_, i + 1, d, _, c + 1, rfl, upd_same, by omega, k3.trans Kp.at⟩
  · rintro σ' H' ⟨y2, i, d, st, c, rfl, g1, h3, k1⟩
    refine ⟨_, rfl, _, _, _, _, rfl, rfl, SqL.of g1, rfl, _, _, rfl, rfl, _, rfl, ?_⟩
    refine ite2 (fun _ => ?_) (fun _ => ?_)
    · refine ⟨_, rfl, _, _, _, _, rfl, rfl, SqL.of g1, rfl, .inl ⟨_, rfl, _, rfl, _, _, rfl, rfl, by omega, ?_⟩⟩
      refine ⟨_, rfl, _, _, _, _, rfl, rfl, SqL.of g1, rfl, _, rfl, _, _, rfl, rfl, ⟨hm, hm2⟩, _, rfl, r, _, 2, 2, rfl, rfl, g1, rfl, ?_⟩
      refine ⟨_, rfl, q _ _ (Int.fmod_nonneg_of_pos _ hm) (Int.fmod_lt_of_pos _ hm) ?_ (k1.trans Kp.at)⟩
      exact ⟨ns, i, _, st, c, upd_same, (k1.trans Kp.at) _ _ h4 h2, h3, h4⟩
    · refine ⟨_, rfl, _, _, _, _, rfl, rfl, SqL.of g1, rfl, ?_⟩
      refine ⟨_, rfl, _, _, rfl, rfl, .inr (by decide), _, rfl, _, _, rfl, rfl, ⟨by decide, by decide⟩, _, _, rfl, rfl, .inr (by decide), _, _, rfl, rfl, _, rfl, _, _, _, _, rfl, rfl, SqL.of g1, rfl, _, _, rfl, rfl, .inr (by decide), _, _, rfl, rfl, _, _, rfl, rfl, .inl ⟨_, rfl, _, _, rfl, rfl, (show (2147483647 : Int) ≠ 0 by decide), ?_⟩⟩
      refine ⟨_, rfl, r, _, 3, 3, rfl, rfl, g1, rfl, ?_⟩
      refine ⟨_, rfl, _, _, _, _, rfl, rfl, SqL.of upd_same, rfl, _, _, rfl, rfl, ⟨by decide, by decide⟩, _, rfl, _, _, _, _, rfl, rfl, SqL.of upd_same, rfl, .inl ⟨_, rfl, _, _, rfl, rfl, (show (7919 : Int) ≠ 0 by decide), _, _, rfl, rfl, .inr (by decide), _, _, rfl, rfl, .inl ⟨_, rfl, _, rfl, _, _, rfl, rfl, by omega, ?_⟩⟩⟩
      refine q _ _ (Int.fmod_nonneg_of_pos _ hm) (Int.fmod_lt_of_pos _ hm) ?_ (k1.trans Kp.at)
      exact ⟨ns, i, _, _, c, upd_same, (k1.trans Kp.at) _ _ h4 h2, h3, h4⟩
theorem ok_draw (D : Df K mg "_law_draw" s__law_draw ["_law_rng", "_law_many"]) (bi : Bi mg) : Cal P w K mg base 1 "_law_draw" ["_law_rng", "_law_many"] spDraw := (ok_drawW D bi).imp fun vs H Q E h => by
  obtain ⟨r, l, m, e, hm, hm2, h⟩ := h
  exact ⟨r, l, m, e, hm, Nat.lt_of_lt_of_le (PySem.Flt.log2_lt_of (k := 30) (by decide) (by omega)) (by decide), h⟩
/-! ### _law_pick -/
def spPick : Sp := fun vs H Q _ => ∃ r l t xs, vs = [.ref r, .ref t] ∧ Rng H r l ∧ H t = some (.lst xs) ∧ t ≠ r ∧ 0 < xs.length ∧ xs.length ≤ 1000 ∧ ∀ (j : Nat) x H', xs[j]? = some x → Rng H' r l → Kp r H H' → Q x H'
theorem sc__law_pick : FnScope ["_law_rng", "_law_things"] ["_law_rng", "_law_things"] (defScope s__law_pick) := ⟨rfl, rfl, rfl, by decide +kernel, rfl, by decide +kernel, by decide +kernel⟩
theorem ok_pick (D : Df K mg "_law_pick" s__law_pick ["_law_rng", "_law_things"]) (bi : Bi mg) (c_law_draw : Cal P w K mg base 1 "_law_draw" ["_law_rng", "_law_many"] spDraw) : Cal P w K mg base 2 "_law_pick" ["_law_rng", "_law_things"] spPick := by
  refine D.ok sc__law_pick (fun vs H Q E h => ?_) (fun f cdv A outer s H vs Q E hr h => ?_)
  · obtain ⟨r, l, t, xs, rfl, _⟩ := h
    rfl
  obtain ⟨r, l, t, xs, rfl, g, ht, hne, h0, h1, q⟩ := h
  refine ⟨_, (pss_one (ps_ret (pe_ix ix_list (pv 1) (pe_own c_law_draw hr (by omega) (by rfl) (pa_cons (pv 0) (pa_cons (pe_callB call_len_seq (by rfl) bi.len PySem.boot_len (pa_cons (pv 1) pa_nil)) pa_nil))) (fun _ _ => rfl)))), ?_⟩
  refine ⟨_, rfl, _, rfl, _, rfl, t, xs, rfl, .inl (SqL.of ht), r, l, _, rfl, by omega, by omega, g, fun v H1 hv0 hv1 g1 k1 => ?_⟩
  have hv : v.toNat < xs.length := by omega
  exact ⟨t, xs, v, xs[v.toNat], rfl, rfl, SqL.of (k1 _ _ hne ht), at_of (j := v.toNat) (by omega) (List.getElem?_eq_getElem hv), q v.toNat _ H1 (List.getElem?_eq_getElem hv) g1 k1⟩
/-! ### _law_same of equal data -/
def spSame (K : PySem.W.Frag) : Nat → Sp
  | 0 => fun _ _ _ _ => False
  | n + 1 => fun vs H Q _ => ∃ x y d, vs = [x, y] ∧ Dp K H x d ∧ Dp K H y d ∧ Sm n d ∧ ∀ H', Same H H' → Q (.bl true) H'
theorem sc__law_same : FnScope ["_law_found", "_law_due", "_law_a", "_law_b"] ["_law_found", "_law_due"] (defScope s__law_same) := ⟨rfl, rfl, rfl, by decide +kernel, rfl, by decide +kernel, by decide +kernel⟩
theorem ok_same1 {n : Nat} (D : Df K mg "_law_same" s__law_same ["_law_found", "_law_due"]) (bi : Bi mg) (c_law_same : Cal P w K mg base n "_law_same" ["_law_found", "_law_due"] (spSame K n)) :
    Cal P w K mg base (n + 1) "_law_same" ["_law_found", "_law_due"] (spSame K (n + 1)) := by
  refine D.ok sc__law_same (fun vs H Q E h => ?_) (fun f cdv A outer s H vs Q E hr h => ?_)
  · obtain ⟨x, y, d, rfl, _⟩ := h
    rfl
  obtain ⟨x, y, d, rfl, hx, hy, hs, q⟩ := h
  refine ⟨_, (pss_cons (ps_if (PW.pt (pw_or (pt_val (pe_callB call_isi (by rfl) bi.isinstance (by decide +kernel) (pa_cons (pv 1) (pa_cons (pe_bltn (v := .ty "list") (u := .type "list") (by rfl) bi.list (by decide +kernel) rfl) pa_nil)))) (pw_or1 (pt_val (pe_callB call_isi (by rfl) bi.isinstance (by decide +kernel) (pa_cons (pv 1) (pa_cons (pe_bltn (v := .ty "tuple") (u := .type "tuple") (by rfl) bi.tuple (by decide +kernel) rfl) pa_nil))))))) (pss_cons (ps_if (PW.pt (pw_or (pt_cmpR op_ne (pe_callB call_isi (by rfl) bi.isinstance (by decide +kernel) (pa_cons (pv 0) (pa_cons (pe_bltn (v := .ty "list") (u := .type "list") (by rfl) bi.list (by decide +kernel) rfl) pa_nil))) (pe_callB call_isi (by rfl) bi.isinstance (by decide +kernel) (pa_cons (pv 1) (pa_cons (pe_bltn (v := .ty "list") (u := .type "list") (by rfl) bi.list (by decide +kernel) rfl) pa_nil))) (nomark _)) (pw_or1 (pt_cmpR op_ne (pe_callB call_isi (by rfl) bi.isinstance (by decide +kernel) (pa_cons (pv 0) (pa_cons (pe_bltn (v := .ty "tuple") (u := .type "tuple") (by rfl) bi.tuple (by decide +kernel) rfl) pa_nil))) (pe_callB call_isi (by rfl) bi.isinstance (by decide +kernel) (pa_cons (pv 1) (pa_cons (pe_bltn (v := .ty "tuple") (u := .type "tuple") (by rfl) bi.tuple (by decide +kernel) rfl) pa_nil))) (nomark _))))) (pss_one (ps_ret pe_bl)) pss_nil)
      (pss_one (ps_ret (pe_and (pe_cmpR op_eq (pe_callB call_len_seq (by rfl) bi.len PySem.boot_len (pa_cons (pv 0) pa_nil)) (pe_callB call_len_seq (by rfl) bi.len PySem.boot_len (pa_cons (pv 1) pa_nil)) (nomark _)) (pe_one (pe_callB (cr_all rfl) (by rfl) bi.all (by decide +kernel) (pa_cons (pe_lc (own := [("_law_a", 2), ("_law_b", 3)]) (g := gTup K 2 (gCons (gName 2) (gCons (gName 3) gNil))) (tt := tYes) rfl sc__law_same.nd (RZ.pi_zipA (by rfl) bi.zip (pa_cons (pv 0) (pa_cons (pv 1) pa_nil))) (blkOk_by (N := ["_law_found", "_law_due", "_law_a", "_law_b"]) (sc := defScope s__law_same) (by decide +kernel)) (fun _ _ _ _ _ => (pg_tup rfl (pgs_cons (pg_name (i := 2) sc__law_same.nd rfl (.inl rfl)) (pgs_cons (pg_name (i := 3) sc__law_same.nd rfl (.inl rfl)) pgs_nil)))) (fun _ _ _ _ _ => pts_nil) (fun _ _ _ _ _ => (pe_own c_law_same hr (by omega) (by rfl) (pa_cons (pv 2) (pa_cons (pv 3) pa_nil))))) pa_nil))))))) pss_nil)
      (pss_cons (ps_if (PW.pt (pw_or (pt_cmpR op_isN (pv 1) pe_non (nomark _)) (pw_or1 (pt_cmpR op_isN (pv 0) pe_non (nomark _))))) (pss_one (ps_ret (pe_and (pe_cmpR op_isN (pv 1) pe_non (nomark _)) (pe_one (pe_cmpR op_isN (pv 0) pe_non (nomark _)))))) pss_nil)
      (pss_cons (ps_if (PW.pt (pw_or (pt_cmpR op_ne (pe_callB call_isi (by rfl) bi.isinstance (by decide +kernel) (pa_cons (pv 1) (pa_cons (pe_bltn (v := .ty "bool") (u := .type "bool") (by rfl) bi.bool (by decide +kernel) rfl) pa_nil))) (pe_callB call_isi (by rfl) bi.isinstance (by decide +kernel) (pa_cons (pv 0) (pa_cons (pe_bltn (v := .ty "bool") (u := .type "bool") (by rfl) bi.bool (by decide +kernel) rfl) pa_nil))) (nomark _)) (pw_or1 (pt_cmpR op_ne (pe_callB call_isi (by rfl) bi.isinstance (by decide +kernel) (pa_cons (pv 1) (pa_cons (pe_bltn (v := .ty "int") (u := .type "int") (by rfl) bi.int (by decide +kernel) rfl) pa_nil))) (pe_callB call_isi (by rfl) bi.isinstance (by decide +kernel) (pa_cons (pv 0) (pa_cons (pe_bltn (v := .ty "int") (u := .type "int") (by rfl) bi.int (by decide +kernel) rfl) pa_nil))) (nomark _))))) (pss_one (ps_ret pe_bl)) pss_nil)
      (pss_one (ps_ret (pe_and (pe_cmpR op_eq (pe_callB call_isi (by rfl) bi.isinstance (by decide +kernel) (pa_cons (pv 1) (pa_cons (pe_bltn (v := .ty "str") (u := .type "str") (by rfl) bi.str (by decide +kernel) rfl) pa_nil))) (pe_callB call_isi (by rfl) bi.isinstance (by decide +kernel) (pa_cons (pv 0) (pa_cons (pe_bltn (v := .ty "str") (u := .type "str") (by rfl) bi.str (by decide +kernel) rfl) pa_nil))) (nomark _)) (pe_one (pe_cmpR op_eq (pv 0) (pv 1) (nomark _))))))))), ?_⟩
  have q0 := q H (fun _ _ e => e)
  cases d with
  | none =>
    cases hx
    cases hy
    refine ⟨_, rfl, _, _, _, _, false, rfl, .ty _, .base .non, kit_ty (by decide +kernel), _, rfl, ?_⟩
    refine ⟨_, rfl, _, _, _, _, false, rfl, .ty _, .base .non, kit_ty (by decide +kernel), _, rfl, ?_⟩
    refine ⟨_, rfl, rfl, _, rfl, ?_⟩
    refine ⟨_, rfl, rfl, _, rfl, ?_⟩
    exact ⟨_, rfl, rfl, q0⟩
  | bool b =>
    cases hx
    cases hy
    refine ⟨_, rfl, _, _, _, _, false, rfl, .ty _, .base (.bl b), kit_ty (by decide +kernel), _, rfl, ?_⟩
    refine ⟨_, rfl, _, _, _, _, false, rfl, .ty _, .base (.bl b), kit_ty (by decide +kernel), _, rfl, ?_⟩
    refine ⟨_, rfl, rfl, _, rfl, ?_⟩
    refine ⟨_, rfl, rfl, _, rfl, ?_⟩
    refine ⟨_, rfl, _, _, _, _, true, rfl, .ty _, .base (.bl b), kit_ty (by decide +kernel), _, rfl, _, _, _, _, true, rfl, .ty _, .base (.bl b), kit_ty (by decide +kernel), rfl, _, rfl, ?_⟩
    refine ⟨_, rfl, _, _, _, _, true, rfl, .ty _, .base (.bl b), kit_ty (by decide +kernel), _, rfl, _, _, _, _, true, rfl, .ty _, .base (.bl b), kit_ty (by decide +kernel), rfl, _, rfl, ?_⟩
    refine ⟨_, rfl, _, _, _, _, false, rfl, .ty _, .base (.bl b), kit_ty (by decide +kernel), _, rfl, _, _, _, _, false, rfl, .ty _, .base (.bl b), kit_ty (by decide +kernel), rfl, _, rfl, ?_⟩
    refine ⟨_, rfl, _, rfl, rfl, ?_⟩
    rw [decide_eq_true rfl]
    exact q0
  | int i =>
    cases hx
    cases hy
    refine ⟨_, rfl, _, _, _, _, false, rfl, .ty _, .base (.int i), kit_ty (by decide +kernel), _, rfl, ?_⟩
    refine ⟨_, rfl, _, _, _, _, false, rfl, .ty _, .base (.int i), kit_ty (by decide +kernel), _, rfl, ?_⟩
    refine ⟨_, rfl, rfl, _, rfl, ?_⟩
    refine ⟨_, rfl, rfl, _, rfl, ?_⟩
    refine ⟨_, rfl, _, _, _, _, false, rfl, .ty _, .base (.int i), kit_ty (by decide +kernel), _, rfl, _, _, _, _, false, rfl, .ty _, .base (.int i), kit_ty (by decide +kernel), rfl, _, rfl, ?_⟩
    refine ⟨_, rfl, _, _, _, _, true, rfl, .ty _, .base (.int i), kit_ty (by decide +kernel), _, rfl, _, _, _, _, true, rfl, .ty _, .base (.int i), kit_ty (by decide +kernel), rfl, _, rfl, ?_⟩
    refine ⟨_, rfl, _, _, _, _, false, rfl, .ty _, .base (.int i), kit_ty (by decide +kernel), _, rfl, _, _, _, _, false, rfl, .ty _, .base (.int i), kit_ty (by decide +kernel), rfl, _, rfl, ?_⟩
    refine ⟨_, rfl, _, rfl, rfl, ?_⟩
    rw [decide_eq_true rfl]
    exact q0
  | str z =>
    cases hx
    cases hy
    refine ⟨_, rfl, _, _, _, _, false, rfl, .ty _, .base (.str z), kit_ty (by decide +kernel), _, rfl, ?_⟩
    refine ⟨_, rfl, _, _, _, _, false, rfl, .ty _, .base (.str z), kit_ty (by decide +kernel), _, rfl, ?_⟩
    refine ⟨_, rfl, rfl, _, rfl, ?_⟩
    refine ⟨_, rfl, rfl, _, rfl, ?_⟩
    refine ⟨_, rfl, _, _, _, _, false, rfl, .ty _, .base (.str z), kit_ty (by decide +kernel), _, rfl, _, _, _, _, false, rfl, .ty _, .base (.str z), kit_ty (by decide +kernel), rfl, _, rfl, ?_⟩
    refine ⟨_, rfl, _, _, _, _, false, rfl, .ty _, .base (.str z), kit_ty (by decide +kernel), _, rfl, _, _, _, _, false, rfl, .ty _, .base (.str z), kit_ty (by decide +kernel), rfl, _, rfl, ?_⟩
    refine ⟨_, rfl, _, _, _, _, true, rfl, .ty _, .base (.str z), kit_ty (by decide +kernel), _, rfl, _, _, _, _, true, rfl, .ty _, .base (.str z), kit_ty (by decide +kernel), rfl, _, rfl, ?_⟩
    refine ⟨_, rfl, _, rfl, rfl, ?_⟩
    rw [decide_eq_true rfl]
    exact q0
  | list ds =>
    cases hx with | lst sx ax => ?_
    cases hy with | lst sy ay => ?_
    rename_i a xs b ys
    have lx := DpAll.length ax
    have ly := DpAll.length ay
    cases n with
    | zero => exact hs.elim
    | succ m =>
    unfold Sm at hs
    refine ⟨_, rfl, _, _, _, _, true, rfl, .ty _, SqL.ty sy, kit_ty (by decide +kernel), _, rfl, ?_⟩
    
    refine ⟨_, rfl, _, _, _, _, true, rfl, .ty _, SqL.ty sx, kit_ty (by decide +kernel), _, rfl, _, _, _, _, true, rfl, .ty _, SqL.ty sy, kit_ty (by decide +kernel), rfl, _, rfl, ?_⟩
    refine ⟨_, rfl, _, _, _, _, false, rfl, .ty _, SqL.ty sx, kit_ty (by decide +kernel), _, rfl, _, _, _, _, false, rfl, .ty _, SqL.ty sy, kit_ty (by decide +kernel), rfl, _, rfl, ?_⟩
    refine ⟨_, rfl, _, _, rfl, .inl sx, _, rfl, _, _, rfl, .inl sy, rfl, _, rfl, ite2 (fun _ => ?_) (fun ne => absurd (by rw [lx, ly]; exact decide_eq_true rfl) ne)⟩
    refine ⟨_, rfl, _, rfl, a, b, xs, ys, rfl, .inl ⟨sx, sy, fun Dd hD => ?_⟩⟩
    refine lcz (n := min xs.length ys.length) (walk_zip rfl) (by decide) (fun i H2 => H2 Dd = some (.lst ((List.replicate i true).map V.bl)) ∧ Same H H2) ?_ ?_ ?_ ?_
    · exact ⟨upd_same, same_new hD⟩
    · rintro i H2 _ ⟨_, s2⟩
      exact ⟨s2.seq sx, s2.seq sy⟩
    · rintro i x y T H2 hi e1 e2 ⟨hA, s2⟩ hT
      obtain ⟨d1, g1, h1⟩ := DpAll.get ax e1
      obtain ⟨d2, g2, h2⟩ := DpAll.get ay e2
      have e := Option.some.inj (g1.symm.trans g2)
      subst e
      have s3 : Same H (upd H2 T (.tup [x, y])) := s2.trans (same_new hT)
      refine ⟨_, rfl, _, rfl, _, _, d1, rfl, Dp.same s3 _ h1, Dp.same s3 _ h2, hs.2 d1 (List.mem_of_getElem? g1), fun H4 s4 => ?_⟩
      have hA4 := s4 _ _ (same_new hT _ _ hA)
      refine ⟨_, hA4, ?_, ?_, ?_⟩
      · rw [List.length_map, List.length_replicate]
        exact Nat.lt_of_le_of_lt (show i ≤ 1000 by omega) (by decide)
      · rw [upd_same, rep_snoc]
      · intro b o hb
        rw [upd_ne (ne_of_none hb hD)]
        exact s4 _ _ (s3 _ _ hb)
    · rintro H2 ⟨hA, s2⟩
      refine ⟨Dd, _, rfl, SqL.of hA, ?_⟩
      rw [all_true]
      exact q H2 s2
  | tuple ds =>
    cases hx with | tup sx ax => ?_
    cases hy with | tup sy ay => ?_
    rename_i a xs b ys
    have lx := DpAll.length ax
    have ly := DpAll.length ay
    cases n with
    | zero => exact hs.elim
    | succ m =>
    unfold Sm at hs
    refine ⟨_, rfl, _, _, _, _, false, rfl, .ty _, SqT.ty sy, kit_ty (by decide +kernel), _, rfl, ?_⟩
    refine ⟨_, rfl, _, _, _, _, true, rfl, .ty _, SqT.ty sy, kit_ty (by decide +kernel), _, rfl, ?_⟩
    refine ⟨_, rfl, _, _, _, _, false, rfl, .ty _, SqT.ty sx, kit_ty (by decide +kernel), _, rfl, _, _, _, _, false, rfl, .ty _, SqT.ty sy, kit_ty (by decide +kernel), rfl, _, rfl, ?_⟩
    refine ⟨_, rfl, _, _, _, _, true, rfl, .ty _, SqT.ty sx, kit_ty (by decide +kernel), _, rfl, _, _, _, _, true, rfl, .ty _, SqT.ty sy, kit_ty (by decide +kernel), rfl, _, rfl, ?_⟩
    refine ⟨_, rfl, _, _, rfl, .inr sx, _, rfl, _, _, rfl, .inr sy, rfl, _, rfl, ite2 (fun _ => ?_) (fun ne => absurd (by rw [lx, ly]; exact decide_eq_true rfl) ne)⟩
    refine ⟨_, rfl, _, rfl, a, b, xs, ys, rfl, .inr ⟨sx, sy, fun Dd hD => ?_⟩⟩
    refine lcz (n := min xs.length ys.length) (walk_zipT rfl) (by decide) (fun i H2 => H2 Dd = some (.lst ((List.replicate i true).map V.bl)) ∧ Same H H2) ?_ ?_ ?_ ?_
    · exact ⟨upd_same, same_new hD⟩
    · rintro i H2 _ ⟨_, s2⟩
      exact ⟨(tp_same s2).sq sx, (tp_same s2).sq sy⟩
    · rintro i x y T H2 hi e1 e2 ⟨hA, s2⟩ hT
      obtain ⟨d1, g1, h1⟩ := DpAll.get ax e1
      obtain ⟨d2, g2, h2⟩ := DpAll.get ay e2
      have e := Option.some.inj (g1.symm.trans g2)
      subst e
      have s3 : Same H (upd H2 T (.tup [x, y])) := s2.trans (same_new hT)
      refine ⟨_, rfl, _, rfl, _, _, d1, rfl, Dp.same s3 _ h1, Dp.same s3 _ h2, hs.2 d1 (List.mem_of_getElem? g1), fun H4 s4 => ?_⟩
      have hA4 := s4 _ _ (same_new hT _ _ hA)
      refine ⟨_, hA4, ?_, ?_, ?_⟩
      · rw [List.length_map, List.length_replicate]
        exact Nat.lt_of_le_of_lt (show i ≤ 1000 by omega) (by decide)
      · rw [upd_same, rep_snoc]
      · intro b o hb
        rw [upd_ne (ne_of_none hb hD)]
        exact s4 _ _ (s3 _ _ hb)
    · rintro H2 ⟨hA, s2⟩
      refine ⟨Dd, _, rfl, SqL.of hA, ?_⟩
      rw [all_true]
      exact q H2 s2
  | dict ds => cases hx
theorem ok_same (D : Df K mg "_law_same" s__law_same ["_law_found", "_law_due"]) (bi : Bi mg) : ∀ n : Nat, Cal P w K mg base n "_law_same" ["_law_found", "_law_due"] (spSame K n)
  | 0 => D.no fun vs H Q E h => h.elim
  | n + 1 => ok_same1 D bi (ok_same D bi n)
/-! ### _law_name -/
/-- texts of one lowercase letter -/
def Ltrs (ys : List Str) : Prop := ∀ y ∈ ys, ∃ c, y = ⟨#[c]⟩ ∧ 97 ≤ c ∧ c ≤ 122
theorem join_fold : ∀ (ys : List Str) (acc : Array Nat), Ltrs ys → (∀ x ∈ acc.toList, 97 ≤ x ∧ x ≤ 122) →
    (ys.foldl (fun (a : Array Nat) (p : Str) => a ++ (⟨#[]⟩ : Str).cps ++ p.cps) acc).size = acc.size + ys.length ∧ ∀ x ∈ (ys.foldl (fun (a : Array Nat) (p : Str) => a ++ (⟨#[]⟩ : Str).cps ++ p.cps) acc).toList, 97 ≤ x ∧ x ≤ 122
  | [], acc, _, h => ⟨rfl, h⟩
  | y :: r, acc, hy, h => by
    obtain ⟨c, e, h1, h2⟩ := hy y (List.mem_cons_self ..)
    have ih := join_fold r (acc ++ (⟨#[]⟩ : Str).cps ++ y.cps) (fun z hz => hy z (List.mem_cons_of_mem _ hz)) (fun x hx => by
      rw [e] at hx
      simp at hx
      rcases hx with hx | hx
      · exact h x (Array.mem_toList_iff.mpr hx)
      · rw [hx]; exact ⟨h1, h2⟩)
    rw [List.foldl_cons]
    refine ⟨?_, ih.2⟩
    rw [ih.1, e, List.length_cons]
    simp
    omega
theorem join_name {ys : List Str} (h : Ltrs ys) (h1 : 1 ≤ ys.length) (h8 : ys.length ≤ 8) : NmOk (Txt.join ⟨#[]⟩ ys) := by
  cases ys with
  | nil => simp at h1
  | cons y r =>
    obtain ⟨c, e, c1, c2⟩ := h y (List.mem_cons_self ..)
    have ih := join_fold r y.cps (fun z hz => h z (List.mem_cons_of_mem _ hz)) (fun x hx => by
      rw [e] at hx
      simp at hx
      rw [hx]
      exact ⟨c1, c2⟩)
    have es : y.cps.size = 1 := by rw [e]; rfl
    have ej : Txt.join ⟨#[]⟩ (y :: r) = ⟨r.foldl (fun (a : Array Nat) (p : Str) => a ++ (⟨#[]⟩ : Str).cps ++ p.cps) y.cps⟩ := rfl
    rw [ej]
    rw [List.length_cons] at h8
    refine ⟨?_, ?_, ih.2⟩
    · show 1 ≤ Array.size _
      rw [ih.1, es]
      omega
    · show Array.size _ ≤ 8
      rw [ih.1, es]
      omega
def spName : Sp := fun vs H Q _ => ∃ r l, vs = [.ref r] ∧ Rng H r l ∧ ∀ c H', NmOk c → Rng H' r l → Kp r H H' → Q (.str c) H'
theorem abc26 {i : Nat} (h : i < 26) : ∃ c, (Str.ofString "abcdefghijklmnopqrstuvwxyz").cps.toList[i]? = some c ∧ 97 ≤ c ∧ c ≤ 122 := by
  have key : ((List.range 26).all fun i => match (Str.ofString "abcdefghijklmnopqrstuvwxyz").cps.toList[i]? with | some c => decide (97 ≤ c ∧ c ≤ 122) | none => false) = true := by decide +kernel
  have := List.all_eq_true.mp key i (List.mem_range.mpr h)
  split at this
  · rename_i c e
    have := of_decide_eq_true this
    exact ⟨c, e, this.1, this.2⟩
  · cases this
theorem lens_le {ys : List Str} (h : Ltrs ys) : (ys.map (·.length)).sum ≤ ys.length := by
  induction ys with
  | nil => simp
  | cons y r ih =>
    obtain ⟨c, e, _, _⟩ := h y (List.mem_cons_self ..)
    have := ih fun z hz => h z (List.mem_cons_of_mem _ hz)
    rw [List.map_cons, List.sum_cons, List.length_cons, e]
    have e1 : (⟨#[c]⟩ : Str).length = 1 := rfl
    rw [e1]
    omega
theorem sc__law_name : FnScope ["_law_rng", "_law_letters", "_law_k"] ["_law_rng"] (defScope s__law_name) := ⟨rfl, rfl, rfl, by decide +kernel, rfl, by decide +kernel, by decide +kernel⟩
theorem ok_name (D : Df K mg "_law_name" s__law_name ["_law_rng"]) (bi : Bi mg) (c_law_draw : Cal P w K mg base 1 "_law_draw" ["_law_rng", "_law_many"] spDraw) : Cal P w K mg base 2 "_law_name" ["_law_rng"] spName := by
  refine D.ok sc__law_name (fun vs H Q E h => ?_) (fun f cdv A outer s H vs Q E hr h => ?_)
  · obtain ⟨r, l, rfl, _⟩ := h
    rfl
  obtain ⟨r, l, rfl, g, q⟩ := h
  refine ⟨_, (pss_cons (ps_set (i := 1) sc__law_name.nd rfl (.inr rfl) pe_str)
      (pss_one (ps_ret (pe_bm PySem.F.plainAttrs_str PySem.F.slot_str_join PySem.F.type_str_join mt_join pe_str (pa_cons (pe_lc (own := [("_law_k", 2)]) (g := gName 2) (tt := tYes) rfl sc__law_name.nd (pi_range1 (by rfl) bi.range (pa_cons (pe_op op_add pe_int (pe_own c_law_draw hr (by omega) (by rfl) (pa_cons (pv 0) (pa_cons pe_int pa_nil)))) pa_nil)) (blkOk_by (N := ["_law_rng", "_law_letters", "_law_k"]) (sc := defScope s__law_name) (by decide +kernel)) (fun _ _ _ _ _ => (pg_name (i := 2) sc__law_name.nd rfl (.inl rfl))) (fun _ _ _ _ _ => pts_nil) (fun _ _ _ _ _ => (pe_ix ix_str (pv 1) (pe_own c_law_draw hr (by omega) (by rfl) (pa_cons (pv 0) (pa_cons pe_int pa_nil))) (fun _ _ => rfl)))) pa_nil))))), ?_⟩
  refine ⟨rfl, _, rfl, r, l, _, rfl, by decide, by decide, g, fun v H1 v0 v1 g1 k1 => ?_⟩
  have v1' : v < 8 := v1
  refine ⟨_, _, rfl, rfl, _, rfl, by omega, by omega, fun Dd hD => ?_⟩
  obtain ⟨z1, hz1⟩ := g1.lst
  obtain ⟨zl1, hzl1⟩ := g1.some_l
  have Dr : Dd ≠ r := (ne_of_none hz1 hD).symm
  have Dl : Dd ≠ l := (ne_of_none hzl1 hD).symm
  refine lcr (lo := 0) (n := (1 + v).toNat) (fun i H3 => ∃ ys : List Str, H3 Dd = some (.lst (ys.map V.str)) ∧ ys.length = i ∧ Ltrs ys ∧ Rng H3 r l ∧ Kp r H1 H3) ?_ ?_ ?_
  · exact ⟨[], upd_same, rfl, fun y h => (List.not_mem_nil h).elim, g1.new hD, Kp.new hD⟩
  · rintro i H3 hi ⟨ys, hA, hl, hy, g3, k3⟩
    refine ⟨_, rfl, _, rfl, r, l, _, rfl, by decide, by decide, g3, fun u H4 u0 u1 g4 k4 => ?_⟩
    have u1' : u < 26 := u1
    obtain ⟨c, ec, c1, c2⟩ := abc26 (i := u.toNat) (by omega)
    refine ⟨_, u, c, rfl, rfl, (by decide), at_ofN (j := u.toNat) (show u = ((u.toNat : Nat) : Int) by omega) ec, ?_⟩
    refine ⟨_, k4 _ _ Dr hA, ?_, ys ++ [⟨#[c]⟩], ?_, ?_, ?_, ?_, ?_⟩
    · rw [List.length_map]
      exact Nat.lt_of_le_of_lt (show ys.length ≤ 100 by omega) (by decide)
    · rw [upd_same, List.map_append]
      rfl
    · rw [List.length_append, hl]
      rfl
    · intro y hm
      rcases List.mem_append.mp hm with h | h
      · exact hy y h
      · exact ⟨c, List.mem_singleton.mp h, c1, c2⟩
    · exact g4.of (fun o h => by rw [upd_ne Dr.symm]; exact h) (fun o h => by rw [upd_ne Dl.symm]; exact h)
    · intro b o n1 hb
      rw [upd_ne (ne_of_none hb hD)]
      exact k4 b o n1 (k3 b o n1 hb)
  · rintro H3 ⟨ys, hA, hl, hy, g3, k3⟩
    refine ⟨_, Dd, ys, rfl, rfl, .inl (SqL.of hA), ?_, q _ H3 (join_name hy (by omega) (by omega)) g3 (k1.trans k3)⟩
    have := lens_le hy
    have e0 : (Str.ofString "").length = 0 := by decide +kernel
    rw [e0, Nat.mul_zero]
    omega
/-! ### _law_any_formula -/
theorem pick3 {a b c : Str} {j : Nat} {x : V} (e : [V.str a, .str b, .str c][j]? = some x) : ∃ z, x = .str z ∧ z ∈ [a, b, c] := by
  match j, e with
  | 0, e => cases e; exact ⟨_, rfl, by simp⟩
  | 1, e => cases e; exact ⟨_, rfl, by simp⟩
  | 2, e => cases e; exact ⟨_, rfl, by simp⟩
theorem pick2 {a b : Str} {j : Nat} {x : V} (e : [V.str a, .str b][j]? = some x) : ∃ z, x = .str z ∧ (z = a ∨ z = b) := by
  match j, e with
  | 0, e => cases e; exact ⟨_, rfl, .inl rfl⟩
  | 1, e => cases e; exact ⟨_, rfl, .inr rfl⟩
theorem pick6 {a b c d e' f : Str} {j : Nat} {x : V} (e : [V.str a, .str b, .str c, .str d, .str e', .str f][j]? = some x) : ∃ z, x = .str z ∧ z ∈ [a, b, c, d, e', f] := by
  match j, e with
  | 0, e => cases e; exact ⟨_, rfl, by simp⟩
  | 1, e => cases e; exact ⟨_, rfl, by simp⟩
  | 2, e => cases e; exact ⟨_, rfl, by simp⟩
  | 3, e => cases e; exact ⟨_, rfl, by simp⟩
  | 4, e => cases e; exact ⟨_, rfl, by simp⟩
  | 5, e => cases e; exact ⟨_, rfl, by simp⟩
def spAnyF (K : PySem.W.Frag) (d : Nat) : Sp := fun vs H Q _ => ∃ r l k a e, vs = [.ref r, .ref k, .int e] ∧ e = (d : Int) ∧ 1 ≤ d ∧ Rng H r l ∧ H k = some (.lst [.int a]) ∧ k ≠ r ∧ k ≠ l ∧
  ∀ v t a' H', FV K H' v t → t.Ok → t.dep ≤ d → Rng H' r l → H' k = some (.lst [.int a']) → Kp2 r k H H' → Q v H'
theorem sc__law_any_formula : FnScope ["_law_rng", "_law_kit", "_law_deep", "_law_way", "_law_variable", "_law_first", "_law_kind", "_law_one", "_law_other"] ["_law_rng", "_law_kit", "_law_deep"] (defScope s__law_any_formula) := ⟨rfl, rfl, rfl, by decide +kernel, rfl, by decide +kernel, by decide +kernel⟩
theorem ok_any1 {n : Nat} (D : Df K mg "_law_any_formula" s__law_any_formula ["_law_rng", "_law_kit", "_law_deep"]) (bi : Bi mg) (c_law_draw : Cal P w K mg base 1 "_law_draw" ["_law_rng", "_law_many"] spDraw) (c_law_pick : Cal P w K mg base 2 "_law_pick" ["_law_rng", "_law_things"] spPick) (c_law_name : Cal P w K mg base 2 "_law_name" ["_law_rng"] spName)
    (c_law_any_formula : Cal P w K mg base (n + 2) "_law_any_formula" ["_law_rng", "_law_kit", "_law_deep"] (spAnyF K n)) : Cal P w K mg base (n + 3) "_law_any_formula" ["_law_rng", "_law_kit", "_law_deep"] (spAnyF K (n + 1)) := by
  refine D.ok sc__law_any_formula (fun vs H Q E h => ?_) (fun f cdv A outer s H vs Q E hr h => ?_)
  · obtain ⟨r, l, k, a, e, rfl, _⟩ := h
    rfl
  obtain ⟨r, l, k, a, e, rfl, he, hd, g, hk, kr, kl, q⟩ := h
  refine ⟨_, (C8.pss_cut (ps_set (i := 3) sc__law_any_formula.nd rfl (.inl rfl) (pe_ifExp (pt_cmpR op_gt (pv 2) pe_int (nomark _)) (pe_own c_law_draw hr (by omega) (by rfl) (pa_cons (pv 0) (pa_cons pe_int pa_nil))) pe_int))
      (pss_cons (ps_if (pt_cmpR op_lt (pv 3) pe_int (nomark _)) (pss_cons (ps_set (i := 4) sc__law_any_formula.nd rfl (.inl rfl) (pe_own c_law_pick hr (by omega) (by rfl) (pa_cons (pv 0) (pa_cons (pe_lst (pa_cons pe_str (pa_cons pe_str (pa_cons pe_str (pa_cons pe_str (pa_cons pe_str (pa_cons pe_str pa_nil))))))) pa_nil))))
      (pss_one (ps_ret (pe_tup (pa_cons (pe_own c_law_pick hr (by omega) (by rfl) (pa_cons (pv 0) (pa_cons (pe_lst (pa_cons pe_str (pa_cons pe_str pa_nil))) pa_nil))) (pa_cons (pv 4) (pa_cons (pe_own c_law_any_formula hr (by omega) (by rfl) (pa_cons (pv 0) (pa_cons (pv 1) (pa_cons (pe_op op_sub (pv 2) pe_int) pa_nil)))) pa_nil))))))) pss_nil)
      (C8.pss_cut (ps_if (PW.pt (pw_and (pt_cmpR op_lt (pv 3) pe_int (nomark _)) (pw_and1 (pt_cmpR op_gt (pe_ix ix_list (pv 1) pe_int (fun _ _ => rfl)) pe_int (nomark _))))) (pss_cons (ps_asg (pe_op op_sub (pe_ix ix_list (pv 1) pe_int (fun _ _ => rfl)) pe_int) (pg_sub (pv 1) pe_int set_list))
      (pss_cons (ps_set (i := 5) sc__law_any_formula.nd rfl (.inl rfl) (pe_own c_law_any_formula hr (by omega) (by rfl) (pa_cons (pv 0) (pa_cons (pv 1) (pa_cons (pe_op op_sub (pv 2) pe_int) pa_nil)))))
      (pss_one (ps_ret (pe_tup (pa_cons (pe_own c_law_pick hr (by omega) (by rfl) (pa_cons (pv 0) (pa_cons (pe_lst (pa_cons pe_str (pa_cons pe_str pa_nil))) pa_nil))) (pa_cons (pv 5) (pa_cons (pe_own c_law_any_formula hr (by omega) (by rfl) (pa_cons (pv 0) (pa_cons (pv 1) (pa_cons (pe_op op_sub (pv 2) pe_int) pa_nil)))) pa_nil)))))))) pss_nil)
      (pss_cons (ps_if (pt_cmpR op_lt (pv 3) pe_int (nomark _)) (pss_one (ps_ret (pe_tup (pa_cons pe_str (pa_cons (pe_own c_law_any_formula hr (by omega) (by rfl) (pa_cons (pv 0) (pa_cons (pv 1) (pa_cons (pe_op op_sub (pv 2) pe_int) pa_nil)))) pa_nil))))) pss_nil)
      (pss_cons (ps_set (i := 6) sc__law_any_formula.nd rfl (.inl rfl) (pe_own c_law_draw hr (by omega) (by rfl) (pa_cons (pv 0) (pa_cons pe_int pa_nil))))
      (pss_cons (ps_par (i := 7) (j := 8) rfl sc__law_any_formula.nd rfl rfl (by decide) rfl rfl (pa_cons (pe_own c_law_pick hr (by omega) (by rfl) (pa_cons (pv 0) (pa_cons (pe_lst (pa_cons pe_str (pa_cons pe_str (pa_cons pe_str pa_nil)))) pa_nil))) (pa_cons (pe_own c_law_pick hr (by omega) (by rfl) (pa_cons (pv 0) (pa_cons (pe_lst (pa_cons pe_str (pa_cons pe_str (pa_cons pe_str pa_nil)))) pa_nil))) pa_nil)) (by rfl))
      (pss_cons (ps_if (pt_cmpR op_eq (pv 6) pe_int (nomark _)) (pss_one (ps_ret (pe_tup (pa_cons pe_str (pa_cons (pe_own c_law_pick hr (by omega) (by rfl) (pa_cons (pv 0) (pa_cons (pe_lst (pa_cons pe_str (pa_cons pe_str (pa_cons pe_str pa_nil)))) pa_nil))) (pa_cons (pv 7) pa_nil)))))) pss_nil)
      (pss_cons (ps_if (pt_cmpR op_eq (pv 6) pe_int (nomark _)) (pss_one (ps_ret (pe_tup (pa_cons pe_str (pa_cons (pv 7) (pa_cons (pe_own c_law_pick hr (by omega) (by rfl) (pa_cons (pv 0) (pa_cons (pe_lst (pa_cons pe_str (pa_cons pe_str (pa_cons pe_str pa_nil)))) pa_nil))) pa_nil)))))) pss_nil)
      (pss_cons (ps_if (pt_cmpR op_eq (pv 6) pe_int (nomark _)) (pss_one (ps_ret (pe_tup (pa_cons pe_str (pa_cons (pe_own c_law_name hr (by omega) (by rfl) (pa_cons (pv 0) pa_nil)) pa_nil))))) pss_nil)
      (pss_one (ps_ret (pe_tup (pa_cons (pe_ix ix_list (pe_lst (pa_cons pe_str (pa_cons pe_str (pa_cons pe_str pa_nil)))) (pe_op op_sub (pv 6) pe_int) (fun _ _ => rfl)) (pa_cons (pv 7) (pa_cons (pv 8) pa_nil))))))))))))))), ?_⟩
  -- the way
  refine ⟨fun σ' H1 => ∃ way : Int, σ' = [some (.ref r), some (.ref k), some (.int e), some (.int way), none, none, none, none, none] ∧ 0 ≤ way ∧ (way = 8 ∨ (way < 9 ∧ 1 ≤ n)) ∧ Rng H1 r l ∧ Kp r H H1, ?_, ?_⟩
  · refine ⟨_, rfl, _, _, rfl, rfl, _, rfl, ite2 (fun hc => ?_) (fun _ => ?_)⟩
    · have hc' : e > 1 := of_decide_eq_true hc
      refine ⟨_, rfl, r, l, _, rfl, by decide, by decide, g, fun v H1 hv0 hv1 g1 k1 => ?_⟩
      exact ⟨v, rfl, hv0, .inr ⟨hv1, by omega⟩, g1, k1⟩
    · exact ⟨8, rfl, by decide, .inl rfl, g, Kp.refl r H⟩
  rintro σ' H1 ⟨way, rfl, w0, w1, g1, k1⟩
  have hk1 : H1 k = some (.lst [.int a]) := k1 _ _ kr hk
  have en : e - 1 = (n : Int) := by omega
  -- what is picked among texts
  have pk : ∀ {H2 : Hp} {a2 : Int} {xs : List V} {Q2 : VK}, Rng H2 r l → H2 k = some (.lst [.int a2]) → 0 < xs.length → xs.length ≤ 1000 → (∀ (j : Nat) x H', xs[j]? = some x → Rng H' r l → H' k = some (.lst [.int a2]) → Kp r H2 H' → Q2 x H') →
      ∀ p, H2 p = none → spPick [.ref r, .ref p] (upd H2 p (.lst xs)) Q2 E0 := by
    intro H2 a2 xs Q2 g2 hk2 h0 h1 hq p hp
    obtain ⟨z2, hz2⟩ := g2.lst
    refine ⟨r, l, p, xs, rfl, g2.new hp, upd_same, (ne_of_none hz2 hp).symm, h0, h1, fun j x H' e g' k' => ?_⟩
    exact hq j x H' e g' (k' _ _ kr (by rw [upd_ne (ne_of_none hk2 hp)]; exact hk2)) ((Kp.new hp).trans k')
  have lt : ∀ {b : Bool}, ¬ b = true → b = false := fun h => Bool.eq_false_iff.mpr h
  refine ⟨_, rfl, _, _, rfl, rfl, _, rfl, ite2 (fun _ => ?_) (fun hc => ?_)⟩
  · -- some, all
    rename_i hw
    have hw3 : way < 3 := of_decide_eq_true hw
    have hn : 1 ≤ n := by omega
    refine ⟨_, rfl, (by show 6 ≤ sizeLine; decide), fun p hp => ?_⟩
    refine pk g1 hk1 (by show 0 < 6; decide) (by show 6 ≤ 1000; decide) (fun j x H2 ex g2 hk2 k2 => ?_) p hp
    obtain ⟨y, rfl, hy⟩ := pick6 ex
    refine ⟨_, rfl, (by show 2 ≤ sizeLine; decide), fun p2 hp2 => ?_⟩
    refine pk g2 hk2 (by show 0 < 2; decide) (by show 2 ≤ 1000; decide) (fun j2 x2 H3 ex2 g3 hk3 k3 => ?_) p2 hp2
    obtain ⟨kd, rfl, hkd⟩ := pick2 ex2
    refine ⟨_, rfl, _, rfl, _, rfl, _, rfl, _, _, rfl, rfl, ?_⟩
    refine ⟨r, l, k, a, _, rfl, en, hn, g3, hk3, kr, kl, fun v t a2 H4 hv ho hdp g4 hk4 k4 => ?_⟩
    refine ⟨(by show 3 ≤ sizeLine; decide), fun p3 hp3 => ?_⟩
    exact q _ (.qu kd y t) a2 _ (fv_qu (SqT.of upd_same) (FV.tp (tp_new hp3) _ hv)) ⟨hkd, hy, ho⟩ (by rw [Fm.dep]; omega) (g4.new hp3) (by rw [upd_ne (ne_of_none hk4 hp3)]; exact hk4) ((k1.trans (k2.trans k3)).two.trans (k4.trans (Kp.new hp3).two))
  have n3 : ¬ way < 3 := of_decide_eq_false (lt hc)
  -- and, or
  refine ⟨fun σ' H2 => σ' = [some (.ref r), some (.ref k), some (.int e), some (.int way), none, none, none, none, none] ∧ H2 = H1, ?_, ?_⟩
  · refine ⟨_, rfl, _, _, rfl, rfl, _, rfl, ite2 (fun c6 => ?_) (fun _ => ⟨rfl, rfl⟩)⟩
    refine ⟨_, rfl, _, _, _, _, rfl, rfl, SqL.of hk1, rfl, _, _, rfl, rfl, _, rfl, ite2 (fun _ => ?_) (fun _ => ⟨rfl, rfl⟩)⟩
    have c6' : way < 6 := of_decide_eq_true c6
    have hn : 1 ≤ n := by omega
    refine ⟨_, rfl, _, _, _, _, rfl, rfl, SqL.of hk1, rfl, _, _, rfl, rfl, _, rfl, k, _, 0, 0, rfl, rfl, hk1, rfl, ?_⟩
    have k2 : Kp2 r k H1 (upd H1 k (.lst [.int (a - 1)])) := Kp2.at
    have g2 : Rng (upd H1 k (.lst [.int (a - 1)])) r l := g1.of (fun o h => by rw [upd_ne kr.symm]; exact h) (fun o h => by rw [upd_ne kl.symm]; exact h)
    refine ⟨_, rfl, _, rfl, _, rfl, _, _, rfl, rfl, ?_⟩
    refine ⟨r, l, k, a - 1, _, rfl, en, hn, g2, upd_same, kr, kl, fun v1 t1 a1 H3 hv1 ho1 hd1 g3 hk3 k3 => ?_⟩
    refine ⟨_, rfl, (by show 2 ≤ sizeLine; decide), fun p2 hp2 => ?_⟩
    refine pk g3 hk3 (by show 0 < 2; decide) (by show 2 ≤ 1000; decide) (fun j2 x2 H4 ex2 g4 hk4 k4 => ?_) p2 hp2
    obtain ⟨kd, rfl, hkd⟩ := pick2 ex2
    refine ⟨_, rfl, _, rfl, _, rfl, _, rfl, _, _, rfl, rfl, ?_⟩
    refine ⟨r, l, k, a1, _, rfl, en, hn, g4, hk4, kr, kl, fun v2 t2 a2 H5 hv2 ho2 hd2 g5 hk5 k5 => ?_⟩
    refine ⟨(by show 3 ≤ sizeLine; decide), fun p3 hp3 => ?_⟩
    obtain ⟨z3, hz3⟩ := g3.lst
    obtain ⟨z4, hz4⟩ := g4.lst
    have tv : Tp H3 (upd H5 p3 (.tup [.str kd, v1, v2])) := (k4.tp hz3).trans ((k5.tp hz4 hk4).trans (tp_new hp3))
    exact q _ (.bin kd t1 t2) a2 _ (fv_bin (SqT.of upd_same) (FV.tp tv _ hv1) (FV.tp (tp_new hp3) _ hv2)) ⟨hkd, ho1, ho2⟩ (by rw [Fm.dep]; omega) (g5.new hp3) (by rw [upd_ne (ne_of_none hk5 hp3)]; exact hk5) (k1.two.trans (k2.trans (k3.trans (k4.two.trans (k5.trans (Kp.new hp3).two)))))
  rintro σ' H2 ⟨rfl, rfl⟩
  refine ⟨_, rfl, _, _, rfl, rfl, _, rfl, ite2 (fun c8 => ?_) (fun c8 => ?_)⟩
  · -- not
    have c8' : way < 8 := of_decide_eq_true c8
    have hn : 1 ≤ n := by omega
    refine ⟨_, rfl, _, rfl, _, rfl, _, _, rfl, rfl, ?_⟩
    refine ⟨r, l, k, a, _, rfl, en, hn, g1, hk1, kr, kl, fun v1 t1 a1 H3 hv1 ho1 hd1 g3 hk3 k3 => ?_⟩
    refine ⟨(by show 2 ≤ sizeLine; decide), fun p3 hp3 => ?_⟩
    exact q _ (.neg t1) a1 _ (fv_neg (SqT.of upd_same) (FV.tp (tp_new hp3) _ hv1)) ho1 (by rw [Fm.dep]; omega) (g3.new hp3) (by rw [upd_ne (ne_of_none hk3 hp3)]; exact hk3) (k1.two.trans (k3.trans (Kp.new hp3).two))
  -- an atom
  refine ⟨_, rfl, r, l, _, rfl, by decide, by decide, g1, fun kd H3 kd0 kd1 g3 k3 => ?_⟩
  have kd1' : kd < 6 := kd1
  have hk3 : H3 k = some (.lst [.int a]) := k3 _ _ kr hk1
  refine ⟨_, rfl, (by show 3 ≤ sizeLine; decide), fun p hp => ?_⟩
  refine pk g3 hk3 (by show 0 < 3; decide) (by show 3 ≤ 1000; decide) (fun j x H4 ex g4 hk4 k4 => ?_) p hp
  obtain ⟨one, rfl, h1⟩ := pick3 ex
  refine ⟨_, rfl, (by show 3 ≤ sizeLine; decide), fun p2 hp2 => ?_⟩
  refine pk g4 hk4 (by show 0 < 3; decide) (by show 3 ≤ 1000; decide) (fun j2 x2 H5 ex2 g5 hk5 k5 => ?_) p2 hp2
  obtain ⟨oth, rfl, h2⟩ := pick3 ex2
  have kk : Kp r H H5 := (k1.trans k3).trans (k4.trans k5)
  refine ⟨_, _, rfl, ?_⟩
  refine ⟨_, rfl, rfl, _, rfl, ite2 (fun _ => ?_) (fun c0 => ?_)⟩
  · refine ⟨_, rfl, (by show 3 ≤ sizeLine; decide), fun p3 hp3 => ?_⟩
    refine pk g5 hk5 (by show 0 < 3; decide) (by show 3 ≤ 1000; decide) (fun j3 x3 H6 ex3 g6 hk6 k6 => ?_) p3 hp3
    obtain ⟨c, rfl, hc⟩ := pick3 ex3
    refine ⟨_, rfl, (by show 3 ≤ sizeLine; decide), fun p4 hp4 => ?_⟩
    exact q _ (.rel "letter" c one) a _ (fv_rel (SqT.of upd_same)) (.ltr hc h1) (by rw [Fm.dep]; omega) (g6.new hp4) (by rw [upd_ne (ne_of_none hk6 hp4)]; exact hk6) (kk.trans (k6.trans (Kp.new hp4))).two
  refine ⟨_, rfl, rfl, _, rfl, ite2 (fun _ => ?_) (fun c4 => ?_)⟩
  · refine ⟨_, rfl, _, rfl, (by show 3 ≤ sizeLine; decide), fun p3 hp3 => ?_⟩
    refine pk g5 hk5 (by show 0 < 3; decide) (by show 3 ≤ 1000; decide) (fun j3 x3 H6 ex3 g6 hk6 k6 => ?_) p3 hp3
    obtain ⟨c, rfl, hc⟩ := pick3 ex3
    refine ⟨(by show 3 ≤ sizeLine; decide), fun p4 hp4 => ?_⟩
    exact q _ (.rel "in" one c) a _ (fv_rel (SqT.of upd_same)) (.el h1 hc) (by rw [Fm.dep]; omega) (g6.new hp4) (by rw [upd_ne (ne_of_none hk6 hp4)]; exact hk6) (kk.trans (k6.trans (Kp.new hp4))).two
  refine ⟨_, rfl, rfl, _, rfl, ite2 (fun _ => ?_) (fun c5 => ?_)⟩
  · refine ⟨_, rfl, r, l, rfl, g5, fun c H6 hc g6 k6 => ?_⟩
    refine ⟨(by show 2 ≤ sizeLine; decide), fun p4 hp4 => ?_⟩
    have hk6 := k6 _ _ kr hk5
    exact q _ (.nam c) a _ (fv_nam (SqT.of upd_same)) hc (by rw [Fm.dep]; omega) (g6.new hp4) (by rw [upd_ne (ne_of_none hk6 hp4)]; exact hk6) (kk.trans (k6.trans (Kp.new hp4))).two
  have m0 : kd ≠ 0 := fun e => c0 (by rw [e]; exact decide_eq_true rfl)
  have m4 : kd ≠ 4 := fun e => c4 (by rw [e]; exact decide_eq_true rfl)
  have m5 : kd ≠ 5 := fun e => c5 (by rw [e]; exact decide_eq_true rfl)
  have h9 : kd = 1 ∨ kd = 2 ∨ kd = 3 := by omega
  refine ⟨(by show 3 ≤ sizeLine; decide), fun p3 hp3 => ?_⟩
  have S3 := Kp.new (r := r) (o := .lst [.str "before", .str "next", .str "same"]) hp3
  have g6 := g5.new (o := .lst [.str "before", .str "next", .str "same"]) hp3
  have hk6 : (upd H5 p3 (.lst [.str "before", .str "next", .str "same"])) k = some (.lst [.int a]) := by rw [upd_ne (ne_of_none hk5 hp3)]; exact hk5
  rcases h9 with h9 | h9 | h9
  · refine ⟨_, rfl, _, _, rfl, rfl, _, _, _, _, rfl, rfl, SqL.of upd_same, at_of (j := 0) (show kd - 1 = 0 by omega) rfl, _, rfl, _, rfl, (by show 3 ≤ sizeLine; decide), fun p4 hp4 => ?_⟩
    exact q _ (.rel "before" one oth) a _ (fv_rel (SqT.of upd_same)) (.pl (.inl rfl) h1 h2) (by rw [Fm.dep]; omega) (g6.new hp4) (by rw [upd_ne (ne_of_none hk6 hp4)]; exact hk6) (kk.trans (S3.trans (Kp.new hp4))).two
  · refine ⟨_, rfl, _, _, rfl, rfl, _, _, _, _, rfl, rfl, SqL.of upd_same, at_of (j := 1) (show kd - 1 = 1 by omega) rfl, _, rfl, _, rfl, (by show 3 ≤ sizeLine; decide), fun p4 hp4 => ?_⟩
    exact q _ (.rel "next" one oth) a _ (fv_rel (SqT.of upd_same)) (.pl (.inr (.inl rfl)) h1 h2) (by rw [Fm.dep]; omega) (g6.new hp4) (by rw [upd_ne (ne_of_none hk6 hp4)]; exact hk6) (kk.trans (S3.trans (Kp.new hp4))).two
  · refine ⟨_, rfl, _, _, rfl, rfl, _, _, _, _, rfl, rfl, SqL.of upd_same, at_of (j := 2) (show kd - 1 = 2 by omega) rfl, _, rfl, _, rfl, (by show 3 ≤ sizeLine; decide), fun p4 hp4 => ?_⟩
    exact q _ (.rel "same" one oth) a _ (fv_rel (SqT.of upd_same)) (.pl (.inr (.inr rfl)) h1 h2) (by rw [Fm.dep]; omega) (g6.new hp4) (by rw [upd_ne (ne_of_none hk6 hp4)]; exact hk6) (kk.trans (S3.trans (Kp.new hp4))).two
theorem ok_any (D : Df K mg "_law_any_formula" s__law_any_formula ["_law_rng", "_law_kit", "_law_deep"]) (bi : Bi mg) (c_law_draw : Cal P w K mg base 1 "_law_draw" ["_law_rng", "_law_many"] spDraw) (c_law_pick : Cal P w K mg base 2 "_law_pick" ["_law_rng", "_law_things"] spPick) (c_law_name : Cal P w K mg base 2 "_law_name" ["_law_rng"] spName) :
    ∀ n : Nat, Cal P w K mg base (n + 2) "_law_any_formula" ["_law_rng", "_law_kit", "_law_deep"] (spAnyF K n)
  | 0 => D.no fun vs H Q E h => by
    obtain ⟨r, l, k, a, e, _, _, h1, _⟩ := h
    omega
  | n + 1 => ok_any1 D bi c_law_draw c_law_pick c_law_name (ok_any D bi c_law_draw c_law_pick c_law_name n)

end
end SW

set_option Elab.async false
set_option linter.all false
set_option maxRecDepth 100000
set_option maxHeartbeats 4000000
namespace SW
open PySem PySem.Spec PyProof.Rows L2
section
variable {P : Program} {w : World} {K : PySem.W.Frag} {mg : Str → Option Value} {base : Heap}
/-! ### the text of a formula -/
def spTxt (K : PySem.W.Frag) (n : Nat) : Sp := fun vs H Q _ => ∃ v t, vs = [v] ∧ FV K H v t ∧ t.Ok ∧ t.dep ≤ n ∧ n ≤ 6 ∧ ∀ H', Same H H' → Q (.str t.txt) H'
theorem t640 {f : Fm} {n : Nat} (o : f.Ok) (h : f.dep ≤ n) (h6 : n ≤ 6) : f.txt.length ≤ 640 := f.txt_640 o (Nat.le_trans h h6)
theorem sgn_get {k a b : Str} (o : RelOk k a b) (hk : k ≠ "letter") : valV (mergeK [] [((.inr "before" : Key), V.str "<"), (.inr "same", .str "="), (.inr "next", .str "next"), (.inr "in", .str "in")]) (.inr k) = some (.str (sgn k)) := by
  rcases kd_rel o with e | e | e | e | e
  · exact absurd e hk
  all_goals (rw [e]; decide +kernel)
theorem sc__law_written : FnScope ["_law_my_formula", "_law_word"] ["_law_my_formula"] (defScope s__law_written) := ⟨rfl, rfl, rfl, by decide +kernel, rfl, by decide +kernel, by decide +kernel⟩
theorem ok_written1 {n : Nat} (D : Df K mg "_law_written" s__law_written ["_law_my_formula"]) (bi : Bi mg) (c_law_written : Cal P w K mg base n "_law_written" ["_law_my_formula"] (spTxt K n)) :
    Cal P w K mg base (n + 1) "_law_written" ["_law_my_formula"] (spTxt K (n + 1)) := by
  refine D.ok sc__law_written (fun vs H Q E h => ?_) (fun f cdv A outer s H vs Q E hr h => ?_)
  · obtain ⟨v, t, rfl, _⟩ := h
    rfl
  obtain ⟨v, t, rfl, hv, ho, hd, h6, q⟩ := h
  refine ⟨_, (pss_cons (ps_set (i := 1) sc__law_written.nd rfl (.inl rfl) (pe_ix ix_tup (pv 0) pe_int (fun _ _ => rfl)))
      (pss_cons (ps_if (pt_cmpR op_eq (pv 1) pe_str (nomark _)) (pss_one (ps_ret (pe_op op_add_str (pe_op op_add_str (pe_op op_add_str (pe_ix ix_tup (pv 0) pe_int (fun _ _ => rfl)) pe_str) (pe_ix ix_tup (pv 0) pe_int (fun _ _ => rfl))) pe_str))) pss_nil)
      (pss_cons (ps_if (pt_cmpR op_eq (pv 1) pe_str (nomark _)) (pss_one (ps_ret (pe_op op_add_str (pe_op op_add_str pe_str (pe_ix ix_tup (pv 0) pe_int (fun _ _ => rfl))) pe_str))) pss_nil)
      (pss_cons (ps_if (pt_cmpR op_eq (pv 1) pe_str (nomark _)) (pss_one (ps_ret (pe_op op_add_str pe_str (pe_own c_law_written hr (by omega) (by rfl) (pa_cons (pe_ix ix_tup (pv 0) pe_int (fun _ _ => rfl)) pa_nil))))) pss_nil)
      (pss_cons (ps_if (PW.pt (pw_or (pt_cmpR op_eq (pv 1) pe_str (nomark _)) (pw_or1 (pt_cmpR op_eq (pv 1) pe_str (nomark _))))) (pss_one (ps_ret (pe_op op_add_str (pe_op op_add_str (pe_op op_add_str (pe_op op_add_str (pv 1) pe_str) (pe_ix ix_tup (pv 0) pe_int (fun _ _ => rfl))) pe_str) (pe_own c_law_written hr (by omega) (by rfl) (pa_cons (pe_ix ix_tup (pv 0) pe_int (fun _ _ => rfl)) pa_nil))))) pss_nil)
      (pss_cons (ps_if (PW.pt (pw_or (pt_cmpR op_eq (pv 1) pe_str (nomark _)) (pw_or1 (pt_cmpR op_eq (pv 1) pe_str (nomark _))))) (pss_one (ps_ret (pe_op op_add_str (pe_op op_add_str (pe_op op_add_str (pe_op op_add_str (pe_op op_add_str (pe_op op_add_str pe_str (pe_own c_law_written hr (by omega) (by rfl) (pa_cons (pe_ix ix_tup (pv 0) pe_int (fun _ _ => rfl)) pa_nil))) pe_str) (pv 1)) pe_str) (pe_own c_law_written hr (by omega) (by rfl) (pa_cons (pe_ix ix_tup (pv 0) pe_int (fun _ _ => rfl)) pa_nil))) pe_str))) pss_nil)
      (pss_one (ps_ret (pe_op op_add_str (pe_op op_add_str (pe_op op_add_str (pe_op op_add_str (pe_ix ix_tup (pv 0) pe_int (fun _ _ => rfl)) pe_str) (pe_dget (hu_of hr) (pe_disp (pps_cons pe_str pe_str (pps_cons pe_str pe_str (pps_cons pe_str pe_str (pps_cons pe_str pe_str pps_nil)))) (by rfl) (by rfl) (fun z => by cases z) (by decide)) (pv 1) (fun _ _ => rfl))) pe_str) (pe_ix ix_tup (pv 0) pe_int (fun _ _ => rfl))))))))))), ?_⟩
  have at_ := hv.at
  cases at_ with
  | @rel p k a b e s =>
    cases e
    have qq := q H (Same.refl H)
    have lr := len_rel ho
    have lsg := len_sgn ho
    by_cases hk : k = "letter"
    · subst hk
      rw [Fm.txt, if_pos rfl] at qq
      refine ⟨_, rfl, _, _, _, _, rfl, rfl, s, rfl, _, rfl, rfl, eq_yes rfl ?_⟩
      refine ⟨_, rfl, _, _, _, _, rfl, rfl, s, rfl, _, _, rfl, rfl, fit ?_, _, rfl, _, _, _, _, rfl, rfl, s, rfl, _, _, rfl, rfl, fit ?_, _, _, rfl, rfl, fit ?_, qq⟩
      all_goals (simp only [len_app, l_lp, l_rp]; omega)
    · rw [Fm.txt, if_neg hk] at qq
      refine ⟨_, rfl, _, _, _, _, rfl, rfl, s, rfl, _, rfl, rfl, eq_no hk ?_⟩
      refine ⟨_, rfl, rfl, eq_no (rel_ne ho (by decide +kernel)) ?_⟩
      refine ⟨_, rfl, rfl, eq_no (rel_ne ho (by decide +kernel)) ?_⟩
      refine ⟨_, rfl, rfl, eq_no (rel_ne ho (by decide +kernel)) ?_⟩
      refine ⟨_, rfl, rfl, eq_no (rel_ne ho (by decide +kernel)) ?_⟩
      refine ⟨_, rfl, rfl, eq_no (rel_ne ho (by decide +kernel)) ?_⟩
      refine ⟨_, rfl, rfl, eq_no (rel_ne ho (by decide +kernel)) ?_⟩
      refine ⟨_, rfl, _, _, _, _, rfl, rfl, s, rfl, _, _, rfl, rfl, fit ?_, fun p2 hp2 => ?_⟩
      · simp only [l_sp]; omega
      refine ⟨upd_same, [((.inr "before" : Key), V.str "<"), (.inr "same", .str "="), (.inr "next", .str "next"), (.inr "in", .str "in")], rfl, by decide, ?_⟩
      refine ⟨_, rfl, p2, .str (sgn k), rfl, .inl ⟨_, .inr k, .inl upd_same, rfl, (sgn_get ho hk).symm⟩, ?_⟩
      have tt : Tp H (upd (upd H p2 (.dK [])) p2 (.dK (mergeK [] [((.inr "before" : Key), V.str "<"), (.inr "same", .str "="), (.inr "next", .str "next"), (.inr "in", .str "in")]))) := by
        rw [upd_upd]
        exact tp_new hp2
      have ss : Same H (upd (upd H p2 (.dK [])) p2 (.dK (mergeK [] [((.inr "before" : Key), V.str "<"), (.inr "same", .str "="), (.inr "next", .str "next"), (.inr "in", .str "in")]))) := by
        rw [upd_upd]
        exact same_new hp2
      have qq := q _ ss
      rw [Fm.txt, if_neg hk] at qq
      refine ⟨_, _, rfl, rfl, fit ?_, _, _, rfl, rfl, fit ?_, _, rfl, _, _, _, _, rfl, rfl, tt.sq s, rfl, _, _, rfl, rfl, fit ?_, qq⟩
      all_goals (simp only [len_app, l_sp]; omega)
  | @nam p c e s =>
    cases e
    have qq := q H (Same.refl H)
    rw [Fm.txt] at qq
    have lc : c.length ≤ 8 := ho.2.1
    refine ⟨_, rfl, _, _, _, _, rfl, rfl, s, rfl, _, rfl, rfl, eq_no (by decide +kernel) ?_⟩
    refine ⟨_, rfl, rfl, eq_yes rfl ?_⟩
    refine ⟨_, rfl, _, _, _, _, rfl, rfl, s, rfl, _, _, rfl, rfl, fit ?_, _, _, rfl, rfl, fit ?_, qq⟩
    all_goals (simp only [len_app, l_lb, l_rb]; omega)
  | @neg p x f e s hx =>
    cases e
    rw [Fm.dep] at hd
    refine ⟨_, rfl, _, _, _, _, rfl, rfl, s, rfl, _, rfl, rfl, eq_no (by decide +kernel) ?_⟩
    refine ⟨_, rfl, rfl, eq_no (by decide +kernel) ?_⟩
    refine ⟨_, rfl, rfl, eq_yes rfl ?_⟩
    refine ⟨_, rfl, _, _, _, _, rfl, rfl, s, rfl, x, f, rfl, hx, ho, by omega, by omega, fun H1 k1 => ?_⟩
    have qq := q H1 k1
    rw [Fm.txt] at qq
    have l1 := t640 (n := n) (show f.Ok from ho) (by omega) (by omega)
    refine ⟨_, _, rfl, rfl, fit ?_, qq⟩
    simp only [l_not]
    omega
  | @bin p x y k f g e s hx hy =>
    cases e
    rw [Fm.dep] at hd
    have l1 := t640 (n := n) ho.2.1 (by omega) (by omega)
    have l2 := t640 (n := n) ho.2.2 (by omega) (by omega)
    have l3 := len_bin ho.1
    rcases ho.1 with rfl | rfl
    · refine ⟨_, rfl, _, _, _, _, rfl, rfl, s, rfl, _, rfl, rfl, eq_no (by decide +kernel) ?_⟩
      refine ⟨_, rfl, rfl, eq_no (by decide +kernel) ?_⟩
      refine ⟨_, rfl, rfl, eq_no (by decide +kernel) ?_⟩
      refine ⟨_, rfl, rfl, eq_no (by decide +kernel) ?_⟩
      refine ⟨_, rfl, rfl, eq_no (by decide +kernel) ?_⟩
      refine ⟨_, rfl, rfl, eq_yes rfl ?_⟩
      refine ⟨_, rfl, _, _, _, _, rfl, rfl, s, rfl, x, f, rfl, hx, ho.2.1, by omega, by omega, fun H1 k1 => ?_⟩
      refine ⟨_, _, rfl, rfl, fit ?_, _, _, rfl, rfl, fit ?_, _, rfl, _, _, rfl, rfl, fit ?_, _, _, rfl, rfl, fit ?_, _, rfl, _, _, _, _, rfl, rfl, (tp_same k1).sq s, rfl, y, g, rfl, FV.tp (tp_same k1) _ hy, ho.2.2, by omega, by omega, fun H2 k2 => ?_⟩
      rotate_right
      · have qq := q H2 (k1.trans k2)
        rw [Fm.txt] at qq
        refine ⟨_, _, rfl, rfl, fit ?_, _, _, rfl, rfl, fit ?_, qq⟩
        all_goals (simp only [len_app, l_lp, l_rp, l_sp]; omega)
      all_goals (simp only [len_app, l_lp, l_rp, l_sp]; omega)
    · refine ⟨_, rfl, _, _, _, _, rfl, rfl, s, rfl, _, rfl, rfl, eq_no (by decide +kernel) ?_⟩
      refine ⟨_, rfl, rfl, eq_no (by decide +kernel) ?_⟩
      refine ⟨_, rfl, rfl, eq_no (by decide +kernel) ?_⟩
      refine ⟨_, rfl, rfl, eq_no (by decide +kernel) ?_⟩
      refine ⟨_, rfl, rfl, eq_no (by decide +kernel) ?_⟩
      refine ⟨_, rfl, rfl, eq_no (by decide +kernel) ?_⟩
      refine ⟨_, rfl, rfl, eq_yes rfl ?_⟩
      refine ⟨_, rfl, _, _, _, _, rfl, rfl, s, rfl, x, f, rfl, hx, ho.2.1, by omega, by omega, fun H1 k1 => ?_⟩
      refine ⟨_, _, rfl, rfl, fit ?_, _, _, rfl, rfl, fit ?_, _, rfl, _, _, rfl, rfl, fit ?_, _, _, rfl, rfl, fit ?_, _, rfl, _, _, _, _, rfl, rfl, (tp_same k1).sq s, rfl, y, g, rfl, FV.tp (tp_same k1) _ hy, ho.2.2, by omega, by omega, fun H2 k2 => ?_⟩
      rotate_right
      · have qq := q H2 (k1.trans k2)
        rw [Fm.txt] at qq
        refine ⟨_, _, rfl, rfl, fit ?_, _, _, rfl, rfl, fit ?_, qq⟩
        all_goals (simp only [len_app, l_lp, l_rp, l_sp]; omega)
      all_goals (simp only [len_app, l_lp, l_rp, l_sp]; omega)
  | @qu p x k y f e s hx =>
    cases e
    rw [Fm.dep] at hd
    have l1 := t640 (n := n) ho.2.2 (by omega) (by omega)
    have l2 := len_vrs ho.2.1
    have l3 := len_qu ho.1
    rcases ho.1 with rfl | rfl
    · refine ⟨_, rfl, _, _, _, _, rfl, rfl, s, rfl, _, rfl, rfl, eq_no (by decide +kernel) ?_⟩
      refine ⟨_, rfl, rfl, eq_no (by decide +kernel) ?_⟩
      refine ⟨_, rfl, rfl, eq_no (by decide +kernel) ?_⟩
      refine ⟨_, rfl, rfl, eq_yes rfl ?_⟩
      refine ⟨_, rfl, _, _, rfl, rfl, fit ?_, _, rfl, _, _, _, _, rfl, rfl, s, rfl, _, _, rfl, rfl, fit ?_, _, _, rfl, rfl, fit ?_, _, rfl, _, _, _, _, rfl, rfl, s, rfl, x, f, rfl, hx, ho.2.2, by omega, by omega, fun H1 k1 => ?_⟩
      rotate_right
      · have qq := q H1 k1
        rw [Fm.txt] at qq
        refine ⟨_, _, rfl, rfl, fit ?_, qq⟩
        simp only [len_app, l_sp]
        omega
      all_goals (simp only [len_app, l_sp]; omega)
    · refine ⟨_, rfl, _, _, _, _, rfl, rfl, s, rfl, _, rfl, rfl, eq_no (by decide +kernel) ?_⟩
      refine ⟨_, rfl, rfl, eq_no (by decide +kernel) ?_⟩
      refine ⟨_, rfl, rfl, eq_no (by decide +kernel) ?_⟩
      refine ⟨_, rfl, rfl, eq_no (by decide +kernel) ?_⟩
      refine ⟨_, rfl, rfl, eq_yes rfl ?_⟩
      refine ⟨_, rfl, _, _, rfl, rfl, fit ?_, _, rfl, _, _, _, _, rfl, rfl, s, rfl, _, _, rfl, rfl, fit ?_, _, _, rfl, rfl, fit ?_, _, rfl, _, _, _, _, rfl, rfl, s, rfl, x, f, rfl, hx, ho.2.2, by omega, by omega, fun H1 k1 => ?_⟩
      rotate_right
      · have qq := q H1 k1
        rw [Fm.txt] at qq
        refine ⟨_, _, rfl, rfl, fit ?_, qq⟩
        simp only [len_app, l_sp]
        omega
      all_goals (simp only [len_app, l_sp]; omega)
theorem ok_written (D : Df K mg "_law_written" s__law_written ["_law_my_formula"]) (bi : Bi mg) : ∀ n : Nat, Cal P w K mg base n "_law_written" ["_law_my_formula"] (spTxt K n)
  | 0 => D.no fun vs H Q E h => by
    obtain ⟨v, t, _, _, _, h, _⟩ := h
    have := t.dep_pos
    omega
  | n + 1 => ok_written1 D bi (ok_written D bi n)
end
end SW

set_option Elab.async false
set_option linter.all false
set_option maxRecDepth 100000
set_option maxHeartbeats 4000000
namespace SW
open PySem PySem.Spec PyProof.Rows L2
section
variable {P : Program} {w : World} {K : PySem.W.Frag} {mg : Str → Option Value} {base : Heap}
/-! ### format_formula -/
theorem l_emp : Str.empty.length = 0 := rfl
abbrev ano : List Str := ["and", "or"]
theorem sc_format_formula : FnScope ["formula", "kind"] ["formula"] (defScope s_format_formula) := ⟨rfl, rfl, rfl, by decide +kernel, rfl, by decide +kernel, by decide +kernel⟩
theorem ok_format1 {n : Nat} {aQ aS : Addr} (D : Df K mg "format_formula" s_format_formula ["formula"]) (bi : Bi mg) (mQUANTIFIERS : mg "QUANTIFIERS" = some (.ref aQ)) (hQ : ∀ H, SqT K H aQ [.str "some", .str "all"]) (mSIGNS : mg "SIGNS" = some (.ref aS)) (kS : KdS K w aS sgnT)
    (cformat_formula : Cal P w K mg base n "format_formula" ["formula"] (spTxt K n)) : Cal P w K mg base (n + 1) "format_formula" ["formula"] (spTxt K (n + 1)) := by
  refine D.ok sc_format_formula (fun vs H Q E h => ?_) (fun f cdv A outer s H vs Q E hr h => ?_)
  · obtain ⟨v, t, rfl, _⟩ := h
    rfl
  obtain ⟨v, t, rfl, hv, ho, hd, h6, q⟩ := h
  refine ⟨_, (pss_cons (ps_set (i := 1) sc_format_formula.nd rfl (.inl rfl) (pe_ix ix_tup (pv 0) pe_int (fun _ _ => rfl)))
      (pss_cons (ps_if (pt_cmpR op_eq (pv 1) pe_str (nomark _)) (pss_one (ps_ret (pe_joined (.cons (pe_fmt (pe_ix ix_tup (pv 0) pe_int (fun _ _ => rfl))) (.cons pe_str (.cons (pe_fmt (pe_ix ix_tup (pv 0) pe_int (fun _ _ => rfl))) (.cons pe_str .nil))))))) pss_nil)
      (pss_cons (ps_if (pt_cmpR op_eq (pv 1) pe_str (nomark _)) (pss_one (ps_ret (pe_op op_add_str (pe_op op_add_str pe_str (pe_ix ix_tup (pv 0) pe_int (fun _ _ => rfl))) pe_str))) pss_nil)
      (pss_cons (ps_if (pt_cmpR op_eq (pv 1) pe_str (nomark _)) (pss_one (ps_ret (pe_joined (.cons pe_str (.cons (pe_fmt (pe_own cformat_formula hr (by omega) (by rfl) (pa_cons (pe_ix ix_tup (pv 0) pe_int (fun _ _ => rfl)) pa_nil))) .nil))))) pss_nil)
      (pss_cons (ps_if (pt_cmpR op_in_seq (pv 1) (pe_tup (pa_cons pe_str (pa_cons pe_str pa_nil))) (by rfl)) (pss_one (ps_ret (pe_joined (.cons pe_str (.cons (pe_fmt (pe_own cformat_formula hr (by omega) (by rfl) (pa_cons (pe_ix ix_tup (pv 0) pe_int (fun _ _ => rfl)) pa_nil))) (.cons pe_str (.cons (pe_fmt (pv 1)) (.cons pe_str (.cons (pe_fmt (pe_own cformat_formula hr (by omega) (by rfl) (pa_cons (pe_ix ix_tup (pv 0) pe_int (fun _ _ => rfl)) pa_nil))) (.cons pe_str .nil)))))))))) pss_nil)
      (pss_cons (ps_if (pt_cmpR op_in_seq (pv 1) (pe_glob (v := .ref aQ) (by rfl) mQUANTIFIERS rfl) (by rfl)) (pss_one (ps_ret (pe_joined (.cons (pe_fmt (pv 1)) (.cons pe_str (.cons (pe_fmt (pe_ix ix_tup (pv 0) pe_int (fun _ _ => rfl))) (.cons pe_str (.cons (pe_fmt (pe_own cformat_formula hr (by omega) (by rfl) (pa_cons (pe_ix ix_tup (pv 0) pe_int (fun _ _ => rfl)) pa_nil))) .nil)))))))) pss_nil)
      (pss_one (ps_ret (pe_joined (.cons (pe_fmt (pe_ix ix_tup (pv 0) pe_int (fun _ _ => rfl))) (.cons pe_str (.cons (pe_fmt (pe_ix ix_kdict (pe_glob (v := .ref aS) (by rfl) mSIGNS rfl) (pv 1) (fun _ _ => rfl))) (.cons pe_str (.cons (pe_fmt (pe_ix ix_tup (pv 0) pe_int (fun _ _ => rfl))) .nil)))))))))))))), ?_⟩
  have at_ := hv.at
  cases at_ with
  | @rel p k a b e s =>
    cases e
    have lr := len_rel ho
    have lsg := len_sgn ho
    by_cases hk : k = "letter"
    · subst hk
      have qq := q H (Same.refl H)
      rw [Fm.txt, if_pos rfl, ← emp_app a] at qq
      refine ⟨_, rfl, _, _, _, _, rfl, rfl, s, rfl, _, rfl, rfl, eq_yes rfl ?_⟩
      refine ⟨_, rfl, _, _, _, _, rfl, rfl, s, rfl, .inl ⟨_, rfl, fit ?_, _, rfl, fit ?_, _, rfl, fit ?_, _, rfl, _, _, _, _, rfl, rfl, s, rfl, .inl ⟨_, rfl, fit ?_, _, rfl, fit ?_, _, rfl, fit ?_, qq⟩⟩⟩
      all_goals ((try simp only [len_app, l_lp, l_rp, l_lb, l_rb, l_sp, l_not, l_emp]) <;> omega)
    · refine ⟨_, rfl, _, _, _, _, rfl, rfl, s, rfl, _, rfl, rfl, eq_no hk ?_⟩
      refine ⟨_, rfl, rfl, eq_no (rel_ne ho (by decide +kernel)) ?_⟩
      refine ⟨_, rfl, rfl, eq_no (rel_ne ho (by decide +kernel)) ?_⟩
      refine ⟨_, rfl, (by show 2 ≤ sizeLine; decide), fun p1 hp1 => ⟨p1, _, rfl, .inr (SqT.of upd_same), rfl, rfl, in_no ano (rel_notin ho (by decide +kernel)) ?_⟩⟩
      have t1 := tp_new (o := .tup [.str "and", .str "or"]) hp1
      have s1 := same_new (o := .tup [.str "and", .str "or"]) hp1
      refine ⟨_, rfl, aQ, _, rfl, .inr (hQ _), rfl, rfl, in_no qus (rel_notin ho (by decide +kernel)) ?_⟩
      have qq := q _ s1
      rw [Fm.txt, if_neg hk, ← emp_app a] at qq
      refine ⟨_, rfl, _, _, _, _, rfl, rfl, (t1.sq s), rfl, .inl ⟨_, rfl, fit ?_, _, rfl, fit ?_, _, rfl, fit ?_, _, rfl, _, _, _, rfl, rfl, kS.of (sgn_mem ho hk), .inl ⟨_, rfl, fit ?_, _, rfl, fit ?_, _, rfl, fit ?_, _, rfl, _, _, _, _, rfl, rfl, (t1.sq s), rfl, .inl ⟨_, rfl, fit ?_, _, rfl, fit ?_, qq⟩⟩⟩⟩
      all_goals ((try simp only [len_app, l_lp, l_rp, l_lb, l_rb, l_sp, l_not, l_emp]) <;> omega)
  | @nam p c e s =>
    cases e
    have qq := q H (Same.refl H)
    rw [Fm.txt] at qq
    have lc : c.length ≤ 8 := ho.2.1
    refine ⟨_, rfl, _, _, _, _, rfl, rfl, s, rfl, _, rfl, rfl, eq_no (by decide +kernel) ?_⟩
    refine ⟨_, rfl, rfl, eq_yes rfl ?_⟩
    refine ⟨_, rfl, _, _, _, _, rfl, rfl, s, rfl, _, _, rfl, rfl, fit ?_, _, _, rfl, rfl, fit ?_, qq⟩
    all_goals ((try simp only [len_app, l_lp, l_rp, l_lb, l_rb, l_sp, l_not, l_emp]) <;> omega)
  | @neg p x f e s hx =>
    cases e
    rw [Fm.dep] at hd
    have l1 := t640 (n := n) (show f.Ok from ho) (by omega) (by omega)
    refine ⟨_, rfl, _, _, _, _, rfl, rfl, s, rfl, _, rfl, rfl, eq_no (by decide +kernel) ?_⟩
    refine ⟨_, rfl, rfl, eq_no (by decide +kernel) ?_⟩
    refine ⟨_, rfl, rfl, eq_yes rfl ?_⟩
    refine ⟨_, rfl, fit ?_, _, rfl, _, _, _, _, rfl, rfl, s, rfl, x, f, rfl, hx, ho, by omega, by omega, fun H1 k1 => ?_⟩
    rotate_right
    · have qq := q H1 k1
      rw [Fm.txt, ← emp_app "not "] at qq
      refine .inl ⟨_, rfl, fit ?_, _, rfl, fit ?_, qq⟩
      all_goals ((try simp only [len_app, l_lp, l_rp, l_lb, l_rb, l_sp, l_not, l_emp]) <;> omega)
    all_goals ((try simp only [len_app, l_lp, l_rp, l_lb, l_rb, l_sp, l_not, l_emp]) <;> omega)
  | @bin p x y k f g e s hx hy =>
    cases e
    rw [Fm.dep] at hd
    have l1 := t640 (n := n) ho.2.1 (by omega) (by omega)
    have l2 := t640 (n := n) ho.2.2 (by omega) (by omega)
    have l3 := len_bin ho.1
    refine ⟨_, rfl, _, _, _, _, rfl, rfl, s, rfl, _, rfl, rfl, eq_no (bin_ne ho.1 (by decide +kernel)) ?_⟩
    refine ⟨_, rfl, rfl, eq_no (bin_ne ho.1 (by decide +kernel)) ?_⟩
    refine ⟨_, rfl, rfl, eq_no (bin_ne ho.1 (by decide +kernel)) ?_⟩
    refine ⟨_, rfl, (by show 2 ≤ sizeLine; decide), fun p1 hp1 => ⟨p1, _, rfl, .inr (SqT.of upd_same), rfl, rfl, in_yes ano (bin_in ho.1 (by decide +kernel)) ?_⟩⟩
    have t1 := tp_new (o := .tup [.str "and", .str "or"]) hp1
    have s1 := same_new (o := .tup [.str "and", .str "or"]) hp1
    refine ⟨_, rfl, fit ?_, _, rfl, _, _, _, _, rfl, rfl, (t1.sq s), rfl, x, f, rfl, FV.tp t1 _ hx, ho.2.1, by omega, by omega, fun H1 k1 => ?_⟩
    rotate_right
    · have s2 := s1.trans k1
      refine .inl ⟨_, rfl, fit ?_, _, rfl, fit ?_, _, rfl, fit ?_, _, rfl, .inl ⟨_, rfl, fit ?_, _, rfl, fit ?_, _, rfl, fit ?_, _, rfl, _, _, _, _, rfl, rfl, ((tp_same s2).sq s), rfl, y, g, rfl, FV.tp (tp_same s2) _ hy, ho.2.2, by omega, by omega, fun H2 k2 => ?_⟩⟩
      rotate_right
      · have qq := q H2 (s2.trans k2)
        rw [Fm.txt, ← emp_app "("] at qq
        refine .inl ⟨_, rfl, fit ?_, _, rfl, fit ?_, _, rfl, fit ?_, qq⟩
        all_goals ((try simp only [len_app, l_lp, l_rp, l_lb, l_rb, l_sp, l_not, l_emp]) <;> omega)
      all_goals ((try simp only [len_app, l_lp, l_rp, l_lb, l_rb, l_sp, l_not, l_emp]) <;> omega)
    all_goals ((try simp only [len_app, l_lp, l_rp, l_lb, l_rb, l_sp, l_not, l_emp]) <;> omega)
  | @qu p x k y f e s hx =>
    cases e
    rw [Fm.dep] at hd
    have l1 := t640 (n := n) ho.2.2 (by omega) (by omega)
    have l2 := len_vrs ho.2.1
    have l3 := len_qu ho.1
    refine ⟨_, rfl, _, _, _, _, rfl, rfl, s, rfl, _, rfl, rfl, eq_no (qu_ne ho.1 (by decide +kernel)) ?_⟩
    refine ⟨_, rfl, rfl, eq_no (qu_ne ho.1 (by decide +kernel)) ?_⟩
    refine ⟨_, rfl, rfl, eq_no (qu_ne ho.1 (by decide +kernel)) ?_⟩
    refine ⟨_, rfl, (by show 2 ≤ sizeLine; decide), fun p1 hp1 => ⟨p1, _, rfl, .inr (SqT.of upd_same), rfl, rfl, in_no ano (qu_notin ho.1 (by decide +kernel)) ?_⟩⟩
    have t1 := tp_new (o := .tup [.str "and", .str "or"]) hp1
    have s1 := same_new (o := .tup [.str "and", .str "or"]) hp1
    refine ⟨_, rfl, aQ, _, rfl, .inr (hQ _), rfl, rfl, in_yes qus (qu_in ho.1 (by decide +kernel)) ?_⟩
    refine ⟨_, rfl, .inl ⟨_, rfl, fit ?_, _, rfl, fit ?_, _, rfl, fit ?_, _, rfl, _, _, _, _, rfl, rfl, (t1.sq s), rfl, .inl ⟨_, rfl, fit ?_, _, rfl, fit ?_, _, rfl, fit ?_, _, rfl, _, _, _, _, rfl, rfl, (t1.sq s), rfl, x, f, rfl, FV.tp t1 _ hx, ho.2.2, by omega, by omega, fun H1 k1 => ?_⟩⟩⟩
    rotate_right
    · have qq := q H1 (s1.trans k1)
      rw [Fm.txt, ← emp_app k] at qq
      refine .inl ⟨_, rfl, fit ?_, _, rfl, fit ?_, qq⟩
      all_goals ((try simp only [len_app, l_lp, l_rp, l_lb, l_rb, l_sp, l_not, l_emp]) <;> omega)
    all_goals ((try simp only [len_app, l_lp, l_rp, l_lb, l_rb, l_sp, l_not, l_emp]) <;> omega)
theorem ok_format {aQ aS : Addr} (D : Df K mg "format_formula" s_format_formula ["formula"]) (bi : Bi mg) (mQUANTIFIERS : mg "QUANTIFIERS" = some (.ref aQ)) (hQ : ∀ H, SqT K H aQ [.str "some", .str "all"]) (mSIGNS : mg "SIGNS" = some (.ref aS)) (kS : KdS K w aS sgnT) : ∀ n : Nat, Cal P w K mg base n "format_formula" ["formula"] (spTxt K n)
  | 0 => D.no fun vs H Q E h => by
    obtain ⟨v, t, _, _, _, h, _⟩ := h
    have := t.dep_pos
    omega
  | n + 1 => ok_format1 D bi mQUANTIFIERS hQ mSIGNS kS (ok_format D bi mQUANTIFIERS hQ mSIGNS kS n)
end
end SW

set_option Elab.async false
set_option linter.all false
set_option maxRecDepth 100000
set_option maxHeartbeats 4000000
namespace SW
open PySem PySem.Spec PyProof.Rows L2
section
variable {P : Program} {w : World} {K : PySem.W.Frag} {mg : Str → Option Value} {base : Heap}
/-! ### the tokens of a text -/
def spTEnd : Sp := fun vs H Q _ => ∃ z n c, vs = [.str z, .int (n : Nat)] ∧ (ls z)[n]? = some c ∧ z.length ≤ 1000 ∧ Q (.int (tend (ls z) n : Nat)) H
theorem tend_loop {z : Str} {n c : Nat} {H : Hp} {R : VK} (hc : (ls z)[n]? = some c) (hw : wrd c) (hz : z.length ≤ 1000) : tWhile
        (tAnd
          (tTest
            (tOp (rI0 fun i j => V.bl (decide (i < j))) (tVar 2)
              (tCB (fun xs H Q => ∃ z, xs = [V.str z] ∧ z.length ≤ sizeLine ∧ Q (V.int (z.length : Nat)) H)
                (tCons (tVar 0) tNil))))
          (tTest (tOp rInS (tOp rIxS (tVar 0) (tVar 2)) (tC (V.str (Str.ofString "abcdefghijklmnopqrstuvwxyz"))))))
        (tAug 2 (tC (V.int 1)) (ipI fun i j => i + j))
        { nx := fun σ' H' => σ' = [some (V.str z), some (V.int (n : Nat)), some (V.int (tend (ls z) n : Nat))] ∧ H' = H, rt := R } [some (V.str z), some (V.int (n : Nat)), some (V.int ((n : Nat) + 1))] H := by
  have hl := len_ls z
  have ht := tend_wrd hc hw
  have hle := tw_len ((ls z).drop (n + 1))
  rw [List.length_drop] at hle
  have hn : n < (ls z).length := (List.getElem?_eq_some_iff.mp hc).1
  refine ⟨fun m σ' H' => ∃ k : Nat, σ' = [some (V.str z), some (V.int (n : Nat)), some (V.int ((n + 1 + k : Nat)))] ∧ k ≤ (tw ((ls z).drop (n + 1))).length ∧ m = (tw ((ls z).drop (n + 1))).length - k ∧ H' = H, ⟨_, 0, by rfl, Nat.zero_le _, rfl, rfl⟩, ?_⟩
  rintro m σ' H' ⟨k, rfl, hk, rfl, rfl⟩
  refine ⟨_, rfl, _, rfl, _, rfl, fit (by omega), _, _, rfl, rfl, _, rfl, ite2 (fun h => ?_) (fun h => ?_)⟩
  · have hlt : ((n + 1 + k : Nat) : Int) < (z.length : Nat) := of_decide_eq_true h
    have hlt' : n + 1 + k < (ls z).length := by omega
    have hx : (ls z)[n + 1 + k]? = some (ls z)[n + 1 + k] := List.getElem?_eq_getElem hlt'
    have hx2 : ((ls z).drop (n + 1))[k]? = some (ls z)[n + 1 + k] := by rw [List.getElem?_drop]; exact hx
    refine ⟨_, rfl, _, rfl, _, _, _, rfl, rfl, fit (by omega), at_ls hx rfl, _, _, rfl, rfl, _, rfl, ite2 (fun h2 => ?_) (fun h2 => ?_)⟩
    · have hlow : low (ls z)[n + 1 + k] := mem_low.mp (of_decide_eq_true h2)
      have hk2 : k < (tw ((ls z).drop (n + 1))).length := by
        rcases Nat.lt_or_ge k (tw ((ls z).drop (n + 1))).length with h | h
        · exact h
        · exact absurd hlow (tw_get hx2 (by omega))
      refine ⟨fun σ' H'' => σ' = [some (V.str z), some (V.int (n : Nat)), some (V.int ((n + 1 + (k + 1) : Nat)))] ∧ H'' = H', ?_, _, rfl, _, _, rfl, rfl, rfl, rfl⟩
      rintro σ' H'' ⟨rfl, rfl⟩
      exact ⟨_, by omega, k + 1, rfl, hk2, rfl, rfl⟩
    · have hnl : ¬ low (ls z)[n + 1 + k] := fun hl => h2 (decide_eq_true (mem_low.mpr hl))
      have hk2 : k = (tw ((ls z).drop (n + 1))).length := by
        rcases Nat.lt_or_ge k (tw ((ls z).drop (n + 1))).length with h | h
        · exact absurd (tw_lt hx2 h) hnl
        · omega
      subst hk2
      exact ⟨by rw [ht], rfl⟩
  · have hge : ¬ ((n + 1 + k : Nat) : Int) < (z.length : Nat) := fun q => h (decide_eq_true q)
    have hk2 : k = (tw ((ls z).drop (n + 1))).length := by omega
    subst hk2
    exact ⟨by rw [ht], rfl⟩
theorem sc__token_end : FnScope ["text", "start", "end"] ["text", "start"] (defScope s__token_end) := ⟨rfl, rfl, rfl, by decide +kernel, rfl, by decide +kernel, by decide +kernel⟩
theorem ok_tend (D : Df K mg "_token_end" s__token_end ["text", "start"]) (bi : Bi mg) {vL vS : Value} (mLOWERCASE : mg "LOWERCASE" = some vL) (rLOWERCASE : L2.RelV (.str "abcdefghijklmnopqrstuvwxyz") vL) (mSETS : mg "SETS" = some vS) (rS : L2.RelV (.str "XYZ") vS) :
    Cal P w K mg base 1 "_token_end" ["text", "start"] spTEnd := by
  refine D.ok sc__token_end (fun vs H Q E h => ?_) (fun f cdv A outer s H vs Q E hr h => ?_)
  · obtain ⟨z, n, c, rfl, _⟩ := h
    rfl
  obtain ⟨z, n, c, rfl, hc, hz, q⟩ := h
  have hn : n < (ls z).length := (List.getElem?_eq_some_iff.mp hc).1
  have hl := len_ls z
  refine ⟨_, (pss_cons (ps_set (i := 2) sc__token_end.nd rfl (.inl rfl) (pe_op op_add (pv 1) pe_int))
      (C8.pss_cut (ps_if (PW.pt (pw_or (pt_cmpR op_inS (pe_ix ix_str (pv 0) (pv 1) (fun _ _ => rfl)) (pe_glob (v := .str "abcdefghijklmnopqrstuvwxyz") (by rfl) mLOWERCASE rLOWERCASE) (by rfl)) (pw_or1 (pt_cmpR op_inS (pe_ix ix_str (pv 0) (pv 1) (fun _ _ => rfl)) (pe_glob (v := .str "XYZ") (by rfl) mSETS rS) (by rfl))))) (pss_one (ps_while PassesOwn.never (PW.pt (pw_and (pt_cmpR op_lt (pv 2) (pe_callB call_len_str (by rfl) bi.len PySem.boot_len (pa_cons (pv 0) pa_nil)) (nomark _)) (pw_and1 (pt_cmpR op_inS (pe_ix ix_str (pv 0) (pv 2) (fun _ _ => rfl)) (pe_glob (v := .str "abcdefghijklmnopqrstuvwxyz") (by rfl) mLOWERCASE rLOWERCASE) (by rfl))))) (pss_one (ps_aug (i := 2) sc__token_end.nd rfl (.inl rfl) pe_int ip_add)))) pss_nil)
      (pss_one (ps_ret (pv 2))))), ?_⟩
  refine ⟨_, rfl, _, _, rfl, rfl, ?_⟩
  refine ⟨fun σ' H' => σ' = [some (.str z), some (.int (n : Nat)), some (.int (tend (ls z) n : Nat))] ∧ H' = H, ?_, ?_⟩
  rotate_left
  · rintro σ' H' ⟨rfl, rfl⟩
    exact ⟨_, rfl, q⟩
  refine ⟨_, rfl, _, rfl, _, _, _, rfl, rfl, fit (by omega), at_ls hc rfl, _, _, rfl, rfl, _, rfl, ite2 (fun h => ?_) (fun h => ?_)⟩
  · exact tend_loop hc (.inl (mem_low.mp (of_decide_eq_true h))) hz
  · refine ⟨_, rfl, _, rfl, _, _, _, rfl, rfl, fit (by omega), at_ls hc rfl, _, _, rfl, rfl, _, rfl, ite2 (fun h2 => ?_) (fun h2 => ?_)⟩
    · exact tend_loop hc (.inr (mem_set.mp (of_decide_eq_true h2))) hz
    · have nw : ¬ wrd c := fun hw => (wrd_mem.mp hw).elim (fun q => h (decide_eq_true q)) (fun q => h2 (decide_eq_true q))
      exact ⟨by rw [tend_not hc nw]; rfl, rfl⟩
def spTokens (K : PySem.W.Frag) : Sp := fun vs H Q _ => ∃ z ts, vs = [.str z] ∧ Tk (ls z) ts ∧ z.length ≤ 1000 ∧ ∀ a us H', H' a = some (.lst us) → H a = none → Al (TkV K H') us (ts ++ [("" : Str)]) → Same H H' → Q (.ref a) H'
theorem sc__tokens : FnScope ["text", "found", "at", "end"] ["text"] (defScope s__tokens) := ⟨rfl, rfl, rfl, by decide +kernel, rfl, by decide +kernel, by decide +kernel⟩
theorem ok_tokens (D : Df K mg "_tokens" s__tokens ["text"]) (bi : Bi mg) {vE : Value} (mEND : mg "END" = some vE) (rEND : L2.RelV (.str "") vE) (c_token_end : Cal P w K mg base 1 "_token_end" ["text", "start"] spTEnd) :
    Cal P w K mg base 2 "_tokens" ["text"] (spTokens K) := by
  refine D.ok sc__tokens (fun vs H Q E h => ?_) (fun f cdv A outer s H vs Q E hr h => ?_)
  · obtain ⟨z, ts, rfl, _⟩ := h
    rfl
  obtain ⟨z, ts, rfl, ht, hz, q⟩ := h
  have hl := len_ls z
  refine ⟨_, (pss_cons (ps_set (i := 1) sc__tokens.nd rfl (.inl rfl) (pe_lst pa_nil))
      (pss_cons (ps_set (i := 2) sc__tokens.nd rfl (.inl rfl) pe_int)
      (pss_cons (ps_while PassesOwn.never (pt_cmpR op_lt (pv 2) (pe_callB call_len_str (by rfl) bi.len PySem.boot_len (pa_cons (pv 0) pa_nil)) (nomark _)) (pss_cons (ps_set (i := 3) sc__tokens.nd rfl (.inl rfl) (pe_own c_token_end hr (by omega) (by rfl) (pa_cons (pv 0) (pa_cons (pv 2) pa_nil))))
      (C8.pss_cut (ps_if (pt_cmpR op_ne (pe_ix ix_str (pv 0) (pv 2) (fun _ _ => rfl)) pe_str (nomark _)) (pss_one (ps_expr (pe_bm PySem.F.plainAttrs_list PySem.F.slot_list_append PySem.F.type_list_append mt_append (pv 1) (pa_cons (pe_tup (pa_cons (pv 2) (pa_cons (pe_slice sl_str (pv 0) (po_some (pv 2)) (po_some (pv 3))) pa_nil))) pa_nil)))) pss_nil)
      (pss_one (ps_set (i := 2) sc__tokens.nd rfl (.inl rfl) (pv 3))))))
      (pss_cons (ps_expr (pe_bm PySem.F.plainAttrs_list PySem.F.slot_list_append PySem.F.type_list_append mt_append (pv 1) (pa_cons (pe_tup (pa_cons (pe_callB call_len_str (by rfl) bi.len PySem.boot_len (pa_cons (pv 0) pa_nil)) (pa_cons (pe_glob (v := .str "") (by rfl) mEND rEND) pa_nil))) pa_nil)))
      (pss_one (ps_ret (pv 1))))))), ?_⟩
  refine ⟨Nat.zero_le _, fun a ha => ?_⟩
  -- what is found, what is left
  refine ⟨fun m σ' H' => ∃ (n : Nat) (y : Option V) (us : List V) (t0 t1 : List Str), σ' = [some (.str z), some (.ref a), some (.int (n : Nat)), y] ∧ n ≤ (ls z).length ∧ m = (ls z).length - n ∧ H' a = some (.lst us) ∧ us.length ≤ n ∧ Al (TkV K H') us t0 ∧ Tk ((ls z).drop n) t1 ∧ t0 ++ t1 = ts ∧ Kp a H H', ⟨_, 0, none, [], [], ts, rfl, Nat.zero_le _, rfl, upd_same, Nat.le_refl _, .nil, by rw [List.drop_zero]; exact ht, rfl, Kp.new ha⟩, ?_⟩
  rintro m σ' H' ⟨n, y, us, t0, t1, rfl, hn, rfl, hA, hu, hal, htk, e, kp⟩
  refine ⟨_, rfl, _, rfl, _, rfl, fit (by omega), _, _, rfl, rfl, _, rfl, ite2 (fun h => ?_) (fun h => ?_)⟩
  · have hlt : (n : Int) < (z.length : Nat) := of_decide_eq_true h
    have hlt' : n < (ls z).length := by omega
    have hx : (ls z)[n]? = some (ls z)[n] := List.getElem?_eq_getElem hlt'
    obtain ⟨h1, h2⟩ := tk_step hx htk
    have hgt : n < tend (ls z) n := by unfold tend; omega
    refine ⟨fun σ2 H2 => ∃ (n2 : Nat) (y : Option V) (us : List V) (t0 t1 : List Str), σ2 = [some (.str z), some (.ref a), some (.int (n2 : Nat)), y] ∧ n < n2 ∧ n2 ≤ (ls z).length ∧ H2 a = some (.lst us) ∧ us.length ≤ n2 ∧ Al (TkV K H2) us t0 ∧ Tk ((ls z).drop n2) t1 ∧ t0 ++ t1 = ts ∧ Kp a H H2, ?_, ?_⟩
    · rintro σ2 H2 ⟨n2, y, us, t0, t1, rfl, hn2, hn3, r⟩
      exact ⟨_, by omega, n2, y, us, t0, t1, rfl, hn3, rfl, r⟩
    refine ⟨_, rfl, _, rfl, z, n, _, rfl, hx, by omega, ?_⟩
    -- behind the test
    refine ⟨fun σ2 H2 => ∃ (us : List V) (t0 t1 : List Str), σ2 = [some (.str z), some (.ref a), some (.int (n : Nat)), some (.int (tend (ls z) n : Nat))] ∧ H2 a = some (.lst us) ∧ us.length ≤ tend (ls z) n ∧ Al (TkV K H2) us t0 ∧ Tk ((ls z).drop (tend (ls z) n)) t1 ∧ t0 ++ t1 = ts ∧ Kp a H H2, ?_, ?_⟩
    · refine ⟨_, rfl, _, rfl, _, _, _, rfl, rfl, fit (by omega), at_ls hx rfl, rfl, ?_⟩
      rcases h2 with ⟨hc, hk⟩ | ⟨hc, ts', et, hk⟩
      · refine ne_no ?_ ?_
        · rw [hc]; decide +kernel
        · exact ⟨us, t0, t1, rfl, hA, by omega, hal, hk, e, kp⟩
      · refine ne_yes ?_ ?_
        · intro e
          refine hc ?_
          have := congrArg ls e
          rw [ls_sp] at this
          exact (List.cons.inj this).1
        · refine ⟨_, rfl, .inl ⟨rfl, _, SqL.of hA⟩, _, rfl, _, rfl, _, rfl, _, rfl, _, rfl, _, rfl, _, rfl, fit (by omega), (by show 2 ≤ sizeLine; decide), fun p hp => ?_⟩
          have hA2 : (upd H' p (.tup [.int (n : Nat), .str (cutS z (some (n : Nat)) (some (tend (ls z) n : Nat)))])) a = some (.lst us) := by
            rw [upd_ne (ne_of_none hA hp)]
            exact hA
          have etx : cutS z (some (n : Nat)) (some (tend (ls z) n : Nat)) = tx (List.take (tend (ls z) n - n) (List.drop n (ls z))) := ls_inj (by rw [ls_cut, ls_tx])
          have kpp := kp.trans (Kp.new (r := a) (o := .tup [.int (n : Nat), .str (cutS z (some (n : Nat)) (some (tend (ls z) n : Nat)))]) hp)
          have tp2 : Tp H' (upd (upd H' p (.tup [.int (n : Nat), .str (cutS z (some (n : Nat)) (some (tend (ls z) n : Nat)))])) a (.lst (us ++ [.ref p]))) := (tp_new hp).trans (tp_set hA2)
          refine ⟨a, _, _, rfl, rfl, hA2, Nat.lt_of_le_of_lt (show us.length ≤ 1000 by omega) (by decide), us ++ [.ref p], t0 ++ [tx (List.take (tend (ls z) n - n) (List.drop n (ls z)))], ts', rfl, upd_same, ?_, (hal.imp (TkV.tp tp2)).app (.cons ⟨p, (n : Nat), rfl, ?_⟩ .nil), hk, ?_, kpp.trans Kp.at⟩
          · rw [List.length_append, List.length_singleton]
            omega
          · rw [← etx]
            exact (tp_set hA2).sq (SqT.of upd_same)
          · rw [List.append_assoc, ← e, et]
            rfl
    · rintro σ2 H2 ⟨us2, t2, t3, rfl, hA2, hu2, hal2, htk2, e2, kp2⟩
      exact ⟨_, rfl, tend (ls z) n, _, us2, t2, t3, rfl, hgt, h1, hA2, hu2, hal2, htk2, e2, kp2⟩
  · have hge : ¬ ((n : Int) < (z.length : Nat)) := fun q => h (decide_eq_true q)
    have hn2 : n = (ls z).length := by omega
    rw [List.drop_eq_nil_of_le (by omega)] at htk
    cases htk
    refine ⟨_, rfl, .inl ⟨rfl, _, SqL.of hA⟩, _, rfl, _, rfl, fit (by omega), (by show 2 ≤ sizeLine; decide), fun p hp => ?_⟩
    have hA2 : (upd H' p (.tup [.int (z.length : Nat), .str ""])) a = some (.lst us) := by
      rw [upd_ne (ne_of_none hA hp)]
      exact hA
    have kpp := kp.trans (Kp.new (r := a) (o := .tup [.int (z.length : Nat), .str ""]) hp)
    have tp2 : Tp H' (upd (upd H' p (.tup [.int (z.length : Nat), .str ""])) a (.lst (us ++ [.ref p]))) := (tp_new hp).trans (tp_set hA2)
    refine ⟨a, _, _, rfl, rfl, hA2, Nat.lt_of_le_of_lt (show us.length ≤ 1000 by omega) (by decide), _, rfl, ?_⟩
    refine q a (us ++ [.ref p]) _ upd_same ha ?_ ?_
    · rw [← e, List.append_nil]
      exact (hal.imp (TkV.tp tp2)).app (.cons ⟨p, _, rfl, (tp_set hA2).sq (SqT.of upd_same)⟩ .nil)
    · have kk := kpp.trans (Kp.at (o := .lst (us ++ [.ref p])))
      exact fun b o hb => kk b o (ne_of_none hb ha) hb
end
end SW

set_option Elab.async false
set_option linter.all false
set_option maxRecDepth 100000
set_option maxHeartbeats 4000000
namespace SW
open PySem PySem.Spec PyProof.Rows L2
section
variable {P : Program} {w : World} {K : PySem.W.Frag} {mg : Str → Option Value} {base : Heap}
/-! ### one token taken -/
def spTake (K : PySem.W.Frag) : Sp := fun vs H Q _ => ∃ (a e : Addr) (t : Str) (ts L : List Str), vs = [.ref a, .ref e] ∧ TokL K H a (t :: ts) ∧ H e = some (.lst (L.map V.str)) ∧ t ∈ L ∧ ∀ H', TokL K H' a ts → Kp a H H' → Q (.str t) H'
theorem TkV.pop {H : Hp} {a : Addr} {t : Str} {ts : List Str} (h : TokL K H a (t :: ts)) : ∃ p n vs, H a = some (.lst (vs ++ [.ref p])) ∧ SqT K H p [.int n, .str t] ∧ TokL K (upd H a (.lst vs)) a ts := by
  obtain ⟨v, vs, e, ⟨p, n, rfl, s⟩, r⟩ := h.pop
  exact ⟨p, n, _, e, s, vs, upd_same, r.imp (TkV.tp (tp_set e))⟩
theorem ni_no {c : Str} {L : List Str} {A B : Prop} (h : c ∈ L) (q : B) : ∃ k, V.bl (if true = true then !inV (.str c) (L.map V.str) else inV (.str c) (L.map V.str)) = V.bl k ∧ if k = true then A else B :=
  ⟨false, by rw [if_pos rfl, inV_str, decide_eq_true h]; rfl, q⟩
theorem sc__take : FnScope ["tokens", "expected", "position", "token"] ["tokens", "expected"] (defScope s__take) := ⟨rfl, rfl, rfl, by decide +kernel, rfl, by decide +kernel, by decide +kernel⟩
theorem ok_take (D : Df K mg "_take" s__take ["tokens", "expected"]) (bi : Bi mg) : Cal P w K mg base 1 "_take" ["tokens", "expected"] (spTake K) := by
  refine D.ok sc__take (fun vs H Q E h => ?_) (fun f cdv A outer s H vs Q E hr h => ?_)
  · obtain ⟨a, e, t, ts, L, rfl, _⟩ := h
    rfl
  obtain ⟨a, e, t, ts, L, rfl, hT, hL, hm, q⟩ := h
  obtain ⟨p, n, vs, hA, s, hT2⟩ := TkV.pop hT
  refine ⟨_, (pss_cons (ps_asg (pe_bm0 PySem.F.plainAttrs_list PySem.F.slot_list_pop PySem.F.type_list_pop mt_pop (pv 0)) (pg_tup rfl (pgs_cons (pg_name (i := 2) sc__take.nd rfl (.inl rfl)) (pgs_cons (pg_name (i := 3) sc__take.nd rfl (.inl rfl)) pgs_nil))))
      (pss_cons (ps_if (pt_cmpR op_notIn_seq (pv 3) (pv 1) (by rfl)) pss_never pss_nil)
      (pss_one (ps_ret (pv 3))))), ?_⟩
  refine ⟨_, rfl, .inl ⟨rfl, _, SqL.of hA⟩, a, _, _, rfl, rfl, hA, last_get, ?_⟩
  rw [List.dropLast_concat]
  refine ⟨p, _, rfl, (tp_set hA).sq s, rfl, _, _, rfl, _, _, rfl, rfl, ?_⟩
  have ne : e ≠ a := fun h => by
    rw [h, hA] at hL
    have h2 := (HO.lst.inj (Option.some.inj hL))
    have h3 : V.ref p ∈ L.map V.str := by rw [← h2]; simp
    obtain ⟨x, _, hx⟩ := List.mem_map.mp h3
    cases hx
  refine ⟨_, rfl, _, rfl, e, _, rfl, .inl (SqL.of (by rw [upd_ne ne]; exact hL)), rfl, flat_strs L, ni_no hm ?_⟩
  exact ⟨_, rfl, q _ hT2 Kp.at⟩
theorem low26 : ((List.range 26).all fun i => Unicode.isLower (i + 97) && !(Unicode.isUpper (i + 97) || Unicode.isTitle (i + 97))) = true := by decide +kernel
theorem low_uni {c : Nat} (h : low c) : Unicode.isLower c = true ∧ (Unicode.isUpper c || Unicode.isTitle c) = false := by
  unfold low at h
  have := List.all_eq_true.mp low26 (c - 97) (List.mem_range.mpr (by omega))
  rw [show c - 97 + 97 = c by omega, Bool.and_eq_true, Bool.not_eq_true'] at this
  exact this
theorem nm_lower {c : Str} (h : NmOk c) : Txt.islower c = true := by
  obtain ⟨h1, _, h3⟩ := h
  unfold Txt.islower
  rw [Bool.and_eq_true, Bool.not_eq_true', Array.any_eq_true, Array.any_eq_false]
  refine ⟨⟨0, h1, ?_⟩, fun i hi => ?_⟩
  · exact (low_uni (h3 _ (Array.mem_toList_iff.mpr (Array.getElem_mem _)))).1
  · rw [(low_uni (h3 _ (Array.mem_toList_iff.mpr (Array.getElem_mem hi)))).2]
    exact Bool.false_ne_true
def spTakeN (K : PySem.W.Frag) : Sp := fun vs H Q _ => ∃ (a : Addr) (t : Str) (ts : List Str), vs = [.ref a] ∧ TokL K H a (t :: ts) ∧ NmOk t ∧ ∀ H', TokL K H' a ts → Kp a H H' → Q (.str t) H'
theorem sc__take_name : FnScope ["tokens", "position", "token"] ["tokens"] (defScope s__take_name) := ⟨rfl, rfl, rfl, by decide +kernel, rfl, by decide +kernel, by decide +kernel⟩
theorem ok_take_name (D : Df K mg "_take_name" s__take_name ["tokens"]) (bi : Bi mg) {vN : Value} (mMAX_NAME : mg "MAX_NAME" = some vN) (rMAX_NAME : L2.RelV (.int 8) vN) : Cal P w K mg base 1 "_take_name" ["tokens"] (spTakeN K) := by
  refine D.ok sc__take_name (fun vs H Q E h => ?_) (fun f cdv A outer s H vs Q E hr h => ?_)
  · obtain ⟨a, t, ts, rfl, _⟩ := h
    rfl
  obtain ⟨a, t, ts, rfl, hT, hm, q⟩ := h
  obtain ⟨p, n, vs, hA, s, hT2⟩ := TkV.pop hT
  have h8 : t.length ≤ 8 := hm.2.1
  refine ⟨_, (pss_cons (ps_asg (pe_bm0 PySem.F.plainAttrs_list PySem.F.slot_list_pop PySem.F.type_list_pop mt_pop (pv 0)) (pg_tup rfl (pgs_cons (pg_name (i := 1) sc__take_name.nd rfl (.inl rfl)) (pgs_cons (pg_name (i := 2) sc__take_name.nd rfl (.inl rfl)) pgs_nil))))
      (pss_cons (ps_if (PW.pt (pw_or (pt_not (pt_val (pe_bm0 PySem.F.plainAttrs_str PySem.F.slot_str_islower PySem.F.type_str_islower mt_islower (pv 2)))) (pw_or1 (pt_cmpR op_gt (pe_callB call_len_str (by rfl) bi.len PySem.boot_len (pa_cons (pv 2) pa_nil)) (pe_glob (v := .int 8) (by rfl) mMAX_NAME rMAX_NAME) (nomark _))))) pss_never pss_nil)
      (pss_one (ps_ret (pv 2))))), ?_⟩
  refine ⟨_, rfl, .inl ⟨rfl, _, SqL.of hA⟩, a, _, _, rfl, rfl, hA, last_get, ?_⟩
  rw [List.dropLast_concat]
  refine ⟨p, _, rfl, (tp_set hA).sq s, rfl, _, _, rfl, _, _, rfl, rfl, ?_⟩
  refine ⟨_, rfl, rfl, t, rfl, rfl, trivial, _, rfl, ?_⟩
  rw [nm_lower hm]
  refine ⟨_, rfl, _, rfl, fit (by omega), _, _, rfl, rfl, _, rfl, ?_⟩
  rw [decide_eq_false (by omega)]
  exact ⟨_, rfl, q _ hT2 Kp.at⟩
end
end SW

set_option Elab.async false
set_option linter.all false
set_option maxRecDepth 100000
set_option maxHeartbeats 4000000
namespace SW
open PySem PySem.Spec PyProof.Rows L2
section
variable {P : Program} {w : World} {K : PySem.W.Frag} {mg : Str → Option Value} {base : Heap}
/-! ### the tokens and what is begun, kept -/
theorem sg_abc : signs "abc" = abc.map V.str := by decide +kernel
theorem sg_xyz : signs "xyz" = xyz.map V.str := by decide +kernel
theorem sg_XYZ : signs "XYZ" = XYZ.map V.str := by decide +kernel
theorem tok_new {H : Hp} {a p : Addr} {o : HO} {ts : List Str} (h : TokL K H a ts) (hp : H p = none) : TokL K (upd H p o) a ts :=
  h.keep (TkV.tp (tp_new hp)) fun o e => by rw [upd_ne (ne_of_none e hp)]; exact e
theorem fr_new {H : Hp} {a p : Addr} {o : HO} {c : List Fr} (h : FrL K H a c) (hp : H p = none) : FrL K (upd H p o) a c :=
  h.keep (FrV.tp (tp_new hp)) fun o e => by rw [upd_ne (ne_of_none e hp)]; exact e
structure RS (K : PySem.W.Frag) (a b : Addr) (H H' : Hp) (ts : List Str) (c : List Fr) : Prop where
  tok : TokL K H' a ts
  fr : FrL K H' b c
  kp : Kp2 a b H H'
theorem RS.new {a b p : Addr} {H H' : Hp} {ts : List Str} {c : List Fr} {o : HO} (r : RS K a b H H' ts c) (hp : H' p = none) : RS K a b H (upd H' p o) ts c :=
  ⟨tok_new r.tok hp, fr_new r.fr hp, r.kp.trans (Kp.new hp).two⟩
theorem RS.took {a b : Addr} {H H1 H2 : Hp} {ts ts' : List Str} {c : List Fr} (r : RS K a b H H1 ts c) (ne : b ≠ a) (h : TokL K H2 a ts') (k : Kp a H1 H2) : RS K a b H H2 ts' c := by
  obtain ⟨z, hz⟩ := r.tok.lst
  exact ⟨h, r.fr.keep (FrV.tp (k.tp hz)) (fun o e => k _ _ ne e), r.kp.trans k.two⟩
theorem RS.put {a b : Addr} {H H1 : Hp} {ts : List Str} {c : List Fr} {v : V} {fr : Fr} {vs : List V} (r : RS K a b H H1 ts c) (ne : b ≠ a) (hb : H1 b = some (.lst vs)) (hv : FrV K (upd H1 b (.lst (vs ++ [v]))) v fr) : RS K a b H (upd H1 b (.lst (vs ++ [v]))) ts (fr :: c) := by
  obtain ⟨us, e, q⟩ := r.fr
  rw [hb] at e
  have e2 := HO.lst.inj (Option.some.inj e)
  refine ⟨r.tok.keep (TkV.tp (tp_set hb)) (fun o e => by rw [upd_ne ne.symm]; exact e), ?_, r.kp.trans Kp2.at⟩
  exact Stk.push (by rw [upd_same, e2]) hv (q.imp (FrV.tp (tp_set hb)))
/-! ### a relation of two places -/
theorem rel_sides {k x b : Str} (o : RelOk k x b) (hk : k ≠ "letter") : x ∈ xyz ∧ ((k = "in" ∧ b ∈ XYZ) ∨ (k ≠ "in" ∧ b ∈ xyz)) := by
  cases o with
  | ltr => exact absurd rfl hk
  | pl h ha hb => exact ⟨ha, .inr ⟨by rcases h with h | h | h <;> rw [h] <;> decide +kernel, hb⟩⟩
  | el ha hb => exact ⟨ha, .inl ⟨rfl, hb⟩⟩
theorem sgn_in {k x b : Str} (o : RelOk k x b) (hk : k ≠ "letter") : sgn k = "in" ↔ k = "in" := by
  rcases kd_rel o with e | e | e | e | e
  · exact absurd e hk
  all_goals (rw [e]; decide +kernel)
def spRel (K : PySem.W.Frag) : Sp := fun vs H Q _ => ∃ (a : Addr) (k x b : Str) (ts : List Str), vs = [.ref a, .str x] ∧ TokL K H a (sgn k :: b :: ts) ∧ RelOk k x b ∧ k ≠ "letter" ∧ ∀ v H', FV K H' v (.rel k x b) → TokL K H' a ts → Kp a H H' → Q v H'
theorem sc__read_relation : FnScope ["tokens", "place", "sign", "other"] ["tokens", "place"] (defScope s__read_relation) := ⟨rfl, rfl, rfl, by decide +kernel, rfl, by decide +kernel, by decide +kernel⟩
theorem ok_relation {aK : Addr} {vP vS : Value} (D : Df K mg "_read_relation" s__read_relation ["tokens", "place"]) (bi : Bi mg) (mKINDS : mg "KINDS" = some (.ref aK)) (kK : KdS K w aK kndT) (mPLACES : mg "PLACES" = some vP) (rP : L2.RelV (.str "xyz") vP) (mSETS : mg "SETS" = some vS) (rS : L2.RelV (.str "XYZ") vS)
    (c_take : Cal P w K mg base 1 "_take" ["tokens", "expected"] (spTake K)) : Cal P w K mg base 2 "_read_relation" ["tokens", "place"] (spRel K) := by
  refine D.ok sc__read_relation (fun vs H Q E h => ?_) (fun f cdv A outer s H vs Q E hr h => ?_)
  · obtain ⟨a, k, x, b, ts, rfl, _⟩ := h
    rfl
  obtain ⟨a, k, x, b, ts, rfl, hT, ho, hk, q⟩ := h
  have hs := (rel_sides ho hk).2
  refine ⟨_, (pss_cons (ps_set (i := 2) sc__read_relation.nd rfl (.inl rfl) (pe_own c_take hr (by omega) (by rfl) (pa_cons (pv 0) (pa_cons (pe_callTy (call_list_kd rfl) (by rfl) bi.list (by decide +kernel) (pa_cons (pe_glob (v := .ref aK) (by rfl) mKINDS rfl) pa_nil)) pa_nil))))
      (pss_cons (ps_set (i := 3) sc__read_relation.nd rfl (.inl rfl) (pe_own c_take hr (by omega) (by rfl) (pa_cons (pv 0) (pa_cons (pe_ifExp (pt_cmpR op_eq (pv 2) pe_str (nomark _)) (pe_callTy (call_list_S rfl) (by rfl) bi.list (by decide +kernel) (pa_cons (pe_glob (v := .str "XYZ") (by rfl) mSETS rS) pa_nil)) (pe_callTy (call_list_S rfl) (by rfl) bi.list (by decide +kernel) (pa_cons (pe_glob (v := .str "xyz") (by rfl) mPLACES rP) pa_nil))) pa_nil))))
      (pss_one (ps_ret (pe_tup (pa_cons (pe_ix ix_kdict (pe_glob (v := .ref aK) (by rfl) mKINDS rfl) (pv 2) (fun _ _ => rfl)) (pa_cons (pv 1) (pa_cons (pv 3) pa_nil)))))))), ?_⟩
  refine ⟨_, rfl, _, _, rfl, kK.1, fun p hp => ?_⟩
  refine ⟨a, p, _, _, kndT.map fun p => p.1, rfl, tok_new hT hp, upd_same, List.mem_map.mpr ⟨_, knd_mem ho hk, rfl⟩, fun H1 hT1 k1 => ?_⟩
  have kk := (Kp.new (r := a) (o := .lst ((kndT.map fun p => p.1).map V.str)) hp).trans k1
  rcases hs with ⟨hin, hb⟩ | ⟨hin, hb⟩
  · refine ⟨_, rfl, _, rfl, rfl, eq_yes ((sgn_in ho hk).mpr hin) ?_⟩
    refine ⟨_, rfl, by decide, fun p2 hp2 => ?_⟩
    refine ⟨a, p2, _, _, XYZ, rfl, tok_new hT1 hp2, by rw [upd_same, sg_XYZ], hb, fun H2 hT2 k2 => ?_⟩
    refine ⟨_, rfl, _, _, _, rfl, rfl, kK.of (knd_mem ho hk), _, rfl, _, rfl, (by show 3 ≤ sizeLine; decide), fun p3 hp3 => ?_⟩
    exact q _ _ (fv_rel (SqT.of upd_same)) (tok_new hT2 hp3) (kk.trans ((Kp.new hp2).trans (k2.trans (Kp.new hp3))))
  · refine ⟨_, rfl, _, rfl, rfl, eq_no (fun e => hin ((sgn_in ho hk).mp e)) ?_⟩
    refine ⟨_, rfl, by decide, fun p2 hp2 => ?_⟩
    refine ⟨a, p2, _, _, xyz, rfl, tok_new hT1 hp2, by rw [upd_same, sg_xyz], hb, fun H2 hT2 k2 => ?_⟩
    refine ⟨_, rfl, _, _, _, rfl, rfl, kK.of (knd_mem ho hk), _, rfl, _, rfl, (by show 3 ≤ sizeLine; decide), fun p3 hp3 => ?_⟩
    exact q _ _ (fv_rel (SqT.of upd_same)) (tok_new hT2 hp3) (kk.trans ((Kp.new hp2).trans (k2.trans (Kp.new hp3))))
end
end SW

set_option Elab.async false
set_option linter.all false
set_option maxRecDepth 100000
set_option maxHeartbeats 4000000
namespace SW
open PySem PySem.Spec PyProof.Rows L2
section
variable {P : Program} {w : World} {K : PySem.W.Frag} {mg : Str → Option Value} {base : Heap}
/-! ### what a formula begins with -/
theorem RS.bl {a b : Addr} {H H' : Hp} {ts : List Str} {c : List Fr} (r : RS K a b H H' ts c) : ∃ zs, H' b = some (.lst zs) ∧ zs.length = c.length := by
  obtain ⟨us, e, q⟩ := r.fr
  exact ⟨_, e, by rw [List.length_reverse, q.len]⟩
abbrev fstT : List Str := abc ++ (xyz ++ (qus ++ (["not", "(", "{"] : List Str)))
theorem fst_eq : signs "abc" ++ (signs "xyz" ++ ([V.str "some", V.str "all"] ++ [V.str "not", .str "(", .str "{"])) = fstT.map V.str := by
  rw [sg_abc, sg_xyz]
  rfl
theorem mem_l {x : Str} {L M : List Str} (h : x ∈ L) : x ∈ L ++ M := List.mem_append_left _ h
theorem mem_r {x : Str} {L M : List Str} (h : x ∈ M) : x ∈ L ++ M := List.mem_append_right _ h
theorem first_tok (g : Fm) (o : g.Ok) (us : List Str) : ∃ t ts, g.toks ++ us = t :: ts ∧ t ∈ fstT := by
  cases g with
  | rel k a b =>
    have o' : RelOk k a b := o
    by_cases hk : k = "letter"
    · subst hk
      have ha : a ∈ abc := by
        cases o' with
        | ltr ha hb => exact ha
        | pl hk => rcases hk with h | h | h <;> exact absurd h (by decide +kernel)
      exact ⟨a, ([("(" : Str), b, ")"] : List Str) ++ us, by rw [Fm.toks, if_pos rfl]; rfl, mem_l ha⟩
    · exact ⟨a, [sgn k, b] ++ us, by rw [Fm.toks, if_neg hk]; rfl, mem_r (mem_l (rel_sides o' hk).1)⟩
  | nam c => exact ⟨"{", ([c, "}"] : List Str) ++ us, rfl, by decide +kernel⟩
  | neg f => exact ⟨"not", f.toks ++ us, rfl, by decide +kernel⟩
  | bin k f g => exact ⟨"(", _, rfl, by decide +kernel⟩
  | qu k x f => exact ⟨k, _, rfl, mem_r (mem_r (mem_l (qu_in o.1 (by decide +kernel))))⟩
theorem xyz_abc {x : Str} (h : x ∈ xyz) : x ∉ abc := mem3 (P := fun x => x ∉ abc) h (by decide +kernel) (by decide +kernel) (by decide +kernel)
def spBegin (K : PySem.W.Frag) : Sp := fun vs H Q _ => ∃ (a b : Addr) (g : Fm) (us : List Str) (c : List Fr), vs = [.ref a, .ref b] ∧ TokL K H a (g.toks ++ us) ∧ FrL K H b c ∧ b ≠ a ∧ g.Ok ∧ c.length ≤ 1000 ∧
  (g.opn = none → ∀ v H', FV K H' v g → RS K a b H H' us c → Q v H') ∧ (∀ f fr, g.opn = some (f, fr) → ∀ H', RS K a b H H' (f.toks ++ (fr.tl ++ us)) (fr :: c) → Q .non H')
theorem sc__begin : FnScope ["tokens", "begun", "token", "place", "name"] ["tokens", "begun"] (defScope s__begin) := ⟨rfl, rfl, rfl, by decide +kernel, rfl, by decide +kernel, by decide +kernel⟩
theorem ok_begin {aQ : Addr} {vL vP vS : Value} (D : Df K mg "_begin" s__begin ["tokens", "begun"]) (bi : Bi mg) (mLETTERS : mg "LETTERS" = some vL) (tk : L2.RelV (.str "abc") vL) (mPLACES : mg "PLACES" = some vP) (rP : L2.RelV (.str "xyz") vP) (mSETS : mg "SETS" = some vS) (rS : L2.RelV (.str "XYZ") vS)
    (mQUANTIFIERS : mg "QUANTIFIERS" = some (.ref aQ)) (hQ : ∀ H, SqT K H aQ [.str "some", .str "all"])
    (c_take : Cal P w K mg base 1 "_take" ["tokens", "expected"] (spTake K)) (c_take_name : Cal P w K mg base 1 "_take_name" ["tokens"] (spTakeN K)) (c_read_relation : Cal P w K mg base 2 "_read_relation" ["tokens", "place"] (spRel K)) : Cal P w K mg base 3 "_begin" ["tokens", "begun"] (spBegin K) := by
  refine D.ok sc__begin (fun vs H Q E h => ?_) (fun f cdv A outer s H vs Q E hr h => ?_)
  · obtain ⟨a, b, g, us, c, rfl, _⟩ := h
    rfl
  obtain ⟨a, b, g, us, c, rfl, hT, hF, ne, ho, hc, q1, q2⟩ := h
  obtain ⟨tkl, rfl⟩ := tk
  refine ⟨_, (pss_cons (ps_set (i := 2) sc__begin.nd rfl (.inl rfl) (pe_own c_take hr (by omega) (by rfl) (pa_cons (pv 0) (pa_cons (pe_lst (pa_starS rfl (pe_glob (v := .str "abc") (by rfl) mLETTERS ⟨_, rfl⟩) (pa_starS rfl (pe_glob (v := .str "xyz") (by rfl) mPLACES rP) (StX.pa_star (pe_glob (v := .ref aQ) (by rfl) mQUANTIFIERS rfl) (pa_cons pe_str (pa_cons pe_str (pa_cons pe_str pa_nil))))))) pa_nil))))
      (pss_cons (ps_if (pt_cmpR op_in_seq (pv 2) (pe_callTy (call_list_S rfl) (by rfl) bi.list (by decide +kernel) (pa_cons (pe_glob (v := .str "abc") (by rfl) mLETTERS ⟨_, rfl⟩) pa_nil)) (by rfl)) (pss_cons (ps_expr (pe_own c_take hr (by omega) (by rfl) (pa_cons (pv 0) (pa_cons (pe_lst (pa_cons pe_str pa_nil)) pa_nil))))
      (pss_cons (ps_set (i := 3) sc__begin.nd rfl (.inl rfl) (pe_own c_take hr (by omega) (by rfl) (pa_cons (pv 0) (pa_cons (pe_callTy (call_list_S rfl) (by rfl) bi.list (by decide +kernel) (pa_cons (pe_glob (v := .str "xyz") (by rfl) mPLACES rP) pa_nil)) pa_nil))))
      (pss_cons (ps_expr (pe_own c_take hr (by omega) (by rfl) (pa_cons (pv 0) (pa_cons (pe_lst (pa_cons pe_str pa_nil)) pa_nil))))
      (pss_one (ps_ret (pe_tup (pa_cons pe_str (pa_cons (pv 2) (pa_cons (pv 3) pa_nil))))))))) pss_nil)
      (pss_cons (ps_if (pt_cmpR op_in_seq (pv 2) (pe_callTy (call_list_S rfl) (by rfl) bi.list (by decide +kernel) (pa_cons (pe_glob (v := .str "xyz") (by rfl) mPLACES rP) pa_nil)) (by rfl)) (pss_one (ps_ret (pe_own c_read_relation hr (by omega) (by rfl) (pa_cons (pv 0) (pa_cons (pv 2) pa_nil))))) pss_nil)
      (pss_cons (ps_if (pt_cmpR op_eq (pv 2) pe_str (nomark _)) (pss_cons (ps_set (i := 4) sc__begin.nd rfl (.inl rfl) (pe_own c_take_name hr (by omega) (by rfl) (pa_cons (pv 0) pa_nil)))
      (pss_cons (ps_expr (pe_own c_take hr (by omega) (by rfl) (pa_cons (pv 0) (pa_cons (pe_lst (pa_cons pe_str pa_nil)) pa_nil))))
      (pss_one (ps_ret (pe_tup (pa_cons pe_str (pa_cons (pv 4) pa_nil))))))) pss_nil)
      (C8.pss_cut (ps_if (pt_cmpR op_in_seq (pv 2) (pe_glob (v := .ref aQ) (by rfl) mQUANTIFIERS rfl) (by rfl)) (pss_one (ps_expr (pe_bm PySem.F.plainAttrs_list PySem.F.slot_list_append PySem.F.type_list_append mt_append (pv 1) (pa_cons (pe_tup (pa_cons (pv 2) (pa_cons (pe_own c_take hr (by omega) (by rfl) (pa_cons (pv 0) (pa_cons (pe_lst (pa_starS rfl (pe_glob (v := .str "xyz") (by rfl) mPLACES rP) (pa_starS rfl (pe_glob (v := .str "XYZ") (by rfl) mSETS rS) pa_nil))) pa_nil))) pa_nil))) pa_nil)))) (pss_one (ps_expr (pe_bm PySem.F.plainAttrs_list PySem.F.slot_list_append PySem.F.type_list_append mt_append (pv 1) (pa_cons (pe_tup (pa_cons (pv 2) pa_nil)) pa_nil)))))
      (pss_one (ps_ret pe_non))))))), ?_⟩
  obtain ⟨t, ts, et, hm⟩ := first_tok g ho us
  rw [et] at hT
  have r0 : RS K a b H H (t :: ts) c := ⟨hT, hF, Kp2.refl a b H⟩
  refine ⟨_, rfl, _, rfl, by decide, _, rfl, by decide, aQ, _, rfl, .inl (hQ _), (by show 11 ≤ sizeLine; decide), fun p hp => ?_⟩
  refine ⟨a, p, t, ts, fstT, rfl, tok_new hT hp, by rw [upd_same]; exact congrArg (fun l => some (HO.lst l)) fst_eq, hm, fun H1 hT1 k1 => ?_⟩
  have r1 := (r0.new (o := .lst (signs "abc" ++ (signs "xyz" ++ ([V.str "some", V.str "all"] ++ [V.str "not", .str "(", .str "{"])))) hp).took ne hT1 k1
  have lz : ∀ {n : Nat}, n = c.length → n < sizeLine := fun e => Nat.lt_of_le_of_lt (show _ ≤ 1000 by omega) (by decide)
  cases g with
  | rel k x y =>
    have ho' : RelOk k x y := ho
    by_cases hk : k = "letter"
    · subst hk
      have hxy : x ∈ abc ∧ y ∈ xyz := by
        cases ho' with
        | ltr ha hb => exact ⟨ha, hb⟩
        | pl hk => rcases hk with h | h | h <;> exact absurd h (by decide +kernel)
      rw [Fm.toks, if_pos rfl] at et
      injection et with e1 e2
      subst e1 e2
      refine ⟨_, rfl, _, rfl, by decide, fun p2 hp2 => ⟨p2, abc.map V.str, rfl, .inl (SqL.of (by rw [upd_same, sg_abc])), rfl, rfl, in_yes abc hxy.1 ?_⟩⟩
      have r2 := r1.new (o := .lst (signs "abc")) hp2
      refine ⟨_, rfl, (by show 1 ≤ sizeLine; decide), fun p3 hp3 => ⟨a, p3, _, _, ["("], rfl, tok_new r2.tok hp3, upd_same, List.mem_singleton.mpr rfl, fun H3 hT3 k3 => ?_⟩⟩
      have r3 := (r2.new (o := .lst [.str "("]) hp3).took ne hT3 k3
      refine ⟨_, rfl, _, rfl, by decide, fun p4 hp4 => ⟨a, p4, _, _, xyz, rfl, tok_new r3.tok hp4, by rw [upd_same, sg_xyz], hxy.2, fun H4 hT4 k4 => ?_⟩⟩
      have r4 := (r3.new (o := .lst (signs "xyz")) hp4).took ne hT4 k4
      refine ⟨_, rfl, (by show 1 ≤ sizeLine; decide), fun p5 hp5 => ⟨a, p5, _, _, [")"], rfl, tok_new r4.tok hp5, upd_same, List.mem_singleton.mpr rfl, fun H5 hT5 k5 => ?_⟩⟩
      have r5 := (r4.new (o := .lst [.str ")"]) hp5).took ne hT5 k5
      refine ⟨_, rfl, _, rfl, (by show 3 ≤ sizeLine; decide), fun p6 hp6 => ?_⟩
      exact q1 rfl _ _ (fv_rel (SqT.of upd_same)) (r5.new hp6)
    · rw [Fm.toks, if_neg hk] at et
      injection et with e1 e2
      subst e1 e2
      have hx := (rel_sides ho' hk).1
      refine ⟨_, rfl, _, rfl, by decide, fun p2 hp2 => ⟨p2, abc.map V.str, rfl, .inl (SqL.of (by rw [upd_same, sg_abc])), rfl, rfl, in_no abc (xyz_abc hx) ?_⟩⟩
      have r2 := r1.new (o := .lst (signs "abc")) hp2
      refine ⟨_, rfl, _, rfl, by decide, fun p3 hp3 => ⟨p3, xyz.map V.str, rfl, .inl (SqL.of (by rw [upd_same, sg_xyz])), rfl, rfl, in_yes xyz hx ?_⟩⟩
      have r3 := r2.new (o := .lst (signs "xyz")) hp3
      exact ⟨_, rfl, _, rfl, a, k, x, y, us, rfl, r3.tok, ho', hk, fun v H4 hv hT4 k4 => q1 rfl v H4 hv (r3.took ne hT4 k4)⟩
  | nam n =>
    injection et with e1 e2
    subst e1 e2
    refine ⟨_, rfl, _, rfl, by decide, fun p2 hp2 => ⟨p2, abc.map V.str, rfl, .inl (SqL.of (by rw [upd_same, sg_abc])), rfl, rfl, in_no abc (by decide +kernel) ?_⟩⟩
    have r2 := r1.new (o := .lst (signs "abc")) hp2
    refine ⟨_, rfl, _, rfl, by decide, fun p3 hp3 => ⟨p3, xyz.map V.str, rfl, .inl (SqL.of (by rw [upd_same, sg_xyz])), rfl, rfl, in_no xyz (by decide +kernel) ?_⟩⟩
    have r3 := r2.new (o := .lst (signs "xyz")) hp3
    refine ⟨_, rfl, rfl, eq_yes rfl ?_⟩
    refine ⟨_, rfl, a, n, _, rfl, r3.tok, ho, fun H4 hT4 k4 => ?_⟩
    have r4 := r3.took ne hT4 k4
    refine ⟨_, rfl, (by show 1 ≤ sizeLine; decide), fun p5 hp5 => ⟨a, p5, _, _, ["}"], rfl, tok_new r4.tok hp5, upd_same, List.mem_singleton.mpr rfl, fun H5 hT5 k5 => ?_⟩⟩
    have r5 := (r4.new (o := .lst [.str "}"]) hp5).took ne hT5 k5
    refine ⟨_, rfl, (by show 2 ≤ sizeLine; decide), fun p6 hp6 => ?_⟩
    exact q1 rfl _ _ (fv_nam (SqT.of upd_same)) (r5.new hp6)
  | neg f =>
    injection et with e1 e2
    subst e1 e2
    refine ⟨_, rfl, _, rfl, by decide, fun p2 hp2 => ⟨p2, abc.map V.str, rfl, .inl (SqL.of (by rw [upd_same, sg_abc])), rfl, rfl, in_no abc (by decide +kernel) ?_⟩⟩
    have r2 := r1.new (o := .lst (signs "abc")) hp2
    refine ⟨_, rfl, _, rfl, by decide, fun p3 hp3 => ⟨p3, xyz.map V.str, rfl, .inl (SqL.of (by rw [upd_same, sg_xyz])), rfl, rfl, in_no xyz (by decide +kernel) ?_⟩⟩
    have r3 := r2.new (o := .lst (signs "xyz")) hp3
    refine ⟨_, rfl, rfl, eq_no (by decide +kernel) ?_⟩
    refine ⟨fun _ H' => RS K a b H H' (f.toks ++ us) (.nt :: c), ?_, fun σ' H' r => q2 _ _ rfl _ r⟩
    refine ⟨_, rfl, aQ, _, rfl, .inr (hQ _), rfl, rfl, in_no qus (by decide +kernel) ?_⟩
    obtain ⟨zs, hz, hl⟩ := r3.bl
    refine ⟨_, rfl, .inl ⟨rfl, _, SqL.of hz⟩, _, rfl, (by show 1 ≤ sizeLine; decide), fun p5 hp5 => ?_⟩
    have r5 := r3.new (o := .tup [.str "not"]) hp5
    have hz5 : (upd (upd (upd H1 p2 (.lst (signs "abc"))) p3 (.lst (signs "xyz"))) p5 (.tup [.str "not"])) b = some (.lst zs) := by rw [upd_ne (ne_of_none hz hp5)]; exact hz
    refine ⟨b, _, _, rfl, rfl, hz5, lz hl, ?_⟩
    exact r5.put ne hz5 ⟨p5, rfl, (tp_set hz5).sq (SqT.of upd_same)⟩
  | bin k f g =>
    injection et with e1 e2
    subst e1
    have e3 : ts = f.toks ++ ((Fr.op k g).tl ++ us) := by
      rw [← e2, Fr.tl]
      simp
    subst e3
    refine ⟨_, rfl, _, rfl, by decide, fun p2 hp2 => ⟨p2, abc.map V.str, rfl, .inl (SqL.of (by rw [upd_same, sg_abc])), rfl, rfl, in_no abc (by decide +kernel) ?_⟩⟩
    have r2 := r1.new (o := .lst (signs "abc")) hp2
    refine ⟨_, rfl, _, rfl, by decide, fun p3 hp3 => ⟨p3, xyz.map V.str, rfl, .inl (SqL.of (by rw [upd_same, sg_xyz])), rfl, rfl, in_no xyz (by decide +kernel) ?_⟩⟩
    have r3 := r2.new (o := .lst (signs "xyz")) hp3
    refine ⟨_, rfl, rfl, eq_no (by decide +kernel) ?_⟩
    refine ⟨fun _ H' => RS K a b H H' (f.toks ++ ((Fr.op k g).tl ++ us)) ((.op k g) :: c), ?_, fun σ' H' r => q2 _ _ rfl _ r⟩
    refine ⟨_, rfl, aQ, _, rfl, .inr (hQ _), rfl, rfl, in_no qus (by decide +kernel) ?_⟩
    obtain ⟨zs, hz, hl⟩ := r3.bl
    refine ⟨_, rfl, .inl ⟨rfl, _, SqL.of hz⟩, _, rfl, (by show 1 ≤ sizeLine; decide), fun p5 hp5 => ?_⟩
    have r5 := r3.new (o := .tup [.str "("]) hp5
    have hz5 : (upd (upd (upd H1 p2 (.lst (signs "abc"))) p3 (.lst (signs "xyz"))) p5 (.tup [.str "("])) b = some (.lst zs) := by rw [upd_ne (ne_of_none hz hp5)]; exact hz
    refine ⟨b, _, _, rfl, rfl, hz5, lz hl, ?_⟩
    exact r5.put ne hz5 ⟨p5, rfl, (tp_set hz5).sq (SqT.of upd_same)⟩
  | qu k x f =>
    injection et with e1 e2
    subst e1 e2
    refine ⟨_, rfl, _, rfl, by decide, fun p2 hp2 => ⟨p2, abc.map V.str, rfl, .inl (SqL.of (by rw [upd_same, sg_abc])), rfl, rfl, in_no abc (qu_notin ho.1 (by decide +kernel)) ?_⟩⟩
    have r2 := r1.new (o := .lst (signs "abc")) hp2
    refine ⟨_, rfl, _, rfl, by decide, fun p3 hp3 => ⟨p3, xyz.map V.str, rfl, .inl (SqL.of (by rw [upd_same, sg_xyz])), rfl, rfl, in_no xyz (qu_notin ho.1 (by decide +kernel)) ?_⟩⟩
    have r3 := r2.new (o := .lst (signs "xyz")) hp3
    refine ⟨_, rfl, rfl, eq_no (qu_ne ho.1 (by decide +kernel)) ?_⟩
    refine ⟨fun _ H' => RS K a b H H' (f.toks ++ us) (.qf k x :: c), ?_, fun σ' H' r => q2 _ _ rfl _ r⟩
    refine ⟨_, rfl, aQ, _, rfl, .inr (hQ _), rfl, rfl, in_yes qus (qu_in ho.1 (by decide +kernel)) ?_⟩
    obtain ⟨zs, hz, hl⟩ := r3.bl
    refine ⟨_, rfl, .inl ⟨rfl, _, SqL.of hz⟩, _, rfl, _, rfl, _, rfl, by decide, _, rfl, by decide, (by show 6 ≤ sizeLine; decide), fun p4 hp4 => ?_⟩
    refine ⟨a, p4, x, _, vrs, rfl, tok_new r3.tok hp4, by rw [upd_same, sg_xyz, sg_XYZ]; rfl, ho.2.1, fun H4 hT4 k4 => ?_⟩
    have r4 := (r3.new (o := .lst (signs "xyz" ++ (signs "XYZ" ++ []))) hp4).took ne hT4 k4
    refine ⟨(by show 2 ≤ sizeLine; decide), fun p5 hp5 => ?_⟩
    have r5 := r4.new (o := .tup [.str k, .str x]) hp5
    obtain ⟨zs5, hz5, hl5⟩ := r5.bl
    refine ⟨b, _, _, rfl, rfl, hz5, lz hl5, ?_⟩
    exact r5.put ne hz5 ⟨p5, rfl, (tp_set hz5).sq (SqT.of upd_same)⟩
end
end SW

set_option Elab.async false
set_option linter.all false
set_option maxRecDepth 100000
set_option maxHeartbeats 4000000
namespace SW
open PySem PySem.Spec PyProof.Rows L2
section
variable {P : Program} {w : World} {K : PySem.W.Frag} {mg : Str → Option Value} {base : Heap}
/-! ### behind a formula within -/
theorem RS.tp {a b : Addr} {H H' : Hp} {ts : List Str} {c : List Fr} {z y : List V} (r : RS K a b H H' ts c) (h : H a = some (.lst z)) (g : H b = some (.lst y)) : Tp H H' := r.kp.tp h g
def spGo (K : PySem.W.Frag) : Sp := fun vs H Q _ => ∃ (a b : Addr) (v : V) (f : Fm) (fr : Fr) (us : List Str) (c : List Fr), vs = [.ref a, .ref b, v] ∧ FV K H v f ∧ f.Ok ∧ fr.Ok ∧ TokL K H a (fr.tl ++ us) ∧ FrL K H b (fr :: c) ∧ b ≠ a ∧ c.length ≤ 1000 ∧
  (∀ h, fr.cl f = .inl h → ∀ v' H', FV K H' v' h → RS K a b H H' us c → Q v' H') ∧ (∀ g fr', fr.cl f = .inr (g, fr') → ∀ H', RS K a b H H' (g.toks ++ (fr'.tl ++ us)) (fr' :: c) → Q .non H')
theorem sc__go_on : FnScope ["tokens", "begun", "formula", "beginning"] ["tokens", "begun", "formula"] (defScope s__go_on) := ⟨rfl, rfl, rfl, by decide +kernel, rfl, by decide +kernel, by decide +kernel⟩
theorem ok_go (D : Df K mg "_go_on" s__go_on ["tokens", "begun", "formula"]) (bi : Bi mg) (c_take : Cal P w K mg base 1 "_take" ["tokens", "expected"] (spTake K)) : Cal P w K mg base 2 "_go_on" ["tokens", "begun", "formula"] (spGo K) := by
  refine D.ok sc__go_on (fun vs H Q E h => ?_) (fun f cdv A outer s H vs Q E hr h => ?_)
  · obtain ⟨a, b, v, f, fr, us, c, rfl, _⟩ := h
    rfl
  obtain ⟨a, b, v, f, fr, us, c, rfl, hv, ho, hfo, hT, hF, ne, hc, q1, q2⟩ := h
  refine ⟨_, (pss_cons (ps_set (i := 3) sc__go_on.nd rfl (.inl rfl) (pe_bm0 PySem.F.plainAttrs_list PySem.F.slot_list_pop PySem.F.type_list_pop mt_pop (pv 1)))
      (pss_cons (ps_if (pt_cmpR op_eq (pe_ix ix_tup (pv 3) pe_int (fun _ _ => rfl)) pe_str (nomark _)) (pss_cons (ps_expr (pe_bm PySem.F.plainAttrs_list PySem.F.slot_list_append PySem.F.type_list_append mt_append (pv 1) (pa_cons (pe_tup (pa_cons (pe_own c_take hr (by omega) (by rfl) (pa_cons (pv 0) (pa_cons (pe_lst (pa_cons pe_str (pa_cons pe_str pa_nil))) pa_nil))) (pa_cons (pv 2) pa_nil))) pa_nil)))
      (pss_one (ps_ret pe_non))) pss_nil)
      (C8.pss_cut (ps_if (pt_cmpR op_in_seq (pe_ix ix_tup (pv 3) pe_int (fun _ _ => rfl)) (pe_tup (pa_cons pe_str (pa_cons pe_str pa_nil))) (by rfl)) (pss_one (ps_expr (pe_own c_take hr (by omega) (by rfl) (pa_cons (pv 0) (pa_cons (pe_lst (pa_cons pe_str pa_nil)) pa_nil))))) pss_nil)
      (pss_one (ps_ret (pe_tup (StX.pa_star (pv 3) (pa_cons (pv 2) pa_nil)))))))), ?_⟩
  obtain ⟨za, hza⟩ := hT.lst
  obtain ⟨v0, vs0, hB, hv0, hal⟩ := hF.pop
  have lz : ∀ {n : Nat}, n = c.length → n < sizeLine := fun e => Nat.lt_of_le_of_lt (show _ ≤ 1000 by omega) (by decide)
  have r1 : RS K a b H (upd H b (.lst vs0.reverse)) (fr.tl ++ us) c := ⟨hT.keep (TkV.tp (tp_set hB)) (fun o e => by rw [upd_ne ne.symm]; exact e), ⟨vs0, upd_same, hal.imp (FrV.tp (tp_set hB))⟩, Kp2.at⟩
  have hv1 := FrV.tp (tp_set (o := .lst vs0.reverse) hB) v0 fr hv0
  refine ⟨_, rfl, .inl ⟨rfl, _, SqL.of hB⟩, b, _, _, rfl, rfl, hB, last_get, ?_⟩
  rw [List.dropLast_concat]
  generalize upd H b (.lst vs0.reverse) = H1 at r1 hv1
  cases fr with
  | op k g =>
    obtain ⟨p0, rfl, s0⟩ := hv1
    refine ⟨_, rfl, _, _, _, _, rfl, rfl, s0, rfl, rfl, eq_yes rfl ?_⟩
    obtain ⟨zs, hz, hl⟩ := r1.bl
    refine ⟨_, rfl, .inl ⟨rfl, _, SqL.of hz⟩, _, rfl, (by show 2 ≤ sizeLine; decide), fun p hp => ?_⟩
    refine ⟨a, p, k, _, ano, rfl, tok_new r1.tok hp, upd_same, bin_in hfo.1 (by decide +kernel), fun H2 hT2 k2 => ?_⟩
    have r2 := (r1.new (o := .lst [.str "and", .str "or"]) hp).took ne hT2 k2
    refine ⟨_, rfl, (by show 2 ≤ sizeLine; decide), fun p2 hp2 => ?_⟩
    have r3 := r2.new (o := .tup [.str k, v]) hp2
    obtain ⟨zs3, hz3, hl3⟩ := r3.bl
    refine ⟨b, _, _, rfl, rfl, hz3, lz hl3, ?_⟩
    have r4 := r3.put (v := .ref p2) (fr := .bn k f) ne hz3 ⟨p2, v, rfl, (tp_set hz3).sq (SqT.of upd_same), FV.tp ((r3.tp hza hB).trans (tp_set hz3)) _ hv⟩
    have e : (g.toks ++ [(")" : Str)]) ++ us = g.toks ++ ((Fr.bn k f).tl ++ us) := by rw [List.append_assoc, Fr.tl]
    refine q2 g (.bn k f) rfl _ ?_
    rw [← e]
    exact r4
  | nt =>
    obtain ⟨p0, rfl, s0⟩ := hv1
    refine ⟨_, rfl, _, _, _, _, rfl, rfl, s0, rfl, rfl, eq_no (by decide +kernel) ?_⟩
    refine ⟨fun σ' H' => σ' = [some (.ref a), some (.ref b), some v, some (.ref p0)] ∧ Tp H1 H' ∧ RS K a b H H' us c, ?_, ?_⟩
    · refine ⟨_, rfl, _, _, _, _, rfl, rfl, s0, rfl, (by show 2 ≤ sizeLine; decide), fun p hp => ⟨p, _, rfl, .inr (SqT.of upd_same), rfl, rfl, in_no ano (by decide +kernel) ?_⟩⟩
      exact ⟨rfl, tp_new hp, r1.new hp⟩
    · rintro σ' H' ⟨rfl, t, r⟩
      refine ⟨_, rfl, p0, _, rfl, .inl (t.sq s0), _, rfl, (by show 2 ≤ sizeLine; decide), fun p hp => ?_⟩
      exact q1 _ rfl _ _ (fv_neg (SqT.of upd_same) (FV.tp ((r.tp hza hB).trans (tp_new hp)) _ hv)) (r.new hp)
  | qf k x =>
    obtain ⟨p0, rfl, s0⟩ := hv1
    refine ⟨_, rfl, _, _, _, _, rfl, rfl, s0, rfl, rfl, eq_no (qu_ne hfo.1 (by decide +kernel)) ?_⟩
    refine ⟨fun σ' H' => σ' = [some (.ref a), some (.ref b), some v, some (.ref p0)] ∧ Tp H1 H' ∧ RS K a b H H' us c, ?_, ?_⟩
    · refine ⟨_, rfl, _, _, _, _, rfl, rfl, s0, rfl, (by show 2 ≤ sizeLine; decide), fun p hp => ⟨p, _, rfl, .inr (SqT.of upd_same), rfl, rfl, in_no ano (qu_notin hfo.1 (by decide +kernel)) ?_⟩⟩
      exact ⟨rfl, tp_new hp, r1.new hp⟩
    · rintro σ' H' ⟨rfl, t, r⟩
      refine ⟨_, rfl, p0, _, rfl, .inl (t.sq s0), _, rfl, (by show 3 ≤ sizeLine; decide), fun p hp => ?_⟩
      exact q1 _ rfl _ _ (fv_qu (SqT.of upd_same) (FV.tp ((r.tp hza hB).trans (tp_new hp)) _ hv)) (r.new hp)
  | bn k f1 =>
    obtain ⟨p0, x0, rfl, s0, hx0⟩ := hv1
    refine ⟨_, rfl, _, _, _, _, rfl, rfl, s0, rfl, rfl, eq_no (bin_ne hfo.1 (by decide +kernel)) ?_⟩
    refine ⟨fun σ' H' => σ' = [some (.ref a), some (.ref b), some v, some (.ref p0)] ∧ Tp H1 H' ∧ RS K a b H H' us c, ?_, ?_⟩
    · refine ⟨_, rfl, _, _, _, _, rfl, rfl, s0, rfl, (by show 2 ≤ sizeLine; decide), fun p hp => ⟨p, _, rfl, .inr (SqT.of upd_same), rfl, rfl, in_yes ano (bin_in hfo.1 (by decide +kernel)) ?_⟩⟩
      have r2 := r1.new (o := .tup [.str "and", .str "or"]) hp
      refine ⟨_, rfl, (by show 1 ≤ sizeLine; decide), fun p2 hp2 => ⟨a, p2, _, _, [")"], rfl, tok_new r2.tok hp2, upd_same, List.mem_singleton.mpr rfl, fun H3 hT3 k3 => ?_⟩⟩
      have r3 := (r2.new (o := .lst [.str ")"]) hp2).took ne hT3 k3
      obtain ⟨z3, hz3⟩ := (tok_new (o := .lst [.str ")"]) r2.tok hp2).lst
      exact ⟨rfl, (tp_new hp).trans ((tp_new hp2).trans (k3.tp hz3)), r3⟩
    · rintro σ' H' ⟨rfl, t, r⟩
      refine ⟨_, rfl, p0, _, rfl, .inl (t.sq s0), _, rfl, (by show 3 ≤ sizeLine; decide), fun p hp => ?_⟩
      exact q1 _ rfl _ _ (fv_bin (SqT.of upd_same) (FV.tp (t.trans (tp_new hp)) _ hx0) (FV.tp ((r.tp hza hB).trans (tp_new hp)) _ hv)) (r.new hp)
end
end SW

set_option Elab.async false
set_option linter.all false
set_option maxRecDepth 100000
set_option maxHeartbeats 4000000
namespace SW
open PySem PySem.Spec PyProof.Rows L2
section
variable {P : Program} {w : World} {K : PySem.W.Frag} {mg : Str → Option Value} {base : Heap}
/-! ### a formula read -/
theorem FV.ref {H : Hp} {v : V} {f : Fm} (h : FV K H v f) : ∃ p, v = .ref p := by
  have at_ := h.at
  cases at_ with
  | rel e _ => exact ⟨_, e⟩
  | nam e _ => exact ⟨_, e⟩
  | neg e _ _ => exact ⟨_, e⟩
  | bin e _ _ _ => exact ⟨_, e⟩
  | qu e _ _ => exact ⟨_, e⟩
theorem wks_len : ∀ c : List Fr, c.length ≤ wks c
  | [] => Nat.le_refl _
  | fr :: c => by
    have := wks_len c
    have h : 1 ≤ fr.wk := by cases fr <;> simp [Fr.wk]
    rw [List.length_cons, wks]
    omega
def RdA (K : PySem.W.Frag) (a b : Addr) (H0 : Hp) (f : Fm) (us : List Str) (m : Nat) (σ' : L2.St) (H' : Hp) : Prop :=
  ∃ g c, σ' = [some (.ref a), some (.ref b), some .non] ∧ RS K a b H0 H' (g.toks ++ (tls c ++ us)) c ∧ g.Ok ∧ FrOks c ∧ plugs c g = f ∧ m = g.wk + wks c
def RdB (K : PySem.W.Frag) (a b : Addr) (H0 : Hp) (f : Fm) (us : List Str) (m : Nat) (σ' : L2.St) (H' : Hp) : Prop :=
  ∃ v g c, σ' = [some (.ref a), some (.ref b), some v] ∧ FV K H' v g ∧ g.Ok ∧ RS K a b H0 H' (tls c ++ us) c ∧ FrOks c ∧ plugs c g = f ∧ m = wks c
def RdW (K : PySem.W.Frag) (a b : Addr) (H0 : Hp) (f : Fm) (us : List Str) (m : Nat) (σ' : L2.St) (H' : Hp) : Prop := m ≤ 500 ∧ (RdA K a b H0 f us m σ' H' ∨ RdB K a b H0 f us m σ' H')
theorem RS.comp {a b : Addr} {H H1 H2 : Hp} {ts ts' : List Str} {c c' : List Fr} (r : RS K a b H H1 ts c) (s : RS K a b H1 H2 ts' c') : RS K a b H H2 ts' c' := ⟨s.tok, s.fr, r.kp.trans s.kp⟩
def spRead (K : PySem.W.Frag) : Sp := fun vs H Q _ => ∃ (a : Addr) (f : Fm) (us : List Str), vs = [.ref a] ∧ TokL K H a (f.toks ++ us) ∧ f.Ok ∧ f.wk ≤ 500 ∧ ∀ v H', FV K H' v f → TokL K H' a us → Kp a H H' → Q v H'
theorem sc__read_formula : FnScope ["tokens", "begun", "formula"] ["tokens"] (defScope s__read_formula) := ⟨rfl, rfl, rfl, by decide +kernel, rfl, by decide +kernel, by decide +kernel⟩
theorem ok_read (D : Df K mg "_read_formula" s__read_formula ["tokens"]) (bi : Bi mg) (c_begin : Cal P w K mg base 3 "_begin" ["tokens", "begun"] (spBegin K)) (c_go_on : Cal P w K mg base 2 "_go_on" ["tokens", "begun", "formula"] (spGo K)) : Cal P w K mg base 4 "_read_formula" ["tokens"] (spRead K) := by
  refine D.ok sc__read_formula (fun vs H Q E h => ?_) (fun f cdv A outer s H vs Q E hr h => ?_)
  · obtain ⟨a, f, us, rfl, _⟩ := h
    rfl
  obtain ⟨a, f, us, rfl, hT, ho, hw, q⟩ := h
  refine ⟨_, (pss_cons (ps_set (i := 1) sc__read_formula.nd rfl (.inl rfl) (pe_lst pa_nil))
      (pss_cons (ps_set (i := 2) sc__read_formula.nd rfl (.inl rfl) pe_non)
      (pss_cons (ps_while PassesOwn.never (PW.pt (pw_or (pt_cmpR op_isN (pv 2) pe_non (nomark _)) (pw_or1 (pt_truth (pv 1) (by intro _; rfl))))) (pss_one (ps_if (pt_cmpR op_isN (pv 2) pe_non (nomark _)) (pss_one (ps_set (i := 2) sc__read_formula.nd rfl (.inl rfl) (pe_own c_begin hr (by omega) (by rfl) (pa_cons (pv 0) (pa_cons (pv 1) pa_nil))))) (pss_one (ps_set (i := 2) sc__read_formula.nd rfl (.inl rfl) (pe_own c_go_on hr (by omega) (by rfl) (pa_cons (pv 0) (pa_cons (pv 1) (pa_cons (pv 2) pa_nil)))))))))
      (pss_one (ps_ret (pv 2)))))), ?_⟩
  refine ⟨Nat.zero_le _, fun b hb => ?_⟩
  obtain ⟨za, hza⟩ := hT.lst
  have ne : b ≠ a := (ne_of_none hza hb).symm
  refine ⟨RdW K a b (upd H b (.lst [])) f us, ⟨f.wk, hw, .inl ⟨f, [], rfl, ⟨tok_new hT hb, ⟨[], upd_same, .nil⟩, Kp2.refl a b _⟩, ho, trivial, rfl, rfl⟩⟩, ?_⟩
  rintro m σ' H1 ⟨hm, ⟨g, c, rfl, r, hg, hco, hp, rfl⟩ | ⟨v, g, c, rfl, hv, hg, r, hco, hp, rfl⟩⟩
  · refine ⟨_, rfl, rfl, _, rfl, ite2 (fun _ => ?_) (fun h => absurd (decide_eq_true rfl) h)⟩
    refine ⟨fun σ2 H2 => ∃ m', m' < g.wk + wks c ∧ RdW K a b (upd H b (.lst [])) f us m' σ2 H2, fun _ _ h => h, ?_⟩
    refine ⟨_, rfl, rfl, _, rfl, ite2 (fun _ => ?_) (fun h => absurd (decide_eq_true rfl) h)⟩
    have hl := wks_len c
    refine ⟨_, rfl, _, rfl, a, b, g, tls c ++ us, c, rfl, r.tok, r.fr, ne, hg, by omega, fun e v H2 hv r2 => ?_, fun f2 fr e H2 r2 => ?_⟩
    · have := Fm.atom_wk e
      exact ⟨wks c, by omega, by omega, .inr ⟨v, g, c, rfl, hv, hg, r.comp r2, hco, hp, rfl⟩⟩
    · obtain ⟨h1, h2, h3⟩ := Fm.opn_toks e
      obtain ⟨o1, o2⟩ := h2 hg
      have et : f2.toks ++ (fr.tl ++ (tls c ++ us)) = f2.toks ++ (tls (fr :: c) ++ us) := by rw [tls, List.append_assoc fr.tl]
      rw [et] at r2
      have ew : wks (fr :: c) = fr.wk + wks c := rfl
      refine ⟨f2.wk + wks (fr :: c), by omega, by omega, .inl ⟨f2, fr :: c, rfl, r.comp r2, o1, ⟨o2, hco⟩, ?_, rfl⟩⟩
      rw [plugs, h1]
      exact hp
  · obtain ⟨pv0, rfl⟩ := hv.ref
    refine ⟨_, rfl, rfl, _, rfl, ite2 (fun h => absurd (of_decide_eq_true h) (by intro h; cases h)) (fun _ => ?_)⟩
    obtain ⟨zs, hz, hl⟩ := r.bl
    refine ⟨_, rfl, !zs.isEmpty, .inl ⟨zs, SqL.of hz, rfl⟩, ?_⟩
    cases c with
    | nil =>
      have : zs = [] := List.eq_nil_of_length_eq_zero hl
      subst this
      exact ⟨_, rfl, q _ _ (by rw [← hp]; exact hv) r.tok (Kp2.fresh hb r.kp)⟩
    | cons fr c =>
      have : zs.isEmpty = false := by
        cases zs with
        | nil => cases hl
        | cons _ _ => rfl
      rw [this]
      have ew : wks (fr :: c) = fr.wk + wks c := rfl
      have hl := wks_len c
      refine ⟨fun σ2 H2 => ∃ m', m' < wks (fr :: c) ∧ RdW K a b (upd H b (.lst [])) f us m' σ2 H2, fun _ _ h => h, ?_⟩
      refine ⟨_, rfl, rfl, _, rfl, ite2 (fun h => absurd (of_decide_eq_true h) (by intro h; cases h)) (fun _ => ?_)⟩
      have rt := r.tok
      rw [tls, List.append_assoc] at rt
      refine ⟨_, rfl, _, rfl, _, rfl, a, b, _, g, fr, tls c ++ us, c, rfl, hv, hg, hco.1, rt, r.fr, ne, by omega, fun h e v' H2 hv' r2 => ?_, fun g2 fr' e H2 r2 => ?_⟩
      · obtain ⟨h1, h2, h3⟩ := Fr.cl_inl e
        refine ⟨wks c, by omega, by omega, .inr ⟨v', h, c, rfl, hv', h3 hco.1 hg, r.comp r2, hco.2, ?_, rfl⟩⟩
        rw [← h1]
        exact hp
      · obtain ⟨h1, h2, h3⟩ := Fr.cl_inr e
        obtain ⟨o1, o2⟩ := h3 hco.1 hg
        have et : g2.toks ++ (fr'.tl ++ (tls c ++ us)) = g2.toks ++ (tls (fr' :: c) ++ us) := by rw [tls, List.append_assoc fr'.tl]
        rw [et] at r2
        have ew2 : wks (fr' :: c) = fr'.wk + wks c := rfl
        refine ⟨g2.wk + wks (fr' :: c), by omega, by omega, .inl ⟨g2, fr' :: c, rfl, r.comp r2, o1, ⟨o2, hco.2⟩, ?_, rfl⟩⟩
        rw [plugs, ← h1]
        exact hp
end
end SW

set_option Elab.async false
set_option linter.all false
set_option maxRecDepth 100000
set_option maxHeartbeats 4000000
namespace SW
open PySem PySem.Spec PyProof.Rows L2
section
variable {P : Program} {w : World} {K : PySem.W.Frag} {mg : Str → Option Value} {base : Heap}
/-! ### parse_formula -/
theorem Fm.wk_le : ∀ f : Fm, f.wk ≤ 3 * f.size
  | .rel k a b => by simp [Fm.wk, Fm.size]
  | .nam c => by simp [Fm.wk, Fm.size]
  | .neg f => by
    have := Fm.wk_le f
    simp only [Fm.wk, Fm.size]
    omega
  | .bin k f g => by
    have := Fm.wk_le f
    have := Fm.wk_le g
    simp only [Fm.wk, Fm.size]
    omega
  | .qu k x f => by
    have := Fm.wk_le f
    simp only [Fm.wk, Fm.size]
    omega
def spParse (K : PySem.W.Frag) : Sp := fun vs H Q _ => ∃ (z : Str) (f : Fm), vs = [.str z] ∧ Tk (ls z) f.toks ∧ z.length ≤ 300 ∧ f.Ok ∧ f.dep ≤ 6 ∧ f.size ≤ 40 ∧ f.nest ≤ 3 ∧ ∀ v H', FV K H' v f → Same H H' → Q v H'
theorem sc_parse_formula : FnScope ["text", "at", "sign", "tokens", "formula"] ["text"] (defScope s_parse_formula) := ⟨rfl, rfl, rfl, by decide +kernel, rfl, by decide +kernel, by decide +kernel⟩
theorem ok_parse {vE vC v300 v40 v3 : Value} (D : Df K mg "parse_formula" s_parse_formula ["text"]) (bi : Bi mg) (hen : mg "enumerate" = none) (mEND : mg "END" = some vE) (rEND : L2.RelV (.str "") vE) (mCHARACTERS : mg "CHARACTERS" = some vC) (rCHARACTERS : L2.RelV (.str " (){}<=XYZabcdefghijklmnopqrstuvwxyz") vC)
    (mMAX_CHARACTERS : mg "MAX_CHARACTERS" = some v300) (rMAX_CHARACTERS : L2.RelV (.int 300) v300) (mMAX_NODES : mg "MAX_NODES" = some v40) (rMAX_NODES : L2.RelV (.int 40) v40) (mMAX_NESTING : mg "MAX_NESTING" = some v3) (rMAX_NESTING : L2.RelV (.int 3) v3)
    (c_tokens : Cal P w K mg base 2 "_tokens" ["text"] (spTokens K)) (c_read_formula : Cal P w K mg base 4 "_read_formula" ["tokens"] (spRead K)) (c_take : Cal P w K mg base 1 "_take" ["tokens", "expected"] (spTake K))
    (cformula_size : Cal P w K mg base 7 "formula_size" ["formula"] (spSize K 6)) (cnesting : Cal P w K mg base 7 "nesting" ["formula"] (spNest K 6)) : Cal P w K mg base 8 "parse_formula" ["text"] (spParse K) := by
  refine D.ok sc_parse_formula (fun vs H Q E h => ?_) (fun f cdv A outer s H vs Q E hr h => ?_)
  · obtain ⟨z, f, rfl, _⟩ := h
    rfl
  obtain ⟨z, f, rfl, ht, hz, ho, hd, hs, hn, q⟩ := h
  refine ⟨_, (pss_cons (ps_if (pt_cmpR op_gt (pe_callB call_len_str (by rfl) bi.len PySem.boot_len (pa_cons (pv 0) pa_nil)) (pe_glob (v := .int 300) (by rfl) mMAX_CHARACTERS rMAX_CHARACTERS) (nomark _)) pss_never pss_nil)
      (pss_cons (ps_for PassesOwn.never rfl (pi_enumS (by rfl) hen (pa_cons (pv 0) pa_nil)) (pg_tup rfl (pgs_cons (pg_name (i := 1) sc_parse_formula.nd rfl (.inl rfl)) (pgs_cons (pg_name (i := 2) sc_parse_formula.nd rfl (.inl rfl)) pgs_nil))) (pss_one (ps_if (pt_cmpR op_notInS (pv 2) (pe_glob (v := .str " (){}<=XYZabcdefghijklmnopqrstuvwxyz") (by rfl) mCHARACTERS rCHARACTERS) (by rfl)) pss_never pss_nil)))
      (pss_cons (ps_set (i := 3) sc_parse_formula.nd rfl (.inl rfl) (pe_own c_tokens hr (by omega) (by rfl) (pa_cons (pv 0) pa_nil)))
      (pss_cons (ps_expr (pe_bm0 PySem.F.plainAttrs_list PySem.F.slot_list_reverse PySem.F.type_list_reverse mt_reverse (pv 3)))
      (pss_cons (ps_set (i := 4) sc_parse_formula.nd rfl (.inl rfl) (pe_own c_read_formula hr (by omega) (by rfl) (pa_cons (pv 3) pa_nil)))
      (pss_cons (ps_expr (pe_own c_take hr (by omega) (by rfl) (pa_cons (pv 3) (pa_cons (pe_lst (pa_cons (pe_glob (v := .str "") (by rfl) mEND rEND) pa_nil)) pa_nil))))
      (pss_cons (ps_if (pt_cmpR op_gt (pe_own cformula_size hr (by omega) (by rfl) (pa_cons (pv 4) pa_nil)) (pe_glob (v := .int 40) (by rfl) mMAX_NODES rMAX_NODES) (nomark _)) pss_never pss_nil)
      (pss_cons (ps_if (pt_cmpR op_gt (pe_own cnesting hr (by omega) (by rfl) (pa_cons (pv 4) pa_nil)) (pe_glob (v := .int 3) (by rfl) mMAX_NESTING rMAX_NESTING) (nomark _)) pss_never pss_nil)
      (pss_one (ps_ret (pv 4))))))))))), ?_⟩
  refine ⟨_, rfl, _, rfl, fit (by omega), _, _, rfl, rfl, _, rfl, ite2 (fun h => absurd (of_decide_eq_true h) (by omega)) (fun _ => ?_)⟩
  refine ⟨_, rfl, z, rfl, for_enumS (fun i σ' H' => ∃ y1 y2, σ' = [some (.str z), y1, y2, none, none] ∧ Same H H') ?_ ?_ ?_⟩
  · exact ⟨none, none, rfl, Same.refl H⟩
  · rintro i c T σ' H2 hc ⟨y1, y2, rfl, S⟩ hT
    have hch : c ∈ ls " (){}<=XYZabcdefghijklmnopqrstuvwxyz" := mem_chr (ht.chars c (Array.mem_toList_iff.mpr (Array.mem_of_getElem? hc)))
    refine ⟨T, _, rfl, SqT.of upd_same, rfl, _, _, rfl, _, _, rfl, rfl, ?_⟩
    refine ⟨_, rfl, c, _, rfl, rfl, _, rfl, ite2 (fun h => ?_) (fun _ => ?_)⟩
    · rw [decide_eq_true hch] at h
      cases h
    · exact ⟨_, _, rfl, S.trans (same_new hT)⟩
  · rintro σ' H2 ⟨y1, y2, rfl, S⟩
    refine ⟨_, rfl, z, f.toks, rfl, ht, by omega, fun a us H3 ha hfree hal S3 => ?_⟩
    refine ⟨_, rfl, .inl ⟨rfl, _, SqL.of ha⟩, a, us, rfl, rfl, ha, ?_⟩
    have hw := f.wk_le
    refine ⟨_, rfl, a, f, [""], rfl, ⟨us, upd_same, hal.imp (TkV.tp (tp_set ha))⟩, ho, by omega, fun v H4 hv hT4 k4 => ?_⟩
    refine ⟨_, rfl, (by show 1 ≤ sizeLine; decide), fun p hp => ⟨a, p, _, _, [""], rfl, tok_new hT4 hp, upd_same, List.mem_singleton.mpr rfl, fun H5 hT5 k5 => ?_⟩⟩
    obtain ⟨z5, hz5⟩ := (tok_new (o := .lst [.str ""]) hT4 hp).lst
    have hv5 := FV.tp ((tp_new hp).trans (k5.tp hz5)) _ hv
    have S5 : Same H2 H5 := fun b o hb => k5 _ _ (ne_of_none hb hfree) (by
      rw [upd_ne (fun e => by
        have := k4 _ _ (ne_of_none hb hfree) (by rw [upd_ne (ne_of_none hb hfree)]; exact S3 _ _ hb)
        rw [e, hp] at this
        cases this)]
      exact k4 _ _ (ne_of_none hb hfree) (by rw [upd_ne (ne_of_none hb hfree)]; exact S3 _ _ hb))
    refine ⟨_, rfl, v, f, rfl, hv5, ho, hd, fun H6 k6 => ⟨_, _, rfl, rfl, _, rfl, ite2 (fun h => absurd (of_decide_eq_true h) (by omega)) (fun _ => ?_)⟩⟩
    refine ⟨_, rfl, v, f, rfl, FV.tp (tp_same k6) _ hv5, ho, hd, fun H7 k7 => ⟨_, _, rfl, rfl, _, rfl, ite2 (fun h => absurd (of_decide_eq_true h) (by omega)) (fun _ => ?_)⟩⟩
    exact ⟨_, rfl, q v H7 (FV.tp (tp_same (k6.trans k7)) _ hv5) (S.trans (S5.trans (k6.trans k7)))⟩
end
end SW

set_option Elab.async false
set_option linter.all false
set_option maxRecDepth 100000
set_option maxHeartbeats 4000000
namespace SW
open PySem PySem.Spec PyProof.Rows L2
section
variable {P : Program} {w : World} {K : PySem.W.Frag} {mg : Str → Option Value} {base : Heap}
/-! ### a text with more spaces and fewer -/
theorem mem_take1 {l : List Nat} {n c : Nat} : c ∈ (l.drop n).take 1 ↔ l[n]? = some c := by
  cases h : l[n]? with
  | none =>
    rw [List.drop_eq_nil_of_le (List.getElem?_eq_none_iff.mp h)]
    simp
  | some x =>
    rw [drop_at h]
    simp only [List.take_succ_cons, List.take_zero, List.mem_singleton, Option.some.injEq]
    exact eq_comm
theorem bes_mem {z : Str} {i c : Nat} : c ∈ ls (cutS z (some (if (0 + (i : Int)) - 1 > 0 then (0 + (i : Int)) - 1 else 0)) (some (0 + (i : Int))) ++ cutS z (some (0 + (i : Int) + 1)) (some (0 + (i : Int) + 2))) ↔ pvo (ls z) i = some c ∨ (ls z)[i + 1]? = some c := by
  have e1 : (if (0 + (i : Int)) - 1 > 0 then (0 + (i : Int)) - 1 else 0) = ((i - 1 : Nat) : Int) := by split <;> omega
  have e2 : (0 + (i : Int)) = ((i : Nat) : Int) := by omega
  have e3 : (0 + (i : Int) + 1) = ((i + 1 : Nat) : Int) := by omega
  have e4 : (0 + (i : Int) + 2) = ((i + 2 : Nat) : Int) := by omega
  rw [e1, e3, e4, e2, ls_app, ls_cut, ls_cut, List.mem_append, show i + 2 - (i + 1) = 1 by omega, mem_take1]
  unfold pvo
  by_cases h : i = 0
  · rw [if_pos h, h]
    simp
  · rw [if_neg h, show i - (i - 1) = 1 by omega, mem_take1]
theorem bes_len {z : Str} {a b c d : Option Int} : (cutS z a b ++ cutS z c d).length ≤ 2 * z.length := by
  rw [len_app]
  have h1 := cutS_length z a b
  have h2 := cutS_length z c d
  omega
def pnB (l : List Nat) : List Bool := l.map fun c => decide (c ∈ ls "(){}<=")
theorem pnB_any {l : List Nat} : (pnB l).any id = true ↔ ∃ c, c ∈ l ∧ sgc c := by
  unfold pnB
  rw [List.any_eq_true]
  constructor
  · rintro ⟨b, hb, h⟩
    obtain ⟨c, hc, rfl⟩ := List.mem_map.mp hb
    exact ⟨c, hc, mem_sgn.mp (of_decide_eq_true h)⟩
  · rintro ⟨c, hc, h⟩
    exact ⟨true, List.mem_map.mpr ⟨c, hc, decide_eq_true (mem_sgn.mpr h)⟩, rfl⟩
theorem walk_strA {z : Str} : Walk (Its z) z.cps.size (fun _ => True) (YAt (signs z)) where
  goes := fun i H hi hG => walk_str.goes i H hi hG
  stops := fun H hG => walk_str.stops H hG
  yields := fun i H v H' hi hG y => by
    obtain ⟨e, c, hc, hv⟩ := walk_str.yields i H v H' hi hG y
    refine ⟨e, ?_⟩
    unfold signs
    rw [List.getElem?_map, Array.getElem?_toList, hc, hv]
    rfl
theorem l_one {c : Nat} : (⟨#[c]⟩ : Str).length = 1 := rfl
theorem ls_rep {k : Nat} : ls (repS " " k) = List.replicate k 32 := by
  show ((List.replicate k (ls " ")).flatten.toArray).toList = _
  rw [ls_sp, List.toList_toArray]
  induction k with
  | zero => rfl
  | succ k ih => rw [List.replicate_succ, List.flatten_cons, ih, List.replicate_succ]; rfl
theorem l_rep {k : Nat} : (repS " " k).length = k := by rw [len_ls, ls_rep, List.length_replicate]
theorem loI_out {z o : Str} {i c k : Nat} (h : LoI (ls z) i (ls o)) (e : (ls z)[i]? = some c) (hk : k = 0 ∨ spc c) : LoI (ls z) (i + 1) (ls (o ++ ⟨#[c]⟩ ++ repS " " k)) := by
  have := loI_keep h e hk
  rw [ls_app, ls_app, ls_rep, List.append_assoc]
  exact this
theorem len_out {o : Str} {c k : Nat} : (o ++ ⟨#[c]⟩ ++ repS " " k).length = o.length + 1 + k := by rw [len_app, len_app, l_rep, l_one]
def spLoose : Sp := fun vs H Q _ => ∃ (r l : Addr) (z : Str), vs = [.ref r, .str z] ∧ Rng H r l ∧ z.length ≤ 140 ∧ ∀ o H', Lo none (ls z) (ls o) → o.length ≤ 280 → Rng H' r l → Kp r H H' → Q (.str o) H'
theorem sc__law_loose : FnScope ["_law_rng", "_law_my_text", "_law_found", "_law_at", "_law_beside", "_law_bare", "_law_sign"] ["_law_rng", "_law_my_text"] (defScope s__law_loose) := ⟨rfl, rfl, rfl, by decide +kernel, rfl, by decide +kernel, by decide +kernel⟩
theorem ok_loose (D : Df K mg "_law_loose" s__law_loose ["_law_rng", "_law_my_text"]) (bi : Bi mg) (c_law_draw : Cal P w K mg base 1 "_law_draw" ["_law_rng", "_law_many"] spDraw) : Cal P w K mg base 2 "_law_loose" ["_law_rng", "_law_my_text"] spLoose := by
  refine D.ok sc__law_loose (fun vs H Q E h => ?_) (fun f cdv A outer s H vs Q E hr h => ?_)
  · obtain ⟨r, l, z, rfl, _⟩ := h
    rfl
  obtain ⟨r, l, z, rfl, g, hz, q⟩ := h
  refine ⟨_, (pss_cons (ps_set (i := 2) sc__law_loose.nd rfl (.inl rfl) pe_str)
      (pss_cons (ps_for PassesOwn.never rfl (pi_range1 (by rfl) bi.range (pa_cons (pe_callB call_len_str (by rfl) bi.len PySem.boot_len (pa_cons (pv 1) pa_nil)) pa_nil)) (pg_name (i := 3) sc__law_loose.nd rfl (.inl rfl)) (pss_cons (ps_set (i := 4) sc__law_loose.nd rfl (.inl rfl) (pe_op op_add_str (pe_slice sl_str (pv 1) (po_some (pe_callB (call_max2 rfl) (by rfl) bi.max (by decide +kernel) (pa_cons pe_int (pa_cons (pe_op op_sub (pv 3) pe_int) pa_nil)))) (po_some (pv 3))) (pe_slice sl_str (pv 1) (po_some (pe_op op_add (pv 3) pe_int)) (po_some (pe_op op_add (pv 3) pe_int)))))
      (pss_cons (ps_set (i := 5) sc__law_loose.nd rfl (.inl rfl) (pe_and (pe_cmpR op_eq (pe_ix ix_str (pv 1) (pv 3) (fun _ _ => rfl)) pe_str (nomark _)) (pe_one (pe_callB (cr_any rfl) (by rfl) bi.any (by decide +kernel) (pa_cons (pe_lc (own := [("_law_sign", 6)]) (g := gName 6) (tt := tYes) rfl sc__law_loose.nd (pi_str (pv 4)) (blkOk_by (N := ["_law_rng", "_law_my_text", "_law_found", "_law_at", "_law_beside", "_law_bare", "_law_sign"]) (sc := defScope s__law_loose) (by decide +kernel)) (fun _ _ _ _ _ => (pg_name (i := 6) sc__law_loose.nd rfl (.inl rfl))) (fun _ _ _ _ _ => pts_nil) (fun _ _ _ _ _ => (pe_cmpR op_inS (pv 6) pe_str (by rfl)))) pa_nil)))))
      (pss_one (ps_if (PW.pt (pw_or (pt_not (pt_val (pv 5))) (pw_or1 (pt_cmpR op_eq (pe_own c_law_draw hr (by omega) (by rfl) (pa_cons (pv 0) (pa_cons pe_int pa_nil))) pe_int (nomark _))))) (pss_one (ps_set (i := 2) sc__law_loose.nd rfl (.inl rfl) (pe_op op_add_str (pe_op op_add_str (pv 2) (pe_ix ix_str (pv 1) (pv 3) (fun _ _ => rfl))) (pe_op op_rep_str pe_str (pe_ifExp (pt_cmpR op_inS (pe_ix ix_str (pv 1) (pv 3) (fun _ _ => rfl)) pe_str (by rfl)) (pe_own c_law_draw hr (by omega) (by rfl) (pa_cons (pv 0) (pa_cons pe_int pa_nil))) pe_int))))) pss_nil)))))
      (pss_one (ps_ret (pv 2))))), ?_⟩
  have hl := len_ls z
  have b62 : (z.length : Int) < 2 ^ 62 := by omega
  refine ⟨_, rfl, _, rfl, fit (by omega), z.length, rfl, by omega, b62, for_range (n := z.length) (fun i σ' H' => ∃ y3 y4 y5 y6 o, σ' = [some (.ref r), some (.str z), some (.str o), y3, y4, y5, y6] ∧ LoI (ls z) i (ls o) ∧ o.length ≤ 2 * i ∧ Rng H' r l ∧ Kp r H H') ?_ ?_ ?_⟩
  · exact ⟨none, none, none, none, "", rfl, loI_zero, Nat.zero_le _, g, Kp.refl r H⟩
  · rintro i σ' H1 hi ⟨y3, y4, y5, y6, o, rfl, hlo, hol, g1, k1⟩
    have hx : (ls z)[i]? = some (ls z)[i] := List.getElem?_eq_getElem (by omega)
    generalize (ls z)[i] = c at hx
    have hbm : ∀ c, _ := fun c => bes_mem (z := z) (i := i) (c := c)
    have hbl := bes_len (z := z) (a := some (if (0 + (i : Int)) - 1 > 0 then (0 + (i : Int)) - 1 else 0)) (b := some (0 + (i : Int))) (c := some (0 + (i : Int) + 1)) (d := some (0 + (i : Int) + 2))
    refine ⟨_, rfl, _, rfl, _, _, rfl, rfl, _, _, rfl, _, rfl, _, rfl, _, rfl, _, rfl, fit (by omega), _, rfl, _, rfl, _, _, rfl, rfl, _, rfl, _, rfl, _, _, rfl, rfl, _, rfl, _, rfl, fit (by omega), _, _, rfl, rfl, fit (by rw [len_app] at hbl; omega), ?_⟩
    generalize cutS z (some (if (0 + (i : Int)) - 1 > 0 then (0 + (i : Int)) - 1 else 0)) (some (0 + (i : Int))) ++ cutS z (some (0 + (i : Int) + 1)) (some (0 + (i : Int) + 2)) = bes at hbm hbl
    refine ⟨_, rfl, _, rfl, _, _, _, rfl, rfl, fit (by omega), at_ls hx (by omega), rfl, _, rfl, ite2 (fun h32 => ?_) (fun h32 => ?_)⟩
    · have c32 : c = 32 := by
        have := congrArg ls (V.str.inj (of_decide_eq_true h32))
        rw [ls_sp] at this
        exact (List.cons.inj this).1
      refine ⟨_, rfl, bes, rfl, fun Dd hD => ?_⟩
      refine wkAt (xs := signs bes) walk_strA (fun j H3 => H3 Dd = some (.lst ((pnB ((ls bes).take j)).map V.bl)) ∧ Same H1 H3) ?_ ?_ ?_ ?_
      · exact ⟨upd_same, same_new hD⟩
      · exact fun _ _ _ _ => trivial
      · rintro j x H3 hj e ⟨hA, k3⟩
        unfold signs at e
        rw [List.getElem?_map] at e
        obtain ⟨c2, hc2, rfl⟩ := Option.map_eq_some_iff.mp e
        refine ⟨rfl, _, rfl, c2, _, rfl, rfl, _, hA, ?_, ?_, ?_⟩
        · rw [List.length_map, pnB, List.length_map, List.length_take]
          have hbl2 := len_ls bes
          exact Nat.lt_of_le_of_lt (show _ ≤ 1000 by omega) (by decide)
        · rw [upd_same, List.take_add_one, hc2]
          unfold pnB
          rw [List.map_append, List.map_append]
          rfl
        · intro b' o' hb
          rw [upd_ne (ne_of_none hb hD)]
          exact k3 _ _ hb
      · rintro H3 ⟨hA, k3⟩
        have ets : (ls bes).take bes.cps.size = ls bes := List.take_of_length_le (by simp [ls])
        rw [ets] at hA
        refine ⟨Dd, _, rfl, SqL.of hA, ?_⟩
        have g3 : Rng H3 r l := g1.of (fun o h => k3 _ _ h) (fun o h => k3 _ _ h)
        have kr3 : Kp r H H3 := k1.trans (fun b o _ h => k3 _ _ h)
        cases hb : (pnB (ls bes)).any id with
        | false =>
          refine ⟨_, rfl, _, rfl, ?_⟩
          refine ⟨_, rfl, _, rfl, _, rfl, _, _, _, rfl, rfl, fit (by omega), at_ls hx (by omega), _, _, rfl, rfl, fit (by rw [l_one]; omega), _, rfl, _, rfl, _, _, _, rfl, rfl, fit (by omega), at_ls hx (by omega), c, _, rfl, rfl, _, rfl, ite2 (fun hs => ?_) (fun hs => ?_)⟩
          · refine ⟨_, rfl, r, l, _, rfl, by decide, by decide, g3, fun v H5 hv0 hv1 g5 k5 => ?_⟩
            obtain ⟨k, rfl⟩ : ∃ k : Nat, v = (k : Int) := ⟨v.toNat, by omega⟩
            have hv1' : (k : Int) < 2 := hv1
            refine ⟨_, k, rfl, rfl, by omega, by decide, _, _, rfl, rfl, fit (by rw [len_app, l_one, l_rep]; omega), ?_⟩
            exact ⟨_, _, _, _, _, rfl, loI_out hlo hx (.inr (mem_sgs.mp (of_decide_eq_true hs))), by rw [len_out]; omega, g5, kr3.trans k5⟩
          · refine ⟨_, 0, rfl, rfl, by decide, by decide, _, _, rfl, rfl, fit (by rw [len_app, l_one, l_rep]; omega), ?_⟩
            exact ⟨_, _, _, _, _, rfl, loI_out hlo hx (.inl rfl), by rw [len_out]; omega, g3, kr3⟩
        | true =>
          refine ⟨_, rfl, _, rfl, ?_⟩
          refine ⟨_, rfl, r, l, _, rfl, by decide, by decide, g3, fun v H4 hv0 hv1 g4 k4 => ⟨rfl, _, rfl, ite2 (fun h0 => ?_) (fun h0 => ?_)⟩⟩
          · have kr4 := kr3.trans k4
            refine ⟨_, rfl, _, rfl, _, rfl, _, _, _, rfl, rfl, fit (by omega), at_ls hx (by omega), _, _, rfl, rfl, fit (by rw [l_one]; omega), _, rfl, _, rfl, _, _, _, rfl, rfl, fit (by omega), at_ls hx (by omega), c, _, rfl, rfl, _, rfl, ite2 (fun hs => ?_) (fun hs => ?_)⟩
            · refine ⟨_, rfl, r, l, _, rfl, by decide, by decide, g4, fun v H5 hv0 hv1 g5 k5 => ?_⟩
              obtain ⟨k, rfl⟩ : ∃ k : Nat, v = (k : Int) := ⟨v.toNat, by omega⟩
              have hv1' : (k : Int) < 2 := hv1
              refine ⟨_, k, rfl, rfl, by omega, by decide, _, _, rfl, rfl, fit (by rw [len_app, l_one, l_rep]; omega), ?_⟩
              exact ⟨_, _, _, _, _, rfl, loI_out hlo hx (.inr (mem_sgs.mp (of_decide_eq_true hs))), by rw [len_out]; omega, g5, kr4.trans k5⟩
            · refine ⟨_, 0, rfl, rfl, by decide, by decide, _, _, rfl, rfl, fit (by rw [len_app, l_one, l_rep]; omega), ?_⟩
              exact ⟨_, _, _, _, _, rfl, loI_out hlo hx (.inl rfl), by rw [len_out]; omega, g4, kr4⟩
          · obtain ⟨c2, hc2, hs2⟩ := pnB_any.mp hb
            refine ⟨_, _, _, _, o, rfl, loI_drop hlo (by rw [← c32]; exact hx) ?_, by omega, g4, kr3.trans k4⟩
            rcases (hbm c2).mp hc2 with h | h
            · exact .inl ⟨c2, h, hs2⟩
            · exact .inr ⟨c2, h, hs2⟩
    · refine ⟨_, rfl, _, rfl, ?_⟩
      refine ⟨_, rfl, _, rfl, _, rfl, _, _, _, rfl, rfl, fit (by omega), at_ls hx (by omega), _, _, rfl, rfl, fit (by rw [l_one]; omega), _, rfl, _, rfl, _, _, _, rfl, rfl, fit (by omega), at_ls hx (by omega), c, _, rfl, rfl, _, rfl, ite2 (fun hs => ?_) (fun hs => ?_)⟩
      · refine ⟨_, rfl, r, l, _, rfl, by decide, by decide, g1, fun v H5 hv0 hv1 g5 k5 => ?_⟩
        obtain ⟨k, rfl⟩ : ∃ k : Nat, v = (k : Int) := ⟨v.toNat, by omega⟩
        have hv1' : (k : Int) < 2 := hv1
        refine ⟨_, k, rfl, rfl, by omega, by decide, _, _, rfl, rfl, fit (by rw [len_app, l_one, l_rep]; omega), ?_⟩
        exact ⟨_, _, _, _, _, rfl, loI_out hlo hx (.inr (mem_sgs.mp (of_decide_eq_true hs))), by rw [len_out]; omega, g5, k1.trans k5⟩
      · refine ⟨_, 0, rfl, rfl, by decide, by decide, _, _, rfl, rfl, fit (by rw [len_app, l_one, l_rep]; omega), ?_⟩
        exact ⟨_, _, _, _, _, rfl, loI_out hlo hx (.inl rfl), by rw [len_out]; omega, g1, k1⟩
  · rintro σ' H1 ⟨y3, y4, y5, y6, o, rfl, hlo, hol, g1, k1⟩
    refine ⟨_, rfl, q o H1 (loI_end (by rw [← hl]; exact hlo)) (by omega) g1 k1⟩
end
end SW

set_option Elab.async false
set_option linter.all false
set_option maxRecDepth 100000
set_option maxHeartbeats 4000000
namespace SW
open PySem PySem.Spec PyProof.Rows L2
section
variable {P : Program} {w : World} {K : PySem.W.Frag} {mg : Str → Option Value} {base : Heap}
theorem str_sm {n : Nat} {z : Str} : Sm n (.str z) := by cases n <;> (unfold Sm; trivial)
theorem Fm.sm : ∀ f : Fm, Sm f.dep f.dat
  | .rel k a b => by
    rw [Fm.dep, Fm.dat]
    unfold Sm
    refine ⟨by show 3 ≤ 1000; decide, fun d hd => ?_⟩
    simp only [List.mem_cons, List.not_mem_nil, or_false] at hd
    rcases hd with rfl | rfl | rfl <;> exact str_sm
  | .nam c => by
    rw [Fm.dep, Fm.dat]
    unfold Sm
    refine ⟨by show 2 ≤ 1000; decide, fun d hd => ?_⟩
    simp only [List.mem_cons, List.not_mem_nil, or_false] at hd
    rcases hd with rfl | rfl <;> exact str_sm
  | .neg f => by
    have := Fm.sm f
    rw [Fm.dep, Fm.dat]
    unfold Sm
    refine ⟨by show 2 ≤ 1000; decide, fun d hd => ?_⟩
    simp only [List.mem_cons, List.not_mem_nil, or_false] at hd
    rcases hd with rfl | rfl
    · exact str_sm
    · exact this
  | .bin k f g => by
    have h1 := Fm.sm f
    have h2 := Fm.sm g
    rw [Fm.dep, Fm.dat]
    unfold Sm
    refine ⟨by show 3 ≤ 1000; decide, fun d hd => ?_⟩
    simp only [List.mem_cons, List.not_mem_nil, or_false] at hd
    rcases hd with rfl | rfl | rfl
    · exact str_sm
    · exact h1.mono (Nat.le_max_left _ _)
    · exact h2.mono (Nat.le_max_right _ _)
  | .qu k x f => by
    have := Fm.sm f
    rw [Fm.dep, Fm.dat]
    unfold Sm
    refine ⟨by show 3 ≤ 1000; decide, fun d hd => ?_⟩
    simp only [List.mem_cons, List.not_mem_nil, or_false] at hd
    rcases hd with rfl | rfl | rfl
    · exact str_sm
    · exact str_sm
    · exact this
def odF : Fm := .qu "some" "x" (.bin "and" (.rel "letter" "a" "x") (.neg (.rel "same" "x" "x")))
theorem od_ok : odF.Ok := ⟨.inl rfl, by simp [vrs], .inl rfl, .ltr (by simp [abc]) (by simp [xyz]), .pl (.inr (.inr rfl)) (by simp [xyz]) (by simp [xyz])⟩
theorem cl_lp {r : List Nat} : Cl (ls "(" ++ r) := by rw [ls_lp]; exact cl_of (by decide)
theorem cl_rp {r : List Nat} : Cl (ls ")" ++ r) := by rw [ls_rp]; exact cl_of (by decide)
theorem cl_eq {r : List Nat} : Cl (ls "=" ++ r) := by rw [ls_eq]; exact cl_of (by decide)
theorem od_tk : Tk (ls " some  x(a(x)and not x=x) ") odF.toks := by
  have e : ls " some  x(a(x)and not x=x) " = 32 :: (ls "some" ++ (32 :: 32 :: (ls "x" ++ (ls "(" ++ (ls "a" ++ (ls "(" ++ (ls "x" ++ (ls ")" ++ (ls "and" ++ (32 :: (ls "not" ++ (32 :: (ls "x" ++ (ls "=" ++ (ls "x" ++ (ls ")" ++ (32 :: []))))))))))))))))) := by decide +kernel
  have e2 : odF.toks = (["some", "x", "(", "a", "(", "x", ")", "and", "not", "x", "=", "x", ")"] : List Str) := by decide +kernel
  rw [e, e2]
  refine .sp (tk_wd (by decide +kernel) (.sp (.sp (tk_wd (by decide +kernel) (tk_sg ls_lp (by decide) (tk_wd (by decide +kernel) (tk_sg ls_lp (by decide) (tk_wd (by decide +kernel) (tk_sg ls_rp (by decide) (tk_wd (by decide +kernel) (.sp (tk_wd (by decide +kernel) (.sp (tk_wd (by decide +kernel) (tk_sg ls_eq (by decide) (tk_wd (by decide +kernel) (tk_sg ls_rp (by decide) (.sp .nil)) cl_rp)) cl_eq)) cl_sp)) cl_sp)) cl_rp)) cl_lp)) cl_lp))) cl_sp)
theorem sc_law : FnScope ["_law_script", "_law_rng", "_law_turn", "_law_my_formula", "_law_my_text", "_law_found"] ["_law_script"] (defScope s_law) := ⟨rfl, rfl, rfl, by decide +kernel, rfl, by decide +kernel, by decide +kernel⟩
theorem ok_law (D : Df K mg "law" s_law ["_law_script"]) (bi : Bi mg)
    (c_law_draws : Cal P w K mg base 1 "_law_draws" ["_law_script"] (spDraws K)) (c_law_same : Cal P w K mg base 20 "_law_same" ["_law_found", "_law_due"] (spSame K 20)) (c_law_any_formula : Cal P w K mg base 7 "_law_any_formula" ["_law_rng", "_law_kit", "_law_deep"] (spAnyF K 5))
    (c_law_nested : Cal P w K mg base 7 "_law_nested" ["_law_my_formula"] (spNest K 6)) (c_law_written : Cal P w K mg base 6 "_law_written" ["_law_my_formula"] (spTxt K 6)) (cformat_formula : Cal P w K mg base 6 "format_formula" ["formula"] (spTxt K 6))
    (cparse_formula : Cal P w K mg base 8 "parse_formula" ["text"] (spParse K)) (c_law_loose : Cal P w K mg base 2 "_law_loose" ["_law_rng", "_law_my_text"] spLoose)
    (Dparse_formula : Df K mg "parse_formula" s_parse_formula ["text"]) (Dformat_formula : Df K mg "format_formula" s_format_formula ["formula"]) :
    Cal P w K mg base 31 "law" ["_law_script"] (spLaw K) := by
  refine D.ok sc_law (fun vs H Q E h => ?_) (fun f cdv A outer s H vs Q E hr h => ?_)
  · obtain ⟨a, ns, rfl, _⟩ := h
    rfl
  obtain ⟨a, ns, rfl, hS, q⟩ := h
  refine ⟨_, (pss_cons (ps_set (i := 1) sc_law.nd rfl (.inl rfl) (pe_own c_law_draws hr (by omega) (by rfl) (pa_cons (pv 0) pa_nil)))
      (pss_cons (ps_for PassesOwn.never rfl (pi_range1 (by rfl) bi.range (pa_cons pe_int pa_nil)) (pg_name (i := 2) sc_law.nd rfl (.inl rfl)) (pss_cons (ps_set (i := 3) sc_law.nd rfl (.inl rfl) (pe_own c_law_any_formula hr (by omega) (by rfl) (pa_cons (pv 1) (pa_cons (pe_lst (pa_cons pe_int pa_nil)) (pa_cons pe_int pa_nil)))))
      (pss_cons (ps_set (i := 4) sc_law.nd rfl (.inl rfl) (pe_own c_law_written hr (by omega) (by rfl) (pa_cons (pv 3) pa_nil)))
      (pss_cons (ps_if (PW.pt (pw_or (pt_cmpR op_gt (pe_own c_law_nested hr (by omega) (by rfl) (pa_cons (pv 3) pa_nil)) pe_int (nomark _)) (pw_or1 (pt_cmpR op_gt (pe_callB call_len_str (by rfl) bi.len PySem.boot_len (pa_cons (pv 4) pa_nil)) pe_int (nomark _))))) (pss_one ps_continue) pss_nil)
      (pss_cons (ps_if (pt_not (pt_val (pe_own c_law_same hr (by omega) (by rfl) (pa_cons (pe_own cformat_formula hr (by omega) (by rfl) (pa_cons (pv 3) pa_nil)) (pa_cons (pv 4) pa_nil))))) (pss_one (ps_ret pe_bl)) pss_nil)
      (pss_one (ps_if (PW.pt (pw_or (pt_not (pt_val (pe_own c_law_same hr (by omega) (by rfl) (pa_cons (pe_own cparse_formula hr (by omega) (by rfl) (pa_cons (pv 4) pa_nil)) (pa_cons (pv 3) pa_nil))))) (pw_or1 (pt_not (pt_val (pe_own c_law_same hr (by omega) (by rfl) (pa_cons (pe_own cparse_formula hr (by omega) (by rfl) (pa_cons (pe_own c_law_loose hr (by omega) (by rfl) (pa_cons (pv 1) (pa_cons (pv 4) pa_nil))) pa_nil)) (pa_cons (pv 3) pa_nil)))))))) (pss_one (ps_ret pe_bl)) pss_nil)))))))
      (pss_cons (ps_set (i := 5) sc_law.nd rfl (.inl rfl) (pe_ownK0 (ks := ["text"]) (g := g1) (gV := g1) cparse_formula Dparse_formula hr (by omega) (by rfl) (fun _ _ _ _ _ _ us ws hl => by obtain ⟨_, rfl, rfl⟩ := g1_inv hl; rfl) g1_rel (pk_cons pe_str pk_nil)))
      (pss_cons (ps_if (pt_not (pt_val (pe_own c_law_same hr (by omega) (by rfl) (pa_cons (pv 5) (pa_cons (pe_tup (pa_cons pe_str (pa_cons pe_str (pa_cons (pe_tup (pa_cons pe_str (pa_cons (pe_tup (pa_cons pe_str (pa_cons pe_str (pa_cons pe_str pa_nil)))) (pa_cons (pe_tup (pa_cons pe_str (pa_cons (pe_tup (pa_cons pe_str (pa_cons pe_str (pa_cons pe_str pa_nil)))) pa_nil))) pa_nil)))) pa_nil)))) pa_nil))))) (pss_one (ps_ret pe_bl)) pss_nil)
      (pss_one (ps_ret (pe_cmpR op_eq (pe_ownK0 (ks := ["formula"]) (g := g1) (gV := g1) cformat_formula Dformat_formula hr (by omega) (by rfl) (fun _ _ _ _ _ _ us ws hl => by obtain ⟨_, rfl, rfl⟩ := g1_inv hl; rfl) g1_rel (pk_cons (pe_tup (pa_cons pe_str (pa_cons pe_str (pa_cons pe_str pa_nil)))) pk_nil)) pe_str (nomark _)))))))), ?_⟩
  refine ⟨_, rfl, a, ns, rfl, hS, fun r l H1 g1 k1 => ?_⟩
  refine ⟨6, rfl, by decide, by decide, for_range (n := 6) (fun i σ' H' => ∃ y2 y3 y4, σ' = [some (.ref a), some (.ref r), y2, y3, y4, none] ∧ Rng H' r l) ?_ ?_ ?_⟩
  · exact ⟨none, none, none, rfl, g1⟩
  · rintro i0 σ' H2 _ ⟨y2, y3, y4, rfl, g2⟩
    refine ⟨_, rfl, (by show 1 ≤ sizeLine; decide), fun k hk => ?_⟩
    obtain ⟨z2, hz2⟩ := g2.lst
    obtain ⟨zl2, hzl2⟩ := g2.some_l
    refine ⟨r, l, k, 5, _, rfl, rfl, by decide, g2.new hk, upd_same, (ne_of_none hz2 hk).symm, (ne_of_none hzl2 hk).symm, fun v t a' H3 hv ho hd g3 hk3 k3 => ?_⟩
    clear k3 hk3
    have rn : ∀ {H' : Hp}, Same H3 H' → Rng H' r l := fun S => g3.of (fun o h => S _ _ h) (fun o h => S _ _ h)
    have hs := t.size_le
    have h5 : 2 ^ t.dep ≤ 2 ^ 5 := Nat.pow_le_pow_right (by decide) hd
    have e5 : 2 ^ 5 = 32 := by decide
    have hsm : Sm 19 t.dat := t.sm.mono (by omega)
    have l640 := t.txt_640 ho (by omega)
    refine ⟨_, rfl, v, t, rfl, hv, ho, by omega, by decide, fun H4 k4 => ?_⟩
    refine ⟨_, rfl, v, t, rfl, FV.tp (tp_same k4) _ hv, ho, by omega, fun H5 k5 => ⟨_, _, rfl, rfl, _, rfl, ite2 (fun _ => ⟨_, _, _, rfl, rn (k4.trans k5)⟩) (fun h1 => ⟨_, rfl, _, rfl, fit (by omega), _, _, rfl, rfl, _, rfl, ite2 (fun _ => ⟨_, _, _, rfl, rn (k4.trans k5)⟩) (fun h2 => ?_)⟩)⟩⟩
    have hn3 : t.nest ≤ 3 := by
      have : ¬ ((t.nest : Nat) : Int) > 3 := fun h => h1 (decide_eq_true h)
      omega
    have h140 : t.txt.length ≤ 140 := by
      have : ¬ ((t.txt.length : Nat) : Int) > 140 := fun h => h2 (decide_eq_true h)
      omega
    have S5 := k4.trans k5
    refine ⟨_, rfl, v, t, rfl, FV.tp (tp_same S5) _ hv, ho, by omega, by decide, fun H6 k6 => ?_⟩
    have S6 := S5.trans k6
    refine ⟨_, rfl, _, _, .str t.txt, rfl, .str _, .str _, str_sm, fun H7 k7 => ⟨true, rfl, ?_⟩⟩
    have S7 := S6.trans k7
    refine ⟨_, rfl, t.txt, t, rfl, tk_txt ho, by omega, ho, by omega, by omega, hn3, fun v8 H8 hv8 k8 => ?_⟩
    have S8 := S7.trans k8
    refine ⟨_, rfl, _, _, t.dat, rfl, hv8, FV.tp (tp_same S8) _ hv, hsm, fun H9 k9 => ⟨true, rfl, ?_⟩⟩
    have S9 := S8.trans k9
    refine ⟨_, rfl, _, rfl, r, l, t.txt, rfl, rn S9, h140, fun o H10 hlo h280 g10 k10 => ?_⟩
    obtain ⟨z9, hz9⟩ := (rn S9).lst
    have T10 := (tp_same S9).trans (k10.tp hz9)
    refine ⟨o, t, rfl, tk_lo (tk_txt ho) hlo, by omega, ho, by omega, by omega, hn3, fun v11 H11 hv11 k11 => ?_⟩
    refine ⟨_, rfl, _, _, t.dat, rfl, hv11, FV.tp (T10.trans (tp_same k11)) _ hv, hsm, fun H12 k12 => ⟨true, rfl, ?_⟩⟩
    have S12 := k11.trans k12
    exact ⟨_, _, _, rfl, g10.of (fun o h => S12 _ _ h) (fun o h => S12 _ _ h)⟩
  · rintro σ' H2 ⟨y2, y3, y4, rfl, g2⟩
    refine ⟨_, odF, rfl, od_tk, by decide +kernel, od_ok, by decide, by decide, by decide, fun v H3 hv k3 => ?_⟩
    refine ⟨_, rfl, (by show 3 ≤ sizeLine; decide), fun p1 h1 => ⟨(by show 3 ≤ sizeLine; decide), fun p2 h2 => ⟨(by show 2 ≤ sizeLine; decide), fun p3 h3 => ⟨(by show 3 ≤ sizeLine; decide), fun p4 h4 => ⟨(by show 3 ≤ sizeLine; decide), fun p5 h5 => ?_⟩⟩⟩⟩⟩
    have t1 := tp_new (o := .tup [.str "letter", .str "a", .str "x"]) h1
    have t2 := tp_new (o := .tup [.str "same", .str "x", .str "x"]) h2
    have t3 := tp_new (o := .tup [.str "not", .ref p2]) h3
    have t4 := tp_new (o := .tup [.str "and", .ref p1, .ref p3]) h4
    have t5 := tp_new (o := .tup [.str "some", .str "x", .ref p4]) h5
    have hd : FV K _ (.ref p5) odF := fv_qu (SqT.of upd_same) (fv_bin (t5.sq (SqT.of upd_same)) (fv_rel ((t2.trans (t3.trans (t4.trans t5))).sq (SqT.of upd_same))) (fv_neg ((t4.trans t5).sq (SqT.of upd_same)) (fv_rel ((t3.trans (t4.trans t5)).sq (SqT.of upd_same)))))
    refine ⟨_, _, odF.dat, rfl, FV.tp (t1.trans (t2.trans (t3.trans (t4.trans t5)))) _ hv, hd, odF.sm.mono (by decide), fun H6 k6 => ⟨true, rfl, ?_⟩⟩
    refine ⟨(by show 3 ≤ sizeLine; decide), fun p6 h6 => ?_⟩
    refine ⟨_, .rel "in" "z" "Y", rfl, fv_rel (SqT.of upd_same), .el (by simp [xyz]) (by simp [XYZ]), by decide, by decide, fun H7 k7 => ⟨rfl, ?_⟩⟩
    have e : (Fm.rel "in" "z" "Y").txt = "z in Y" := by decide +kernel
    rw [e, decide_eq_true rfl]
    exact q _
theorem fin {h : Heap} {fa : Addr} (_X : K.In h) (_G : h.Ns mainGlobals mg) (hmg : mg "law" = some (.ref fa)) (hen : mg "enumerate" = none)
    (bi : Bi mg)
    (hLETTERS : ∃ v, mg "LETTERS" = some v ∧ L2.RelV (.str "abc") v)
    (hPLACES : ∃ v, mg "PLACES" = some v ∧ L2.RelV (.str "xyz") v)
    (hSETS : ∃ v, mg "SETS" = some v ∧ L2.RelV (.str "XYZ") v)
    (hQUANTIFIERS : ∃ a, mg "QUANTIFIERS" = some (.ref a) ∧ ∀ H, SqT K H a [.str "some", .str "all"])
    (hMAX_NAME : ∃ v, mg "MAX_NAME" = some v ∧ L2.RelV (.int 8) v)
    (hMAX_CHARACTERS : ∃ v, mg "MAX_CHARACTERS" = some v ∧ L2.RelV (.int 300) v)
    (hMAX_NODES : ∃ v, mg "MAX_NODES" = some v ∧ L2.RelV (.int 40) v)
    (hMAX_NESTING : ∃ v, mg "MAX_NESTING" = some v ∧ L2.RelV (.int 3) v)
    (hLOWERCASE : ∃ v, mg "LOWERCASE" = some v ∧ L2.RelV (.str "abcdefghijklmnopqrstuvwxyz") v)
    (hCHARACTERS : ∃ v, mg "CHARACTERS" = some v ∧ L2.RelV (.str " (){}<=XYZabcdefghijklmnopqrstuvwxyz") v)
    (hSIGNS : ∃ a, mg "SIGNS" = some (.ref a) ∧ KdS K w a [("before", "<"), ("next", "next"), ("same", "="), ("in", "in")])
    (hKINDS : ∃ a, mg "KINDS" = some (.ref a) ∧ KdS K w a [("<", "before"), ("next", "next"), ("=", "same"), ("in", "in")])
    (hEND : ∃ v, mg "END" = some v ∧ L2.RelV (.str "") v)
    (Dformula_size : Df K mg "formula_size" s_formula_size ["formula"])
    (Dnesting : Df K mg "nesting" s_nesting ["formula"])
    (Dinner_formulas : Df K mg "inner_formulas" s_inner_formulas ["formula"])
    (Dparse_formula : Df K mg "parse_formula" s_parse_formula ["text"])
    (Dformat_formula : Df K mg "format_formula" s_format_formula ["formula"])
    (D_tokens : Df K mg "_tokens" s__tokens ["text"])
    (D_token_end : Df K mg "_token_end" s__token_end ["text", "start"])
    (D_take : Df K mg "_take" s__take ["tokens", "expected"])
    (D_take_name : Df K mg "_take_name" s__take_name ["tokens"])
    (D_read_formula : Df K mg "_read_formula" s__read_formula ["tokens"])
    (D_begin : Df K mg "_begin" s__begin ["tokens", "begun"])
    (D_read_relation : Df K mg "_read_relation" s__read_relation ["tokens", "place"])
    (D_go_on : Df K mg "_go_on" s__go_on ["tokens", "begun", "formula"])
    (D_law_draws : Df K mg "_law_draws" s__law_draws ["_law_script"])
    (D_law_draw : Df K mg "_law_draw" s__law_draw ["_law_rng", "_law_many"])
    (D_law_pick : Df K mg "_law_pick" s__law_pick ["_law_rng", "_law_things"])
    (D_law_same : Df K mg "_law_same" s__law_same ["_law_found", "_law_due"])
    (D_law_nested : Df K mg "_law_nested" s__law_nested ["_law_my_formula"])
    (D_law_name : Df K mg "_law_name" s__law_name ["_law_rng"])
    (D_law_any_formula : Df K mg "_law_any_formula" s__law_any_formula ["_law_rng", "_law_kit", "_law_deep"])
    (D_law_written : Df K mg "_law_written" s__law_written ["_law_my_formula"])
    (D_law_loose : Df K mg "_law_loose" s__law_loose ["_law_rng", "_law_my_text"])
    (Dlaw : Df K mg "law" s_law ["_law_script"]) :
    ∃ fd : FuncData, (∀ (s : Shared) (v : Value), BindsTo s fd ⟨[v], []⟩ [("_law_script", v)]) ∧ ∀ base : Heap, K.In base → base.Ns mainGlobals mg → FnOk P w K mg base CX0 31 fa fd ["_law_script"] (spLaw K) := by
  obtain ⟨_, mLETTERS, tk, rfl⟩ := hLETTERS
  obtain ⟨_, mPLACES, tPLACES, rfl⟩ := hPLACES
  obtain ⟨_, mSETS, tSETS, rfl⟩ := hSETS
  obtain ⟨aQ, mQUANTIFIERS, hQ⟩ := hQUANTIFIERS
  obtain ⟨_, mMAX_NAME, tMAX_NAME, rfl⟩ := hMAX_NAME
  obtain ⟨_, mMAX_CHARACTERS, tMAX_CHARACTERS, rfl⟩ := hMAX_CHARACTERS
  obtain ⟨_, mMAX_NODES, tMAX_NODES, rfl⟩ := hMAX_NODES
  obtain ⟨_, mMAX_NESTING, tMAX_NESTING, rfl⟩ := hMAX_NESTING
  obtain ⟨_, mLOWERCASE, tLOWERCASE, rfl⟩ := hLOWERCASE
  obtain ⟨_, mCHARACTERS, tCHARACTERS, rfl⟩ := hCHARACTERS
  obtain ⟨aS, mSIGNS, kSIGNS⟩ := hSIGNS
  obtain ⟨aK, mKINDS, kKINDS⟩ := hKINDS
  obtain ⟨_, mEND, tEND, rfl⟩ := hEND
  refine law_end Dlaw hmg (fun _ _ _ _ _ _ v => rfl) (fun base _ _ => ?_)
  have c_draw := ok_draw (P := P) (w := w) (base := base) D_law_draw bi
  have c_pick := ok_pick D_law_pick bi c_draw
  have c_name := ok_name D_law_name bi c_draw
  have c_any := ok_any D_law_any_formula bi c_draw c_pick c_name 5
  have c_same := ok_same (P := P) (w := w) (base := base) D_law_same bi 20
  have c_draws := ok_draws (P := P) (w := w) (base := base) D_law_draws bi
  have c_in := ok_innerF (P := P) (w := w) (base := base) Dinner_formulas bi mQUANTIFIERS hQ
  have c_tend := ok_tend (P := P) (w := w) (base := base) D_token_end bi mLOWERCASE ⟨_, rfl⟩ mSETS ⟨_, rfl⟩
  have c_tokens := ok_tokens D_tokens bi mEND ⟨_, rfl⟩ c_tend
  have c_take := ok_take (P := P) (w := w) (base := base) D_take bi
  have c_take_name := ok_take_name (P := P) (w := w) (base := base) D_take_name bi mMAX_NAME ⟨_, rfl⟩
  have c_rel := ok_relation D_read_relation bi mKINDS kKINDS mPLACES ⟨_, rfl⟩ mSETS ⟨_, rfl⟩ c_take
  have c_begin := ok_begin D_begin bi mLETTERS ⟨_, rfl⟩ mPLACES ⟨_, rfl⟩ mSETS ⟨_, rfl⟩ mQUANTIFIERS hQ c_take c_take_name c_rel
  have c_go := ok_go D_go_on bi c_take
  have c_read := ok_read D_read_formula bi c_begin c_go
  have c_parse := ok_parse Dparse_formula bi hen mEND ⟨_, rfl⟩ mCHARACTERS ⟨_, rfl⟩ mMAX_CHARACTERS ⟨_, rfl⟩ mMAX_NODES ⟨_, rfl⟩ mMAX_NESTING ⟨_, rfl⟩ c_tokens c_read c_take (ok_size Dformula_size bi c_in 6) (ok_nest Dnesting bi mQUANTIFIERS hQ c_in 6)
  exact ok_law Dlaw bi c_draws c_same c_any (ok_lnest D_law_nested bi 6) (ok_written D_law_written bi 6) (ok_format Dformat_formula bi mQUANTIFIERS hQ mSIGNS kSIGNS 6) c_parse (ok_loose D_law_loose bi c_draw) Dparse_formula Dformat_formula
end
end SW

set_option Elab.async false
set_option linter.all false
open PySem PySem.W PyProof.Rows
set_option maxRecDepth 100000 in
set_option maxHeartbeats 0 in
theorem PySem.Challenge.cw_scatterwords_k15_formula_texts_holds : PySem.Challenge.rw_scatterwords_k15_formula_texts.Holds := by
  w_on; o_law; k_head; (case hw => w_witness2)
  k_fill
  refine SW.walk (l := PySem.Challenge.rw_scatterwords_k15_formula_texts) (k := 31) ⟨rfl, by decide, by decide⟩ rfl rfl (fun w h Y => PySem.W.kIn_of Y) ?F
  case F =>
    intro w mg fa h KX G hmg
    refine' SW.fin KX G hmg ?hen ?bi ?hLETTERS ?hPLACES ?hSETS ?hQUANTIFIERS ?hMAX_NAME ?hMAX_CHARACTERS ?hMAX_NODES ?hMAX_NESTING ?hLOWERCASE ?hCHARACTERS ?hSIGNS ?hKINDS ?hEND ?Dformula_size ?Dnesting ?Dinner_formulas ?Dparse_formula ?Dformat_formula ?D_tokens ?D_token_end ?D_take ?D_take_name ?D_read_formula ?D_begin ?D_read_relation ?D_go_on ?D_law_draws ?D_law_draw ?D_law_pick ?D_law_same ?D_law_nested ?D_law_name ?D_law_any_formula ?D_law_written ?D_law_loose ?Dlaw
    case hen =>
      refine' PySem.W.mg_none_of KX G ?b
      (case b => k_is)
    case bi =>
      refine' ⟨PySem.W.mg_none_of KX G ?b0, PySem.W.mg_none_of KX G ?b1, PySem.W.mg_none_of KX G ?b2, PySem.W.mg_none_of KX G ?b3, PySem.W.mg_none_of KX G ?b4, PySem.W.mg_none_of KX G ?b5, PySem.W.mg_none_of KX G ?b6, PySem.W.mg_none_of KX G ?b7, PySem.W.mg_none_of KX G ?b8, PySem.W.mg_none_of KX G ?b9, PySem.W.mg_none_of KX G ?b10, PySem.W.mg_none_of KX G ?b11, PySem.W.mg_none_of KX G ?b12, PySem.W.mg_none_of KX G ?b13, PySem.W.mg_none_of KX G ?b14, PySem.W.mg_none_of KX G ?b15, PySem.W.mg_none_of KX G ?b16, PySem.W.mg_none_of KX G ?b17, PySem.W.mg_none_of KX G ?b18⟩
      (case b0 => k_is)
      (case b1 => k_is)
      (case b2 => k_is)
      (case b3 => k_is)
      (case b4 => k_is)
      (case b5 => k_is)
      (case b6 => k_is)
      (case b7 => k_is)
      (case b8 => k_is)
      (case b9 => k_is)
      (case b10 => k_is)
      (case b11 => k_is)
      (case b12 => k_is)
      (case b13 => k_is)
      (case b14 => k_is)
      (case b15 => k_is)
      (case b16 => k_is)
      (case b17 => k_is)
      (case b18 => k_is)
    case hLETTERS =>
      refine' ⟨_, PySem.W.mg_of KX G ?a, ?e⟩
      (case a => k_is); (case e => exact ⟨_, rfl⟩)
    case hPLACES =>
      refine' ⟨_, PySem.W.mg_of KX G ?a, ?e⟩
      (case a => k_is); (case e => exact ⟨_, rfl⟩)
    case hSETS =>
      refine' ⟨_, PySem.W.mg_of KX G ?a, ?e⟩
      (case a => k_is); (case e => exact ⟨_, rfl⟩)
    case hQUANTIFIERS =>
      refine' ⟨_, PySem.W.mg_of KX G ?a, SW.sqt_mk ?l ?c ?d ?s ?r⟩
      (case a => k_is); (case l => k_is); (case c => rfl); (case d => rfl); (case s => decide)
      (case r => exact (.cons (SW.relstr (by decide +kernel)) (.cons (SW.relstr (by decide +kernel)) .nil)))
    case hMAX_NAME =>
      refine' ⟨_, PySem.W.mg_of KX G ?a, ?e⟩
      (case a => k_is); (case e => first | exact ⟨_, rfl⟩ | exact SW.relstr (by decide +kernel))
    case hMAX_CHARACTERS =>
      refine' ⟨_, PySem.W.mg_of KX G ?a, ?e⟩
      (case a => k_is); (case e => first | exact ⟨_, rfl⟩ | exact SW.relstr (by decide +kernel))
    case hMAX_NODES =>
      refine' ⟨_, PySem.W.mg_of KX G ?a, ?e⟩
      (case a => k_is); (case e => first | exact ⟨_, rfl⟩ | exact SW.relstr (by decide +kernel))
    case hMAX_NESTING =>
      refine' ⟨_, PySem.W.mg_of KX G ?a, ?e⟩
      (case a => k_is); (case e => first | exact ⟨_, rfl⟩ | exact SW.relstr (by decide +kernel))
    case hLOWERCASE =>
      refine' ⟨_, PySem.W.mg_of KX G ?a, ?e⟩
      (case a => k_is); (case e => first | exact ⟨_, rfl⟩ | exact SW.relstr (by decide +kernel))
    case hCHARACTERS =>
      refine' ⟨_, PySem.W.mg_of KX G ?a, ?e⟩
      (case a => k_is); (case e => first | exact ⟨_, rfl⟩ | exact SW.relstr (by decide +kernel))
    case hSIGNS =>
      refine' ⟨_, PySem.W.mg_of KX G ?a, SW.kds_mk ?l ?lit ?lo ?he (by decide +kernel) (by show 4 ≤ sizeLine; decide) (.cons ?e0 ?r0 (.cons ?e1 ?r1 (.cons ?e2 ?r2 (.cons ?e3 ?r3 .nil))))⟩
      (case a => k_is); (case l => k_is); (case lit => exact ⟨⟨_, _, rfl, rfl⟩, ⟨⟨_, _, rfl, rfl⟩, ⟨⟨_, _, rfl, rfl⟩, ⟨⟨_, _, rfl, rfl⟩, trivial⟩⟩⟩⟩); (case lo => decide +kernel); (case he => first | rfl | decide +kernel)
      (case e3 => k_is); (case r3 => exact SW.relstr (by decide +kernel))
      (case e2 => k_is); (case r2 => exact SW.relstr (by decide +kernel))
      (case e1 => k_is); (case r1 => exact SW.relstr (by decide +kernel))
      (case e0 => k_is); (case r0 => exact SW.relstr (by decide +kernel))
    case hKINDS =>
      refine' ⟨_, PySem.W.mg_of KX G ?a, SW.kds_mk ?l ?lit ?lo ?he (by decide +kernel) (by show 4 ≤ sizeLine; decide) (.cons ?e0 ?r0 (.cons ?e1 ?r1 (.cons ?e2 ?r2 (.cons ?e3 ?r3 .nil))))⟩
      (case a => k_is); (case l => k_is); (case lit => exact ⟨⟨_, _, rfl, rfl⟩, ⟨⟨_, _, rfl, rfl⟩, ⟨⟨_, _, rfl, rfl⟩, ⟨⟨_, _, rfl, rfl⟩, trivial⟩⟩⟩⟩); (case lo => decide +kernel); (case he => first | rfl | decide +kernel)
      (case e3 => k_is); (case r3 => exact SW.relstr (by decide +kernel))
      (case e2 => k_is); (case r2 => exact SW.relstr (by decide +kernel))
      (case e1 => k_is); (case r1 => exact SW.relstr (by decide +kernel))
      (case e0 => k_is); (case r0 => exact SW.relstr (by decide +kernel))
    case hEND =>
      refine' ⟨_, PySem.W.mg_of KX G ?a, ?e⟩
      (case a => k_is); (case e => first | exact ⟨_, rfl⟩ | exact SW.relstr (by decide +kernel))
    case Dformula_size =>
      refine' SW.df_mk KX G ?a ?l ?c ?k (fun _ _ _ _ _ _ us hl => match us, hl with | [_], _ => rfl)
      (case a => k_is); (case l => k_is); (case c => k_is); (case k => k_is)
    case Dnesting =>
      refine' SW.df_mk KX G ?a ?l ?c ?k (fun _ _ _ _ _ _ us hl => match us, hl with | [_], _ => rfl)
      (case a => k_is); (case l => k_is); (case c => k_is); (case k => k_is)
    case Dinner_formulas =>
      refine' SW.df_mk KX G ?a ?l ?c ?k (fun _ _ _ _ _ _ us hl => match us, hl with | [_], _ => rfl)
      (case a => k_is); (case l => k_is); (case c => k_is); (case k => k_is)
    case Dparse_formula =>
      refine' SW.df_mk KX G ?a ?l ?c ?k (fun _ _ _ _ _ _ us hl => match us, hl with | [_], _ => rfl)
      (case a => k_is); (case l => k_is); (case c => k_is); (case k => k_is)
    case Dformat_formula =>
      refine' SW.df_mk KX G ?a ?l ?c ?k (fun _ _ _ _ _ _ us hl => match us, hl with | [_], _ => rfl)
      (case a => k_is); (case l => k_is); (case c => k_is); (case k => k_is)
    case D_tokens =>
      refine' SW.df_mk KX G ?a ?l ?c ?k (fun _ _ _ _ _ _ us hl => match us, hl with | [_], _ => rfl)
      (case a => k_is); (case l => k_is); (case c => k_is); (case k => k_is)
    case D_token_end =>
      refine' SW.df_mk KX G ?a ?l ?c ?k (fun _ _ _ _ _ _ us hl => match us, hl with | [_, _], _ => rfl)
      (case a => k_is); (case l => k_is); (case c => k_is); (case k => k_is)
    case D_take =>
      refine' SW.df_mk KX G ?a ?l ?c ?k (fun _ _ _ _ _ _ us hl => match us, hl with | [_, _], _ => rfl)
      (case a => k_is); (case l => k_is); (case c => k_is); (case k => k_is)
    case D_take_name =>
      refine' SW.df_mk KX G ?a ?l ?c ?k (fun _ _ _ _ _ _ us hl => match us, hl with | [_], _ => rfl)
      (case a => k_is); (case l => k_is); (case c => k_is); (case k => k_is)
    case D_read_formula =>
      refine' SW.df_mk KX G ?a ?l ?c ?k (fun _ _ _ _ _ _ us hl => match us, hl with | [_], _ => rfl)
      (case a => k_is); (case l => k_is); (case c => k_is); (case k => k_is)
    case D_begin =>
      refine' SW.df_mk KX G ?a ?l ?c ?k (fun _ _ _ _ _ _ us hl => match us, hl with | [_, _], _ => rfl)
      (case a => k_is); (case l => k_is); (case c => k_is); (case k => k_is)
    case D_read_relation =>
      refine' SW.df_mk KX G ?a ?l ?c ?k (fun _ _ _ _ _ _ us hl => match us, hl with | [_, _], _ => rfl)
      (case a => k_is); (case l => k_is); (case c => k_is); (case k => k_is)
    case D_go_on =>
      refine' SW.df_mk KX G ?a ?l ?c ?k (fun _ _ _ _ _ _ us hl => match us, hl with | [_, _, _], _ => rfl)
      (case a => k_is); (case l => k_is); (case c => k_is); (case k => k_is)
    case D_law_draws =>
      refine' SW.df_mk KX G ?a ?l ?c ?k (fun _ _ _ _ _ _ us hl => match us, hl with | [_], _ => rfl)
      (case a => k_is); (case l => k_is); (case c => k_is); (case k => k_is)
    case D_law_draw =>
      refine' SW.df_mk KX G ?a ?l ?c ?k (fun _ _ _ _ _ _ us hl => match us, hl with | [_, _], _ => rfl)
      (case a => k_is); (case l => k_is); (case c => k_is); (case k => k_is)
    case D_law_pick =>
      refine' SW.df_mk KX G ?a ?l ?c ?k (fun _ _ _ _ _ _ us hl => match us, hl with | [_, _], _ => rfl)
      (case a => k_is); (case l => k_is); (case c => k_is); (case k => k_is)
    case D_law_same =>
      refine' SW.df_mk KX G ?a ?l ?c ?k (fun _ _ _ _ _ _ us hl => match us, hl with | [_, _], _ => rfl)
      (case a => k_is); (case l => k_is); (case c => k_is); (case k => k_is)
    case D_law_nested =>
      refine' SW.df_mk KX G ?a ?l ?c ?k (fun _ _ _ _ _ _ us hl => match us, hl with | [_], _ => rfl)
      (case a => k_is); (case l => k_is); (case c => k_is); (case k => k_is)
    case D_law_name =>
      refine' SW.df_mk KX G ?a ?l ?c ?k (fun _ _ _ _ _ _ us hl => match us, hl with | [_], _ => rfl)
      (case a => k_is); (case l => k_is); (case c => k_is); (case k => k_is)
    case D_law_any_formula =>
      refine' SW.df_mk KX G ?a ?l ?c ?k (fun _ _ _ _ _ _ us hl => match us, hl with | [_, _, _], _ => rfl)
      (case a => k_is); (case l => k_is); (case c => k_is); (case k => k_is)
    case D_law_written =>
      refine' SW.df_mk KX G ?a ?l ?c ?k (fun _ _ _ _ _ _ us hl => match us, hl with | [_], _ => rfl)
      (case a => k_is); (case l => k_is); (case c => k_is); (case k => k_is)
    case D_law_loose =>
      refine' SW.df_mk KX G ?a ?l ?c ?k (fun _ _ _ _ _ _ us hl => match us, hl with | [_, _], _ => rfl)
      (case a => k_is); (case l => k_is); (case c => k_is); (case k => k_is)
    case Dlaw =>
      refine' SW.df_mk KX G ?a ?l ?c ?k (fun _ _ _ _ _ _ us hl => match us, hl with | [_], _ => rfl)
      (case a => k_is); (case l => k_is); (case c => k_is); (case k => k_is)
