import PyProof.Rows.All
import Wide.All
import OpenK.AllK
import Wide.FinOn
import HandS.ForMost
import HandS.IsInst
import HandS.Zip
import HandS.Wide
import HandS.Star
import HandS.Codes
import HandS.Walk
import PySem.Challenge.RW_scatterwords_k01_places_counted
set_option Elab.async false
set_option linter.all false
set_option maxRecDepth 100000
set_option maxHeartbeats 4000000
namespace SW
open PySem PySem.Spec PyProof.Rows L2

/-- a def that stands in the module -/
structure Df (K : PySem.W.Frag) (mg : Str → Option Value) (x : Str) (st : Stmt) (ps : List Str) : Prop where
  ex : ∃ f fd, Fun K x x st f fd ∧ mg x = some (.ref f) ∧ Binds K fd ps []
/-- a def that keeps a promise and can be called by its name -/
structure Cal (P : Program) (w : World) (K : PySem.W.Frag) (mg : Str → Option Value) (base : Heap) (k : Nat) (x : Str) (ps : List Str) (sp : Sp) : Prop where
  ex : ∃ f fd, FnOk P w K mg base CX0 k f fd ps sp ∧ mg x = some (.ref f) ∧ PySem.W.keepIn K (.ref f) = true ∧ Binds K fd ps [] ∧ ∃ oc od osl, K.lookup f = some ⟨oc, od, .func fd, osl⟩
/-- the built-in names that are not bound in the module -/
structure Bi (mg : Str → Option Value) : Prop where
  len : mg "len" = none
  int : mg "int" = none
  list : mg "list" = none
  tuple : mg "tuple" = none
  isinstance : mg "isinstance" = none
  zip : mg "zip" = none
  all : mg "all" = none
  sum : mg "sum" = none
  range : mg "range" = none
  str : mg "str" = none
  bool : mg "bool" = none
  reversed : mg "reversed" = none
  max : mg "max" = none
  sorted : mg "sorted" = none
  ord : mg "ord" = none
  min : mg "min" = none
  any : mg "any" = none
  dict : mg "dict" = none
  set : mg "set" = none
section
variable {P : Program} {w : World} {K : PySem.W.Frag} {mg : Str → Option Value} {base : Heap}
theorem Cal.imp {k : Nat} {x : Str} {ps : List Str} {sp sp' : Sp} (c : Cal P w K mg base k x ps sp) (h : ∀ vs H Q E, sp' vs H Q E → sp vs H Q E) : Cal P w K mg base k x ps sp' := by
  obtain ⟨f, fd, F, a, b, d⟩ := c.ex
  exact ⟨f, fd, F.imp h, a, b, d⟩
theorem Cal.mono {j k : Nat} {x : Str} {ps : List Str} {sp : Sp} (c : Cal P w K mg base j x ps sp) (h : j ≤ k) : Cal P w K mg base k x ps sp := by
  obtain ⟨f, fd, F, a, b, d⟩ := c.ex
  exact ⟨f, fd, F.mono h, a, b, d⟩
theorem Df.ok {x : Str} {st : Stmt} {N ps : List Str} {k : Nat} {sp : Sp} (D : Df K mg x st ps) (S : FnScope N ps (defScope st)) (len : ∀ vs H Q E, sp vs H Q E → vs.length = ps.length)
    (hbody : ∀ (f : Addr) (cdv : Value) (A : Around) (outer : List Env) (s : Shared) (H : Hp) (vs : List V) (Q : VK) (E : XK), Room k (A.deeper (envOfC x (defScope st) s.heap.objs.size f cdv)) → sp vs H Q E →
      ∃ t, PSs (cxOf CX0 P w K mg base N x (defScope st) f cdv A outer s H E).nox (defBody st) t ∧ t { nx := fun _ H' => Q .non H', rt := Q } (start N vs) H) : Cal P w K mg base (k + 1) x ps sp := by
  obtain ⟨f, fd, F, m, b⟩ := D.ex
  obtain ⟨oc, od, kV, doc, pm, an, cdv, ct, osl, _, lk, _⟩ := F.ex
  exact ⟨f, fd, F.ok S len fun cdv A outer s H vs Q E hr h => hbody f cdv A outer s H vs Q E hr h, m, F.kp, b, oc, od, osl, lk⟩
/-- a promise that asks what cannot be is kept by every def -/
theorem Df.no {x : Str} {st : Stmt} {ps : List Str} {k : Nat} {sp : Sp} (D : Df K mg x st ps) (h : ∀ vs H Q E, ¬ sp vs H Q E) : Cal P w K mg base k x ps sp := by
  obtain ⟨f, fd, F, m, b⟩ := D.ex
  obtain ⟨oc, od, kV, doc, pm, an, cdv, ct, osl, _, lk, _⟩ := F.ex
  exact ⟨f, fd, ⟨fun vs H Q E q => absurd q (h vs H Q E), fun A outer s H args us vs Q E _ _ _ _ q => absurd q (h vs H Q E)⟩, m, F.kp, b, oc, od, osl, lk⟩
end
section
variable {X : Cx} {k j : Nat} {x : Str} {ps : List Str} {sp : Sp} {p pos : Pos} {e : Expr} {es : List Expr} {t : TA}
theorem pe_own (c : Cal X.prog X.w X.K X.mg X.base k x ps sp) (hr : Room j X.A) (hk : k ≤ j) (hg : Gl X x) (ha : PA X (e :: es) t) (hdb : (x == ("__debug__" : Str)) = false := by decide)
    (he : starEach (e :: es) X.env = (false, eval e X.env) :: starEach es X.env := by rfl) (hpl : (backTo pos (starEach es X.env)).any (·.1) = false := by rfl) :
    PE X (.Call (.Name x p) (e :: es) [] pos) (tCall sp [] E0 t) := by
  obtain ⟨f, fd, F, hm, hK, hb, _⟩ := c.ex
  exact pe_call F (hr.mono hk) hg hm hK hb .nil pass0 ha hdb he hpl
end
section
variable {X : Cx} {k j : Nat} {x : Str} {ps ks : List Str} {sp : Sp} {p pos : Pos} {kws : List Keyword} {tk : TA} {st : Stmt} {g : List Value → List Value → List Value} {gV : List V → List V → List V} {e : Expr} {es : List Expr} {t : TA}
theorem kbinds {K : PySem.W.Frag} {mg : Str → Option Value} {f : Addr} {fd : FuncData} (D : Df K mg x st ps) (hm : mg x = some (.ref f)) (hl : ∃ oc od osl, K.lookup f = some ⟨oc, od, .func fd, osl⟩)
    (hb : ∀ (kV doc pm : Value) (an : Option Addr) (cdv ct : Value) (us ws : List Value), (g us ws).length = ps.length → bindArgs (PySem.W.fnOf x x (defArgs st) (defBody st) (defScope st) .none kV doc pm an cdv ct) ⟨us, ks.zip ws⟩ = pure (ps.zip (g us ws)))
    (hrel : ∀ {vs : List V} {us : List Value} {zs : List V} {ws : List Value}, Vals vs us → Vals zs ws → Vals (gV vs zs) (g us ws)) : KBinds K fd ps ks g gV := by
  obtain ⟨f', fd', F, m, b⟩ := D.ex
  have e : f' = f := by
    rw [hm] at m
    cases m
    rfl
  subst e
  obtain ⟨oc, od, kV, doc, pm, an, cdv, ct, osl, rfl, lk, _⟩ := F.ex
  obtain ⟨oc', od', osl', lk'⟩ := hl
  rw [lk] at lk'
  cases lk'
  exact ⟨fun s us ws _ hlen => .of_eq (hb kV doc pm an cdv ct us ws hlen), hrel⟩
/-- a call with keywords alone -/
theorem pe_ownK0 (c : Cal X.prog X.w X.K X.mg X.base k x ps sp) (D : Df X.K X.mg x st ps) (hr : Room j X.A) (hk : k ≤ j) (hg : Gl X x)
    (hb : ∀ (kV doc pm : Value) (an : Option Addr) (cdv ct : Value) (us ws : List Value), (g us ws).length = ps.length → bindArgs (PySem.W.fnOf x x (defArgs st) (defBody st) (defScope st) .none kV doc pm an cdv ct) ⟨us, ks.zip ws⟩ = pure (ps.zip (g us ws)))
    (hrel : ∀ {vs : List V} {us : List Value} {zs : List V} {ws : List Value}, Vals vs us → Vals zs ws → Vals (gV vs zs) (g us ws)) (hkw : PK X kws tk) (hall : (backToKw pos (keywordEach kws X.env)).all (·.1.isSome) = true := by rfl) (hks : (backToKw pos (keywordEach kws X.env)).filterMap (·.1) = ks := by rfl)
    (hdb : (x == ("__debug__" : Str)) = false := by decide)
    (hpl : ((backTo pos (starEach [] X.env)).any (·.1) || (backToKw pos (keywordEach kws X.env)).any (·.1.isNone)) = false := by rfl) :
    PE X (.Call (.Name x p) [] kws pos) (tCallK sp gV E0 tNil tk) := by
  obtain ⟨f, fd, F, hm, hK, _, hl⟩ := c.ex
  have hb' : KBinds X.K fd ps ks g gV := kbinds D hm hl hb hrel
  refine ⟨fun pins s σ H Q I h => ?_⟩
  refine wpAny_Call_Name_kw (ld_glob I hg hm ?_ hdb)
  refine PySem.W.callWith_KW0 (h₀ := X.base) I.ok.mod.kin hK hall (thn (hkw.run pos pins s σ H _ I h) fun ws s2 ⟨zs, H2, I2, rz, q2⟩ => ⟨I2.kIn, ?_⟩) hpl
  rw [hks]
  exact run_fnk (F.mono hk) hr hb' pass0 I2 .nil rz q2
/-- a call with places and keywords -/
theorem pe_ownK (c : Cal X.prog X.w X.K X.mg X.base k x ps sp) (D : Df X.K X.mg x st ps) (hr : Room j X.A) (hk : k ≤ j) (hg : Gl X x)
    (hb : ∀ (kV doc pm : Value) (an : Option Addr) (cdv ct : Value) (us ws : List Value), (g us ws).length = ps.length → bindArgs (PySem.W.fnOf x x (defArgs st) (defBody st) (defScope st) .none kV doc pm an cdv ct) ⟨us, ks.zip ws⟩ = pure (ps.zip (g us ws)))
    (hrel : ∀ {vs : List V} {us : List Value} {zs : List V} {ws : List Value}, Vals vs us → Vals zs ws → Vals (gV vs zs) (g us ws)) (ha : PA X (e :: es) t) (hkw : PK X kws tk) (hall : (backToKw pos (keywordEach kws X.env)).all (·.1.isSome) = true := by rfl) (hks : (backToKw pos (keywordEach kws X.env)).filterMap (·.1) = ks := by rfl)
    (hdb : (x == ("__debug__" : Str)) = false := by decide) (he : starEach (e :: es) X.env = (false, eval e X.env) :: starEach es X.env := by rfl)
    (hpl : ((backTo pos (starEach (e :: es) X.env)).any (·.1) || (backToKw pos (keywordEach kws X.env)).any (·.1.isNone)) = false := by rfl) :
    PE X (.Call (.Name x p) (e :: es) kws pos) (tCallK sp gV E0 t tk) := by
  obtain ⟨f, fd, F, hm, hK, _, hl⟩ := c.ex
  exact pe_callK (F.mono hk) hr hg hm hK (kbinds D hm hl hb hrel) pass0 ha hkw hall hks hdb he hpl
end
/-! ### how keywords come to their places -/
def g1 {α : Type} : List α → List α → List α
  | [], [a] => [a]
  | _, _ => []
def g2 {α : Type} : List α → List α → List α
  | [], [a, b] => [a, b]
  | _, _ => []
def g2s {α : Type} : List α → List α → List α
  | [], [a, b] => [b, a]
  | _, _ => []
def g11 {α : Type} : List α → List α → List α
  | [a], [b] => [a, b]
  | _, _ => []
theorem g1_inv {α : Type} {us ws : List α} (h : (g1 us ws).length = 1) : ∃ a, us = [] ∧ ws = [a] := by
  unfold g1 at h
  split at h
  · exact ⟨_, rfl, rfl⟩
  · cases h
theorem g2_inv {α : Type} {us ws : List α} (h : (g2 us ws).length = 2) : ∃ a b, us = [] ∧ ws = [a, b] := by
  unfold g2 at h
  split at h
  · exact ⟨_, _, rfl, rfl⟩
  · cases h
theorem g2s_inv {α : Type} {us ws : List α} (h : (g2s us ws).length = 2) : ∃ a b, us = [] ∧ ws = [a, b] := by
  unfold g2s at h
  split at h
  · exact ⟨_, _, rfl, rfl⟩
  · cases h
theorem g11_inv {α : Type} {us ws : List α} (h : (g11 us ws).length = 2) : ∃ a b, us = [a] ∧ ws = [b] := by
  unfold g11 at h
  split at h
  · exact ⟨_, _, rfl, rfl⟩
  · cases h
theorem g1_rel {vs : List V} {us : List Value} {zs : List V} {ws : List Value} (a : Vals vs us) (b : Vals zs ws) : Vals (g1 vs zs) (g1 us ws) := by
  cases a <;> cases b <;> try exact .nil
  rename_i t
  cases t
  · exact .cons ‹_› .nil
  · exact .nil
theorem g2_rel {vs : List V} {us : List Value} {zs : List V} {ws : List Value} (a : Vals vs us) (b : Vals zs ws) : Vals (g2 vs zs) (g2 us ws) := by
  cases a with
  | cons r t => exact .nil
  | nil =>
    cases b with
    | nil => exact .nil
    | cons r t =>
      cases t with
      | nil => exact .nil
      | cons r2 t =>
        cases t with
        | nil => exact .cons r (.cons r2 .nil)
        | cons _ _ => exact .nil
theorem g2s_rel {vs : List V} {us : List Value} {zs : List V} {ws : List Value} (a : Vals vs us) (b : Vals zs ws) : Vals (g2s vs zs) (g2s us ws) := by
  cases a with
  | cons r t => exact .nil
  | nil =>
    cases b with
    | nil => exact .nil
    | cons r t =>
      cases t with
      | nil => exact .nil
      | cons r2 t =>
        cases t with
        | nil => exact .cons r2 (.cons r .nil)
        | cons _ _ => exact .nil
theorem g11_rel {vs : List V} {us : List Value} {zs : List V} {ws : List Value} (a : Vals vs us) (b : Vals zs ws) : Vals (g11 vs zs) (g11 us ws) := by
  cases a with
  | nil => exact .nil
  | cons r t =>
    cases t with
    | cons _ _ => exact .nil
    | nil =>
      cases b with
      | nil => exact .nil
      | cons r2 t2 =>
        cases t2 with
        | nil => exact .cons r (.cons r2 .nil)
        | cons _ _ => exact .nil
/-! ### heaps -/
/-- all that was tracked, but what stands at r, is as it was -/
def Kp (r : Addr) (H H' : Hp) : Prop := ∀ b o, b ≠ r → H b = some o → H' b = some o
theorem Kp.refl (r : Addr) (H : Hp) : Kp r H H := fun _ _ _ h => h
theorem Kp.trans {r : Addr} {H H1 H2 : Hp} (a : Kp r H H1) (b : Kp r H1 H2) : Kp r H H2 := fun c o n h => b c o n (a c o n h)
theorem Kp.new {r p : Addr} {H : Hp} {o : HO} (h : H p = none) : Kp r H (upd H p o) := fun b u _ e => by
  rw [upd_ne (ne_of_none e h)]
  exact e
theorem Kp.at {r : Addr} {H : Hp} {o : HO} : Kp r H (upd H r o) := fun b u n e => by
  rw [upd_ne n]
  exact e
theorem Kp.free {r p : Addr} {H H' : Hp} (a : Kp r H H') (n : p ≠ r) (h : H' p = none) : H p = none := by
  cases q : H p with
  | none => rfl
  | some o =>
    rw [a p o n q] at h
    cases h
/-- the generator's list at r, its script at l -/
def Rng (H : Hp) (r l : Addr) : Prop := ∃ (ns : List Int) (i d st c : Int), H r = some (.lst [.ref l, .int i, .int d, .int st, .int c]) ∧ H l = some (.lst (ns.map V.int)) ∧ 0 ≤ i ∧ l ≠ r
theorem Rng.new {H : Hp} {r l p : Addr} {o : HO} (g : Rng H r l) (h : H p = none) : Rng (upd H p o) r l := by
  obtain ⟨ns, i, d, st, c, h1, h2, h3, h4⟩ := g
  exact ⟨ns, i, d, st, c, by rw [upd_ne (ne_of_none h1 h)]; exact h1, by rw [upd_ne (ne_of_none h2 h)]; exact h2, h3, h4⟩
theorem Rng.kp {H H' : Hp} {r l : Addr} {x y z : V} (g : Rng H r l) (k : Kp r H H') {v : List V} (h : H' r = H r) : Rng H' r l := by
  obtain ⟨ns, i, d, st, c, h1, h2, h3, h4⟩ := g
  exact ⟨ns, i, d, st, c, h.trans h1, k _ _ h4 h2, h3, h4⟩
end SW

set_option Elab.async false
set_option linter.all false
set_option maxRecDepth 100000
set_option maxHeartbeats 4000000
namespace SW
open PySem PySem.Spec PyProof.Rows L2
/-! ### words as trees -/
inductive W where
  | emp
  | ltr (c : Str)
  | nam (c : Str)
  | join (ws : List W)
  | times (w : W) (n : Int)
  | right (w : W)
  | left (w : W)
mutual
def W.dat : W → PyData
  | .emp => .tuple [.str "empty"]
  | .ltr c => .tuple [.str "letter", .str c]
  | .nam c => .tuple [.str "name", .str c]
  | .join ws => .tuple [.str "join", .tuple (W.dats ws)]
  | .times w n => .tuple [.str "times", w.dat, .int n]
  | .right w => .tuple [.str "right", w.dat]
  | .left w => .tuple [.str "left", w.dat]
def W.dats : List W → List PyData
  | [] => []
  | w :: r => w.dat :: W.dats r
end
mutual
def W.dep : W → Nat
  | .emp => 1
  | .ltr _ => 1
  | .nam _ => 1
  | .join ws => W.deps ws + 1
  | .times w _ => w.dep + 1
  | .right w => w.dep + 1
  | .left w => w.dep + 1
def W.deps : List W → Nat
  | [] => 0
  | w :: r => max w.dep (W.deps r)
end
mutual
/-- letters among L, joins of at most three parts, numbers of copies up to 10 ** 30 -/
def W.Ok (L : List Str) : W → Prop
  | .emp => True
  | .ltr c => c ∈ L
  | .nam _ => False
  | .join ws => ws.length ≤ 3 ∧ W.Oks L ws
  | .times w n => 0 ≤ n ∧ n ≤ 1000000000000000000000000000000 ∧ w.Ok L
  | .right w => w.Ok L
  | .left w => w.Ok L
def W.Oks (L : List Str) : List W → Prop
  | [] => True
  | w :: r => w.Ok L ∧ W.Oks L r
end
abbrev abc : List Str := ["a", "b", "c"]
abbrev abcABC : List Str := ["a", "b", "c", "A", "B", "C"]
def W.kind : W → Str
  | .emp => "empty"
  | .ltr _ => "letter"
  | .nam _ => "name"
  | .join _ => "join"
  | .times _ _ => "times"
  | .right _ => "right"
  | .left _ => "left"
theorem W.dep_pos (w : W) : 1 ≤ w.dep := by cases w <;> unfold W.dep <;> omega
theorem W.deps_mem : ∀ {ws : List W} {w : W}, w ∈ ws → w.dep ≤ W.deps ws
  | x :: r, w, h => by
    unfold W.deps
    rcases List.mem_cons.mp h with e | h
    · subst e
      exact Nat.le_max_left _ _
    · exact Nat.le_trans (W.deps_mem h) (Nat.le_max_right _ _)
theorem W.deps_le : ∀ {ws : List W} {n : Nat}, (∀ w ∈ ws, w.dep ≤ n) → W.deps ws ≤ n
  | [], n, _ => by
    unfold W.deps
    exact Nat.zero_le _
  | x :: r, n, h => by
    unfold W.deps
    exact Nat.max_le.mpr ⟨h x (List.mem_cons_self ..), W.deps_le fun w q => h w (List.mem_cons_of_mem _ q)⟩
theorem W.oks_mem {L : List Str} : ∀ {ws : List W} {w : W}, w ∈ ws → W.Oks L ws → w.Ok L
  | x :: r, w, h, o => by
    unfold W.Oks at o
    rcases List.mem_cons.mp h with e | h
    · subst e
      exact o.1
    · exact W.oks_mem h o.2
theorem W.oks_of {L : List Str} : ∀ {ws : List W}, (∀ w ∈ ws, w.Ok L) → W.Oks L ws
  | [], _ => by
    unfold W.Oks
    trivial
  | x :: r, h => by
    unfold W.Oks
    exact ⟨h x (List.mem_cons_self ..), W.oks_of fun w q => h w (List.mem_cons_of_mem _ q)⟩
theorem W.dats_map : ∀ ws : List W, W.dats ws = ws.map W.dat
  | [] => by
    unfold W.dats
    rfl
  | w :: r => by
    unfold W.dats
    rw [W.dats_map r]
    rfl
theorem W.oks_iff {L : List Str} {ws : List W} : W.Oks L ws ↔ ∀ w ∈ ws, w.Ok L := ⟨fun h w m => W.oks_mem m h, W.oks_of⟩
mutual
theorem W.Ok.mono {L M : List Str} (hs : ∀ c ∈ L, c ∈ M) : ∀ w : W, w.Ok L → w.Ok M
  | .emp, h => by unfold W.Ok; trivial
  | .ltr c, h => by unfold W.Ok at h ⊢; exact hs c h
  | .nam c, h => by unfold W.Ok at h; exact h.elim
  | .join ws, h => by unfold W.Ok at h ⊢; exact ⟨h.1, W.Oks.mono hs ws h.2⟩
  | .times w n, h => by unfold W.Ok at h ⊢; exact ⟨h.1, h.2.1, W.Ok.mono hs w h.2.2⟩
  | .right w, h => by unfold W.Ok at h ⊢; exact W.Ok.mono hs w h
  | .left w, h => by unfold W.Ok at h ⊢; exact W.Ok.mono hs w h
theorem W.Oks.mono {L M : List Str} (hs : ∀ c ∈ L, c ∈ M) : ∀ ws : List W, W.Oks L ws → W.Oks M ws
  | [], h => by unfold W.Oks; trivial
  | w :: r, h => by unfold W.Oks at h ⊢; exact ⟨W.Ok.mono hs w h.1, W.Oks.mono hs r h.2⟩
end
theorem abc_sub : ∀ c ∈ abc, c ∈ abcABC := by
  intro c h
  simp only [abc, abcABC, List.mem_cons, List.not_mem_nil, or_false] at h ⊢
  rcases h with h | h | h <;> simp [h]
/-! ### how the heap bears them -/
abbrev WV (K : PySem.W.Frag) (H : Hp) (v : V) (w : W) : Prop := Dp K H v w.dat
abbrev WVs (K : PySem.W.Frag) (H : Hp) (vs : List V) (ws : List W) : Prop := DpAll K H vs (W.dats ws)
/-- every tuple stays -/
def Tp (H H' : Hp) : Prop := ∀ a xs, Rd H a (.tup xs) → Rd H' a (.tup xs)
theorem Tp.refl (H : Hp) : Tp H H := fun _ _ h => h
theorem Tp.trans {H H1 H2 : Hp} (a : Tp H H1) (b : Tp H1 H2) : Tp H H2 := fun x o h => b x o (a x o h)
theorem Tp.sq {K : PySem.W.Frag} {H H' : Hp} (t : Tp H H') {a : Addr} {xs : List V} (h : SqT K H a xs) : SqT K H' a xs := by
  rcases h with h | h
  · exact .inl (t _ _ h)
  · exact .inr h
theorem Kp.tp {r : Addr} {H H' : Hp} {z : List V} (k : Kp r H H') (h : H r = some (.lst z)) : Tp H H' := fun a xs q => by
  rcases q with q | ⟨o, q⟩
  · exact .inl (k _ _ (ne_of q h (by intro e; cases e)) q)
  · exact .inr ⟨o, k _ _ (ne_of q h (by intro e; cases e)) q⟩
theorem tp_new {p : Addr} {H : Hp} {o : HO} (h : H p = none) : Tp H (upd H p o) := fun a xs q => by
  rcases q with q | ⟨u, q⟩
  · exact .inl (by rw [upd_ne (ne_of_none q h)]; exact q)
  · exact .inr ⟨u, by rw [upd_ne (ne_of_none q h)]; exact q⟩
theorem tp_set {p : Addr} {H : Hp} {o : HO} {z : List V} (h : H p = some (.lst z)) : Tp H (upd H p o) := Kp.tp Kp.at h
theorem tp_same {H H' : Hp} (s : Same H H') : Tp H H' := fun a xs q => by
  rcases q with q | ⟨o, q⟩
  · exact .inl (s _ _ q)
  · exact .inr ⟨o, s _ _ q⟩
mutual
theorem WV.tp {K : PySem.W.Frag} {H H' : Hp} (t : Tp H H') : ∀ (w : W) {v : V}, WV K H v w → WV K H' v w
  | .emp, v, h => by
    unfold WV W.dat at *
    cases h with | tup s a => ?_
    refine .tup (t.sq s) ?_
    cases a with | cons a b => ?_
    cases a
    cases b
    exact .cons (.str _) .nil
  | .ltr c, v, h => by
    unfold WV W.dat at *
    cases h with | tup s a => ?_
    refine .tup (t.sq s) ?_
    cases a with | cons a b => ?_
    cases b with | cons b d => ?_
    cases a
    cases b
    cases d
    exact .cons (.str _) (.cons (.str _) .nil)
  | .nam c, v, h => by
    unfold WV W.dat at *
    cases h with | tup s a => ?_
    refine .tup (t.sq s) ?_
    cases a with | cons a b => ?_
    cases b with | cons b d => ?_
    cases a
    cases b
    cases d
    exact .cons (.str _) (.cons (.str _) .nil)
  | .join ws, v, h => by
    unfold WV W.dat at *
    cases h with | tup s a => ?_
    refine .tup (t.sq s) ?_
    cases a with | cons a b => ?_
    cases b with | cons b d => ?_
    cases a
    cases d
    cases b with | tup s2 b => ?_
    exact .cons (.str _) (.cons (.tup (t.sq s2) (WVs.tp t ws b)) .nil)
  | .times w n, v, h => by
    unfold WV W.dat at *
    cases h with | tup s a => ?_
    refine .tup (t.sq s) ?_
    cases a with | cons a b => ?_
    cases b with | cons b d => ?_
    cases d with | cons d e => ?_
    cases a
    cases d
    cases e
    exact .cons (.str _) (.cons (WV.tp t w b) (.cons (.int _) .nil))
  | .right w, v, h => by
    unfold WV W.dat at *
    cases h with | tup s a => ?_
    refine .tup (t.sq s) ?_
    cases a with | cons a b => ?_
    cases b with | cons b d => ?_
    cases a
    cases d
    exact .cons (.str _) (.cons (WV.tp t w b) .nil)
  | .left w, v, h => by
    unfold WV W.dat at *
    cases h with | tup s a => ?_
    refine .tup (t.sq s) ?_
    cases a with | cons a b => ?_
    cases b with | cons b d => ?_
    cases a
    cases d
    exact .cons (.str _) (.cons (WV.tp t w b) .nil)
theorem WVs.tp {K : PySem.W.Frag} {H H' : Hp} (t : Tp H H') : ∀ (ws : List W) {vs : List V}, WVs K H vs ws → WVs K H' vs ws
  | [], vs, h => by
    unfold WVs W.dats at *
    cases h
    exact .nil
  | w :: r, vs, h => by
    unfold WVs W.dats at *
    cases h with | cons a b => ?_
    exact .cons (WV.tp t w a) (WVs.tp t r b)
end
/-- what stands at a word's address -/
inductive WAt (K : PySem.W.Frag) (H : Hp) (v : V) : W → Prop where
  | emp {a : Addr} (e : v = .ref a) (s : SqT K H a [.str "empty"]) : WAt K H v .emp
  | ltr {a : Addr} {c : Str} (e : v = .ref a) (s : SqT K H a [.str "letter", .str c]) : WAt K H v (.ltr c)
  | nam {a : Addr} {c : Str} (e : v = .ref a) (s : SqT K H a [.str "name", .str c]) : WAt K H v (.nam c)
  | join {a b : Addr} {xs : List V} {ws : List W} (e : v = .ref a) (s : SqT K H a [.str "join", .ref b]) (s2 : SqT K H b xs) (h : WVs K H xs ws) : WAt K H v (.join ws)
  | times {a : Addr} {x : V} {w : W} {n : Int} (e : v = .ref a) (s : SqT K H a [.str "times", x, .int n]) (h : WV K H x w) : WAt K H v (.times w n)
  | right {a : Addr} {x : V} {w : W} (e : v = .ref a) (s : SqT K H a [.str "right", x]) (h : WV K H x w) : WAt K H v (.right w)
  | left {a : Addr} {x : V} {w : W} (e : v = .ref a) (s : SqT K H a [.str "left", x]) (h : WV K H x w) : WAt K H v (.left w)
theorem WV.at {K : PySem.W.Frag} {H : Hp} {v : V} : ∀ {w : W}, WV K H v w → WAt K H v w
  | .emp, h => by
    unfold WV W.dat at h
    cases h with | tup s a => ?_
    cases a with | cons a b => ?_
    cases a
    cases b
    exact .emp rfl s
  | .ltr c, h => by
    unfold WV W.dat at h
    cases h with | tup s a => ?_
    cases a with | cons a b => ?_
    cases b with | cons b d => ?_
    cases a
    cases b
    cases d
    exact .ltr rfl s
  | .nam c, h => by
    unfold WV W.dat at h
    cases h with | tup s a => ?_
    cases a with | cons a b => ?_
    cases b with | cons b d => ?_
    cases a
    cases b
    cases d
    exact .nam rfl s
  | .join ws, h => by
    unfold WV W.dat at h
    cases h with | tup s a => ?_
    cases a with | cons a b => ?_
    cases b with | cons b d => ?_
    cases a
    cases d
    cases b with | tup s2 b => ?_
    exact .join rfl s s2 b
  | .times w n, h => by
    unfold WV W.dat at h
    cases h with | tup s a => ?_
    cases a with | cons a b => ?_
    cases b with | cons b d => ?_
    cases d with | cons d e => ?_
    cases a
    cases d
    cases e
    exact .times rfl s b
  | .right w, h => by
    unfold WV W.dat at h
    cases h with | tup s a => ?_
    cases a with | cons a b => ?_
    cases b with | cons b d => ?_
    cases a
    cases d
    exact .right rfl s b
  | .left w, h => by
    unfold WV W.dat at h
    cases h with | tup s a => ?_
    cases a with | cons a b => ?_
    cases b with | cons b d => ?_
    cases a
    cases d
    exact .left rfl s b
section
variable {K : PySem.W.Frag} {H : Hp} {a b : Addr} {x : V} {w : W}
theorem wv_emp (s : SqT K H a [.str "empty"]) : WV K H (.ref a) .emp := by
  unfold WV W.dat
  exact .tup s (.cons (.str _) .nil)
theorem wv_ltr {c : Str} (s : SqT K H a [.str "letter", .str c]) : WV K H (.ref a) (.ltr c) := by
  unfold WV W.dat
  exact .tup s (.cons (.str _) (.cons (.str _) .nil))
theorem wv_nam {c : Str} (s : SqT K H a [.str "name", .str c]) : WV K H (.ref a) (.nam c) := by
  unfold WV W.dat
  exact .tup s (.cons (.str _) (.cons (.str _) .nil))
theorem wv_join {xs : List V} {ws : List W} (s : SqT K H a [.str "join", .ref b]) (s2 : SqT K H b xs) (h : WVs K H xs ws) : WV K H (.ref a) (.join ws) := by
  unfold WV W.dat
  exact .tup s (.cons (.str _) (.cons (.tup s2 h) .nil))
theorem wv_times {n : Int} (s : SqT K H a [.str "times", x, .int n]) (h : WV K H x w) : WV K H (.ref a) (.times w n) := by
  unfold WV W.dat
  exact .tup s (.cons (.str _) (.cons h (.cons (.int _) .nil)))
theorem wv_right (s : SqT K H a [.str "right", x]) (h : WV K H x w) : WV K H (.ref a) (.right w) := by
  unfold WV W.dat
  exact .tup s (.cons (.str _) (.cons h .nil))
theorem wv_left (s : SqT K H a [.str "left", x]) (h : WV K H x w) : WV K H (.ref a) (.left w) := by
  unfold WV W.dat
  exact .tup s (.cons (.str _) (.cons h .nil))
theorem wvs_nil : WVs K H [] [] := by
  unfold WVs W.dats
  exact .nil
theorem wvs_cons {xs : List V} {ws : List W} (h : WV K H x w) (t : WVs K H xs ws) : WVs K H (x :: xs) (w :: ws) := by
  unfold WVs W.dats
  exact .cons h t
end
theorem WVs.length {K : PySem.W.Frag} {H : Hp} : ∀ {ws : List W} {xs : List V}, WVs K H xs ws → xs.length = ws.length
  | [], xs, h => by
    unfold WVs W.dats at h
    cases h
    rfl
  | w :: r, xs, h => by
    unfold WVs W.dats at h
    cases h with | cons a b => ?_
    rw [List.length_cons, List.length_cons, WVs.length (ws := r) b]
theorem WVs.get {K : PySem.W.Frag} {H : Hp} : ∀ {ws : List W} {xs : List V} {i : Nat} {x : V}, WVs K H xs ws → xs[i]? = some x → ∃ w, ws[i]? = some w ∧ WV K H x w
  | [], xs, i, x, h, e => by
    unfold WVs W.dats at h
    cases h
    simp at e
  | w :: r, xs, 0, x, h, e => by
    unfold WVs W.dats at h
    cases h with | cons a b => ?_
    cases e
    exact ⟨w, rfl, a⟩
  | w :: r, xs, i + 1, x, h, e => by
    unfold WVs W.dats at h
    cases h with | cons a b => ?_
    exact WVs.get (ws := r) (i := i) b e
theorem WVs.app {K : PySem.W.Frag} {H : Hp} {x : V} {w : W} (q : WV K H x w) : ∀ {ws : List W} {xs : List V}, WVs K H xs ws → WVs K H (xs ++ [x]) (ws ++ [w])
  | [], xs, h => by
    unfold WVs W.dats at h
    cases h
    exact wvs_cons q wvs_nil
  | v :: r, xs, h => by
    unfold WVs W.dats at h
    cases h with | cons a b => ?_
    exact wvs_cons a (WVs.app q (ws := r) b)
/-! ### the two lists that a drawing of a tree changes -/
def Kp2 (r k : Addr) (H H' : Hp) : Prop := ∀ b o, b ≠ r → b ≠ k → H b = some o → H' b = some o
theorem Kp2.refl (r k : Addr) (H : Hp) : Kp2 r k H H := fun _ _ _ _ h => h
theorem Kp2.trans {r k : Addr} {H H1 H2 : Hp} (a : Kp2 r k H H1) (b : Kp2 r k H1 H2) : Kp2 r k H H2 := fun c o n m h => b c o n m (a c o n m h)
theorem Kp.two {r k : Addr} {H H' : Hp} (a : Kp r H H') : Kp2 r k H H' := fun c o n _ h => a c o n h
theorem Kp2.at {r k : Addr} {H : Hp} {o : HO} : Kp2 r k H (upd H k o) := fun b u _ n e => by
  rw [upd_ne n]
  exact e
theorem Kp2.tp {r k : Addr} {H H' : Hp} {z y : List V} (q : Kp2 r k H H') (h : H r = some (.lst z)) (g : H k = some (.lst y)) : Tp H H' := fun a xs p => by
  rcases p with p | ⟨o, p⟩
  · exact .inl (q _ _ (ne_of p h (by intro e; cases e)) (ne_of p g (by intro e; cases e)) p)
  · exact .inr ⟨o, q _ _ (ne_of p h (by intro e; cases e)) (ne_of p g (by intro e; cases e)) p⟩
theorem Kp2.fresh {r k : Addr} {H H' : Hp} {o : HO} (h : H k = none) (q : Kp2 r k (upd H k o) H') : Kp r H H' := fun b u n e =>
  q b u n (ne_of_none e h) (by rw [upd_ne (ne_of_none e h)]; exact e)
theorem Rng.lst {H : Hp} {r l : Addr} (g : Rng H r l) : ∃ z, H r = some (.lst z) := by
  obtain ⟨ns, i, d, st, c, h1, _⟩ := g
  exact ⟨_, h1⟩
theorem Rng.ne {H : Hp} {r l : Addr} (g : Rng H r l) : l ≠ r := by
  obtain ⟨ns, i, d, st, c, h1, h2, h3, h4⟩ := g
  exact h4
/-- the generator stays where neither of its lists is touched -/
theorem Rng.of {H H' : Hp} {r l : Addr} (g : Rng H r l) (a : ∀ o, H r = some o → H' r = some o) (b : ∀ o, H l = some o → H' l = some o) : Rng H' r l := by
  obtain ⟨ns, i, d, st, c, h1, h2, h3, h4⟩ := g
  exact ⟨ns, i, d, st, c, a _ h1, b _ h2, h3, h4⟩
theorem Rng.some_l {H : Hp} {r l : Addr} (g : Rng H r l) : ∃ z, H l = some (.lst z) := by
  obtain ⟨ns, i, d, st, c, h1, h2, h3, h4⟩ := g
  exact ⟨_, h2⟩
/-! ### comprehensions of one name without a test -/
theorem lcr {lo : Int} {n j : Nat} {te : TE} {σ : L2.St} {H1 : Hp} {D : Addr} {Qd : Hp → Prop} (Pv : Nat → Hp → Prop) (h0 : Pv 0 (upd H1 D (.lst [])))
    (hs : ∀ i H, i < n → Pv i H → te (σ.set j (some (.int (lo + i)))) H fun y H4 => ∃ acc, H4 D = some (.lst acc) ∧ acc.length < sizeLine ∧ Pv (i + 1) (upd H4 D (.lst (acc ++ [y])))) (hd : ∀ H, Pv n H → Qd H) :
    ∃ W : Nat → Nat → Hp → Prop, (∃ m, W 0 m (upd H1 D (.lst []))) ∧ ∀ i m H, W i m H →
      ((Itr lo n).stop i H ∧ Qd H) ∨ ((Itr lo n).go i H ∧ ∃ Nx : Hp → Prop, (∀ H', Nx H' → ∃ m', m' < m ∧ W (i + 1) m' H') ∧ ∀ x H', (Itr lo n).yld i H x H' → gName j x (wipe σ [j]) H' fun σ2 H2 => wipe σ2 [j] = wipe σ [j] ∧ tYes σ2 H2 fun b H3 =>
        if b = true then te σ2 H3 fun y H4 => ∃ acc, H4 D = some (.lst acc) ∧ acc.length < sizeLine ∧ Nx (upd H4 D (.lst (acc ++ [y]))) else Nx H3) := by
  refine lc_range Pv h0 (fun i H hi p => ?_) hd
  have e1 : wipe σ [j] = σ.set j none := rfl
  have e2 : (wipe σ [j]).set j (some (.int (lo + i))) = σ.set j (some (.int (lo + i))) := by rw [e1, List.set_set]
  unfold gName tYes
  rw [e2]
  dsimp only
  rw [if_pos rfl]
  refine ⟨?_, hs i H hi p⟩
  show (σ.set j (some (.int (lo + i)))).set j none = σ.set j none
  rw [List.set_set]
theorem lcl {K : PySem.W.Frag} {a : Addr} {xs : List V} {j : Nat} {te : TE} {σ : L2.St} {H1 : Hp} {D : Addr} {Qd : Hp → Prop} (Pv : Nat → Hp → Prop) (h0 : Pv 0 (upd H1 D (.lst []))) (hl : ∀ i H, i ≤ xs.length → Pv i H → SqL K H a xs)
    (hs : ∀ i x H, xs[i]? = some x → Pv i H → te (σ.set j (some x)) H fun y H4 => ∃ acc, H4 D = some (.lst acc) ∧ acc.length < sizeLine ∧ Pv (i + 1) (upd H4 D (.lst (acc ++ [y])))) (hd : ∀ H, Pv xs.length H → Qd H) :
    ∃ W : Nat → Nat → Hp → Prop, (∃ m, W 0 m (upd H1 D (.lst []))) ∧ ∀ i m H, W i m H →
      ((Itl K a).stop i H ∧ Qd H) ∨ ((Itl K a).go i H ∧ ∃ Nx : Hp → Prop, (∀ H', Nx H' → ∃ m', m' < m ∧ W (i + 1) m' H') ∧ ∀ x H', (Itl K a).yld i H x H' → gName j x (wipe σ [j]) H' fun σ2 H2 => wipe σ2 [j] = wipe σ [j] ∧ tYes σ2 H2 fun b H3 =>
        if b = true then te σ2 H3 fun y H4 => ∃ acc, H4 D = some (.lst acc) ∧ acc.length < sizeLine ∧ Nx (upd H4 D (.lst (acc ++ [y]))) else Nx H3) := by
  refine lc_list Pv h0 hl (fun i x H hi p => ?_) hd
  have e1 : wipe σ [j] = σ.set j none := rfl
  have e2 : (wipe σ [j]).set j (some x) = σ.set j (some x) := by rw [e1, List.set_set]
  unfold gName tYes
  rw [e2]
  dsimp only
  rw [if_pos rfl]
  refine ⟨?_, hs i x H hi p⟩
  show (σ.set j (some x)).set j none = σ.set j none
  rw [List.set_set]
theorem lct {K : PySem.W.Frag} {a : Addr} {xs : List V} {j : Nat} {te : TE} {σ : L2.St} {H1 : Hp} {D : Addr} {Qd : Hp → Prop} (Pv : Nat → Hp → Prop) (h0 : Pv 0 (upd H1 D (.lst []))) (hl : ∀ i H, i ≤ xs.length → Pv i H → SqT K H a xs)
    (hs : ∀ i x H, xs[i]? = some x → Pv i H → te (σ.set j (some x)) H fun y H4 => ∃ acc, H4 D = some (.lst acc) ∧ acc.length < sizeLine ∧ Pv (i + 1) (upd H4 D (.lst (acc ++ [y])))) (hd : ∀ H, Pv xs.length H → Qd H) :
    ∃ W : Nat → Nat → Hp → Prop, (∃ m, W 0 m (upd H1 D (.lst []))) ∧ ∀ i m H, W i m H →
      ((Itt K a).stop i H ∧ Qd H) ∨ ((Itt K a).go i H ∧ ∃ Nx : Hp → Prop, (∀ H', Nx H' → ∃ m', m' < m ∧ W (i + 1) m' H') ∧ ∀ x H', (Itt K a).yld i H x H' → gName j x (wipe σ [j]) H' fun σ2 H2 => wipe σ2 [j] = wipe σ [j] ∧ tYes σ2 H2 fun b H3 =>
        if b = true then te σ2 H3 fun y H4 => ∃ acc, H4 D = some (.lst acc) ∧ acc.length < sizeLine ∧ Nx (upd H4 D (.lst (acc ++ [y]))) else Nx H3) := by
  refine lc_tup Pv h0 hl (fun i x H hi p => ?_) hd
  have e1 : wipe σ [j] = σ.set j none := rfl
  have e2 : (wipe σ [j]).set j (some x) = σ.set j (some x) := by rw [e1, List.set_set]
  unfold gName tYes
  rw [e2]
  dsimp only
  rw [if_pos rfl]
  refine ⟨?_, hs i x H hi p⟩
  show (σ.set j (some x)).set j none = σ.set j none
  rw [List.set_set]
end SW

set_option Elab.async false
set_option linter.all false
set_option maxRecDepth 100000
set_option maxHeartbeats 4000000
namespace SW
open PySem PySem.Spec PyProof.Rows L2
/-! ### small data: at most n levels, at most 1000 items -/
def atomD : PyData → Prop
  | .none => True
  | .bool _ => True
  | .int _ => True
  | .str _ => True
  | _ => False
def Sm : Nat → PyData → Prop
  | _ + 1, .list ds => ds.length ≤ 1000 ∧ ∀ d, d ∈ ds → Sm ‹Nat› d
  | _ + 1, .tuple ds => ds.length ≤ 1000 ∧ ∀ d, d ∈ ds → Sm ‹Nat› d
  | _, .none => True
  | _, .bool _ => True
  | _, .int _ => True
  | _, .str _ => True
  | _, _ => False
theorem Sm.mono : ∀ {n m : Nat} {d : PyData}, Sm n d → n ≤ m → Sm m d
  | n, m, .none, _, _ => by cases m <;> (unfold Sm; trivial)
  | n, m, .bool _, _, _ => by cases m <;> (unfold Sm; trivial)
  | n, m, .int _, _, _ => by cases m <;> (unfold Sm; trivial)
  | n, m, .str _, _, _ => by cases m <;> (unfold Sm; trivial)
  | n + 1, m + 1, .list ds, h, l => by
    unfold Sm at h ⊢
    exact ⟨h.1, fun d q => (h.2 d q).mono (by omega)⟩
  | n + 1, m + 1, .tuple ds, h, l => by
    unfold Sm at h ⊢
    exact ⟨h.1, fun d q => (h.2 d q).mono (by omega)⟩
  | 0, m, .list ds, h, l => by unfold Sm at h; exact h.elim
  | 0, m, .tuple ds, h, l => by unfold Sm at h; exact h.elim
  | n + 1, 0, .list ds, h, l => by omega
  | n + 1, 0, .tuple ds, h, l => by omega
  | 0, m, .dict ds, h, l => by unfold Sm at h; exact h.elim
  | n + 1, m, .dict ds, h, l => by unfold Sm at h; exact h.elim
mutual
theorem W.sm {L : List Str} : ∀ w : W, w.Ok L → Sm (2 * w.dep) w.dat
  | .emp, h => by
    unfold W.dat W.dep
    show Sm 2 _
    unfold Sm
    refine ⟨by decide, fun d q => ?_⟩
    cases List.mem_singleton.mp q
    unfold Sm
    trivial
  | .ltr c, h => by
    unfold W.dat W.dep
    show Sm 2 _
    unfold Sm
    refine ⟨by show 2 ≤ 1000; decide, fun d q => ?_⟩
    simp only [List.mem_cons, List.not_mem_nil, or_false] at q
    rcases q with rfl | rfl <;> (unfold Sm; trivial)
  | .nam c, h => by
    unfold W.Ok at h
    exact h.elim
  | .join ws, h => by
    unfold W.Ok at h
    unfold W.dat W.dep
    show Sm (2 * W.deps ws + 1 + 1) _
    unfold Sm
    refine ⟨by show 2 ≤ 1000; decide, fun d q => ?_⟩
    simp only [List.mem_cons, List.not_mem_nil, or_false] at q
    rcases q with rfl | rfl
    · unfold Sm
      trivial
    · unfold Sm
      refine ⟨?_, fun d q => ?_⟩
      · rw [W.dats_map, List.length_map]
        omega
      · exact W.sms ws h.2 d q
  | .times w n, h => by
    unfold W.Ok at h
    unfold W.dat W.dep
    show Sm (2 * w.dep + 1 + 1) _
    unfold Sm
    refine ⟨by show 3 ≤ 1000; decide, fun d q => ?_⟩
    simp only [List.mem_cons, List.not_mem_nil, or_false] at q
    rcases q with rfl | rfl | rfl
    · unfold Sm
      trivial
    · exact (W.sm w h.2.2).mono (by omega)
    · unfold Sm
      trivial
  | .right w, h => by
    unfold W.Ok at h
    unfold W.dat W.dep
    show Sm (2 * w.dep + 1 + 1) _
    unfold Sm
    refine ⟨by show 2 ≤ 1000; decide, fun d q => ?_⟩
    simp only [List.mem_cons, List.not_mem_nil, or_false] at q
    rcases q with rfl | rfl
    · unfold Sm
      trivial
    · exact (W.sm w h).mono (by omega)
  | .left w, h => by
    unfold W.Ok at h
    unfold W.dat W.dep
    show Sm (2 * w.dep + 1 + 1) _
    unfold Sm
    refine ⟨by show 2 ≤ 1000; decide, fun d q => ?_⟩
    simp only [List.mem_cons, List.not_mem_nil, or_false] at q
    rcases q with rfl | rfl
    · unfold Sm
      trivial
    · exact (W.sm w h).mono (by omega)
theorem W.sms {L : List Str} : ∀ ws : List W, W.Oks L ws → ∀ d ∈ W.dats ws, Sm (2 * W.deps ws) d
  | [], h, d, q => by
    unfold W.dats at q
    exact (List.not_mem_nil q).elim
  | w :: r, h, d, q => by
    unfold W.Oks at h
    unfold W.dats at q
    unfold W.deps
    rcases List.mem_cons.mp q with rfl | q
    · exact (W.sm w h.1).mono (Nat.mul_le_mul_left 2 (Nat.le_max_left _ _))
    · exact (W.sms r h.2 d q).mono (Nat.mul_le_mul_left 2 (Nat.le_max_right _ _))
end
/-! ### what == asks of data -/
def strsOk (L : List Str) : Prop := ∀ c ∈ L, PyData.canLay0 (.str c) = true
theorem abc_ok : strsOk abcABC := by
  intro c h
  simp only [abcABC, List.mem_cons, List.not_mem_nil, or_false] at h
  rcases h with rfl | rfl | rfl | rfl | rfl | rfl <;> decide +kernel
mutual
theorem W.lay {L : List Str} (hL : strsOk L) : ∀ w : W, w.Ok L → w.dat.canLay0 = true
  | .emp, h => by
    unfold W.dat
    decide +kernel
  | .ltr c, h => by
    unfold W.Ok at h
    unfold W.dat
    have a := hL c h
    simp only [PyData.canLay0, PyData.canLayAll0, Bool.and_true] at a ⊢
    rw [a]
    decide +kernel
  | .nam c, h => by
    unfold W.Ok at h
    exact h.elim
  | .join ws, h => by
    unfold W.Ok at h
    unfold W.dat
    have a := W.lays hL ws h.2
    simp only [PyData.canLay0, PyData.canLayAll0, Bool.and_true]
    rw [a]
    decide +kernel
  | .times w n, h => by
    unfold W.Ok at h
    unfold W.dat
    have a := W.lay hL w h.2.2
    simp only [PyData.canLay0, PyData.canLayAll0, Bool.and_true]
    rw [a]
    decide +kernel
  | .right w, h => by
    unfold W.Ok at h
    unfold W.dat
    have a := W.lay hL w h
    simp only [PyData.canLay0, PyData.canLayAll0, Bool.and_true]
    rw [a]
    decide +kernel
  | .left w, h => by
    unfold W.Ok at h
    unfold W.dat
    have a := W.lay hL w h
    simp only [PyData.canLay0, PyData.canLayAll0, Bool.and_true]
    rw [a]
    decide +kernel
theorem W.lays {L : List Str} (hL : strsOk L) : ∀ ws : List W, W.Oks L ws → PyData.canLayAll0 (W.dats ws) = true
  | [], h => by
    unfold W.dats
    rfl
  | w :: r, h => by
    unfold W.Oks at h
    unfold W.dats
    simp only [PyData.canLayAll0]
    rw [W.lay hL w h.1, W.lays hL r h.2]
    rfl
end
mutual
theorem Sm.depth : ∀ (n : Nat) (d : PyData), Sm n d → d.depth ≤ n + 1
  | n, .none, _ => by simp [PyData.depth]
  | n, .bool _, _ => by simp [PyData.depth]
  | n, .int _, _ => by simp [PyData.depth]
  | n, .str _, _ => by simp [PyData.depth]
  | 0, .list ds, h => by unfold Sm at h; exact h.elim
  | 0, .tuple ds, h => by unfold Sm at h; exact h.elim
  | 0, .dict ds, h => by unfold Sm at h; exact h.elim
  | n + 1, .dict ds, h => by unfold Sm at h; exact h.elim
  | n + 1, .list ds, h => by
    unfold Sm at h
    have := Sm.depths n ds h.2
    unfold PyData.depth
    omega
  | n + 1, .tuple ds, h => by
    unfold Sm at h
    have := Sm.depths n ds h.2
    unfold PyData.depth
    omega
theorem Sm.depths : ∀ (n : Nat) (ds : List PyData), (∀ d ∈ ds, Sm n d) → PyData.depthAll ds ≤ n + 1
  | n, [], _ => by simp [PyData.depthAll]
  | n, d :: r, h => by
    have a := Sm.depth n d (h d (List.mem_cons_self ..))
    have b := Sm.depths n r fun x q => h x (List.mem_cons_of_mem _ q)
    unfold PyData.depthAll
    omega
end
end SW

set_option Elab.async false
set_option linter.all false
set_option maxRecDepth 100000
set_option maxHeartbeats 4000000
namespace SW
open PySem PySem.Spec PyProof.Rows L2
theorem W.shaped {L : List Str} (hL : strsOk L) {w : W} (h : w.Ok L) (hd : w.dep ≤ 30) : SeqAt.shaped w.dat = true := by
  unfold SeqAt.shaped
  rw [W.lay hL w h, decide_eq_true (p := w.dat.depth ≤ 64) (Nat.le_trans (Sm.depth _ _ (W.sm w h)) (by omega))]
  rfl
theorem W.eqv_refl {L : List Str} (hL : strsOk L) {w : W} (h : w.Ok L) : PyData.eqv w.dat w.dat = true := PySem.SeqAt.eqv_refl _ (W.lay hL w h)
/-! ### types of data -/
def tyN : PyData → String
  | .none => "NoneType"
  | .bool _ => "bool"
  | .int _ => "int"
  | .str _ => "str"
  | .list _ => "list"
  | .tuple _ => "tuple"
  | .dict _ => "dict"
theorem SqL.ty {K : PySem.W.Frag} {H : Hp} {a : Addr} {xs : List V} (h : SqL K H a xs) : TyX K H (.ref a) (.type "list") := by
  rcases h with (h | ⟨o, h⟩) | ⟨o, its, n, h, c, _⟩
  · exact .base (.lst h)
  · exact .base (.frz h)
  · exact .kList h c
theorem SqT.ty {K : PySem.W.Frag} {H : Hp} {a : Addr} {xs : List V} (h : SqT K H a xs) : TyX K H (.ref a) (.type "tuple") := by
  rcases h with (h | ⟨o, h⟩) | ⟨o, its, n, h, c, _⟩
  · exact .base (.tup h)
  · exact .fTuple h
  · exact .kTuple h c
theorem Dp.ty {K : PySem.W.Frag} {H : Hp} {v : V} {d : PyData} (h : Dp K H v d) : TyX K H v (.type (tyN d)) := by
  cases h with
  | non => exact .base .non
  | bl b => exact .base (.bl b)
  | int i => exact .base (.int i)
  | str x => exact .base (.str x)
  | lst s _ => exact SqL.ty s
  | tup s _ => exact SqT.ty s
/-- isinstance(x, T) of data at a slot -/
theorem rd_isi {K : PySem.W.Frag} {σ : L2.St} {H : Hp} {i : Nat} {v : V} {d : PyData} {n : String} {b : Bool} {Q : VK} (hσ : σ[i]? = some (some v)) (h : Dp K H v d) (k : kitB (tyN d) n = some b) (q : Q (.bl b) H) :
    tCB (rIsi K) (tCons (tVar i) (tCons (tC (.ty n)) tNil)) σ H Q := ⟨v, hσ, v, .ty n, _, _, b, rfl, .ty n, Dp.ty h, kit_ty k, q⟩
theorem walk_zipT {K : PySem.W.Frag} {a b : Addr} {xs ys : List V} {n : Nat} (hn : n = min xs.length ys.length) : Walk (RZ.ItzT K a b) n (fun H => SqT K H a xs ∧ SqT K H b ys) (YPair (fun i => xs[i]?) (fun i => ys[i]?)) := by
  subst hn
  refine ⟨fun i _ hi q => ?_, fun _ q => ⟨xs, ys, q.1, q.2, by omega⟩, fun i H v H' _ q y => ?_⟩
  · have h1 : i < xs.length := by omega
    have h2 : i < ys.length := by omega
    exact ⟨xs, ys, xs[i], ys[i], q.1, q.2, by simp [h1], by simp [h2]⟩
  · obtain ⟨T, x, z, h1, h2, h3, h4, h5⟩ := y
    exact ⟨T, x, z, h1, h2, h3, h4 xs q.1, h5 ys q.2⟩
/-- a comprehension over pairs -/
theorem lcz {K : PySem.W.Frag} {J : It} {n : Nat} {G : Hp → Prop} {fx fy : Nat → Option V} (w : Walk J n G (YPair fx fy)) {j1 j2 : Nat} (hj : j1 ≠ j2) {te : TE} {σ : L2.St} {H1 : Hp} {D : Addr} {Qd : Hp → Prop} (Pv : Nat → Hp → Prop) (h0 : Pv 0 (upd H1 D (.lst []))) (hG : ∀ i H, i ≤ n → Pv i H → G H)
    (hs : ∀ i x y T H, i < n → fx i = some x → fy i = some y → Pv i H → H T = none → te ((σ.set j1 (some x)).set j2 (some y)) (upd H T (.tup [x, y])) fun z H4 => ∃ acc, H4 D = some (.lst acc) ∧ acc.length < sizeLine ∧ Pv (i + 1) (upd H4 D (.lst (acc ++ [z])))) (hd : ∀ H, Pv n H → Qd H) :
    ∃ W : Nat → Nat → Hp → Prop, (∃ m, W 0 m (upd H1 D (.lst []))) ∧ ∀ i m H, W i m H →
      (J.stop i H ∧ Qd H) ∨ (J.go i H ∧ ∃ Nx : Hp → Prop, (∀ H', Nx H' → ∃ m', m' < m ∧ W (i + 1) m' H') ∧ ∀ x H', J.yld i H x H' → gTup K 2 (gCons (gName j1) (gCons (gName j2) gNil)) x (wipe σ [j1, j2]) H' fun σ2 H2 => wipe σ2 [j1, j2] = wipe σ [j1, j2] ∧ tYes σ2 H2 fun b H3 =>
        if b = true then te σ2 H3 fun y H4 => ∃ acc, H4 D = some (.lst acc) ∧ acc.length < sizeLine ∧ Nx (upd H4 D (.lst (acc ++ [y]))) else Nx H3) := by
  refine lc_it w Pv h0 hG (fun i v H H' hi p y => ?_) hd
  obtain ⟨T, x, y, rfl, hT, rfl, h1, h2⟩ := y
  have e0 : wipe σ [j1, j2] = (σ.set j2 none).set j1 none := rfl
  have e1 : ((wipe σ [j1, j2]).set j1 (some x)).set j2 (some y) = (σ.set j1 (some x)).set j2 (some y) := by
    rw [e0, List.set_set, List.set_comm _ _ hj.symm, List.set_set]
  refine ⟨T, [x, y], rfl, SqT.of upd_same, rfl, x, [y], rfl, y, [], rfl, rfl, ?_, ?_⟩
  · rw [e1]
    show ((((σ.set j1 (some x)).set j2 (some y))).set j2 none).set j1 none = (σ.set j2 none).set j1 none
    rw [List.set_set, List.set_comm _ _ hj, List.set_set]
  · rw [e1]
    unfold tYes
    dsimp only
    rw [if_pos rfl]
    exact hs i x y T H hi h1 h2 p hT
theorem DpAll.length {K : PySem.W.Frag} {H : Hp} : ∀ {ds : List PyData} {xs : List V}, DpAll K H xs ds → xs.length = ds.length
  | [], _, .nil => rfl
  | _ :: r, _, .cons _ t => by rw [List.length_cons, List.length_cons, DpAll.length t]
theorem DpAll.get {K : PySem.W.Frag} {H : Hp} : ∀ {ds : List PyData} {xs : List V} {i : Nat} {x : V}, DpAll K H xs ds → xs[i]? = some x → ∃ d, ds[i]? = some d ∧ Dp K H x d
  | [], _, i, x, .nil, e => by simp at e
  | d :: r, _, 0, x, .cons a t, e => by
    cases e
    exact ⟨d, rfl, a⟩
  | d :: r, _, i + 1, x, .cons a t, e => DpAll.get (i := i) t e
mutual
theorem Dp.same {K : PySem.W.Frag} {H H' : Hp} (s : Same H H') : ∀ (d : PyData) {v : V}, Dp K H v d → Dp K H' v d
  | .none, _, .non => .non
  | .bool b, _, .bl _ => .bl b
  | .int i, _, .int _ => .int i
  | .str x, _, .str _ => .str x
  | .list ds, _, .lst h a => .lst (s.seq h) (DpAll.same s ds a)
  | .tuple ds, _, .tup h a => .tup ((tp_same s).sq h) (DpAll.same s ds a)
theorem DpAll.same {K : PySem.W.Frag} {H H' : Hp} (s : Same H H') : ∀ (ds : List PyData) {vs : List V}, DpAll K H vs ds → DpAll K H' vs ds
  | [], _, .nil => .nil
  | d :: r, _, .cons a b => .cons (Dp.same s d a) (DpAll.same s r b)
end
theorem same_new {H : Hp} {p : Addr} {o : HO} (h : H p = none) : Same H (upd H p o) := fun b u e => by
  rw [upd_ne (ne_of_none e h)]
  exact e
theorem Same.kp {r : Addr} {H H' : Hp} (s : Same H H') : Kp r H H' := fun b o _ e => s b o e
/-- all of a row of True -/
theorem all_true (n : Nat) : (List.replicate n true).all id = true := by
  induction n with
  | zero => rfl
  | succ n ih => rw [List.replicate_succ, List.all_cons, ih]; rfl
theorem rep_snoc (n : Nat) : (List.replicate n true).map V.bl ++ [V.bl true] = (List.replicate (n + 1) true).map V.bl := by
  rw [List.replicate_succ', List.map_append]
  rfl
end SW

set_option Elab.async false
set_option linter.all false
set_option maxRecDepth 100000
set_option maxHeartbeats 4000000
namespace SW
open PySem PySem.Spec PyProof.Rows L2
/-! ### a starred text in a display -/
def signs (z : Str) : List V := z.cps.toList.map fun c => V.str ⟨#[c]⟩
theorem vals_of : ∀ {xs : List V} {us : List Value}, xs.length = us.length → (∀ (i : Nat) x u, xs[i]? = some x → us[i]? = some u → RelV x u) → Vals xs us
  | [], [], _, _ => .nil
  | x :: xs, u :: us, hl, h => .cons (h 0 x u rfl rfl) (vals_of (by simpa using hl) fun i a b p q => h (i + 1) a b p q)
section
variable {X : Cx} {pins : List (Addr × Obj)} {σ : L2.St} {H : Hp} {s : Shared}
theorem star_str {z : Str} {t : Tok} {E : Value → Shared → Prop} {Q : List Value → Shared → Prop} (hc : X.calm = true) (I : Inv X pins σ H s) (hz : z.cps.size ≤ sizeLine) (hQ : ∀ us s', Inv X pins σ H s' → Vals (signs z) us → Q us s') :
    PySem.W.StarOf (model X.prog X.w) X.A E (.str z t) Q s := by
  have z1 : wpAny (model X.prog X.w) X.A (collect (.str z t)) Q E s := by
    refine wpAny_collect_str (I.ok.hd hc) z t (fun s' acc hk hg hd ho hit => ?_) hz
    have e : s' = { s with heap := s'.heap, toks := s'.toks } := by
      cases s'
      cases s
      simp only at hg hd ho
      subst hg hd ho
      rfl
    rw [e]
    refine hQ acc.toList _ (I.kept (t' := s'.toks) hk) (vals_of ?_ fun i x u p q => ?_)
    · unfold signs
      rw [List.length_map, Array.length_toList, Array.length_toList]
      exact hit.1.symm
    · have q' : acc[i]? = some u := by rw [Array.getElem?_toList] at q; exact q
      obtain ⟨c, tk, h1, h2⟩ := hit.2 i u q'
      unfold signs at p
      rw [List.getElem?_map, Array.getElem?_toList, h1] at p
      cases p
      exact ⟨tk, h2⟩
  unfold PySem.W.StarOf notIterableAtAll
  exact wpAny_bind (wpAny_specialOf (T := "str") (v := .str z t) rfl PySem.F.slot_str_iter.lookup (wpAny_pure ⟨rfl, z1⟩))
end
def tStarS (te : TE) (t : TA) : TA := fun σ H Q => te σ H fun x H1 => ∃ z, x = V.str z ∧ z.cps.size ≤ sizeLine ∧ t σ H1 fun ys H2 => Q (signs z ++ ys) H2
theorem pa_starS {X : Cx} {e : Expr} {es : List Expr} {te : TE} {t : TA} {p : Pos} (hc : X.calm = true) (he : PE X e te) (hr : PA X es t) (hs : starEach (.Starred e p :: es) X.env = (true, eval e X.env) :: starEach es X.env := by rfl) : PA X (.Starred e p :: es) (tStarS te t) := by
  refine ⟨fun pos pins s σ H Q I h => ?_⟩
  refine PySem.W.items_star (thn (he.run pins s σ H _ I h) fun v s1 ⟨y, H1, I1, ry, z, ey, hz, q⟩ => ?_) hs
  subst ey
  obtain ⟨tk, rfl⟩ := (show ∃ t, v = Value.str z t from ry)
  refine star_str hc I1 hz fun us s2 I2 rv => ?_
  exact thn (hr.run pos pins s2 σ H1 _ I2 q) fun ws s3 ⟨vs, H3, I3, r3, q3⟩ => ⟨signs z ++ vs, H3, I3, rv.append r3, q3⟩
/-! ### tests of texts -/
theorem eq_no {a b : Str} {A B : Prop} (h : a ≠ b) (q : B) : ∃ k, V.bl (decide (V.str a = V.str b)) = V.bl k ∧ if k = true then A else B :=
  ⟨false, by rw [decide_eq_false]; intro e; exact h (V.str.inj e), q⟩
theorem eq_yes {a b : Str} {A B : Prop} (h : a = b) (q : A) : ∃ k, V.bl (decide (V.str a = V.str b)) = V.bl k ∧ if k = true then A else B :=
  ⟨true, by rw [h, decide_eq_true rfl], q⟩
/-- membership of a text among texts -/
theorem inV_str {c : Str} : ∀ {L : List Str}, inV (.str c) (L.map V.str) = decide (c ∈ L)
  | [] => rfl
  | a :: r => by
    have ih := inV_str (c := c) (L := r)
    unfold inV at ih ⊢
    rw [List.map_cons, List.any_cons, ih]
    show ((a == c) || decide (c ∈ r)) = _
    by_cases h : a = c
    · subst h
      simp
    · have h' : ¬ c = a := fun e => h e.symm
      simp [h, h']
theorem in_no {c : Str} (L : List Str) {A B : Prop} (h : c ∉ L) (q : B) : ∃ k, V.bl (if false = true then !inV (.str c) (L.map V.str) else inV (.str c) (L.map V.str)) = V.bl k ∧ if k = true then A else B := by
  refine ⟨false, ?_, q⟩
  rw [if_neg (by decide), inV_str, decide_eq_false h]
theorem in_yes {c : Str} (L : List Str) {A B : Prop} (h : c ∈ L) (q : A) : ∃ k, V.bl (if false = true then !inV (.str c) (L.map V.str) else inV (.str c) (L.map V.str)) = V.bl k ∧ if k = true then A else B := by
  refine ⟨true, ?_, q⟩
  rw [if_neg (by decide), inV_str, decide_eq_true h]
/-! ### counts -/
mutual
def W.cnt (L : List Str) : W → Option Int
  | .emp => some 0
  | .ltr c => some (if c ∈ L then 1 else 0)
  | .nam _ => some 0
  | .join ws => W.cnts L ws
  | .times w n => if 0 < n then (w.cnt L).map (· * n) else some 0
  | .right w => if w.cnt L = some 0 then some 0 else none
  | .left w => if w.cnt L = some 0 then some 0 else none
def W.cnts (L : List Str) : List W → Option Int
  | [] => some 0
  | w :: r => match w.cnt L, W.cnts L r with
    | some a, some b => some (a + b)
    | _, _ => none
end
def toV : Option Int → V
  | none => .non
  | some m => .int m
def toL : Option Int → Int
  | none => -1
  | some m => m
theorem cnt_emp {L : List Str} : W.cnt L .emp = some 0 := by rw [W.cnt]
theorem cnt_ltr {L : List Str} {c : Str} : W.cnt L (.ltr c) = some (if c ∈ L then 1 else 0) := by rw [W.cnt]
theorem cnt_join {L : List Str} {ws : List W} : W.cnt L (.join ws) = W.cnts L ws := by rw [W.cnt]
theorem cnt_times {L : List Str} {t : W} {n : Int} : W.cnt L (.times t n) = if 0 < n then (t.cnt L).map (· * n) else some 0 := by rw [W.cnt]
theorem cnt_right {L : List Str} {t : W} : W.cnt L (.right t) = if t.cnt L = some 0 then some 0 else none := by rw [W.cnt]
theorem cnt_left {L : List Str} {t : W} : W.cnt L (.left t) = if t.cnt L = some 0 then some 0 else none := by rw [W.cnt]
theorem W.cnts_none {L : List Str} : ∀ {ws : List W}, none ∈ ws.map (W.cnt L) → W.cnts L ws = none
  | w :: r, h => by
    unfold W.cnts
    rcases List.mem_cons.mp h with e | h
    · rw [← e]
    · rw [W.cnts_none h]
      split <;> simp_all
theorem W.cnts_some {L : List Str} : ∀ {ws : List W}, none ∉ ws.map (W.cnt L) → W.cnts L ws = some ((ws.map fun w => toL (w.cnt L)).sum)
  | [], _ => by
    unfold W.cnts
    rfl
  | w :: r, h => by
    unfold W.cnts
    rw [List.map_cons, List.mem_cons, not_or] at h
    rw [W.cnts_some h.2, List.map_cons, List.sum_cons]
    cases e : w.cnt L with
    | none => exact absurd e.symm h.1
    | some a => rfl
mutual
theorem W.cnt_bd {M L : List Str} : ∀ (w : W) {m : Int}, w.Ok M → w.cnt L = some m → 0 ≤ m ∧ m < 2 ^ (110 * w.dep)
  | .emp, m, o, e => by
    unfold W.cnt at e
    cases e
    exact ⟨by decide, by unfold W.dep; decide⟩
  | .ltr c, m, o, e => by
    unfold W.cnt at e
    unfold W.dep
    split at e <;> (cases e; exact ⟨by decide, by decide⟩)
  | .nam c, m, o, e => by
    unfold W.Ok at o
    exact o.elim
  | .join ws, m, o, e => by
    unfold W.Ok at o
    unfold W.cnt at e
    have h := W.cnts_bd ws o.2 e
    unfold W.dep
    refine ⟨h.1, ?_⟩
    have h2 : m ≤ (ws.length : Int) * 2 ^ (110 * W.deps ws) := h.2
    have h3 : (2 : Int) ^ (110 * (W.deps ws + 1)) = 2 ^ (110 * W.deps ws) * 2 ^ 110 := by rw [← Int.pow_add]; rfl
    have h4 : (0 : Int) < 2 ^ (110 * W.deps ws) := Int.pow_pos (by decide)
    have h5 : (ws.length : Int) * 2 ^ (110 * W.deps ws) ≤ 3 * 2 ^ (110 * W.deps ws) := Int.mul_le_mul_of_nonneg_right (by omega) (Int.le_of_lt h4)
    have h6 : (2 : Int) ^ 110 = 1298074214633706907132624082305024 := by decide
    rw [h3, h6]
    generalize (2 : Int) ^ (110 * W.deps ws) = z at *
    omega
  | .times w n, m, o, e => by
    unfold W.Ok at o
    unfold W.cnt at e
    unfold W.dep
    have h4 : (0 : Int) < 2 ^ (110 * w.dep) := Int.pow_pos (by decide)
    have h3 : (2 : Int) ^ (110 * (w.dep + 1)) = 2 ^ (110 * w.dep) * 2 ^ 110 := by rw [← Int.pow_add]; rfl
    have h6 : (2 : Int) ^ 110 = 1298074214633706907132624082305024 := by decide
    rw [h3, h6]
    split at e
    · cases g : w.cnt L with
      | none =>
        rw [g] at e
        cases e
      | some a =>
        rw [g] at e
        have e' : a * n = m := Option.some.inj e
        have h := W.cnt_bd w o.2.2 g
        subst e'
        refine ⟨Int.mul_nonneg h.1 o.1, ?_⟩
        have a1 : a * n ≤ a * 1000000000000000000000000000000 := Int.mul_le_mul_of_nonneg_left o.2.1 h.1
        generalize (2 : Int) ^ (110 * w.dep) = z at *
        have := h.2
        omega
    · cases e
      generalize (2 : Int) ^ (110 * w.dep) = z at *
      omega
  | .right w, m, o, e => by
    unfold W.cnt at e
    split at e
    · cases e
      exact ⟨by decide, Int.pow_pos (by decide)⟩
    · cases e
  | .left w, m, o, e => by
    unfold W.cnt at e
    split at e
    · cases e
      exact ⟨by decide, Int.pow_pos (by decide)⟩
    · cases e
theorem W.cnts_bd {M L : List Str} : ∀ (ws : List W) {m : Int}, W.Oks M ws → W.cnts L ws = some m → 0 ≤ m ∧ m ≤ (ws.length : Int) * 2 ^ (110 * W.deps ws)
  | [], m, o, e => by
    unfold W.cnts at e
    cases e
    exact ⟨by decide, by simp⟩
  | w :: r, m, o, e => by
    unfold W.Oks at o
    unfold W.cnts at e
    unfold W.deps
    split at e
    · rename_i a b ea eb
      have e' : a + b = m := Option.some.inj e
      have h1 := W.cnt_bd w o.1 ea
      have h2 := W.cnts_bd r o.2 eb
      subst e'
      refine ⟨by omega, ?_⟩
      have p1 : (2 : Int) ^ (110 * w.dep) ≤ 2 ^ (110 * max w.dep (W.deps r)) := by
        have := Nat.pow_le_pow_right (n := 2) (by decide) (Nat.mul_le_mul_left 110 (Nat.le_max_left w.dep (W.deps r)))
        exact_mod_cast this
      have p2 : (2 : Int) ^ (110 * W.deps r) ≤ 2 ^ (110 * max w.dep (W.deps r)) := by
        have := Nat.pow_le_pow_right (n := 2) (by decide) (Nat.mul_le_mul_left 110 (Nat.le_max_right w.dep (W.deps r)))
        exact_mod_cast this
      have p3 : (r.length : Int) * 2 ^ (110 * W.deps r) ≤ (r.length : Int) * 2 ^ (110 * max w.dep (W.deps r)) := Int.mul_le_mul_of_nonneg_left p2 (by omega)
      have p4 : (((w :: r).length : Nat) : Int) * 2 ^ (110 * max w.dep (W.deps r)) = (r.length : Int) * 2 ^ (110 * max w.dep (W.deps r)) + 2 ^ (110 * max w.dep (W.deps r)) := by
        rw [List.length_cons]
        push_cast
        rw [Int.add_mul, Int.one_mul]
      rw [p4]
      omega
    · cases e
end
theorem W.cnt_abs {M L : List Str} {w : W} {m : Int} (o : w.Ok M) (e : w.cnt L = some m) : m.natAbs < 2 ^ (110 * w.dep) := by
  have h := W.cnt_bd w o e
  have : ((m.natAbs : Nat) : Int) < ((2 ^ (110 * w.dep) : Nat) : Int) := by
    rw [Int.natAbs_of_nonneg h.1]
    push_cast
    exact h.2
  exact_mod_cast this
theorem flat_strs (L : List Str) : (L.map V.str).all flatV = true := by
  rw [List.all_map]
  exact List.all_eq_true.mpr fun x _ => rfl
theorem inV_non : ∀ {cs : List (Option Int)}, inV .non (cs.map toV) = decide (none ∈ cs)
  | [] => rfl
  | c :: r => by
    have ih := inV_non (cs := r)
    unfold inV at ih ⊢
    rw [List.map_cons, List.any_cons, ih]
    cases c with
    | none =>
      show (true || _) = _
      simp
    | some m =>
      show (false || _) = _
      simp
theorem flat_toV (cs : List (Option Int)) : (cs.map toV).all flatV = true := by
  rw [List.all_map]
  exact List.all_eq_true.mpr fun x _ => by cases x <;> rfl
theorem toV_ints : ∀ {cs : List (Option Int)}, none ∉ cs → cs.map toV = (cs.map toL).map V.int
  | [], _ => rfl
  | c :: r, h => by
    rw [List.mem_cons, not_or] at h
    rw [List.map_cons, List.map_cons, List.map_cons, toV_ints h.2]
    cases c with
    | none => exact absurd rfl h.1
    | some m => rfl
theorem inV_int {m : Int} : ∀ {ns : List Int}, inV (.int m) (ns.map V.int) = decide (m ∈ ns)
  | [] => rfl
  | a :: r => by
    have ih := inV_int (m := m) (ns := r)
    unfold inV at ih ⊢
    rw [List.map_cons, List.any_cons, ih]
    show ((a == m) || decide (m ∈ r)) = _
    by_cases h : a = m
    · subst h
      simp
    · have h' : ¬ m = a := fun e => h e.symm
      simp [h, h']
theorem flat_ints (ns : List Int) : (ns.map V.int).all flatV = true := by
  rw [List.all_map]
  exact List.all_eq_true.mpr fun x _ => rfl
end SW

set_option Elab.async false
set_option linter.all false
set_option maxRecDepth 100000
set_option maxHeartbeats 4000000
namespace SW
open PySem PySem.Spec PyProof.Rows L2
def W.parts : W → List W
  | .join ws => ws
  | .times w _ => [w]
  | .right w => [w]
  | .left w => [w]
  | _ => []
theorem W.parts_mem {L : List Str} {t x : W} (o : t.Ok L) (h : x ∈ t.parts) : x.Ok L ∧ x.dep + 1 ≤ t.dep := by
  cases t with
  | join ws =>
    unfold W.Ok at o
    have := W.deps_mem (ws := ws) h
    refine ⟨W.oks_mem h o.2, ?_⟩
    rw [W.dep]
    omega
  | times w n =>
    unfold W.Ok at o
    cases List.mem_singleton.mp h
    exact ⟨o.2.2, by rw [W.dep]; omega⟩
  | right w =>
    unfold W.Ok at o
    cases List.mem_singleton.mp h
    exact ⟨o, by rw [W.dep]; omega⟩
  | left w =>
    unfold W.Ok at o
    cases List.mem_singleton.mp h
    exact ⟨o, by rw [W.dep]; omega⟩
  | emp => exact (List.not_mem_nil h).elim
  | ltr c => exact (List.not_mem_nil h).elim
  | nam c => exact (List.not_mem_nil h).elim
theorem W.parts_len {L : List Str} {t : W} (o : t.Ok L) : t.parts.length ≤ 3 := by
  cases t with
  | join ws =>
    unfold W.Ok at o
    exact o.1
  | _ => simp [W.parts]
/-- the law's counts of the parts -/
def W.cs (L : List Str) (t : W) : List Int := t.parts.map fun x => toL (x.cnt L)
theorem toL_neg {M L : List Str} {x : W} (o : x.Ok M) : toL (x.cnt L) = -1 ↔ x.cnt L = none := by
  cases e : x.cnt L with
  | none => exact ⟨fun _ => rfl, fun _ => rfl⟩
  | some m =>
    have h := (W.cnt_bd x o e).1
    refine ⟨fun q => ?_, fun q => by cases q⟩
    have q' : m = -1 := q
    omega
theorem cs_neg {M L : List Str} {t : W} (o : t.Ok M) (hl : ∀ c, t ≠ .ltr c) (ht : ∀ x n, t = .times x n → n ≠ 0) (h : (-1 : Int) ∈ t.cs L) : toL (t.cnt L) = -1 := by
  unfold W.cs at h
  obtain ⟨x, hx, e⟩ := List.mem_map.mp h
  have ox := (W.parts_mem o hx).1
  have en := (toL_neg ox).mp e
  cases t with
  | join ws =>
    rw [cnt_join, W.cnts_none (ws := ws) (List.mem_map.mpr ⟨x, hx, en⟩)]
    rfl
  | times w n =>
    unfold W.Ok at o
    cases List.mem_singleton.mp hx
    have := ht _ n rfl
    rw [cnt_times, if_pos (by omega), en]
    rfl
  | right w =>
    cases List.mem_singleton.mp hx
    rw [cnt_right, en, if_neg (by intro h; cases h)]
    rfl
  | left w =>
    cases List.mem_singleton.mp hx
    rw [cnt_left, en, if_neg (by intro h; cases h)]
    rfl
  | emp => exact (List.not_mem_nil hx).elim
  | ltr c => exact (List.not_mem_nil hx).elim
  | nam c => exact (List.not_mem_nil hx).elim
theorem cs_join {M L : List Str} {ws : List W} (o : (W.join ws).Ok M) (h : ¬ (-1 : Int) ∈ (W.join ws).cs L) : toL ((W.join ws).cnt L) = ((W.join ws).cs L).sum := by
  have hn : none ∉ ws.map (W.cnt L) := fun q => by
    obtain ⟨x, hx, e⟩ := List.mem_map.mp q
    exact h (List.mem_map.mpr ⟨x, hx, (toL_neg (W.parts_mem o hx).1).mpr e⟩)
  rw [cnt_join, W.cnts_some hn]
  rfl
theorem cs_times {M L : List Str} {x : W} {n : Int} (o : (W.times x n).Ok M) (hn : n ≠ 0) (h : ¬ (-1 : Int) ∈ (W.times x n).cs L) : toL ((W.times x n).cnt L) = toL (x.cnt L) * n := by
  unfold W.Ok at o
  have h1 : x.cnt L ≠ none := fun q => h (List.mem_map.mpr ⟨x, List.mem_singleton.mpr rfl, (toL_neg o.2.2).mpr q⟩)
  rw [cnt_times, if_pos (by omega)]
  cases e : x.cnt L with
  | none => exact absurd e h1
  | some m => rfl
theorem cs_end {M L : List Str} {x : W} (o : x.Ok M) : toL (if x.cnt L = some 0 then some 0 else none) = if toL (x.cnt L) = 0 then 0 else -1 := by
  cases e : x.cnt L with
  | none => rw [if_neg (by intro h; cases h), if_neg (by decide)]; rfl
  | some m =>
    show _ = if m = 0 then 0 else -1
    by_cases h : m = 0
    · subst h
      rw [if_pos rfl, if_pos rfl]
      rfl
    · rw [if_neg (by intro q; cases q; exact h rfl), if_neg h]
      rfl
theorem toL_abs {M L : List Str} {x : W} (o : x.Ok M) : (toL (x.cnt L)).natAbs < 2 ^ (110 * x.dep) := by
  cases e : x.cnt L with
  | none =>
    show (1 : Nat) < _
    have := x.dep_pos
    exact Nat.one_lt_two_pow (by omega)
  | some m => exact W.cnt_abs o e
/-! ### letters in lowercase -/
mutual
def W.low : W → W
  | .emp => .emp
  | .ltr c => .ltr (Txt.lower c)
  | .nam c => .nam c
  | .join ws => .join (W.lows ws)
  | .times w n => .times w.low n
  | .right w => .right w.low
  | .left w => .left w.low
def W.lows : List W → List W
  | [] => []
  | w :: r => w.low :: W.lows r
end
theorem lows_map : ∀ ws : List W, W.lows ws = ws.map W.low
  | [] => by rw [W.lows]; rfl
  | w :: r => by rw [W.lows, lows_map r]; rfl
theorem low_abc : ∀ c ∈ abcABC, Txt.lower c ∈ abc := by
  intro c h
  simp only [abcABC, List.mem_cons, List.not_mem_nil, or_false] at h
  rcases h with rfl | rfl | rfl | rfl | rfl | rfl <;> decide +kernel
theorem low_same : ∀ c ∈ abc, Txt.lower c = c := by
  intro c h
  simp only [abc, List.mem_cons, List.not_mem_nil, or_false] at h
  rcases h with rfl | rfl | rfl <;> decide +kernel
theorem len_abc : ∀ c ∈ abcABC, c.length ≤ 5592405 := by
  intro c h
  simp only [abcABC, List.mem_cons, List.not_mem_nil, or_false] at h
  rcases h with rfl | rfl | rfl | rfl | rfl | rfl <;> decide +kernel
mutual
theorem W.low_ok : ∀ w : W, w.Ok abcABC → w.low.Ok abc
  | .emp, h => by rw [W.low]; unfold W.Ok; trivial
  | .ltr c, h => by rw [W.low]; unfold W.Ok at h ⊢; exact low_abc c h
  | .nam c, h => by unfold W.Ok at h; exact h.elim
  | .join ws, h => by
    rw [W.low]
    unfold W.Ok at h ⊢
    exact ⟨by rw [lows_map, List.length_map]; exact h.1, W.lows_ok ws h.2⟩
  | .times w n, h => by rw [W.low]; unfold W.Ok at h ⊢; exact ⟨h.1, h.2.1, W.low_ok w h.2.2⟩
  | .right w, h => by rw [W.low]; unfold W.Ok at h ⊢; exact W.low_ok w h
  | .left w, h => by rw [W.low]; unfold W.Ok at h ⊢; exact W.low_ok w h
theorem W.lows_ok : ∀ ws : List W, W.Oks abcABC ws → W.Oks abc (W.lows ws)
  | [], h => by rw [W.lows]; unfold W.Oks; trivial
  | w :: r, h => by rw [W.lows]; unfold W.Oks at h ⊢; exact ⟨W.low_ok w h.1, W.lows_ok r h.2⟩
theorem W.low_id : ∀ w : W, w.Ok abc → w.low = w
  | .emp, h => by rw [W.low]
  | .ltr c, h => by unfold W.Ok at h; rw [W.low, low_same c h]
  | .nam c, h => by rw [W.low]
  | .join ws, h => by unfold W.Ok at h; rw [W.low, W.lows_id ws h.2]
  | .times w n, h => by unfold W.Ok at h; rw [W.low, W.low_id w h.2.2]
  | .right w, h => by unfold W.Ok at h; rw [W.low, W.low_id w h]
  | .left w, h => by unfold W.Ok at h; rw [W.low, W.low_id w h]
theorem W.lows_id : ∀ ws : List W, W.Oks abc ws → W.lows ws = ws
  | [], h => by rw [W.lows]
  | w :: r, h => by unfold W.Oks at h; rw [W.lows, W.low_id w h.1, W.lows_id r h.2]
end
mutual
theorem W.low_dep : ∀ w : W, w.low.dep = w.dep
  | .emp => by rw [W.low]
  | .ltr c => by rw [W.low, W.dep, W.dep]
  | .nam c => by rw [W.low]
  | .join ws => by rw [W.low, W.dep, W.dep, W.lows_dep ws]
  | .times w n => by rw [W.low, W.dep, W.dep, W.low_dep w]
  | .right w => by rw [W.low, W.dep, W.dep, W.low_dep w]
  | .left w => by rw [W.low, W.dep, W.dep, W.low_dep w]
theorem W.lows_dep : ∀ ws : List W, W.deps (W.lows ws) = W.deps ws
  | [] => by rw [W.lows]
  | w :: r => by rw [W.lows, W.deps, W.deps, W.low_dep w, W.lows_dep r]
end
end SW

set_option Elab.async false
set_option linter.all false
set_option maxRecDepth 100000
set_option maxHeartbeats 4000000
namespace SW
open PySem PySem.Spec PyProof.Rows L2
section
variable {P : Program} {w : World} {K : PySem.W.Frag} {mg : Str → Option Value} {h : Heap}
theorem df_mk {x : Str} {st : Stmt} {ps : List Str} {f : Addr} {od an : Option Addr} {sl : Array (Option Value)} {oc kV dc pm cd ct : Value} (X : K.In h) (G : h.Ns mainGlobals mg)
    (a : PySem.W.nsIn K mainGlobals x = some (some (.ref f))) (l : K.lookup f = some ⟨oc, od, .func (PySem.W.fnOf x x (defArgs st) (defBody st) (defScope st) .none kV dc pm an cd ct), sl⟩) (c : PySem.W.codeIn K cd x = true) (k : PySem.W.keepIn K (.ref f) = true)
    (hb : ∀ (kV doc pm : Value) (an : Option Addr) (cdv ct : Value) (us : List Value), us.length = ps.length → bindArgs (PySem.W.fnOf x x (defArgs st) (defBody st) (defScope st) .none kV doc pm an cdv ct) ⟨us, []⟩ = pure (ps.zip us)) : Df K mg x st ps := by
  have F := fun_mk (st := st) l c k
  exact ⟨f, _, F, PySem.W.mg_of X G a, F.binds (ps := ps) hb⟩
theorem law_end {st : Stmt} {fa : Addr} {k : Nat} {sp : Sp} (D : Df K mg "law" st ["_law_script"]) (hmg : mg "law" = some (.ref fa))
    (hb : ∀ (kV doc pm : Value) (an : Option Addr) (cdv ct : Value) (v : Value), bindArgs (PySem.W.fnOf "law" "law" (defArgs st) (defBody st) (defScope st) .none kV doc pm an cdv ct) ⟨[v], []⟩ = pure [(("_law_script" : Str), v)])
    (c : ∀ base : Heap, K.In base → base.Ns mainGlobals mg → Cal P w K mg base k "law" ["_law_script"] sp) :
    ∃ fd : FuncData, (∀ (s : Shared) (v : Value), BindsTo s fd ⟨[v], []⟩ [("_law_script", v)]) ∧ ∀ base : Heap, K.In base → base.Ns mainGlobals mg → FnOk P w K mg base CX0 k fa fd ["_law_script"] sp := by
  obtain ⟨f, fd, F, m, b⟩ := D.ex
  have e : f = fa := by
    rw [hmg] at m
    cases m
    rfl
  subst e
  obtain ⟨oc, od, kV, doc, pm, an, cdv, ct, osl, rfl, lk, _⟩ := F.ex
  refine ⟨_, fun s v => .of_eq (hb kV doc pm an cdv ct v), fun base h1 h2 => ?_⟩
  obtain ⟨f', fd', F', m', _, _, oc', od', osl', lk'⟩ := (c base h1 h2).ex
  have e : f' = f := by
    rw [m] at m'
    cases m'
    rfl
  subst e
  rw [lk] at lk'
  cases lk'
  exact F'
theorem sqt_mk {a : Addr} {o : Obj} {its : Array Value} {n : Nat} {xs : List V} (l : K.lookup a = some o) (hc : o.cls = .type "tuple") (hd : o.data = .seq its n) (hs : its.size ≤ sizeLine) (r : Vals xs its.toList) : ∀ H, SqT K H a xs :=
  fun _ => .inr ⟨o, its, n, l, hc, hd, hs, r⟩
end
theorem relstr {z y : Str} {tk : Tok} (h : z = y) : L2.RelV (.str z) (.str y tk) := ⟨tk, by rw [h]⟩
/-- what a law's def promises -/
def spLaw (K : PySem.W.Frag) : Sp := fun vs H Q _ => ∃ (a : Addr) (ns : List Int), vs = [.ref a] ∧ SqL K H a (ns.map V.int) ∧ ∀ H', Q (.bl true) H'
theorem walk {l : PySem.W.OpenLaw} {q : Program} {loose : List Str} {XP : (Str → Option Value) → Heap → Prop} {YP : World → Heap → Prop} {d : DefRec} {K : Params → PySem.W.Frag} {k : Nat} (hr : Room k callerA) (hn : l.most = some 63) (hdf : d.params.defaults = [])
    (hY : ∀ (w : World) (h : Heap), YP w h → (K w.params).In h)
    (F : ∀ (w : World) (mg : Str → Option Value) (fa : Addr) (h : Heap), (K w.params).In h → h.Ns mainGlobals mg → mg d.name = some (.ref fa) →
      ∃ fd : FuncData, (∀ (s : Shared) (u : Value), BindsTo s fd ⟨[u], []⟩ [("_law_script", u)]) ∧ ∀ base : Heap, (K w.params).In base → base.Ns mainGlobals mg → FnOk l.prog w (K w.params) mg base CX0 k fa fd ["_law_script"] (spLaw (K w.params))) :
    PySem.W.WalkO q loose XP YP l.row.toRowW d [] (fun f vs => PySem.call f vs) :=
  L2.walk_of (n := 63) (k := k) (x := "_law_script") (CX := fun _ => CX0) (sp := fun w => spLaw (K w.params)) hn (by decide) hdf hr hY F (fun _ _ a ns hl _ hS => ⟨a, ns, rfl, hS, fun _ => rfl⟩) fun _ _ _ _ _ z => z
end SW

set_option Elab.async false
set_option linter.all false
set_option maxRecDepth 100000
set_option maxHeartbeats 4000000
namespace SW
open PySem PySem.Spec PyProof.Rows L2
def top (i : Nat) : Stmt := PySem.Challenge.pw_scatterwords_k01_places_counted.main.body.getD i (.Pass ⟨0, 0, 0, 0⟩)
abbrev s_unmarked : Stmt := top 4
abbrev s_letter_count : Stmt := top 5
abbrev s_length : Stmt := top 6
abbrev s__count : Stmt := top 7
abbrev s__law_draws : Stmt := top 9
abbrev s__law_draw : Stmt := top 10
abbrev s__law_pick : Stmt := top 11
abbrev s__law_great : Stmt := top 12
abbrev s__law_same : Stmt := top 13
abbrev s__law_tree : Stmt := top 14
abbrev s__law_word : Stmt := top 15
abbrev s__law_parts : Stmt := top 16
abbrev s__law_count : Stmt := top 17
abbrev s__law_places : Stmt := top 18
abbrev s__law_told : Stmt := top 19
abbrev s__law_marks : Stmt := top 20
abbrev s__law_wide : Stmt := top 21
abbrev s__law_lower : Stmt := top 22
abbrev s_law : Stmt := top 23
section
variable {P : Program} {w : World} {K : PySem.W.Frag} {mg : Str → Option Value} {base : Heap}
/-! ### _law_draw -/
def spDraw : Sp := fun vs H Q _ => ∃ r l m, vs = [.ref r, .int m] ∧ 0 < m ∧ m < 1073741824 ∧ Rng H r l ∧ ∀ (v : Int) H', 0 ≤ v → v < m → Rng H' r l → Kp r H H' → Q (.int v) H'
theorem sc__law_draw : FnScope ["_law_rng", "_law_many", "_law_cell", "_law_digit", "_law_seed"] ["_law_rng", "_law_many"] (defScope s__law_draw) := ⟨rfl, rfl, rfl, by decide +kernel, rfl, by decide +kernel, by decide +kernel⟩
theorem ok_draw (D : Df K mg "_law_draw" s__law_draw ["_law_rng", "_law_many"]) (bi : Bi mg) : Cal P w K mg base 1 "_law_draw" ["_law_rng", "_law_many"] spDraw := by
  refine D.ok sc__law_draw (fun vs H Q E h => ?_) (fun f cdv A outer s H vs Q E hr h => ?_)
  · obtain ⟨r, l, m, rfl, _⟩ := h
    rfl
  obtain ⟨r, l, m, rfl, hm, hm2, ⟨ns, i, d, st, c, h1, h2, h3, h4⟩, q⟩ := h
  refine ⟨_, (pss_cons (ps_asg (pe_op op_add (pe_ix ix_list (pv 0) pe_int (fun _ _ => rfl)) pe_int) (pg_sub (pv 0) pe_int set_list))
      (C8.pss_cut (ps_if (PW.pt (pw_and (pt_cmpR op_eq (pe_ix ix_list (pv 0) pe_int (fun _ _ => rfl)) pe_int (nomark _)) (pw_and1 (pt_cmpR op_lt (pe_ix ix_list (pv 0) pe_int (fun _ _ => rfl)) (pe_callB call_len_seq (by rfl) bi.len PySem.boot_len (pa_cons (pe_ix ix_list (pv 0) pe_int (fun _ _ => rfl)) pa_nil)) (nomark _))))) (pss_cons (ps_set (i := 2) sc__law_draw.nd rfl (.inl rfl) (pe_ix ix_list (pe_ix ix_list (pv 0) pe_int (fun _ _ => rfl)) (pe_ix ix_list (pv 0) pe_int (fun _ _ => rfl)) (fun _ _ => rfl)))
      (pss_cons (ps_asg (pe_op op_add (pe_ix ix_list (pv 0) pe_int (fun _ _ => rfl)) pe_int) (pg_sub (pv 0) pe_int set_list))
      (pss_one (ps_if (pt_cmpR op_ge (pv 2) (pe_op op_pow pe_int pe_int) (nomark _)) (pss_one (ps_asg (pv 2) (pg_sub (pv 0) pe_int set_list))) (pss_one (ps_asg (pe_op op_modN (pe_callTy call_int1 (by rfl) bi.int (by decide +kernel) (pa_cons (pe_op op_add (pe_op op_add (pe_op op_mul (pe_ix ix_list (pv 0) pe_int (fun _ _ => rfl)) pe_int) (pe_op op_mul (pe_op op_modN (pe_callTy call_int1 (by rfl) bi.int (by decide +kernel) (pa_cons (pv 2) pa_nil)) pe_int) pe_int)) pe_int) pa_nil)) pe_int) (pg_sub (pv 0) pe_int set_list))))))) pss_nil)
      (pss_cons (ps_if (pt_cmpR op_gt (pe_ix ix_list (pv 0) pe_int (fun _ _ => rfl)) pe_int (nomark _)) (pss_cons (ps_set (i := 3) sc__law_draw.nd rfl (.inl rfl) (pe_op op_modN (pe_callTy call_int1 (by rfl) bi.int (by decide +kernel) (pa_cons (pe_ix ix_list (pv 0) pe_int (fun _ _ => rfl)) pa_nil)) (pv 1)))
      (pss_cons (ps_asg (pe_op op_fdivN (pe_ix ix_list (pv 0) pe_int (fun _ _ => rfl)) (pv 1)) (pg_sub (pv 0) pe_int set_list))
      (pss_one (ps_ret (pv 3))))) pss_nil)
      (pss_cons (ps_set (i := 4) sc__law_draw.nd rfl (.inl rfl) (pe_ix ix_list (pv 0) pe_int (fun _ _ => rfl)))
      (pss_cons (ps_asg (pe_op op_modN (pe_callTy call_int1 (by rfl) bi.int (by decide +kernel) (pa_cons (pe_op op_add (pe_op op_add (pe_op op_add (pe_op op_mul (pv 4) pe_int) (pe_op op_mul (pe_op op_fdivN (pv 4) pe_int) pe_int)) (pe_op op_mul (pe_ix ix_list (pv 0) pe_int (fun _ _ => rfl)) pe_int)) pe_int) pa_nil)) pe_int) (pg_sub (pv 0) pe_int set_list))
      (pss_one (ps_ret (pe_op op_modN (pe_callTy call_int1 (by rfl) bi.int (by decide +kernel) (pa_cons (pe_op op_add (pe_op op_fdivN (pe_ix ix_list (pv 0) pe_int (fun _ _ => rfl)) pe_int) (pe_op op_mul (pe_op op_modN (pe_callTy call_int1 (by rfl) bi.int (by decide +kernel) (pa_cons (pe_ix ix_list (pv 0) pe_int (fun _ _ => rfl)) pa_nil)) pe_int) pe_int)) pa_nil)) (pv 1))))))))), ?_⟩
  -- rng[4] += 1
  refine ⟨_, rfl, _, _, _, _, rfl, rfl, SqL.of h1, rfl, _, _, rfl, rfl, _, rfl, r, _, 4, 4, rfl, rfl, h1, rfl, ?_⟩
  have k1 : Kp r H (upd H r (.lst [.ref l, .int i, .int d, .int st, .int (c + 1)])) := Kp.at
  generalize e1 : upd H r (.lst (List.set [.ref l, .int i, .int d, .int st, .int c] 4 (.int (c + 1)))) = H1
  have g1 : H1 r = some (.lst [.ref l, .int i, .int d, .int st, .int (c + 1)]) := by
    rw [← e1]
    exact upd_same
  have k1 : Kp r H H1 := by
    rw [← e1]
    exact Kp.at
  have g2 := k1 _ _ h4 h2
  -- the first if: anything may stand in the three
  refine ⟨fun σ' H' => ∃ y2 i d st c, σ' = [some (.ref r), some (.int m), y2, none, none] ∧ H' r = some (.lst [.ref l, .int i, .int d, .int st, .int c]) ∧ 0 ≤ i ∧ Kp r H H', ?_, ?_⟩
  · refine ⟨_, rfl, _, _, _, _, rfl, rfl, SqL.of g1, rfl, rfl, _, rfl, ?_⟩
    refine ite2 (fun _ => ?_) (fun _ => ⟨none, i, d, st, c + 1, rfl, g1, h3, k1⟩)
    refine ⟨_, rfl, _, _, _, _, rfl, rfl, SqL.of g1, rfl, _, rfl, _, _, _, _, rfl, rfl, SqL.of g1, rfl, l, _, rfl, .inl (SqL.of g2), _, _, rfl, rfl, _, rfl, ?_⟩
    refine ite2 (fun hc => ?_) (fun _ => ⟨none, i, d, st, c + 1, rfl, g1, h3, k1⟩)
    have hc' : i < ((ns.map V.int).length : Int) := of_decide_eq_true hc
    rw [List.length_map] at hc'
    have hi : i.toNat < ns.length := by omega
    have ha : atI (ns.map V.int) i = some (.int ns[i.toNat]) := at_of (j := i.toNat) (by omega) (by rw [List.getElem?_map, List.getElem?_eq_getElem hi]; rfl)
    refine ⟨_, rfl, _, _, _, _, rfl, rfl, SqL.of g1, rfl, _, rfl, _, _, _, _, rfl, rfl, SqL.of g1, rfl, _, _, _, _, rfl, rfl, SqL.of g2, ha, ?_⟩
    refine ⟨_, rfl, _, _, _, _, rfl, rfl, SqL.of g1, rfl, _, _, rfl, rfl, _, rfl, r, _, 1, 1, rfl, rfl, g1, rfl, ?_⟩
    generalize e3 : upd H1 r (.lst (List.set [.ref l, .int i, .int d, .int st, .int (c + 1)] 1 (.int (i + 1)))) = H2
    have g3 : H2 r = some (.lst [.ref l, .int (i + 1), .int d, .int st, .int (c + 1)]) := by
      rw [← e3]
      exact upd_same
    have k3 : Kp r H H2 := by
      rw [← e3]
      exact k1.trans Kp.at
    refine ⟨_, rfl, _, _, rfl, rfl, ⟨by decide, by decide, by decide⟩, _, _, rfl, rfl, _, rfl, ?_⟩
    refine ite2 (fun _ => ?_) (fun _ => ?_)
    · refine ⟨_, rfl, _, rfl, r, _, 2, 2, rfl, rfl, g3, rfl, ?_⟩
      exact ⟨_, i + 1, _, st, c + 1, rfl, upd_same, by omega, k3.trans Kp.at⟩
    · refine ⟨_, rfl, _, _, _, _, rfl, rfl, SqL.of g3, rfl, _, _, rfl, rfl, .inr (by decide), ?_⟩
      refine ⟨_, rfl, .inl ⟨_, rfl, _, _, rfl, rfl, (show (2147483629 : Int) ≠ 0 by decide), _, _, rfl, rfl, .inr (by decide), _, _, rfl, rfl, _, _, rfl, rfl, .inl ⟨_, rfl, _, _, rfl, rfl, (show (2147483647 : Int) ≠ 0 by decide), ?_⟩⟩⟩
      refine ⟨_, rfl, r, _, 3, 3, rfl, rfl, g3, rfl, ?_⟩
      exact ⟨_, i + 1, d, _, c + 1, rfl, upd_same, by omega, k3.trans Kp.at⟩
  · rintro σ' H' ⟨y2, i, d, st, c, rfl, g1, h3, k1⟩
    refine ⟨_, rfl, _, _, _, _, rfl, rfl, SqL.of g1, rfl, _, _, rfl, rfl, _, rfl, ?_⟩
    refine ite2 (fun _ => ?_) (fun _ => ?_)
    · refine ⟨_, rfl, _, _, _, _, rfl, rfl, SqL.of g1, rfl, .inl ⟨_, rfl, _, rfl, _, _, rfl, rfl, by omega, ?_⟩⟩
      refine ⟨_, rfl, _, _, _, _, rfl, rfl, SqL.of g1, rfl, _, rfl, _, _, rfl, rfl, ⟨by omega, by omega⟩, _, rfl, r, _, 2, 2, rfl, rfl, g1, rfl, ?_⟩
      refine ⟨_, rfl, q _ _ (Int.fmod_nonneg_of_pos _ hm) (Int.fmod_lt_of_pos _ hm) ?_ (k1.trans Kp.at)⟩
      exact ⟨ns, i, _, st, c, upd_same, (k1.trans Kp.at) _ _ h4 h2, h3, h4⟩
    · refine ⟨_, rfl, _, _, _, _, rfl, rfl, SqL.of g1, rfl, ?_⟩
      refine ⟨_, rfl, _, _, rfl, rfl, .inr (by decide), _, rfl, _, _, rfl, rfl, ⟨by decide, by decide⟩, _, _, rfl, rfl, .inr (by decide), _, _, rfl, rfl, _, rfl, _, _, _, _, rfl, rfl, SqL.of g1, rfl, _, _, rfl, rfl, .inr (by decide), _, _, rfl, rfl, _, _, rfl, rfl, .inl ⟨_, rfl, _, _, rfl, rfl, (show (2147483647 : Int) ≠ 0 by decide), ?_⟩⟩
      refine ⟨_, rfl, r, _, 3, 3, rfl, rfl, g1, rfl, ?_⟩
      refine ⟨_, rfl, _, _, _, _, rfl, rfl, SqL.of upd_same, rfl, _, _, rfl, rfl, ⟨by decide, by decide⟩, _, rfl, _, _, _, _, rfl, rfl, SqL.of upd_same, rfl, .inl ⟨_, rfl, _, _, rfl, rfl, (show (7919 : Int) ≠ 0 by decide), _, _, rfl, rfl, .inr (by decide), _, _, rfl, rfl, .inl ⟨_, rfl, _, rfl, _, _, rfl, rfl, by omega, ?_⟩⟩⟩
      refine q _ _ (Int.fmod_nonneg_of_pos _ hm) (Int.fmod_lt_of_pos _ hm) ?_ (k1.trans Kp.at)
      exact ⟨ns, i, _, _, c, upd_same, (k1.trans Kp.at) _ _ h4 h2, h3, h4⟩
end
end SW

set_option Elab.async false
set_option linter.all false
set_option maxRecDepth 100000
set_option maxHeartbeats 4000000
namespace SW
open PySem PySem.Spec PyProof.Rows L2
section
variable {P : Program} {w : World} {K : PySem.W.Frag} {mg : Str → Option Value} {base : Heap}
/-! ### _law_pick -/
def spPick : Sp := fun vs H Q _ => ∃ r l t xs, vs = [.ref r, .ref t] ∧ Rng H r l ∧ H t = some (.lst xs) ∧ t ≠ r ∧ 0 < xs.length ∧ xs.length ≤ 1000 ∧ ∀ (j : Nat) x H', xs[j]? = some x → Rng H' r l → Kp r H H' → Q x H'
theorem sc__law_pick : FnScope ["_law_rng", "_law_things"] ["_law_rng", "_law_things"] (defScope s__law_pick) := ⟨rfl, rfl, rfl, by decide +kernel, rfl, by decide +kernel, by decide +kernel⟩
theorem ok_pick (D : Df K mg "_law_pick" s__law_pick ["_law_rng", "_law_things"]) (bi : Bi mg) (c_law_draw : Cal P w K mg base 1 "_law_draw" ["_law_rng", "_law_many"] spDraw) : Cal P w K mg base 2 "_law_pick" ["_law_rng", "_law_things"] spPick := by
  refine D.ok sc__law_pick (fun vs H Q E h => ?_) (fun f cdv A outer s H vs Q E hr h => ?_)
  · obtain ⟨r, l, t, xs, rfl, _⟩ := h
    rfl
  obtain ⟨r, l, t, xs, rfl, g, ht, hne, h0, h1, q⟩ := h
  refine ⟨_, (pss_one (ps_ret (pe_ix ix_list (pv 1) (pe_own c_law_draw hr (by omega) (by rfl) (pa_cons (pv 0) (pa_cons (pe_callB call_len_seq (by rfl) bi.len PySem.boot_len (pa_cons (pv 1) pa_nil)) pa_nil))) (fun _ _ => rfl)))), ?_⟩
  refine ⟨_, rfl, _, rfl, _, rfl, t, xs, rfl, .inl (SqL.of ht), r, l, _, rfl, by omega, by omega, g, fun v H1 hv0 hv1 g1 k1 => ?_⟩
  have hv : v.toNat < xs.length := by omega
  exact ⟨t, xs, v, xs[v.toNat], rfl, rfl, SqL.of (k1 _ _ hne ht), at_of (j := v.toNat) (by omega) (List.getElem?_eq_getElem hv), q v.toNat _ H1 (List.getElem?_eq_getElem hv) g1 k1⟩
/-! ### _law_great -/
def spGreat : Sp := fun vs H Q _ => ∃ r l, vs = [.ref r] ∧ Rng H r l ∧ ∀ (v : Int) H', 2 ≤ v → v ≤ 1000000000000000000000000000000 → Rng H' r l → Kp r H H' → Q (.int v) H'
theorem sc__law_great : FnScope ["_law_rng"] ["_law_rng"] (defScope s__law_great) := ⟨rfl, rfl, rfl, by decide +kernel, rfl, by decide +kernel, by decide +kernel⟩
theorem ok_great (D : Df K mg "_law_great" s__law_great ["_law_rng"]) (bi : Bi mg) (c_law_draw : Cal P w K mg base 1 "_law_draw" ["_law_rng", "_law_many"] spDraw) (c_law_pick : Cal P w K mg base 2 "_law_pick" ["_law_rng", "_law_things"] spPick) : Cal P w K mg base 3 "_law_great" ["_law_rng"] spGreat := by
  refine D.ok sc__law_great (fun vs H Q E h => ?_) (fun f cdv A outer s H vs Q E hr h => ?_)
  · obtain ⟨r, l, rfl, _⟩ := h
    rfl
  obtain ⟨r, l, rfl, g, q⟩ := h
  refine ⟨_, (pss_one (ps_ret (pe_own c_law_pick hr (by omega) (by rfl) (pa_cons (pv 0) (pa_cons (pe_lst (pa_cons (pe_op op_pow pe_int pe_int) (pa_cons (pe_op op_sub (pe_op op_sub (pe_op op_pow pe_int pe_int) pe_int) (pe_own c_law_draw hr (by omega) (by rfl) (pa_cons (pv 0) (pa_cons (pe_op op_pow pe_int pe_int) pa_nil)))) (pa_cons (pe_op op_add (pe_op op_pow pe_int pe_int) (pe_own c_law_draw hr (by omega) (by rfl) (pa_cons (pv 0) (pa_cons (pe_op op_pow pe_int pe_int) pa_nil)))) pa_nil)))) pa_nil))))), ?_⟩
  refine ⟨_, rfl, ?_⟩
  refine ⟨_, _, rfl, rfl, ⟨by decide, by decide, by decide⟩, _, _, rfl, rfl, ⟨by decide, by decide, by decide⟩, _, _, rfl, rfl, _, rfl, _, _, rfl, rfl, ⟨by decide, by decide, by decide⟩, ?_⟩
  refine ⟨r, l, _, rfl, by decide, by decide, g, fun v1 H1 a1 b1 g1 k1 => ?_⟩
  have b1' : v1 < 1000000000 := b1
  refine ⟨_, _, rfl, rfl, _, _, rfl, rfl, ⟨by decide, by decide, by decide⟩, _, rfl, _, _, rfl, rfl, ⟨by decide, by decide, by decide⟩, ?_⟩
  refine ⟨r, l, _, rfl, by decide, by decide, g1, fun v2 H2 a2 b2 g2 k2 => ?_⟩
  have b2' : v2 < 1000000000 := b2
  refine ⟨_, _, rfl, rfl, (by show 3 ≤ sizeLine; decide), fun p hp => ?_⟩
  obtain ⟨z, hz⟩ := g2.lst
  refine ⟨r, l, p, _, rfl, g2.new hp, upd_same, (ne_of_none hz hp).symm, Nat.succ_pos _, (by show 3 ≤ 1000; decide), fun j x H3 e g3 k3 => ?_⟩
  have kk : Kp r H H3 := (k1.trans k2).trans ((Kp.new hp).trans k3)
  match j, e with
  | 0, e => cases e; exact q _ H3 (by decide) (by decide) g3 kk
  | 1, e => cases e; exact q _ H3 (by show 2 ≤ (1000000000000000000000000000000 : Int) - 1 - v1; omega) (by show (1000000000000000000000000000000 : Int) - 1 - v1 ≤ _; omega) g3 kk
  | 2, e => cases e; exact q _ H3 (by show 2 ≤ (1000000000000000000 : Int) + v2; omega) (by show (1000000000000000000 : Int) + v2 ≤ _; omega) g3 kk
/-! ### _law_tree -/
def spTree (K : PySem.W.Frag) (d : Nat) : Sp := fun vs H Q _ => ∃ r l k a b e, vs = [.ref r, .ref k, .int e] ∧ e = (d : Int) ∧ 1 ≤ d ∧ Rng H r l ∧ H k = some (.lst [.int a, .int b]) ∧ k ≠ r ∧ k ≠ l ∧
  ∀ v t a' b' H', WV K H' v t → t.Ok abc → t.dep ≤ d → Rng H' r l → H' k = some (.lst [.int a', .int b']) → Kp2 r k H H' → Q v H'
theorem sc__law_tree : FnScope ["_law_rng", "_law_kit", "_law_deep", "_law_way", "_law_k"] ["_law_rng", "_law_kit", "_law_deep"] (defScope s__law_tree) := ⟨rfl, rfl, rfl, by decide +kernel, rfl, by decide +kernel, by decide +kernel⟩
theorem ok_tree1 {n : Nat} (D : Df K mg "_law_tree" s__law_tree ["_law_rng", "_law_kit", "_law_deep"]) (bi : Bi mg) (c_law_draw : Cal P w K mg base 1 "_law_draw" ["_law_rng", "_law_many"] spDraw) (c_law_pick : Cal P w K mg base 2 "_law_pick" ["_law_rng", "_law_things"] spPick)
    (c_law_tree : Cal P w K mg base (n + 2) "_law_tree" ["_law_rng", "_law_kit", "_law_deep"] (spTree K n)) : Cal P w K mg base (n + 3) "_law_tree" ["_law_rng", "_law_kit", "_law_deep"] (spTree K (n + 1)) := by
  refine D.ok sc__law_tree (fun vs H Q E h => ?_) (fun f cdv A outer s H vs Q E hr h => ?_)
  · obtain ⟨r, l, k, a, b, e, rfl, _⟩ := h
    rfl
  obtain ⟨r, l, k, a, b, e, rfl, he, hd, g, hk, kr, kl, q⟩ := h
  refine ⟨_, (pss_cons (ps_if (pt_cmpR op_lt (pe_ix ix_list (pv 1) pe_int (fun _ _ => rfl)) pe_int (nomark _)) (pss_one (ps_ret (pe_tup (pa_cons pe_str pa_nil)))) pss_nil)
      (C8.pss_cut (ps_set (i := 3) sc__law_tree.nd rfl (.inl rfl) (pe_ifExp (pt_cmpR op_gt (pv 2) pe_int (nomark _)) (pe_own c_law_draw hr (by omega) (by rfl) (pa_cons (pv 0) (pa_cons pe_int pa_nil))) (pe_own c_law_draw hr (by omega) (by rfl) (pa_cons (pv 0) (pa_cons pe_int pa_nil)))))
      (pss_cons (ps_if (pt_cmpR op_lt (pv 3) pe_int (nomark _)) (pss_cons (ps_asg (pe_op op_sub (pe_ix ix_list (pv 1) pe_int (fun _ _ => rfl)) pe_int) (pg_sub (pv 1) pe_int set_list))
      (pss_one (ps_ret (pe_tup (pa_cons pe_str (pa_cons (pe_own c_law_pick hr (by omega) (by rfl) (pa_cons (pv 0) (pa_cons (pe_lst (pa_cons pe_str (pa_cons pe_str (pa_cons pe_str pa_nil)))) pa_nil))) pa_nil)))))) pss_nil)
      (pss_cons (ps_if (pt_cmpR op_eq (pv 3) pe_int (nomark _)) (pss_one (ps_ret (pe_tup (pa_cons pe_str pa_nil)))) pss_nil)
      (pss_cons (ps_if (pt_cmpR op_lt (pv 3) pe_int (nomark _)) (pss_one (ps_ret (pe_tup (pa_cons pe_str (pa_cons (pe_callTy call_tuple_of (by rfl) bi.tuple (by decide +kernel) (pa_cons (pe_lc (own := [("_law_k", 4)]) (g := gName 4) (tt := tYes) rfl sc__law_tree.nd (pi_range1 (by rfl) bi.range (pa_cons (pe_op op_add pe_int (pe_own c_law_draw hr (by omega) (by rfl) (pa_cons (pv 0) (pa_cons pe_int pa_nil)))) pa_nil)) (blkOk_by (N := ["_law_rng", "_law_kit", "_law_deep", "_law_way", "_law_k"]) (sc := defScope s__law_tree) (by decide +kernel)) (fun _ _ _ _ _ => (pg_name (i := 4) sc__law_tree.nd rfl (.inl rfl))) (fun _ _ _ _ _ => pts_nil) (fun _ _ _ _ _ => (pe_own c_law_tree hr (by omega) (by rfl) (pa_cons (pv 0) (pa_cons (pv 1) (pa_cons (pe_op op_sub (pv 2) pe_int) pa_nil)))))) pa_nil)) pa_nil))))) pss_nil)
      (pss_cons (ps_if (pt_cmpR op_eq (pv 3) pe_int (nomark _)) (pss_one (ps_ret (pe_tup (pa_cons pe_str (pa_cons (pe_own c_law_tree hr (by omega) (by rfl) (pa_cons (pv 0) (pa_cons (pv 1) (pa_cons (pe_op op_sub (pv 2) pe_int) pa_nil)))) (pa_cons (pe_own c_law_draw hr (by omega) (by rfl) (pa_cons (pv 0) (pa_cons pe_int pa_nil))) pa_nil)))))) pss_nil)
      (pss_cons (ps_if (pt_cmpR op_lt (pe_ix ix_list (pv 1) pe_int (fun _ _ => rfl)) pe_int (nomark _)) (pss_one (ps_ret (pe_own c_law_tree hr (by omega) (by rfl) (pa_cons (pv 0) (pa_cons (pv 1) (pa_cons (pe_op op_sub (pv 2) pe_int) pa_nil)))))) pss_nil)
      (pss_cons (ps_asg (pe_op op_sub (pe_ix ix_list (pv 1) pe_int (fun _ _ => rfl)) pe_int) (pg_sub (pv 1) pe_int set_list))
      (pss_one (ps_ret (pe_tup (pa_cons (pe_ix ix_list (pe_lst (pa_cons pe_str (pa_cons pe_str pa_nil))) (pe_op op_sub (pv 3) pe_int) (fun _ _ => rfl)) (pa_cons (pe_own c_law_tree hr (by omega) (by rfl) (pa_cons (pv 0) (pa_cons (pv 1) (pa_cons (pe_op op_sub (pv 2) pe_int) pa_nil)))) pa_nil))))))))))))), ?_⟩
  -- an empty kit
  refine ⟨_, rfl, _, _, _, _, rfl, rfl, SqL.of hk, rfl, _, _, rfl, rfl, _, rfl, ite2 (fun _ => ?_) (fun _ => ?_)⟩
  · refine ⟨(by show 1 ≤ sizeLine; decide), fun p hp => ?_⟩
    exact q _ .emp a b _ (wv_emp (SqT.of upd_same)) (by unfold W.Ok; trivial) (by unfold W.dep; omega) (g.new hp) (by rw [upd_ne (ne_of_none hk hp)]; exact hk) ((Kp.new hp).two)
  -- the way
  refine ⟨fun σ' H1 => ∃ way : Int, σ' = [some (.ref r), some (.ref k), some (.int e), some (.int way), none] ∧ 0 ≤ way ∧ (way < 3 ∨ (way < 9 ∧ 1 ≤ n)) ∧ Rng H1 r l ∧ Kp r H H1, ?_, ?_⟩
  · refine ⟨_, rfl, _, _, rfl, rfl, _, rfl, ite2 (fun hc => ?_) (fun _ => ?_)⟩
    · have hc' : e > 1 := of_decide_eq_true hc
      refine ⟨_, rfl, r, l, _, rfl, by decide, by decide, g, fun v H1 hv0 hv1 g1 k1 => ?_⟩
      exact ⟨v, rfl, hv0, .inr ⟨hv1, by omega⟩, g1, k1⟩
    · refine ⟨_, rfl, r, l, _, rfl, by decide, by decide, g, fun v H1 hv0 hv1 g1 k1 => ?_⟩
      exact ⟨v, rfl, hv0, .inl hv1, g1, k1⟩
  rintro σ' H1 ⟨way, rfl, w0, w1, g1, k1⟩
  have hk1 : H1 k = some (.lst [.int a, .int b]) := k1 _ _ kr hk
  obtain ⟨z, hz⟩ := g1.lst
  obtain ⟨zl, hzl⟩ := g1.some_l
  refine ⟨_, rfl, _, _, rfl, rfl, _, rfl, ite2 (fun _ => ?_) (fun hc => ?_)⟩
  · -- a letter
    refine ⟨_, rfl, _, _, _, _, rfl, rfl, SqL.of hk1, rfl, _, _, rfl, rfl, _, rfl, k, _, 0, 0, rfl, rfl, hk1, rfl, ?_⟩
    have k2 : Kp2 r k H1 (upd H1 k (.lst [.int (a - 1), .int b])) := Kp2.at
    refine ⟨_, rfl, (by show 3 ≤ sizeLine; decide), fun p hp => ?_⟩
    have hp1 : H1 p = none := by
      rw [← hp]
      exact (upd_ne (fun e => by rw [e, upd_same] at hp; cases hp)).symm
    have g2 : Rng (upd H1 k (.lst [.int (a - 1), .int b])) r l := g1.of (fun o h => by rw [upd_ne kr.symm]; exact h) (fun o h => by rw [upd_ne kl.symm]; exact h)
    have g3 := g2.new (o := .lst [.str "a", .str "b", .str "c"]) hp
    refine ⟨r, l, p, _, rfl, g3, upd_same, (ne_of_none hz hp1).symm, by decide, by decide, fun j x H4 ex g4 k4 => ?_⟩
    have hk4 : H4 k = some (.lst [.int (a - 1), .int b]) := k4 _ _ kr (by rw [upd_ne (fun e => by rw [← e, upd_same] at hp; cases hp), upd_same]; rfl)
    have kk : Kp2 r k H H4 := k1.two.trans (k2.trans ((Kp.new hp).two.trans k4.two))
    have hx : ∃ c, x = .str c ∧ c ∈ abc := by
      match j, ex with
      | 0, e => cases e; exact ⟨_, rfl, by decide⟩
      | 1, e => cases e; exact ⟨_, rfl, by decide⟩
      | 2, e => cases e; exact ⟨_, rfl, by decide⟩
    obtain ⟨c, rfl, hcm⟩ := hx
    refine ⟨(by show 2 ≤ sizeLine; decide), fun p2 hp2 => ?_⟩
    exact q _ (.ltr c) (a - 1) b _ (wv_ltr (SqT.of upd_same)) (by unfold W.Ok; exact hcm) (by unfold W.dep; omega) (g4.new hp2) (by rw [upd_ne (ne_of_none hk4 hp2)]; exact hk4) (kk.trans (Kp.new hp2).two)
  have hc' : ¬ way < 3 := of_decide_eq_false (Bool.eq_false_iff.mpr hc)
  have hn : 1 ≤ n := by omega
  have en : e - 1 = (n : Int) := by omega
  refine ⟨_, rfl, rfl, _, rfl, ite2 (fun _ => ?_) (fun q3 => ?_)⟩
  · refine ⟨(by show 1 ≤ sizeLine; decide), fun p hp => ?_⟩
    exact q _ .emp a b _ (wv_emp (SqT.of upd_same)) (by unfold W.Ok; trivial) (by unfold W.dep; omega) (g1.new hp) (by rw [upd_ne (ne_of_none hk1 hp)]; exact hk1) (k1.trans (Kp.new hp)).two
  refine ⟨_, rfl, _, _, rfl, rfl, _, rfl, ite2 (fun _ => ?_) (fun q6 => ?_)⟩
  · -- a join
    refine ⟨_, rfl, r, l, _, rfl, by decide, by decide, g1, fun v H2 v0 v1 g2 k2 => ?_⟩
    have hk2 : H2 k = some (.lst [.int a, .int b]) := k2 _ _ kr hk1
    have v1' : v < 2 := v1
    refine ⟨_, _, rfl, rfl, _, rfl, by omega, by omega, fun Dd hD => ?_⟩
    obtain ⟨z2, hz2⟩ := g2.lst
    obtain ⟨zl2, hzl2⟩ := g2.some_l
    have Dr : Dd ≠ r := (ne_of_none hz2 hD).symm
    have Dk : Dd ≠ k := (ne_of_none hk2 hD).symm
    have Dl : Dd ≠ l := (ne_of_none hzl2 hD).symm
    have kH2 : Kp r H H2 := k1.trans k2
    refine lcr (lo := 0) (n := (2 + v).toNat) (fun i H3 => ∃ ts acc a' b', H3 Dd = some (.lst acc) ∧ WVs K H3 acc ts ∧ ts.length = i ∧ (∀ t ∈ ts, t.Ok abc ∧ t.dep ≤ n) ∧ Rng H3 r l ∧ H3 k = some (.lst [.int a', .int b']) ∧ Kp2 r k H2 H3) ?_ ?_ ?_
    · exact ⟨[], [], a, b, upd_same, wvs_nil, rfl, fun t h => (List.not_mem_nil h).elim, g2.new hD, by rw [upd_ne Dk.symm]; exact hk2, (Kp.new hD).two⟩
    · rintro i H3 hi ⟨ts, acc, a', b', hA, hW, hlen, hall, g3, hk3, k3⟩
      refine ⟨_, rfl, _, rfl, _, rfl, _, _, rfl, rfl, ?_⟩
      refine ⟨r, l, k, a', b', _, rfl, en, hn, g3, hk3, kr, kl, fun y t a2 b2 H4 hy ho hdp g4 hk4 k4 => ?_⟩
      have hA4 : H4 Dd = some (.lst acc) := k4 _ _ Dr Dk hA
      obtain ⟨z3, hz3⟩ := g3.lst
      have tp : Tp H3 H4 := k4.tp hz3 hk3
      have al := hW.length
      refine ⟨acc, hA4, Nat.lt_of_le_of_lt (show acc.length ≤ 1000 by omega) (by decide), ts ++ [t], acc ++ [y], a2, b2, upd_same, ?_, by rw [List.length_append, hlen]; rfl, ?_, ?_, ?_, ?_⟩
      · exact WVs.tp (tp_set hA4) _ (WVs.app hy (WVs.tp tp _ hW))
      · intro t' ht'
        rcases List.mem_append.mp ht' with h | h
        · exact hall t' h
        · rw [List.mem_singleton.mp h]
          exact ⟨ho, hdp⟩
      · exact g4.of (fun o h => by rw [upd_ne Dr.symm]; exact h) (fun o h => by rw [upd_ne Dl.symm]; exact h)
      · rw [upd_ne Dk.symm]
        exact hk4
      · intro b o n1 n2 hb
        have nb : b ≠ Dd := ne_of_none hb hD
        rw [upd_ne nb]
        exact k4 b o n1 n2 (k3 b o n1 n2 hb)
    · rintro H3 ⟨ts, acc, a', b', hA, hW, hlen, hall, g3, hk3, k3⟩
      refine ⟨Dd, acc, rfl, .inl ⟨SqL.of hA, fun p hp => ?_⟩⟩
      refine ⟨(by show 2 ≤ sizeLine; decide), fun p2 hp2 => ?_⟩
      have t1 : Tp H3 (upd H3 p (.tup acc)) := tp_new hp
      have t2 := tp_new (o := .tup [.str "join", .ref p]) hp2
      refine q _ (.join ts) a' b' _ (wv_join (SqT.of upd_same) (t2.sq (SqT.of upd_same)) (WVs.tp (t1.trans t2) _ hW)) ?_ ?_ ((g3.new hp).new hp2) ?_ ?_
      · unfold W.Ok
        exact ⟨by omega, W.oks_of fun t ht => (hall t ht).1⟩
      · unfold W.dep
        have := W.deps_le (n := n) fun t ht => (hall t ht).2
        omega
      · have e1 : (upd H3 p (.tup acc)) k = some (.lst [.int a', .int b']) := by
          rw [upd_ne (ne_of_none hk3 hp)]
          exact hk3
        rw [upd_ne (ne_of_none e1 hp2)]
        exact e1
      · exact kH2.two.trans (k3.trans ((Kp.new hp).trans (Kp.new hp2)).two)
  refine ⟨_, rfl, rfl, _, rfl, ite2 (fun _ => ?_) (fun q7 => ?_)⟩
  · -- copies
    refine ⟨_, rfl, _, rfl, _, rfl, _, _, rfl, rfl, ?_⟩
    refine ⟨r, l, k, a, b, _, rfl, en, hn, g1, hk1, kr, kl, fun y t a2 b2 H4 hy ho hdp g4 hk4 k4 => ?_⟩
    refine ⟨_, rfl, r, l, _, rfl, by decide, by decide, g4, fun v H5 v0 v1 g5 k5 => ?_⟩
    have v1' : v < 4 := v1
    refine ⟨(by show 3 ≤ sizeLine; decide), fun p hp => ?_⟩
    obtain ⟨z4, hz4⟩ := g4.lst
    have hk5 : H5 k = some (.lst [.int a2, .int b2]) := k5 _ _ kr hk4
    refine q _ (.times t v) a2 b2 _ (wv_times (SqT.of upd_same) (WV.tp ((k5.tp hz4).trans (tp_new hp)) _ hy)) ?_ ?_ (g5.new hp) (by rw [upd_ne (ne_of_none hk5 hp)]; exact hk5) ?_
    · unfold W.Ok
      exact ⟨v0, by omega, ho⟩
    · unfold W.dep
      omega
    · exact k1.two.trans (k4.trans (k5.trans (Kp.new hp)).two)
  refine ⟨_, rfl, _, _, _, _, rfl, rfl, SqL.of hk1, rfl, _, _, rfl, rfl, _, rfl, ite2 (fun _ => ?_) (fun _ => ?_)⟩
  · refine ⟨_, rfl, _, rfl, _, rfl, _, _, rfl, rfl, ?_⟩
    refine ⟨r, l, k, a, b, _, rfl, en, hn, g1, hk1, kr, kl, fun y t a2 b2 H4 hy ho hdp g4 hk4 k4 => ?_⟩
    exact q _ t a2 b2 _ hy ho (by omega) g4 hk4 (k1.two.trans k4)
  -- endless copies
  refine ⟨_, rfl, _, _, _, _, rfl, rfl, SqL.of hk1, rfl, _, _, rfl, rfl, _, rfl, k, _, 1, 1, rfl, rfl, hk1, rfl, ?_⟩
  have k2 : Kp2 r k H1 (upd H1 k (.lst [.int a, .int (b - 1)])) := Kp2.at
  have g2 : Rng (upd H1 k (.lst [.int a, .int (b - 1)])) r l := g1.of (fun o h => by rw [upd_ne kr.symm]; exact h) (fun o h => by rw [upd_ne kl.symm]; exact h)
  refine ⟨(by show 2 ≤ sizeLine; decide), fun p hp => ?_⟩
  have hkp : (upd (upd H1 k (.lst [.int a, .int (b - 1)])) p (.lst [.str "right", .str "left"])) k = some (.lst [.int a, .int (b - 1)]) := by
    rw [upd_ne (ne_of_none upd_same hp), upd_same]
  have n3 : way ≠ 3 := fun e => q3 (by rw [e]; exact decide_eq_true rfl)
  have n6 : ¬ way < 6 := of_decide_eq_false (Bool.eq_false_iff.mpr q6)
  have n7 : way ≠ 6 := fun e => q7 (by rw [e]; exact decide_eq_true rfl)
  have h9 : way = 7 ∨ way = 8 := by omega
  have g3 := g2.new (o := .lst [.str "right", .str "left"]) hp
  have hH : Kp2 r k H (upd (upd H1 k (.lst [.int a, .int (b - 1)])) p (.lst [.str "right", .str "left"])) := k1.two.trans (k2.trans (Kp.new hp).two)
  rcases h9 with h9 | h9
  · have e0 : way - 7 = 0 := by omega
    refine ⟨_, rfl, _, _, rfl, rfl, _, _, _, _, rfl, rfl, SqL.of upd_same, at_of (j := 0) e0 rfl, ?_⟩
    refine ⟨_, rfl, _, rfl, _, rfl, _, _, rfl, rfl, ?_⟩
    refine ⟨r, l, k, a, b - 1, _, rfl, en, hn, g3, hkp, kr, kl, fun y t a2 b2 H4 hy ho hdp g4 hk4 k4 => ?_⟩
    refine ⟨(by show 2 ≤ sizeLine; decide), fun p2 hp2 => ?_⟩
    exact q _ (.right t) a2 b2 _ (wv_right (SqT.of upd_same) (WV.tp (tp_new hp2) _ hy)) (by unfold W.Ok; exact ho) (by unfold W.dep; omega) (g4.new hp2) (by rw [upd_ne (ne_of_none hk4 hp2)]; exact hk4) (hH.trans (k4.trans (Kp.new hp2).two))
  · have e0 : way - 7 = 1 := by omega
    refine ⟨_, rfl, _, _, rfl, rfl, _, _, _, _, rfl, rfl, SqL.of upd_same, at_of (j := 1) e0 rfl, ?_⟩
    refine ⟨_, rfl, _, rfl, _, rfl, _, _, rfl, rfl, ?_⟩
    refine ⟨r, l, k, a, b - 1, _, rfl, en, hn, g3, hkp, kr, kl, fun y t a2 b2 H4 hy ho hdp g4 hk4 k4 => ?_⟩
    refine ⟨(by show 2 ≤ sizeLine; decide), fun p2 hp2 => ?_⟩
    exact q _ (.left t) a2 b2 _ (wv_left (SqT.of upd_same) (WV.tp (tp_new hp2) _ hy)) (by unfold W.Ok; exact ho) (by unfold W.dep; omega) (g4.new hp2) (by rw [upd_ne (ne_of_none hk4 hp2)]; exact hk4) (hH.trans (k4.trans (Kp.new hp2).two))
theorem ok_tree (D : Df K mg "_law_tree" s__law_tree ["_law_rng", "_law_kit", "_law_deep"]) (bi : Bi mg) (c_law_draw : Cal P w K mg base 1 "_law_draw" ["_law_rng", "_law_many"] spDraw) (c_law_pick : Cal P w K mg base 2 "_law_pick" ["_law_rng", "_law_things"] spPick) :
    ∀ n : Nat, Cal P w K mg base (n + 2) "_law_tree" ["_law_rng", "_law_kit", "_law_deep"] (spTree K n)
  | 0 => D.no fun vs H Q E h => by
    obtain ⟨r, l, k, a, b, e, _, _, h1, _⟩ := h
    omega
  | n + 1 => ok_tree1 D bi c_law_draw c_law_pick (ok_tree D bi c_law_draw c_law_pick n)
end
end SW

set_option Elab.async false
set_option linter.all false
set_option maxRecDepth 100000
set_option maxHeartbeats 4000000
namespace SW
open PySem PySem.Spec PyProof.Rows L2
section
variable {P : Program} {w : World} {K : PySem.W.Frag} {mg : Str → Option Value} {base : Heap}
/-! ### _law_same of equal data -/
def spSame (K : PySem.W.Frag) : Nat → Sp
  | 0 => fun _ _ _ _ => False
  | n + 1 => fun vs H Q _ => ∃ x y d, vs = [x, y] ∧ Dp K H x d ∧ Dp K H y d ∧ Sm n d ∧ ∀ H', Same H H' → Q (.bl true) H'
theorem sc__law_same : FnScope ["_law_found", "_law_due", "_law_a", "_law_b"] ["_law_found", "_law_due"] (defScope s__law_same) := ⟨rfl, rfl, rfl, by decide +kernel, rfl, by decide +kernel, by decide +kernel⟩
theorem ok_same1 {n : Nat} (D : Df K mg "_law_same" s__law_same ["_law_found", "_law_due"]) (bi : Bi mg) (c_law_same : Cal P w K mg base n "_law_same" ["_law_found", "_law_due"] (spSame K n)) :
    Cal P w K mg base (n + 1) "_law_same" ["_law_found", "_law_due"] (spSame K (n + 1)) := by
  refine D.ok sc__law_same (fun vs H Q E h => ?_) (fun f cdv A outer s H vs Q E hr h => ?_)
  · obtain ⟨x, y, d, rfl, _⟩ := h
    rfl
  obtain ⟨x, y, d, rfl, hx, hy, hs, q⟩ := h
  refine ⟨_, (pss_cons (ps_if (PW.pt (pw_or (pt_val (pe_callB call_isi (by rfl) bi.isinstance (by decide +kernel) (pa_cons (pv 1) (pa_cons (pe_bltn (v := .ty "list") (u := .type "list") (by rfl) bi.list (by decide +kernel) rfl) pa_nil)))) (pw_or1 (pt_val (pe_callB call_isi (by rfl) bi.isinstance (by decide +kernel) (pa_cons (pv 1) (pa_cons (pe_bltn (v := .ty "tuple") (u := .type "tuple") (by rfl) bi.tuple (by decide +kernel) rfl) pa_nil))))))) (pss_cons (ps_if (PW.pt (pw_or (pt_cmpR op_ne (pe_callB call_isi (by rfl) bi.isinstance (by decide +kernel) (pa_cons (pv 0) (pa_cons (pe_bltn (v := .ty "list") (u := .type "list") (by rfl) bi.list (by decide +kernel) rfl) pa_nil))) (pe_callB call_isi (by rfl) bi.isinstance (by decide +kernel) (pa_cons (pv 1) (pa_cons (pe_bltn (v := .ty "list") (u := .type "list") (by rfl) bi.list (by decide +kernel) rfl) pa_nil))) (nomark _)) (pw_or1 (pt_cmpR op_ne (pe_callB call_isi (by rfl) bi.isinstance (by decide +kernel) (pa_cons (pv 0) (pa_cons (pe_bltn (v := .ty "tuple") (u := .type "tuple") (by rfl) bi.tuple (by decide +kernel) rfl) pa_nil))) (pe_callB call_isi (by rfl) bi.isinstance (by decide +kernel) (pa_cons (pv 1) (pa_cons (pe_bltn (v := .ty "tuple") (u := .type "tuple") (by rfl) bi.tuple (by decide +kernel) rfl) pa_nil))) (nomark _))))) (pss_one (ps_ret pe_bl)) pss_nil)
      (pss_one (ps_ret (pe_and (pe_cmpR op_eq (pe_callB call_len_seq (by rfl) bi.len PySem.boot_len (pa_cons (pv 0) pa_nil)) (pe_callB call_len_seq (by rfl) bi.len PySem.boot_len (pa_cons (pv 1) pa_nil)) (nomark _)) (pe_one (pe_callB (cr_all rfl) (by rfl) bi.all (by decide +kernel) (pa_cons (pe_lc (own := [("_law_a", 2), ("_law_b", 3)]) (g := gTup K 2 (gCons (gName 2) (gCons (gName 3) gNil))) (tt := tYes) rfl sc__law_same.nd (RZ.pi_zipA (by rfl) bi.zip (pa_cons (pv 0) (pa_cons (pv 1) pa_nil))) (blkOk_by (N := ["_law_found", "_law_due", "_law_a", "_law_b"]) (sc := defScope s__law_same) (by decide +kernel)) (fun _ _ _ _ _ => (pg_tup rfl (pgs_cons (pg_name (i := 2) sc__law_same.nd rfl (.inl rfl)) (pgs_cons (pg_name (i := 3) sc__law_same.nd rfl (.inl rfl)) pgs_nil)))) (fun _ _ _ _ _ => pts_nil) (fun _ _ _ _ _ => (pe_own c_law_same hr (by omega) (by rfl) (pa_cons (pv 2) (pa_cons (pv 3) pa_nil))))) pa_nil))))))) pss_nil)
      (pss_cons (ps_if (PW.pt (pw_or (pt_cmpR op_isN (pv 1) pe_non (nomark _)) (pw_or1 (pt_cmpR op_isN (pv 0) pe_non (nomark _))))) (pss_one (ps_ret (pe_and (pe_cmpR op_isN (pv 1) pe_non (nomark _)) (pe_one (pe_cmpR op_isN (pv 0) pe_non (nomark _)))))) pss_nil)
      (pss_cons (ps_if (PW.pt (pw_or (pt_cmpR op_ne (pe_callB call_isi (by rfl) bi.isinstance (by decide +kernel) (pa_cons (pv 1) (pa_cons (pe_bltn (v := .ty "bool") (u := .type "bool") (by rfl) bi.bool (by decide +kernel) rfl) pa_nil))) (pe_callB call_isi (by rfl) bi.isinstance (by decide +kernel) (pa_cons (pv 0) (pa_cons (pe_bltn (v := .ty "bool") (u := .type "bool") (by rfl) bi.bool (by decide +kernel) rfl) pa_nil))) (nomark _)) (pw_or1 (pt_cmpR op_ne (pe_callB call_isi (by rfl) bi.isinstance (by decide +kernel) (pa_cons (pv 1) (pa_cons (pe_bltn (v := .ty "int") (u := .type "int") (by rfl) bi.int (by decide +kernel) rfl) pa_nil))) (pe_callB call_isi (by rfl) bi.isinstance (by decide +kernel) (pa_cons (pv 0) (pa_cons (pe_bltn (v := .ty "int") (u := .type "int") (by rfl) bi.int (by decide +kernel) rfl) pa_nil))) (nomark _))))) (pss_one (ps_ret pe_bl)) pss_nil)
      (pss_one (ps_ret (pe_and (pe_cmpR op_eq (pe_callB call_isi (by rfl) bi.isinstance (by decide +kernel) (pa_cons (pv 1) (pa_cons (pe_bltn (v := .ty "str") (u := .type "str") (by rfl) bi.str (by decide +kernel) rfl) pa_nil))) (pe_callB call_isi (by rfl) bi.isinstance (by decide +kernel) (pa_cons (pv 0) (pa_cons (pe_bltn (v := .ty "str") (u := .type "str") (by rfl) bi.str (by decide +kernel) rfl) pa_nil))) (nomark _)) (pe_one (pe_cmpR op_eq (pv 0) (pv 1) (nomark _))))))))), ?_⟩
  have q0 := q H (fun _ _ e => e)
  cases d with
  | none =>
    cases hx
    cases hy
    refine ⟨_, rfl, _, _, _, _, false, rfl, .ty _, .base .non, kit_ty (by decide +kernel), _, rfl, ?_⟩
    refine ⟨_, rfl, _, _, _, _, false, rfl, .ty _, .base .non, kit_ty (by decide +kernel), _, rfl, ?_⟩
    refine ⟨_, rfl, rfl, _, rfl, ?_⟩
    refine ⟨_, rfl, rfl, _, rfl, ?_⟩
    exact ⟨_, rfl, rfl, q0⟩
  | bool b =>
    cases hx
    cases hy
    refine ⟨_, rfl, _, _, _, _, false, rfl, .ty _, .base (.bl b), kit_ty (by decide +kernel), _, rfl, ?_⟩
    refine ⟨_, rfl, _, _, _, _, false, rfl, .ty _, .base (.bl b), kit_ty (by decide +kernel), _, rfl, ?_⟩
    refine ⟨_, rfl, rfl, _, rfl, ?_⟩
    refine ⟨_, rfl, rfl, _, rfl, ?_⟩
    refine ⟨_, rfl, _, _, _, _, true, rfl, .ty _, .base (.bl b), kit_ty (by decide +kernel), _, rfl, _, _, _, _, true, rfl, .ty _, .base (.bl b), kit_ty (by decide +kernel), rfl, _, rfl, ?_⟩
    refine ⟨_, rfl, _, _, _, _, true, rfl, .ty _, .base (.bl b), kit_ty (by decide +kernel), _, rfl, _, _, _, _, true, rfl, .ty _, .base (.bl b), kit_ty (by decide +kernel), rfl, _, rfl, ?_⟩
    refine ⟨_, rfl, _, _, _, _, false, rfl, .ty _, .base (.bl b), kit_ty (by decide +kernel), _, rfl, _, _, _, _, false, rfl, .ty _, .base (.bl b), kit_ty (by decide +kernel), rfl, _, rfl, ?_⟩
    refine ⟨_, rfl, _, rfl, rfl, ?_⟩
    rw [decide_eq_true rfl]
    exact q0
  | int i =>
    cases hx
    cases hy
    refine ⟨_, rfl, _, _, _, _, false, rfl, .ty _, .base (.int i), kit_ty (by decide +kernel), _, rfl, ?_⟩
    refine ⟨_, rfl, _, _, _, _, false, rfl, .ty _, .base (.int i), kit_ty (by decide +kernel), _, rfl, ?_⟩
    refine ⟨_, rfl, rfl, _, rfl, ?_⟩
    refine ⟨_, rfl, rfl, _, rfl, ?_⟩
    refine ⟨_, rfl, _, _, _, _, false, rfl, .ty _, .base (.int i), kit_ty (by decide +kernel), _, rfl, _, _, _, _, false, rfl, .ty _, .base (.int i), kit_ty (by decide +kernel), rfl, _, rfl, ?_⟩
    refine ⟨_, rfl, _, _, _, _, true, rfl, .ty _, .base (.int i), kit_ty (by decide +kernel), _, rfl, _, _, _, _, true, rfl, .ty _, .base (.int i), kit_ty (by decide +kernel), rfl, _, rfl, ?_⟩
    refine ⟨_, rfl, _, _, _, _, false, rfl, .ty _, .base (.int i), kit_ty (by decide +kernel), _, rfl, _, _, _, _, false, rfl, .ty _, .base (.int i), kit_ty (by decide +kernel), rfl, _, rfl, ?_⟩
    refine ⟨_, rfl, _, rfl, rfl, ?_⟩
    rw [decide_eq_true rfl]
    exact q0
  | str z =>
    cases hx
    cases hy
    refine ⟨_, rfl, _, _, _, _, false, rfl, .ty _, .base (.str z), kit_ty (by decide +kernel), _, rfl, ?_⟩
    refine ⟨_, rfl, _, _, _, _, false, rfl, .ty _, .base (.str z), kit_ty (by decide +kernel), _, rfl, ?_⟩
    refine ⟨_, rfl, rfl, _, rfl, ?_⟩
    refine ⟨_, rfl, rfl, _, rfl, ?_⟩
    refine ⟨_, rfl, _, _, _, _, false, rfl, .ty _, .base (.str z), kit_ty (by decide +kernel), _, rfl, _, _, _, _, false, rfl, .ty _, .base (.str z), kit_ty (by decide +kernel), rfl, _, rfl, ?_⟩
    refine ⟨_, rfl, _, _, _, _, false, rfl, .ty _, .base (.str z), kit_ty (by decide +kernel), _, rfl, _, _, _, _, false, rfl, .ty _, .base (.str z), kit_ty (by decide +kernel), rfl, _, rfl, ?_⟩
    refine ⟨_, rfl, _, _, _, _, true, rfl, .ty _, .base (.str z), kit_ty (by decide +kernel), _, rfl, _, _, _, _, true, rfl, .ty _, .base (.str z), kit_ty (by decide +kernel), rfl, _, rfl, ?_⟩
    refine ⟨_, rfl, _, rfl, rfl, ?_⟩
    rw [decide_eq_true rfl]
    exact q0
  | list ds =>
    cases hx with | lst sx ax => ?_
    cases hy with | lst sy ay => ?_
    rename_i a xs b ys
    have lx := DpAll.length ax
    have ly := DpAll.length ay
    cases n with
    | zero => exact hs.elim
    | succ m =>
    unfold Sm at hs
    refine ⟨_, rfl, _, _, _, _, true, rfl, .ty _, SqL.ty sy, kit_ty (by decide +kernel), _, rfl, ?_⟩
    
    refine ⟨_, rfl, _, _, _, _, true, rfl, .ty _, SqL.ty sx, kit_ty (by decide +kernel), _, rfl, _, _, _, _, true, rfl, .ty _, SqL.ty sy, kit_ty (by decide +kernel), rfl, _, rfl, ?_⟩
    refine ⟨_, rfl, _, _, _, _, false, rfl, .ty _, SqL.ty sx, kit_ty (by decide +kernel), _, rfl, _, _, _, _, false, rfl, .ty _, SqL.ty sy, kit_ty (by decide +kernel), rfl, _, rfl, ?_⟩
    refine ⟨_, rfl, _, _, rfl, .inl sx, _, rfl, _, _, rfl, .inl sy, rfl, _, rfl, ite2 (fun _ => ?_) (fun ne => absurd (by rw [lx, ly]; exact decide_eq_true rfl) ne)⟩
    refine ⟨_, rfl, _, rfl, a, b, xs, ys, rfl, .inl ⟨sx, sy, fun Dd hD => ?_⟩⟩
    refine lcz (n := min xs.length ys.length) (walk_zip rfl) (by decide) (fun i H2 => H2 Dd = some (.lst ((List.replicate i true).map V.bl)) ∧ Same H H2) ?_ ?_ ?_ ?_
    · exact ⟨upd_same, same_new hD⟩
    · rintro i H2 _ ⟨_, s2⟩
      exact ⟨s2.seq sx, s2.seq sy⟩
    · rintro i x y T H2 hi e1 e2 ⟨hA, s2⟩ hT
      obtain ⟨d1, g1, h1⟩ := DpAll.get ax e1
      obtain ⟨d2, g2, h2⟩ := DpAll.get ay e2
      have e := Option.some.inj (g1.symm.trans g2)
      subst e
      have s3 : Same H (upd H2 T (.tup [x, y])) := s2.trans (same_new hT)
      refine ⟨_, rfl, _, rfl, _, _, d1, rfl, Dp.same s3 _ h1, Dp.same s3 _ h2, hs.2 d1 (List.mem_of_getElem? g1), fun H4 s4 => ?_⟩
      have hA4 := s4 _ _ (same_new hT _ _ hA)
      refine ⟨_, hA4, ?_, ?_, ?_⟩
      · rw [List.length_map, List.length_replicate]
        exact Nat.lt_of_le_of_lt (show i ≤ 1000 by omega) (by decide)
      · rw [upd_same, rep_snoc]
      · intro b o hb
        rw [upd_ne (ne_of_none hb hD)]
        exact s4 _ _ (s3 _ _ hb)
    · rintro H2 ⟨hA, s2⟩
      refine ⟨Dd, _, rfl, SqL.of hA, ?_⟩
      rw [all_true]
      exact q H2 s2
  | tuple ds =>
    cases hx with | tup sx ax => ?_
    cases hy with | tup sy ay => ?_
    rename_i a xs b ys
    have lx := DpAll.length ax
    have ly := DpAll.length ay
    cases n with
    | zero => exact hs.elim
    | succ m =>
    unfold Sm at hs
    refine ⟨_, rfl, _, _, _, _, false, rfl, .ty _, SqT.ty sy, kit_ty (by decide +kernel), _, rfl, ?_⟩
    refine ⟨_, rfl, _, _, _, _, true, rfl, .ty _, SqT.ty sy, kit_ty (by decide +kernel), _, rfl, ?_⟩
    refine ⟨_, rfl, _, _, _, _, false, rfl, .ty _, SqT.ty sx, kit_ty (by decide +kernel), _, rfl, _, _, _, _, false, rfl, .ty _, SqT.ty sy, kit_ty (by decide +kernel), rfl, _, rfl, ?_⟩
    refine ⟨_, rfl, _, _, _, _, true, rfl, .ty _, SqT.ty sx, kit_ty (by decide +kernel), _, rfl, _, _, _, _, true, rfl, .ty _, SqT.ty sy, kit_ty (by decide +kernel), rfl, _, rfl, ?_⟩
    refine ⟨_, rfl, _, _, rfl, .inr sx, _, rfl, _, _, rfl, .inr sy, rfl, _, rfl, ite2 (fun _ => ?_) (fun ne => absurd (by rw [lx, ly]; exact decide_eq_true rfl) ne)⟩
    refine ⟨_, rfl, _, rfl, a, b, xs, ys, rfl, .inr ⟨sx, sy, fun Dd hD => ?_⟩⟩
    refine lcz (n := min xs.length ys.length) (walk_zipT rfl) (by decide) (fun i H2 => H2 Dd = some (.lst ((List.replicate i true).map V.bl)) ∧ Same H H2) ?_ ?_ ?_ ?_
    · exact ⟨upd_same, same_new hD⟩
    · rintro i H2 _ ⟨_, s2⟩
      exact ⟨(tp_same s2).sq sx, (tp_same s2).sq sy⟩
    · rintro i x y T H2 hi e1 e2 ⟨hA, s2⟩ hT
      obtain ⟨d1, g1, h1⟩ := DpAll.get ax e1
      obtain ⟨d2, g2, h2⟩ := DpAll.get ay e2
      have e := Option.some.inj (g1.symm.trans g2)
      subst e
      have s3 : Same H (upd H2 T (.tup [x, y])) := s2.trans (same_new hT)
      refine ⟨_, rfl, _, rfl, _, _, d1, rfl, Dp.same s3 _ h1, Dp.same s3 _ h2, hs.2 d1 (List.mem_of_getElem? g1), fun H4 s4 => ?_⟩
      have hA4 := s4 _ _ (same_new hT _ _ hA)
      refine ⟨_, hA4, ?_, ?_, ?_⟩
      · rw [List.length_map, List.length_replicate]
        exact Nat.lt_of_le_of_lt (show i ≤ 1000 by omega) (by decide)
      · rw [upd_same, rep_snoc]
      · intro b o hb
        rw [upd_ne (ne_of_none hb hD)]
        exact s4 _ _ (s3 _ _ hb)
    · rintro H2 ⟨hA, s2⟩
      refine ⟨Dd, _, rfl, SqL.of hA, ?_⟩
      rw [all_true]
      exact q H2 s2
  | dict ds => cases hx
theorem ok_same (D : Df K mg "_law_same" s__law_same ["_law_found", "_law_due"]) (bi : Bi mg) : ∀ n : Nat, Cal P w K mg base n "_law_same" ["_law_found", "_law_due"] (spSame K n)
  | 0 => D.no fun vs H Q E h => h.elim
  | n + 1 => ok_same1 D bi (ok_same D bi n)
end
end SW

set_option Elab.async false
set_option linter.all false
set_option maxRecDepth 100000
set_option maxHeartbeats 4000000
namespace SW
open PySem PySem.Spec PyProof.Rows L2
section
variable {P : Program} {w : World} {K : PySem.W.Frag} {mg : Str → Option Value} {base : Heap}
/-! ### _count -/
def spCnt (K : PySem.W.Frag) (n : Nat) : Sp := fun vs H Q _ => ∃ v t u L, vs = [v, .ref u] ∧ WV K H v t ∧ t.Ok abcABC ∧ t.dep ≤ n ∧ n ≤ 100 ∧ SqT K H u (L.map V.str) ∧ ∀ H', Same H H' → Q (toV (t.cnt L)) H'
theorem sc__count : FnScope ["word", "letters", "kind", "counts", "count", "part"] ["word", "letters"] (defScope s__count) := ⟨rfl, rfl, rfl, by decide +kernel, rfl, by decide +kernel, by decide +kernel⟩
theorem ok_cnt1 {n : Nat} (D : Df K mg "_count" s__count ["word", "letters"]) (bi : Bi mg) (c_count : Cal P w K mg base n "_count" ["word", "letters"] (spCnt K n)) : Cal P w K mg base (n + 1) "_count" ["word", "letters"] (spCnt K (n + 1)) := by
  refine D.ok sc__count (fun vs H Q E h => ?_) (fun f cdv A outer s H vs Q E hr h => ?_)
  · obtain ⟨v, t, u, L, rfl, _⟩ := h
    rfl
  obtain ⟨v, t, u, L, rfl, hv, ho, hd, hn, hu, q⟩ := h
  refine ⟨_, (pss_cons (ps_set (i := 2) sc__count.nd rfl (.inl rfl) (pe_ix ix_tup (pv 0) pe_int (fun _ _ => rfl)))
      (pss_cons (ps_if (pt_cmpR op_eq (pv 2) pe_str (nomark _)) (pss_one (ps_ret (pe_ifExp (pt_cmpR op_in_seq (pe_ix ix_tup (pv 0) pe_int (fun _ _ => rfl)) (pv 1) (by rfl)) pe_int pe_int))) pss_nil)
      (pss_cons (ps_if (pt_cmpR op_eq (pv 2) pe_str (nomark _)) (pss_cons (ps_setLc (i := 3) (own := [("part", 5)]) (g := gName 5) (tt := tYes) rfl sc__count.nd rfl rfl (sw_true rfl rfl rfl (by decide +kernel)) (pi_tup (pe_ix ix_tup (pv 0) pe_int (fun _ _ => rfl))) (blkOk_by (N := ["word", "letters", "kind", "counts", "count", "part"]) (sc := defScope s__count) (by decide +kernel)) (fun _ _ _ _ _ => (pg_name (i := 5) sc__count.nd rfl (.inl rfl))) (fun _ _ _ _ _ => pts_nil) (fun _ _ _ _ _ => (pe_own c_count hr (by omega) (by rfl) (pa_cons (pv 5) (pa_cons (pv 1) pa_nil)))))
      (pss_one (ps_ret (pe_ifExp (pt_cmpR op_in_seq pe_non (pv 3) (by rfl)) pe_non (pe_callB (cr_sum rfl) (by rfl) bi.sum (by decide +kernel) (pa_cons (pv 3) pa_nil)))))) pss_nil)
      (pss_cons (ps_if (PW.pt (pw_and (pt_cmpR op_eq (pv 2) pe_str (nomark _)) (pw_and1 (pt_cmpR op_gt (pe_ix ix_tup (pv 0) pe_int (fun _ _ => rfl)) pe_int (nomark _))))) (pss_cons (ps_set (i := 4) sc__count.nd rfl (.inl rfl) (pe_own c_count hr (by omega) (by rfl) (pa_cons (pe_ix ix_tup (pv 0) pe_int (fun _ _ => rfl)) (pa_cons (pv 1) pa_nil))))
      (pss_one (ps_ret (pe_ifExp (pt_cmpR op_isN (pv 4) pe_non (nomark _)) pe_non (pe_op op_mulW (pv 4) (pe_ix ix_tup (pv 0) pe_int (fun _ _ => rfl))))))) pss_nil)
      (pss_cons (ps_if (pt_cmpR op_in_seq (pv 2) (pe_tup (pa_cons pe_str (pa_cons pe_str pa_nil))) (by rfl)) (pss_one (ps_ret (pe_ifExp (pt_cmpR op_eq (pe_own c_count hr (by omega) (by rfl) (pa_cons (pe_ix ix_tup (pv 0) pe_int (fun _ _ => rfl)) (pa_cons (pv 1) pa_nil))) pe_int (nomark _)) pe_int pe_non))) pss_nil)
      (pss_one (ps_ret pe_int))))))), ?_⟩
  have q0 := q H (Same.refl H)
  have at_ := hv.at
  cases at_ with
  | emp e s =>
    cases e
    refine ⟨_, rfl, _, _, _, _, rfl, rfl, s, rfl, ?_⟩
    refine ⟨_, rfl, rfl, eq_no (by decide +kernel) ?_⟩
    refine ⟨_, rfl, rfl, eq_no (by decide +kernel) ?_⟩
    refine ⟨_, rfl, rfl, eq_no (by decide +kernel) ?_⟩
    refine ⟨_, rfl, (by show 2 ≤ sizeLine; decide), fun p hp => ?_⟩
    refine ⟨p, _, rfl, .inr (SqT.of upd_same), rfl, rfl, in_no ["right", "left"] (by decide +kernel) ?_⟩
    have e : W.cnt L .emp = some 0 := by unfold W.cnt; rfl
    rw [e] at q
    exact q _ (same_new hp)
  | nam e s =>
    unfold W.Ok at ho
    exact ho.elim
  | @ltr a c e s =>
    cases e
    refine ⟨_, rfl, _, _, _, _, rfl, rfl, s, rfl, ?_⟩
    refine ⟨_, rfl, rfl, eq_yes rfl ?_⟩
    refine ⟨_, rfl, _, _, _, _, rfl, rfl, s, rfl, _, rfl, u, _, rfl, .inr hu, rfl, flat_strs L, ?_⟩
    have e : W.cnt L (.ltr c) = some (if c ∈ L then 1 else 0) := by unfold W.cnt; rfl
    rw [e] at q0
    by_cases hc : c ∈ L
    · refine in_yes L hc ?_
      rw [if_pos hc] at q0
      exact q0
    · refine in_no L hc ?_
      rw [if_neg hc] at q0
      exact q0
  | @join a b xs ws e s s2 hw =>
    cases e
    unfold W.Ok at ho
    unfold W.dep at hd
    have hl := hw.length
    refine ⟨_, rfl, _, _, _, _, rfl, rfl, s, rfl, ?_⟩
    refine ⟨_, rfl, rfl, eq_no (by decide +kernel) ?_⟩
    refine ⟨_, rfl, rfl, eq_yes rfl ?_⟩
    refine ⟨_, rfl, _, _, _, _, rfl, rfl, s, rfl, b, rfl, ⟨xs, s2⟩, fun Dd hD => ?_⟩
    refine lct (xs := xs) (fun i H2 => H2 Dd = some (.lst (((ws.take i).map (W.cnt L)).map toV)) ∧ Same H H2) ?_ ?_ ?_ ?_
    · exact ⟨upd_same, same_new hD⟩
    · rintro i H2 _ ⟨_, k2⟩
      exact (tp_same k2).sq s2
    · rintro i x H2 hx ⟨hA, k2⟩
      obtain ⟨t1, e1, h1⟩ := hw.get hx
      have m1 : t1 ∈ ws := List.mem_of_getElem? e1
      have d1 := W.deps_mem m1
      refine ⟨_, rfl, _, rfl, _, t1, u, L, rfl, WV.tp (tp_same k2) _ h1, W.oks_mem m1 ho.2, by omega, by omega, (tp_same k2).sq hu, fun H4 k4 => ?_⟩
      refine ⟨_, k4 _ _ hA, ?_, ?_, ?_⟩
      · rw [List.length_map, List.length_map, List.length_take]
        exact Nat.lt_of_le_of_lt (show _ ≤ 1000 by omega) (by decide)
      · rw [upd_same, List.take_add_one, e1]
        show _ = some (HO.lst (((ws.take i ++ [t1]).map (W.cnt L)).map toV))
        rw [List.map_append, List.map_append]
        rfl
      · intro b' o hb
        rw [upd_ne (ne_of_none hb hD)]
        exact k4 _ _ (k2 _ _ hb)
    · rintro H2 ⟨hA, k2⟩
      rw [hl, List.take_length] at hA
      refine ⟨_, rfl, Dd, _, rfl, .inl (SqL.of hA), rfl, flat_toV _, ?_⟩
      rw [if_neg (by decide), inV_non]
      have e : W.cnt L (.join ws) = W.cnts L ws := by unfold W.cnt; rfl
      rw [e] at q
      by_cases hm : none ∈ ws.map (W.cnt L)
      · rw [decide_eq_true hm]
        refine ⟨true, rfl, ?_⟩
        have q1 := q H2 k2
        rw [W.cnts_none hm] at q1
        exact q1
      · rw [decide_eq_false hm]
        refine ⟨false, rfl, ?_⟩
        have q1 := q H2 k2
        rw [W.cnts_some hm] at q1
        rw [toV_ints hm] at hA
        refine ⟨_, rfl, Dd, _, rfl, SqL.of hA, ?_⟩
        rw [List.map_map]
        exact q1
  | @times a x t n' e s hx =>
    cases e
    unfold W.Ok at ho
    unfold W.dep at hd
    refine ⟨_, rfl, _, _, _, _, rfl, rfl, s, rfl, ?_⟩
    refine ⟨_, rfl, rfl, eq_no (by decide +kernel) ?_⟩
    refine ⟨_, rfl, rfl, eq_no (by decide +kernel) ?_⟩
    refine ⟨_, rfl, rfl, eq_yes rfl ?_⟩
    refine ⟨_, rfl, _, _, _, _, rfl, rfl, s, rfl, _, _, rfl, rfl, _, rfl, ?_⟩
    have e : W.cnt L (.times t n') = if 0 < n' then (t.cnt L).map (· * n') else some 0 := cnt_times
    refine ite2 (fun hc => ?_) (fun hc => ?_)
    · have hc' : n' > 0 := of_decide_eq_true hc
      rw [e, if_pos hc'] at q
      refine ⟨_, rfl, _, _, _, _, rfl, rfl, s, rfl, _, rfl, _, t, u, L, rfl, hx, ho.2.2, by omega, by omega, hu, fun H2 k2 => ?_⟩
      refine ⟨_, rfl, rfl, ?_⟩
      cases g : t.cnt L with
      | none =>
        rw [g] at q
        exact ⟨true, rfl, q H2 k2⟩
      | some m =>
        rw [g] at q
        refine ⟨false, rfl, ?_⟩
        have hb := W.cnt_abs ho.2.2 g
        have hn' : n'.natAbs < 2 ^ 100 := by
          have : (n'.natAbs : Int) ≤ 1000000000000000000000000000000 := by omega
          have : n'.natAbs ≤ 1000000000000000000000000000000 := by omega
          exact Nat.lt_of_le_of_lt this (by decide)
        refine ⟨_, rfl, _, rfl, _, _, _, _, rfl, rfl, (tp_same k2).sq s, rfl, _, _, rfl, rfl, wide_mul hb hn' (by have := t.dep_pos; omega) (by decide) (by omega), ?_⟩
        exact q H2 k2
    · have hc' : ¬ n' > 0 := of_decide_eq_false (Bool.eq_false_iff.mpr hc)
      rw [e, if_neg hc'] at q
      refine ⟨_, rfl, (by show 2 ≤ sizeLine; decide), fun p hp => ?_⟩
      refine ⟨p, _, rfl, .inr (SqT.of upd_same), rfl, rfl, in_no ["right", "left"] (by decide +kernel) ?_⟩
      exact q _ (same_new hp)
  | @right a x t e s hx =>
    cases e
    unfold W.Ok at ho
    unfold W.dep at hd
    refine ⟨_, rfl, _, _, _, _, rfl, rfl, s, rfl, ?_⟩
    refine ⟨_, rfl, rfl, eq_no (by decide +kernel) ?_⟩
    refine ⟨_, rfl, rfl, eq_no (by decide +kernel) ?_⟩
    refine ⟨_, rfl, rfl, eq_no (by decide +kernel) ?_⟩
    refine ⟨_, rfl, (by show 2 ≤ sizeLine; decide), fun p hp => ?_⟩
    refine ⟨p, _, rfl, .inr (SqT.of upd_same), rfl, rfl, in_yes ["right", "left"] (by decide +kernel) ?_⟩
    have k1 : Same H (upd H p (.tup [.str "right", .str "left"])) := same_new hp
    have e : W.cnt L (.right t) = if t.cnt L = some 0 then some 0 else none := cnt_right
    rw [e] at q
    refine ⟨_, rfl, _, _, _, _, rfl, rfl, (tp_same k1).sq s, rfl, _, rfl, _, t, u, L, rfl, WV.tp (tp_same k1) _ hx, ho, by omega, by omega, (tp_same k1).sq hu, fun H2 k2 => ?_⟩
    cases g : t.cnt L with
    | none =>
      rw [g, if_neg (by intro h; cases h)] at q
      exact ⟨rfl, false, rfl, q H2 (k1.trans k2)⟩
    | some m =>
      rw [g] at q
      refine ⟨rfl, _, rfl, ite2 (fun hc => ?_) (fun hc => ?_)⟩
      · have hc' : V.int m = V.int 0 := of_decide_eq_true hc
        cases hc'
        rw [if_pos rfl] at q
        exact q H2 (k1.trans k2)
      · have hc' : m ≠ 0 := fun e => hc (by rw [e]; exact decide_eq_true rfl)
        rw [if_neg (by intro h; cases h; exact hc' rfl)] at q
        exact q H2 (k1.trans k2)
  | @left a x t e s hx =>
    cases e
    unfold W.Ok at ho
    unfold W.dep at hd
    refine ⟨_, rfl, _, _, _, _, rfl, rfl, s, rfl, ?_⟩
    refine ⟨_, rfl, rfl, eq_no (by decide +kernel) ?_⟩
    refine ⟨_, rfl, rfl, eq_no (by decide +kernel) ?_⟩
    refine ⟨_, rfl, rfl, eq_no (by decide +kernel) ?_⟩
    refine ⟨_, rfl, (by show 2 ≤ sizeLine; decide), fun p hp => ?_⟩
    refine ⟨p, _, rfl, .inr (SqT.of upd_same), rfl, rfl, in_yes ["right", "left"] (by decide +kernel) ?_⟩
    have k1 : Same H (upd H p (.tup [.str "right", .str "left"])) := same_new hp
    have e : W.cnt L (.left t) = if t.cnt L = some 0 then some 0 else none := cnt_left
    rw [e] at q
    refine ⟨_, rfl, _, _, _, _, rfl, rfl, (tp_same k1).sq s, rfl, _, rfl, _, t, u, L, rfl, WV.tp (tp_same k1) _ hx, ho, by omega, by omega, (tp_same k1).sq hu, fun H2 k2 => ?_⟩
    cases g : t.cnt L with
    | none =>
      rw [g, if_neg (by intro h; cases h)] at q
      exact ⟨rfl, false, rfl, q H2 (k1.trans k2)⟩
    | some m =>
      rw [g] at q
      refine ⟨rfl, _, rfl, ite2 (fun hc => ?_) (fun hc => ?_)⟩
      · have hc' : V.int m = V.int 0 := of_decide_eq_true hc
        cases hc'
        rw [if_pos rfl] at q
        exact q H2 (k1.trans k2)
      · have hc' : m ≠ 0 := fun e => hc (by rw [e]; exact decide_eq_true rfl)
        rw [if_neg (by intro h; cases h; exact hc' rfl)] at q
        exact q H2 (k1.trans k2)
theorem ok_cnt (D : Df K mg "_count" s__count ["word", "letters"]) (bi : Bi mg) : ∀ n : Nat, Cal P w K mg base n "_count" ["word", "letters"] (spCnt K n)
  | 0 => D.no fun vs H Q E h => by
    obtain ⟨v, t, u, L, _, _, _, h, _⟩ := h
    have := t.dep_pos
    omega
  | n + 1 => ok_cnt1 D bi (ok_cnt D bi n)
end
end SW

set_option Elab.async false
set_option linter.all false
set_option maxRecDepth 100000
set_option maxHeartbeats 4000000
namespace SW
open PySem PySem.Spec PyProof.Rows L2
section
variable {P : Program} {w : World} {K : PySem.W.Frag} {mg : Str → Option Value} {base : Heap}
/-! ### letter_count, length -/
def spLc (K : PySem.W.Frag) : Sp := fun vs H Q _ => ∃ v t c, vs = [v, .str c] ∧ WV K H v t ∧ t.Ok abcABC ∧ t.dep ≤ 12 ∧ ∀ H', Same H H' → Q (toV (t.cnt [c])) H'
theorem sc_letter_count : FnScope ["word", "letter"] ["word", "letter"] (defScope s_letter_count) := ⟨rfl, rfl, rfl, by decide +kernel, rfl, by decide +kernel, by decide +kernel⟩
theorem ok_lc (D : Df K mg "letter_count" s_letter_count ["word", "letter"]) (c_count : Cal P w K mg base 12 "_count" ["word", "letters"] (spCnt K 12)) : Cal P w K mg base 13 "letter_count" ["word", "letter"] (spLc K) := by
  refine D.ok sc_letter_count (fun vs H Q E h => ?_) (fun f cdv A outer s H vs Q E hr h => ?_)
  · obtain ⟨v, t, c, rfl, _⟩ := h
    rfl
  obtain ⟨v, t, c, rfl, hv, ho, hd, q⟩ := h
  refine ⟨_, (pss_one (ps_ret (pe_own c_count hr (by omega) (by rfl) (pa_cons (pv 0) (pa_cons (pe_tup (pa_cons (pv 1) pa_nil)) pa_nil))))), ?_⟩
  refine ⟨_, rfl, _, rfl, (by show 1 ≤ sizeLine; decide), fun p hp => ?_⟩
  exact ⟨v, t, p, [c], rfl, WV.tp (tp_new hp) _ hv, ho, hd, by decide, SqT.of upd_same, fun H' k => q H' ((same_new hp).trans k)⟩
def spLen (K : PySem.W.Frag) : Sp := fun vs H Q _ => ∃ v t, vs = [v] ∧ WV K H v t ∧ t.Ok abcABC ∧ t.dep ≤ 12 ∧ ∀ H', Same H H' → Q (toV (t.cnt abcABC)) H'
theorem sc_length : FnScope ["word"] ["word"] (defScope s_length) := ⟨rfl, rfl, rfl, by decide +kernel, rfl, by decide +kernel, by decide +kernel⟩
theorem ok_len {tk : Tok} {am : Addr} (D : Df K mg "length" s_length ["word"]) (c_count : Cal P w K mg base 12 "_count" ["word", "letters"] (spCnt K 12)) (mLETTERS : mg "LETTERS" = some (.str "abc" tk)) (mMARKED : mg "MARKED" = some (.ref am)) (hM : ∀ H, SqT K H am [.str "A", .str "B", .str "C"]) :
    Cal P w K mg base 13 "length" ["word"] (spLen K) := by
  refine D.ok sc_length (fun vs H Q E h => ?_) (fun f cdv A outer s H vs Q E hr h => ?_)
  · obtain ⟨v, t, rfl, _⟩ := h
    rfl
  obtain ⟨v, t, rfl, hv, ho, hd, q⟩ := h
  refine ⟨_, (pss_one (ps_ret (pe_own c_count hr (by omega) (by rfl) (pa_cons (pv 0) (pa_cons (pe_tup (pa_starS rfl (pe_glob (v := .str "abc") (by rfl) mLETTERS ⟨_, rfl⟩) (StX.pa_star (pe_glob (v := .ref am) (by rfl) mMARKED rfl) pa_nil))) pa_nil))))), ?_⟩
  refine ⟨_, rfl, "abc", rfl, (by decide +kernel), am, _, rfl, .inl (hM _), (by show 6 ≤ sizeLine; decide), fun p hp => ?_⟩
  have e : (signs "abc" ++ [V.str "A", .str "B", .str "C"]) = abcABC.map V.str := by decide +kernel
  exact ⟨v, t, p, abcABC, rfl, WV.tp (tp_new hp) _ hv, ho, hd, by decide, SqT.of (by rw [← e]; exact upd_same), fun H' k => q H' ((same_new hp).trans k)⟩
/-! ### _law_parts -/
def spParts (K : PySem.W.Frag) : Sp := fun vs H Q _ => ∃ v t, vs = [v] ∧ WV K H v t ∧ t.Ok abcABC ∧ ∀ p xs H', WVs K H' xs t.parts → H' p = some (.lst xs) → H p = none → Same H H' → Q (.ref p) H'
theorem sc__law_parts : FnScope ["_law_tree_here"] ["_law_tree_here"] (defScope s__law_parts) := ⟨rfl, rfl, rfl, by decide +kernel, rfl, by decide +kernel, by decide +kernel⟩
theorem ok_parts (D : Df K mg "_law_parts" s__law_parts ["_law_tree_here"]) (bi : Bi mg) : Cal P w K mg base 1 "_law_parts" ["_law_tree_here"] (spParts K) := by
  refine D.ok sc__law_parts (fun vs H Q E h => ?_) (fun f cdv A outer s H vs Q E hr h => ?_)
  · obtain ⟨v, t, rfl, _⟩ := h
    rfl
  obtain ⟨v, t, rfl, hv, ho, q⟩ := h
  refine ⟨_, (pss_cons (ps_if (pt_cmpR op_eq (pe_ix ix_tup (pv 0) pe_int (fun _ _ => rfl)) pe_str (nomark _)) (pss_one (ps_ret (pe_callTy call_list_of (by rfl) bi.list (by decide +kernel) (pa_cons (pe_ix ix_tup (pv 0) pe_int (fun _ _ => rfl)) pa_nil)))) pss_nil)
      (pss_one (ps_ret (pe_ifExp (PW.pt (pw_or (pt_cmpR op_eq (pe_ix ix_tup (pv 0) pe_int (fun _ _ => rfl)) pe_str (nomark _)) (pw_or (pt_cmpR op_eq (pe_ix ix_tup (pv 0) pe_int (fun _ _ => rfl)) pe_str (nomark _)) (pw_or1 (pt_cmpR op_eq (pe_ix ix_tup (pv 0) pe_int (fun _ _ => rfl)) pe_str (nomark _)))))) (pe_lst (pa_cons (pe_ix ix_tup (pv 0) pe_int (fun _ _ => rfl)) pa_nil)) (pe_lst pa_nil))))), ?_⟩
  have at_ := hv.at
  cases at_ with
  | emp e s =>
    cases e
    refine ⟨_, rfl, _, _, _, _, rfl, rfl, s, rfl, rfl, eq_no (by decide +kernel) ?_⟩
    refine ⟨_, rfl, _, _, _, _, rfl, rfl, s, rfl, rfl, eq_no (by decide +kernel) ?_⟩
    refine ⟨_, rfl, _, _, _, _, rfl, rfl, s, rfl, rfl, eq_no (by decide +kernel) ?_⟩
    refine ⟨_, rfl, _, _, _, _, rfl, rfl, s, rfl, rfl, eq_no (by decide +kernel) ?_⟩
    refine ⟨Nat.zero_le _, fun p hp => ?_⟩
    exact q p [] _ wvs_nil upd_same hp (same_new hp)
  | nam e s =>
    unfold W.Ok at ho
    exact ho.elim
  | @ltr a c e s =>
    cases e
    refine ⟨_, rfl, _, _, _, _, rfl, rfl, s, rfl, rfl, eq_no (by decide +kernel) ?_⟩
    refine ⟨_, rfl, _, _, _, _, rfl, rfl, s, rfl, rfl, eq_no (by decide +kernel) ?_⟩
    refine ⟨_, rfl, _, _, _, _, rfl, rfl, s, rfl, rfl, eq_no (by decide +kernel) ?_⟩
    refine ⟨_, rfl, _, _, _, _, rfl, rfl, s, rfl, rfl, eq_no (by decide +kernel) ?_⟩
    refine ⟨Nat.zero_le _, fun p hp => ?_⟩
    exact q p [] _ wvs_nil upd_same hp (same_new hp)
  | @join a b xs ws e s s2 hw =>
    cases e
    refine ⟨_, rfl, _, _, _, _, rfl, rfl, s, rfl, rfl, eq_yes rfl ?_⟩
    refine ⟨_, rfl, _, _, _, _, rfl, rfl, s, rfl, b, xs, rfl, .inr s2, fun p hp => ?_⟩
    exact q p xs _ (WVs.tp (tp_new hp) _ hw) upd_same hp (same_new hp)
  | @times a x t n' e s hx =>
    cases e
    refine ⟨_, rfl, _, _, _, _, rfl, rfl, s, rfl, rfl, eq_no (by decide +kernel) ?_⟩
    refine ⟨_, rfl, _, _, _, _, rfl, rfl, s, rfl, rfl, eq_yes rfl ?_⟩
    refine ⟨_, rfl, _, _, _, _, rfl, rfl, s, rfl, (by show 1 ≤ sizeLine; decide), fun p hp => ?_⟩
    exact q p [x] _ (wvs_cons (WV.tp (tp_new hp) _ hx) wvs_nil) upd_same hp (same_new hp)
  | @right a x t e s hx =>
    cases e
    refine ⟨_, rfl, _, _, _, _, rfl, rfl, s, rfl, rfl, eq_no (by decide +kernel) ?_⟩
    refine ⟨_, rfl, _, _, _, _, rfl, rfl, s, rfl, rfl, eq_no (by decide +kernel) ?_⟩
    refine ⟨_, rfl, _, _, _, _, rfl, rfl, s, rfl, rfl, eq_yes rfl ?_⟩
    refine ⟨_, rfl, _, _, _, _, rfl, rfl, s, rfl, (by show 1 ≤ sizeLine; decide), fun p hp => ?_⟩
    exact q p [x] _ (wvs_cons (WV.tp (tp_new hp) _ hx) wvs_nil) upd_same hp (same_new hp)
  | @left a x t e s hx =>
    cases e
    refine ⟨_, rfl, _, _, _, _, rfl, rfl, s, rfl, rfl, eq_no (by decide +kernel) ?_⟩
    refine ⟨_, rfl, _, _, _, _, rfl, rfl, s, rfl, rfl, eq_no (by decide +kernel) ?_⟩
    refine ⟨_, rfl, _, _, _, _, rfl, rfl, s, rfl, rfl, eq_no (by decide +kernel) ?_⟩
    refine ⟨_, rfl, _, _, _, _, rfl, rfl, s, rfl, rfl, eq_yes rfl ?_⟩
    refine ⟨_, rfl, _, _, _, _, rfl, rfl, s, rfl, (by show 1 ≤ sizeLine; decide), fun p hp => ?_⟩
    exact q p [x] _ (wvs_cons (WV.tp (tp_new hp) _ hx) wvs_nil) upd_same hp (same_new hp)
/-! ### _law_told -/
def spTold : Sp := fun vs H Q _ => ∃ (o : Option Int), vs = [.int (toL o)] ∧ (∀ m, o = some m → 0 ≤ m) ∧ Q (toV o) H
theorem sc__law_told : FnScope ["_law_count_here"] ["_law_count_here"] (defScope s__law_told) := ⟨rfl, rfl, rfl, by decide +kernel, rfl, by decide +kernel, by decide +kernel⟩
theorem ok_told (D : Df K mg "_law_told" s__law_told ["_law_count_here"]) : Cal P w K mg base 1 "_law_told" ["_law_count_here"] spTold := by
  refine D.ok sc__law_told (fun vs H Q E h => ?_) (fun f cdv A outer s H vs Q E hr h => ?_)
  · obtain ⟨o, rfl, _⟩ := h
    rfl
  obtain ⟨o, rfl, hm, q⟩ := h
  refine ⟨_, (pss_one (ps_ret (pe_ifExp (pt_cmpR op_lt (pv 0) pe_int (nomark _)) pe_non (pv 0)))), ?_⟩
  refine ⟨_, rfl, _, _, rfl, rfl, _, rfl, ite2 (fun hc => ?_) (fun hc => ?_)⟩
  · have hc' : toL o < 0 := of_decide_eq_true hc
    cases o with
    | none => exact q
    | some m =>
      have := hm m rfl
      have h : m < 0 := hc'
      omega
  · have hc' : ¬ toL o < 0 := of_decide_eq_false (Bool.eq_false_iff.mpr hc)
    cases o with
    | none => exact absurd (show (-1 : Int) < 0 by decide) hc'
    | some m => exact ⟨_, rfl, q⟩
end
end SW

set_option Elab.async false
set_option linter.all false
set_option maxRecDepth 100000
set_option maxHeartbeats 4000000
namespace SW
open PySem PySem.Spec PyProof.Rows L2
theorem int_eqv {a b : Int} : PyData.eqv (.list [.int a]) (.list [.int b]) = decide (a = b) := by
  simp only [PyData.eqv, PyData.eqvAll, Bool.and_true]
  rfl
theorem int_shaped {a : Int} : SeqAt.shaped (.list [.int a]) = true := by
  unfold SeqAt.shaped
  simp [PyData.canLay0, PyData.canLayAll0, PyData.depth, PyData.depthAll]
section
variable {P : Program} {w : World} {K : PySem.W.Frag} {mg : Str → Option Value} {base : Heap}
/-! ### _law_count -/
def spLCnt (K : PySem.W.Frag) (n : Nat) : Sp := fun vs H Q _ => ∃ v t u L, vs = [v, .ref u] ∧ WV K H v t ∧ t.Ok abcABC ∧ t.dep ≤ n ∧ n ≤ 100 ∧ SqL K H u (L.map V.str) ∧ ∀ H', Same H H' → Q (.int (toL (t.cnt L))) H'
theorem sc__law_count : FnScope ["_law_tree_here", "_law_letters", "_law_counts", "_law_part"] ["_law_tree_here", "_law_letters"] (defScope s__law_count) := ⟨rfl, rfl, rfl, by decide +kernel, rfl, by decide +kernel, by decide +kernel⟩
theorem ok_lcnt1 {n : Nat} (D : Df K mg "_law_count" s__law_count ["_law_tree_here", "_law_letters"]) (bi : Bi mg) (c_law_parts : Cal P w K mg base 1 "_law_parts" ["_law_tree_here"] (spParts K)) (c_law_count : Cal P w K mg base (n + 1) "_law_count" ["_law_tree_here", "_law_letters"] (spLCnt K n)) :
    Cal P w K mg base (n + 2) "_law_count" ["_law_tree_here", "_law_letters"] (spLCnt K (n + 1)) := by
  refine D.ok sc__law_count (fun vs H Q E h => ?_) (fun f cdv A outer s H vs Q E hr h => ?_)
  · obtain ⟨v, t, u, L, rfl, _⟩ := h
    rfl
  obtain ⟨v, t, u, L, rfl, hv, ho, hd, hn, hu, q⟩ := h
  refine ⟨_, (C8.pss_cut (ps_if (pt_cmpR op_eq (pe_ix ix_tup (pv 0) pe_int (fun _ _ => rfl)) pe_str (nomark _)) (pss_one (ps_ret (pe_callTy call_int1 (by rfl) bi.int (by decide +kernel) (pa_cons (pe_cmpR op_in_seq (pe_ix ix_tup (pv 0) pe_int (fun _ _ => rfl)) (pv 1) (by rfl)) pa_nil)))) pss_nil)
      (C8.pss_cut (ps_if (PW.pt (pw_and (pt_cmpR op_eq (pe_ix ix_tup (pv 0) pe_int (fun _ _ => rfl)) pe_str (nomark _)) (pw_and1 (pt_cmpR op_eq (pe_ix ix_tup (pv 0) pe_int (fun _ _ => rfl)) pe_int (nomark _))))) (pss_one (ps_ret pe_int)) pss_nil)
      (pss_cons (ps_setLc (i := 2) (own := [("_law_part", 3)]) (g := gName 3) (tt := tYes) rfl sc__law_count.nd rfl rfl (sw_true rfl rfl rfl (by decide +kernel)) (pi_list (pe_own c_law_parts hr (by omega) (by rfl) (pa_cons (pv 0) pa_nil))) (blkOk_by (N := ["_law_tree_here", "_law_letters", "_law_counts", "_law_part"]) (sc := defScope s__law_count) (by decide +kernel)) (fun _ _ _ _ _ => (pg_name (i := 3) sc__law_count.nd rfl (.inl rfl))) (fun _ _ _ _ _ => pts_nil) (fun _ _ _ _ _ => (pe_own c_law_count hr (by omega) (by rfl) (pa_cons (pv 3) (pa_cons (pv 1) pa_nil)))))
      (pss_cons (ps_if (pt_cmpR op_in_seq (pe_un un_neg pe_int) (pv 2) (by rfl)) (pss_one (ps_ret (pe_un un_neg pe_int))) pss_nil)
      (pss_cons (ps_if (PW.pt (pw_or (pt_cmpR op_eq (pe_ix ix_tup (pv 0) pe_int (fun _ _ => rfl)) pe_str (nomark _)) (pw_or1 (pt_cmpR op_eq (pe_ix ix_tup (pv 0) pe_int (fun _ _ => rfl)) pe_str (nomark _))))) (pss_one (ps_ret (pe_ifExp (pt_cmpR (op_eqD hr.units) (pv 2) (pe_lst (pa_cons pe_int pa_nil)) (nomark _)) pe_int (pe_un un_neg pe_int)))) pss_nil)
      (pss_one (ps_ret (pe_ifExp (pt_cmpR op_eq (pe_ix ix_tup (pv 0) pe_int (fun _ _ => rfl)) pe_str (nomark _)) (pe_op op_mulW (pe_ix ix_list (pv 2) pe_int (fun _ _ => rfl)) (pe_ix ix_tup (pv 0) pe_int (fun _ _ => rfl))) (pe_callB (cr_sum rfl) (by rfl) bi.sum (by decide +kernel) (pa_cons (pv 2) pa_nil)))))))))), ?_⟩
  have q0 := q H (Same.refl H)
  -- a letter
  refine ⟨fun σ' H' => σ' = [some v, some (.ref u), none, none] ∧ H' = H ∧ ∀ c, t ≠ .ltr c, ?_, ?_⟩
  · have at_ := hv.at
    cases at_ with
    | emp e s =>
      cases e
      exact ⟨_, rfl, _, _, _, _, rfl, rfl, s, rfl, rfl, eq_no (by decide +kernel) ⟨rfl, rfl, fun c e => by cases e⟩⟩
    | nam e s =>
      unfold W.Ok at ho
      exact ho.elim
    | @ltr a c e s =>
      cases e
      refine ⟨_, rfl, _, _, _, _, rfl, rfl, s, rfl, rfl, eq_yes rfl ?_⟩
      refine ⟨_, rfl, _, _, _, _, rfl, rfl, s, rfl, _, rfl, u, _, rfl, .inl hu, rfl, flat_strs L, .inr ⟨_, rfl, ?_⟩⟩
      rw [cnt_ltr] at q0
      rw [inV_str]
      by_cases hc : c ∈ L
      · rw [if_pos hc] at q0
        rw [decide_eq_true hc]
        exact q0
      · rw [if_neg hc] at q0
        rw [decide_eq_false hc]
        exact q0
    | join e s s2 hw =>
      cases e
      exact ⟨_, rfl, _, _, _, _, rfl, rfl, s, rfl, rfl, eq_no (by decide +kernel) ⟨rfl, rfl, fun c e => by cases e⟩⟩
    | times e s hx =>
      cases e
      exact ⟨_, rfl, _, _, _, _, rfl, rfl, s, rfl, rfl, eq_no (by decide +kernel) ⟨rfl, rfl, fun c e => by cases e⟩⟩
    | right e s hx =>
      cases e
      exact ⟨_, rfl, _, _, _, _, rfl, rfl, s, rfl, rfl, eq_no (by decide +kernel) ⟨rfl, rfl, fun c e => by cases e⟩⟩
    | left e s hx =>
      cases e
      exact ⟨_, rfl, _, _, _, _, rfl, rfl, s, rfl, rfl, eq_no (by decide +kernel) ⟨rfl, rfl, fun c e => by cases e⟩⟩
  rintro σ' H' ⟨rfl, rfl, hl⟩
  -- no copies
  refine ⟨fun σ' H2 => σ' = [some v, some (.ref u), none, none] ∧ H2 = H' ∧ ∀ x n, t = .times x n → n ≠ 0, ?_, ?_⟩
  · have at_ := hv.at
    cases at_ with
    | emp e s =>
      cases e
      exact ⟨_, rfl, _, _, _, _, rfl, rfl, s, rfl, rfl, eq_no (by decide +kernel) ⟨rfl, rfl, fun x n e => by cases e⟩⟩
    | nam e s =>
      unfold W.Ok at ho
      exact ho.elim
    | @ltr a c e s => exact absurd rfl (hl c)
    | join e s s2 hw =>
      cases e
      exact ⟨_, rfl, _, _, _, _, rfl, rfl, s, rfl, rfl, eq_no (by decide +kernel) ⟨rfl, rfl, fun x n e => by cases e⟩⟩
    | @times a x t n' e s hx =>
      cases e
      refine ⟨_, rfl, _, _, _, _, rfl, rfl, s, rfl, rfl, eq_yes rfl ?_⟩
      refine ⟨_, rfl, _, _, _, _, rfl, rfl, s, rfl, rfl, _, rfl, ite2 (fun hc => ?_) (fun hc => ?_)⟩
      · have hc' : V.int n' = V.int 0 := of_decide_eq_true hc
        cases hc'
        rw [cnt_times, if_neg (by decide)] at q0
        exact q0
      · refine ⟨rfl, rfl, fun x n e z => ?_⟩
        cases e
        exact hc (by rw [z]; exact decide_eq_true rfl)
    | right e s hx =>
      cases e
      exact ⟨_, rfl, _, _, _, _, rfl, rfl, s, rfl, rfl, eq_no (by decide +kernel) ⟨rfl, rfl, fun x n e => by cases e⟩⟩
    | left e s hx =>
      cases e
      exact ⟨_, rfl, _, _, _, _, rfl, rfl, s, rfl, rfl, eq_no (by decide +kernel) ⟨rfl, rfl, fun x n e => by cases e⟩⟩
  rintro σ' H2 ⟨rfl, rfl, ht⟩
  -- the counts of the parts
  refine ⟨_, rfl, v, t, rfl, hv, ho, fun p xs H1 hw hp hpn k1 => ⟨p, rfl, ⟨xs, SqL.of hp⟩, fun Dd hD => ?_⟩⟩
  have hlen := hw.length
  have h3 := W.parts_len ho
  refine lcl (xs := xs) (fun i H3 => H3 Dd = some (.lst (((t.parts.take i).map fun x => toL (x.cnt L)).map V.int)) ∧ Same H1 H3) ?_ ?_ ?_ ?_
  · exact ⟨upd_same, same_new hD⟩
  · rintro i H3 _ ⟨_, k3⟩
    exact SqL.of (k3 _ _ hp)
  · rintro i x H3 hx ⟨hA, k3⟩
    obtain ⟨t1, e1, h1⟩ := hw.get hx
    have m1 := W.parts_mem ho (List.mem_of_getElem? e1)
    refine ⟨_, rfl, _, rfl, _, t1, u, L, rfl, WV.tp (tp_same k3) _ h1, m1.1, by omega, by omega, (k1.trans k3).seq hu, fun H4 k4 => ?_⟩
    refine ⟨_, k4 _ _ hA, ?_, ?_, ?_⟩
    · rw [List.length_map, List.length_map, List.length_take]
      exact Nat.lt_of_le_of_lt (show _ ≤ 1000 by omega) (by decide)
    · rw [upd_same, List.take_add_one, e1]
      show _ = some (HO.lst (((t.parts.take i ++ [t1]).map fun x => toL (x.cnt L)).map V.int))
      rw [List.map_append, List.map_append]
      rfl
    · intro b' o hb
      rw [upd_ne (ne_of_none hb hD)]
      exact k4 _ _ (k3 _ _ hb)
  · rintro H3 ⟨hA, k3⟩
    rw [hlen, List.take_length] at hA
    have hA' : H3 Dd = some (.lst ((t.cs L).map V.int)) := hA
    have kk := k1.trans k3
    have q3 := q H3 kk
    refine ⟨_, rfl, _, rfl, Dd, _, rfl, .inl (SqL.of hA'), rfl, flat_ints _, ?_⟩
    rw [if_neg (by decide), inV_int]
    by_cases hm : (-1 : Int) ∈ t.cs L
    · rw [decide_eq_true hm]
      rw [cs_neg ho hl ht hm] at q3
      exact ⟨true, rfl, _, rfl, q3⟩
    · rw [decide_eq_false hm]
      refine ⟨false, rfl, ?_⟩
      have at_ := (WV.tp (tp_same kk) _ hv).at
      cases at_ with
      | emp e s =>
        cases e
        refine ⟨_, rfl, _, _, _, _, rfl, rfl, s, rfl, rfl, eq_no (by decide +kernel) ?_⟩
        refine ⟨_, rfl, _, _, _, _, rfl, rfl, s, rfl, rfl, eq_no (by decide +kernel) ?_⟩
        refine ⟨_, rfl, _, _, _, _, rfl, rfl, s, rfl, rfl, eq_no (by decide +kernel) ?_⟩
        rw [cnt_emp] at q3
        exact ⟨_, rfl, Dd, _, rfl, SqL.of hA', q3⟩
      | nam e s =>
        unfold W.Ok at ho
        exact ho.elim
      | @ltr a c e s => exact absurd rfl (hl c)
      | join e s s2 hw =>
        cases e
        refine ⟨_, rfl, _, _, _, _, rfl, rfl, s, rfl, rfl, eq_no (by decide +kernel) ?_⟩
        refine ⟨_, rfl, _, _, _, _, rfl, rfl, s, rfl, rfl, eq_no (by decide +kernel) ?_⟩
        refine ⟨_, rfl, _, _, _, _, rfl, rfl, s, rfl, rfl, eq_no (by decide +kernel) ?_⟩
        rw [cs_join ho hm] at q3
        exact ⟨_, rfl, Dd, _, rfl, SqL.of hA', q3⟩
      | @times a x t n' e s hx =>
        cases e
        refine ⟨_, rfl, _, _, _, _, rfl, rfl, s, rfl, rfl, eq_no (by decide +kernel) ?_⟩
        refine ⟨_, rfl, _, _, _, _, rfl, rfl, s, rfl, rfl, eq_no (by decide +kernel) ?_⟩
        refine ⟨_, rfl, _, _, _, _, rfl, rfl, s, rfl, rfl, eq_yes rfl ?_⟩
        have hn' : n'.natAbs < 2 ^ 100 := by
          unfold W.Ok at ho
          have : n'.natAbs ≤ 1000000000000000000000000000000 := by omega
          exact Nat.lt_of_le_of_lt this (by decide)
        rw [cs_times ho (ht t n' rfl) hm] at q3
        unfold W.Ok at ho
        rw [W.dep] at hd
        refine ⟨_, rfl, _, _, _, _, rfl, rfl, SqL.of hA', rfl, _, rfl, _, _, _, _, rfl, rfl, s, rfl, _, _, rfl, rfl, wide_mul (toL_abs ho.2.2) hn' (by have := t.dep_pos; omega) (by decide) (by omega), ?_⟩
        exact q3
      | @right a x t e s hx =>
        cases e
        unfold W.Ok at ho
        refine ⟨_, rfl, _, _, _, _, rfl, rfl, s, rfl, rfl, eq_yes rfl ?_⟩
        refine ⟨_, rfl, (by show 1 ≤ sizeLine; decide), fun p2 hp2 => ?_⟩
        have hA2 : (upd H3 p2 (.lst [.int 0])) Dd = some (.lst [.int (toL (t.cnt L))]) := by
          rw [upd_ne (ne_of_none hA' hp2)]
          exact hA'
        refine ⟨.list [.int (toL (t.cnt L))], .list [.int 0], .lst (SqL.of hA2) (.cons (.int _) .nil), .lst (SqL.of upd_same) (.cons (.int _) .nil), int_shaped, int_shaped, ?_⟩
        rw [int_eqv]
        have q4 := q _ (kk.trans (same_new (o := .lst [.int 0]) hp2))
        rw [cnt_right, cs_end ho] at q4
        by_cases hz : toL (t.cnt L) = 0
        · rw [if_pos hz] at q4
          rw [decide_eq_true hz]
          exact ⟨true, rfl, q4⟩
        · rw [if_neg hz] at q4
          rw [decide_eq_false hz]
          exact ⟨false, rfl, _, rfl, q4⟩
      | @left a x t e s hx =>
        cases e
        unfold W.Ok at ho
        refine ⟨_, rfl, _, _, _, _, rfl, rfl, s, rfl, rfl, eq_no (by decide +kernel) ?_⟩
        refine ⟨_, rfl, _, _, _, _, rfl, rfl, s, rfl, rfl, eq_yes rfl ?_⟩
        refine ⟨_, rfl, (by show 1 ≤ sizeLine; decide), fun p2 hp2 => ?_⟩
        have hA2 : (upd H3 p2 (.lst [.int 0])) Dd = some (.lst [.int (toL (t.cnt L))]) := by
          rw [upd_ne (ne_of_none hA' hp2)]
          exact hA'
        refine ⟨.list [.int (toL (t.cnt L))], .list [.int 0], .lst (SqL.of hA2) (.cons (.int _) .nil), .lst (SqL.of upd_same) (.cons (.int _) .nil), int_shaped, int_shaped, ?_⟩
        rw [int_eqv]
        have q4 := q _ (kk.trans (same_new (o := .lst [.int 0]) hp2))
        rw [cnt_left, cs_end ho] at q4
        by_cases hz : toL (t.cnt L) = 0
        · rw [if_pos hz] at q4
          rw [decide_eq_true hz]
          exact ⟨true, rfl, q4⟩
        · rw [if_neg hz] at q4
          rw [decide_eq_false hz]
          exact ⟨false, rfl, _, rfl, q4⟩
theorem ok_lcnt (D : Df K mg "_law_count" s__law_count ["_law_tree_here", "_law_letters"]) (bi : Bi mg) (c_law_parts : Cal P w K mg base 1 "_law_parts" ["_law_tree_here"] (spParts K)) : ∀ n : Nat, Cal P w K mg base (n + 1) "_law_count" ["_law_tree_here", "_law_letters"] (spLCnt K n)
  | 0 => D.no fun vs H Q E h => by
    obtain ⟨v, t, u, L, _, _, _, h, _⟩ := h
    have := t.dep_pos
    omega
  | n + 1 => ok_lcnt1 D bi c_law_parts (ok_lcnt D bi c_law_parts n)
/-! ### _law_places -/
def spPlaces (K : PySem.W.Frag) : Sp := fun vs H Q _ => ∃ v t, vs = [v] ∧ WV K H v t ∧ t.Ok abcABC ∧ t.dep ≤ 12 ∧ ∀ H', Same H H' → Q (.int (toL (t.cnt abcABC))) H'
theorem sc__law_places : FnScope ["_law_tree_here"] ["_law_tree_here"] (defScope s__law_places) := ⟨rfl, rfl, rfl, by decide +kernel, rfl, by decide +kernel, by decide +kernel⟩
theorem ok_places (D : Df K mg "_law_places" s__law_places ["_law_tree_here"]) (c_law_count : Cal P w K mg base 13 "_law_count" ["_law_tree_here", "_law_letters"] (spLCnt K 12)) : Cal P w K mg base 14 "_law_places" ["_law_tree_here"] (spPlaces K) := by
  refine D.ok sc__law_places (fun vs H Q E h => ?_) (fun f cdv A outer s H vs Q E hr h => ?_)
  · obtain ⟨v, t, rfl, _⟩ := h
    rfl
  obtain ⟨v, t, rfl, hv, ho, hd, q⟩ := h
  refine ⟨_, (pss_one (ps_ret (pe_own c_law_count hr (by omega) (by rfl) (pa_cons (pv 0) (pa_cons (pe_lst (pa_cons pe_str (pa_cons pe_str (pa_cons pe_str (pa_cons pe_str (pa_cons pe_str (pa_cons pe_str pa_nil))))))) pa_nil))))), ?_⟩
  refine ⟨_, rfl, (by show 6 ≤ sizeLine; decide), fun p hp => ?_⟩
  exact ⟨v, t, p, abcABC, rfl, WV.tp (tp_new hp) _ hv, ho, hd, by decide, SqL.of upd_same, fun H' k => q H' ((same_new hp).trans k)⟩
end
end SW

set_option Elab.async false
set_option linter.all false
set_option maxRecDepth 100000
set_option maxHeartbeats 4000000
namespace SW
open PySem PySem.Spec PyProof.Rows L2
theorem ne_yes {a b : Str} {A B : Prop} (h : a ≠ b) (q : A) : ∃ k, V.bl (!decide (V.str a = V.str b)) = V.bl k ∧ if k = true then A else B :=
  ⟨true, by rw [decide_eq_false (fun e => h (V.str.inj e))]; rfl, q⟩
theorem ne_no {a b : Str} {A B : Prop} (h : a = b) (q : B) : ∃ k, V.bl (!decide (V.str a = V.str b)) = V.bl k ∧ if k = true then A else B :=
  ⟨false, by rw [h, decide_eq_true rfl]; rfl, q⟩
theorem up_abc : ∀ c ∈ abc, Txt.upper c ∈ abcABC := by
  intro c h
  simp only [abc, List.mem_cons, List.not_mem_nil, or_false] at h
  rcases h with rfl | rfl | rfl <;> decide +kernel
section
variable {P : Program} {w : World} {K : PySem.W.Frag} {mg : Str → Option Value} {base : Heap}
/-! ### _law_marks -/
def spMarks (K : PySem.W.Frag) (n : Nat) : Sp := fun vs H Q _ => ∃ r l v t, vs = [.ref r, v] ∧ Rng H r l ∧ WV K H v t ∧ t.Ok abc ∧ t.dep ≤ n ∧ ∀ v' t' H', WV K H' v' t' → t'.Ok abcABC → t'.dep ≤ n → Rng H' r l → Kp r H H' → Q v' H'
theorem sc__law_marks : FnScope ["_law_rng", "_law_tree_here", "_law_part"] ["_law_rng", "_law_tree_here"] (defScope s__law_marks) := ⟨rfl, rfl, rfl, by decide +kernel, rfl, by decide +kernel, by decide +kernel⟩
theorem ok_marks1 {n : Nat} (D : Df K mg "_law_marks" s__law_marks ["_law_rng", "_law_tree_here"]) (bi : Bi mg) (c_law_draw : Cal P w K mg base 1 "_law_draw" ["_law_rng", "_law_many"] spDraw) (c_law_marks : Cal P w K mg base (n + 1) "_law_marks" ["_law_rng", "_law_tree_here"] (spMarks K n)) :
    Cal P w K mg base (n + 2) "_law_marks" ["_law_rng", "_law_tree_here"] (spMarks K (n + 1)) := by
  refine D.ok sc__law_marks (fun vs H Q E h => ?_) (fun f cdv A outer s H vs Q E hr h => ?_)
  · obtain ⟨r, l, v, t, rfl, _⟩ := h
    rfl
  obtain ⟨r, l, v, t, rfl, g, hv, ho, hd, q⟩ := h
  refine ⟨_, (pss_cons (ps_if (pt_cmpR op_eq (pe_ix ix_tup (pv 1) pe_int (fun _ _ => rfl)) pe_str (nomark _)) (pss_one (ps_ret (pe_tup (pa_cons pe_str (pa_cons (pe_ifExp (pt_cmpR op_eq (pe_own c_law_draw hr (by omega) (by rfl) (pa_cons (pv 0) (pa_cons pe_int pa_nil))) pe_int (nomark _)) (pe_bm0 PySem.F.plainAttrs_str PySem.F.slot_str_upper PySem.F.type_str_upper mt_upper (pe_ix ix_tup (pv 1) pe_int (fun _ _ => rfl))) (pe_ix ix_tup (pv 1) pe_int (fun _ _ => rfl))) pa_nil))))) pss_nil)
      (pss_cons (ps_if (pt_cmpR op_eq (pe_ix ix_tup (pv 1) pe_int (fun _ _ => rfl)) pe_str (nomark _)) (pss_one (ps_ret (pe_tup (pa_cons pe_str (pa_cons (pe_callTy call_tuple_of (by rfl) bi.tuple (by decide +kernel) (pa_cons (pe_lc (own := [("_law_part", 2)]) (g := gName 2) (tt := tYes) rfl sc__law_marks.nd (pi_tup (pe_ix ix_tup (pv 1) pe_int (fun _ _ => rfl))) (blkOk_by (N := ["_law_rng", "_law_tree_here", "_law_part"]) (sc := defScope s__law_marks) (by decide +kernel)) (fun _ _ _ _ _ => (pg_name (i := 2) sc__law_marks.nd rfl (.inl rfl))) (fun _ _ _ _ _ => pts_nil) (fun _ _ _ _ _ => (pe_own c_law_marks hr (by omega) (by rfl) (pa_cons (pv 0) (pa_cons (pv 2) pa_nil))))) pa_nil)) pa_nil))))) pss_nil)
      (pss_cons (ps_if (pt_cmpR op_eq (pe_ix ix_tup (pv 1) pe_int (fun _ _ => rfl)) pe_str (nomark _)) (pss_one (ps_ret (pe_tup (pa_cons pe_str (pa_cons (pe_own c_law_marks hr (by omega) (by rfl) (pa_cons (pv 0) (pa_cons (pe_ix ix_tup (pv 1) pe_int (fun _ _ => rfl)) pa_nil))) (pa_cons (pe_ix ix_tup (pv 1) pe_int (fun _ _ => rfl)) pa_nil)))))) pss_nil)
      (pss_one (ps_ret (pe_ifExp (pt_cmpR op_ne (pe_ix ix_tup (pv 1) pe_int (fun _ _ => rfl)) pe_str (nomark _)) (pe_tup (pa_cons (pe_ix ix_tup (pv 1) pe_int (fun _ _ => rfl)) (pa_cons (pe_own c_law_marks hr (by omega) (by rfl) (pa_cons (pv 0) (pa_cons (pe_ix ix_tup (pv 1) pe_int (fun _ _ => rfl)) pa_nil))) pa_nil))) (pv 1))))))), ?_⟩
  obtain ⟨z, hz⟩ := g.lst
  have at_ := hv.at
  cases at_ with
  | emp e s =>
    cases e
    refine ⟨_, rfl, _, _, _, _, rfl, rfl, s, rfl, rfl, eq_no (by decide +kernel) ?_⟩
    refine ⟨_, rfl, _, _, _, _, rfl, rfl, s, rfl, rfl, eq_no (by decide +kernel) ?_⟩
    refine ⟨_, rfl, _, _, _, _, rfl, rfl, s, rfl, rfl, eq_no (by decide +kernel) ?_⟩
    refine ⟨_, rfl, _, _, _, _, rfl, rfl, s, rfl, rfl, ne_no rfl ?_⟩
    exact ⟨_, rfl, q _ .emp H hv (by unfold W.Ok; trivial) hd g (Kp.refl r H)⟩
  | nam e s =>
    unfold W.Ok at ho
    exact ho.elim
  | @ltr a c e s =>
    cases e
    unfold W.Ok at ho
    refine ⟨_, rfl, _, _, _, _, rfl, rfl, s, rfl, rfl, eq_yes rfl ?_⟩
    refine ⟨_, rfl, r, l, _, rfl, by decide, by decide, g, fun v1 H1 a1 b1 g1 k1 => ?_⟩
    have s1 := (k1.tp hz).sq s
    refine ⟨rfl, _, rfl, ite2 (fun _ => ?_) (fun _ => ?_)⟩
    · refine ⟨_, rfl, _, _, _, _, rfl, rfl, s1, rfl, rfl, _, rfl, rfl, len_abc c (abc_sub c ho), (by show 2 ≤ sizeLine; decide), fun p hp => ?_⟩
      exact q _ (.ltr (Txt.upper c)) _ (wv_ltr (SqT.of upd_same)) (by unfold W.Ok; exact up_abc c ho) (by rw [W.dep]; omega) (g1.new hp) (k1.trans (Kp.new hp))
    · refine ⟨_, rfl, _, _, _, _, rfl, rfl, s1, rfl, (by show 2 ≤ sizeLine; decide), fun p hp => ?_⟩
      exact q _ (.ltr c) _ (wv_ltr (SqT.of upd_same)) (by unfold W.Ok; exact abc_sub c ho) (by rw [W.dep]; omega) (g1.new hp) (k1.trans (Kp.new hp))
  | @join a b xs ws e s s2 hw =>
    cases e
    unfold W.Ok at ho
    rw [W.dep] at hd
    have hl := hw.length
    refine ⟨_, rfl, _, _, _, _, rfl, rfl, s, rfl, rfl, eq_no (by decide +kernel) ?_⟩
    refine ⟨_, rfl, _, _, _, _, rfl, rfl, s, rfl, rfl, eq_yes rfl ?_⟩
    refine ⟨_, rfl, _, _, _, _, rfl, rfl, s, rfl, b, rfl, ⟨xs, s2⟩, fun Dd hD => ?_⟩
    obtain ⟨zl, hzl⟩ := g.some_l
    have Dr : Dd ≠ r := (ne_of_none hz hD).symm
    have Dl : Dd ≠ l := (ne_of_none hzl hD).symm
    refine lct (xs := xs) (fun i H2 => ∃ ts acc, H2 Dd = some (.lst acc) ∧ WVs K H2 acc ts ∧ ts.length = i ∧ (∀ t ∈ ts, t.Ok abcABC ∧ t.dep ≤ n) ∧ Rng H2 r l ∧ Kp r H H2) ?_ ?_ ?_ ?_
    · exact ⟨[], [], upd_same, wvs_nil, rfl, fun t h => (List.not_mem_nil h).elim, g.new hD, Kp.new hD⟩
    · rintro i H2 _ ⟨ts, acc, _, _, _, _, _, k2⟩
      exact (k2.tp hz).sq s2
    · rintro i x H2 hx ⟨ts, acc, hA, hW, hlen, hall, g2, k2⟩
      obtain ⟨t1, e1, h1⟩ := hw.get hx
      have m1 : t1 ∈ ws := List.mem_of_getElem? e1
      have d1 := W.deps_mem m1
      have hi : i < xs.length := (List.getElem?_eq_some_iff.mp hx).1
      refine ⟨_, rfl, _, rfl, r, l, _, t1, rfl, g2, WV.tp (k2.tp hz) _ h1, W.oks_mem m1 ho.2, by omega, fun y t2 H4 hy ho2 hd2 g4 k4 => ?_⟩
      obtain ⟨z2, hz2⟩ := g2.lst
      have hA4 := k4 _ _ Dr hA
      have al := hW.length
      refine ⟨acc, hA4, Nat.lt_of_le_of_lt (show acc.length ≤ 1000 by omega) (by decide), ts ++ [t2], acc ++ [y], upd_same, ?_, by rw [List.length_append, hlen]; rfl, ?_, ?_, ?_⟩
      · exact WVs.tp (tp_set hA4) _ (WVs.app hy (WVs.tp (k4.tp hz2) _ hW))
      · intro t' ht'
        rcases List.mem_append.mp ht' with h | h
        · exact hall t' h
        · rw [List.mem_singleton.mp h]
          exact ⟨ho2, hd2⟩
      · exact g4.of (fun o h => by rw [upd_ne Dr.symm]; exact h) (fun o h => by rw [upd_ne Dl.symm]; exact h)
      · intro b' o n1 hb
        rw [upd_ne (ne_of_none hb hD)]
        exact k4 _ _ n1 (k2 _ _ n1 hb)
    · rintro H2 ⟨ts, acc, hA, hW, hlen, hall, g2, k2⟩
      refine ⟨Dd, acc, rfl, .inl ⟨SqL.of hA, fun p hp => ?_⟩⟩
      refine ⟨(by show 2 ≤ sizeLine; decide), fun p2 hp2 => ?_⟩
      have t1 : Tp H2 (upd H2 p (.tup acc)) := tp_new hp
      have t2 := tp_new (o := .tup [.str "join", .ref p]) hp2
      refine q _ (.join ts) _ (wv_join (SqT.of upd_same) (t2.sq (SqT.of upd_same)) (WVs.tp (t1.trans t2) _ hW)) ?_ ?_ ((g2.new hp).new hp2) (k2.trans ((Kp.new hp).trans (Kp.new hp2)))
      · unfold W.Ok
        exact ⟨by omega, W.oks_of fun t ht => (hall t ht).1⟩
      · rw [W.dep]
        have := W.deps_le (n := n) fun t ht => (hall t ht).2
        omega
  | @times a x t n' e s hx =>
    cases e
    unfold W.Ok at ho
    rw [W.dep] at hd
    refine ⟨_, rfl, _, _, _, _, rfl, rfl, s, rfl, rfl, eq_no (by decide +kernel) ?_⟩
    refine ⟨_, rfl, _, _, _, _, rfl, rfl, s, rfl, rfl, eq_no (by decide +kernel) ?_⟩
    refine ⟨_, rfl, _, _, _, _, rfl, rfl, s, rfl, rfl, eq_yes rfl ?_⟩
    refine ⟨_, rfl, _, rfl, _, _, _, _, rfl, rfl, s, rfl, r, l, _, t, rfl, g, hx, ho.2.2, by omega, fun y t2 H4 hy ho2 hd2 g4 k4 => ?_⟩
    refine ⟨_, rfl, _, _, _, _, rfl, rfl, (k4.tp hz).sq s, rfl, (by show 3 ≤ sizeLine; decide), fun p hp => ?_⟩
    exact q _ (.times t2 n') _ (wv_times (SqT.of upd_same) (WV.tp (tp_new hp) _ hy)) (by unfold W.Ok; exact ⟨ho.1, ho.2.1, ho2⟩) (by rw [W.dep]; omega) (g4.new hp) (k4.trans (Kp.new hp))
  | @right a x t e s hx =>
    cases e
    unfold W.Ok at ho
    rw [W.dep] at hd
    refine ⟨_, rfl, _, _, _, _, rfl, rfl, s, rfl, rfl, eq_no (by decide +kernel) ?_⟩
    refine ⟨_, rfl, _, _, _, _, rfl, rfl, s, rfl, rfl, eq_no (by decide +kernel) ?_⟩
    refine ⟨_, rfl, _, _, _, _, rfl, rfl, s, rfl, rfl, eq_no (by decide +kernel) ?_⟩
    refine ⟨_, rfl, _, _, _, _, rfl, rfl, s, rfl, rfl, ne_yes (by decide +kernel) ?_⟩
    refine ⟨_, rfl, _, _, _, _, rfl, rfl, s, rfl, _, rfl, _, rfl, _, _, _, _, rfl, rfl, s, rfl, r, l, _, t, rfl, g, hx, ho, by omega, fun y t2 H4 hy ho2 hd2 g4 k4 => ?_⟩
    refine ⟨(by show 2 ≤ sizeLine; decide), fun p hp => ?_⟩
    exact q _ (.right t2) _ (wv_right (SqT.of upd_same) (WV.tp (tp_new hp) _ hy)) (by unfold W.Ok; exact ho2) (by rw [W.dep]; omega) (g4.new hp) (k4.trans (Kp.new hp))
  | @left a x t e s hx =>
    cases e
    unfold W.Ok at ho
    rw [W.dep] at hd
    refine ⟨_, rfl, _, _, _, _, rfl, rfl, s, rfl, rfl, eq_no (by decide +kernel) ?_⟩
    refine ⟨_, rfl, _, _, _, _, rfl, rfl, s, rfl, rfl, eq_no (by decide +kernel) ?_⟩
    refine ⟨_, rfl, _, _, _, _, rfl, rfl, s, rfl, rfl, eq_no (by decide +kernel) ?_⟩
    refine ⟨_, rfl, _, _, _, _, rfl, rfl, s, rfl, rfl, ne_yes (by decide +kernel) ?_⟩
    refine ⟨_, rfl, _, _, _, _, rfl, rfl, s, rfl, _, rfl, _, rfl, _, _, _, _, rfl, rfl, s, rfl, r, l, _, t, rfl, g, hx, ho, by omega, fun y t2 H4 hy ho2 hd2 g4 k4 => ?_⟩
    refine ⟨(by show 2 ≤ sizeLine; decide), fun p hp => ?_⟩
    exact q _ (.left t2) _ (wv_left (SqT.of upd_same) (WV.tp (tp_new hp) _ hy)) (by unfold W.Ok; exact ho2) (by rw [W.dep]; omega) (g4.new hp) (k4.trans (Kp.new hp))
theorem ok_marks (D : Df K mg "_law_marks" s__law_marks ["_law_rng", "_law_tree_here"]) (bi : Bi mg) (c_law_draw : Cal P w K mg base 1 "_law_draw" ["_law_rng", "_law_many"] spDraw) : ∀ n : Nat, Cal P w K mg base (n + 1) "_law_marks" ["_law_rng", "_law_tree_here"] (spMarks K n)
  | 0 => D.no fun vs H Q E h => by
    obtain ⟨r, l, v, t, _, _, _, _, h, _⟩ := h
    have := t.dep_pos
    omega
  | n + 1 => ok_marks1 D bi c_law_draw (ok_marks D bi c_law_draw n)
/-! ### _law_word, _law_wide -/
def spWord (K : PySem.W.Frag) (n : Nat) : Sp := fun vs H Q _ => ∃ r l, vs = [.ref r] ∧ Rng H r l ∧ ∀ v t H', WV K H' v t → t.Ok abc → t.dep ≤ n → Rng H' r l → Kp r H H' → Q v H'
theorem sc__law_word : FnScope ["_law_rng", "_law_first"] ["_law_rng"] (defScope s__law_word) := ⟨rfl, rfl, rfl, by decide +kernel, rfl, by decide +kernel, by decide +kernel⟩
theorem ok_word (D : Df K mg "_law_word" s__law_word ["_law_rng"]) (bi : Bi mg) (c_law_draw : Cal P w K mg base 1 "_law_draw" ["_law_rng", "_law_many"] spDraw) (c_law_tree : Cal P w K mg base 5 "_law_tree" ["_law_rng", "_law_kit", "_law_deep"] (spTree K 3)) :
    Cal P w K mg base 6 "_law_word" ["_law_rng"] (spWord K 4) := by
  refine D.ok sc__law_word (fun vs H Q E h => ?_) (fun f cdv A outer s H vs Q E hr h => ?_)
  · obtain ⟨r, l, rfl, _⟩ := h
    rfl
  obtain ⟨r, l, rfl, g, q⟩ := h
  refine ⟨_, (pss_cons (ps_set (i := 1) sc__law_word.nd rfl (.inl rfl) (pe_own c_law_tree hr (by omega) (by rfl) (pa_cons (pv 0) (pa_cons (pe_lst (pa_cons pe_int (pa_cons pe_int pa_nil))) (pa_cons pe_int pa_nil)))))
      (pss_cons (ps_if (pt_cmpR op_eq (pe_own c_law_draw hr (by omega) (by rfl) (pa_cons (pv 0) (pa_cons pe_int pa_nil))) pe_int (nomark _)) (pss_one (ps_ret (pv 1))) pss_nil)
      (pss_one (ps_ret (pe_tup (pa_cons pe_str (pa_cons (pe_tup (pa_cons (pv 1) (pa_cons (pe_own c_law_tree hr (by omega) (by rfl) (pa_cons (pv 0) (pa_cons (pe_lst (pa_cons pe_int (pa_cons pe_int pa_nil))) (pa_cons pe_int pa_nil)))) pa_nil))) pa_nil))))))), ?_⟩
  refine ⟨_, rfl, (by show 2 ≤ sizeLine; decide), fun k hk => ?_⟩
  obtain ⟨z, hz⟩ := g.lst
  obtain ⟨zl, hzl⟩ := g.some_l
  refine ⟨r, l, k, 3, 1, _, rfl, rfl, by decide, g.new hk, upd_same, (ne_of_none hz hk).symm, (ne_of_none hzl hk).symm, fun v1 t1 a1 b1 H1 hv1 ho1 hd1 g1 hk1 k1 => ?_⟩
  have k1' : Kp r H H1 := Kp2.fresh hk k1
  refine ⟨_, rfl, r, l, _, rfl, by decide, by decide, g1, fun v2 H2 a2 b2 g2 k2 => ?_⟩
  obtain ⟨z1, hz1⟩ := g1.lst
  have hv2 := WV.tp (k2.tp hz1) _ hv1
  refine ⟨rfl, _, rfl, ite2 (fun _ => ?_) (fun _ => ?_)⟩
  · exact ⟨_, rfl, q _ _ _ hv2 ho1 (by omega) g2 (k1'.trans k2)⟩
  refine ⟨_, rfl, _, rfl, (by show 2 ≤ sizeLine; decide), fun k3 hk3 => ?_⟩
  obtain ⟨z2, hz2⟩ := g2.lst
  obtain ⟨zl2, hzl2⟩ := g2.some_l
  refine ⟨r, l, k3, 3, 1, _, rfl, rfl, by decide, g2.new hk3, upd_same, (ne_of_none hz2 hk3).symm, (ne_of_none hzl2 hk3).symm, fun v3 t3 a3 b3 H3 hv3 ho3 hd3 g3 hk3' k3' => ?_⟩
  have k4 : Kp r H2 H3 := Kp2.fresh hk3 k3'
  refine ⟨(by show 2 ≤ sizeLine; decide), fun p hp => ⟨(by show 2 ≤ sizeLine; decide), fun p2 hp2 => ?_⟩⟩
  have tt : Tp H3 (upd (upd H3 p (.tup [v1, v3])) p2 (.tup [.str "join", .ref p])) := (tp_new hp).trans (tp_new hp2)
  have hvA := WV.tp (k4.tp hz2) _ hv2
  refine q _ (.join [t1, t3]) _ (wv_join (SqT.of upd_same) ((tp_new hp2).sq (SqT.of upd_same)) (wvs_cons (WV.tp tt _ hvA) (wvs_cons (WV.tp tt _ hv3) wvs_nil))) ?_ ?_ ((g3.new hp).new hp2) ((k1'.trans k2).trans (k4.trans ((Kp.new hp).trans (Kp.new hp2))))
  · unfold W.Ok
    refine ⟨by show 2 ≤ 3; decide, W.oks_of fun t h => ?_⟩
    simp only [List.mem_cons, List.not_mem_nil, or_false] at h
    rcases h with rfl | rfl <;> assumption
  · rw [W.dep]
    have := W.deps_le (ws := [t1, t3]) (n := 3) fun t h => by
      simp only [List.mem_cons, List.not_mem_nil, or_false] at h
      rcases h with rfl | rfl <;> assumption
    omega
theorem sc__law_wide : FnScope ["_law_rng", "_law_tree_here"] ["_law_rng"] (defScope s__law_wide) := ⟨rfl, rfl, rfl, by decide +kernel, rfl, by decide +kernel, by decide +kernel⟩
theorem ok_wide (D : Df K mg "_law_wide" s__law_wide ["_law_rng"]) (bi : Bi mg) (c_law_draw : Cal P w K mg base 1 "_law_draw" ["_law_rng", "_law_many"] spDraw) (c_law_great : Cal P w K mg base 3 "_law_great" ["_law_rng"] spGreat) (c_law_word : Cal P w K mg base 6 "_law_word" ["_law_rng"] (spWord K 4)) :
    Cal P w K mg base 7 "_law_wide" ["_law_rng"] (spWord K 6) := by
  refine D.ok sc__law_wide (fun vs H Q E h => ?_) (fun f cdv A outer s H vs Q E hr h => ?_)
  · obtain ⟨r, l, rfl, _⟩ := h
    rfl
  obtain ⟨r, l, rfl, g, q⟩ := h
  refine ⟨_, (pss_cons (ps_set (i := 1) sc__law_wide.nd rfl (.inl rfl) (pe_own c_law_word hr (by omega) (by rfl) (pa_cons (pv 0) pa_nil)))
      (C8.pss_cut (ps_if (pt_cmpR op_eq (pe_own c_law_draw hr (by omega) (by rfl) (pa_cons (pv 0) (pa_cons pe_int pa_nil))) pe_int (nomark _)) (pss_one (ps_set (i := 1) sc__law_wide.nd rfl (.inl rfl) (pe_tup (pa_cons pe_str (pa_cons (pv 1) (pa_cons (pe_own c_law_great hr (by omega) (by rfl) (pa_cons (pv 0) pa_nil)) pa_nil)))))) pss_nil)
      (pss_one (ps_ret (pe_ifExp (pt_cmpR op_eq (pe_own c_law_draw hr (by omega) (by rfl) (pa_cons (pv 0) (pa_cons pe_int pa_nil))) pe_int (nomark _)) (pe_tup (pa_cons pe_str (pa_cons (pe_tup (pa_cons (pv 1) (pa_cons (pe_tup (pa_cons pe_str (pa_cons (pe_tup (pa_cons pe_str (pa_cons pe_str pa_nil))) (pa_cons (pe_own c_law_great hr (by omega) (by rfl) (pa_cons (pv 0) pa_nil)) pa_nil)))) pa_nil))) pa_nil))) (pv 1)))))), ?_⟩
  refine ⟨_, rfl, r, l, rfl, g, fun v1 t1 H1 hv1 ho1 hd1 g1 k1 => ?_⟩
  refine ⟨fun σ' H' => ∃ v t, σ' = [some (.ref r), some v] ∧ WV K H' v t ∧ t.Ok abc ∧ t.dep ≤ 5 ∧ Rng H' r l ∧ Kp r H H', ?_, ?_⟩
  · refine ⟨_, rfl, r, l, _, rfl, by decide, by decide, g1, fun v2 H2 a2 b2 g2 k2 => ?_⟩
    obtain ⟨z1, hz1⟩ := g1.lst
    have hv2 := WV.tp (k2.tp hz1) _ hv1
    refine ⟨rfl, _, rfl, ite2 (fun _ => ?_) (fun _ => ?_)⟩
    · refine ⟨_, rfl, _, rfl, r, l, rfl, g2, fun m H3 m1 m2 g3 k3 => ?_⟩
      refine ⟨(by show 3 ≤ sizeLine; decide), fun p hp => ?_⟩
      obtain ⟨z2, hz2⟩ := g2.lst
      exact ⟨_, .times t1 m, rfl, wv_times (SqT.of upd_same) (WV.tp ((k3.tp hz2).trans (tp_new hp)) _ hv2), by unfold W.Ok; exact ⟨by omega, m2, ho1⟩, by rw [W.dep]; omega, g3.new hp, (k1.trans k2).trans (k3.trans (Kp.new hp))⟩
    · exact ⟨_, t1, rfl, hv2, ho1, by omega, g2, k1.trans k2⟩
  rintro σ' H2 ⟨v, t, rfl, hv, ho, hd, g2, k2⟩
  refine ⟨_, rfl, r, l, _, rfl, by decide, by decide, g2, fun v3 H3 a3 b3 g3 k3 => ?_⟩
  obtain ⟨z2, hz2⟩ := g2.lst
  have hv3 := WV.tp (k3.tp hz2) _ hv
  refine ⟨rfl, _, rfl, ite2 (fun _ => ?_) (fun _ => ?_)⟩
  · refine ⟨_, rfl, (by show 2 ≤ sizeLine; decide), fun p1 hp1 => ?_⟩
    refine ⟨_, rfl, r, l, rfl, g3.new hp1, fun m H4 m1 m2 g4 k4 => ?_⟩
    refine ⟨(by show 3 ≤ sizeLine; decide), fun p2 hp2 => ⟨(by show 2 ≤ sizeLine; decide), fun p3 hp3 => ⟨(by show 2 ≤ sizeLine; decide), fun p4 hp4 => ?_⟩⟩⟩
    obtain ⟨z3, hz3⟩ := (g3.new (o := .tup [.str "letter", .str "b"]) hp1).lst
    have tA := k4.tp hz3
    have t2 := tp_new (o := .tup [.str "times", .ref p1, .int m]) hp2
    have t3 := tp_new (o := .tup [v, .ref p2]) hp3
    have t4 := tp_new (o := .tup [.str "join", .ref p3]) hp4
    have hb : WV K H4 (.ref p1) (.ltr "b") := wv_ltr (tA.sq (SqT.of upd_same))
    refine q _ (.join [t, .times (.ltr "b") m]) _ (wv_join (SqT.of upd_same) (t4.sq (SqT.of upd_same)) (wvs_cons (WV.tp ((tp_new hp1).trans (tA.trans (t2.trans (t3.trans t4)))) _ hv3) (wvs_cons (wv_times ((t3.trans t4).sq (SqT.of upd_same)) (WV.tp (t2.trans (t3.trans t4)) _ hb)) wvs_nil))) ?_ ?_ (((g4.new hp2).new hp3).new hp4) ((k2.trans k3).trans ((Kp.new hp1).trans (k4.trans ((Kp.new hp2).trans ((Kp.new hp3).trans (Kp.new hp4))))))
    · unfold W.Ok
      refine ⟨by show 2 ≤ 3; decide, W.oks_of fun x h => ?_⟩
      simp only [List.mem_cons, List.not_mem_nil, or_false] at h
      rcases h with rfl | rfl
      · exact ho
      · unfold W.Ok
        exact ⟨by omega, m2, by unfold W.Ok; decide⟩
    · rw [W.dep]
      have := W.deps_le (ws := [t, .times (.ltr "b") m]) (n := 5) fun x h => by
        simp only [List.mem_cons, List.not_mem_nil, or_false] at h
        rcases h with rfl | rfl
        · exact hd
        · rw [W.dep, W.dep]
          decide
      omega
  · exact ⟨_, rfl, q _ _ _ hv3 ho (by omega) g3 (k2.trans k3)⟩
end
end SW

set_option Elab.async false
set_option linter.all false
set_option maxRecDepth 100000
set_option maxHeartbeats 4000000
namespace SW
open PySem PySem.Spec PyProof.Rows L2
theorem low_emp : W.low .emp = .emp := by rw [W.low]
theorem low_ltr {c : Str} : W.low (.ltr c) = .ltr (Txt.lower c) := by rw [W.low]
theorem low_join {ws : List W} : W.low (.join ws) = .join (ws.map W.low) := by rw [W.low, lows_map]
theorem low_times {t : W} {n : Int} : W.low (.times t n) = .times t.low n := by rw [W.low]
theorem low_right {t : W} : W.low (.right t) = .right t.low := by rw [W.low]
theorem low_left {t : W} : W.low (.left t) = .left t.low := by rw [W.low]
theorem wvs_snoc {K : PySem.W.Frag} {H : Hp} {f : W → W} {ws : List W} {acc : List V} {i : Nat} {y : V} {t : W} (e : ws[i]? = some t) (h : WVs K H acc ((ws.take i).map f)) (hy : WV K H y (f t)) : WVs K H (acc ++ [y]) ((ws.take (i + 1)).map f) := by
  rw [List.take_add_one, e]
  show WVs K H (acc ++ [y]) ((ws.take i ++ [t]).map f)
  rw [List.map_append]
  exact WVs.app hy h
section
variable {P : Program} {w : World} {K : PySem.W.Frag} {mg : Str → Option Value} {base : Heap}
def spLow (K : PySem.W.Frag) (n : Nat) : Sp := fun vs H Q _ => ∃ v t, vs = [v] ∧ WV K H v t ∧ t.Ok abcABC ∧ t.dep ≤ n ∧ ∀ v' H', WV K H' v' t.low → Same H H' → Q v' H'
theorem sc__law_lower : FnScope ["_law_tree_here", "_law_part"] ["_law_tree_here"] (defScope s__law_lower) := ⟨rfl, rfl, rfl, by decide +kernel, rfl, by decide +kernel, by decide +kernel⟩
theorem ok_lower1 {n : Nat} (D : Df K mg "_law_lower" s__law_lower ["_law_tree_here"]) (bi : Bi mg) (c_law_lower : Cal P w K mg base n "_law_lower" ["_law_tree_here"] (spLow K n)) : Cal P w K mg base (n + 1) "_law_lower" ["_law_tree_here"] (spLow K (n + 1)) := by
  refine D.ok sc__law_lower (fun vs H Q E h => ?_) (fun f cdv A outer s H vs Q E hr h => ?_)
  · obtain ⟨v, t, rfl, _⟩ := h
    rfl
  obtain ⟨v, t, rfl, hv, ho, hd, q⟩ := h
  refine ⟨_, (pss_cons (ps_if (pt_cmpR op_eq (pe_ix ix_tup (pv 0) pe_int (fun _ _ => rfl)) pe_str (nomark _)) (pss_one (ps_ret (pe_tup (pa_cons pe_str (pa_cons (pe_bm0 PySem.F.plainAttrs_str PySem.F.slot_str_lower PySem.F.type_str_lower mt_lower (pe_ix ix_tup (pv 0) pe_int (fun _ _ => rfl))) pa_nil))))) pss_nil)
      (pss_cons (ps_if (pt_cmpR op_eq (pe_ix ix_tup (pv 0) pe_int (fun _ _ => rfl)) pe_str (nomark _)) (pss_one (ps_ret (pe_tup (pa_cons pe_str (pa_cons (pe_callTy call_tuple_of (by rfl) bi.tuple (by decide +kernel) (pa_cons (pe_lc (own := [("_law_part", 1)]) (g := gName 1) (tt := tYes) rfl sc__law_lower.nd (pi_tup (pe_ix ix_tup (pv 0) pe_int (fun _ _ => rfl))) (blkOk_by (N := ["_law_tree_here", "_law_part"]) (sc := defScope s__law_lower) (by decide +kernel)) (fun _ _ _ _ _ => (pg_name (i := 1) sc__law_lower.nd rfl (.inl rfl))) (fun _ _ _ _ _ => pts_nil) (fun _ _ _ _ _ => (pe_own c_law_lower hr (by omega) (by rfl) (pa_cons (pv 1) pa_nil)))) pa_nil)) pa_nil))))) pss_nil)
      (pss_cons (ps_if (pt_cmpR op_eq (pe_ix ix_tup (pv 0) pe_int (fun _ _ => rfl)) pe_str (nomark _)) (pss_one (ps_ret (pe_tup (pa_cons pe_str (pa_cons (pe_own c_law_lower hr (by omega) (by rfl) (pa_cons (pe_ix ix_tup (pv 0) pe_int (fun _ _ => rfl)) pa_nil)) (pa_cons (pe_ix ix_tup (pv 0) pe_int (fun _ _ => rfl)) pa_nil)))))) pss_nil)
      (pss_one (ps_ret (pe_ifExp (pt_cmpR op_ne (pe_ix ix_tup (pv 0) pe_int (fun _ _ => rfl)) pe_str (nomark _)) (pe_tup (pa_cons (pe_ix ix_tup (pv 0) pe_int (fun _ _ => rfl)) (pa_cons (pe_own c_law_lower hr (by omega) (by rfl) (pa_cons (pe_ix ix_tup (pv 0) pe_int (fun _ _ => rfl)) pa_nil)) pa_nil))) (pv 0))))))), ?_⟩
  have at_ := hv.at
  cases at_ with
  | emp e s =>
    cases e
    refine ⟨_, rfl, _, _, _, _, rfl, rfl, s, rfl, rfl, eq_no (by decide +kernel) ?_⟩
    refine ⟨_, rfl, _, _, _, _, rfl, rfl, s, rfl, rfl, eq_no (by decide +kernel) ?_⟩
    refine ⟨_, rfl, _, _, _, _, rfl, rfl, s, rfl, rfl, eq_no (by decide +kernel) ?_⟩
    refine ⟨_, rfl, _, _, _, _, rfl, rfl, s, rfl, rfl, ne_no rfl ?_⟩
    exact ⟨_, rfl, q _ H (by rw [low_emp]; exact hv) (Same.refl H)⟩
  | nam e s =>
    unfold W.Ok at ho
    exact ho.elim
  | @ltr a c e s =>
    cases e
    unfold W.Ok at ho
    refine ⟨_, rfl, _, _, _, _, rfl, rfl, s, rfl, rfl, eq_yes rfl ?_⟩
    refine ⟨_, rfl, _, _, _, _, rfl, rfl, s, rfl, rfl, _, rfl, rfl, len_abc c ho, (by show 2 ≤ sizeLine; decide), fun p hp => ?_⟩
    exact q _ _ (by rw [low_ltr]; exact wv_ltr (SqT.of upd_same)) (same_new hp)
  | @join a b xs ws e s s2 hw =>
    cases e
    unfold W.Ok at ho
    rw [W.dep] at hd
    have hl := hw.length
    refine ⟨_, rfl, _, _, _, _, rfl, rfl, s, rfl, rfl, eq_no (by decide +kernel) ?_⟩
    refine ⟨_, rfl, _, _, _, _, rfl, rfl, s, rfl, rfl, eq_yes rfl ?_⟩
    refine ⟨_, rfl, _, _, _, _, rfl, rfl, s, rfl, b, rfl, ⟨xs, s2⟩, fun Dd hD => ?_⟩
    refine lct (xs := xs) (fun i H2 => ∃ acc, H2 Dd = some (.lst acc) ∧ WVs K H2 acc ((ws.take i).map W.low) ∧ acc.length = i ∧ Same H H2) ?_ ?_ ?_ ?_
    · exact ⟨[], upd_same, wvs_nil, rfl, same_new hD⟩
    · rintro i H2 _ ⟨acc, _, _, _, k2⟩
      exact (tp_same k2).sq s2
    · rintro i x H2 hx ⟨acc, hA, hW, hlen, k2⟩
      obtain ⟨t1, e1, h1⟩ := hw.get hx
      have m1 : t1 ∈ ws := List.mem_of_getElem? e1
      have d1 := W.deps_mem m1
      have hi : i < xs.length := (List.getElem?_eq_some_iff.mp hx).1
      refine ⟨_, rfl, _, t1, rfl, WV.tp (tp_same k2) _ h1, W.oks_mem m1 ho.2, by omega, fun y H4 hy k4 => ?_⟩
      have hA4 := k4 _ _ hA
      refine ⟨acc, hA4, Nat.lt_of_le_of_lt (show acc.length ≤ 1000 by omega) (by decide), acc ++ [y], upd_same, ?_, by rw [List.length_append, hlen]; rfl, ?_⟩
      · exact WVs.tp (tp_set hA4) _ (wvs_snoc e1 (WVs.tp (tp_same k4) _ hW) hy)
      · intro b' o hb
        rw [upd_ne (ne_of_none hb hD)]
        exact k4 _ _ (k2 _ _ hb)
    · rintro H2 ⟨acc, hA, hW, hlen, k2⟩
      refine ⟨Dd, acc, rfl, .inl ⟨SqL.of hA, fun p hp => ?_⟩⟩
      refine ⟨(by show 2 ≤ sizeLine; decide), fun p2 hp2 => ?_⟩
      rw [hl, List.take_length] at hW
      have t1 : Tp H2 (upd H2 p (.tup acc)) := tp_new hp
      have t2 := tp_new (o := .tup [.str "join", .ref p]) hp2
      refine q _ _ (by rw [low_join]; exact wv_join (SqT.of upd_same) (t2.sq (SqT.of upd_same)) (WVs.tp (t1.trans t2) _ hW)) (k2.trans ((same_new hp).trans (same_new hp2)))
  | @times a x t n' e s hx =>
    cases e
    unfold W.Ok at ho
    rw [W.dep] at hd
    refine ⟨_, rfl, _, _, _, _, rfl, rfl, s, rfl, rfl, eq_no (by decide +kernel) ?_⟩
    refine ⟨_, rfl, _, _, _, _, rfl, rfl, s, rfl, rfl, eq_no (by decide +kernel) ?_⟩
    refine ⟨_, rfl, _, _, _, _, rfl, rfl, s, rfl, rfl, eq_yes rfl ?_⟩
    refine ⟨_, rfl, _, _, _, _, rfl, rfl, s, rfl, _, t, rfl, hx, ho.2.2, by omega, fun y H4 hy k4 => ?_⟩
    refine ⟨_, rfl, _, _, _, _, rfl, rfl, (tp_same k4).sq s, rfl, (by show 3 ≤ sizeLine; decide), fun p hp => ?_⟩
    exact q _ _ (by rw [low_times]; exact wv_times (SqT.of upd_same) (WV.tp (tp_new hp) _ hy)) (k4.trans (same_new hp))
  | @right a x t e s hx =>
    cases e
    unfold W.Ok at ho
    rw [W.dep] at hd
    refine ⟨_, rfl, _, _, _, _, rfl, rfl, s, rfl, rfl, eq_no (by decide +kernel) ?_⟩
    refine ⟨_, rfl, _, _, _, _, rfl, rfl, s, rfl, rfl, eq_no (by decide +kernel) ?_⟩
    refine ⟨_, rfl, _, _, _, _, rfl, rfl, s, rfl, rfl, eq_no (by decide +kernel) ?_⟩
    refine ⟨_, rfl, _, _, _, _, rfl, rfl, s, rfl, rfl, ne_yes (by decide +kernel) ?_⟩
    refine ⟨_, rfl, _, _, _, _, rfl, rfl, s, rfl, _, rfl, _, _, _, _, rfl, rfl, s, rfl, _, t, rfl, hx, ho, by omega, fun y H4 hy k4 => ?_⟩
    refine ⟨(by show 2 ≤ sizeLine; decide), fun p hp => ?_⟩
    exact q _ _ (by rw [low_right]; exact wv_right (SqT.of upd_same) (WV.tp (tp_new hp) _ hy)) (k4.trans (same_new hp))
  | @left a x t e s hx =>
    cases e
    unfold W.Ok at ho
    rw [W.dep] at hd
    refine ⟨_, rfl, _, _, _, _, rfl, rfl, s, rfl, rfl, eq_no (by decide +kernel) ?_⟩
    refine ⟨_, rfl, _, _, _, _, rfl, rfl, s, rfl, rfl, eq_no (by decide +kernel) ?_⟩
    refine ⟨_, rfl, _, _, _, _, rfl, rfl, s, rfl, rfl, eq_no (by decide +kernel) ?_⟩
    refine ⟨_, rfl, _, _, _, _, rfl, rfl, s, rfl, rfl, ne_yes (by decide +kernel) ?_⟩
    refine ⟨_, rfl, _, _, _, _, rfl, rfl, s, rfl, _, rfl, _, _, _, _, rfl, rfl, s, rfl, _, t, rfl, hx, ho, by omega, fun y H4 hy k4 => ?_⟩
    refine ⟨(by show 2 ≤ sizeLine; decide), fun p hp => ?_⟩
    exact q _ _ (by rw [low_left]; exact wv_left (SqT.of upd_same) (WV.tp (tp_new hp) _ hy)) (k4.trans (same_new hp))
theorem ok_lower (D : Df K mg "_law_lower" s__law_lower ["_law_tree_here"]) (bi : Bi mg) : ∀ n : Nat, Cal P w K mg base n "_law_lower" ["_law_tree_here"] (spLow K n)
  | 0 => D.no fun vs H Q E h => by
    obtain ⟨v, t, _, _, _, h, _⟩ := h
    have := t.dep_pos
    omega
  | n + 1 => ok_lower1 D bi (ok_lower D bi n)
theorem sc_unmarked : FnScope ["word", "kind", "part"] ["word"] (defScope s_unmarked) := ⟨rfl, rfl, rfl, by decide +kernel, rfl, by decide +kernel, by decide +kernel⟩
theorem ok_unmarked1 {n : Nat} (D : Df K mg "unmarked" s_unmarked ["word"]) (bi : Bi mg) (cunmarked : Cal P w K mg base n "unmarked" ["word"] (spLow K n)) : Cal P w K mg base (n + 1) "unmarked" ["word"] (spLow K (n + 1)) := by
  refine D.ok sc_unmarked (fun vs H Q E h => ?_) (fun f cdv A outer s H vs Q E hr h => ?_)
  · obtain ⟨v, t, rfl, _⟩ := h
    rfl
  obtain ⟨v, t, rfl, hv, ho, hd, q⟩ := h
  refine ⟨_, (pss_cons (ps_set (i := 1) sc_unmarked.nd rfl (.inl rfl) (pe_ix ix_tup (pv 0) pe_int (fun _ _ => rfl)))
      (pss_cons (ps_if (pt_cmpR op_eq (pv 1) pe_str (nomark _)) (pss_one (ps_ret (pe_tup (pa_cons pe_str (pa_cons (pe_bm0 PySem.F.plainAttrs_str PySem.F.slot_str_lower PySem.F.type_str_lower mt_lower (pe_ix ix_tup (pv 0) pe_int (fun _ _ => rfl))) pa_nil))))) pss_nil)
      (pss_cons (ps_if (pt_cmpR op_eq (pv 1) pe_str (nomark _)) (pss_one (ps_ret (pe_tup (pa_cons pe_str (pa_cons (pe_callTy call_tuple_of (by rfl) bi.tuple (by decide +kernel) (pa_cons (pe_lc (own := [("part", 2)]) (g := gName 2) (tt := tYes) rfl sc_unmarked.nd (pi_tup (pe_ix ix_tup (pv 0) pe_int (fun _ _ => rfl))) (blkOk_by (N := ["word", "kind", "part"]) (sc := defScope s_unmarked) (by decide +kernel)) (fun _ _ _ _ _ => (pg_name (i := 2) sc_unmarked.nd rfl (.inl rfl))) (fun _ _ _ _ _ => pts_nil) (fun _ _ _ _ _ => (pe_own cunmarked hr (by omega) (by rfl) (pa_cons (pv 2) pa_nil)))) pa_nil)) pa_nil))))) pss_nil)
      (pss_cons (ps_if (pt_cmpR op_eq (pv 1) pe_str (nomark _)) (pss_one (ps_ret (pe_tup (pa_cons pe_str (pa_cons (pe_own cunmarked hr (by omega) (by rfl) (pa_cons (pe_ix ix_tup (pv 0) pe_int (fun _ _ => rfl)) pa_nil)) (pa_cons (pe_ix ix_tup (pv 0) pe_int (fun _ _ => rfl)) pa_nil)))))) pss_nil)
      (pss_cons (ps_if (pt_cmpR op_in_seq (pv 1) (pe_tup (pa_cons pe_str (pa_cons pe_str pa_nil))) (by rfl)) (pss_one (ps_ret (pe_tup (pa_cons (pv 1) (pa_cons (pe_own cunmarked hr (by omega) (by rfl) (pa_cons (pe_ix ix_tup (pv 0) pe_int (fun _ _ => rfl)) pa_nil)) pa_nil))))) pss_nil)
      (pss_one (ps_ret (pv 0)))))))), ?_⟩
  have at_ := hv.at
  cases at_ with
  | emp e s =>
    cases e
    refine ⟨_, rfl, _, _, _, _, rfl, rfl, s, rfl, ?_⟩
    refine ⟨_, rfl, rfl, eq_no (by decide +kernel) ?_⟩
    refine ⟨_, rfl, rfl, eq_no (by decide +kernel) ?_⟩
    refine ⟨_, rfl, rfl, eq_no (by decide +kernel) ?_⟩
    refine ⟨_, rfl, (by show 2 ≤ sizeLine; decide), fun p hp => ?_⟩
    refine ⟨p, _, rfl, .inr (SqT.of upd_same), rfl, rfl, in_no ["right", "left"] (by decide +kernel) ?_⟩
    exact ⟨_, rfl, q _ _ (by rw [low_emp]; exact WV.tp (tp_new hp) _ hv) (same_new hp)⟩
  | nam e s =>
    unfold W.Ok at ho
    exact ho.elim
  | @ltr a c e s =>
    cases e
    unfold W.Ok at ho
    refine ⟨_, rfl, _, _, _, _, rfl, rfl, s, rfl, ?_⟩
    refine ⟨_, rfl, rfl, eq_yes rfl ?_⟩
    refine ⟨_, rfl, _, _, _, _, rfl, rfl, s, rfl, rfl, _, rfl, rfl, len_abc c ho, (by show 2 ≤ sizeLine; decide), fun p hp => ?_⟩
    exact q _ _ (by rw [low_ltr]; exact wv_ltr (SqT.of upd_same)) (same_new hp)
  | @join a b xs ws e s s2 hw =>
    cases e
    unfold W.Ok at ho
    rw [W.dep] at hd
    have hl := hw.length
    refine ⟨_, rfl, _, _, _, _, rfl, rfl, s, rfl, ?_⟩
    refine ⟨_, rfl, rfl, eq_no (by decide +kernel) ?_⟩
    refine ⟨_, rfl, rfl, eq_yes rfl ?_⟩
    refine ⟨_, rfl, _, _, _, _, rfl, rfl, s, rfl, b, rfl, ⟨xs, s2⟩, fun Dd hD => ?_⟩
    refine lct (xs := xs) (fun i H2 => ∃ acc, H2 Dd = some (.lst acc) ∧ WVs K H2 acc ((ws.take i).map W.low) ∧ acc.length = i ∧ Same H H2) ?_ ?_ ?_ ?_
    · exact ⟨[], upd_same, wvs_nil, rfl, same_new hD⟩
    · rintro i H2 _ ⟨acc, _, _, _, k2⟩
      exact (tp_same k2).sq s2
    · rintro i x H2 hx ⟨acc, hA, hW, hlen, k2⟩
      obtain ⟨t1, e1, h1⟩ := hw.get hx
      have m1 : t1 ∈ ws := List.mem_of_getElem? e1
      have d1 := W.deps_mem m1
      have hi : i < xs.length := (List.getElem?_eq_some_iff.mp hx).1
      refine ⟨_, rfl, _, t1, rfl, WV.tp (tp_same k2) _ h1, W.oks_mem m1 ho.2, by omega, fun y H4 hy k4 => ?_⟩
      have hA4 := k4 _ _ hA
      refine ⟨acc, hA4, Nat.lt_of_le_of_lt (show acc.length ≤ 1000 by omega) (by decide), acc ++ [y], upd_same, ?_, by rw [List.length_append, hlen]; rfl, ?_⟩
      · exact WVs.tp (tp_set hA4) _ (wvs_snoc e1 (WVs.tp (tp_same k4) _ hW) hy)
      · intro b' o hb
        rw [upd_ne (ne_of_none hb hD)]
        exact k4 _ _ (k2 _ _ hb)
    · rintro H2 ⟨acc, hA, hW, hlen, k2⟩
      refine ⟨Dd, acc, rfl, .inl ⟨SqL.of hA, fun p hp => ?_⟩⟩
      refine ⟨(by show 2 ≤ sizeLine; decide), fun p2 hp2 => ?_⟩
      rw [hl, List.take_length] at hW
      have t1 : Tp H2 (upd H2 p (.tup acc)) := tp_new hp
      have t2 := tp_new (o := .tup [.str "join", .ref p]) hp2
      refine q _ _ (by rw [low_join]; exact wv_join (SqT.of upd_same) (t2.sq (SqT.of upd_same)) (WVs.tp (t1.trans t2) _ hW)) (k2.trans ((same_new hp).trans (same_new hp2)))
  | @times a x t n' e s hx =>
    cases e
    unfold W.Ok at ho
    rw [W.dep] at hd
    refine ⟨_, rfl, _, _, _, _, rfl, rfl, s, rfl, ?_⟩
    refine ⟨_, rfl, rfl, eq_no (by decide +kernel) ?_⟩
    refine ⟨_, rfl, rfl, eq_no (by decide +kernel) ?_⟩
    refine ⟨_, rfl, rfl, eq_yes rfl ?_⟩
    refine ⟨_, rfl, _, _, _, _, rfl, rfl, s, rfl, _, t, rfl, hx, ho.2.2, by omega, fun y H4 hy k4 => ?_⟩
    refine ⟨_, rfl, _, _, _, _, rfl, rfl, (tp_same k4).sq s, rfl, (by show 3 ≤ sizeLine; decide), fun p hp => ?_⟩
    exact q _ _ (by rw [low_times]; exact wv_times (SqT.of upd_same) (WV.tp (tp_new hp) _ hy)) (k4.trans (same_new hp))
  | @right a x t e s hx =>
    cases e
    unfold W.Ok at ho
    rw [W.dep] at hd
    refine ⟨_, rfl, _, _, _, _, rfl, rfl, s, rfl, ?_⟩
    refine ⟨_, rfl, rfl, eq_no (by decide +kernel) ?_⟩
    refine ⟨_, rfl, rfl, eq_no (by decide +kernel) ?_⟩
    refine ⟨_, rfl, rfl, eq_no (by decide +kernel) ?_⟩
    refine ⟨_, rfl, (by show 2 ≤ sizeLine; decide), fun p0 hp0 => ?_⟩
    refine ⟨p0, _, rfl, .inr (SqT.of upd_same), rfl, rfl, in_yes ["right", "left"] (by decide +kernel) ?_⟩
    have k0 : Same H (upd H p0 (.tup [.str "right", .str "left"])) := same_new hp0
    refine ⟨_, rfl, _, rfl, _, _, _, _, rfl, rfl, (tp_same k0).sq s, rfl, _, t, rfl, WV.tp (tp_same k0) _ hx, ho, by omega, fun y H4 hy k4 => ?_⟩
    refine ⟨(by show 2 ≤ sizeLine; decide), fun p hp => ?_⟩
    exact q _ _ (by rw [low_right]; exact wv_right (SqT.of upd_same) (WV.tp (tp_new hp) _ hy)) (k0.trans (k4.trans (same_new hp)))
  | @left a x t e s hx =>
    cases e
    unfold W.Ok at ho
    rw [W.dep] at hd
    refine ⟨_, rfl, _, _, _, _, rfl, rfl, s, rfl, ?_⟩
    refine ⟨_, rfl, rfl, eq_no (by decide +kernel) ?_⟩
    refine ⟨_, rfl, rfl, eq_no (by decide +kernel) ?_⟩
    refine ⟨_, rfl, rfl, eq_no (by decide +kernel) ?_⟩
    refine ⟨_, rfl, (by show 2 ≤ sizeLine; decide), fun p0 hp0 => ?_⟩
    refine ⟨p0, _, rfl, .inr (SqT.of upd_same), rfl, rfl, in_yes ["right", "left"] (by decide +kernel) ?_⟩
    have k0 : Same H (upd H p0 (.tup [.str "right", .str "left"])) := same_new hp0
    refine ⟨_, rfl, _, rfl, _, _, _, _, rfl, rfl, (tp_same k0).sq s, rfl, _, t, rfl, WV.tp (tp_same k0) _ hx, ho, by omega, fun y H4 hy k4 => ?_⟩
    refine ⟨(by show 2 ≤ sizeLine; decide), fun p hp => ?_⟩
    exact q _ _ (by rw [low_left]; exact wv_left (SqT.of upd_same) (WV.tp (tp_new hp) _ hy)) (k0.trans (k4.trans (same_new hp)))
theorem ok_unmarked (D : Df K mg "unmarked" s_unmarked ["word"]) (bi : Bi mg) : ∀ n : Nat, Cal P w K mg base n "unmarked" ["word"] (spLow K n)
  | 0 => D.no fun vs H Q E h => by
    obtain ⟨v, t, _, _, _, h, _⟩ := h
    have := t.dep_pos
    omega
  | n + 1 => ok_unmarked1 D bi (ok_unmarked D bi n)
end
end SW

set_option Elab.async false
set_option linter.all false
set_option maxRecDepth 100000
set_option maxHeartbeats 4000000
namespace SW
open PySem PySem.Spec PyProof.Rows L2
theorem cutV_ints (ns : List Int) (lo hi : Option Int) : ∃ ms : List Int, cutV (ns.map V.int) lo hi = ms.map V.int := by
  unfold cutV
  exact ⟨(ns.drop (HT.sIx (ns.map V.int).length 0 lo)).take (HT.sIx (ns.map V.int).length (ns.map V.int).length hi - HT.sIx (ns.map V.int).length 0 lo), by rw [List.map_take, List.map_drop]⟩
section
variable {P : Program} {w : World} {K : PySem.W.Frag} {mg : Str → Option Value} {base : Heap}
/-! ### _law_draws -/
def spDraws (K : PySem.W.Frag) : Sp := fun vs H Q _ => ∃ (a : Addr) (ns : List Int), vs = [.ref a] ∧ SqL K H a (ns.map V.int) ∧ ∀ r l H', Rng H' r l → Same H H' → Q (.ref r) H'
theorem sc__law_draws : FnScope ["_law_script", "_law_state", "_law_cell"] ["_law_script"] (defScope s__law_draws) := ⟨rfl, rfl, rfl, by decide +kernel, rfl, by decide +kernel, by decide +kernel⟩
theorem ok_draws (D : Df K mg "_law_draws" s__law_draws ["_law_script"]) (bi : Bi mg) : Cal P w K mg base 1 "_law_draws" ["_law_script"] (spDraws K) := by
  refine D.ok sc__law_draws (fun vs H Q E h => ?_) (fun f cdv A outer s H vs Q E hr h => ?_)
  · obtain ⟨a, ns, rfl, _⟩ := h
    rfl
  obtain ⟨a, ns, rfl, hS, q⟩ := h
  refine ⟨_, (pss_cons (ps_set (i := 1) sc__law_draws.nd rfl (.inl rfl) pe_int)
      (pss_cons (ps_for PassesOwn.never rfl (pi_list (pe_slice sl_list (pv 0) po_none (po_some pe_int))) (pg_name (i := 2) sc__law_draws.nd rfl (.inl rfl)) (pss_one (ps_set (i := 1) sc__law_draws.nd rfl (.inl rfl) (pe_op op_modN (pe_callTy call_int1 (by rfl) bi.int (by decide +kernel) (pa_cons (pe_op op_add (pe_op op_add (pe_op op_mul (pv 1) pe_int) (pe_op op_modN (pe_callTy call_int1 (by rfl) bi.int (by decide +kernel) (pa_cons (pv 2) pa_nil)) pe_int)) pe_int) pa_nil)) pe_int))))
      (pss_one (ps_ret (pe_lst (pa_cons (pe_callTy call_list_of (by rfl) bi.list (by decide +kernel) (pa_cons (pe_slice sl_list (pv 0) po_none (po_some pe_int)) pa_nil)) (pa_cons pe_int (pa_cons pe_int (pa_cons (pv 1) (pa_cons pe_int pa_nil)))))))))), ?_⟩
  obtain ⟨ms, hms⟩ := cutV_ints ns none (some 63)
  refine ⟨_, rfl, 63, rfl, a, _, rfl, hS, fun c nc => ?_⟩
  have k1 : Same H (upd H c (.lst (cutV (ns.map V.int) none (some 63)))) := same_new nc
  refine ⟨c, rfl, ⟨_, SqL.of upd_same⟩, for_list (xs := cutV (ns.map V.int) none (some 63)) (fun i σ' H' => ∃ st y2, σ' = [some (.ref a), some (.int st), y2] ∧ H' = upd H c (.lst (cutV (ns.map V.int) none (some 63)))) ?_ ?_ ?_ ?_⟩
  · exact ⟨_, none, rfl, rfl⟩
  · rintro i σ' H' _ ⟨st, y2, _, rfl⟩
    exact SqL.of upd_same
  · rintro i x σ' H' hx ⟨st, y2, rfl, rfl⟩
    rw [hms, List.getElem?_map] at hx
    obtain ⟨m, _, rfl⟩ := Option.map_eq_some_iff.mp hx
    refine ⟨_, rfl, _, _, rfl, rfl, .inr (by decide), _, rfl, .inl ⟨_, rfl, _, _, rfl, rfl, (show (2147483629 : Int) ≠ 0 by decide), _, _, rfl, rfl, _, _, rfl, rfl, .inl ⟨_, rfl, _, _, rfl, rfl, (show (2147483647 : Int) ≠ 0 by decide), ?_⟩⟩⟩
    exact ⟨_, _, rfl, rfl⟩
  · rintro σ' H' ⟨st, y2, rfl, rfl⟩
    refine ⟨_, rfl, 63, rfl, a, _, rfl, k1.seq hS, fun c2 nc2 => ?_⟩
    refine ⟨c2, _, rfl, .inl (SqL.of upd_same), fun l hl => ?_⟩
    refine ⟨_, rfl, (by show 5 ≤ sizeLine; decide), fun r hr' => ?_⟩
    have e1 := upd_same (H := upd (upd H c (.lst (cutV (ns.map V.int) none (some 63)))) c2 (.lst (cutV (ns.map V.int) none (some 63)))) (a := l) (o := .lst (cutV (ns.map V.int) none (some 63)))
    have lr := ne_of_none e1 hr'
    refine q r l _ ⟨ms, 0, 0, st, 0, upd_same, ?_, by decide, lr⟩ (k1.trans ((same_new nc2).trans ((same_new hl).trans (same_new hr'))))
    rw [upd_ne lr, e1, hms]
end
end SW

set_option Elab.async false
set_option linter.all false
set_option maxRecDepth 100000
set_option maxHeartbeats 4000000
namespace SW
open PySem PySem.Spec PyProof.Rows L2
def toD : Option Int → PyData
  | none => .none
  | some m => .int m
theorem toD_v {K : PySem.W.Frag} {H : Hp} (o : Option Int) : Dp K H (toV o) (toD o) := by
  cases o with
  | none => exact .non
  | some m => exact .int m
theorem toD_sm (o : Option Int) (n : Nat) : Sm n (toD o) := by
  cases o with
  | none => cases n <;> (unfold toD Sm; trivial)
  | some m => cases n <;> (unfold toD Sm; trivial)
theorem cnt_nonneg {M L : List Str} {t : W} (o : t.Ok M) : ∀ m, t.cnt L = some m → 0 ≤ m := fun m e => (W.cnt_bd t o e).1
theorem ints_sm {ds : List Int} {n : Nat} (h : ds.length ≤ 1000) : Sm (n + 1) (.list (ds.map PyData.int)) := by
  unfold Sm
  refine ⟨by rw [List.length_map]; exact h, fun d q => ?_⟩
  obtain ⟨i, _, rfl⟩ := List.mem_map.mp q
  cases n <;> (unfold Sm; trivial)
theorem ints_dp {K : PySem.W.Frag} {H : Hp} : ∀ ds : List Int, DpAll K H (ds.map V.int) (ds.map PyData.int)
  | [] => .nil
  | d :: r => .cons (.int d) (ints_dp r)
section
variable {P : Program} {w : World} {K : PySem.W.Frag} {mg : Str → Option Value} {base : Heap}
theorem sc_law : FnScope ["_law_script", "_law_rng", "_law_turn", "_law_tree_here", "_law_marked", "_law_here", "_law_my_letter", "_law_far", "_law_found", "_law_gone"] ["_law_script"] (defScope s_law) := ⟨rfl, rfl, rfl, by decide +kernel, rfl, by decide +kernel, by decide +kernel⟩
def farW : W := .times (.join [.ltr "a", .times (.ltr "c") 1000000000000000000000000000000]) 1000000000000000000000000000000
def goneW : W := .times (.right (.ltr "a")) 0
theorem far_ok : farW.Ok abcABC ∧ farW.dep ≤ 6 := by
  refine ⟨?_, by decide +kernel⟩
  simp [farW, W.Ok, W.Oks]
theorem gone_ok : goneW.Ok abcABC ∧ goneW.dep ≤ 6 := by
  refine ⟨?_, by decide +kernel⟩
  simp [goneW, W.Ok, W.Oks]
set_option maxHeartbeats 8000000 in
theorem ok_law {ae : Addr} (D : Df K mg "law" s_law ["_law_script"]) (bi : Bi mg) (mEMPTY : mg "EMPTY" = some (.ref ae)) (hE : ∀ H, SqT K H ae [.str "empty"])
    (c_law_draws : Cal P w K mg base 1 "_law_draws" ["_law_script"] (spDraws K)) (c_law_wide : Cal P w K mg base 7 "_law_wide" ["_law_rng"] (spWord K 6)) (c_law_marks : Cal P w K mg base 7 "_law_marks" ["_law_rng", "_law_tree_here"] (spMarks K 6))
    (c_law_same : Cal P w K mg base 20 "_law_same" ["_law_found", "_law_due"] (spSame K 20)) (cletter_count : Cal P w K mg base 13 "letter_count" ["word", "letter"] (spLc K)) (clength : Cal P w K mg base 13 "length" ["word"] (spLen K))
    (c_law_told : Cal P w K mg base 1 "_law_told" ["_law_count_here"] spTold) (c_law_count : Cal P w K mg base 13 "_law_count" ["_law_tree_here", "_law_letters"] (spLCnt K 12)) (c_law_places : Cal P w K mg base 14 "_law_places" ["_law_tree_here"] (spPlaces K))
    (cunmarked : Cal P w K mg base 12 "unmarked" ["word"] (spLow K 12)) (c_law_lower : Cal P w K mg base 12 "_law_lower" ["_law_tree_here"] (spLow K 12)) (Dletter_count : Df K mg "letter_count" s_letter_count ["word", "letter"]) :
    Cal P w K mg base 31 "law" ["_law_script"] (spLaw K) := by
  refine D.ok sc_law (fun vs H Q E h => ?_) (fun f cdv A outer s H vs Q E hr h => ?_)
  · obtain ⟨a, ns, rfl, _⟩ := h
    rfl
  obtain ⟨a, ns, rfl, hS, q⟩ := h
  refine ⟨_, (pss_cons (ps_set (i := 1) sc_law.nd rfl (.inl rfl) (pe_own c_law_draws hr (by omega) (by rfl) (pa_cons (pv 0) pa_nil)))
      (pss_cons (ps_for PassesOwn.never rfl (pi_range1 (by rfl) bi.range (pa_cons pe_int pa_nil)) (pg_name (i := 2) sc_law.nd rfl (.inl rfl)) (pss_cons (ps_set (i := 3) sc_law.nd rfl (.inl rfl) (pe_own c_law_wide hr (by omega) (by rfl) (pa_cons (pv 1) pa_nil)))
      (pss_cons (ps_set (i := 4) sc_law.nd rfl (.inl rfl) (pe_own c_law_marks hr (by omega) (by rfl) (pa_cons (pv 1) (pa_cons (pv 3) pa_nil))))
      (pss_cons (ps_for PassesOwn.never rfl (pi_tup (pe_tup (pa_cons (pv 3) (pa_cons (pv 4) pa_nil)))) (pg_name (i := 5) sc_law.nd rfl (.inl rfl)) (pss_cons (ps_for PassesOwn.never rfl (pi_list (pe_lst (pa_cons pe_str (pa_cons pe_str (pa_cons pe_str (pa_cons pe_str (pa_cons pe_str (pa_cons pe_str pa_nil)))))))) (pg_name (i := 6) sc_law.nd rfl (.inl rfl)) (pss_one (ps_if (pt_not (pt_val (pe_own c_law_same hr (by omega) (by rfl) (pa_cons (pe_own cletter_count hr (by omega) (by rfl) (pa_cons (pv 5) (pa_cons (pv 6) pa_nil))) (pa_cons (pe_own c_law_told hr (by omega) (by rfl) (pa_cons (pe_own c_law_count hr (by omega) (by rfl) (pa_cons (pv 5) (pa_cons (pe_lst (pa_cons (pv 6) pa_nil)) pa_nil))) pa_nil)) pa_nil))))) (pss_one (ps_ret pe_bl)) pss_nil)))
      (pss_one (ps_if (pt_not (pt_val (pe_own c_law_same hr (by omega) (by rfl) (pa_cons (pe_own clength hr (by omega) (by rfl) (pa_cons (pv 5) pa_nil)) (pa_cons (pe_own c_law_told hr (by omega) (by rfl) (pa_cons (pe_own c_law_places hr (by omega) (by rfl) (pa_cons (pv 5) pa_nil)) pa_nil)) pa_nil))))) (pss_one (ps_ret pe_bl)) pss_nil))))
      (pss_one (ps_if (PW.pt (pw_or (pt_not (pt_val (pe_own c_law_same hr (by omega) (by rfl) (pa_cons (pe_own cunmarked hr (by omega) (by rfl) (pa_cons (pv 4) pa_nil)) (pa_cons (pe_own c_law_lower hr (by omega) (by rfl) (pa_cons (pv 4) pa_nil)) pa_nil))))) (pw_or1 (pt_cmpR (op_neD hr.units) (pe_own cunmarked hr (by omega) (by rfl) (pa_cons (pv 3) pa_nil)) (pv 3) (nomark _))))) (pss_one (ps_ret pe_bl)) pss_nil))))))
      (pss_cons (ps_set (i := 7) sc_law.nd rfl (.inl rfl) (pe_tup (pa_cons pe_str (pa_cons (pe_tup (pa_cons pe_str (pa_cons (pe_tup (pa_cons (pe_tup (pa_cons pe_str (pa_cons pe_str pa_nil))) (pa_cons (pe_tup (pa_cons pe_str (pa_cons (pe_tup (pa_cons pe_str (pa_cons pe_str pa_nil))) (pa_cons (pe_op op_pow pe_int pe_int) pa_nil)))) pa_nil))) pa_nil))) (pa_cons (pe_op op_pow pe_int pe_int) pa_nil)))))
      (pss_cons (ps_set (i := 8) sc_law.nd rfl (.inl rfl) (pe_lst (pa_cons (pe_own cletter_count hr (by omega) (by rfl) (pa_cons (pv 7) (pa_cons pe_str pa_nil))) (pa_cons (pe_ownK0 (ks := ["letter", "word"]) (g := g2s) (gV := g2s) cletter_count Dletter_count hr (by omega) (by rfl) (fun _ _ _ _ _ _ us ws hl => by obtain ⟨_, _, rfl, rfl⟩ := g2s_inv hl; rfl) g2s_rel (pk_cons pe_str (pk_cons (pv 7) pk_nil))) (pa_cons (pe_own clength hr (by omega) (by rfl) (pa_cons (pv 7) pa_nil)) (pa_cons (pe_own clength hr (by omega) (by rfl) (pa_cons (pe_glob (v := .ref ae) (by rfl) mEMPTY rfl) pa_nil)) pa_nil))))))
      (pss_cons (ps_set (i := 9) sc_law.nd rfl (.inl rfl) (pe_tup (pa_cons pe_str (pa_cons (pe_tup (pa_cons pe_str (pa_cons (pe_tup (pa_cons pe_str (pa_cons pe_str pa_nil))) pa_nil))) (pa_cons pe_int pa_nil)))))
      (pss_cons (ps_if (pt_not (pt_val (pe_own c_law_same hr (by omega) (by rfl) (pa_cons (pv 8) (pa_cons (pe_lst (pa_cons (pe_op op_pow pe_int pe_int) (pa_cons (pe_op op_pow pe_int pe_int) (pa_cons (pe_op op_add (pe_op op_pow pe_int pe_int) (pe_op op_pow pe_int pe_int)) (pa_cons pe_int pa_nil))))) pa_nil))))) (pss_one (ps_ret pe_bl)) pss_nil)
      (pss_one (ps_ret (pe_own c_law_same hr (by omega) (by rfl) (pa_cons (pe_lst (pa_cons (pe_own clength hr (by omega) (by rfl) (pa_cons (pv 9) pa_nil)) (pa_cons (pe_own clength hr (by omega) (by rfl) (pa_cons (pe_tup (pa_cons pe_str (pa_cons (pv 9) pa_nil))) pa_nil)) (pa_cons (pe_own cletter_count hr (by omega) (by rfl) (pa_cons (pe_tup (pa_cons pe_str (pa_cons (pv 7) pa_nil))) (pa_cons pe_str pa_nil))) pa_nil)))) (pa_cons (pe_lst (pa_cons pe_int (pa_cons pe_int (pa_cons pe_int pa_nil)))) pa_nil))))))))))), ?_⟩
  refine ⟨_, rfl, a, ns, rfl, hS, fun r l H1 g1 k1 => ?_⟩
  refine ⟨4, rfl, by decide, by decide, for_range (n := 4) (fun i σ' H' => ∃ y2 y3 y4 y5 y6, σ' = [some (.ref a), some (.ref r), y2, y3, y4, y5, y6, none, none, none] ∧ Rng H' r l) ?_ ?_ ?_⟩
  · exact ⟨none, none, none, none, none, rfl, g1⟩
  · rintro i σ' H2 _ ⟨y2, y3, y4, y5, y6, rfl, g2⟩
    refine ⟨_, rfl, r, l, rfl, g2, fun vt t H3 hvt hot hdt g3 k3 => ?_⟩
    refine ⟨_, rfl, _, rfl, r, l, vt, t, rfl, g3, hvt, hot, hdt, fun vm m H4 hvm hom hdm g4 k4 => ?_⟩
    obtain ⟨z3, hz3⟩ := g3.lst
    have hvt4 := WV.tp (k4.tp hz3) _ hvt
    have hot' := W.Ok.mono abc_sub t hot
    refine ⟨_, rfl, _, rfl, (by show 2 ≤ sizeLine; decide), fun p hp => ⟨p, rfl, ⟨_, SqT.of upd_same⟩, ?_⟩⟩
    refine for_tup (xs := [vt, vm]) (fun i σ' H' => ∃ y2 y5 y6, σ' = [some (.ref a), some (.ref r), y2, some vt, some vm, y5, y6, none, none, none] ∧ Same (upd H4 p (.tup [vt, vm])) H') ?_ ?_ ?_ ?_
    · exact ⟨_, y5, y6, rfl, Same.refl _⟩
    · rintro i σ' H5 _ ⟨y2, y5, y6, rfl, k5⟩
      exact SqT.of (k5 _ _ upd_same)
    · rintro i x σ' H5 hx ⟨y2, y5, y6, rfl, k5⟩
      have s5 : Same H4 H5 := (same_new hp).trans k5
      -- one of the two words
      have hxx : ∃ u, WV K H5 x u ∧ u.Ok abcABC ∧ u.dep ≤ 6 := by
        match i, hx with
        | 0, e => cases e; exact ⟨t, WV.tp (tp_same s5) _ hvt4, hot', hdt⟩
        | 1, e => cases e; exact ⟨m, WV.tp (tp_same s5) _ hvm, hom, hdm⟩
      obtain ⟨u, hu, hou, hdu⟩ := hxx
      refine ⟨(by show 6 ≤ sizeLine; decide), fun p6 hp6 => ⟨p6, rfl, ⟨_, SqL.of upd_same⟩, ?_⟩⟩
      refine for_list (xs := abcABC.map V.str) (fun i σ' H' => ∃ y2 y6, σ' = [some (.ref a), some (.ref r), y2, some vt, some vm, some x, y6, none, none, none] ∧ Same (upd H5 p6 (.lst (abcABC.map V.str))) H') ?_ ?_ ?_ ?_
      · exact ⟨_, y6, rfl, Same.refl _⟩
      · rintro i σ' H6 _ ⟨y2, y6, rfl, k6⟩
        exact SqL.of (k6 _ _ upd_same)
      · rintro i y σ' H6 hy ⟨y2, y6, rfl, k6⟩
        rw [List.getElem?_map] at hy
        obtain ⟨c, hc, rfl⟩ := Option.map_eq_some_iff.mp hy
        have s6 : Same H5 H6 := (same_new hp6).trans k6
        have hu6 := WV.tp (tp_same s6) _ hu
        refine ⟨_, rfl, _, rfl, x, u, c, rfl, hu6, hou, by omega, fun H7 k7 => ?_⟩
        refine ⟨_, rfl, _, rfl, (by show 1 ≤ sizeLine; decide), fun p8 hp8 => ?_⟩
        refine ⟨x, u, p8, [c], rfl, WV.tp (tp_same (k7.trans (same_new hp8))) _ hu6, hou, by omega, by decide, SqL.of upd_same, fun H9 k9 => ?_⟩
        refine ⟨u.cnt [c], rfl, cnt_nonneg hou, ?_⟩
        refine ⟨_, _, toD (u.cnt [c]), rfl, toD_v _, toD_v _, toD_sm _ _, fun H10 k10 => ?_⟩
        refine ⟨true, rfl, ?_⟩
        exact ⟨y2, _, rfl, k6.trans (k7.trans ((same_new hp8).trans (k9.trans k10)))⟩
      · rintro σ' H6 ⟨y2, y6, rfl, k6⟩
        have s6 : Same H5 H6 := (same_new hp6).trans k6
        have hu6 := WV.tp (tp_same s6) _ hu
        refine ⟨_, rfl, x, u, rfl, hu6, hou, by omega, fun H7 k7 => ?_⟩
        refine ⟨_, rfl, x, u, rfl, WV.tp (tp_same k7) _ hu6, hou, by omega, fun H8 k8 => ?_⟩
        refine ⟨u.cnt abcABC, rfl, cnt_nonneg hou, ?_⟩
        refine ⟨_, _, toD (u.cnt abcABC), rfl, toD_v _, toD_v _, toD_sm _ _, fun H9 k9 => ?_⟩
        refine ⟨true, rfl, ?_⟩
        exact ⟨y2, _, y6, rfl, k5.trans (s6.trans (k7.trans (k8.trans k9)))⟩
    · rintro σ' H5 ⟨y2, y5, y6, rfl, k5⟩
      have s5 : Same H4 H5 := (same_new hp).trans k5
      have hm5 := WV.tp (tp_same s5) _ hvm
      refine ⟨_, rfl, vm, m, rfl, hm5, hom, by omega, fun va H6 hva k6 => ?_⟩
      refine ⟨_, rfl, vm, m, rfl, WV.tp (tp_same k6) _ hm5, hom, by omega, fun vb H7 hvb k7 => ?_⟩
      refine ⟨va, vb, m.low.dat, rfl, WV.tp (tp_same k7) _ hva, hvb, ?_, fun H8 k8 => ?_⟩
      · have := W.sm m.low (W.low_ok m hom)
        rw [W.low_dep] at this
        exact this.mono (by show 2 * m.dep ≤ 19; omega)
      refine ⟨true, rfl, ?_⟩
      have s8 : Same H4 H8 := s5.trans (k6.trans (k7.trans k8))
      have ht8 := WV.tp (tp_same s8) _ hvt4
      refine ⟨_, rfl, vt, t, rfl, ht8, hot', by omega, fun vc H9 hvc k9 => ?_⟩
      rw [W.low_id t hot] at hvc
      refine ⟨_, rfl, t.dat, t.dat, hvc, WV.tp (tp_same k9) _ ht8, W.shaped abc_ok hot' (by omega), W.shaped abc_ok hot' (by omega), ?_⟩
      rw [W.eqv_refl abc_ok hot']
      refine ⟨false, rfl, ?_⟩
      have s9 := s8.trans k9
      exact ⟨y2, _, _, y5, y6, rfl, g4.of (fun o h => s9 _ _ h) (fun o h => s9 _ _ h)⟩
  · rintro σ' H2 ⟨y2, y3, y4, y5, y6, rfl, g2⟩
    refine ⟨(by show 2 ≤ sizeLine; decide), fun pa ha => ⟨(by show 2 ≤ sizeLine; decide), fun pc hc => ?_⟩⟩
    refine ⟨_, _, rfl, rfl, ⟨by decide, by decide, by decide⟩, (by show 3 ≤ sizeLine; decide), fun pt ht => ⟨(by show 2 ≤ sizeLine; decide), fun pj hj => ⟨(by show 2 ≤ sizeLine; decide), fun pk hk => ?_⟩⟩⟩
    refine ⟨_, _, rfl, rfl, ⟨by decide, by decide, by decide⟩, (by show 3 ≤ sizeLine; decide), fun pf hf => ?_⟩
    have t1 := tp_new (o := .tup [.str "letter", .str "a"]) ha
    have t2 := tp_new (o := .tup [.str "letter", .str "c"]) hc
    have t3 := tp_new (o := .tup [.str "times", .ref pc, .int 1000000000000000000000000000000]) ht
    have t4 := tp_new (o := .tup [.ref pa, .ref pt]) hj
    have t5 := tp_new (o := .tup [.str "join", .ref pj]) hk
    have t6 := tp_new (o := .tup [.str "times", .ref pk, .int 1000000000000000000000000000000]) hf
    have hfar : WV K _ (.ref pf) farW := wv_times (SqT.of upd_same) (wv_join (t6.sq (SqT.of upd_same)) ((t5.trans t6).sq (SqT.of upd_same)) (wvs_cons (wv_ltr ((t2.trans (t3.trans (t4.trans (t5.trans t6)))).sq (SqT.of upd_same))) (wvs_cons (wv_times ((t4.trans (t5.trans t6)).sq (SqT.of upd_same)) (wv_ltr ((t3.trans (t4.trans (t5.trans t6))).sq (SqT.of upd_same)))) wvs_nil)))
    refine ⟨_, rfl, _, farW, "a", rfl, hfar, far_ok.1, by have := far_ok.2; omega, fun H3 k3 => ?_⟩
    have f3 := WV.tp (tp_same k3) _ hfar
    refine ⟨_, rfl, _, farW, "c", rfl, f3, far_ok.1, by have := far_ok.2; omega, fun H4 k4 => ?_⟩
    have f4 := WV.tp (tp_same k4) _ f3
    refine ⟨_, rfl, _, farW, rfl, f4, far_ok.1, by have := far_ok.2; omega, fun H5 k5 => ?_⟩
    have f5 := WV.tp (tp_same k5) _ f4
    refine ⟨_, .emp, rfl, wv_emp (hE H5), by unfold W.Ok; trivial, by decide +kernel, fun H6 k6 => ?_⟩
    have f6 := WV.tp (tp_same k6) _ f5
    have c1 : farW.cnt ["a"] = some 1000000000000000000000000000000 := by decide +kernel
    have c2 : farW.cnt ["c"] = some 1000000000000000000000000000000000000000000000000000000000000 := by decide +kernel
    have c3 : farW.cnt abcABC = some 1000000000000000000000000000001000000000000000000000000000000 := by decide +kernel
    have c4 : W.cnt abcABC .emp = some 0 := cnt_emp
    rw [c1, c2, c3, c4]
    refine ⟨(by show 4 ≤ sizeLine; decide), fun pl hl => ?_⟩
    have k7 := same_new (o := .lst [toV (some 1000000000000000000000000000000), toV (some 1000000000000000000000000000000000000000000000000000000000000), toV (some 1000000000000000000000000000001000000000000000000000000000000), toV (some 0)]) hl
    refine ⟨(by show 2 ≤ sizeLine; decide), fun qa na => ⟨(by show 2 ≤ sizeLine; decide), fun qr nr => ⟨(by show 3 ≤ sizeLine; decide), fun qg ng => ?_⟩⟩⟩
    have u1 := same_new (o := .tup [.str "letter", .str "a"]) na
    have u2 := same_new (o := .tup [.str "right", .ref qa]) nr
    have u3 := same_new (o := .tup [.str "times", .ref qr, .int 0]) ng
    have hgone : WV K _ (.ref qg) goneW := wv_times (SqT.of upd_same) (wv_right ((tp_same u3).sq (SqT.of upd_same)) (wv_ltr ((tp_same (u2.trans u3)).sq (SqT.of upd_same))))
    have hl2 := (u1.trans (u2.trans u3)) _ _ (upd_same (H := H6) (a := pl))
    refine ⟨_, rfl, _, _, rfl, rfl, ⟨by decide, by decide, by decide⟩, _, _, rfl, rfl, ⟨by decide, by decide, by decide⟩, _, _, rfl, rfl, ⟨by decide, by decide, by decide⟩, _, _, rfl, rfl, ⟨by decide, by decide, by decide⟩, _, _, rfl, rfl, (by show 4 ≤ sizeLine; decide), fun pm hm => ?_⟩
    have u4 := same_new (o := .lst [.int 1000000000000000000000000000000, .int 1000000000000000000000000000000000000000000000000000000000000, .int 1000000000000000000000000000001000000000000000000000000000000, .int 0]) hm
    refine ⟨_, _, .list ([1000000000000000000000000000000, 1000000000000000000000000000000000000000000000000000000000000, 1000000000000000000000000000001000000000000000000000000000000, 0].map PyData.int), rfl, .lst (SqL.of (u4 _ _ hl2)) (ints_dp [1000000000000000000000000000000, 1000000000000000000000000000000000000000000000000000000000000, 1000000000000000000000000000001000000000000000000000000000000, 0]), .lst (SqL.of upd_same) (ints_dp [1000000000000000000000000000000, 1000000000000000000000000000000000000000000000000000000000000, 1000000000000000000000000000001000000000000000000000000000000, 0]), ints_sm (by show 4 ≤ 1000; decide), fun H7 m7 => ?_⟩
    refine ⟨true, rfl, ?_⟩
    have hg7 := WV.tp (tp_same (u4.trans m7)) _ hgone
    have hf7 := WV.tp (tp_same (k7.trans (u1.trans (u2.trans (u3.trans (u4.trans m7)))))) _ f6
    refine ⟨_, rfl, _, goneW, rfl, hg7, gone_ok.1, by have := gone_ok.2; omega, fun H8 m8 => ?_⟩
    refine ⟨_, rfl, (by show 2 ≤ sizeLine; decide), fun pe he => ?_⟩
    have u5 := same_new (o := .tup [.str "left", .ref qg]) he
    refine ⟨_, .left goneW, rfl, wv_left (SqT.of upd_same) (WV.tp (tp_same (m8.trans u5)) _ hg7), by unfold W.Ok; exact gone_ok.1, by rw [W.dep]; have := gone_ok.2; omega, fun H9 m9 => ?_⟩
    refine ⟨_, rfl, (by show 2 ≤ sizeLine; decide), fun ph hh => ?_⟩
    have u6 := same_new (o := .tup [.str "right", .ref pf]) hh
    refine ⟨_, .right farW, "b", rfl, wv_right (SqT.of upd_same) (WV.tp (tp_same (m8.trans (u5.trans (m9.trans u6)))) _ hf7), by unfold W.Ok; exact far_ok.1, by rw [W.dep]; have := far_ok.2; omega, fun H10 m10 => ?_⟩
    have d1 : goneW.cnt abcABC = some 0 := by decide +kernel
    have d2 : (W.left goneW).cnt abcABC = some 0 := by decide +kernel
    have d3 : (W.right farW).cnt ["b"] = some 0 := by decide +kernel
    rw [d1, d2, d3]
    refine ⟨(by show 3 ≤ sizeLine; decide), fun pi hi => ⟨(by show 3 ≤ sizeLine; decide), fun pj2 hj2 => ?_⟩⟩
    have u7 := same_new (o := .lst [.int 0, .int 0, .int 0]) hj2
    exact ⟨_, _, .list ([0, 0, 0].map PyData.int), rfl, .lst (SqL.of (u7 _ _ upd_same)) (ints_dp [0, 0, 0]), .lst (SqL.of upd_same) (ints_dp [0, 0, 0]), ints_sm (by show 3 ≤ 1000; decide), fun H11 _ => q H11⟩
theorem fin {h : Heap} {fa : Addr} (_X : K.In h) (_G : h.Ns mainGlobals mg) (hmg : mg "law" = some (.ref fa))
    (bi : Bi mg)
    (hLETTERS : ∃ v, mg "LETTERS" = some v ∧ L2.RelV (.str "abc") v)
    (hMARKED : ∃ am, mg "MARKED" = some (.ref am) ∧ ∀ H, SqT K H am [.str "A", .str "B", .str "C"])
    (hEMPTY : ∃ ae, mg "EMPTY" = some (.ref ae) ∧ ∀ H, SqT K H ae [.str "empty"])
    (Dunmarked : Df K mg "unmarked" s_unmarked ["word"])
    (Dletter_count : Df K mg "letter_count" s_letter_count ["word", "letter"])
    (Dlength : Df K mg "length" s_length ["word"])
    (D_count : Df K mg "_count" s__count ["word", "letters"])
    (D_law_draws : Df K mg "_law_draws" s__law_draws ["_law_script"])
    (D_law_draw : Df K mg "_law_draw" s__law_draw ["_law_rng", "_law_many"])
    (D_law_pick : Df K mg "_law_pick" s__law_pick ["_law_rng", "_law_things"])
    (D_law_great : Df K mg "_law_great" s__law_great ["_law_rng"])
    (D_law_same : Df K mg "_law_same" s__law_same ["_law_found", "_law_due"])
    (D_law_tree : Df K mg "_law_tree" s__law_tree ["_law_rng", "_law_kit", "_law_deep"])
    (D_law_word : Df K mg "_law_word" s__law_word ["_law_rng"])
    (D_law_parts : Df K mg "_law_parts" s__law_parts ["_law_tree_here"])
    (D_law_count : Df K mg "_law_count" s__law_count ["_law_tree_here", "_law_letters"])
    (D_law_places : Df K mg "_law_places" s__law_places ["_law_tree_here"])
    (D_law_told : Df K mg "_law_told" s__law_told ["_law_count_here"])
    (D_law_marks : Df K mg "_law_marks" s__law_marks ["_law_rng", "_law_tree_here"])
    (D_law_wide : Df K mg "_law_wide" s__law_wide ["_law_rng"])
    (D_law_lower : Df K mg "_law_lower" s__law_lower ["_law_tree_here"])
    (Dlaw : Df K mg "law" s_law ["_law_script"]) :
    ∃ fd : FuncData, (∀ (s : Shared) (v : Value), BindsTo s fd ⟨[v], []⟩ [("_law_script", v)]) ∧ ∀ base : Heap, K.In base → base.Ns mainGlobals mg → FnOk P w K mg base CX0 31 fa fd ["_law_script"] (spLaw K) := by
  obtain ⟨_, mLETTERS, tk, rfl⟩ := hLETTERS
  obtain ⟨am, mMARKED, hM⟩ := hMARKED
  obtain ⟨ae, mEMPTY, hE⟩ := hEMPTY
  refine law_end Dlaw hmg (fun _ _ _ _ _ _ v => rfl) (fun base _ _ => ?_)
  have c_draw := ok_draw (P := P) (w := w) (base := base) D_law_draw bi
  have c_pick := ok_pick D_law_pick bi c_draw
  have c_great := ok_great D_law_great bi c_draw c_pick
  have c_tree := ok_tree D_law_tree bi c_draw c_pick 3
  have c_word := ok_word D_law_word bi c_draw c_tree
  have c_wide := ok_wide D_law_wide bi c_draw c_great c_word
  have c_marks := ok_marks D_law_marks bi c_draw 6
  have c_same := ok_same (P := P) (w := w) (base := base) D_law_same bi 20
  have c_cnt := ok_cnt (P := P) (w := w) (base := base) D_count bi 12
  have c_lc := ok_lc Dletter_count c_cnt
  have c_len := ok_len Dlength c_cnt mLETTERS mMARKED hM
  have c_parts := ok_parts (P := P) (w := w) (base := base) D_law_parts bi
  have c_lcnt := ok_lcnt D_law_count bi c_parts 12
  have c_places := ok_places D_law_places c_lcnt
  have c_told := ok_told (P := P) (w := w) (K := K) (base := base) D_law_told
  have c_lower := ok_lower (P := P) (w := w) (base := base) D_law_lower bi 12
  have c_unm := ok_unmarked (P := P) (w := w) (base := base) Dunmarked bi 12
  have c_draws := ok_draws (P := P) (w := w) (base := base) D_law_draws bi
  exact ok_law Dlaw bi mEMPTY hE c_draws c_wide c_marks c_same c_lc c_len c_told c_lcnt c_places c_unm c_lower Dletter_count
end
end SW

open PySem PySem.W PyProof.Rows
set_option maxRecDepth 100000 in
set_option maxHeartbeats 0 in
theorem PySem.Challenge.cw_scatterwords_k01_places_counted_holds : PySem.Challenge.rw_scatterwords_k01_places_counted.Holds := by
  w_on; o_law; k_head; (case hw => w_witness2)
  k_fill
  refine SW.walk (l := PySem.Challenge.rw_scatterwords_k01_places_counted) (k := 31) ⟨rfl, by decide, by decide⟩ rfl rfl (fun w h Y => PySem.W.kIn_of Y) ?F
  case F =>
    intro w mg fa h KX G hmg
    refine' SW.fin KX G hmg ?bi ?hLETTERS ?hMARKED ?hEMPTY ?Dunmarked ?Dletter_count ?Dlength ?D_count ?D_law_draws ?D_law_draw ?D_law_pick ?D_law_great ?D_law_same ?D_law_tree ?D_law_word ?D_law_parts ?D_law_count ?D_law_places ?D_law_told ?D_law_marks ?D_law_wide ?D_law_lower ?Dlaw
    case bi =>
      refine' ⟨PySem.W.mg_none_of KX G ?b0, PySem.W.mg_none_of KX G ?b1, PySem.W.mg_none_of KX G ?b2, PySem.W.mg_none_of KX G ?b3, PySem.W.mg_none_of KX G ?b4, PySem.W.mg_none_of KX G ?b5, PySem.W.mg_none_of KX G ?b6, PySem.W.mg_none_of KX G ?b7, PySem.W.mg_none_of KX G ?b8, PySem.W.mg_none_of KX G ?b9, PySem.W.mg_none_of KX G ?b10, PySem.W.mg_none_of KX G ?b11, PySem.W.mg_none_of KX G ?b12, PySem.W.mg_none_of KX G ?b13, PySem.W.mg_none_of KX G ?b14, PySem.W.mg_none_of KX G ?b15, PySem.W.mg_none_of KX G ?b16, PySem.W.mg_none_of KX G ?b17, PySem.W.mg_none_of KX G ?b18⟩
      (case b0 => k_is)
      (case b1 => k_is)
      (case b2 => k_is)
      (case b3 => k_is)
      (case b4 => k_is)
      (case b5 => k_is)
      (case b6 => k_is)
      (case b7 => k_is)
      (case b8 => k_is)
      (case b9 => k_is)
      (case b10 => k_is)
      (case b11 => k_is)
      (case b12 => k_is)
      (case b13 => k_is)
      (case b14 => k_is)
      (case b15 => k_is)
      (case b16 => k_is)
      (case b17 => k_is)
      (case b18 => k_is)
    case hLETTERS =>
      refine' ⟨_, PySem.W.mg_of KX G ?a, ?e⟩
      (case a => k_is); (case e => exact ⟨_, rfl⟩)
    case hMARKED =>
      refine' ⟨_, PySem.W.mg_of KX G ?a, SW.sqt_mk ?l ?c ?d ?s ?r⟩
      (case a => k_is); (case l => k_is); (case c => rfl); (case d => rfl); (case s => decide)
      (case r => exact .cons (SW.relstr (by decide +kernel)) (.cons (SW.relstr (by decide +kernel)) (.cons (SW.relstr (by decide +kernel)) .nil)))
    case hEMPTY =>
      refine' ⟨_, PySem.W.mg_of KX G ?a, SW.sqt_mk ?l ?c ?d ?s ?r⟩
      (case a => k_is); (case l => k_is); (case c => rfl); (case d => rfl); (case s => decide)
      (case r => exact .cons (SW.relstr (by decide +kernel)) .nil)
    case Dunmarked =>
      refine' SW.df_mk KX G ?a ?l ?c ?k (fun _ _ _ _ _ _ us hl => match us, hl with | [_], _ => rfl)
      (case a => k_is); (case l => k_is); (case c => k_is); (case k => k_is)
    case Dletter_count =>
      refine' SW.df_mk KX G ?a ?l ?c ?k (fun _ _ _ _ _ _ us hl => match us, hl with | [_, _], _ => rfl)
      (case a => k_is); (case l => k_is); (case c => k_is); (case k => k_is)
    case Dlength =>
      refine' SW.df_mk KX G ?a ?l ?c ?k (fun _ _ _ _ _ _ us hl => match us, hl with | [_], _ => rfl)
      (case a => k_is); (case l => k_is); (case c => k_is); (case k => k_is)
    case D_count =>
      refine' SW.df_mk KX G ?a ?l ?c ?k (fun _ _ _ _ _ _ us hl => match us, hl with | [_, _], _ => rfl)
      (case a => k_is); (case l => k_is); (case c => k_is); (case k => k_is)
    case D_law_draws =>
      refine' SW.df_mk KX G ?a ?l ?c ?k (fun _ _ _ _ _ _ us hl => match us, hl with | [_], _ => rfl)
      (case a => k_is); (case l => k_is); (case c => k_is); (case k => k_is)
    case D_law_draw =>
      refine' SW.df_mk KX G ?a ?l ?c ?k (fun _ _ _ _ _ _ us hl => match us, hl with | [_, _], _ => rfl)
      (case a => k_is); (case l => k_is); (case c => k_is); (case k => k_is)
    case D_law_pick =>
      refine' SW.df_mk KX G ?a ?l ?c ?k (fun _ _ _ _ _ _ us hl => match us, hl with | [_, _], _ => rfl)
      (case a => k_is); (case l => k_is); (case c => k_is); (case k => k_is)
    case D_law_great =>
      refine' SW.df_mk KX G ?a ?l ?c ?k (fun _ _ _ _ _ _ us hl => match us, hl with | [_], _ => rfl)
      (case a => k_is); (case l => k_is); (case c => k_is); (case k => k_is)
    case D_law_same =>
      refine' SW.df_mk KX G ?a ?l ?c ?k (fun _ _ _ _ _ _ us hl => match us, hl with | [_, _], _ => rfl)
      (case a => k_is); (case l => k_is); (case c => k_is); (case k => k_is)
    case D_law_tree =>
      refine' SW.df_mk KX G ?a ?l ?c ?k (fun _ _ _ _ _ _ us hl => match us, hl with | [_, _, _], _ => rfl)
      (case a => k_is); (case l => k_is); (case c => k_is); (case k => k_is)
    case D_law_word =>
      refine' SW.df_mk KX G ?a ?l ?c ?k (fun _ _ _ _ _ _ us hl => match us, hl with | [_], _ => rfl)
      (case a => k_is); (case l => k_is); (case c => k_is); (case k => k_is)
    case D_law_parts =>
      refine' SW.df_mk KX G ?a ?l ?c ?k (fun _ _ _ _ _ _ us hl => match us, hl with | [_], _ => rfl)
      (case a => k_is); (case l => k_is); (case c => k_is); (case k => k_is)
    case D_law_count =>
      refine' SW.df_mk KX G ?a ?l ?c ?k (fun _ _ _ _ _ _ us hl => match us, hl with | [_, _], _ => rfl)
      (case a => k_is); (case l => k_is); (case c => k_is); (case k => k_is)
    case D_law_places =>
      refine' SW.df_mk KX G ?a ?l ?c ?k (fun _ _ _ _ _ _ us hl => match us, hl with | [_], _ => rfl)
      (case a => k_is); (case l => k_is); (case c => k_is); (case k => k_is)
    case D_law_told =>
      refine' SW.df_mk KX G ?a ?l ?c ?k (fun _ _ _ _ _ _ us hl => match us, hl with | [_], _ => rfl)
      (case a => k_is); (case l => k_is); (case c => k_is); (case k => k_is)
    case D_law_marks =>
      refine' SW.df_mk KX G ?a ?l ?c ?k (fun _ _ _ _ _ _ us hl => match us, hl with | [_, _], _ => rfl)
      (case a => k_is); (case l => k_is); (case c => k_is); (case k => k_is)
    case D_law_wide =>
      refine' SW.df_mk KX G ?a ?l ?c ?k (fun _ _ _ _ _ _ us hl => match us, hl with | [_], _ => rfl)
      (case a => k_is); (case l => k_is); (case c => k_is); (case k => k_is)
    case D_law_lower =>
      refine' SW.df_mk KX G ?a ?l ?c ?k (fun _ _ _ _ _ _ us hl => match us, hl with | [_], _ => rfl)
      (case a => k_is); (case l => k_is); (case c => k_is); (case k => k_is)
    case Dlaw =>
      refine' SW.df_mk KX G ?a ?l ?c ?k (fun _ _ _ _ _ _ us hl => match us, hl with | [_], _ => rfl)
      (case a => k_is); (case l => k_is); (case c => k_is); (case k => k_is)
