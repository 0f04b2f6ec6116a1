import PyProof.Rows.All
import Wide.All
import OpenK.AllK
import Wide.FinOn
import HandS.ForMost
import HandS.IsInst
import HandS.Zip
import HandS.Wide
import HandS.Star
import HandS.Codes
import HandS.Exc
import HandS.TryMany
import HandS.ExcField
import HandS.ExcInit
import HandS.ExcIs
import HandS.ClsMeth
import HandS.Lambda
import KE.KTypeName
import HandS.HotCalls
import HandS.FStr
import HandS.Defaults
import HandS.Walk
import HandS.Rev
import HandS.More
import HandS.SetBool
import KE.KSetDisp
import PyProof.Rows.CallKwBuiltin
import HandS.HeadHook3
import KE.GoesEnum
import PyProof.EnumMake
import KE.IntTextLaws
import HandS.Steps
import HandS.StrMore
import HandS.Text
import HandS.TupAny
import HandS.SortInts
import PyProof.LongRange
import KE.KDflt
import HandS.EndTab
import PySem.Challenge.RW_scatterwords_k16_formula_texts_refused
set_option Elab.async false
set_option linter.all false
set_option maxRecDepth 100000
set_option maxHeartbeats 4000000
namespace SW
open PySem PySem.Spec PyProof.Rows L2

/-- a def that stands in the module -/
structure Df (K : PySem.W.Frag) (mg : Str → Option Value) (x : Str) (st : Stmt) (ps : List Str) : Prop where
  ex : ∃ f fd, Fun K x x st f fd ∧ mg x = some (.ref f) ∧ Binds K fd ps []
/-- a def that keeps a promise and can be called by its name -/
structure Cal (P : Program) (w : World) (K : PySem.W.Frag) (mg : Str → Option Value) (base : Heap) (k : Nat) (x : Str) (ps : List Str) (sp : Sp) : Prop where
  ex : ∃ f fd, FnOk P w K mg base CX0 k f fd ps sp ∧ mg x = some (.ref f) ∧ PySem.W.keepIn K (.ref f) = true ∧ Binds K fd ps [] ∧ ∃ oc od osl, K.lookup f = some ⟨oc, od, .func fd, osl⟩
/-- the built-in names that are not bound in the module -/
structure Bi (mg : Str → Option Value) : Prop where
  len : mg "len" = none
  int : mg "int" = none
  list : mg "list" = none
  tuple : mg "tuple" = none
  isinstance : mg "isinstance" = none
  zip : mg "zip" = none
  all : mg "all" = none
  sum : mg "sum" = none
  range : mg "range" = none
  str : mg "str" = none
  bool : mg "bool" = none
  reversed : mg "reversed" = none
  max : mg "max" = none
  sorted : mg "sorted" = none
  ord : mg "ord" = none
  min : mg "min" = none
  any : mg "any" = none
  dict : mg "dict" = none
  set : mg "set" = none
section
variable {P : Program} {w : World} {K : PySem.W.Frag} {mg : Str → Option Value} {base : Heap}
theorem Cal.imp {k : Nat} {x : Str} {ps : List Str} {sp sp' : Sp} (c : Cal P w K mg base k x ps sp) (h : ∀ vs H Q E, sp' vs H Q E → sp vs H Q E) : Cal P w K mg base k x ps sp' := by
  obtain ⟨f, fd, F, a, b, d⟩ := c.ex
  exact ⟨f, fd, F.imp h, a, b, d⟩
theorem Cal.mono {j k : Nat} {x : Str} {ps : List Str} {sp : Sp} (c : Cal P w K mg base j x ps sp) (h : j ≤ k) : Cal P w K mg base k x ps sp := by
  obtain ⟨f, fd, F, a, b, d⟩ := c.ex
  exact ⟨f, fd, F.mono h, a, b, d⟩
theorem Df.ok {x : Str} {st : Stmt} {N ps : List Str} {k : Nat} {sp : Sp} (D : Df K mg x st ps) (S : FnScope N ps (defScope st)) (len : ∀ vs H Q E, sp vs H Q E → vs.length = ps.length)
    (hbody : ∀ (f : Addr) (cdv : Value) (A : Around) (outer : List Env) (s : Shared) (H : Hp) (vs : List V) (Q : VK) (E : XK), Room k (A.deeper (envOfC x (defScope st) s.heap.objs.size f cdv)) → sp vs H Q E →
      ∃ t, PSs (cxOf CX0 P w K mg base N x (defScope st) f cdv A outer s H E).nox (defBody st) t ∧ t { nx := fun _ H' => Q .non H', rt := Q } (start N vs) H) : Cal P w K mg base (k + 1) x ps sp := by
  obtain ⟨f, fd, F, m, b⟩ := D.ex
  obtain ⟨oc, od, kV, doc, pm, an, cdv, ct, osl, _, lk, _⟩ := F.ex
  exact ⟨f, fd, F.ok S len fun cdv A outer s H vs Q E hr h => hbody f cdv A outer s H vs Q E hr h, m, F.kp, b, oc, od, osl, lk⟩
/-- a promise that asks what cannot be is kept by every def -/
theorem Df.no {x : Str} {st : Stmt} {ps : List Str} {k : Nat} {sp : Sp} (D : Df K mg x st ps) (h : ∀ vs H Q E, ¬ sp vs H Q E) : Cal P w K mg base k x ps sp := by
  obtain ⟨f, fd, F, m, b⟩ := D.ex
  obtain ⟨oc, od, kV, doc, pm, an, cdv, ct, osl, _, lk, _⟩ := F.ex
  exact ⟨f, fd, ⟨fun vs H Q E q => absurd q (h vs H Q E), fun A outer s H args us vs Q E _ _ _ _ q => absurd q (h vs H Q E)⟩, m, F.kp, b, oc, od, osl, lk⟩
end
section
variable {X : Cx} {k j : Nat} {x : Str} {ps : List Str} {sp : Sp} {p pos : Pos} {e : Expr} {es : List Expr} {t : TA}
theorem pe_own (c : Cal X.prog X.w X.K X.mg X.base k x ps sp) (hr : Room j X.A) (hk : k ≤ j) (hg : Gl X x) (ha : PA X (e :: es) t) (hdb : (x == ("__debug__" : Str)) = false := by decide)
    (he : starEach (e :: es) X.env = (false, eval e X.env) :: starEach es X.env := by rfl) (hpl : (backTo pos (starEach es X.env)).any (·.1) = false := by rfl) :
    PE X (.Call (.Name x p) (e :: es) [] pos) (tCall sp [] E0 t) := by
  obtain ⟨f, fd, F, hm, hK, hb, _⟩ := c.ex
  exact pe_call F (hr.mono hk) hg hm hK hb .nil pass0 ha hdb he hpl
end
section
variable {X : Cx} {k j : Nat} {x : Str} {ps ks : List Str} {sp : Sp} {p pos : Pos} {kws : List Keyword} {tk : TA} {st : Stmt} {g : List Value → List Value → List Value} {gV : List V → List V → List V} {e : Expr} {es : List Expr} {t : TA}
theorem kbinds {K : PySem.W.Frag} {mg : Str → Option Value} {f : Addr} {fd : FuncData} (D : Df K mg x st ps) (hm : mg x = some (.ref f)) (hl : ∃ oc od osl, K.lookup f = some ⟨oc, od, .func fd, osl⟩)
    (hb : ∀ (kV doc pm : Value) (an : Option Addr) (cdv ct : Value) (us ws : List Value), (g us ws).length = ps.length → bindArgs (PySem.W.fnOf x x (defArgs st) (defBody st) (defScope st) .none kV doc pm an cdv ct) ⟨us, ks.zip ws⟩ = pure (ps.zip (g us ws)))
    (hrel : ∀ {vs : List V} {us : List Value} {zs : List V} {ws : List Value}, Vals vs us → Vals zs ws → Vals (gV vs zs) (g us ws)) : KBinds K fd ps ks g gV := by
  obtain ⟨f', fd', F, m, b⟩ := D.ex
  have e : f' = f := by
    rw [hm] at m
    cases m
    rfl
  subst e
  obtain ⟨oc, od, kV, doc, pm, an, cdv, ct, osl, rfl, lk, _⟩ := F.ex
  obtain ⟨oc', od', osl', lk'⟩ := hl
  rw [lk] at lk'
  cases lk'
  exact ⟨fun s us ws _ hlen => .of_eq (hb kV doc pm an cdv ct us ws hlen), hrel⟩
/-- a call with keywords alone -/
theorem pe_ownK0 (c : Cal X.prog X.w X.K X.mg X.base k x ps sp) (D : Df X.K X.mg x st ps) (hr : Room j X.A) (hk : k ≤ j) (hg : Gl X x)
    (hb : ∀ (kV doc pm : Value) (an : Option Addr) (cdv ct : Value) (us ws : List Value), (g us ws).length = ps.length → bindArgs (PySem.W.fnOf x x (defArgs st) (defBody st) (defScope st) .none kV doc pm an cdv ct) ⟨us, ks.zip ws⟩ = pure (ps.zip (g us ws)))
    (hrel : ∀ {vs : List V} {us : List Value} {zs : List V} {ws : List Value}, Vals vs us → Vals zs ws → Vals (gV vs zs) (g us ws)) (hkw : PK X kws tk) (hall : (backToKw pos (keywordEach kws X.env)).all (·.1.isSome) = true := by rfl) (hks : (backToKw pos (keywordEach kws X.env)).filterMap (·.1) = ks := by rfl)
    (hdb : (x == ("__debug__" : Str)) = false := by decide)
    (hpl : ((backTo pos (starEach [] X.env)).any (·.1) || (backToKw pos (keywordEach kws X.env)).any (·.1.isNone)) = false := by rfl) :
    PE X (.Call (.Name x p) [] kws pos) (tCallK sp gV E0 tNil tk) := by
  obtain ⟨f, fd, F, hm, hK, _, hl⟩ := c.ex
  have hb' : KBinds X.K fd ps ks g gV := kbinds D hm hl hb hrel
  refine ⟨fun pins s σ H Q I h => ?_⟩
  refine wpAny_Call_Name_kw (ld_glob I hg hm ?_ hdb)
  refine PySem.W.callWith_KW0 (h₀ := X.base) I.ok.mod.kin hK hall (thn (hkw.run pos pins s σ H _ I h) fun ws s2 ⟨zs, H2, I2, rz, q2⟩ => ⟨I2.kIn, ?_⟩) hpl
  rw [hks]
  exact run_fnk (F.mono hk) hr hb' pass0 I2 .nil rz q2
/-- a call with places and keywords -/
theorem pe_ownK (c : Cal X.prog X.w X.K X.mg X.base k x ps sp) (D : Df X.K X.mg x st ps) (hr : Room j X.A) (hk : k ≤ j) (hg : Gl X x)
    (hb : ∀ (kV doc pm : Value) (an : Option Addr) (cdv ct : Value) (us ws : List Value), (g us ws).length = ps.length → bindArgs (PySem.W.fnOf x x (defArgs st) (defBody st) (defScope st) .none kV doc pm an cdv ct) ⟨us, ks.zip ws⟩ = pure (ps.zip (g us ws)))
    (hrel : ∀ {vs : List V} {us : List Value} {zs : List V} {ws : List Value}, Vals vs us → Vals zs ws → Vals (gV vs zs) (g us ws)) (ha : PA X (e :: es) t) (hkw : PK X kws tk) (hall : (backToKw pos (keywordEach kws X.env)).all (·.1.isSome) = true := by rfl) (hks : (backToKw pos (keywordEach kws X.env)).filterMap (·.1) = ks := by rfl)
    (hdb : (x == ("__debug__" : Str)) = false := by decide) (he : starEach (e :: es) X.env = (false, eval e X.env) :: starEach es X.env := by rfl)
    (hpl : ((backTo pos (starEach (e :: es) X.env)).any (·.1) || (backToKw pos (keywordEach kws X.env)).any (·.1.isNone)) = false := by rfl) :
    PE X (.Call (.Name x p) (e :: es) kws pos) (tCallK sp gV E0 t tk) := by
  obtain ⟨f, fd, F, hm, hK, _, hl⟩ := c.ex
  exact pe_callK (F.mono hk) hr hg hm hK (kbinds D hm hl hb hrel) pass0 ha hkw hall hks hdb he hpl
end
/-! ### how keywords come to their places -/
def g1 {α : Type} : List α → List α → List α
  | [], [a] => [a]
  | _, _ => []
def g2 {α : Type} : List α → List α → List α
  | [], [a, b] => [a, b]
  | _, _ => []
def g2s {α : Type} : List α → List α → List α
  | [], [a, b] => [b, a]
  | _, _ => []
def g11 {α : Type} : List α → List α → List α
  | [a], [b] => [a, b]
  | _, _ => []
theorem g1_inv {α : Type} {us ws : List α} (h : (g1 us ws).length = 1) : ∃ a, us = [] ∧ ws = [a] := by
  unfold g1 at h
  split at h
  · exact ⟨_, rfl, rfl⟩
  · cases h
theorem g2_inv {α : Type} {us ws : List α} (h : (g2 us ws).length = 2) : ∃ a b, us = [] ∧ ws = [a, b] := by
  unfold g2 at h
  split at h
  · exact ⟨_, _, rfl, rfl⟩
  · cases h
theorem g2s_inv {α : Type} {us ws : List α} (h : (g2s us ws).length = 2) : ∃ a b, us = [] ∧ ws = [a, b] := by
  unfold g2s at h
  split at h
  · exact ⟨_, _, rfl, rfl⟩
  · cases h
theorem g11_inv {α : Type} {us ws : List α} (h : (g11 us ws).length = 2) : ∃ a b, us = [a] ∧ ws = [b] := by
  unfold g11 at h
  split at h
  · exact ⟨_, _, rfl, rfl⟩
  · cases h
theorem g1_rel {vs : List V} {us : List Value} {zs : List V} {ws : List Value} (a : Vals vs us) (b : Vals zs ws) : Vals (g1 vs zs) (g1 us ws) := by
  cases a <;> cases b <;> try exact .nil
  rename_i t
  cases t
  · exact .cons ‹_› .nil
  · exact .nil
theorem g2_rel {vs : List V} {us : List Value} {zs : List V} {ws : List Value} (a : Vals vs us) (b : Vals zs ws) : Vals (g2 vs zs) (g2 us ws) := by
  cases a with
  | cons r t => exact .nil
  | nil =>
    cases b with
    | nil => exact .nil
    | cons r t =>
      cases t with
      | nil => exact .nil
      | cons r2 t =>
        cases t with
        | nil => exact .cons r (.cons r2 .nil)
        | cons _ _ => exact .nil
theorem g2s_rel {vs : List V} {us : List Value} {zs : List V} {ws : List Value} (a : Vals vs us) (b : Vals zs ws) : Vals (g2s vs zs) (g2s us ws) := by
  cases a with
  | cons r t => exact .nil
  | nil =>
    cases b with
    | nil => exact .nil
    | cons r t =>
      cases t with
      | nil => exact .nil
      | cons r2 t =>
        cases t with
        | nil => exact .cons r2 (.cons r .nil)
        | cons _ _ => exact .nil
theorem g11_rel {vs : List V} {us : List Value} {zs : List V} {ws : List Value} (a : Vals vs us) (b : Vals zs ws) : Vals (g11 vs zs) (g11 us ws) := by
  cases a with
  | nil => exact .nil
  | cons r t =>
    cases t with
    | cons _ _ => exact .nil
    | nil =>
      cases b with
      | nil => exact .nil
      | cons r2 t2 =>
        cases t2 with
        | nil => exact .cons r (.cons r2 .nil)
        | cons _ _ => exact .nil
/-! ### heaps -/
/-- all that was tracked, but what stands at r, is as it was -/
def Kp (r : Addr) (H H' : Hp) : Prop := ∀ b o, b ≠ r → H b = some o → H' b = some o
theorem Kp.refl (r : Addr) (H : Hp) : Kp r H H := fun _ _ _ h => h
theorem Kp.trans {r : Addr} {H H1 H2 : Hp} (a : Kp r H H1) (b : Kp r H1 H2) : Kp r H H2 := fun c o n h => b c o n (a c o n h)
theorem Kp.new {r p : Addr} {H : Hp} {o : HO} (h : H p = none) : Kp r H (upd H p o) := fun b u _ e => by
  rw [upd_ne (ne_of_none e h)]
  exact e
theorem Kp.at {r : Addr} {H : Hp} {o : HO} : Kp r H (upd H r o) := fun b u n e => by
  rw [upd_ne n]
  exact e
theorem Kp.free {r p : Addr} {H H' : Hp} (a : Kp r H H') (n : p ≠ r) (h : H' p = none) : H p = none := by
  cases q : H p with
  | none => rfl
  | some o =>
    rw [a p o n q] at h
    cases h
/-- the generator's list at r, its script at l -/
def Rng (H : Hp) (r l : Addr) : Prop := ∃ (ns : List Int) (i d st c : Int), H r = some (.lst [.ref l, .int i, .int d, .int st, .int c]) ∧ H l = some (.lst (ns.map V.int)) ∧ 0 ≤ i ∧ l ≠ r
theorem Rng.new {H : Hp} {r l p : Addr} {o : HO} (g : Rng H r l) (h : H p = none) : Rng (upd H p o) r l := by
  obtain ⟨ns, i, d, st, c, h1, h2, h3, h4⟩ := g
  exact ⟨ns, i, d, st, c, by rw [upd_ne (ne_of_none h1 h)]; exact h1, by rw [upd_ne (ne_of_none h2 h)]; exact h2, h3, h4⟩
theorem Rng.kp {H H' : Hp} {r l : Addr} {x y z : V} (g : Rng H r l) (k : Kp r H H') {v : List V} (h : H' r = H r) : Rng H' r l := by
  obtain ⟨ns, i, d, st, c, h1, h2, h3, h4⟩ := g
  exact ⟨ns, i, d, st, c, h.trans h1, k _ _ h4 h2, h3, h4⟩
end SW

set_option Elab.async false
set_option linter.all false
set_option maxRecDepth 100000
set_option maxHeartbeats 4000000
namespace SW
open PySem PySem.Spec PyProof.Rows L2

/-! ### a try with several clauses, each of which names what it caught -/
abbrev Cls1 := Value × (Addr → Value → Option Addr → TS)
def wAsL (K : PySem.W.Frag) (i : Nat) (Wout : WX) (D : Ends) : List Cls1 → WX
  | [] => Wout
  | cl :: rest => wAs K cl.1 i cl.2 (wAsL K i Wout D rest) D
inductive AsOk (X : Cx) (nm : Str) : List ExceptHandler → List Cls1 → Prop
  | none : AsOk X nm [] []
  | some {y : Str} {cv : Value} {tsu : Addr → Value → Option Addr → TS} {st : Stmt} {sts : List Stmt} {q1 q2 : Pos} {more : List ExceptHandler} {ls : List Cls1}
      (known : Names X y cv)
      (body : ∀ (b : Addr) (ob : Obj) (k : Value) (dd : Option Addr) (pl : List (Addr × Obj)),
        Zc k dd ob → (∃ w, ob.data = .fields w) → PSs (X.suite b ((b, ob) :: pl)) (st :: sts) (tsu b k dd))
      (tail : AsOk X nm more ls) :
      AsOk X nm (.ExceptHandler (some (.Name y q1)) (some nm) (st :: sts) q2 :: more) ((cv, tsu) :: ls)

section
variable {X : Cx} {nm : Str} {i : Nat} {Wout : WX} {D : Ends} {pins : List (Addr × Obj)} {σ : L2.St} {H : Hp}
  {sB : Shared} {s1 : Shared} {B h3 : Heap} {a : Addr} {cls : Value} {d : Option Addr}

/-- what is known of an exception that has landed in the frame of the try -/
structure Down (X : Cx) (pins : List (Addr × Obj)) (σ : L2.St) (H : Hp) (B : Heap) (sB s1 : Shared) (a : Addr) (cls : Value) (d : Option Addr) (h3 : Heap) : Prop where
  inv : Inv X pins σ H sB
  old : ∀ b o, sB.heap.get? b = some o → b ∉ frs X.stack → B.get? b = some o
  up : sB.heap.UpToSlots h3
  free : H a = none
  os : s1.os = sB.os
  bare : AllBare s1.gens
  fly : HandSPX.FlyingZ B (X.env :: X.outer) a (Zc cls d) h3

theorem Down.at_ (w : Down X pins σ H B sB s1 a cls d h3) : Inv X pins σ H { s1 with heap := h3 } :=
  w.inv.landed (s' := { s1 with heap := h3 }) w.old w.fly.1 w.up w.os w.bare
theorem Down.notFrame (w : Down X pins σ H B sB s1 a cls d h3) : a ∉ frs (X.env :: X.outer) := by
  intro hm
  obtain ⟨ob, vv, p1, _, p3⟩ := w.fly.there
  obtain ⟨_, o2, p4, p5⟩ := (w.fly.2.2.1).mem hm
  rw [p1] at p4
  cases p4
  exact p5 _ p3
theorem Down.notLocals (w : Down X pins σ H B sB s1 a cls d h3) (hf : X.env.frame = some X.env.locals) : a ≠ X.env.locals :=
  fun z => w.notFrame (List.mem_filterMap.mpr ⟨X.env, List.mem_cons_self, z ▸ hf⟩)
theorem Down.notFs (w : Down X pins σ H B sB s1 a cls d h3) : a ∉ X.fs := fun hm => by
  obtain ⟨en, p1, p2⟩ := List.mem_filterMap.mp hm
  exact w.notFrame (List.mem_filterMap.mpr ⟨en, List.mem_cons_of_mem _ p1, p2⟩)

theorem Down.clauses (hs : X.stack = X.env :: X.outer) (hf : X.env.frame = some X.env.locals) (hN : X.N.Nodup) (hi : X.N[i]? = some nm) (hln : X.env.kindOf nm = some .local)
    (tk : Takes X Wout) {hl : List ExceptHandler} {ls : List Cls1} (ok : AsOk X nm hl ls) (w : Down X pins σ H B sB s1 a cls d h3) (wish : wAsL X.K i Wout D ls cls d σ H) :
    wpAny (model X.prog X.w) X.A (handleBy (.ref a) X.env hl) (SP X pins D) X.xe { s1 with heap := h3 } := by
  have okX := w.inv.ok
  induction ok with
  | none =>
    refine wpAny_handleBy_nil ?_
    obtain ⟨_, _, _, ob, vv, T, _, _, p1, _, p3, p4, _⟩ := id w.fly
    unfold PySem.passOn
    refine wpAny_bind (wpAny_field p1 p3 p4 ?_)
    rw [if_neg (by simp : ¬ ((Value.ref T == Value.none) = true))]
    have last : wpAny (model X.prog X.w) X.A (setFlight (.ref a) X.env.frame)
        (fun _ s4 => wpAny (model X.prog X.w) X.A (throw (.ref a) : Sem Flow) (SP X pins D) X.xe s4) X.xe { s1 with heap := h3 } := by
      rw [hf]
      refine HandSPX.setFlight_upZ w.fly fun hx held more => wpAny_throw (tk _ _ ?_)
      exact ⟨a, B, sB, pins, σ, H, cls, d, rfl, w.inv, w.old, w.up.trans more, .inr (.inr (hs ▸ held)), w.free, w.os, w.bare, wish⟩
    first
    | exact wpAny_bind last
    | exact wpAny_bind (wpAny_pure (wpAny_bind last))
  | @some y cv tsu st sts q1 q2 more ls known body tail ih =>
    obtain ⟨yes, hit, onYes, onNo⟩ := wish
    obtain ⟨ob, vv, p1, p2, p3⟩ := w.fly.there
    have S := w.at_.suite p1 p3 w.free (w.notLocals hf) w.notFs
    refine wpAny_handleBy_cons (codeAny_handlers_test ?_) (fun q => nomatch q)
    have typ : PySem.W.Looks (model X.prog X.w) h3 (typeOf (.ref a)) cls :=
      fun _ _ _ _ k q => wpAny_typeOf_ref (k _ _ p1) (by rw [p2.1]; exact q)
    have meets := PySem.W.exm_one (M := model X.prog X.w) w.at_.kIn typ hit
    have name : ∀ {Q : Value → Shared → Prop} {E : Value → Shared → Prop}, Q cv { s1 with heap := h3 } →
        wpAny (model X.prog X.w) (X.A.mark (some (.ref a))) (eval (.Name y q1) X.env) Q E { s1 with heap := h3 } := by
      intro Q E q
      obtain ⟨g1, g2, g3⟩ := known
      rcases g3 with g3 | ⟨g3, g4, g5⟩
      · exact ld_glob (X := X.suite a ((a, ob) :: (X.pn ++ pins))) S g1 g3 q g2
      · exact ld_blt (X := X.suite a ((a, ob) :: (X.pn ++ pins))) S g1 g3 g4 q g5 g2
    refine name (meets.here ?_)
    cases yes with
    | false => exact ih (onNo rfl)
    | true =>
      refine codeAny_handlers_suite_as (HandSPX.lands_againZ w.fly fun h4 fl4 up4 => ?_)
      have w4 : Down X pins σ H B sB s1 a cls d h4 := { w with up := w.up.trans up4, fly := fl4 }
      obtain ⟨o4, v4, r1, r2, r3⟩ := fl4.there
      have S4 := w4.at_.suite r1 r3 w.free (w.notLocals hf) w.notFs
      refine store_ok (X := X.suite a ((a, o4) :: (X.pn ++ pins))) (v := .ref a) S4 hN hi (Or.inl hln) rfl (fun s5 S5 => ?_) (.inr hln)
      have run := (body a o4 cls d (X.pn ++ pins) r2 ⟨_, r3⟩).run [] s5 _ H _ S5 (onYes rfl a w.free)
      have after : ∀ {τ : L2.St} {G : Hp} {Q : Shared → Prop} {s6 : Shared}, Inv (X.suite a ((a, o4) :: (X.pn ++ pins))) [] τ G s6 →
          (∀ s7, Inv X pins (τ.set i none) G s7 → Q s7) →
          wpAny (model X.prog X.w) X.A (do bindName X.env nm .none; unbindBehindTheSuite X.env nm q2) (fun _ s7 => Q s7) X.xe s6 :=
        fun S6 hq => gone_ok (S6.unsuite okX) hN hi hln hq
      refine wpAny_mono run (fun f s6 out => ?_) (fun _ _ z => z.elim)
      cases f with
      | ret u =>
        obtain ⟨v6, τ, G, S6, r6, q6⟩ := out
        exact after S6 fun s7 J => ⟨_, _, _, J, r6, q6⟩
      | next =>
        obtain ⟨τ, G, S6, q6⟩ := out
        exact after S6 fun s7 J => ⟨_, _, J, q6⟩
      | brk =>
        obtain ⟨τ, G, S6, q6⟩ := out
        exact after S6 fun s7 J => ⟨_, _, J, q6⟩
      | cont =>
        obtain ⟨τ, G, S6, q6⟩ := out
        exact after S6 fun s7 J => ⟨_, _, J, q6⟩
end

section
variable {X : Cx} {nm : Str} {i : Nat} {Wout : WX} {body : List Stmt} {hd0 : ExceptHandler} {hl : List ExceptHandler} {ls : List Cls1} {pos : Pos} {tb : WX → TS}
/-- try: body / except A as e: .. / except B as e: .. -/
theorem ps_try_asL (hs : X.stack = X.env :: X.outer) (hf : X.env.frame = some X.env.locals) (hN : X.N.Nodup) (hi : X.N[i]? = some nm) (hln : X.env.kindOf nm = some .local) (tk : Takes X Wout)
    (hb : ∀ (W : WX) (pl : List (Addr × Obj)) (xe : Value → Shared → Prop), Takes (X.tr pl xe) W → PassesOwn (model X.prog X.w) X.A X.env xe → PSs (X.tr pl xe) body (tb W))
    (ok : AsOk X nm (hd0 :: hl) ls) : PS X (.Try body (hd0 :: hl) [] [] pos) (fun D σ H => tb (wAsL X.K i Wout D ls) D σ H) := by
  refine ⟨fun pins s σ H D I h => wpAny_Try_except ?_⟩
  have okX := I.ok
  have here : X.A.frames = some (X.env :: X.outer) := okX.frames.trans (congrArg some hs)
  have inner := (hb (wAsL X.K i Wout D ls) (X.pn ++ pins)
    (fun e s₁ => wpAny (model X.prog X.w) X.A (noteFrame e X.env) (fun _ s₂ => wpAny (model X.prog X.w) X.A (setFlight e none)
      (fun _ s₃ => wpAny (model X.prog X.w) X.A (handleBy e X.env (hd0 :: hl)) (SP X pins D) X.xe s₃) X.xe s₂) X.xe s₁)
    (fun u s' caught => ?_) PassesOwn.looking).run [] s σ H D (I.toTry _) h
  · refine wpAny_mono inner (fun f s1 out => ?_) (fun _ _ z => z)
    cases f with
    | ret u =>
      obtain ⟨v, τ, G, J, r, q⟩ := out
      exact ⟨v, τ, G, J.ofTry okX, r, q⟩
    | next =>
      obtain ⟨τ, G, J, q⟩ := out
      exact wpAny_execs_nil ⟨τ, G, J.ofTry okX, q⟩
    | brk =>
      obtain ⟨τ, G, J, q⟩ := out
      exact ⟨τ, G, J.ofTry okX, q⟩
    | cont =>
      obtain ⟨τ, G, J, q⟩ := out
      exact ⟨τ, G, J.ofTry okX, q⟩
  · obtain ⟨a, B, sB, _, τ, G, cls, d, rfl, J, old, up, sky, free, os, bare, wish⟩ := caught
    have sky2 : Sky B (X.env :: X.outer) a (Zc cls d) X.env.locals s'.heap := hs ▸ sky
    show wpAny (model X.prog X.w) X.A (noteFrame (.ref a) X.env) _ _ _
    refine Sky.land Zc.steady here hf sky2 fun h3 fly more => ?_
    exact Down.clauses hs hf hN hi hln tk ok ⟨J.ofTry okX, old, up.trans more, free, os, bare, fly⟩ wish
end
end SW

set_option Elab.async false
set_option linter.all false
set_option maxRecDepth 100000
set_option maxHeartbeats 4000000
namespace PySem.W
open PySem PySem.Spec PySem.Calls PyProof.Rows Builtin Builtin.ObjectAttr Builtin.Getset_descriptor
/-! ### e.__class__ of an exception, C.__name__ of a class of the program -/
/-- the class object at C keeps its name's own text -/
def nameIn (K : Frag) (C : Addr) (n : Str) : Bool := match K.lookup C with
  | some ⟨_, _, Data.cls _, sl⟩ => (match (sl[2]?).join with | some (Value.str m _) => m == n | _ => false)
  | _ => false
section
variable {prog : Program} {w : World} {A : Around} {E : Value → Shared → Prop} {s : Shared} {K : Frag} {x C : Addr} {ox : Obj}
theorem name_slot {h : Heap} {n : Str} (X : K.In h) (q : nameIn K C n = true) : ∃ ob tk, h.get? C = some ob ∧ (ob.slots[2]?).join = some (.str n tk) := by
  unfold nameIn at q
  split at q
  · rename_i c0 d0 cd sl ho
    split at q
    · rename_i m tk hs
      rw [beq_iff_eq] at q
      exact ⟨_, tk, X _ _ ho, q ▸ hs⟩
    · cases q
  · cases q
theorem name_get {R : Result → Shared → Prop} {n : Str} {tp : Value} (X : K.In s.heap) (ty : typeIn K (.ref C) = some (.type "type")) (q : nameIn K C n = true)
    (h : ∀ tk, R (.ok (.ret (.str n tk))) s) : codeAny (model prog w) A (.call (.builtin "getset_descriptor.__get__") ⟨[.builtin "type.__name__", .ref C, tp], []⟩) R s := by
  obtain ⟨ob, tk, hC, hs⟩ := name_slot X q
  have LT : Looks (model prog w) s.heap (typeOf (.ref C)) (.type "type") := looks_typeIn X ty
  have LS : Looks (model prog w) s.heap (isSubtype (.type "type") (.type "type")) true := Looks.of_pure (by rw [isSubtype_type]; kernel_rfl)
  obtain ⟨hh, g, dr, t, os⟩ := s
  refine codeAny_call_builtin KF.slot_gs.plain KF.entry_gs
    (KF.slot_gs.check _ _ _ _ _ _ _ _ ktyn_type (KF.args_gs _ _ _) ?_)
  unfold Builtin.«getset_descriptor.__get__»
  unfold descrGet
  have args : descrGetArgs ⟨[Value.builtin "type.__name__", .ref C, tp], []⟩ = pure (.builtin "type.__name__", some (.ref C), given tp) := by kernel_rfl
  rw [args]
  refine wpAny_bind (wpAny_pure ?_)
  unfold descrGetter descrCheckInstance
  unfold descrNameAndClass isInstance
  simp only [ktyn_owner]
  repeat lk
  refine ⟨Code.quiet_builtin _ (by decide +kernel),
    codeAny_builtin ktyn_entry ?_⟩
  unfold Builtin.«type.__name__»
  show wpAny _ _ (keptObject (.ref C) 2 "__name__" _) _ _ _
  unfold keptObject slotAt
  refine wpAny_bind (wpAny_bind (wpAny_loadPart hC (wpAny_pure ?_)))
  rw [hs]
  exact wpAny_pure (h tk)
/-- C.__name__ -/
theorem name_attr {n : Str} {expr : Bool} {Q : Value → Shared → Prop} (X : K.In s.heap) (rd : readsIn K C (.type "type") = true) (ty : typeIn K (.ref C) = some (.type "type")) (q : nameIn K C n = true)
    (f : findCls K (.ref C) (.type "type") "__name__" = some (.get (.builtin "getset_descriptor.__get__") (.builtin "type.__name__") (.ref C) (.type "type")))
    (h : ∀ tk u, Q (.str n tk) { s with toks := u }) : wpAny (model prog w) A (getAttr (.ref C) "__name__" expr) Q E s :=
  cls_bind X rd f (wpAny_call (name_get (s := { s with toks := s.toks + 1 }) X ty q fun tk => handed_on rfl (h tk _)))
/-- x.__class__, x an exception of the class at C -/
theorem class_attr {od : Option Obj} {expr : Bool} {Q : Value → Shared → Prop} (X : K.In s.heap) (I : InstAt s.heap x ox C od)
    (hga : findIn K (.ref C) "__getattribute__" = some (some (.builtin "BaseException.__getattribute__"))) (hgt : findIn K (.ref C) "__getattr__" = some none)
    (hsub : subIn K (.ref C) (.type "BaseException") = some true) (hf : findObj K C od "__class__" = some (.bind (.builtin "getset_descriptor.__get__") (.builtin "object.__class__")))
    (hm : mroIn K C (.type "object") = some true) (h : Q (.ref C) { s with toks := s.toks + 1 }) : wpAny (model prog w) A (getAttr (.ref x) "__class__" expr) Q E s := by
  obtain ⟨hp, gs, dr, tk, os⟩ := s
  have typ := I.type (M := model prog w)
  have lGa := looks_findIn (M := model prog w) X hga
  have lGt := looks_findIn (M := model prog w) X hgt
  have lFind := looks_find (M := model prog w) X I hf
  have isE : Looks (model prog w) hp (isInstance (.ref x) (.type "BaseException")) true := typ.andThen (looks_subIn X hsub)
  have ne1 : (Value.builtin "BaseException.__getattribute__" == Value.builtin "object.__getattribute__") = false := by decide +kernel
  unfold getAttr getAttrBy
  refine wpAny_bind (wpAny_mkText (wpAny_holding
    (wpAny_bind (typ.at (wpAny_bind (lGa.at ?_))))))
  have ne2 : (onTheHeap (Value.ref C) && Value.builtin "BaseException.__getattribute__" == Value.builtin "object.__getattribute__") = false := by rw [ne1, Bool.and_false]
  dsimp only
  rw [ne2, if_neg (by decide)]
  unfold getAttrByItsOwn hookBefore
  refine wpAny_bind ?_
  have onH : onTheHeap (Value.ref C) = true := rfl
  rw [if_pos onH]
  refine lGt.at (wpAny_bind (wpAny_attempt (wpAny_holding ?_)))
  unfold callGetattribute
  have ne3 : (expr && onTheHeap (Value.builtin "BaseException.__getattribute__")) = false := by cases expr <;> rfl
  rw [ne3, if_neg (by decide)]
  unfold boundAndCalled
  rw [PySem.F.excAttr_ValueError.ga.bind (Value.ref x)]
  refine wpAny_bind (wpAny_pure (wpAny_call ?_))
  refine codeAny_call_builtin PySem.F.excAttr_ValueError.ga.plain PySem.F.entry_bexc_ga (@check_slot (model prog w) _ _ ⟨hp, gs, dr, tk + 1, os⟩
    "BaseException.__getattribute__" "BaseException" "__getattribute__" (.ref x) [.str "__class__" tk] [] _ (by decide +kernel) (by decide +kernel) isE
    (PySem.F.args_bexc_ga (.ref x) (.str "__class__" tk)) ?_)
  unfold Builtin.«object.__getattribute__»
  refine wpAny_bind (wpAny_of_eq (a := ((.ref x : Value), [(.str "__class__" tk : Value)]))
    (by first | rfl | (simp only [slotArgs]; rfl)) (wpAny_bind (wpAny_pure (wpAny_bind (typ.at (wpAny_bind (lFind.at ?_)))))))
  show wpAny _ _ (holding [Value.builtin "object.__class__"] (call (.builtin "getset_descriptor.__get__") [.builtin "object.__class__", .ref x, .ref C]) >>= ret) _ _ _
  refine wpAny_bind (wpAny_holding (wpAny_call (class_get (s := ⟨hp, gs, dr, tk + 1, os⟩) X I hm (wpAny_pure ?_))))
  exact handed_on rfl h
end
end PySem.W

set_option Elab.async false
set_option linter.all false
set_option maxRecDepth 100000
set_option maxHeartbeats 4000000
namespace SW
open PySem PySem.Spec PyProof.Rows L2

/-- what the class at C must say for its new instances' own class and for its name -/
structure ClsN (K : PySem.W.Frag) (C : Addr) (n : Str) : Prop where
  rd : PySem.W.readsIn K C (.type "type") = true
  ty : PySem.W.typeIn K (.ref C) = some (.type "type")
  nm : PySem.W.nameIn K C n = true
  fd : PySem.W.findCls K (.ref C) (.type "type") "__name__" = some (.get (.builtin "getset_descriptor.__get__") (.builtin "type.__name__") (.ref C) (.type "type"))
  ga : PySem.W.findIn K (.ref C) "__getattribute__" = some (some (.builtin "BaseException.__getattribute__"))
  gt : PySem.W.findIn K (.ref C) "__getattr__" = some none
  ex : PySem.W.subIn K (.ref C) (.type "BaseException") = some true
  ob : PySem.W.findObj K C none "__class__" = some (.bind (.builtin "getset_descriptor.__get__") (.builtin "object.__class__"))
  mr : PySem.W.mroIn K C (.type "object") = some true

/-- e.__class__.__name__, e an exception that is being made, nothing of it stored yet -/
def tNameOf (K : PySem.W.Frag) (te : TE) : TE := fun σ H Q => te σ H fun x H1 => ∃ a C n, x = .ref a ∧ H1 a = some (exo a C none) ∧ ClsN K C n ∧ Q (.str n) H1
section
variable {X : Cx} {e : Expr} {te : TE} {p1 p2 : Pos}
theorem pe_nameof (he : PE X e te) (hb : attributeBase e "__class__" X.env (eval e X.env) = eval e X.env := by rfl)
    (hb2 : attributeBase (.Attribute e "__class__" p1) "__name__" X.env (eval (.Attribute e "__class__" p1) X.env) = eval (.Attribute e "__class__" p1) X.env := by rfl) :
    PE X (.Attribute (.Attribute e "__class__" p1) "__name__" p2) (tNameOf X.K te) := by
  refine ⟨fun pins s σ H Q I h => attr_of hb2 (attr_of hb (thn (he.run pins s σ H _ I h) fun u s1 hh => ?_))⟩
  obtain ⟨x, H1, I1, rx, a, C, n, ex, ea, c, q⟩ := hh
  subst ex
  obtain rfl : u = Value.ref a := rx
  obtain ⟨t1, ho⟩ := exo_at I1.hok ea
  have J : PySem.W.InstAt s1.heap a { cls := .ref C, dict := none, data := .fields #[.ref t1, .none, .none, .none, .bool false, .none] } C none := ⟨ho, rfl, rfl, trivial⟩
  refine PySem.W.class_attr I1.kIn J c.ga c.gt c.ex c.ob c.mr ?_
  have I2 : Inv X pins σ H1 { s1 with toks := s1.toks + 1 } := I1.tok _
  exact PySem.W.name_attr I2.kIn c.rd c.ty c.nm c.fd fun tk u => ⟨.str n, H1, I2.tok u, ⟨tk, rfl⟩, q⟩
end

/-! ### B.m(e, ..): a def read off a class -/
section
variable {X : Cx} {CX : CXT} {k : Nat} {f B : Addr} {fd : FuncData} {ps : List Str} {sp : Sp} {dvs : List V} {ds : List Value} {E : XK} {x m : Str} {p apos pos : Pos} {e : Expr} {es : List Expr} {t : TA} {pl : Sem Bool}
theorem pe_clsfn (F : FnOk X.prog X.w X.K X.mg X.base CX k f fd ps sp) (hr : Room k X.A) (hg : Gl X x) (hm : X.mg x = some (.ref B)) (hk : PySem.W.keepIn X.K (.ref f) = true) (hb : Binds X.K fd ps ds) (hd : Vals dvs ds) (hx : Passes CX X E)
    (rd : PySem.W.readsIn X.K B (.type "type") = true) (sg : PySem.W.specialIn X.K (.ref B) "__getattribute__" = some (some (.builtin "type.__getattribute__")))
    (ff : PySem.W.findCls X.K (.ref B) (.type "type") m = some (.val (.ref f)))
    (ha : PA X (e :: es) t) (hdb : (x == ("__debug__" : Str)) = false := by decide) (he : starEach (e :: es) X.env = (false, eval e X.env) :: starEach es X.env := by rfl)
    (hpl : (backTo pos (starEach es X.env)).any (·.1) = false := by rfl)
    (hc : eval (.Call (.Attribute (.Name x p) m apos) (e :: es) [] pos) X.env = (do
      let ov ← eval (.Name x p) X.env
      standAt apos.atName
      let (f, first) ← holding [ov] (getMethod ov m pl)
      callWith pos f first (backTo pos (starEach (e :: es) X.env)) (backToKw pos (keywordEach [] X.env))) := by rfl) :
    PE X (.Call (.Attribute (.Name x p) m apos) (e :: es) [] pos) (tCall sp dvs E t) := by
  refine ⟨fun pins s σ H Q I h => ?_⟩
  refine PySem.W.methodCall_KW (ld_glob I hg hm ?_ hdb) hc
  refine PySem.W.method_cls I.kIn sg (PySem.W.cls_value I.kIn rd ff rfl ?_)
  have I0 : Inv X pins σ H { s with toks := s.toks + 1 } := I.tok _
  refine PySem.W.callWith_K (h₀ := X.base) I0.ok.mod.kin hk (thn (ha.run pos pins _ σ H _ I0 h) fun us s1 got => ?_) he hpl
  obtain ⟨vs, H1, I1, r, q⟩ := got
  exact ⟨I1.kIn, run_fn F hr hb hd hx I1 r q⟩
end
end SW

set_option Elab.async false
set_option linter.all false
set_option maxRecDepth 100000
set_option maxHeartbeats 4000000
namespace SW
open PySem PySem.Spec PyProof.Rows L2 L2H

/-! ### defs that are handed a caught exception, called in the suite that holds it -/
structure FnW (P : Program) (w : World) (K : PySem.W.Frag) (mg : Str → Option Value) (base : Heap) (k : Nat) (f : Addr) (fd : FuncData) (ps : List Str) (sp : Addr × Obj → List V → Hp → VK → Prop) : Prop where
  len : ∀ p vs H Q, sp p vs H Q → vs.length = ps.length
  run : ∀ (A : Around) (outer : List Env) (s : Shared) (H : Hp) (args : Args) (us : List Value) (vs : List V) (Q : VK) (p : Addr × Obj),
    RoomH k A → PinOk outer H s p → Env0 P w K mg base A outer s H → BindsTo s fd args (ps.zip us) → Vals vs us → sp p vs H Q →
      codeAny (model P w) A (.call (.ref f) args) (CR C8.CX0 outer P w H s Q C8.E0) s

theorem fn_ofW {P : Program} {w : World} {K : PySem.W.Frag} {mg : Str → Option Value} {base : Heap} {k : Nat} {f : Addr} {name qual : Str} {params : Arguments} {body : List Stmt} {scope : Scope}
    {dV kV doc pm cdv ct oc : Value} {an od : Option Addr} {osl : Array (Option Value)} {N ps : List Str} {sp : Addr × Obj → List V → Hp → VK → Prop}
    (lk : K.lookup f = some ⟨oc, od, .func (PySem.W.fnOf name qual params body scope dV kV doc pm an cdv ct), osl⟩) (hcd : PySem.W.codeIn K cdv qual = true) (S : FnScope N ps scope)
    (len : ∀ p vs H Q, sp p vs H Q → vs.length = ps.length)
    (hbody : ∀ (A : Around) (outer : List Env) (s : Shared) (H : Hp) (vs : List V) (Q : VK) (p : Addr × Obj), RoomH k (A.deeper (envOfC qual scope s.heap.objs.size f cdv)) → sp p vs H Q →
      ∃ t, PSs (cxH C8.CX0 P w K mg base N qual scope f cdv A outer s H C8.E0 p) body t ∧ t { nx := fun _ H' => Q .non H', rt := Q } (L2.start N vs) H) :
    FnW P w K mg base (k + 1) f (PySem.W.fnOf name qual params body scope dV kV doc pm an cdv ct) ps sp := by
  constructor
  · exact len
  intro A outer s H args us vs Q p room pinned e0 binds rel wish
  have size := len _ _ _ _ wish
  have kin : K.In s.heap := e0.mod.kin.keeps (fun b o e => (e0.bs b o e).1)
  have free : s.heap.NoLimit := e0.mod.nolimit.keeps (fun b o e => (e0.bs b o e).1)
  refine codeAny_call_function room.depth (kin _ _ lk) rfl S.co S.gen rfl (PySem.W.codeRec_of kin hcd) (binds _ _ _ _ ?_)
  refine wpAny_newFunctionEnv_cells S.kind (fun ⟨y, v⟩ hy => ?_) (fun env he s1 made => ?_)
  · rcases S.par y (List.of_mem_zip hy).1 with q | q
    · exact Or.inl q
    · exact Or.inr ⟨q, PySem.W.cellsFrom_some _ _ _ (Or.inl q)⟩
  subst he
  obtain ⟨t, good, asked⟩ := hbody A outer s H vs Q p (room.deeper _) wish
  have I0 := inv_startH (CX := C8.CX0) (f := f) (cd := cdv) (qual := qual) (E := C8.E0) S pinned e0 size rel made
  refine ⟨free.keeps made.toInCall.keep, codeAny_func (wpAny_mono (good.run [] s1 _ H _ I0 asked) (fun fl s' out => ?_) (fun _ _ z => z))⟩
  cases fl with
  | ret u =>
    obtain ⟨v, τ, G, J, rv, q⟩ := out
    exact ⟨v, G, J.os, J.bare, J.base, J.hok, rv, q⟩
  | next =>
    obtain ⟨τ, G, J, q⟩ := out
    exact ⟨V.non, G, J.os, J.bare, J.base, J.hok, rfl, q⟩
  | brk => exact out.elim fun _ z => z.elim fun _ z => z.2.elim
  | cont => exact out.elim fun _ z => z.elim fun _ z => z.2.elim

section
variable {X : Cx} {k : Nat} {f a : Addr} {oe : Obj} {fd : FuncData} {ps : List Str} {sp : Addr × Obj → List V → Hp → VK → Prop} {x : Str} {q pos : Pos} {e : Expr} {es : List Expr} {t : TA}
/-- f(e, ..) in the suite that holds the exception at a -/
theorem pe_callW {sp2 : List V → Hp → VK → Prop} (imp : ∀ vs H Q, sp2 vs H Q → sp (a, oe) vs H Q) (hp : (a, oe) ∈ X.pn) (F : FnW X.prog X.w X.K X.mg X.base k f fd ps sp) (hr : RoomH k X.A) (hg : Gl X x) (hm : X.mg x = some (.ref f)) (hk : PySem.W.keepIn X.K (.ref f) = true) (hb : Binds X.K fd ps [])
    (ha : PA X (e :: es) t) (hdb : (x == ("__debug__" : Str)) = false := by decide) (he : starEach (e :: es) X.env = (false, eval e X.env) :: starEach es X.env := by rfl)
    (hpl : (backTo pos (starEach es X.env)).any (·.1) = false := by rfl) :
    PE X (.Call (.Name x q) (e :: es) [] pos) (fun σ H Q => t σ H fun vs H1 => sp2 vs H1 Q) := by
  refine ⟨fun pins s σ H Q I h => wpAny_Call_Name_kw (ld_glob I hg hm ?_ hdb)⟩
  refine PySem.W.callWith_K (h₀ := X.base) I.ok.mod.kin hk (thn (ha.run pos pins s σ H _ I h) fun us s1 got => ?_) he hpl
  obtain ⟨vs, H1, I1, rel, wish2⟩ := got
  have wish := imp _ _ _ wish2
  refine ⟨I1.kIn, ?_⟩
  have size : us.length = ps.length := rel.length.symm.trans (F.len _ _ _ _ wish)
  have binds := hb s1 us I1.kIn (by simpa using size)
  rw [List.append_nil] at binds
  obtain ⟨g1, g2, g3, g4, g5⟩ := I1.pin (a, oe) (List.mem_append_left _ hp)
  have pinned : PinOk X.stack H1 s1 (a, oe) := ⟨g1, g2, fun hm => (List.mem_cons.mp (I1.stkSub a hm)).elim g3 g4, g5⟩
  refine wpAny_call (codeAny_mono (F.run X.A X.stack s1 H1 ⟨us, []⟩ us vs Q (a, oe) hr pinned I1.env0 binds rel wish) (fun r s2 out => ?_))
  match r, out with
  | .error _, out => exact out.elim
  | .ok (.ret u), out => exact I1.after out
  | .ok .next, out => exact out.elim
  | .ok .brk, out => exact out.elim
  | .ok .cont, out => exact out.elim

/-- e.n, the exception at a pinned, its class and dict told by the reading -/
theorem pe_xfQ {cls : Value} {d : Option Addr} {te : TE} {n : Str} (hp : (a, oe) ∈ X.pn) (hz : Zc cls d oe) (hf : ∃ vs, oe.data = .fields vs)
    (he : PE X e te) (hb : attributeBase e n X.env (eval e X.env) = eval e X.env := by rfl) :
    PE X (.Attribute e n pos) (fun σ H Q => te σ H fun x H1 => x = .ref a ∧ ∃ (C dd : Addr) (fs : List (Str × V)) (v : V), cls = .ref C ∧ d = some dd ∧ XfC X.K C ∧ PySem.W.findIn X.K (.ref C) n = some none ∧ H1 dd = some (.xd fs) ∧ fs.lookup n = some v ∧ Q v H1) := by
  refine ⟨fun pins s σ H Q I h => attr_of hb (thn (he.run pins s σ H _ I h) fun u s1 got => ?_)⟩
  obtain ⟨x, H1, I1, rx, ex, C, dd, fs, v, ec, ed, T, hno, ea, l, q⟩ := got
  subst ex
  subst ec
  subst ed
  obtain rfl : u = Value.ref a := rx
  obtain ⟨here, _⟩ := I1.pin (a, oe) (List.mem_append_left _ hp)
  obtain ⟨ws, hd⟩ := hf
  have known : ObjOk X.prog X.w H1 s1.heap dd (.xd fs) := I1.hok dd _ ea
  obtain ⟨mA, ns, rl⟩ := known
  obtain ⟨od, ho, hl⟩ := lookIn_ns ns
  obtain ⟨u2, hu, ru⟩ := RelO.some_of (v := v) (o := mA n) (l ▸ rl n)
  have nc : PySem.W.notCls oe := by unfold PySem.W.notCls; rw [hd] <;> rfl
  have J : PySem.W.InstAt s1.heap a oe C (some od) := ⟨here, hz.1, nc, hz.2.symm ▸ ho⟩
  exact HandSPX.exc_get I1.kIn J T.ga T.gg T.exC (PySem.W.findObj_own T.hdC hno rfl (by rw [hl, hu])) (handed_of ru) ⟨v, H1, I1.tok _, ru, q⟩
/-- e.n, the exception at a pinned, its dict at dd -/
theorem pe_xfP {C dd : Addr} {te : TE} {n : Str} (hp : (a, oe) ∈ X.pn) (T : XfC X.K C) (hno : PySem.W.findIn X.K (.ref C) n = some none) (hz : Zc (.ref C) (some dd) oe) (hf : ∃ vs, oe.data = .fields vs)
    (he : PE X e te) (hb : attributeBase e n X.env (eval e X.env) = eval e X.env := by rfl) :
    PE X (.Attribute e n pos) (fun σ H Q => te σ H fun x H1 => x = .ref a ∧ ∃ (fs : List (Str × V)) (v : V), H1 dd = some (.xd fs) ∧ fs.lookup n = some v ∧ Q v H1) := by
  refine ⟨fun pins s σ H Q I h => attr_of hb (thn (he.run pins s σ H _ I h) fun u s1 got => ?_)⟩
  obtain ⟨x, H1, I1, rx, ex, fs, v, ea, l, q⟩ := got
  subst ex
  obtain rfl : u = Value.ref a := rx
  obtain ⟨here, _⟩ := I1.pin (a, oe) (List.mem_append_left _ hp)
  obtain ⟨ws, hd⟩ := hf
  have known : ObjOk X.prog X.w H1 s1.heap dd (.xd fs) := I1.hok dd _ ea
  obtain ⟨mA, ns, rl⟩ := known
  obtain ⟨od, ho, hl⟩ := lookIn_ns ns
  obtain ⟨u2, hu, ru⟩ := RelO.some_of (v := v) (o := mA n) (l ▸ rl n)
  have nc : PySem.W.notCls oe := by unfold PySem.W.notCls; rw [hd] <;> rfl
  have J : PySem.W.InstAt s1.heap a oe C (some od) := ⟨here, hz.1, nc, hz.2.symm ▸ ho⟩
  exact HandSPX.exc_get I1.kIn J T.ga T.gg T.exC (PySem.W.findObj_own T.hdC hno rfl (by rw [hl, hu])) (handed_of ru) ⟨v, H1, I1.tok _, ru, q⟩
end
end SW

set_option Elab.async false
set_option linter.all false
set_option maxRecDepth 100000
set_option maxHeartbeats 4000000
namespace SW
open PySem PySem.Spec PyProof.Rows L2
/-- the j-th row of a class's suite -/
def inCls (st : Stmt) (j : Nat) : Stmt := match st with
  | .ClassDef (body := b) .. => b.getD j (.Pass ⟨0, 0, 0, 0⟩)
  | _ => .Pass ⟨0, 0, 0, 0⟩
/-- an own error class of one field: its name n, the field's name -/
structure Er (K : PySem.W.Frag) (C : Addr) (n fld : Str) : Prop where
  cls : ClsN K C n
  oex : OexC K C
  code : PySem.W.findIn K (.ref C) "code" = some none
  msg : PySem.W.findIn K (.ref C) "message" = some none
  fld_ : PySem.W.findIn K (.ref C) fld = some none
/-- the base class at B of the name b: its __init__ with one default -/
structure Bas (K : PySem.W.Frag) (mg : Str → Option Value) (b : Str) (B : Addr) (qual : Str) (st : Stmt) (df : Str) : Prop where
  ex : ∃ f fd, FunD K "__init__" qual (defArgs st) (defBody st) (defScope st) [.str df] [] f fd ∧ PySem.W.findCls K (.ref B) (.type "type") "__init__" = some (.val (.ref f)) ∧ Binds K fd ["self", "message"] []
  at_ : mg b = some (.ref B)
  rd : PySem.W.readsIn K B (.type "type") = true
  sg : PySem.W.specialIn K (.ref B) "__getattribute__" = some (some (.builtin "type.__getattribute__"))
/-- what the base's __init__ promises -/
def spBas (K : PySem.W.Frag) : Sp := fun vs H Q _ => ∃ a C n m, vs = [.ref a, .str m] ∧ H a = some (exo a C none) ∧ ClsN K C n ∧ OexC K C ∧ PySem.W.findIn K (.ref C) "code" = some none ∧ PySem.W.findIn K (.ref C) "message" = some none ∧
  ∀ dx H', H' a = some (exo a C (some dx)) → H' dx = some (exd dx [("message", .str m), ("code", .str n)]) → H dx = none → dx ≠ a → (∀ b o, b ≠ a → H b = some o → H' b = some o) → Q .non H'
/-- what an error's __init__ promises -/
def spErr (K : PySem.W.Frag) (C : Addr) (n fld : Str) : Sp := fun vs H Q _ => ∃ a i, vs = [.ref a, .int i] ∧ i.natAbs.log2 < 1900 ∧ H a = some (exo a C none) ∧
  ∀ dx H' m, H' a = some (exo a C (some dx)) → H' dx = some (exd dx [(fld, .int i), ("message", .str m), ("code", .str n)]) → H dx = none → dx ≠ a → (∀ b o, b ≠ a → H b = some o → H' b = some o) → Q .non H'
structure BasOk (P : Program) (w : World) (K : PySem.W.Frag) (mg : Str → Option Value) (base : Heap) (b : Str) (B : Addr) : Prop where
  ex : ∃ f fd, FnOk P w K mg base CX0 1 f fd ["self", "message"] (spBas K) ∧ PySem.W.findCls K (.ref B) (.type "type") "__init__" = some (.val (.ref f)) ∧ Binds K fd ["self", "message"] [] ∧ PySem.W.keepIn K (.ref f) = true
  at_ : mg b = some (.ref B)
  rd : PySem.W.readsIn K B (.type "type") = true
  sg : PySem.W.specialIn K (.ref B) "__getattribute__" = some (some (.builtin "type.__getattribute__"))
section
variable {X : Cx} {P : Program} {w : World} {K : PySem.W.Frag} {mg : Str → Option Value} {base : Heap} {b : Str} {B : Addr}
/-- B.__init__(self, m) -/
theorem pe_base {p apos pos : Pos} {e : Expr} {es : List Expr} {t : TA} {pl : Sem Bool} (c : BasOk X.prog X.w X.K X.mg X.base b B) (hr : Room 1 X.A) (hg : Gl X b) (ha : PA X (e :: es) t) (hdb : (b == ("__debug__" : Str)) = false := by decide)
    (he : starEach (e :: es) X.env = (false, eval e X.env) :: starEach es X.env := by rfl) (hpl : (backTo pos (starEach es X.env)).any (·.1) = false := by rfl)
    (hc : eval (.Call (.Attribute (.Name b p) "__init__" apos) (e :: es) [] pos) X.env = (do
      let ov ← eval (.Name b p) X.env
      standAt apos.atName
      let (f, first) ← holding [ov] (getMethod ov "__init__" pl)
      callWith pos f first (backTo pos (starEach (e :: es) X.env)) (backToKw pos (keywordEach [] X.env))) := by rfl) :
    PE X (.Call (.Attribute (.Name b p) "__init__" apos) (e :: es) [] pos) (tCall (spBas X.K) [] (fun _ _ _ => False) t) := by
  obtain ⟨f, fd, F, h1, h2, h3⟩ := c.ex
  exact pe_clsfn (E := fun _ _ _ => False) F hr hg c.at_ h3 h2 .nil (fun _ _ _ _ _ _ _ z => z.elim) c.rd c.sg h1 ha hdb he hpl hc
end
theorem msg_fits {a : Str} {i : Int} (h : a.length ≤ 100) (hi : i.natAbs.log2 < 1920) : (a ++ Str.ofString (toString i)).length ≤ sizeLine := by
  have h2 := int_text_len_1921 hi
  rw [Str.length_append, sizeLine_eq]
  omega
section
variable {P : Program} {w : World} {K : PySem.W.Frag} {mg : Str → Option Value} {base : Heap}
theorem bas_mk {h : Heap} {x : Str} {qual : Str} {st : Stmt} {df : Str} {B f T : Addr} {od an : Option Addr} {sl : Array (Option Value)} {oc kV dc pm cd ct dv : Value} {o : Obj} {n : Nat} (X : K.In h) (G : h.Ns mainGlobals mg)
    (a : PySem.W.nsIn K mainGlobals x = some (some (.ref B))) (fc : PySem.W.findCls K (.ref B) (.type "type") "__init__" = some (.val (.ref f)))
    (l : K.lookup f = some ⟨oc, od, .func (PySem.W.fnOf "__init__" qual (defArgs st) (defBody st) (defScope st) (.ref T) kV dc pm an cd ct), sl⟩) (lT : K.lookup T = some o) (dT : o.data = .seq #[dv] n) (rT : RelV (.str df) dv)
    (c : PySem.W.codeIn K cd qual = true) (k : PySem.W.keepIn K (.ref f) = true) (rd : PySem.W.readsIn K B (.type "type") = true) (sg : PySem.W.specialIn K (.ref B) "__getattribute__" = some (some (.builtin "type.__getattribute__")))
    (hb : ∀ (T : Addr) (kV doc pm : Value) (an : Option Addr) (cdv ct : Value) (us its : List Value), us.length = 2 → its.length = 1 → ∃ k, bindArgs (PySem.W.fnOf "__init__" qual (defArgs st) (defBody st) (defScope st) (.ref T) kV doc pm an cdv ct) ⟨us, []⟩ = seqItems? (.ref T) >>= k ∧ k (some its.toArray) = pure ([("self" : Str), "message"].zip (us ++ its.drop 1))) :
    Bas K mg x B qual st df := by
  have F : FunD K "__init__" qual (defArgs st) (defBody st) (defScope st) [.str df] [] f (PySem.W.fnOf "__init__" qual (defArgs st) (defBody st) (defScope st) (.ref T) kV dc pm an cd ct) :=
    ⟨⟨oc, od, .ref T, kV, dc, pm, an, cd, ct, sl, rfl, l, c, .inr ⟨by simp, T, o, [dv], n, rfl, lT, dT, .cons rT .nil⟩, .inl rfl⟩, k⟩
  obtain ⟨ds, r, b⟩ := F.binds1 (ps := ["self", "message"]) 2 1 (by simp) rfl hb
  cases r
  exact ⟨⟨f, _, F, fc, b⟩, PySem.W.mg_of X G a, rd, sg⟩
theorem oexC_mk {C : Addr} {nm q : Str} {N : Addr} {bs bm : List Value} {sn : List Str} {sub : List Value} {ab : Bool} {col : Option Bool} {dd : Option Addr} {k0 k1 k2 k3 k5 : Option Value}
    (l : K.lookup C = some (excClassObj nm q C N bs bm true sn sub ab col dd k0 k1 k2 k3 k5 "ValueError.__new__")) (r : PySem.HandSPX.refsVE bm = true) (sa : PySem.W.findIn K (.ref C) "__setattr__" = some (some (.builtin "object.__setattr__")))
    (ex : PySem.W.subIn K (.ref C) (.type "BaseException") = some true) (ty : PySem.W.typeIn K (.ref C) = some (.type "type")) (kp : PySem.W.keepIn K (.ref C) = true) : OexC K C :=
  ⟨⟨nm, q, N, bs, bm, sn, sub, ab, col, dd, k0, k1, k2, k3, k5, l, r⟩, sa, ex, ty, kp⟩
theorem er_mk {C : Addr} {n fld : Str} {tk : Tok} {nm q : Str} {N : Addr} {bs bm : List Value} {sn : List Str} {sub : List Value} {ab : Bool} {col : Option Bool} {dd : Option Addr} {k0 k1 k2 k3 k5 : Option Value}
    (l : K.lookup C = some (excClassObj nm q C N bs bm true sn sub ab col dd k0 k1 k2 k3 k5 "ValueError.__new__")) (e2 : k2 = some (.str n tk)) (r : PySem.HandSPX.refsVE bm = true) (sa : PySem.W.findIn K (.ref C) "__setattr__" = some (some (.builtin "object.__setattr__")))
    (ex : PySem.W.subIn K (.ref C) (.type "BaseException") = some true) (ty : PySem.W.typeIn K (.ref C) = some (.type "type")) (kp : PySem.W.keepIn K (.ref C) = true) (rd : PySem.W.readsIn K C (.type "type") = true)
    (fd : PySem.W.findCls K (.ref C) (.type "type") "__name__" = some (.get (.builtin "getset_descriptor.__get__") (.builtin "type.__name__") (.ref C) (.type "type")))
    (ga : PySem.W.findIn K (.ref C) "__getattribute__" = some (some (.builtin "BaseException.__getattribute__"))) (gt : PySem.W.findIn K (.ref C) "__getattr__" = some none) (fc : PySem.W.findIn K (.ref C) "__class__" = some (some (.builtin "object.__class__")))
    (sp : PySem.W.specialIn K (.builtin "object.__class__") "__get__" = some (some (.builtin "getset_descriptor.__get__"))) (tk : PySem.W.takesIn K (.builtin "object.__class__") = some true) (mr : PySem.W.mroIn K C (.type "object") = some true)
    (c1 : PySem.W.findIn K (.ref C) "code" = some none) (c2 : PySem.W.findIn K (.ref C) "message" = some none) (c3 : PySem.W.findIn K (.ref C) fld = some none) : Er K C n fld := by
  have hc : (PySem.W.clsIn K C).isSome = true := by unfold PySem.W.clsIn; rw [l]; rfl
  refine ⟨⟨rd, ty, ?_, fd, ga, gt, ex, PySem.W.findObj_dataN hc fc sp tk, mr⟩, oexC_mk l r sa ex ty kp, c1, c2, c3⟩
  unfold PySem.W.nameIn
  rw [l, e2]
  exact beq_self_eq_true n
end
/-! ### an error made: C(i) -/
/-- the fields of an error of one number -/
abbrev erf (n fld : Str) (i : Int) (m : Str) : List (Str × V) := [(fld, .int i), ("message", .str m), ("code", .str n)]
structure ErrOk (P : Program) (w : World) (K : PySem.W.Frag) (mg : Str → Option Value) (base : Heap) (x : Str) (C : Addr) (n fld : Str) : Prop where
  ex : ∃ f fd, FnOk P w K mg base CX0 2 f fd ["self", fld] (spErr K C n fld) ∧ PySem.W.findIn K (.ref C) "__init__" = some (some (.ref f)) ∧ PySem.W.typeIn K (.ref f) = some (.type "function") ∧ Binds K fd ["self", fld] []
  er : Er K C n fld
  at_ : mg x = some (.ref C)
section
variable {X : Cx} {x : Str} {C : Addr} {n fld : Str}
theorem pmk_err {p pos : Pos} {e : Expr} {es : List Expr} {t : TA} (c : ErrOk X.prog X.w X.K X.mg X.base x C n fld) (hr : Room 3 X.A) (hg : Gl X x) (ha : PA X (e :: es) t) (hdb : (x == ("__debug__" : Str)) = false := by decide)
    (he : starEach (e :: es) X.env = (false, eval e X.env) :: starEach es X.env := by rfl) (hpl : (backTo pos (starEach es X.env)).any (·.1) = false := by rfl) :
    PMk X (.Call (.Name x p) (e :: es) [] pos) (tMkO C (spErr X.K C n fld) [] t) := by
  obtain ⟨f, fd, F, h1, h2, h3⟩ := c.ex
  exact pmk_oex c.er.oex h1 h2 F hr h3 .nil (fun _ _ _ _ _ _ _ z => z.elim) hg c.at_ ha hdb he hpl
/-- the answer to its question -/
theorem mk_err {K : PySem.W.Frag} {H1 : Hp} {i : Int} {Q : XK} (hi : i.natAbs.log2 < 1900) (h : ∀ d H2 m, H1 d = none → H2 d = some (.xd (erf n fld i m)) → Same H1 H2 → Q (.ref C) (some d) H2) :
    ([V.int i] : List V).length ≤ 1000 ∧ ∀ a, H1 a = none → spErr K C n fld (.ref a :: ([V.int i] ++ [])) (upd H1 a (exo a C none))
      (fun v H2 => v = .non ∧ ∃ (d : Addr) (fs : List (Str × V)), H2 a = some (exo a C (some d)) ∧ H2 d = some (exd d fs) ∧ H1 d = none ∧ Q (.ref C) (some d) (upd (del H2 a) d (.xd fs))) (fun _ _ _ => False) := by
  refine ⟨(by show 1 ≤ 1000; decide), fun a ha => ⟨a, i, rfl, hi, upd_same, fun dx H' m h1 h2 h3 h4 h5 => ⟨rfl, dx, _, h1, h2, ?_, ?_⟩⟩⟩
  · rw [← h3, upd_ne h4]
  · have hn : H1 dx = none := by rw [← h3, upd_ne h4]
    refine h dx _ m hn upd_same (fun b o hb => ?_)
    have hba := ne_of_none hb ha
    rw [upd_ne (ne_of_none hb hn), del_ne hba]
    exact h5 b o hba (by rw [upd_ne hba]; exact hb)
end
end SW

set_option Elab.async false
set_option linter.all false
set_option maxRecDepth 100000
set_option maxHeartbeats 4000000
namespace SW
open PySem PySem.Spec PyProof.Rows L2
/-- a class of errors whose instances' fields can be read -/
structure ErrC (K : PySem.W.Frag) (C : Addr) : Prop where
  xf : XfC K C
  no : ∀ f ∈ (["code", "position", "limit", "variables", "number", "name"] : List Str), PySem.W.findIn K (.ref C) f = some none
/-- an error's code and what it is about -/
inductive ErV (fs : List (Str × V)) : Str → V → Prop
  | text {v : V} (h : fs.lookup ("position" : Str) = some v) : ErV fs "InvalidText" v
  | large {v : V} (h : fs.lookup ("limit" : Str) = some v) : ErV fs "TooLarge" v
  | addr : ErV fs "InvalidAddress" .non
/-- what the law's reader of an error's field promises -/
def spField (K : PySem.W.Frag) : Addr × Obj → List V → Hp → VK → Prop := fun p vs H Q => ∃ C dd fs n v, vs = [.ref p.1] ∧ Zc (.ref C) (some dd) p.2 ∧ (∃ ws, p.2.data = .fields ws) ∧ ErrC K C ∧ H dd = some (.xd fs) ∧ fs.lookup ("code" : Str) = some (V.str n) ∧ ErV fs n v ∧ Q v H
structure CalW (P : Program) (w : World) (K : PySem.W.Frag) (mg : Str → Option Value) (base : Heap) (k : Nat) (x : Str) (ps : List Str) (sp : Addr × Obj → List V → Hp → VK → Prop) : Prop where
  ex : ∃ f fd, FnW P w K mg base k f fd ps sp ∧ mg x = some (.ref f) ∧ PySem.W.keepIn K (.ref f) = true ∧ Binds K fd ps []
theorem Df.okW {P : Program} {w : World} {K : PySem.W.Frag} {mg : Str → Option Value} {base : Heap} {x : Str} {st : Stmt} {N ps : List Str} {k : Nat} {sp : Addr × Obj → List V → Hp → VK → Prop} (D : Df K mg x st ps) (S : FnScope N ps (defScope st))
    (len : ∀ p vs H Q, sp p vs H Q → vs.length = ps.length)
    (hbody : ∀ (f : Addr) (cdv : Value) (A : Around) (outer : List Env) (s : Shared) (H : Hp) (vs : List V) (Q : VK) (p : Addr × Obj), L2H.RoomH k (A.deeper (envOfC x (defScope st) s.heap.objs.size f cdv)) → sp p vs H Q →
      ∃ t, PSs (L2H.cxH C8.CX0 P w K mg base N x (defScope st) f cdv A outer s H C8.E0 p) (defBody st) t ∧ t { nx := fun _ H' => Q .non H', rt := Q } (L2.start N vs) H) : CalW P w K mg base (k + 1) x ps sp := by
  obtain ⟨f, fd, F, m, b⟩ := D.ex
  obtain ⟨oc, od, kV, doc, pm, an, cdv, ct, osl, rfl, lk, hcd⟩ := F.ex
  exact ⟨f, _, fn_ofW lk hcd S len (fun A outer s H vs Q p hr h => hbody f cdv A outer s H vs Q p hr h), m, F.kp, b⟩
/-- the same as the suite asks it -/
def spF (K : PySem.W.Frag) (a : Addr) (cls : Value) (d : Option Addr) : List V → Hp → VK → Prop := fun vs H Q =>
  ∃ C dd fs n v, vs = [.ref a] ∧ cls = .ref C ∧ d = some dd ∧ ErrC K C ∧ H dd = some (.xd fs) ∧ fs.lookup ("code" : Str) = some (V.str n) ∧ ErV fs n v ∧ Q v H
/-- the suite: the code and the field as a pair -/
def tsTry (K : PySem.W.Frag) (a : Addr) (cls : Value) (d : Option Addr) : TS := fun D σ H =>
  ∃ C dd fs n v, cls = .ref C ∧ d = some dd ∧ ErrC K C ∧ (1 < σ.length → σ[1]? = some (some (.ref a))) ∧ H dd = some (.xd fs) ∧ fs.lookup ("code" : Str) = some (V.str n) ∧ ErV fs n v ∧ ∀ p, H p = none → D.rt (.ref p) (upd H p (.tup [.str n, v]))
/-- what the law's try makes of what was asked -/
def TTry (K : PySem.W.Frag) (BS : Addr) : (XK → Hp → VK → Prop) → Hp → VK → Prop := fun tl H Q =>
  tl (fun cls d H' => ∃ C dd fs n v, cls = .ref C ∧ d = some dd ∧ PySem.W.exmOne K cls (.ref BS) = some true ∧ ErrC K C ∧ H' dd = some (.xd fs) ∧ fs.lookup ("code" : Str) = some (V.str n) ∧ ErV fs n v ∧
      ∀ p, H' p = none → Q (.ref p) (upd H' p (.tup [.str n, v])))
    H (fun v H' => ([V.str "value", v] : List V).length ≤ sizeLine ∧ ∀ p, H' p = none → Q (.ref p) (upd H' p (.tup [.str "value", v])))
/-! ### defs that errors leave -/
structure CalX (P : Program) (w : World) (K : PySem.W.Frag) (mg : Str → Option Value) (base : Heap) (k : Nat) (x : Str) (ps : List Str) (sp : Sp) : Prop where
  ex : ∃ f fd, FnOk P w K mg base (L2.CX P w) k f fd ps sp ∧ mg x = some (.ref f) ∧ PySem.W.keepIn K (.ref f) = true ∧ Binds K fd ps [] ∧ ∃ oc od osl, K.lookup f = some ⟨oc, od, .func fd, osl⟩
theorem Df.okX {P : Program} {w : World} {K : PySem.W.Frag} {mg : Str → Option Value} {base : Heap} {x : Str} {st : Stmt} {N ps : List Str} {k : Nat} {sp : Sp} (D : Df K mg x st ps) (S : FnScope N ps (defScope st)) (len : ∀ vs H Q E, sp vs H Q E → vs.length = ps.length)
    (hbody : ∀ (f : Addr) (cdv : Value) (A : Around) (outer : List Env) (s : Shared) (H : Hp) (vs : List V) (Q : VK) (E : XK), Room k (A.deeper (envOfC x (defScope st) s.heap.objs.size f cdv)) → sp vs H Q E →
      ∃ t, PSs (cxOf (L2.CX P w) P w K mg base N x (defScope st) f cdv A outer s H E) (defBody st) t ∧ t { nx := fun _ H' => Q .non H', rt := Q } (L2.start N vs) H) : CalX P w K mg base (k + 1) x ps sp := by
  obtain ⟨f, fd, F, m, b⟩ := D.ex
  obtain ⟨oc, od, kV, doc, pm, an, cdv, ct, osl, rfl, lk, hcd⟩ := F.ex
  exact ⟨f, _, fn_of lk hcd S len (fun A outer s H vs Q E hr h => hbody f cdv A outer s H vs Q E hr h), m, F.kp, b, oc, od, osl, lk⟩
section
variable {X : Cx} {k j : Nat} {x : Str} {ps : List Str} {sp : Sp} {p pos : Pos} {e : Expr} {es : List Expr} {t : TA} {E : XK}
theorem pe_ownX (c : CalX X.prog X.w X.K X.mg X.base k x ps sp) (hr : Room j X.A) (hk : k ≤ j) (hx : Passes (L2.CX X.prog X.w) X E) (hg : Gl X x) (ha : PA X (e :: es) t) (hdb : (x == ("__debug__" : Str)) = false := by decide)
    (he : starEach (e :: es) X.env = (false, eval e X.env) :: starEach es X.env := by rfl) (hpl : (backTo pos (starEach es X.env)).any (·.1) = false := by rfl) :
    PE X (.Call (.Name x p) (e :: es) [] pos) (tCall sp [] E t) := by
  obtain ⟨f, fd, F, hm, hK, hb, _⟩ := c.ex
  exact pe_call F (hr.mono hk) hg hm hK hb .nil hx ha hdb he hpl
/-- what leaves a called def leaves the caller -/
theorem passX {P : Program} {w : World} {K : PySem.W.Frag} {mg : Str → Option Value} {base : Heap} {N : List Str} {q : Str} {scope : Scope} {f : Addr} {cd : Value} {A : Around} {outer : List Env} {s : Shared} {H : Hp} {E : XK} :
    Passes (L2.CX P w) (cxOf (L2.CX P w) P w K mg base N q scope f cd A outer s H E) E := passes_call (takes_of rfl rfl rfl rfl) (fun _ _ _ _ z => z)
/-- what leaves the lambda's body leaves the lambda -/
theorem pass_lam {A : Around} {outer : List Env} {s : Shared} {H : Hp} {scope : Scope} {f c' : Addr} : Passes (L2.CX X.prog X.w) (LamX.lamCx X A outer s H E scope f c') E :=
  passes_call (takes_of rfl rfl rfl rfl) (fun _ _ _ _ z => z)
end
end SW

set_option Elab.async false
set_option linter.all false
set_option maxRecDepth 100000
set_option maxHeartbeats 4000000
namespace SW
open PySem PySem.Spec PyProof.Rows L2
/-! ### words as trees -/
inductive W where
  | emp
  | ltr (c : Str)
  | nam (c : Str)
  | join (ws : List W)
  | times (w : W) (n : Int)
  | right (w : W)
  | left (w : W)
mutual
def W.dat : W → PyData
  | .emp => .tuple [.str "empty"]
  | .ltr c => .tuple [.str "letter", .str c]
  | .nam c => .tuple [.str "name", .str c]
  | .join ws => .tuple [.str "join", .tuple (W.dats ws)]
  | .times w n => .tuple [.str "times", w.dat, .int n]
  | .right w => .tuple [.str "right", w.dat]
  | .left w => .tuple [.str "left", w.dat]
def W.dats : List W → List PyData
  | [] => []
  | w :: r => w.dat :: W.dats r
end
mutual
def W.dep : W → Nat
  | .emp => 1
  | .ltr _ => 1
  | .nam _ => 1
  | .join ws => W.deps ws + 1
  | .times w _ => w.dep + 1
  | .right w => w.dep + 1
  | .left w => w.dep + 1
def W.deps : List W → Nat
  | [] => 0
  | w :: r => max w.dep (W.deps r)
end
mutual
/-- letters among L, joins of at most three parts, numbers of copies up to 10 ** 30 -/
def W.Ok (L : List Str) : W → Prop
  | .emp => True
  | .ltr c => c ∈ L
  | .nam _ => False
  | .join ws => ws.length ≤ 3 ∧ W.Oks L ws
  | .times w n => 0 ≤ n ∧ n ≤ 1000000000000000000000000000000 ∧ w.Ok L
  | .right w => w.Ok L
  | .left w => w.Ok L
def W.Oks (L : List Str) : List W → Prop
  | [] => True
  | w :: r => w.Ok L ∧ W.Oks L r
end
abbrev abc : List Str := ["a", "b", "c"]
abbrev abcABC : List Str := ["a", "b", "c", "A", "B", "C"]
def W.kind : W → Str
  | .emp => "empty"
  | .ltr _ => "letter"
  | .nam _ => "name"
  | .join _ => "join"
  | .times _ _ => "times"
  | .right _ => "right"
  | .left _ => "left"
theorem W.dep_pos (w : W) : 1 ≤ w.dep := by cases w <;> unfold W.dep <;> omega
theorem W.deps_mem : ∀ {ws : List W} {w : W}, w ∈ ws → w.dep ≤ W.deps ws
  | x :: r, w, h => by
    unfold W.deps
    rcases List.mem_cons.mp h with e | h
    · subst e
      exact Nat.le_max_left _ _
    · exact Nat.le_trans (W.deps_mem h) (Nat.le_max_right _ _)
theorem W.deps_le : ∀ {ws : List W} {n : Nat}, (∀ w ∈ ws, w.dep ≤ n) → W.deps ws ≤ n
  | [], n, _ => by
    unfold W.deps
    exact Nat.zero_le _
  | x :: r, n, h => by
    unfold W.deps
    exact Nat.max_le.mpr ⟨h x (List.mem_cons_self ..), W.deps_le fun w q => h w (List.mem_cons_of_mem _ q)⟩
theorem W.oks_mem {L : List Str} : ∀ {ws : List W} {w : W}, w ∈ ws → W.Oks L ws → w.Ok L
  | x :: r, w, h, o => by
    unfold W.Oks at o
    rcases List.mem_cons.mp h with e | h
    · subst e
      exact o.1
    · exact W.oks_mem h o.2
theorem W.oks_of {L : List Str} : ∀ {ws : List W}, (∀ w ∈ ws, w.Ok L) → W.Oks L ws
  | [], _ => by
    unfold W.Oks
    trivial
  | x :: r, h => by
    unfold W.Oks
    exact ⟨h x (List.mem_cons_self ..), W.oks_of fun w q => h w (List.mem_cons_of_mem _ q)⟩
theorem W.dats_map : ∀ ws : List W, W.dats ws = ws.map W.dat
  | [] => by
    unfold W.dats
    rfl
  | w :: r => by
    unfold W.dats
    rw [W.dats_map r]
    rfl
theorem W.oks_iff {L : List Str} {ws : List W} : W.Oks L ws ↔ ∀ w ∈ ws, w.Ok L := ⟨fun h w m => W.oks_mem m h, W.oks_of⟩
mutual
theorem W.Ok.mono {L M : List Str} (hs : ∀ c ∈ L, c ∈ M) : ∀ w : W, w.Ok L → w.Ok M
  | .emp, h => by unfold W.Ok; trivial
  | .ltr c, h => by unfold W.Ok at h ⊢; exact hs c h
  | .nam c, h => by unfold W.Ok at h; exact h.elim
  | .join ws, h => by unfold W.Ok at h ⊢; exact ⟨h.1, W.Oks.mono hs ws h.2⟩
  | .times w n, h => by unfold W.Ok at h ⊢; exact ⟨h.1, h.2.1, W.Ok.mono hs w h.2.2⟩
  | .right w, h => by unfold W.Ok at h ⊢; exact W.Ok.mono hs w h
  | .left w, h => by unfold W.Ok at h ⊢; exact W.Ok.mono hs w h
theorem W.Oks.mono {L M : List Str} (hs : ∀ c ∈ L, c ∈ M) : ∀ ws : List W, W.Oks L ws → W.Oks M ws
  | [], h => by unfold W.Oks; trivial
  | w :: r, h => by unfold W.Oks at h ⊢; exact ⟨W.Ok.mono hs w h.1, W.Oks.mono hs r h.2⟩
end
theorem abc_sub : ∀ c ∈ abc, c ∈ abcABC := by
  intro c h
  simp only [abc, abcABC, List.mem_cons, List.not_mem_nil, or_false] at h ⊢
  rcases h with h | h | h <;> simp [h]
/-! ### how the heap bears them -/
abbrev WV (K : PySem.W.Frag) (H : Hp) (v : V) (w : W) : Prop := Dp K H v w.dat
abbrev WVs (K : PySem.W.Frag) (H : Hp) (vs : List V) (ws : List W) : Prop := DpAll K H vs (W.dats ws)
/-- every tuple stays -/
def Tp (H H' : Hp) : Prop := ∀ a xs, Rd H a (.tup xs) → Rd H' a (.tup xs)
theorem Tp.refl (H : Hp) : Tp H H := fun _ _ h => h
theorem Tp.trans {H H1 H2 : Hp} (a : Tp H H1) (b : Tp H1 H2) : Tp H H2 := fun x o h => b x o (a x o h)
theorem Tp.sq {K : PySem.W.Frag} {H H' : Hp} (t : Tp H H') {a : Addr} {xs : List V} (h : SqT K H a xs) : SqT K H' a xs := by
  rcases h with h | h
  · exact .inl (t _ _ h)
  · exact .inr h
theorem Kp.tp {r : Addr} {H H' : Hp} {z : List V} (k : Kp r H H') (h : H r = some (.lst z)) : Tp H H' := fun a xs q => by
  rcases q with q | ⟨o, q⟩
  · exact .inl (k _ _ (ne_of q h (by intro e; cases e)) q)
  · exact .inr ⟨o, k _ _ (ne_of q h (by intro e; cases e)) q⟩
theorem tp_new {p : Addr} {H : Hp} {o : HO} (h : H p = none) : Tp H (upd H p o) := fun a xs q => by
  rcases q with q | ⟨u, q⟩
  · exact .inl (by rw [upd_ne (ne_of_none q h)]; exact q)
  · exact .inr ⟨u, by rw [upd_ne (ne_of_none q h)]; exact q⟩
theorem tp_set {p : Addr} {H : Hp} {o : HO} {z : List V} (h : H p = some (.lst z)) : Tp H (upd H p o) := Kp.tp Kp.at h
theorem tp_same {H H' : Hp} (s : Same H H') : Tp H H' := fun a xs q => by
  rcases q with q | ⟨o, q⟩
  · exact .inl (s _ _ q)
  · exact .inr ⟨o, s _ _ q⟩
mutual
theorem WV.tp {K : PySem.W.Frag} {H H' : Hp} (t : Tp H H') : ∀ (w : W) {v : V}, WV K H v w → WV K H' v w
  | .emp, v, h => by
    unfold WV W.dat at *
    cases h with | tup s a => ?_
    refine .tup (t.sq s) ?_
    cases a with | cons a b => ?_
    cases a
    cases b
    exact .cons (.str _) .nil
  | .ltr c, v, h => by
    unfold WV W.dat at *
    cases h with | tup s a => ?_
    refine .tup (t.sq s) ?_
    cases a with | cons a b => ?_
    cases b with | cons b d => ?_
    cases a
    cases b
    cases d
    exact .cons (.str _) (.cons (.str _) .nil)
  | .nam c, v, h => by
    unfold WV W.dat at *
    cases h with | tup s a => ?_
    refine .tup (t.sq s) ?_
    cases a with | cons a b => ?_
    cases b with | cons b d => ?_
    cases a
    cases b
    cases d
    exact .cons (.str _) (.cons (.str _) .nil)
  | .join ws, v, h => by
    unfold WV W.dat at *
    cases h with | tup s a => ?_
    refine .tup (t.sq s) ?_
    cases a with | cons a b => ?_
    cases b with | cons b d => ?_
    cases a
    cases d
    cases b with | tup s2 b => ?_
    exact .cons (.str _) (.cons (.tup (t.sq s2) (WVs.tp t ws b)) .nil)
  | .times w n, v, h => by
    unfold WV W.dat at *
    cases h with | tup s a => ?_
    refine .tup (t.sq s) ?_
    cases a with | cons a b => ?_
    cases b with | cons b d => ?_
    cases d with | cons d e => ?_
    cases a
    cases d
    cases e
    exact .cons (.str _) (.cons (WV.tp t w b) (.cons (.int _) .nil))
  | .right w, v, h => by
    unfold WV W.dat at *
    cases h with | tup s a => ?_
    refine .tup (t.sq s) ?_
    cases a with | cons a b => ?_
    cases b with | cons b d => ?_
    cases a
    cases d
    exact .cons (.str _) (.cons (WV.tp t w b) .nil)
  | .left w, v, h => by
    unfold WV W.dat at *
    cases h with | tup s a => ?_
    refine .tup (t.sq s) ?_
    cases a with | cons a b => ?_
    cases b with | cons b d => ?_
    cases a
    cases d
    exact .cons (.str _) (.cons (WV.tp t w b) .nil)
theorem WVs.tp {K : PySem.W.Frag} {H H' : Hp} (t : Tp H H') : ∀ (ws : List W) {vs : List V}, WVs K H vs ws → WVs K H' vs ws
  | [], vs, h => by
    unfold WVs W.dats at *
    cases h
    exact .nil
  | w :: r, vs, h => by
    unfold WVs W.dats at *
    cases h with | cons a b => ?_
    exact .cons (WV.tp t w a) (WVs.tp t r b)
end
/-- what stands at a word's address -/
inductive WAt (K : PySem.W.Frag) (H : Hp) (v : V) : W → Prop where
  | emp {a : Addr} (e : v = .ref a) (s : SqT K H a [.str "empty"]) : WAt K H v .emp
  | ltr {a : Addr} {c : Str} (e : v = .ref a) (s : SqT K H a [.str "letter", .str c]) : WAt K H v (.ltr c)
  | nam {a : Addr} {c : Str} (e : v = .ref a) (s : SqT K H a [.str "name", .str c]) : WAt K H v (.nam c)
  | join {a b : Addr} {xs : List V} {ws : List W} (e : v = .ref a) (s : SqT K H a [.str "join", .ref b]) (s2 : SqT K H b xs) (h : WVs K H xs ws) : WAt K H v (.join ws)
  | times {a : Addr} {x : V} {w : W} {n : Int} (e : v = .ref a) (s : SqT K H a [.str "times", x, .int n]) (h : WV K H x w) : WAt K H v (.times w n)
  | right {a : Addr} {x : V} {w : W} (e : v = .ref a) (s : SqT K H a [.str "right", x]) (h : WV K H x w) : WAt K H v (.right w)
  | left {a : Addr} {x : V} {w : W} (e : v = .ref a) (s : SqT K H a [.str "left", x]) (h : WV K H x w) : WAt K H v (.left w)
theorem WV.at {K : PySem.W.Frag} {H : Hp} {v : V} : ∀ {w : W}, WV K H v w → WAt K H v w
  | .emp, h => by
    unfold WV W.dat at h
    cases h with | tup s a => ?_
    cases a with | cons a b => ?_
    cases a
    cases b
    exact .emp rfl s
  | .ltr c, h => by
    unfold WV W.dat at h
    cases h with | tup s a => ?_
    cases a with | cons a b => ?_
    cases b with | cons b d => ?_
    cases a
    cases b
    cases d
    exact .ltr rfl s
  | .nam c, h => by
    unfold WV W.dat at h
    cases h with | tup s a => ?_
    cases a with | cons a b => ?_
    cases b with | cons b d => ?_
    cases a
    cases b
    cases d
    exact .nam rfl s
  | .join ws, h => by
    unfold WV W.dat at h
    cases h with | tup s a => ?_
    cases a with | cons a b => ?_
    cases b with | cons b d => ?_
    cases a
    cases d
    cases b with | tup s2 b => ?_
    exact .join rfl s s2 b
  | .times w n, h => by
    unfold WV W.dat at h
    cases h with | tup s a => ?_
    cases a with | cons a b => ?_
    cases b with | cons b d => ?_
    cases d with | cons d e => ?_
    cases a
    cases d
    cases e
    exact .times rfl s b
  | .right w, h => by
    unfold WV W.dat at h
    cases h with | tup s a => ?_
    cases a with | cons a b => ?_
    cases b with | cons b d => ?_
    cases a
    cases d
    exact .right rfl s b
  | .left w, h => by
    unfold WV W.dat at h
    cases h with | tup s a => ?_
    cases a with | cons a b => ?_
    cases b with | cons b d => ?_
    cases a
    cases d
    exact .left rfl s b
section
variable {K : PySem.W.Frag} {H : Hp} {a b : Addr} {x : V} {w : W}
theorem wv_emp (s : SqT K H a [.str "empty"]) : WV K H (.ref a) .emp := by
  unfold WV W.dat
  exact .tup s (.cons (.str _) .nil)
theorem wv_ltr {c : Str} (s : SqT K H a [.str "letter", .str c]) : WV K H (.ref a) (.ltr c) := by
  unfold WV W.dat
  exact .tup s (.cons (.str _) (.cons (.str _) .nil))
theorem wv_nam {c : Str} (s : SqT K H a [.str "name", .str c]) : WV K H (.ref a) (.nam c) := by
  unfold WV W.dat
  exact .tup s (.cons (.str _) (.cons (.str _) .nil))
theorem wv_join {xs : List V} {ws : List W} (s : SqT K H a [.str "join", .ref b]) (s2 : SqT K H b xs) (h : WVs K H xs ws) : WV K H (.ref a) (.join ws) := by
  unfold WV W.dat
  exact .tup s (.cons (.str _) (.cons (.tup s2 h) .nil))
theorem wv_times {n : Int} (s : SqT K H a [.str "times", x, .int n]) (h : WV K H x w) : WV K H (.ref a) (.times w n) := by
  unfold WV W.dat
  exact .tup s (.cons (.str _) (.cons h (.cons (.int _) .nil)))
theorem wv_right (s : SqT K H a [.str "right", x]) (h : WV K H x w) : WV K H (.ref a) (.right w) := by
  unfold WV W.dat
  exact .tup s (.cons (.str _) (.cons h .nil))
theorem wv_left (s : SqT K H a [.str "left", x]) (h : WV K H x w) : WV K H (.ref a) (.left w) := by
  unfold WV W.dat
  exact .tup s (.cons (.str _) (.cons h .nil))
theorem wvs_nil : WVs K H [] [] := by
  unfold WVs W.dats
  exact .nil
theorem wvs_cons {xs : List V} {ws : List W} (h : WV K H x w) (t : WVs K H xs ws) : WVs K H (x :: xs) (w :: ws) := by
  unfold WVs W.dats
  exact .cons h t
end
theorem WVs.length {K : PySem.W.Frag} {H : Hp} : ∀ {ws : List W} {xs : List V}, WVs K H xs ws → xs.length = ws.length
  | [], xs, h => by
    unfold WVs W.dats at h
    cases h
    rfl
  | w :: r, xs, h => by
    unfold WVs W.dats at h
    cases h with | cons a b => ?_
    rw [List.length_cons, List.length_cons, WVs.length (ws := r) b]
theorem WVs.get {K : PySem.W.Frag} {H : Hp} : ∀ {ws : List W} {xs : List V} {i : Nat} {x : V}, WVs K H xs ws → xs[i]? = some x → ∃ w, ws[i]? = some w ∧ WV K H x w
  | [], xs, i, x, h, e => by
    unfold WVs W.dats at h
    cases h
    simp at e
  | w :: r, xs, 0, x, h, e => by
    unfold WVs W.dats at h
    cases h with | cons a b => ?_
    cases e
    exact ⟨w, rfl, a⟩
  | w :: r, xs, i + 1, x, h, e => by
    unfold WVs W.dats at h
    cases h with | cons a b => ?_
    exact WVs.get (ws := r) (i := i) b e
theorem WVs.app {K : PySem.W.Frag} {H : Hp} {x : V} {w : W} (q : WV K H x w) : ∀ {ws : List W} {xs : List V}, WVs K H xs ws → WVs K H (xs ++ [x]) (ws ++ [w])
  | [], xs, h => by
    unfold WVs W.dats at h
    cases h
    exact wvs_cons q wvs_nil
  | v :: r, xs, h => by
    unfold WVs W.dats at h
    cases h with | cons a b => ?_
    exact wvs_cons a (WVs.app q (ws := r) b)
/-! ### the two lists that a drawing of a tree changes -/
def Kp2 (r k : Addr) (H H' : Hp) : Prop := ∀ b o, b ≠ r → b ≠ k → H b = some o → H' b = some o
theorem Kp2.refl (r k : Addr) (H : Hp) : Kp2 r k H H := fun _ _ _ _ h => h
theorem Kp2.trans {r k : Addr} {H H1 H2 : Hp} (a : Kp2 r k H H1) (b : Kp2 r k H1 H2) : Kp2 r k H H2 := fun c o n m h => b c o n m (a c o n m h)
theorem Kp.two {r k : Addr} {H H' : Hp} (a : Kp r H H') : Kp2 r k H H' := fun c o n _ h => a c o n h
theorem Kp2.at {r k : Addr} {H : Hp} {o : HO} : Kp2 r k H (upd H k o) := fun b u _ n e => by
  rw [upd_ne n]
  exact e
theorem Kp2.tp {r k : Addr} {H H' : Hp} {z y : List V} (q : Kp2 r k H H') (h : H r = some (.lst z)) (g : H k = some (.lst y)) : Tp H H' := fun a xs p => by
  rcases p with p | ⟨o, p⟩
  · exact .inl (q _ _ (ne_of p h (by intro e; cases e)) (ne_of p g (by intro e; cases e)) p)
  · exact .inr ⟨o, q _ _ (ne_of p h (by intro e; cases e)) (ne_of p g (by intro e; cases e)) p⟩
theorem Kp2.fresh {r k : Addr} {H H' : Hp} {o : HO} (h : H k = none) (q : Kp2 r k (upd H k o) H') : Kp r H H' := fun b u n e =>
  q b u n (ne_of_none e h) (by rw [upd_ne (ne_of_none e h)]; exact e)
theorem Rng.lst {H : Hp} {r l : Addr} (g : Rng H r l) : ∃ z, H r = some (.lst z) := by
  obtain ⟨ns, i, d, st, c, h1, _⟩ := g
  exact ⟨_, h1⟩
theorem Rng.ne {H : Hp} {r l : Addr} (g : Rng H r l) : l ≠ r := by
  obtain ⟨ns, i, d, st, c, h1, h2, h3, h4⟩ := g
  exact h4
/-- the generator stays where neither of its lists is touched -/
theorem Rng.of {H H' : Hp} {r l : Addr} (g : Rng H r l) (a : ∀ o, H r = some o → H' r = some o) (b : ∀ o, H l = some o → H' l = some o) : Rng H' r l := by
  obtain ⟨ns, i, d, st, c, h1, h2, h3, h4⟩ := g
  exact ⟨ns, i, d, st, c, a _ h1, b _ h2, h3, h4⟩
theorem Rng.some_l {H : Hp} {r l : Addr} (g : Rng H r l) : ∃ z, H l = some (.lst z) := by
  obtain ⟨ns, i, d, st, c, h1, h2, h3, h4⟩ := g
  exact ⟨_, h2⟩
/-! ### comprehensions of one name without a test -/
theorem lcr {lo : Int} {n j : Nat} {te : TE} {σ : L2.St} {H1 : Hp} {D : Addr} {Qd : Hp → Prop} (Pv : Nat → Hp → Prop) (h0 : Pv 0 (upd H1 D (.lst [])))
    (hs : ∀ i H, i < n → Pv i H → te (σ.set j (some (.int (lo + i)))) H fun y H4 => ∃ acc, H4 D = some (.lst acc) ∧ acc.length < sizeLine ∧ Pv (i + 1) (upd H4 D (.lst (acc ++ [y])))) (hd : ∀ H, Pv n H → Qd H) :
    ∃ W : Nat → Nat → Hp → Prop, (∃ m, W 0 m (upd H1 D (.lst []))) ∧ ∀ i m H, W i m H →
      ((Itr lo n).stop i H ∧ Qd H) ∨ ((Itr lo n).go i H ∧ ∃ Nx : Hp → Prop, (∀ H', Nx H' → ∃ m', m' < m ∧ W (i + 1) m' H') ∧ ∀ x H', (Itr lo n).yld i H x H' → gName j x (wipe σ [j]) H' fun σ2 H2 => wipe σ2 [j] = wipe σ [j] ∧ tYes σ2 H2 fun b H3 =>
        if b = true then te σ2 H3 fun y H4 => ∃ acc, H4 D = some (.lst acc) ∧ acc.length < sizeLine ∧ Nx (upd H4 D (.lst (acc ++ [y]))) else Nx H3) := by
  refine lc_range Pv h0 (fun i H hi p => ?_) hd
  have e1 : wipe σ [j] = σ.set j none := rfl
  have e2 : (wipe σ [j]).set j (some (.int (lo + i))) = σ.set j (some (.int (lo + i))) := by rw [e1, List.set_set]
  unfold gName tYes
  rw [e2]
  dsimp only
  rw [if_pos rfl]
  refine ⟨?_, hs i H hi p⟩
  show (σ.set j (some (.int (lo + i)))).set j none = σ.set j none
  rw [List.set_set]
theorem lcl {K : PySem.W.Frag} {a : Addr} {xs : List V} {j : Nat} {te : TE} {σ : L2.St} {H1 : Hp} {D : Addr} {Qd : Hp → Prop} (Pv : Nat → Hp → Prop) (h0 : Pv 0 (upd H1 D (.lst []))) (hl : ∀ i H, i ≤ xs.length → Pv i H → SqL K H a xs)
    (hs : ∀ i x H, xs[i]? = some x → Pv i H → te (σ.set j (some x)) H fun y H4 => ∃ acc, H4 D = some (.lst acc) ∧ acc.length < sizeLine ∧ Pv (i + 1) (upd H4 D (.lst (acc ++ [y])))) (hd : ∀ H, Pv xs.length H → Qd H) :
    ∃ W : Nat → Nat → Hp → Prop, (∃ m, W 0 m (upd H1 D (.lst []))) ∧ ∀ i m H, W i m H →
      ((Itl K a).stop i H ∧ Qd H) ∨ ((Itl K a).go i H ∧ ∃ Nx : Hp → Prop, (∀ H', Nx H' → ∃ m', m' < m ∧ W (i + 1) m' H') ∧ ∀ x H', (Itl K a).yld i H x H' → gName j x (wipe σ [j]) H' fun σ2 H2 => wipe σ2 [j] = wipe σ [j] ∧ tYes σ2 H2 fun b H3 =>
        if b = true then te σ2 H3 fun y H4 => ∃ acc, H4 D = some (.lst acc) ∧ acc.length < sizeLine ∧ Nx (upd H4 D (.lst (acc ++ [y]))) else Nx H3) := by
  refine lc_list Pv h0 hl (fun i x H hi p => ?_) hd
  have e1 : wipe σ [j] = σ.set j none := rfl
  have e2 : (wipe σ [j]).set j (some x) = σ.set j (some x) := by rw [e1, List.set_set]
  unfold gName tYes
  rw [e2]
  dsimp only
  rw [if_pos rfl]
  refine ⟨?_, hs i x H hi p⟩
  show (σ.set j (some x)).set j none = σ.set j none
  rw [List.set_set]
theorem lct {K : PySem.W.Frag} {a : Addr} {xs : List V} {j : Nat} {te : TE} {σ : L2.St} {H1 : Hp} {D : Addr} {Qd : Hp → Prop} (Pv : Nat → Hp → Prop) (h0 : Pv 0 (upd H1 D (.lst []))) (hl : ∀ i H, i ≤ xs.length → Pv i H → SqT K H a xs)
    (hs : ∀ i x H, xs[i]? = some x → Pv i H → te (σ.set j (some x)) H fun y H4 => ∃ acc, H4 D = some (.lst acc) ∧ acc.length < sizeLine ∧ Pv (i + 1) (upd H4 D (.lst (acc ++ [y])))) (hd : ∀ H, Pv xs.length H → Qd H) :
    ∃ W : Nat → Nat → Hp → Prop, (∃ m, W 0 m (upd H1 D (.lst []))) ∧ ∀ i m H, W i m H →
      ((Itt K a).stop i H ∧ Qd H) ∨ ((Itt K a).go i H ∧ ∃ Nx : Hp → Prop, (∀ H', Nx H' → ∃ m', m' < m ∧ W (i + 1) m' H') ∧ ∀ x H', (Itt K a).yld i H x H' → gName j x (wipe σ [j]) H' fun σ2 H2 => wipe σ2 [j] = wipe σ [j] ∧ tYes σ2 H2 fun b H3 =>
        if b = true then te σ2 H3 fun y H4 => ∃ acc, H4 D = some (.lst acc) ∧ acc.length < sizeLine ∧ Nx (upd H4 D (.lst (acc ++ [y]))) else Nx H3) := by
  refine lc_tup Pv h0 hl (fun i x H hi p => ?_) hd
  have e1 : wipe σ [j] = σ.set j none := rfl
  have e2 : (wipe σ [j]).set j (some x) = σ.set j (some x) := by rw [e1, List.set_set]
  unfold gName tYes
  rw [e2]
  dsimp only
  rw [if_pos rfl]
  refine ⟨?_, hs i x H hi p⟩
  show (σ.set j (some x)).set j none = σ.set j none
  rw [List.set_set]
end SW

set_option Elab.async false
set_option linter.all false
set_option maxRecDepth 100000
set_option maxHeartbeats 4000000
namespace SW
open PySem PySem.Spec PyProof.Rows L2
/-! ### small data: at most n levels, at most 1000 items -/
def atomD : PyData → Prop
  | .none => True
  | .bool _ => True
  | .int _ => True
  | .str _ => True
  | _ => False
def Sm : Nat → PyData → Prop
  | _ + 1, .list ds => ds.length ≤ 1000 ∧ ∀ d, d ∈ ds → Sm ‹Nat› d
  | _ + 1, .tuple ds => ds.length ≤ 1000 ∧ ∀ d, d ∈ ds → Sm ‹Nat› d
  | _, .none => True
  | _, .bool _ => True
  | _, .int _ => True
  | _, .str _ => True
  | _, _ => False
theorem Sm.mono : ∀ {n m : Nat} {d : PyData}, Sm n d → n ≤ m → Sm m d
  | n, m, .none, _, _ => by cases m <;> (unfold Sm; trivial)
  | n, m, .bool _, _, _ => by cases m <;> (unfold Sm; trivial)
  | n, m, .int _, _, _ => by cases m <;> (unfold Sm; trivial)
  | n, m, .str _, _, _ => by cases m <;> (unfold Sm; trivial)
  | n + 1, m + 1, .list ds, h, l => by
    unfold Sm at h ⊢
    exact ⟨h.1, fun d q => (h.2 d q).mono (by omega)⟩
  | n + 1, m + 1, .tuple ds, h, l => by
    unfold Sm at h ⊢
    exact ⟨h.1, fun d q => (h.2 d q).mono (by omega)⟩
  | 0, m, .list ds, h, l => by unfold Sm at h; exact h.elim
  | 0, m, .tuple ds, h, l => by unfold Sm at h; exact h.elim
  | n + 1, 0, .list ds, h, l => by omega
  | n + 1, 0, .tuple ds, h, l => by omega
  | 0, m, .dict ds, h, l => by unfold Sm at h; exact h.elim
  | n + 1, m, .dict ds, h, l => by unfold Sm at h; exact h.elim
mutual
theorem W.sm {L : List Str} : ∀ w : W, w.Ok L → Sm (2 * w.dep) w.dat
  | .emp, h => by
    unfold W.dat W.dep
    show Sm 2 _
    unfold Sm
    refine ⟨by decide, fun d q => ?_⟩
    cases List.mem_singleton.mp q
    unfold Sm
    trivial
  | .ltr c, h => by
    unfold W.dat W.dep
    show Sm 2 _
    unfold Sm
    refine ⟨by show 2 ≤ 1000; decide, fun d q => ?_⟩
    simp only [List.mem_cons, List.not_mem_nil, or_false] at q
    rcases q with rfl | rfl <;> (unfold Sm; trivial)
  | .nam c, h => by
    unfold W.Ok at h
    exact h.elim
  | .join ws, h => by
    unfold W.Ok at h
    unfold W.dat W.dep
    show Sm (2 * W.deps ws + 1 + 1) _
    unfold Sm
    refine ⟨by show 2 ≤ 1000; decide, fun d q => ?_⟩
    simp only [List.mem_cons, List.not_mem_nil, or_false] at q
    rcases q with rfl | rfl
    · unfold Sm
      trivial
    · unfold Sm
      refine ⟨?_, fun d q => ?_⟩
      · rw [W.dats_map, List.length_map]
        omega
      · exact W.sms ws h.2 d q
  | .times w n, h => by
    unfold W.Ok at h
    unfold W.dat W.dep
    show Sm (2 * w.dep + 1 + 1) _
    unfold Sm
    refine ⟨by show 3 ≤ 1000; decide, fun d q => ?_⟩
    simp only [List.mem_cons, List.not_mem_nil, or_false] at q
    rcases q with rfl | rfl | rfl
    · unfold Sm
      trivial
    · exact (W.sm w h.2.2).mono (by omega)
    · unfold Sm
      trivial
  | .right w, h => by
    unfold W.Ok at h
    unfold W.dat W.dep
    show Sm (2 * w.dep + 1 + 1) _
    unfold Sm
    refine ⟨by show 2 ≤ 1000; decide, fun d q => ?_⟩
    simp only [List.mem_cons, List.not_mem_nil, or_false] at q
    rcases q with rfl | rfl
    · unfold Sm
      trivial
    · exact (W.sm w h).mono (by omega)
  | .left w, h => by
    unfold W.Ok at h
    unfold W.dat W.dep
    show Sm (2 * w.dep + 1 + 1) _
    unfold Sm
    refine ⟨by show 2 ≤ 1000; decide, fun d q => ?_⟩
    simp only [List.mem_cons, List.not_mem_nil, or_false] at q
    rcases q with rfl | rfl
    · unfold Sm
      trivial
    · exact (W.sm w h).mono (by omega)
theorem W.sms {L : List Str} : ∀ ws : List W, W.Oks L ws → ∀ d ∈ W.dats ws, Sm (2 * W.deps ws) d
  | [], h, d, q => by
    unfold W.dats at q
    exact (List.not_mem_nil q).elim
  | w :: r, h, d, q => by
    unfold W.Oks at h
    unfold W.dats at q
    unfold W.deps
    rcases List.mem_cons.mp q with rfl | q
    · exact (W.sm w h.1).mono (Nat.mul_le_mul_left 2 (Nat.le_max_left _ _))
    · exact (W.sms r h.2 d q).mono (Nat.mul_le_mul_left 2 (Nat.le_max_right _ _))
end
/-! ### what == asks of data -/
def strsOk (L : List Str) : Prop := ∀ c ∈ L, PyData.canLay0 (.str c) = true
theorem abc_ok : strsOk abcABC := by
  intro c h
  simp only [abcABC, List.mem_cons, List.not_mem_nil, or_false] at h
  rcases h with rfl | rfl | rfl | rfl | rfl | rfl <;> decide +kernel
mutual
theorem W.lay {L : List Str} (hL : strsOk L) : ∀ w : W, w.Ok L → w.dat.canLay0 = true
  | .emp, h => by
    unfold W.dat
    decide +kernel
  | .ltr c, h => by
    unfold W.Ok at h
    unfold W.dat
    have a := hL c h
    simp only [PyData.canLay0, PyData.canLayAll0, Bool.and_true] at a ⊢
    rw [a]
    decide +kernel
  | .nam c, h => by
    unfold W.Ok at h
    exact h.elim
  | .join ws, h => by
    unfold W.Ok at h
    unfold W.dat
    have a := W.lays hL ws h.2
    simp only [PyData.canLay0, PyData.canLayAll0, Bool.and_true]
    rw [a]
    decide +kernel
  | .times w n, h => by
    unfold W.Ok at h
    unfold W.dat
    have a := W.lay hL w h.2.2
    simp only [PyData.canLay0, PyData.canLayAll0, Bool.and_true]
    rw [a]
    decide +kernel
  | .right w, h => by
    unfold W.Ok at h
    unfold W.dat
    have a := W.lay hL w h
    simp only [PyData.canLay0, PyData.canLayAll0, Bool.and_true]
    rw [a]
    decide +kernel
  | .left w, h => by
    unfold W.Ok at h
    unfold W.dat
    have a := W.lay hL w h
    simp only [PyData.canLay0, PyData.canLayAll0, Bool.and_true]
    rw [a]
    decide +kernel
theorem W.lays {L : List Str} (hL : strsOk L) : ∀ ws : List W, W.Oks L ws → PyData.canLayAll0 (W.dats ws) = true
  | [], h => by
    unfold W.dats
    rfl
  | w :: r, h => by
    unfold W.Oks at h
    unfold W.dats
    simp only [PyData.canLayAll0]
    rw [W.lay hL w h.1, W.lays hL r h.2]
    rfl
end
mutual
theorem Sm.depth : ∀ (n : Nat) (d : PyData), Sm n d → d.depth ≤ n + 1
  | n, .none, _ => by simp [PyData.depth]
  | n, .bool _, _ => by simp [PyData.depth]
  | n, .int _, _ => by simp [PyData.depth]
  | n, .str _, _ => by simp [PyData.depth]
  | 0, .list ds, h => by unfold Sm at h; exact h.elim
  | 0, .tuple ds, h => by unfold Sm at h; exact h.elim
  | 0, .dict ds, h => by unfold Sm at h; exact h.elim
  | n + 1, .dict ds, h => by unfold Sm at h; exact h.elim
  | n + 1, .list ds, h => by
    unfold Sm at h
    have := Sm.depths n ds h.2
    unfold PyData.depth
    omega
  | n + 1, .tuple ds, h => by
    unfold Sm at h
    have := Sm.depths n ds h.2
    unfold PyData.depth
    omega
theorem Sm.depths : ∀ (n : Nat) (ds : List PyData), (∀ d ∈ ds, Sm n d) → PyData.depthAll ds ≤ n + 1
  | n, [], _ => by simp [PyData.depthAll]
  | n, d :: r, h => by
    have a := Sm.depth n d (h d (List.mem_cons_self ..))
    have b := Sm.depths n r fun x q => h x (List.mem_cons_of_mem _ q)
    unfold PyData.depthAll
    omega
end
end SW

set_option Elab.async false
set_option linter.all false
set_option maxRecDepth 100000
set_option maxHeartbeats 4000000
namespace SW
open PySem PySem.Spec PyProof.Rows L2
theorem W.shaped {L : List Str} (hL : strsOk L) {w : W} (h : w.Ok L) (hd : w.dep ≤ 30) : SeqAt.shaped w.dat = true := by
  unfold SeqAt.shaped
  rw [W.lay hL w h, decide_eq_true (p := w.dat.depth ≤ 64) (Nat.le_trans (Sm.depth _ _ (W.sm w h)) (by omega))]
  rfl
theorem W.eqv_refl {L : List Str} (hL : strsOk L) {w : W} (h : w.Ok L) : PyData.eqv w.dat w.dat = true := PySem.SeqAt.eqv_refl _ (W.lay hL w h)
/-! ### types of data -/
def tyN : PyData → String
  | .none => "NoneType"
  | .bool _ => "bool"
  | .int _ => "int"
  | .str _ => "str"
  | .list _ => "list"
  | .tuple _ => "tuple"
  | .dict _ => "dict"
theorem SqL.ty {K : PySem.W.Frag} {H : Hp} {a : Addr} {xs : List V} (h : SqL K H a xs) : TyX K H (.ref a) (.type "list") := by
  rcases h with (h | ⟨o, h⟩) | ⟨o, its, n, h, c, _⟩
  · exact .base (.lst h)
  · exact .base (.frz h)
  · exact .kList h c
theorem SqT.ty {K : PySem.W.Frag} {H : Hp} {a : Addr} {xs : List V} (h : SqT K H a xs) : TyX K H (.ref a) (.type "tuple") := by
  rcases h with (h | ⟨o, h⟩) | ⟨o, its, n, h, c, _⟩
  · exact .base (.tup h)
  · exact .fTuple h
  · exact .kTuple h c
theorem Dp.ty {K : PySem.W.Frag} {H : Hp} {v : V} {d : PyData} (h : Dp K H v d) : TyX K H v (.type (tyN d)) := by
  cases h with
  | non => exact .base .non
  | bl b => exact .base (.bl b)
  | int i => exact .base (.int i)
  | str x => exact .base (.str x)
  | lst s _ => exact SqL.ty s
  | tup s _ => exact SqT.ty s
/-- isinstance(x, T) of data at a slot -/
theorem rd_isi {K : PySem.W.Frag} {σ : L2.St} {H : Hp} {i : Nat} {v : V} {d : PyData} {n : String} {b : Bool} {Q : VK} (hσ : σ[i]? = some (some v)) (h : Dp K H v d) (k : kitB (tyN d) n = some b) (q : Q (.bl b) H) :
    tCB (rIsi K) (tCons (tVar i) (tCons (tC (.ty n)) tNil)) σ H Q := ⟨v, hσ, v, .ty n, _, _, b, rfl, .ty n, Dp.ty h, kit_ty k, q⟩
theorem walk_zipT {K : PySem.W.Frag} {a b : Addr} {xs ys : List V} {n : Nat} (hn : n = min xs.length ys.length) : Walk (RZ.ItzT K a b) n (fun H => SqT K H a xs ∧ SqT K H b ys) (YPair (fun i => xs[i]?) (fun i => ys[i]?)) := by
  subst hn
  refine ⟨fun i _ hi q => ?_, fun _ q => ⟨xs, ys, q.1, q.2, by omega⟩, fun i H v H' _ q y => ?_⟩
  · have h1 : i < xs.length := by omega
    have h2 : i < ys.length := by omega
    exact ⟨xs, ys, xs[i], ys[i], q.1, q.2, by simp [h1], by simp [h2]⟩
  · obtain ⟨T, x, z, h1, h2, h3, h4, h5⟩ := y
    exact ⟨T, x, z, h1, h2, h3, h4 xs q.1, h5 ys q.2⟩
/-- a comprehension over pairs -/
theorem lcz {K : PySem.W.Frag} {J : It} {n : Nat} {G : Hp → Prop} {fx fy : Nat → Option V} (w : Walk J n G (YPair fx fy)) {j1 j2 : Nat} (hj : j1 ≠ j2) {te : TE} {σ : L2.St} {H1 : Hp} {D : Addr} {Qd : Hp → Prop} (Pv : Nat → Hp → Prop) (h0 : Pv 0 (upd H1 D (.lst []))) (hG : ∀ i H, i ≤ n → Pv i H → G H)
    (hs : ∀ i x y T H, i < n → fx i = some x → fy i = some y → Pv i H → H T = none → te ((σ.set j1 (some x)).set j2 (some y)) (upd H T (.tup [x, y])) fun z H4 => ∃ acc, H4 D = some (.lst acc) ∧ acc.length < sizeLine ∧ Pv (i + 1) (upd H4 D (.lst (acc ++ [z])))) (hd : ∀ H, Pv n H → Qd H) :
    ∃ W : Nat → Nat → Hp → Prop, (∃ m, W 0 m (upd H1 D (.lst []))) ∧ ∀ i m H, W i m H →
      (J.stop i H ∧ Qd H) ∨ (J.go i H ∧ ∃ Nx : Hp → Prop, (∀ H', Nx H' → ∃ m', m' < m ∧ W (i + 1) m' H') ∧ ∀ x H', J.yld i H x H' → gTup K 2 (gCons (gName j1) (gCons (gName j2) gNil)) x (wipe σ [j1, j2]) H' fun σ2 H2 => wipe σ2 [j1, j2] = wipe σ [j1, j2] ∧ tYes σ2 H2 fun b H3 =>
        if b = true then te σ2 H3 fun y H4 => ∃ acc, H4 D = some (.lst acc) ∧ acc.length < sizeLine ∧ Nx (upd H4 D (.lst (acc ++ [y]))) else Nx H3) := by
  refine lc_it w Pv h0 hG (fun i v H H' hi p y => ?_) hd
  obtain ⟨T, x, y, rfl, hT, rfl, h1, h2⟩ := y
  have e0 : wipe σ [j1, j2] = (σ.set j2 none).set j1 none := rfl
  have e1 : ((wipe σ [j1, j2]).set j1 (some x)).set j2 (some y) = (σ.set j1 (some x)).set j2 (some y) := by
    rw [e0, List.set_set, List.set_comm _ _ hj.symm, List.set_set]
  refine ⟨T, [x, y], rfl, SqT.of upd_same, rfl, x, [y], rfl, y, [], rfl, rfl, ?_, ?_⟩
  · rw [e1]
    show ((((σ.set j1 (some x)).set j2 (some y))).set j2 none).set j1 none = (σ.set j2 none).set j1 none
    rw [List.set_set, List.set_comm _ _ hj, List.set_set]
  · rw [e1]
    unfold tYes
    dsimp only
    rw [if_pos rfl]
    exact hs i x y T H hi h1 h2 p hT
theorem DpAll.length {K : PySem.W.Frag} {H : Hp} : ∀ {ds : List PyData} {xs : List V}, DpAll K H xs ds → xs.length = ds.length
  | [], _, .nil => rfl
  | _ :: r, _, .cons _ t => by rw [List.length_cons, List.length_cons, DpAll.length t]
theorem DpAll.get {K : PySem.W.Frag} {H : Hp} : ∀ {ds : List PyData} {xs : List V} {i : Nat} {x : V}, DpAll K H xs ds → xs[i]? = some x → ∃ d, ds[i]? = some d ∧ Dp K H x d
  | [], _, i, x, .nil, e => by simp at e
  | d :: r, _, 0, x, .cons a t, e => by
    cases e
    exact ⟨d, rfl, a⟩
  | d :: r, _, i + 1, x, .cons a t, e => DpAll.get (i := i) t e
mutual
theorem Dp.same {K : PySem.W.Frag} {H H' : Hp} (s : Same H H') : ∀ (d : PyData) {v : V}, Dp K H v d → Dp K H' v d
  | .none, _, .non => .non
  | .bool b, _, .bl _ => .bl b
  | .int i, _, .int _ => .int i
  | .str x, _, .str _ => .str x
  | .list ds, _, .lst h a => .lst (s.seq h) (DpAll.same s ds a)
  | .tuple ds, _, .tup h a => .tup ((tp_same s).sq h) (DpAll.same s ds a)
theorem DpAll.same {K : PySem.W.Frag} {H H' : Hp} (s : Same H H') : ∀ (ds : List PyData) {vs : List V}, DpAll K H vs ds → DpAll K H' vs ds
  | [], _, .nil => .nil
  | d :: r, _, .cons a b => .cons (Dp.same s d a) (DpAll.same s r b)
end
theorem same_new {H : Hp} {p : Addr} {o : HO} (h : H p = none) : Same H (upd H p o) := fun b u e => by
  rw [upd_ne (ne_of_none e h)]
  exact e
theorem Same.kp {r : Addr} {H H' : Hp} (s : Same H H') : Kp r H H' := fun b o _ e => s b o e
/-- all of a row of True -/
theorem all_true (n : Nat) : (List.replicate n true).all id = true := by
  induction n with
  | zero => rfl
  | succ n ih => rw [List.replicate_succ, List.all_cons, ih]; rfl
theorem rep_snoc (n : Nat) : (List.replicate n true).map V.bl ++ [V.bl true] = (List.replicate (n + 1) true).map V.bl := by
  rw [List.replicate_succ', List.map_append]
  rfl
end SW

set_option Elab.async false
set_option linter.all false
set_option maxRecDepth 100000
set_option maxHeartbeats 4000000
namespace SW
open PySem PySem.Spec PyProof.Rows L2
/-! ### a starred text in a display -/
def signs (z : Str) : List V := z.cps.toList.map fun c => V.str ⟨#[c]⟩
theorem vals_of : ∀ {xs : List V} {us : List Value}, xs.length = us.length → (∀ (i : Nat) x u, xs[i]? = some x → us[i]? = some u → RelV x u) → Vals xs us
  | [], [], _, _ => .nil
  | x :: xs, u :: us, hl, h => .cons (h 0 x u rfl rfl) (vals_of (by simpa using hl) fun i a b p q => h (i + 1) a b p q)
section
variable {X : Cx} {pins : List (Addr × Obj)} {σ : L2.St} {H : Hp} {s : Shared}
theorem star_str {z : Str} {t : Tok} {E : Value → Shared → Prop} {Q : List Value → Shared → Prop} (hc : X.calm = true) (I : Inv X pins σ H s) (hz : z.cps.size ≤ sizeLine) (hQ : ∀ us s', Inv X pins σ H s' → Vals (signs z) us → Q us s') :
    PySem.W.StarOf (model X.prog X.w) X.A E (.str z t) Q s := by
  have z1 : wpAny (model X.prog X.w) X.A (collect (.str z t)) Q E s := by
    refine wpAny_collect_str (I.ok.hd hc) z t (fun s' acc hk hg hd ho hit => ?_) hz
    have e : s' = { s with heap := s'.heap, toks := s'.toks } := by
      cases s'
      cases s
      simp only at hg hd ho
      subst hg hd ho
      rfl
    rw [e]
    refine hQ acc.toList _ (I.kept (t' := s'.toks) hk) (vals_of ?_ fun i x u p q => ?_)
    · unfold signs
      rw [List.length_map, Array.length_toList, Array.length_toList]
      exact hit.1.symm
    · have q' : acc[i]? = some u := by rw [Array.getElem?_toList] at q; exact q
      obtain ⟨c, tk, h1, h2⟩ := hit.2 i u q'
      unfold signs at p
      rw [List.getElem?_map, Array.getElem?_toList, h1] at p
      cases p
      exact ⟨tk, h2⟩
  unfold PySem.W.StarOf notIterableAtAll
  exact wpAny_bind (wpAny_specialOf (T := "str") (v := .str z t) rfl PySem.F.slot_str_iter.lookup (wpAny_pure ⟨rfl, z1⟩))
end
def tStarS (te : TE) (t : TA) : TA := fun σ H Q => te σ H fun x H1 => ∃ z, x = V.str z ∧ z.cps.size ≤ sizeLine ∧ t σ H1 fun ys H2 => Q (signs z ++ ys) H2
theorem pa_starS {X : Cx} {e : Expr} {es : List Expr} {te : TE} {t : TA} {p : Pos} (hc : X.calm = true) (he : PE X e te) (hr : PA X es t) (hs : starEach (.Starred e p :: es) X.env = (true, eval e X.env) :: starEach es X.env := by rfl) : PA X (.Starred e p :: es) (tStarS te t) := by
  refine ⟨fun pos pins s σ H Q I h => ?_⟩
  refine PySem.W.items_star (thn (he.run pins s σ H _ I h) fun v s1 ⟨y, H1, I1, ry, z, ey, hz, q⟩ => ?_) hs
  subst ey
  obtain ⟨tk, rfl⟩ := (show ∃ t, v = Value.str z t from ry)
  refine star_str hc I1 hz fun us s2 I2 rv => ?_
  exact thn (hr.run pos pins s2 σ H1 _ I2 q) fun ws s3 ⟨vs, H3, I3, r3, q3⟩ => ⟨signs z ++ vs, H3, I3, rv.append r3, q3⟩
/-! ### tests of texts -/
theorem eq_no {a b : Str} {A B : Prop} (h : a ≠ b) (q : B) : ∃ k, V.bl (decide (V.str a = V.str b)) = V.bl k ∧ if k = true then A else B :=
  ⟨false, by rw [decide_eq_false]; intro e; exact h (V.str.inj e), q⟩
theorem eq_yes {a b : Str} {A B : Prop} (h : a = b) (q : A) : ∃ k, V.bl (decide (V.str a = V.str b)) = V.bl k ∧ if k = true then A else B :=
  ⟨true, by rw [h, decide_eq_true rfl], q⟩
/-- membership of a text among texts -/
theorem inV_str {c : Str} : ∀ {L : List Str}, inV (.str c) (L.map V.str) = decide (c ∈ L)
  | [] => rfl
  | a :: r => by
    have ih := inV_str (c := c) (L := r)
    unfold inV at ih ⊢
    rw [List.map_cons, List.any_cons, ih]
    show ((a == c) || decide (c ∈ r)) = _
    by_cases h : a = c
    · subst h
      simp
    · have h' : ¬ c = a := fun e => h e.symm
      simp [h, h']
theorem in_no {c : Str} (L : List Str) {A B : Prop} (h : c ∉ L) (q : B) : ∃ k, V.bl (if false = true then !inV (.str c) (L.map V.str) else inV (.str c) (L.map V.str)) = V.bl k ∧ if k = true then A else B := by
  refine ⟨false, ?_, q⟩
  rw [if_neg (by decide), inV_str, decide_eq_false h]
theorem in_yes {c : Str} (L : List Str) {A B : Prop} (h : c ∈ L) (q : A) : ∃ k, V.bl (if false = true then !inV (.str c) (L.map V.str) else inV (.str c) (L.map V.str)) = V.bl k ∧ if k = true then A else B := by
  refine ⟨true, ?_, q⟩
  rw [if_neg (by decide), inV_str, decide_eq_true h]
/-! ### counts -/
mutual
def W.cnt (L : List Str) : W → Option Int
  | .emp => some 0
  | .ltr c => some (if c ∈ L then 1 else 0)
  | .nam _ => some 0
  | .join ws => W.cnts L ws
  | .times w n => if 0 < n then (w.cnt L).map (· * n) else some 0
  | .right w => if w.cnt L = some 0 then some 0 else none
  | .left w => if w.cnt L = some 0 then some 0 else none
def W.cnts (L : List Str) : List W → Option Int
  | [] => some 0
  | w :: r => match w.cnt L, W.cnts L r with
    | some a, some b => some (a + b)
    | _, _ => none
end
def toV : Option Int → V
  | none => .non
  | some m => .int m
def toL : Option Int → Int
  | none => -1
  | some m => m
theorem cnt_emp {L : List Str} : W.cnt L .emp = some 0 := by rw [W.cnt]
theorem cnt_ltr {L : List Str} {c : Str} : W.cnt L (.ltr c) = some (if c ∈ L then 1 else 0) := by rw [W.cnt]
theorem cnt_join {L : List Str} {ws : List W} : W.cnt L (.join ws) = W.cnts L ws := by rw [W.cnt]
theorem cnt_times {L : List Str} {t : W} {n : Int} : W.cnt L (.times t n) = if 0 < n then (t.cnt L).map (· * n) else some 0 := by rw [W.cnt]
theorem cnt_right {L : List Str} {t : W} : W.cnt L (.right t) = if t.cnt L = some 0 then some 0 else none := by rw [W.cnt]
theorem cnt_left {L : List Str} {t : W} : W.cnt L (.left t) = if t.cnt L = some 0 then some 0 else none := by rw [W.cnt]
theorem W.cnts_none {L : List Str} : ∀ {ws : List W}, none ∈ ws.map (W.cnt L) → W.cnts L ws = none
  | w :: r, h => by
    unfold W.cnts
    rcases List.mem_cons.mp h with e | h
    · rw [← e]
    · rw [W.cnts_none h]
      split <;> simp_all
theorem W.cnts_some {L : List Str} : ∀ {ws : List W}, none ∉ ws.map (W.cnt L) → W.cnts L ws = some ((ws.map fun w => toL (w.cnt L)).sum)
  | [], _ => by
    unfold W.cnts
    rfl
  | w :: r, h => by
    unfold W.cnts
    rw [List.map_cons, List.mem_cons, not_or] at h
    rw [W.cnts_some h.2, List.map_cons, List.sum_cons]
    cases e : w.cnt L with
    | none => exact absurd e.symm h.1
    | some a => rfl
mutual
theorem W.cnt_bd {M L : List Str} : ∀ (w : W) {m : Int}, w.Ok M → w.cnt L = some m → 0 ≤ m ∧ m < 2 ^ (110 * w.dep)
  | .emp, m, o, e => by
    unfold W.cnt at e
    cases e
    exact ⟨by decide, by unfold W.dep; decide⟩
  | .ltr c, m, o, e => by
    unfold W.cnt at e
    unfold W.dep
    split at e <;> (cases e; exact ⟨by decide, by decide⟩)
  | .nam c, m, o, e => by
    unfold W.Ok at o
    exact o.elim
  | .join ws, m, o, e => by
    unfold W.Ok at o
    unfold W.cnt at e
    have h := W.cnts_bd ws o.2 e
    unfold W.dep
    refine ⟨h.1, ?_⟩
    have h2 : m ≤ (ws.length : Int) * 2 ^ (110 * W.deps ws) := h.2
    have h3 : (2 : Int) ^ (110 * (W.deps ws + 1)) = 2 ^ (110 * W.deps ws) * 2 ^ 110 := by rw [← Int.pow_add]; rfl
    have h4 : (0 : Int) < 2 ^ (110 * W.deps ws) := Int.pow_pos (by decide)
    have h5 : (ws.length : Int) * 2 ^ (110 * W.deps ws) ≤ 3 * 2 ^ (110 * W.deps ws) := Int.mul_le_mul_of_nonneg_right (by omega) (Int.le_of_lt h4)
    have h6 : (2 : Int) ^ 110 = 1298074214633706907132624082305024 := by decide
    rw [h3, h6]
    generalize (2 : Int) ^ (110 * W.deps ws) = z at *
    omega
  | .times w n, m, o, e => by
    unfold W.Ok at o
    unfold W.cnt at e
    unfold W.dep
    have h4 : (0 : Int) < 2 ^ (110 * w.dep) := Int.pow_pos (by decide)
    have h3 : (2 : Int) ^ (110 * (w.dep + 1)) = 2 ^ (110 * w.dep) * 2 ^ 110 := by rw [← Int.pow_add]; rfl
    have h6 : (2 : Int) ^ 110 = 1298074214633706907132624082305024 := by decide
    rw [h3, h6]
    split at e
    · cases g : w.cnt L with
      | none =>
        rw [g] at e
        cases e
      | some a =>
        rw [g] at e
        have e' : a * n = m := Option.some.inj e
        have h := W.cnt_bd w o.2.2 g
        subst e'
        refine ⟨Int.mul_nonneg h.1 o.1, ?_⟩
        have a1 : a * n ≤ a * 1000000000000000000000000000000 := Int.mul_le_mul_of_nonneg_left o.2.1 h.1
        generalize (2 : Int) ^ (110 * w.dep) = z at *
        have := h.2
        omega
    · cases e
      generalize (2 : Int) ^ (110 * w.dep) = z at *
      omega
  | .right w, m, o, e => by
    unfold W.cnt at e
    split at e
    · cases e
      exact ⟨by decide, Int.pow_pos (by decide)⟩
    · cases e
  | .left w, m, o, e => by
    unfold W.cnt at e
    split at e
    · cases e
      exact ⟨by decide, Int.pow_pos (by decide)⟩
    · cases e
theorem W.cnts_bd {M L : List Str} : ∀ (ws : List W) {m : Int}, W.Oks M ws → W.cnts L ws = some m → 0 ≤ m ∧ m ≤ (ws.length : Int) * 2 ^ (110 * W.deps ws)
  | [], m, o, e => by
    unfold W.cnts at e
    cases e
    exact ⟨by decide, by simp⟩
  | w :: r, m, o, e => by
    unfold W.Oks at o
    unfold W.cnts at e
    unfold W.deps
    split at e
    · rename_i a b ea eb
      have e' : a + b = m := Option.some.inj e
      have h1 := W.cnt_bd w o.1 ea
      have h2 := W.cnts_bd r o.2 eb
      subst e'
      refine ⟨by omega, ?_⟩
      have p1 : (2 : Int) ^ (110 * w.dep) ≤ 2 ^ (110 * max w.dep (W.deps r)) := by
        have := Nat.pow_le_pow_right (n := 2) (by decide) (Nat.mul_le_mul_left 110 (Nat.le_max_left w.dep (W.deps r)))
        exact_mod_cast this
      have p2 : (2 : Int) ^ (110 * W.deps r) ≤ 2 ^ (110 * max w.dep (W.deps r)) := by
        have := Nat.pow_le_pow_right (n := 2) (by decide) (Nat.mul_le_mul_left 110 (Nat.le_max_right w.dep (W.deps r)))
        exact_mod_cast this
      have p3 : (r.length : Int) * 2 ^ (110 * W.deps r) ≤ (r.length : Int) * 2 ^ (110 * max w.dep (W.deps r)) := Int.mul_le_mul_of_nonneg_left p2 (by omega)
      have p4 : (((w :: r).length : Nat) : Int) * 2 ^ (110 * max w.dep (W.deps r)) = (r.length : Int) * 2 ^ (110 * max w.dep (W.deps r)) + 2 ^ (110 * max w.dep (W.deps r)) := by
        rw [List.length_cons]
        push_cast
        rw [Int.add_mul, Int.one_mul]
      rw [p4]
      omega
    · cases e
end
theorem W.cnt_abs {M L : List Str} {w : W} {m : Int} (o : w.Ok M) (e : w.cnt L = some m) : m.natAbs < 2 ^ (110 * w.dep) := by
  have h := W.cnt_bd w o e
  have : ((m.natAbs : Nat) : Int) < ((2 ^ (110 * w.dep) : Nat) : Int) := by
    rw [Int.natAbs_of_nonneg h.1]
    push_cast
    exact h.2
  exact_mod_cast this
theorem flat_strs (L : List Str) : (L.map V.str).all flatV = true := by
  rw [List.all_map]
  exact List.all_eq_true.mpr fun x _ => rfl
theorem inV_non : ∀ {cs : List (Option Int)}, inV .non (cs.map toV) = decide (none ∈ cs)
  | [] => rfl
  | c :: r => by
    have ih := inV_non (cs := r)
    unfold inV at ih ⊢
    rw [List.map_cons, List.any_cons, ih]
    cases c with
    | none =>
      show (true || _) = _
      simp
    | some m =>
      show (false || _) = _
      simp
theorem flat_toV (cs : List (Option Int)) : (cs.map toV).all flatV = true := by
  rw [List.all_map]
  exact List.all_eq_true.mpr fun x _ => by cases x <;> rfl
theorem toV_ints : ∀ {cs : List (Option Int)}, none ∉ cs → cs.map toV = (cs.map toL).map V.int
  | [], _ => rfl
  | c :: r, h => by
    rw [List.mem_cons, not_or] at h
    rw [List.map_cons, List.map_cons, List.map_cons, toV_ints h.2]
    cases c with
    | none => exact absurd rfl h.1
    | some m => rfl
theorem inV_int {m : Int} : ∀ {ns : List Int}, inV (.int m) (ns.map V.int) = decide (m ∈ ns)
  | [] => rfl
  | a :: r => by
    have ih := inV_int (m := m) (ns := r)
    unfold inV at ih ⊢
    rw [List.map_cons, List.any_cons, ih]
    show ((a == m) || decide (m ∈ r)) = _
    by_cases h : a = m
    · subst h
      simp
    · have h' : ¬ m = a := fun e => h e.symm
      simp [h, h']
theorem flat_ints (ns : List Int) : (ns.map V.int).all flatV = true := by
  rw [List.all_map]
  exact List.all_eq_true.mpr fun x _ => rfl
end SW

set_option Elab.async false
set_option linter.all false
set_option maxRecDepth 100000
set_option maxHeartbeats 4000000
namespace SW
open PySem PySem.Spec PyProof.Rows L2
def W.parts : W → List W
  | .join ws => ws
  | .times w _ => [w]
  | .right w => [w]
  | .left w => [w]
  | _ => []
theorem W.parts_mem {L : List Str} {t x : W} (o : t.Ok L) (h : x ∈ t.parts) : x.Ok L ∧ x.dep + 1 ≤ t.dep := by
  cases t with
  | join ws =>
    unfold W.Ok at o
    have := W.deps_mem (ws := ws) h
    refine ⟨W.oks_mem h o.2, ?_⟩
    rw [W.dep]
    omega
  | times w n =>
    unfold W.Ok at o
    cases List.mem_singleton.mp h
    exact ⟨o.2.2, by rw [W.dep]; omega⟩
  | right w =>
    unfold W.Ok at o
    cases List.mem_singleton.mp h
    exact ⟨o, by rw [W.dep]; omega⟩
  | left w =>
    unfold W.Ok at o
    cases List.mem_singleton.mp h
    exact ⟨o, by rw [W.dep]; omega⟩
  | emp => exact (List.not_mem_nil h).elim
  | ltr c => exact (List.not_mem_nil h).elim
  | nam c => exact (List.not_mem_nil h).elim
theorem W.parts_len {L : List Str} {t : W} (o : t.Ok L) : t.parts.length ≤ 3 := by
  cases t with
  | join ws =>
    unfold W.Ok at o
    exact o.1
  | _ => simp [W.parts]
/-- the law's counts of the parts -/
def W.cs (L : List Str) (t : W) : List Int := t.parts.map fun x => toL (x.cnt L)
theorem toL_neg {M L : List Str} {x : W} (o : x.Ok M) : toL (x.cnt L) = -1 ↔ x.cnt L = none := by
  cases e : x.cnt L with
  | none => exact ⟨fun _ => rfl, fun _ => rfl⟩
  | some m =>
    have h := (W.cnt_bd x o e).1
    refine ⟨fun q => ?_, fun q => by cases q⟩
    have q' : m = -1 := q
    omega
theorem cs_neg {M L : List Str} {t : W} (o : t.Ok M) (hl : ∀ c, t ≠ .ltr c) (ht : ∀ x n, t = .times x n → n ≠ 0) (h : (-1 : Int) ∈ t.cs L) : toL (t.cnt L) = -1 := by
  unfold W.cs at h
  obtain ⟨x, hx, e⟩ := List.mem_map.mp h
  have ox := (W.parts_mem o hx).1
  have en := (toL_neg ox).mp e
  cases t with
  | join ws =>
    rw [cnt_join, W.cnts_none (ws := ws) (List.mem_map.mpr ⟨x, hx, en⟩)]
    rfl
  | times w n =>
    unfold W.Ok at o
    cases List.mem_singleton.mp hx
    have := ht _ n rfl
    rw [cnt_times, if_pos (by omega), en]
    rfl
  | right w =>
    cases List.mem_singleton.mp hx
    rw [cnt_right, en, if_neg (by intro h; cases h)]
    rfl
  | left w =>
    cases List.mem_singleton.mp hx
    rw [cnt_left, en, if_neg (by intro h; cases h)]
    rfl
  | emp => exact (List.not_mem_nil hx).elim
  | ltr c => exact (List.not_mem_nil hx).elim
  | nam c => exact (List.not_mem_nil hx).elim
theorem cs_join {M L : List Str} {ws : List W} (o : (W.join ws).Ok M) (h : ¬ (-1 : Int) ∈ (W.join ws).cs L) : toL ((W.join ws).cnt L) = ((W.join ws).cs L).sum := by
  have hn : none ∉ ws.map (W.cnt L) := fun q => by
    obtain ⟨x, hx, e⟩ := List.mem_map.mp q
    exact h (List.mem_map.mpr ⟨x, hx, (toL_neg (W.parts_mem o hx).1).mpr e⟩)
  rw [cnt_join, W.cnts_some hn]
  rfl
theorem cs_times {M L : List Str} {x : W} {n : Int} (o : (W.times x n).Ok M) (hn : n ≠ 0) (h : ¬ (-1 : Int) ∈ (W.times x n).cs L) : toL ((W.times x n).cnt L) = toL (x.cnt L) * n := by
  unfold W.Ok at o
  have h1 : x.cnt L ≠ none := fun q => h (List.mem_map.mpr ⟨x, List.mem_singleton.mpr rfl, (toL_neg o.2.2).mpr q⟩)
  rw [cnt_times, if_pos (by omega)]
  cases e : x.cnt L with
  | none => exact absurd e h1
  | some m => rfl
theorem cs_end {M L : List Str} {x : W} (o : x.Ok M) : toL (if x.cnt L = some 0 then some 0 else none) = if toL (x.cnt L) = 0 then 0 else -1 := by
  cases e : x.cnt L with
  | none => rw [if_neg (by intro h; cases h), if_neg (by decide)]; rfl
  | some m =>
    show _ = if m = 0 then 0 else -1
    by_cases h : m = 0
    · subst h
      rw [if_pos rfl, if_pos rfl]
      rfl
    · rw [if_neg (by intro q; cases q; exact h rfl), if_neg h]
      rfl
theorem toL_abs {M L : List Str} {x : W} (o : x.Ok M) : (toL (x.cnt L)).natAbs < 2 ^ (110 * x.dep) := by
  cases e : x.cnt L with
  | none =>
    show (1 : Nat) < _
    have := x.dep_pos
    exact Nat.one_lt_two_pow (by omega)
  | some m => exact W.cnt_abs o e
/-! ### letters in lowercase -/
mutual
def W.low : W → W
  | .emp => .emp
  | .ltr c => .ltr (Txt.lower c)
  | .nam c => .nam c
  | .join ws => .join (W.lows ws)
  | .times w n => .times w.low n
  | .right w => .right w.low
  | .left w => .left w.low
def W.lows : List W → List W
  | [] => []
  | w :: r => w.low :: W.lows r
end
theorem lows_map : ∀ ws : List W, W.lows ws = ws.map W.low
  | [] => by rw [W.lows]; rfl
  | w :: r => by rw [W.lows, lows_map r]; rfl
theorem low_abc : ∀ c ∈ abcABC, Txt.lower c ∈ abc := by
  intro c h
  simp only [abcABC, List.mem_cons, List.not_mem_nil, or_false] at h
  rcases h with rfl | rfl | rfl | rfl | rfl | rfl <;> decide +kernel
theorem low_same : ∀ c ∈ abc, Txt.lower c = c := by
  intro c h
  simp only [abc, List.mem_cons, List.not_mem_nil, or_false] at h
  rcases h with rfl | rfl | rfl <;> decide +kernel
theorem len_abc : ∀ c ∈ abcABC, c.length ≤ 5592405 := by
  intro c h
  simp only [abcABC, List.mem_cons, List.not_mem_nil, or_false] at h
  rcases h with rfl | rfl | rfl | rfl | rfl | rfl <;> decide +kernel
mutual
theorem W.low_ok : ∀ w : W, w.Ok abcABC → w.low.Ok abc
  | .emp, h => by rw [W.low]; unfold W.Ok; trivial
  | .ltr c, h => by rw [W.low]; unfold W.Ok at h ⊢; exact low_abc c h
  | .nam c, h => by unfold W.Ok at h; exact h.elim
  | .join ws, h => by
    rw [W.low]
    unfold W.Ok at h ⊢
    exact ⟨by rw [lows_map, List.length_map]; exact h.1, W.lows_ok ws h.2⟩
  | .times w n, h => by rw [W.low]; unfold W.Ok at h ⊢; exact ⟨h.1, h.2.1, W.low_ok w h.2.2⟩
  | .right w, h => by rw [W.low]; unfold W.Ok at h ⊢; exact W.low_ok w h
  | .left w, h => by rw [W.low]; unfold W.Ok at h ⊢; exact W.low_ok w h
theorem W.lows_ok : ∀ ws : List W, W.Oks abcABC ws → W.Oks abc (W.lows ws)
  | [], h => by rw [W.lows]; unfold W.Oks; trivial
  | w :: r, h => by rw [W.lows]; unfold W.Oks at h ⊢; exact ⟨W.low_ok w h.1, W.lows_ok r h.2⟩
theorem W.low_id : ∀ w : W, w.Ok abc → w.low = w
  | .emp, h => by rw [W.low]
  | .ltr c, h => by unfold W.Ok at h; rw [W.low, low_same c h]
  | .nam c, h => by rw [W.low]
  | .join ws, h => by unfold W.Ok at h; rw [W.low, W.lows_id ws h.2]
  | .times w n, h => by unfold W.Ok at h; rw [W.low, W.low_id w h.2.2]
  | .right w, h => by unfold W.Ok at h; rw [W.low, W.low_id w h]
  | .left w, h => by unfold W.Ok at h; rw [W.low, W.low_id w h]
theorem W.lows_id : ∀ ws : List W, W.Oks abc ws → W.lows ws = ws
  | [], h => by rw [W.lows]
  | w :: r, h => by unfold W.Oks at h; rw [W.lows, W.low_id w h.1, W.lows_id r h.2]
end
mutual
theorem W.low_dep : ∀ w : W, w.low.dep = w.dep
  | .emp => by rw [W.low]
  | .ltr c => by rw [W.low, W.dep, W.dep]
  | .nam c => by rw [W.low]
  | .join ws => by rw [W.low, W.dep, W.dep, W.lows_dep ws]
  | .times w n => by rw [W.low, W.dep, W.dep, W.low_dep w]
  | .right w => by rw [W.low, W.dep, W.dep, W.low_dep w]
  | .left w => by rw [W.low, W.dep, W.dep, W.low_dep w]
theorem W.lows_dep : ∀ ws : List W, W.deps (W.lows ws) = W.deps ws
  | [] => by rw [W.lows]
  | w :: r => by rw [W.lows, W.deps, W.deps, W.low_dep w, W.lows_dep r]
end
end SW

set_option Elab.async false
set_option linter.all false
set_option maxRecDepth 100000
set_option maxHeartbeats 4000000
namespace SW
open PySem PySem.Spec PyProof.Rows L2
theorem int_eqv {a b : Int} : PyData.eqv (.list [.int a]) (.list [.int b]) = decide (a = b) := by
  simp only [PyData.eqv, PyData.eqvAll, Bool.and_true]
  rfl
theorem int_shaped {a : Int} : SeqAt.shaped (.list [.int a]) = true := by
  unfold SeqAt.shaped
  simp [PyData.canLay0, PyData.canLayAll0, PyData.depth, PyData.depthAll]
theorem ne_yes {a b : Str} {A B : Prop} (h : a ≠ b) (q : A) : ∃ k, V.bl (!decide (V.str a = V.str b)) = V.bl k ∧ if k = true then A else B :=
  ⟨true, by rw [decide_eq_false (fun e => h (V.str.inj e))]; rfl, q⟩
theorem ne_no {a b : Str} {A B : Prop} (h : a = b) (q : B) : ∃ k, V.bl (!decide (V.str a = V.str b)) = V.bl k ∧ if k = true then A else B :=
  ⟨false, by rw [h, decide_eq_true rfl]; rfl, q⟩
theorem up_abc : ∀ c ∈ abc, Txt.upper c ∈ abcABC := by
  intro c h
  simp only [abc, List.mem_cons, List.not_mem_nil, or_false] at h
  rcases h with rfl | rfl | rfl <;> decide +kernel
theorem low_emp : W.low .emp = .emp := by rw [W.low]
theorem low_ltr {c : Str} : W.low (.ltr c) = .ltr (Txt.lower c) := by rw [W.low]
theorem low_join {ws : List W} : W.low (.join ws) = .join (ws.map W.low) := by rw [W.low, lows_map]
theorem low_times {t : W} {n : Int} : W.low (.times t n) = .times t.low n := by rw [W.low]
theorem low_right {t : W} : W.low (.right t) = .right t.low := by rw [W.low]
theorem low_left {t : W} : W.low (.left t) = .left t.low := by rw [W.low]
theorem wvs_snoc {K : PySem.W.Frag} {H : Hp} {f : W → W} {ws : List W} {acc : List V} {i : Nat} {y : V} {t : W} (e : ws[i]? = some t) (h : WVs K H acc ((ws.take i).map f)) (hy : WV K H y (f t)) : WVs K H (acc ++ [y]) ((ws.take (i + 1)).map f) := by
  rw [List.take_add_one, e]
  show WVs K H (acc ++ [y]) ((ws.take i ++ [t]).map f)
  rw [List.map_append]
  exact WVs.app hy h
theorem cutV_ints (ns : List Int) (lo hi : Option Int) : ∃ ms : List Int, cutV (ns.map V.int) lo hi = ms.map V.int := by
  unfold cutV
  exact ⟨(ns.drop (HT.sIx (ns.map V.int).length 0 lo)).take (HT.sIx (ns.map V.int).length (ns.map V.int).length hi - HT.sIx (ns.map V.int).length 0 lo), by rw [List.map_take, List.map_drop]⟩
/-! ### numbers and lists of them as data -/
def toD : Option Int → PyData
  | none => .none
  | some m => .int m
theorem toD_v {K : PySem.W.Frag} {H : Hp} (o : Option Int) : Dp K H (toV o) (toD o) := by
  cases o with
  | none => exact .non
  | some m => exact .int m
theorem toD_sm (o : Option Int) (n : Nat) : Sm n (toD o) := by
  cases o with
  | none => cases n <;> (unfold toD Sm; trivial)
  | some m => cases n <;> (unfold toD Sm; trivial)
theorem cnt_nonneg {M L : List Str} {t : W} (o : t.Ok M) : ∀ m, t.cnt L = some m → 0 ≤ m := fun m e => (W.cnt_bd t o e).1
theorem ints_sm {ds : List Int} {n : Nat} (h : ds.length ≤ 1000) : Sm (n + 1) (.list (ds.map PyData.int)) := by
  unfold Sm
  refine ⟨by rw [List.length_map]; exact h, fun d q => ?_⟩
  obtain ⟨i, _, rfl⟩ := List.mem_map.mp q
  cases n <;> (unfold Sm; trivial)
theorem ints_dp {K : PySem.W.Frag} {H : Hp} : ∀ ds : List Int, DpAll K H (ds.map V.int) (ds.map PyData.int)
  | [] => .nil
  | d :: r => .cons (.int d) (ints_dp r)
/-! ### a comprehension of one name over any walk of given items -/
theorem lcw {J : It} {n : Nat} {G : Hp → Prop} {xs : List V} (w : Walk J n G (YAt xs)) {j : Nat} {te : TE} {σ : L2.St} {H1 : Hp} {D : Addr} {Qd : Hp → Prop} (Pv : Nat → Hp → Prop) (h0 : Pv 0 (upd H1 D (.lst []))) (hG : ∀ i H, i ≤ n → Pv i H → G H)
    (hs : ∀ i x H, i < n → xs[i]? = some x → Pv i H → te (σ.set j (some x)) H fun y H4 => ∃ acc, H4 D = some (.lst acc) ∧ acc.length < sizeLine ∧ Pv (i + 1) (upd H4 D (.lst (acc ++ [y])))) (hd : ∀ H, Pv n H → Qd H) :
    ∃ W : Nat → Nat → Hp → Prop, (∃ m, W 0 m (upd H1 D (.lst []))) ∧ ∀ i m H, W i m H →
      (J.stop i H ∧ Qd H) ∨ (J.go i H ∧ ∃ Nx : Hp → Prop, (∀ H', Nx H' → ∃ m', m' < m ∧ W (i + 1) m' H') ∧ ∀ x H', J.yld i H x H' → gName j x (wipe σ [j]) H' fun σ2 H2 => wipe σ2 [j] = wipe σ [j] ∧ tYes σ2 H2 fun b H3 =>
        if b = true then te σ2 H3 fun y H4 => ∃ acc, H4 D = some (.lst acc) ∧ acc.length < sizeLine ∧ Nx (upd H4 D (.lst (acc ++ [y]))) else Nx H3) := by
  refine lc_it w Pv h0 hG (fun i x H H' hi p y => ?_) hd
  obtain ⟨rfl, e⟩ := y
  have e1 : wipe σ [j] = σ.set j none := rfl
  have e2 : (wipe σ [j]).set j (some x) = σ.set j (some x) := by rw [e1, List.set_set]
  unfold gName tYes
  rw [e2]
  dsimp only
  rw [if_pos rfl]
  refine ⟨?_, hs i x H' hi e p⟩
  show (σ.set j (some x)).set j none = σ.set j none
  rw [List.set_set]
theorem walk_revT {K : PySem.W.Frag} {a : Addr} {xs : List V} : Walk (RT.ItvT K a xs.length) xs.length (fun H => SqT K H a xs) (YAt xs.reverse) := by
  refine ⟨fun i H hi q => ⟨hi, xs, xs[xs.length - 1 - i], q, by rw [List.getElem?_eq_getElem (by omega)]⟩, fun H q => Nat.le_refl _, fun i H x H' hi q y => ?_⟩
  obtain ⟨e, f⟩ := y
  refine ⟨e, ?_⟩
  rw [List.getElem?_reverse hi]
  exact f xs q
/-! ### a tuple read backwards by a slice -/
section
variable {prog : Program} {w : World} {A : Around} {E : Value → Shared → Prop} {s : Shared}
theorem back_applied {sl : Addr} {vs : Value} {n : Nat} {Q : Int × Int × Nat → Shared → Prop} (hs : s.heap.IsSliceOf sl .none .none vs) (ps : IsPart vs (some (-1))) (h : Q ((n : Int) - 1, -1, n) s) :
    wpAny (model prog w) A (Builtin.Slice.sliceApplied (.ref sl) (pure (n : Int))) Q E s := by
  obtain ⟨ob, ho, hc, hd⟩ := id hs
  unfold Builtin.Slice.sliceApplied Builtin.Slice.sliceFields
  refine wpAny_bind (wpAny_bind (wpAny_field ho hd (x := .none) rfl (wpAny_bind (wpAny_field ho hd (x := .none) rfl (wpAny_bind (wpAny_field ho hd (x := vs) rfl (wpAny_pure ?_)))))))
  refine wpAny_bind (HT.slicePart_ ps ?_)
  show wpAny _ _ (if ((-1 : Int) == 0) = true then _ else _) _ _ s
  rw [if_neg (by decide)]
  refine wpAny_bind (slicePart_none (wpAny_bind (slicePart_none (wpAny_bind (wpAny_pure ?_)))))
  have e : Builtin.Slice.slicePlaces ((n : Int) - 1) (-1) (-1) = n := by
    unfold Builtin.Slice.slicePlaces
    have h1 : ¬ ((-1 : Int) > 0) := by decide
    have h2 : (- -1 : Int) = 1 := by decide
    simp only [h1, if_false, h2, Int.ediv_one]
    split <;> omega
  show wpAny _ _ (pure ((n : Int) - 1, (-1 : Int), Builtin.Slice.slicePlaces ((n : Int) - 1) (-1) (-1))) _ _ s
  rw [e]
  exact wpAny_pure h
theorem fmap_same {α β : Type} {f g : α → Option β} : ∀ {l : List α}, (∀ x ∈ l, f x = g x) → l.filterMap f = l.filterMap g
  | [], _ => rfl
  | x :: r, h => by
    have ih := fmap_same (f := f) (g := g) (l := r) fun y q => h y (List.mem_cons_of_mem _ q)
    rw [List.filterMap_cons, List.filterMap_cons, h x (List.mem_cons_self ..), ih]
theorem back_pick (xs : Array Value) : ((List.range xs.size).filterMap fun (m : Nat) => xs[(((xs.size : Int) - 1) + (m : Int) * -1).toNat]?).toArray = xs.toList.reverse.toArray := by
  have e : (List.range xs.size).filterMap (fun (m : Nat) => xs[(((xs.size : Int) - 1) + (m : Int) * -1).toNat]?) = ((List.range xs.size).map fun k => xs.size - 1 - k).filterMap (xs[·]?) := by
    rw [List.filterMap_map]
    refine fmap_same fun m hm => ?_
    have := List.mem_range.mp hm
    have q : (((xs.size : Int) - 1) + (m : Int) * -1).toNat = xs.size - 1 - m := by omega
    rw [q]
    rfl
  rw [e, PySem.W.krv_range, List.filterMap_reverse, PySem.W.krv_all]
theorem back_tuple {t sl : Addr} {items : Array Value} {vs : Value} {Q : Value → Shared → Prop} (hT : IsTup s.heap t items) (hs : s.heap.IsSliceOf sl .none .none vs) (ps : IsPart vs (some (-1)))
    (h : Q (.ref s.heap.objs.size) { s with heap := s.heap.push { cls := .type "tuple", data := .seq items.toList.reverse.toArray } }) (hz : items.size ≤ sizeLine) : wpAny (model prog w) A (getItem (.ref t) (.ref sl)) Q E s := by
  have hk : sizeOk (.seq items.toList.reverse.toArray) := by
    show items.toList.reverse.toArray.size ≤ sizeLine
    rw [List.size_toArray, List.length_reverse, Array.length_toList]
    exact hz
  obtain ⟨ob, ho, hc, hd⟩ := id hs
  have hS : s.TypeIs (.ref sl) "slice" := ⟨ob, ho, hc⟩
  unfold getItem
  try with_reducible refine wpAny_holding ?_
  first | refine wpAny_bind (wpAny_pure ?_) | skip
  refine wpAny_bind (wpAny_sequenceKey hT.typeIs (by decide) ?_)
  refine wpAny_bind (wpAny_callSpecial?_slot (name := Str.ofString "__getitem__") hT.typeIs PyProof.Rows.slot_tuple_getitem (wpAny_call_entry PyProof.Rows.slot_tuple_getitem hT.typeIs entry_tuple_getitem ?_ (args_tuple_getitem _ _)))
  show wpAny _ _ (Builtin.Tuple.tupleItemsOf (.ref t) >>= _) _ _ s
  refine wpAny_bind (tupleItemsOf_ hT ?_)
  refine wpAny_bind (wpAny_typeOf hS ?_)
  rw [if_pos (by decide)]
  refine wpAny_bind (back_applied hs ps ?_)
  have hno : ¬ ((((items.size : Int) - 1) == 0 && (-1 : Int) == 1 && items.size == items.size) = true) := by
    intro q
    rw [Bool.and_eq_true, Bool.and_eq_true] at q
    exact absurd (eq_of_beq q.1.2) (by decide)
  show wpAny _ _ (if (((items.size : Int) - 1) == 0 && (-1 : Int) == 1 && items.size == items.size) = true then _ else _) _ _ s
  rw [if_neg hno, back_pick]
  first
    | exact wpAny_bind (m := Builtin.Tuple.tupleExact _) (wpAny_newObj_type (wpAny_pure ⟨_, rfl, wpAny_pure h⟩) hk)
    | exact wpAny_bind (m := Builtin.Tuple.tupleExact _) (wpAny_newObj_type (wpAny_bind (wpAny_pure (wpAny_pure ⟨_, rfl, wpAny_pure h⟩))) hk)
    | exact wpAny_bind (wpAny_bind (m := Builtin.Tuple.tupleExact _) (wpAny_newObj_type (wpAny_pure (wpAny_pure ⟨_, rfl, wpAny_pure h⟩)) hk))
    | exact wpAny_bind (wpAny_bind (m := Builtin.Tuple.tupleExact _) (wpAny_newObj_type (wpAny_pure ⟨_, rfl, wpAny_pure h⟩) hk))
end
def tRevT (K : PySem.W.Frag) (te : TE) : TE := fun σ H Q => te σ H fun x H1 => ∃ a xs, x = .ref a ∧ SqT K H1 a xs ∧ ∀ p, H1 p = none → Q (.ref p) (upd H1 p (.tup xs.reverse))
theorem pe_revT {X : Cx} {e : Expr} {te : TE} {k : Nat} {p1 p2 p3 pos : Pos} (he : PE X e te) : PE X (.Subscript e (.Slice none none (some (.UnaryOp .USub (.Constant (.int 1) k p1) p2)) p3) pos) (tRevT X.K te) := by
  refine ⟨fun pins s σ H Q I h => ?_⟩
  refine Subscript_ (thn (he.run pins s σ H _ I h) fun v s1 ⟨x, H1, I1, r1, q1⟩ => ?_)
  obtain ⟨a, xs, rfl, hx, q⟩ := q1
  cases r1
  have hst : PO X (some (.UnaryOp .USub (.Constant (.int 1) k p1) p2)) (tPart (tUn (rU fun i => .int (-i)) (tC (.int 1)))) := po_some (pe_un un_neg pe_int)
  refine wpAny_Slice (thn (po_none.run pins s1 σ H1 (fun o H2 => o = none ∧ H2 = H1) I1 ⟨rfl, rfl⟩) fun vl s2 ⟨l, H2, I2, pl, el, e2⟩ => ?_)
  subst el e2
  refine thn (po_none.run pins s2 σ H2 (fun o H3 => o = none ∧ H3 = H2) I2 ⟨rfl, rfl⟩) fun vu s3 ⟨u, H3, I3, pu, eu, e3⟩ => ?_
  subst eu e3
  refine thn (hst.run pins s3 σ H3 (fun o H4 => o = some (-1) ∧ H4 = H3) I3 ⟨1, rfl, -1, rfl, rfl, rfl⟩) fun vs s4 ⟨o, H4, I4, ps, eo, e4⟩ => ?_
  subst eo e4
  cases pl
  cases pu
  have I5 : Inv X pins σ H4 { s4 with heap := s4.heap.push { cls := .type "slice", data := .fields #[.none, .none, vs] } } := I4.kept (t' := s4.toks) fun b ob q => Heap.get?_push_of_some _ q
  obtain ⟨its, r, hT, hz⟩ := I5.tuple hx
  have hl := r.length
  refine tail_any (ops := [.ref a, .ref s4.heap.objs.size]) hT.typeIs PyProof.Rows.slot_tuple_getitem.lookup ?_ (by with_unfolding_all rfl)
  refine back_tuple hT (Heap.IsSliceOf.new _ .none .none vs) ps ?_ (by rw [List.size_toArray]; omega)
  refine ⟨.ref _, _, I5.laid (t' := s4.toks) (o := .tup xs.reverse) (fun b ob q => Heap.get?_push_of_some _ q) (Nat.le_refl _) ?_, rfl, q _ (I5.hok.fresh (Nat.le_refl _))⟩
  refine ⟨by rw [List.length_reverse]; exact hz, its.reverse, r.reverse, ?_⟩
  have e : its.toArray.toList.reverse = its.reverse := by simp
  rw [e]
  exact IsTup.new _ _
theorem WVs.rev {K : PySem.W.Frag} {H : Hp} : ∀ {ws : List W} {xs : List V}, WVs K H xs ws → WVs K H xs.reverse ws.reverse
  | [], xs, h => by
    unfold WVs W.dats at h
    cases h
    exact wvs_nil
  | w :: r, xs, h => by
    unfold WVs W.dats at h
    cases h with | cons a b => ?_
    rw [List.reverse_cons, List.reverse_cons]
    exact WVs.app a (WVs.rev (ws := r) b)
/-! ### words turned round -/
mutual
def W.mir : W → W
  | .emp => .emp
  | .ltr c => .ltr c
  | .nam c => .nam c
  | .join ws => .join (W.mirs ws).reverse
  | .times w n => .times w.mir n
  | .right w => .left w.mir
  | .left w => .right w.mir
def W.mirs : List W → List W
  | [] => []
  | w :: r => w.mir :: W.mirs r
end
theorem mirs_map : ∀ ws : List W, W.mirs ws = ws.map W.mir
  | [] => by rw [W.mirs]; rfl
  | w :: r => by rw [W.mirs, mirs_map r]; rfl
theorem mir_emp : W.mir .emp = .emp := by rw [W.mir]
theorem mir_ltr {c : Str} : W.mir (.ltr c) = .ltr c := by rw [W.mir]
theorem mir_join {ws : List W} : W.mir (.join ws) = .join (ws.reverse.map W.mir) := by rw [W.mir, mirs_map, List.map_reverse]
theorem mir_times {t : W} {n : Int} : W.mir (.times t n) = .times t.mir n := by rw [W.mir]
theorem mir_right {t : W} : W.mir (.right t) = .left t.mir := by rw [W.mir]
theorem mir_left {t : W} : W.mir (.left t) = .right t.mir := by rw [W.mir]
mutual
theorem W.mir_mir : ∀ w : W, w.mir.mir = w
  | .emp => by rw [mir_emp, mir_emp]
  | .ltr c => by rw [mir_ltr, mir_ltr]
  | .nam c => by rw [W.mir, W.mir]
  | .join ws => by
    rw [mir_join, mir_join, ← List.map_reverse, List.reverse_reverse, List.map_map]
    have := W.mirs_mirs ws
    rw [mirs_map, mirs_map, List.map_map] at this
    rw [this]
  | .times w n => by rw [mir_times, mir_times, W.mir_mir w]
  | .right w => by rw [mir_right, mir_left, W.mir_mir w]
  | .left w => by rw [mir_left, mir_right, W.mir_mir w]
theorem W.mirs_mirs : ∀ ws : List W, W.mirs (W.mirs ws) = ws
  | [] => by rw [W.mirs, W.mirs]
  | w :: r => by rw [W.mirs, W.mirs, W.mir_mir w, W.mirs_mirs r]
end
mutual
theorem W.mir_ok {L : List Str} : ∀ w : W, w.Ok L → w.mir.Ok L
  | .emp, h => by rw [mir_emp]; exact h
  | .ltr c, h => by rw [mir_ltr]; exact h
  | .nam c, h => by unfold W.Ok at h; exact h.elim
  | .join ws, h => by
    rw [W.mir]
    unfold W.Ok at h ⊢
    refine ⟨by rw [List.length_reverse, mirs_map, List.length_map]; exact h.1, W.oks_of fun t q => ?_⟩
    exact W.oks_mem (List.mem_reverse.mp q) (W.mirs_ok ws h.2)
  | .times w n, h => by rw [mir_times]; unfold W.Ok at h ⊢; exact ⟨h.1, h.2.1, W.mir_ok w h.2.2⟩
  | .right w, h => by rw [mir_right]; unfold W.Ok at h ⊢; exact W.mir_ok w h
  | .left w, h => by rw [mir_left]; unfold W.Ok at h ⊢; exact W.mir_ok w h
theorem W.mirs_ok {L : List Str} : ∀ ws : List W, W.Oks L ws → W.Oks L (W.mirs ws)
  | [], h => by rw [W.mirs]; exact h
  | w :: r, h => by rw [W.mirs]; unfold W.Oks at h ⊢; exact ⟨W.mir_ok w h.1, W.mirs_ok r h.2⟩
end
theorem deps_rev {ws : List W} : W.deps ws.reverse = W.deps ws := by
  refine Nat.le_antisymm (W.deps_le fun w h => W.deps_mem (List.mem_reverse.mp h)) (W.deps_le fun w h => W.deps_mem (List.mem_reverse.mpr h))
mutual
theorem W.mir_dep : ∀ w : W, w.mir.dep = w.dep
  | .emp => by rw [mir_emp]
  | .ltr c => by rw [mir_ltr]
  | .nam c => by rw [W.mir]
  | .join ws => by rw [W.mir, W.dep, W.dep, deps_rev, W.mirs_dep ws]
  | .times w n => by rw [mir_times, W.dep, W.dep, W.mir_dep w]
  | .right w => by rw [mir_right, W.dep, W.dep, W.mir_dep w]
  | .left w => by rw [mir_left, W.dep, W.dep, W.mir_dep w]
theorem W.mirs_dep : ∀ ws : List W, W.deps (W.mirs ws) = W.deps ws
  | [] => by rw [W.mirs]
  | w :: r => by rw [W.mirs, W.deps, W.deps, W.mir_dep w, W.mirs_dep r]
end
theorem cnts_rev {L : List Str} {ws : List W} : W.cnts L ws.reverse = W.cnts L ws := by
  by_cases h : none ∈ ws.map (W.cnt L)
  · rw [W.cnts_none h, W.cnts_none (by rw [List.map_reverse]; exact List.mem_reverse.mpr h)]
  · rw [W.cnts_some h, W.cnts_some (by rw [List.map_reverse]; exact fun q => h (List.mem_reverse.mp q)), List.map_reverse, List.sum_reverse]
mutual
theorem W.mir_cnt {L : List Str} : ∀ w : W, w.mir.cnt L = w.cnt L
  | .emp => by rw [mir_emp]
  | .ltr c => by rw [mir_ltr]
  | .nam c => by rw [W.mir]
  | .join ws => by rw [W.mir, cnt_join, cnt_join, cnts_rev, W.mirs_cnt ws]
  | .times w n => by rw [mir_times, cnt_times, cnt_times, W.mir_cnt w]
  | .right w => by rw [mir_right, cnt_right, cnt_left, W.mir_cnt w]
  | .left w => by rw [mir_left, cnt_left, cnt_right, W.mir_cnt w]
theorem W.mirs_cnt {L : List Str} : ∀ ws : List W, W.cnts L (W.mirs ws) = W.cnts L ws
  | [] => by rw [W.mirs]
  | w :: r => by rw [W.mirs, W.cnts, W.cnts, W.mir_cnt w, W.mirs_cnt r]
end
end SW

set_option Elab.async false
set_option linter.all false
set_option maxRecDepth 100000
set_option maxHeartbeats 4000000
namespace SW
open PySem PySem.Spec PyProof.Rows L2
/-! ### nodes and levels -/
mutual
def W.nod : W → Nat
  | .emp => 1
  | .ltr _ => 1
  | .nam _ => 1
  | .join ws => W.nods ws + 1
  | .times w _ => w.nod + 1
  | .right w => w.nod + 1
  | .left w => w.nod + 1
def W.nods : List W → Nat
  | [] => 0
  | w :: r => w.nod + W.nods r
end
theorem nods_map : ∀ ws : List W, W.nods ws = (ws.map W.nod).sum
  | [] => by rw [W.nods]; rfl
  | w :: r => by rw [W.nods, nods_map r, List.map_cons, List.sum_cons]
theorem nods_app (a b : List W) : W.nods (a ++ b) = W.nods a + W.nods b := by
  rw [nods_map, nods_map, nods_map, List.map_append, List.sum_append]
theorem nod_parts (w : W) : w.nod = W.nods w.parts + 1 := by
  cases w <;> simp [W.nod, W.parts, W.nods]
theorem dep_parts (w : W) : w.dep = W.deps w.parts + 1 := by
  cases w <;> simp [W.dep, W.parts, W.deps]
def nxt (ws : List W) : List W := ws.flatMap W.parts
theorem nxt_nil : nxt [] = [] := rfl
theorem nxt_cons (w : W) (r : List W) : nxt (w :: r) = w.parts ++ nxt r := rfl
theorem nods_nxt : ∀ ws : List W, W.nods ws = ws.length + W.nods (nxt ws)
  | [] => by rw [W.nods, nxt_nil, W.nods]; rfl
  | w :: r => by
    rw [W.nods, nods_nxt r, nxt_cons, nods_app, nod_parts w, List.length_cons]
    omega
theorem deps_app (a b : List W) : W.deps (a ++ b) = max (W.deps a) (W.deps b) := by
  induction a with
  | nil => rw [List.nil_append, W.deps, Nat.zero_max]
  | cons x r ih => rw [List.cons_append, W.deps, W.deps, ih, Nat.max_assoc]
theorem deps_nxt : ∀ (w : W) (r : List W), W.deps (w :: r) = W.deps (nxt (w :: r)) + 1
  | w, [] => by
    rw [W.deps, W.deps, nxt_cons, nxt_nil, List.append_nil, Nat.max_zero, dep_parts w]
  | w, x :: r => by
    have ih := deps_nxt x r
    have e : nxt (w :: x :: r) = w.parts ++ nxt (x :: r) := rfl
    rw [W.deps, e, deps_app, dep_parts w, ih]
    omega
theorem deps_zero {ws : List W} (h : W.deps ws = 0) : ws = [] := by
  cases ws with
  | nil => rfl
  | cons w r =>
    rw [W.deps] at h
    have := w.dep_pos
    omega
theorem nods_len (ws : List W) : ws.length ≤ W.nods ws := by
  rw [nods_nxt]
  exact Nat.le_add_right _ _
mutual
theorem nod_bd {L : List Str} : ∀ w : W, w.Ok L → w.nod ≤ 4 ^ w.dep
  | .emp, _ => by rw [W.nod, W.dep]; decide
  | .ltr c, _ => by rw [W.nod, W.dep]; decide
  | .nam c, h => by rw [W.nod, W.dep]; decide
  | .join ws, h => by
    unfold W.Ok at h
    have a := nods_bd ws h.2
    rw [W.nod, W.dep, Nat.pow_succ]
    have b : ws.length * 4 ^ W.deps ws ≤ 3 * 4 ^ W.deps ws := Nat.mul_le_mul_right _ h.1
    have c : 0 < 4 ^ W.deps ws := Nat.pow_pos (by decide)
    omega
  | .times w n, h => by
    unfold W.Ok at h
    have a := nod_bd w h.2.2
    rw [W.nod, W.dep, Nat.pow_succ]
    have c : 0 < 4 ^ w.dep := Nat.pow_pos (by decide)
    omega
  | .right w, h => by
    unfold W.Ok at h
    have a := nod_bd w h
    rw [W.nod, W.dep, Nat.pow_succ]
    have c : 0 < 4 ^ w.dep := Nat.pow_pos (by decide)
    omega
  | .left w, h => by
    unfold W.Ok at h
    have a := nod_bd w h
    rw [W.nod, W.dep, Nat.pow_succ]
    have c : 0 < 4 ^ w.dep := Nat.pow_pos (by decide)
    omega
theorem nods_bd {L : List Str} : ∀ ws : List W, W.Oks L ws → W.nods ws ≤ ws.length * 4 ^ W.deps ws
  | [], _ => by rw [W.nods]; exact Nat.zero_le _
  | w :: r, h => by
    unfold W.Oks at h
    have a := nod_bd w h.1
    have b := nods_bd r h.2
    rw [W.nods, W.deps, List.length_cons, Nat.add_mul, Nat.one_mul]
    have p1 : 4 ^ w.dep ≤ 4 ^ max w.dep (W.deps r) := Nat.pow_le_pow_right (by decide) (Nat.le_max_left _ _)
    have p2 : 4 ^ W.deps r ≤ 4 ^ max w.dep (W.deps r) := Nat.pow_le_pow_right (by decide) (Nat.le_max_right _ _)
    have p3 : r.length * 4 ^ W.deps r ≤ r.length * 4 ^ max w.dep (W.deps r) := Nat.mul_le_mul_left _ p2
    omega
end
theorem nod_small {L : List Str} {w : W} (h : w.Ok L) (hd : w.dep ≤ 8) : w.nod ≤ 65536 := Nat.le_trans (nod_bd w h) (show 4 ^ w.dep ≤ 4 ^ 8 from Nat.pow_le_pow_right (by decide) hd)
theorem nxt_ok {L : List Str} {ws : List W} (h : ∀ w ∈ ws, w.Ok L) : ∀ w ∈ nxt ws, w.Ok L := fun w q => by
  obtain ⟨x, hx, hw⟩ := List.mem_flatMap.mp q
  exact (W.parts_mem (h x hx) hw).1
theorem nxt_snoc {ws : List W} {i : Nat} {w : W} (e : ws[i]? = some w) : nxt (ws.take (i + 1)) = nxt (ws.take i) ++ w.parts := by
  rw [List.take_add_one, e]
  unfold nxt
  rw [List.flatMap_append]
  simp
theorem nxt_take_len (ws : List W) (i : Nat) : (nxt (ws.take i)).length ≤ (nxt ws).length := by
  have : nxt ws = nxt (ws.take i) ++ nxt (ws.drop i) := by
    unfold nxt
    rw [← List.flatMap_append, List.take_append_drop]
  rw [this, List.length_append]
  exact Nat.le_add_right _ _
theorem WVs.cat {K : PySem.W.Frag} {H : Hp} {ys : List V} {us : List W} (q : WVs K H ys us) : ∀ {ws : List W} {xs : List V}, WVs K H xs ws → WVs K H (xs ++ ys) (ws ++ us)
  | [], xs, h => by
    unfold WVs W.dats at h
    cases h
    exact q
  | v :: r, xs, h => by
    unfold WVs W.dats at h
    cases h with | cons a b => ?_
    exact wvs_cons a (WVs.cat q (ws := r) b)
end SW

set_option Elab.async false
set_option linter.all false
set_option maxRecDepth 100000
set_option maxHeartbeats 4000000
namespace SW
open PySem PySem.Spec PyProof.Rows L2
/-! ### defs of any number of arguments -/
structure DfS (K : PySem.W.Frag) (mg : Str → Option Value) (x : Str) (st : Stmt) : Prop where
  ex : ∃ f fd, Fun K x x st f fd ∧ mg x = some (.ref f)
structure CalR (P : Program) (w : World) (K : PySem.W.Frag) (mg : Str → Option Value) (base : Heap) (k : Nat) (x : Str) (sp : Sp) : Prop where
  ex : ∃ f, FnR P w K mg base CX0 k f sp ∧ mg x = some (.ref f) ∧ PySem.W.keepIn K (.ref f) = true
theorem dfs_mk {K : PySem.W.Frag} {mg : Str → Option Value} {h : Heap} {x : Str} {st : Stmt} {f : Addr} {od an : Option Addr} {sl : Array (Option Value)} {oc kV dc pm cd ct : Value} (X : K.In h) (G : h.Ns mainGlobals mg)
    (a : PySem.W.nsIn K mainGlobals x = some (some (.ref f))) (l : K.lookup f = some ⟨oc, od, .func (PySem.W.fnOf x x (defArgs st) (defBody st) (defScope st) .none kV dc pm an cd ct), sl⟩) (c : PySem.W.codeIn K cd x = true) (k : PySem.W.keepIn K (.ref f) = true) : DfS K mg x st :=
  ⟨f, _, fun_mk (st := st) l c k, PySem.W.mg_of X G a⟩
theorem DfS.ok {P : Program} {w : World} {K : PySem.W.Frag} {mg : Str → Option Value} {base : Heap} {x pv : Str} {st : Stmt} {N : List Str} {k : Nat} {sp : Sp} (D : DfS K mg x st) (S : FnScope N [pv] (defScope st))
    (hb : ∀ (kV doc pm : Value) (an : Option Addr) (cdv ct : Value) (rest : List Value), bindArgs (PySem.W.fnOf x x (defArgs st) (defBody st) (defScope st) .none kV doc pm an cdv ct) ⟨rest, []⟩ = (newTuple rest >>= fun t => pure [(pv, t)]))
    (hbody : ∀ (f : Addr) (cdv : Value) (A : Around) (outer : List Env) (s : Shared) (H : Hp) (vs : List V) (Q : VK) (E : XK), Room k (A.deeper (envOfC x (defScope st) s.heap.objs.size f cdv)) → sp vs H Q E →
      ∃ t, PSs (cxOf CX0 P w K mg base N x (defScope st) f cdv A outer s H E).nox (defBody st) t ∧ t { nx := fun _ H' => Q .non H', rt := Q } (start N vs) H) :
    CalR P w K mg base (k + 1) x (fun vs H Q E => vs.length ≤ sizeLine ∧ ∀ p, H p = none → sp [.ref p] (upd H p (.tup vs)) Q E) := by
  obtain ⟨f, fd, F, m⟩ := D.ex
  obtain ⟨oc, od, kV, doc, pm, an, cdv, ct, osl, rfl, lk, hcd⟩ := F.ex
  refine ⟨f, FnR.imp (StX.fn_star (ps := []) (pv := pv) (k := k) (sp := sp) lk hcd S StX.cxUp_none (fun us rest hl => ?_) (fun A outer s H vs Q E hr h => ?_)) (fun vs H Q E h => ⟨[], vs, rfl, rfl, h.1, h.2⟩), m, F.kp⟩
  · have e : us = [] := List.eq_nil_of_length_eq_zero hl
    subst e
    exact hb kV doc pm an cdv ct rest
  · obtain ⟨t, ht, hq⟩ := hbody f cdv A outer s H vs Q E hr h
    exact ⟨t, ht.nox, hq⟩
section
variable {X : Cx} {k j : Nat} {x : Str} {sp : Sp} {p pos : Pos} {e : Expr} {es : List Expr} {t : TA}
theorem pe_ownR (c : CalR X.prog X.w X.K X.mg X.base k x sp) (hr : Room j X.A) (hk : k ≤ j) (hg : Gl X x) (ha : PA X (e :: es) t) (hdb : (x == ("__debug__" : Str)) = false := by decide)
    (he : starEach (e :: es) X.env = (false, eval e X.env) :: starEach es X.env := by rfl) (hpl : (backTo pos (starEach es X.env)).any (·.1) = false := by rfl) :
    PE X (.Call (.Name x p) (e :: es) [] pos) (fun σ H Q => t σ H fun vs H1 => sp vs H1 Q E0) := by
  obtain ⟨f, F, hm, hK⟩ := c.ex
  refine ⟨fun pins s σ H Q I h => ?_⟩
  refine wpAny_Call_Name_kw (ld_glob I hg hm ?_ hdb)
  refine PySem.W.callWith_K (h₀ := X.base) I.ok.mod.kin hK (thn (ha.run pos pins s σ H _ I h) fun us s1 ⟨vs, H1, I1, r, q⟩ => ⟨I1.kIn, ?_⟩) he hpl
  exact wpAny_call (run_fnR (FnR.mono F hk) hr pass0 I1 r q)
theorem pe_ownR0 (c : CalR X.prog X.w X.K X.mg X.base k x sp) (hr : Room j X.A) (hk : k ≤ j) (hg : Gl X x) (hdb : (x == ("__debug__" : Str)) = false := by decide) :
    PE X (.Call (.Name x p) [] [] pos) (fun _ H Q => sp [] H Q E0) := by
  obtain ⟨f, F, hm, hK⟩ := c.ex
  refine ⟨fun pins s σ H Q I h => ?_⟩
  refine wpAny_Call_Name_kw (ld_glob I hg hm ?_ hdb)
  exact PySem.W.callWith_K0 I.kIn hK (wpAny_call (run_fnR (FnR.mono F hk) hr pass0 I .nil h))
end
/-! ### a comprehension with a test -/
theorem lcwT {J : It} {n : Nat} {G : Hp → Prop} {xs : List V} (w : Walk J n G (YAt xs)) {j : Nat} {tt : TT} {te : TE} {σ : L2.St} {H1 : Hp} {D : Addr} {Qd : Hp → Prop} (Pv : Nat → Hp → Prop) (h0 : Pv 0 (upd H1 D (.lst []))) (hG : ∀ i H, i ≤ n → Pv i H → G H)
    (hs : ∀ i x H, i < n → xs[i]? = some x → Pv i H → tt (σ.set j (some x)) H fun b H3 => if b = true then te (σ.set j (some x)) H3 fun y H4 => ∃ acc, H4 D = some (.lst acc) ∧ acc.length < sizeLine ∧ Pv (i + 1) (upd H4 D (.lst (acc ++ [y]))) else Pv (i + 1) H3) (hd : ∀ H, Pv n H → Qd H) :
    ∃ W : Nat → Nat → Hp → Prop, (∃ m, W 0 m (upd H1 D (.lst []))) ∧ ∀ i m H, W i m H →
      (J.stop i H ∧ Qd H) ∨ (J.go i H ∧ ∃ Nx : Hp → Prop, (∀ H', Nx H' → ∃ m', m' < m ∧ W (i + 1) m' H') ∧ ∀ x H', J.yld i H x H' → gName j x (wipe σ [j]) H' fun σ2 H2 => wipe σ2 [j] = wipe σ [j] ∧ tt σ2 H2 fun b H3 =>
        if b = true then te σ2 H3 fun y H4 => ∃ acc, H4 D = some (.lst acc) ∧ acc.length < sizeLine ∧ Nx (upd H4 D (.lst (acc ++ [y]))) else Nx H3) := by
  refine lc_it w Pv h0 hG (fun i x H H' hi p y => ?_) hd
  obtain ⟨rfl, e⟩ := y
  have e1 : wipe σ [j] = σ.set j none := rfl
  have e2 : (wipe σ [j]).set j (some x) = σ.set j (some x) := by rw [e1, List.set_set]
  unfold gName
  rw [e2]
  refine ⟨?_, hs i x H' hi e p⟩
  show (σ.set j (some x)).set j none = σ.set j none
  rw [List.set_set]
/-! ### words joined -/
def W.isE : W → Bool
  | .emp => true
  | _ => false
theorem eqv_emp (t : W) : PyData.eqv t.dat (W.dat .emp) = t.isE := by
  cases t <;> simp [W.dat, W.isE, PyData.eqv, PyData.eqvAll]
theorem emp_shaped : SeqAt.shaped (W.dat .emp) = true := W.shaped (L := abcABC) abc_ok (by unfold W.Ok; trivial) (by decide +kernel)
def W.kept (ws : List W) : List W := ws.filter fun t => !t.isE
theorem kept_snoc {ws : List W} {i : Nat} {t : W} (e : ws[i]? = some t) : W.kept (ws.take (i + 1)) = if (!t.isE) = true then W.kept (ws.take i) ++ [t] else W.kept (ws.take i) := by
  rw [List.take_add_one, e]
  unfold W.kept
  rw [List.filter_append]
  show _ ++ List.filter _ [t] = _
  rw [List.filter_cons]
  split <;> simp
theorem kept_len (ws : List W) : (W.kept ws).length ≤ ws.length := List.length_filter_le _ _
theorem kept_mem {ws : List W} {t : W} (h : t ∈ W.kept ws) : t ∈ ws := (List.mem_filter.mp h).1
def joinW : List W → W
  | [] => .emp
  | [t] => t
  | ws => .join ws
theorem joinW_many {ws : List W} (h : 1 < ws.length) : joinW ws = .join ws := by
  match ws, h with
  | _ :: _ :: _, _ => rfl
theorem joinW_sm {L : List Str} {ws : List W} {n : Nat} (h : ∀ t ∈ ws, t.Ok L ∧ 2 * t.dep ≤ n) (hl : ws.length ≤ 1000) : Sm (n + 2) (joinW ws).dat := by
  match ws, h, hl with
  | [], _, _ =>
    show Sm (n + 1 + 1) (W.dat .emp)
    unfold W.dat Sm
    refine ⟨by decide, fun d q => ?_⟩
    cases List.mem_singleton.mp q
    unfold Sm
    trivial
  | [t], h, _ => exact (W.sm t (h t (List.mem_singleton.mpr rfl)).1).mono (by have := (h t (List.mem_singleton.mpr rfl)).2; omega)
  | a :: b :: r, h, hl =>
    show Sm (n + 1 + 1) (W.dat (.join (a :: b :: r)))
    unfold W.dat Sm
    refine ⟨by show 2 ≤ 1000; decide, fun d q => ?_⟩
    simp only [List.mem_cons, List.not_mem_nil, or_false] at q
    rcases q with rfl | rfl
    · unfold Sm
      trivial
    · unfold Sm
      rw [W.dats_map]
      refine ⟨by rw [List.length_map]; exact hl, fun d q => ?_⟩
      obtain ⟨t, ht, rfl⟩ := List.mem_map.mp q
      exact (W.sm t (h t ht).1).mono (h t ht).2
theorem cut_to (xs : List V) (i : Nat) : cutV xs none (some (i : Int)) = xs.take i := by
  unfold cutV
  rw [HT.sIx_none, HT.sIx_nat]
  show (xs.drop 0).take (min i xs.length - 0) = xs.take i
  rw [List.drop_zero, Nat.sub_zero]
  rcases Nat.le_total i xs.length with h | h
  · rw [Nat.min_eq_left h]
  · rw [Nat.min_eq_right h, List.take_length, List.take_of_length_le h]
theorem WVs.take {K : PySem.W.Frag} {H : Hp} : ∀ (i : Nat) {ws : List W} {xs : List V}, WVs K H xs ws → WVs K H (xs.take i) (ws.take i)
  | 0, ws, xs, _ => by
    rw [List.take_zero, List.take_zero]
    exact wvs_nil
  | i + 1, [], xs, h => by
    unfold WVs W.dats at h
    cases h
    exact wvs_nil
  | i + 1, v :: r, xs, h => by
    unfold WVs W.dats at h
    cases h with | cons a b => ?_
    exact wvs_cons a (WVs.take i (ws := r) b)
end SW

set_option Elab.async false
set_option linter.all false
set_option maxRecDepth 100000
set_option maxHeartbeats 4000000
/-! ### sets of texts: a list of the members, each once -/
namespace SW
open PySem PySem.Spec PyProof.Rows L2
def kS (e : Int × Value) : Str := match e.2 with
  | .str k _ => k
  | _ => ⟨#[]⟩
def GdS (w : World) (e : Int × Value) : Prop := ∃ k tk, e.2 = Value.str k tk ∧ e.1 = hashStr w k
def insS (l : List Str) (k : Str) : List Str := if k ∈ l then l else l ++ [k]
/-- a set of the texts l at a, which can be walked -/
def SetL (w : World) (h : Heap) (a : Addr) (l : List Str) : Prop :=
  ∃ o es ep t, h.get? a = some o ∧ o.ExactSet ∧ o.data = .set es ep t ∧ (∀ e ∈ es.toList, GdS w e) ∧ (es.toList.map kS).Perm l ∧ l.Nodup ∧
    l.length < scanBound ∧ t.fits es.size = true ∧ Ris t.place.toList ∧ (w.params.followText "set-order" = true ∨ t.led = true)
theorem insS_nodup {l : List Str} {k : Str} (h : l.Nodup) : (insS l k).Nodup := by
  unfold insS
  split
  · exact h
  · rename_i hk
    rw [List.nodup_append]
    refine ⟨h, by simp, fun a ha b hb => ?_⟩
    rw [List.mem_singleton.mp hb]
    exact fun e => hk (e ▸ ha)
theorem mem_insS {l : List Str} {k x : Str} : x ∈ insS l k ↔ x ∈ l ∨ x = k := by
  unfold insS
  split
  · rename_i hk
    exact ⟨.inl, fun q => q.elim id fun e => e ▸ hk⟩
  · rw [List.mem_append, List.mem_singleton]
theorem insS_len {l : List Str} {k : Str} : (insS l k).length ≤ l.length + 1 := by
  unfold insS
  split
  · omega
  · rw [List.length_append, List.length_singleton]; omega
section
variable {P : Program} {w : World} {h h' : Heap} {a : Addr} {l : List Str}
theorem SetL.at (R : SetL w h a l) (k : ∀ o, h.get? a = some o → h'.get? a = some o) : SetL w h' a l := by
  obtain ⟨o, es, ep, t, ho, r⟩ := R
  exact ⟨o, es, ep, t, k o ho, r⟩
theorem gdS_elems {es : List (Int × Value)} (g : ∀ e ∈ es, GdS w e) : ElemsOf (strKind P w) es := fun e he => by
  obtain ⟨k, tk, h1, h2⟩ := g e he
  refine ⟨⟨k, ?_, h2⟩, ?_⟩
  · rw [h1]
    exact strKind_is P w k tk
  · rw [h1] <;> rfl
theorem gdS_is {e : Int × Value} (g : GdS w e) (k : Str) : (strKind P w).is k e.2 = true ↔ kS e = k := by
  obtain ⟨k0, tk, h1, _⟩ := g
  unfold kS
  rw [h1]
  constructor
  · intro q
    obtain ⟨t, e⟩ := Value.isStrOf_shape (show Value.isStrOf k (.str k0 tk) = true from q)
    cases e
    rfl
  · intro q
    have q' : k0 = k := q
    rw [q']
    exact strKind_is P w k tk
theorem gdS_mem {es : List (Int × Value)} (g : ∀ e ∈ es, GdS w e) (k : Str) : k ∈ es.map kS ↔ ∃ e ∈ es, (strKind P w).is k e.2 = true := by
  rw [List.mem_map]
  exact ⟨fun ⟨e, he, q⟩ => ⟨e, he, (gdS_is (g e he) k).2 q⟩, fun ⟨e, he, q⟩ => ⟨e, he, (gdS_is (g e he) k).1 q⟩⟩
theorem SetL.size (R : SetL w h a l) : ∃ o es ep t, h.get? a = some o ∧ o.data = .set es ep t ∧ es.size = l.length := by
  obtain ⟨o, es, ep, t, ho, _, hd, _, pm, _⟩ := R
  refine ⟨o, es, ep, t, ho, hd, ?_⟩
  have := pm.length_eq
  rw [List.length_map, Array.length_toList] at this
  exact this
theorem SetL.setOf (R : SetL w h a l) : h.SetOf (strKind P w) a (fun k => decide (k ∈ l)) l.length := by
  obtain ⟨o, es, ep, t, ho, hx, hd, g, pm, nd, hb, hf, _⟩ := R
  have hz : es.size = l.length := by
    have := pm.length_eq
    rw [List.length_map, Array.length_toList] at this
    exact this
  refine ⟨o, es, ep, t, ho, hx, hd, gdS_elems g, fun k => ?_, by rw [hz]; exact hb, hf, hz⟩
  rw [decide_eq_true_eq, ← pm.mem_iff]
  exact gdS_mem g k
end
section
variable {P : Program} {w : World} {A : Around} {E : Value → Shared → Prop} {s : Shared} {a : Addr} {l : List Str}
theorem stS_at {h : Heap} {o : Obj} {es es' : Array (Int × Value)} {ep : Nat} {t t' : SetTable} (ho : h.get? a = some o) (hd : o.data = .set es ep t) : (h.update a (Obj.putSet es' t')).get? a = some { o with data := .set es' (ep + 1) t' } :=
  PpSet.storeB_at ho hd
theorem setL_tail {g : Bool → Sem Unit} (hg : ∀ (b : Bool) (s₁ : Shared) (Q' : Unit → Shared → Prop), Q' () s₁ → wpAny (model P w) A (g b) Q' E s₁)
    {o : Obj} {es es1 : Array (Int × Value)} {ep : Nat} {t t2 : SetTable} {l' : List Str} {wd : Bool} {R : Option Bool → Shared → Prop} (ho : s.heap.get? a = some o) (hex : o.ExactSet) (hd : o.data = .set es ep t)
    (g1 : ∀ e ∈ es1.toList, GdS w e) (pm1 : (es1.toList.map kS).Perm l') (nd1 : l'.Nodup) (hb1 : l'.length < scanBound) (hf2 : t2.fits es1.size = true) (hr : Ris t2.place.toList) (hl : w.params.followText "set-order" = true ∨ t2.led = true)
    (hR : ∀ h', Heap.SameBut a s.heap h' → SetL w h' a l' → R (some true) { s with heap := h' }) :
    wpAny (model P w) A (storeSet a es1 t2 >>= fun _ => if (!wd && t2.tooFull) = true then
      (g (relayAll t2 es1 (SetTable.grown es1.size)).2.2 >>= fun _ => storeSet a (relayAll t2 es1 (SetTable.grown es1.size)).1 (relayAll t2 es1 (SetTable.grown es1.size)).2.1 >>= fun _ => pure (some true)) else pure (some true)) R E s := by
  have z1 : es1.size = l'.length := by
    have := pm1.length_eq
    rw [List.length_map, Array.length_toList] at this
    exact this
  refine wpAny_bind (wpAny_storeSet_of ho hd ?_ (fits_of_scanBound (by rw [z1]; exact hb1)))
  have o1 := stS_at (es' := es1) (t' := t2) ho hd
  have b1 := Heap.SameBut.update s.heap a (Obj.putSet es1 t2)
  split
  · have p2 := relayAll_perm t2 es1 (SetTable.grown es1.size)
    have f2 := relayAll_fits t2 es1 (SetTable.grown es1.size)
    have r2 := relayAll_ris t2 es1 (SetTable.grown es1.size)
    have l2 := relayAll_led t2 es1 (SetTable.grown es1.size)
    revert p2 f2 r2 l2
    generalize relayAll t2 es1 (SetTable.grown es1.size) = Z
    obtain ⟨es2, t3, gv⟩ := Z
    intro p2 f2 r2 l2
    have z2 : es2.size = l'.length := by rw [← z1, ← Array.length_toList, p2.length_eq, Array.length_toList]
    refine wpAny_bind (hg _ _ _ ?_)
    refine wpAny_bind (wpAny_storeSet_of o1 rfl ?_ (fits_of_scanBound (by rw [z2]; exact hb1)))
    have o2 := stS_at (es' := es2) (t' := t3) o1 rfl
    exact wpAny_pure (hR _ (b1.trans (Heap.SameBut.update _ a _)) ⟨_, es2, _, t3, o2, hex, rfl, fun e he => g1 e (p2.mem_iff.mp he), (p2.map kS).trans pm1, nd1, hb1, f2, r2, hl.imp id fun z => l2.trans z⟩)
  · exact wpAny_pure (hR _ b1 ⟨_, es1, _, t2, o1, hex, rfl, g1, pm1, nd1, hb1, hf2, hr, hl⟩)
theorem setL_add_hashed {k : Str} {tk : Tok} {Q : Bool → Shared → Prop} (R : SetL w s.heap a l) (room : l.length + 1 < scanBound)
    (hQ : ∀ b h', Heap.SameBut a s.heap h' → SetL w h' a (insS l k) → Q b { s with heap := h' }) : wpAny (model P w) A (setAddHashed a (.str k tk) ((strKind P w).hash k)) Q E s := by
  obtain ⟨o, es, ep, t, ho, hex, hd, g, pm, nd, hb, hf, hr, hl⟩ := R
  have z0 : es.size = l.length := by
    have := pm.length_eq
    rw [List.length_map, Array.length_toList] at this
    exact this
  have hb0 : es.size < scanBound := by rw [z0]; exact hb
  have hkey : (strKind P w).is k (.str k tk) = true := strKind_is P w k tk
  have hsc : (Value.str k tk).scannable = true := rfl
  have hel : ElemsOf (strKind P w) es.toList := gdS_elems g
  unfold setAddHashed setAddHashedIn
  refine wpAny_holding (wpAny_bind (wpAny_setState_of ho hd hf ?_))
  dsimp only
  rw [byScan_of hsc hb0 hel]
  simp only [↓reduceIte]
  unfold setAddByScan
  refine wpAny_bind (wpAny_bind (wpAny_rule (wpAny_bind (wpAny_setScan_of hkey ho hd hf hel ?_))))
  cases hfi : List.findIdx? (fun e => (strKind P w).is k e.2) es.toList with
  | some j =>
    dsimp only
    obtain ⟨hj, pj, _⟩ := List.findIdx?_eq_some_iff_getElem.mp hfi
    have hk : k ∈ l := pm.mem_iff.mp ((gdS_mem (P := P) g k).2 ⟨es.toList[j], List.getElem_mem hj, pj⟩)
    have e : insS l k = l := by unfold insS; rw [if_pos hk]
    exact wpAny_pure (wpAny_pure (hQ _ s.heap (Heap.SameBut.refl a s.heap) (by rw [e]; exact ⟨o, es, ep, t, ho, hex, hd, g, pm, nd, hb, hf, hr, hl⟩)))
  | none =>
    dsimp only
    have hk : k ∉ l := fun z => by
      obtain ⟨e, he, q⟩ := (gdS_mem (P := P) g k).1 (pm.mem_iff.mpr z)
      have c := List.findIdx?_eq_none_iff.mp hfi e he
      rw [q] at c
      cases c
    have e : insS l k = l ++ [k] := by unfold insS; rw [if_neg hk]
    rw [e] at hQ
    have gw : ∀ (b : Bool) {s₁ : Shared} {Q' : Unit → Shared → Prop}, Q' () s₁ → wpAny (model P w) A (match b with | true => rule "set.scan.the-table-gave-way" | false => pure ()) Q' E s₁ :=
      fun b s₁ Q' q => by cases b <;> first | exact wpAny_pure q | exact wpAny_rule q
    have p1 := layNew_perm t es ((strKind P w).hash k) (.str k tk)
    have f1 := layNew_fits t es ((strKind P w).hash k) (.str k tk)
    have r1 := layNew_ris t es ((strKind P w).hash k) (.str k tk) hr
    have l1 := layNew_led t es ((strKind P w).hash k) (.str k tk)
    revert p1 f1 r1 l1
    generalize layNew t es ((strKind P w).hash k) (.str k tk) = Z
    obtain ⟨es1, t1, wd, gv⟩ := Z
    intro p1 f1 r1 l1
    dsimp only at p1 f1 r1 l1 ⊢
    rw [Array.toList_push] at p1
    have pk : (es1.toList.map kS).Perm (l ++ [k]) := by
      have := p1.map kS
      rw [List.map_append] at this
      exact this.trans (pm.append_right _)
    have g1 : ∀ e ∈ es1.toList, GdS w e := fun e he => by
      rcases List.mem_append.mp (p1.mem_iff.mp he) with z | z
      · exact g e z
      · rw [List.mem_singleton.mp z]
        exact ⟨k, tk, rfl, rfl⟩
    have nd1 : (l ++ [k]).Nodup := by
      have := insS_nodup (k := k) nd
      rwa [e] at this
    have hb1 : (l ++ [k]).length < scanBound := by rw [List.length_append]; exact room
    have led : w.params.followText "set-order" = true ∨ t1.led = true := hl.imp id fun z => l1.trans z
    refine wpAny_bind (gw _ ?_)
    split
    · refine wpAny_bind ?_
      rw [hashByValue_scannable 8 hsc]
      refine wpAny_pure ?_
      refine setL_tail (fun b s₁ Q' q => by cases b <;> first | exact wpAny_pure q | exact wpAny_rule q) ho hex hd g1 pk nd1 hb1 ?_ ?_ ?_ fun h' sb r => ?_
      · first | exact f1 | (split <;> first | exact f1 | exact SetTable.fits_plain_off f1)
      · first | exact r1 | (split <;> exact r1)
      · first | exact led | (split <;> exact led)
      · dsimp only
        exact wpAny_pure (hQ _ h' sb r)
    · refine wpAny_bind (wpAny_pure ?_)
      simp only [↓reduceIte]
      refine setL_tail (fun b s₁ Q' q => by cases b <;> first | exact wpAny_pure q | exact wpAny_rule q) ho hex hd g1 pk nd1 hb1 f1 r1 led fun h' sb r => ?_
      dsimp only
      exact wpAny_pure (hQ _ h' sb r)
theorem setL_add {k : Str} {tk : Tok} {Q : Value → Shared → Prop} (R : SetL w s.heap a l) (room : l.length + 1 < scanBound)
    (hQ : ∀ h' t', Heap.SameBut a s.heap h' → SetL w h' a (insS l k) → Q .none { s with heap := h', toks := t' }) : wpAny (model P w) A (call (.builtin "set.add") [.ref a, .str k tk]) Q E s := by
  have hS : s.heap.SetOf (strKind P w) a (fun k => decide (k ∈ l)) l.length := R.setOf
  refine wpAny_call_entry F.slot_set_add hS.typeIs F.entry_set_add ?_ (F.args_set_add_2 _ _)
  unfold Builtin.«set.add» Builtin.Frozenset.oneOther
  simp only [List.isEmpty_nil, bind_assoc]
  unfold Builtin.Frozenset.addrOf setAdd
  refine wpAny_bind (wpAny_pure ?_)
  try dsimp only
  refine wpAny_bind (wpAny_pure ?_)
  try dsimp only
  refine wpAny_bind (wpAny_holding (wpAny_bind ((strKind P w).pyHash (strKind_is P w k tk) ?_)))
  refine setL_add_hashed (s := { s with toks := s.toks + 1 }) R room fun b h' sb r => ?_
  show wpAny _ _ (ret Value.none) _ _ _
  exact wpAny_pure ⟨_, rfl, hQ h' _ sb r⟩
theorem setL_fresh {h : Heap} (w : World) : SetL w (h.push { cls := .type "set", dict := none, data := .set #[] 0 (.fresh 0 0 (!w.params.followText "set-order")) }) h.objs.size [] := by
  refine ⟨_, #[], 0, _, Heap.get?_push_size _ rfl, ⟨rfl, rfl, rfl⟩, rfl, fun e he => by simp at he, List.Perm.refl _, List.nodup_nil, by decide, rfl, List.Pairwise.nil, ?_⟩
  cases hb : w.params.followText "set-order"
  · exact .inr rfl
  · exact .inl rfl
/-! ### sorted of such a set -/
theorem kS_strs {es : List Value} (g : ∀ v ∈ es, ∃ k tk, v = Value.str k tk) : StrsAre es (es.map fun v => kS (0, v)) := by
  induction es with
  | nil => exact .nil
  | cons v r ih =>
    obtain ⟨k, tk, rfl⟩ := g v (List.mem_cons_self ..)
    exact .cons k tk (ih fun u hu => g u (List.mem_cons_of_mem _ hu))
theorem sorted_setL {Q : Value → Shared → Prop} (R : SetL w s.heap a l) (hh : A.handled = none) (h64 : l.length < 64)
    (hQ : ∀ s' p (out : Array Value) (c : Nat) (ys : List Str), (∀ b o, s.heap.get? b = some o → s'.heap.get? b = some o) → s'.gens = s.gens → s'.os = s.os → s.heap.objs.size ≤ p →
      s'.heap.get? p = some (seqObj "list" out c) → StrsAre out.toList ys → ys.Perm l → sortedS ys = true → Q (.ref p) s') : wpAny (model P w) A (call (.builtin "sorted") [.ref a]) Q E s := by
  obtain ⟨o, es, ep, t, ho, hex, hd, g, pm, nd, hb, hf, hr, hl⟩ := R
  have z0 : es.size = l.length := by
    have := pm.length_eq
    rw [List.length_map, Array.length_toList] at this
    exact this
  refine Calls.call_function_entry kind_sorted plain_sorted entry_sorted (args_sorted1 _) ?_
  unfold Builtin.«sorted»
  refine wpAny_bind (m := checkCount "sorted" 1 1 _) (wpAny_pure ?_)
  refine wpAny_bind (collect_set (A := A.in1) hh ⟨o, ho, hex.1, hd⟩ hf (by rw [z0]; exact hb) hr hl fun s1 vs k1 hz g1 o1 pm1 => ?_)
  have hvl : vs.length = l.length := by rw [pm1.length_eq, List.length_map, Array.length_toList, z0]
  have hv64 : vs.length < 64 := by rw [hvl]; exact h64
  have hS : StrsAre vs (vs.map fun v => kS (0, v)) := kS_strs fun v hv => by
    obtain ⟨e, he, q⟩ := List.mem_map.mp (pm1.mem_iff.mp hv)
    obtain ⟨k, tk, h1, _⟩ := g e he
    exact ⟨k, tk, by rw [← q]; exact h1⟩
  have pk : (vs.map fun v => kS (0, v)).Perm l := by
    have q := pm1.map fun v => kS (0, v)
    rw [List.map_map] at q
    exact q.trans pm
  refine wpAny_bind (wpAny_newList ?_ (by rw [sizeLine_eq]; omega))
  have hoL : (s1.heap.push (seqObj "list" vs.toArray 0)).get? s1.heap.objs.size = some (seqObj "list" vs.toArray 0) := Heap.get?_push_size _ rfl
  refine wpAny_bind (wpAny_holding (wpAny_call_entry slot_list_sort ⟨_, hoL, rfl⟩ entry_list_sort (list_sort_treeK strKind_oneLt hoL hS.keysOf (fun v₁ v₂ rest e => keyKind_strs (by rw [← e]; exact hS)) hv64 fun st' hp hs => ⟨_, rfl, ?_⟩) (args_list_sort _)))
  obtain ⟨ys, y1, y2, y3⟩ := sorted_out_str hS hp hs
  obtain ⟨c, hc⟩ := sortedHeap_at (vs := vs) (out := (arrOf st').map (·.2)) hoL
  refine wpAny_pure ⟨_, rfl, hQ _ s1.heap.objs.size ((arrOf st').map (·.2)) c ys (fun b u e => ?_) g1 o1 hz hc y1 (y2.trans pk) y3⟩
  have q := k1 b u e
  have hlt := Heap.lt_size q
  show (sortedHeap (s1.heap.push (seqObj "list" vs.toArray 0)) s1.heap.objs.size vs ((arrOf st').map (·.2))).get? b = some u
  rw [sortedHeap_old (Nat.ne_of_lt hlt) (by rw [size_push']; exact Nat.lt_succ_of_lt hlt)]
  exact Heap.get?_push_of_some _ q
end
end SW

set_option Elab.async false
set_option linter.all false
set_option maxRecDepth 100000
set_option maxHeartbeats 4000000
/-! ### sets of texts over the layer: a display, comprehensions, sorted -/
namespace SW
open PySem PySem.Spec PyProof.Rows L2
abbrev emptySet (w : World) : Obj := { cls := .type "set", dict := none, data := .set #[] 0 (.fresh 0 0 (!w.params.followText "set-order")) }
/-- the set of the texts l at a -/
def SetLO (w : World) (a : Addr) (l : List Str) : HO := .ext fun h => SetL w h a l
theorem setLO_ok {w : World} {P : Program} {H : Hp} {h : Heap} {a : Addr} {l : List Str} (R : SetL w h a l) : ObjOk P w H h a (SetLO w a l) := by
  have ⟨o, _, _, _, ho, _⟩ := R
  exact ⟨R, ⟨o, ho⟩, fun _ _ p k => SetL.at p k⟩
section
variable {X : Cx} {pins : List (Addr × Obj)} {σ : L2.St} {H : Hp} {s : Shared} {E : Value → Shared → Prop} {D : Addr} {l : List Str}
theorem setLO_get {a : Addr} (I : Inv X pins σ H s) (ha : H a = some (SetLO X.w a l)) : SetL X.w s.heap a l := (I.hok a _ ha).1
theorem addL_ok {y : Str} {tk : Tok} {A : Around} {Q : Value → Shared → Prop} (I : Inv X pins σ H s) (hD : H D = some (SetLO X.w D l)) (room : l.length + 1 < scanBound)
    (h : ∀ v s', Inv X pins σ (upd H D (SetLO X.w D (insS l y))) s' → Q v s') : wpAny (model X.prog X.w) A (call (.builtin "set.add") [.ref D, .str y tk]) Q E s := by
  refine setL_add (setLO_get I hD) room fun h' t' sb new => h _ _ ?_
  have he : ∃ u, h'.get? D = some u := by
    have ⟨o, _, _, _, ho, _⟩ := new
    exact ⟨o, ho⟩
  exact I.write (e := D) (t' := t') (by rw [hD]; trivial) (.inl rfl) (fun b u hb hu => (sb.2 b hb).trans hu) he (setLO_ok new)
end
/-! ### sorted(set) -/
def rSortedL (w : World) : List V → Hp → VK → Prop := fun vs H Q => ∃ (a : Addr) (l : List Str), vs = [V.ref a] ∧ H a = some (SetLO w a l) ∧ l.length < 64 ∧
  ∀ (ys : List Str) (p : Addr), ys.Perm l → sortedS ys = true → H p = none → Q (.ref p) (upd H p (.lst (ys.map V.str)))
theorem cr_sortedL {X : Cx} (hc : X.calm = true) : CallR X (.builtin "sorted") (rSortedL X.w) := by
  intro pins s σ H vs us Q I r h
  obtain ⟨a, l, rfl, ha, h64, q⟩ := h
  rw [Vals.ref1 r]
  refine sorted_setL (setLO_get I ha) (I.ok.hd hc) h64 fun s' p out c ys k g o hp hg hst pm so => ?_
  have hn : H p = none := I.hok.fresh hp
  have hlen : (ys.map V.str).length ≤ sizeLine := by rw [List.length_map, pm.length_eq]; exact small64 h64
  have J : Inv X pins σ (upd H p (.lst (ys.map V.str))) { s with heap := s'.heap, gens := s'.gens, drawn := s'.drawn, toks := s'.toks } :=
    I.call (ch := []) (Un.laid k hp hn) (I.hok.laid k hp ⟨hlen, out.toList, c, vals_of_strs hst, hg⟩) (by rw [g]; exact I.bare) (fun _ z => nomatch z)
  have e : s' = { s with heap := s'.heap, gens := s'.gens, drawn := s'.drawn, toks := s'.toks } := by
    cases s'
    cases s
    cases o
    rfl
  rw [e]
  exact ⟨.ref p, _, J, rfl, q ys p pm so hn⟩
/-! ### comprehensions -/
section
variable {prog : Program} {w : World} {A : Around} {R : Result → Shared → Prop} {s : Shared} {elt t0 i0 t1 i1 : Expr} {c0 c1 : List Expr} {sc : Scope} {pos : Pos} {it acc : Value} {env : Env}
abbrev SC2 (elt t0 i0 t1 i1 : Expr) (c0 c1 : List Expr) (sc : Scope) (pos : Pos) : Expr := .SetComp elt [⟨t0, i0, c0, 0⟩, ⟨t1, i1, c1, 0⟩] sc pos
theorem sc2_turn0 : compTurn (SC2 elt t0 i0 t1 i1 c0 c1 sc pos) 0 it acc env = (do
      standAt i0.pos
      match ← pyNext it with
      | none => pure (.done .next)
      | some v =>
        letOwnedTupleGo t0 it v; assign t0 env v
        let mut ok := true
        for c in c0 do
          if ok then ok ← isTrue c env (eval c env)
        if ok then
          let x ← eval i1 env
          standAt i1.pos
          let x ← foldedSetIterable i1 env x
          let _ ← runOwn (.compStart (SC2 elt t0 i0 t1 i1 c0 c1 sc pos) 1 (← holding [x] (pyIter x)) acc env) env
        again (.compLoop (SC2 elt t0 i0 t1 i1 c0 c1 sc pos) 0 it acc env)) := by rfl
theorem sc2_turn1 : compTurn (SC2 elt t0 i0 t1 i1 c0 c1 sc pos) 1 it acc env = (do
      standAt i1.pos
      match ← pyNext it with
      | none => pure (.done .next)
      | some v =>
        letOwnedTupleGo t1 it v; assign t1 env v
        let mut ok := true
        for c in c1 do
          if ok then ok ← isTrue c env (eval c env)
        if ok then
          (do let v ← eval elt env; standAt elt.pos; let _ ← call (.builtin "set.add") [acc, v])
        again (.compLoop (SC2 elt t0 i0 t1 i1 c0 c1 sc pos) 1 it acc env)) := by rfl
abbrev tests (cs : List Expr) (env : Env) : Sem Bool := forIn cs true fun c r => if r = true then do let ok ← isTrue c env (eval c env); pure (ForInStep.yield ok) else pure (ForInStep.yield r)
abbrev nb (prog : Program) (w : World) (A : Around) (env : Env) (R : Result → Shared → Prop) : Value → Shared → Prop := notedBy (model prog w) A env fun e s' => R (.error e) s'
theorem sc2_loop0 (hs : ∀ x, foldedSetIterable i1 env x = pure x) (I : Nat → Shared → Prop)
    (turn : ∀ n s, I n s → wpAny (model prog w) A (pyNext it) (fun r s₁ => match r with
      | none => R (.ok .next) s₁
      | some v => wpAny (model prog w) A (letOwnedTupleGo t0 it v) (fun _ s₂ => wpAny (model prog w) A (assign t0 env v) (fun _ s₃ => wpAny (model prog w) A (tests c0 env) (fun ok s₄ =>
            if ok = true then wpAny (model prog w) A (eval i1 env) (fun x s₅ => wpAny (model prog w) A (pyIter x) (fun jt s₆ => codeAny (model prog w) A (.compStart (SC2 elt t0 i0 t1 i1 c0 c1 sc pos) 1 jt acc env)
              (fun r s' => match r with | .ok _ => ∃ m, m < n ∧ I m s' | .error _ => False) s₆) (nb prog w A env R) s₅) (nb prog w A env R) s₄
            else ∃ m, m < n ∧ I m s₄) (nb prog w A env R) s₃) (nb prog w A env R) s₂) (nb prog w A env R) s₁) (nb prog w A env R) s) (n : Nat) (h : I n s) :
    codeAny (model prog w) A (.compLoop (SC2 elt t0 i0 t1 i1 c0 c1 sc pos) 0 it acc env) R s := by
  refine codeAny_loop rfl I (fun n s hI => ?_) n h
  refine wpAny_noted ?_
  rw [sc2_turn0]
  refine wpAny_bind (wpAny_standAt (wpAny_bind (wpAny_mono (turn n s hI) (fun r s₁ z1 => ?_) fun _ _ z => z)))
  cases r with
  | none => exact wpAny_pure z1
  | some v =>
    refine wpAny_bind (wpAny_mono z1 (fun _ s₂ z2 => wpAny_bind (wpAny_mono z2 (fun _ s₃ z3 => wpAny_bind (wpAny_mono z3 (fun ok s₄ z4 => ?_) fun _ _ z => z)) fun _ _ z => z)) fun _ _ z => z)
    cases ok with
    | false => exact wpAny_pure ⟨rfl, z4⟩
    | true =>
      refine wpAny_bind (wpAny_mono z4 (fun x s₅ z5 => wpAny_bind (wpAny_standAt (wpAny_bind (wpAny_of_eq (hs x) (wpAny_bind (wpAny_holding (wpAny_mono z5 (fun jt s₆ z6 => wpAny_bind (wpAny_runOwn ?_)) fun _ _ z => z))))))) fun _ _ z => z)
      rw [Around.mark_none]
      refine codeAny_mono z6 fun r s' hr => ?_
      cases r with
      | ok f => first | exact wpAny_pure ⟨rfl, hr⟩ | exact wpAny_bind (wpAny_pure (wpAny_pure ⟨rfl, hr⟩))
      | error e => exact hr.elim
theorem sc2_loop1 (I : Nat → Shared → Prop)
    (turn : ∀ n s, I n s → wpAny (model prog w) A (pyNext it) (fun r s₁ => match r with
      | none => R (.ok .next) s₁
      | some v => wpAny (model prog w) A (letOwnedTupleGo t1 it v) (fun _ s₂ => wpAny (model prog w) A (assign t1 env v) (fun _ s₃ => wpAny (model prog w) A (tests c1 env) (fun ok s₄ =>
            if ok = true then wpAny (model prog w) A (eval elt env) (fun x s₅ => wpAny (model prog w) A (call (.builtin "set.add") [acc, x]) (fun _ s₆ => ∃ m, m < n ∧ I m s₆) (nb prog w A env R) s₅) (nb prog w A env R) s₄
            else ∃ m, m < n ∧ I m s₄) (nb prog w A env R) s₃) (nb prog w A env R) s₂) (nb prog w A env R) s₁) (nb prog w A env R) s) (n : Nat) (h : I n s) :
    codeAny (model prog w) A (.compLoop (SC2 elt t0 i0 t1 i1 c0 c1 sc pos) 1 it acc env) R s := by
  refine codeAny_loop rfl I (fun n s hI => ?_) n h
  refine wpAny_noted ?_
  rw [sc2_turn1]
  refine wpAny_bind (wpAny_standAt (wpAny_bind (wpAny_mono (turn n s hI) (fun r s₁ z1 => ?_) fun _ _ z => z)))
  cases r with
  | none => exact wpAny_pure z1
  | some v =>
    refine wpAny_bind (wpAny_mono z1 (fun _ s₂ z2 => wpAny_bind (wpAny_mono z2 (fun _ s₃ z3 => wpAny_bind (wpAny_mono z3 (fun ok s₄ z4 => ?_) fun _ _ z => z)) fun _ _ z => z)) fun _ _ z => z)
    cases ok with
    | false => exact wpAny_pure ⟨rfl, z4⟩
    | true => exact wpAny_bind (wpAny_bind (wpAny_mono z4 (fun x s₅ z5 => wpAny_bind (wpAny_standAt (wpAny_bind (wpAny_mono z5 (fun _ s₆ z6 => wpAny_pure (wpAny_pure ⟨rfl, z6⟩)) fun _ _ z => z)))) fun _ _ z => z))
theorem sc2_start1 (h0 : codeAny (model prog w) A (.compLoop (SC2 elt t0 i0 t1 i1 c0 c1 sc pos) 1 it acc env) R s)
    (h : wpAny (model prog w) A (pyIter it) (fun jt s' => codeAny (model prog w) A (.compLoop (SC2 elt t0 i0 t1 i1 c0 c1 sc pos) 1 jt acc env) R s') (nb prog w A env R) s) :
    codeAny (model prog w) A (.compStart (SC2 elt t0 i0 t1 i1 c0 c1 sc pos) 1 it acc env) R s := by
  refine codeAny_of_tree ?_
  refine wpAny_notedAt ?_
  unfold compStart
  show wpAny _ _ (ask >>= _) _ _ s
  refine wpAny_bind (wpAny_askSetting (wpAny_ite ?_))
  split
  · first | exact wpAny_bind (wpAny_pure (wpAny_pure (And.intro rfl h0))) | exact wpAny_pure (And.intro rfl h0)
  · first
      | exact wpAny_bind (wpAny_rule (wpAny_bind (wpAny_standAt (wpAny_bind (wpAny_mono h (fun jt s' z => wpAny_pure (And.intro rfl z)) fun _ _ x => x)))))
      | (refine wpAny_bind (wpAny_rule ?_); show wpAny _ _ (standAt i1.pos >>= _) _ _ s; exact wpAny_bind (wpAny_standAt (wpAny_bind (wpAny_mono h (fun jt s' z => wpAny_pure (And.intro rfl z)) fun _ _ x => x))))
end
/-- the element's end: one more text in the set at D -/
abbrev eSc (w : World) (te : TE) (D : Addr) (Nx : Hp → Prop) : L2.St → Hp → Prop := fun σ H => te σ H fun y H' => ∃ (c : Str) (l : List Str), y = .str c ∧ H' D = some (SetLO w D l) ∧ l.length + 1 < scanBound ∧ Nx (upd H' D (SetLO w D (insS l c)))
/-- {elt for tg in iter if ..}: D the new set -/
def tScL (w : World) (wi : TI) (g : TG) (tt : TT) (te : TE) (vs : List Nat) : TE := fun σ H Q => wi σ H fun J H1 => ∀ D, H1 D = none → ∃ W : Nat → Nat → Hp → Prop, (∃ m, W 0 m (upd H1 D (SetLO w D []))) ∧ ∀ i m H, W i m H →
  (J.stop i H ∧ Q (.ref D) H) ∨ (J.go i H ∧ ∃ Nx : Hp → Prop, (∀ H', Nx H' → ∃ m', m' < m ∧ W (i + 1) m' H') ∧ ∀ x H', J.yld i H x H' → g x (wipe σ vs) H' fun σ2 H2 => wipe σ2 vs = wipe σ vs ∧ tt σ2 H2 fun b H3 => if b = true then eSc w te D Nx σ2 H3 else Nx H3)
/-- .. with a second for -/
def tScL2 (w : World) (wi : TI) (g : TG) (tt : TT) (wi1 : TI) (g1 : TG) (tt1 : TT) (te : TE) (vs vs1 : List Nat) : TE := fun σ H Q => wi σ H fun J H1 => ∀ D, H1 D = none → ∃ W : Nat → Nat → Hp → Prop, (∃ m, W 0 m (upd H1 D (SetLO w D []))) ∧ ∀ i m H, W i m H →
  (J.stop i H ∧ Q (.ref D) H) ∨ (J.go i H ∧ ∃ Nx : Hp → Prop, (∀ H', Nx H' → ∃ m', m' < m ∧ W (i + 1) m' H') ∧ ∀ x H', J.yld i H x H' → g x (wipe σ vs) H' fun σ2 H2 => wipe σ2 vs = wipe σ vs ∧ tt σ2 H2 fun b H3 =>
    if b = true then wi1 σ2 H3 fun J1 H4 => ∃ W1 : Nat → Nat → Hp → Prop, (∃ m, W1 0 m H4) ∧ ∀ j k H, W1 j k H →
      (J1.stop j H ∧ Nx H) ∨ (J1.go j H ∧ ∃ Nx1 : Hp → Prop, (∀ H', Nx1 H' → ∃ k', k' < k ∧ W1 (j + 1) k' H') ∧ ∀ x H', J1.yld j H x H' → g1 x (wipe σ2 vs1) H' fun σ3 H5 => wipe σ3 vs1 = wipe σ2 vs1 ∧ tt1 σ3 H5 fun b H6 => if b = true then eSc w te D Nx1 σ3 H6 else Nx1 H6)
    else Nx H3)
section
variable {X : Cx}
abbrev BX (X : Cx) (scope : Scope) (J : Cx → Prop) : Prop := ∀ (s : Shared) (H : Hp) (C : Addr) (cl : List (PySem.Str × Addr)) (fp : List Addr), J (X.blk s H scope (compEnvC scope cl C X.env) fp)
/-- what the block knows where a set comprehension's loop begins -/
theorem sc_begin {pins : List (Addr × Obj)} {s2 : Shared} {σ : L2.St} {H2 : Hp} {scope : Scope} {own : List (PySem.Str × Nat)} {fp : List Addr} {tn : Nat → Heap → Prop} {D : Addr} {m : Model} {e : Prop}
    (hN : X.N.Nodup) (ok : BlkOk X.N X.env.scope scope own) (I2 : Inv X pins σ H2 s2) (f2 : ∀ b ∈ fp, FpOk X pins H2 b) (hob : ∀ b ∈ fp, ∃ o, s2.heap.get? b = some o) (hD : s2.heap.objs.size = D)
    (k : ∀ s3 H3 s4 cl, H3 = upd H2 D (SetLO X.w D []) → Inv X pins σ H3 s3 → (∀ b ∈ fp, FpOk X pins H3 b ∧ b < s3.heap.objs.size) → (∀ b o, s2.heap.get? b = some o → s4.heap.get? b = some o) →
      s3 = { s2 with heap := s2.heap.push (emptySet X.w) } → s4 = { s3 with heap := pushCells (s3.heap.push { cls := .type "dict", data := .dict #[] }) scope.names } → cl = cellsFrom (s3.heap.objs.size + 1) scope.names (cloFrom X.env.cells scope.names []) →
      Inv (X.blk s3 H3 scope (compEnvC scope cl s3.heap.objs.size X.env) fp) [] (wipe σ (own.map (·.2))) H3 s4 → e) : e := by
  have hnew : SetL X.w (s2.heap.push (emptySet X.w)) D [] := by
    rw [← hD]
    exact setL_fresh X.w
  have I3 : Inv X pins σ (upd H2 D (SetLO X.w D [])) { s2 with heap := s2.heap.push (emptySet X.w) } :=
    I2.laid (t' := s2.toks) (fun b o e => Heap.get?_push_of_some _ e) (Nat.le_of_eq hD) (setLO_ok hnew)
  have f3 : ∀ b ∈ fp, FpOk X pins (upd H2 D (SetLO X.w D [])) b ∧ b < (s2.heap.push (emptySet X.w)).objs.size := fun b hb => by
    obtain ⟨o, eo⟩ := hob b hb
    have hlt := Heap.lt_size eo
    refine ⟨⟨?_, (f2 b hb).2⟩, by rw [Heap.size_push]; exact Nat.lt_succ_of_lt hlt⟩
    rw [upd_ne (by rw [← hD]; exact Nat.ne_of_lt hlt)]
    exact (f2 b hb).1
  exact k _ _ _ _ rfl I3 f3 (fun b o q => pushCells_keeps _ _ _ _ (Heap.get?_push_of_some _ (Heap.get?_push_of_some _ q))) rfl rfl rfl (block_start I3 ok hN f3)
/-- the static part of a footprint within the block -/
theorem blk_stat {s3 : Shared} {H3 : Hp} {scope : Scope} {ce : Env} {fp : List Addr} {σ' : L2.St} {H' : Hp} {s' : Shared} (I' : Inv (X.blk s3 H3 scope ce fp) [] σ' H' s') (hn : ∀ b ∈ fp, H' b = none) : ∀ b ∈ fp, FpOk (X.blk s3 H3 scope ce fp) [] H' b := fun b hb =>
  ⟨hn b hb, (I'.ok.exf b hb).1, I'.ok.exfs b hb, .inl hb, fun x c e => (I'.ok.exf b hb).2 x c e, fun p hp => absurd (show p ∈ ([] : List (Addr × Obj)) ++ [] from hp) (by simp)⟩
theorem sc1_core {pins : List (Addr × Obj)} {s : Shared} {σ : L2.St} {H : Hp} {Q : VK} {elt tg iter : Expr} {ifs : List Expr} {scope : Scope} {own : List (PySem.Str × Nat)} {pos pos' : Pos} {wi : TI} {g : TG} {tt : TT} {te : TE} {use : Option (Value → Sem Unit)} {Qf : Value → Shared → Prop}
    (hc : X.calm = true) (hN : X.N.Nodup) (I : Inv X pins σ H s) (hi : PI X tg iter wi) (ok : BlkOk X.N X.env.scope scope own) (hg : BX X scope fun Y => PG Y tg g) (ht : BX X scope fun Y => PTs Y ifs tt) (he : BX X scope fun Y => PE Y elt te) (hs : ∀ x, foldedSetIterable iter X.env x = pure x)
    (h : tScL X.w wi g tt te (own.map (·.2)) σ H Q) (hRR : ∀ D C s' m H', Inv X pins σ H' s' → Q (.ref D) H' → s'.heap.Ns C m → FpOk X pins H' C → compPost (model X.prog X.w) X.A X.xe use Qf (.ref D) C (.ok .next) s') :
    wpAny (model X.prog X.w) X.A (comprehension (.SetComp elt [⟨tg, iter, ifs, 0⟩] scope pos) scope X.env pos' (newSet (.type "set")) false (eval iter X.env) use) Qf X.xe s := by
  have hfree : ∀ y ∈ scope.names, y.2 = .free → ∃ c, X.env.cells.lookup y.1 = some c := fun y hy e => (ok.free y hy e).elim (fun k => I.ok.has _ (.inl k)) fun k => I.ok.has _ (.inr k)
  refine wpAny_comprehension_free (use := use) rfl hs (closure_ok hfree) ok.kind (fun y hy e => by rw [ok.uniq y hy, e]) (thn (hi.run pins s σ H _ I h) fun xv s1 hx => thn hx fun itv s2 h2 => ?_)
  obtain ⟨it, fp, tn, J, H2, e, I2, T, st2, f2, q⟩ := h2
  subst e
  refine PpSet.newSet_ok (newEnv_comp ?_)
  obtain ⟨W, ⟨m0, w0⟩, turn⟩ := q _ (I2.hok.fresh (Nat.le_refl _))
  refine sc_begin (tn := tn) (m := model X.prog X.w) hN ok I2 f2 (fun b hb => let ⟨o, eo, _⟩ := T.obj _ _ st2 b hb; ⟨o, eo⟩) rfl fun s3 H3 s4 cl eH I3 f3 kp e3 e4 ec I4 => ?_
  have pg := hg s3 H3 s3.heap.objs.size cl fp
  have pt := ht s3 H3 s3.heap.objs.size cl fp
  have pe := he s3 H3 s3.heap.objs.size cl fp
  have st4 : tn 0 s4.heap := T.keep _ _ _ st2 fun b _ o e => kp b o e
  have nfp : ∀ b ∈ fp, H3 b = none := fun b hb => (f3 b hb).1.1
  rw [← eH] at w0
  generalize hD : s2.heap.objs.size = D at *
  suffices Z : codeAny (model X.prog X.w) X.A (.compLoop (.SetComp elt [⟨tg, iter, ifs, 0⟩] scope pos) 0 (.ref it) (.ref D) (compEnvC scope cl s3.heap.objs.size X.env)) (compPost (model X.prog X.w) X.A X.xe use Qf (.ref D) s3.heap.objs.size) s4 by
    have Y := PpSet.codeAny_compStart_set Z (T.self X.A 0 _ _ _ st4 Z)
    subst ec e4 e3
    exact Y
  have cL : (compEnvC scope cl s3.heap.objs.size X.env).locals = s3.heap.objs.size := rfl
  generalize compEnvC scope cl s3.heap.objs.size X.env = ce at I4 pg pt pe cL ⊢
  refine PpSet.compLoopS_any (fun n s' => ∃ i H', Inv (X.blk s3 H3 scope ce fp) [] (wipe σ (own.map (·.2))) H' s' ∧ tn i s'.heap ∧ (∀ b ∈ fp, H' b = none) ∧ W i n H') ?_ m0 ⟨0, H3, I4, st4, nfp, w0⟩
  rintro n s5 ⟨i, H5, I5, st5, n5, w5⟩
  rcases turn i n H5 w5 with ⟨stop, qq⟩ | ⟨go, Nx, hNx, step⟩
  · refine thnF (T.done (X.blk s3 H3 scope ce fp) rfl rfl rfl hc i [] s5 _ H5 (fun _ _ => False) I5 (blk_stat I5 n5) st5 stop) fun r s6 ⟨hr, I6⟩ => ?_
    subst hr
    have I7 : Inv X pins σ H5 s6 := I3.call' (ch := fp) I6.os I6.base I6.hok I6.bare fun b hb => ⟨(f3 b hb).1.2.2.2.1, (f3 b hb).1.2.1, (f3 b hb).1.2.2.2.2.1, (f3 b hb).1.2.2.2.2.2⟩
    have nC : H5 s3.heap.objs.size = none := cL ▸ (show H5 ce.locals = none from I6.free)
    obtain ⟨m, hn, _⟩ := I6.loc
    exact hRR D s3.heap.objs.size s6 m H5 I7 qq (cL ▸ (show s6.heap.Ns ce.locals m from hn)) (I3.fpOk (Nat.le_refl _) nC)
  · refine thnF (T.item (X.blk s3 H3 scope ce fp) rfl rfl rfl hc i [] s5 _ H5 (fun _ _ => False) I5 (blk_stat I5 n5) st5 go) fun r s6 ⟨u, hr, h6⟩ => ?_
    subst hr
    refine thnF h6 fun _ s7 ⟨x, H7, I7, r7, y7, st7, n7⟩ => ?_
    refine thnF (pg.run _ s7 _ H7 x u _ (I7.pinned (blk_stat I7 n7) (T.obj _ _ st7)) r7 (step x H7 y7)) fun _ s8 ⟨σ8, H8, I8, hw8, q8⟩ => ?_
    refine thnF (pt.run _ s8 σ8 H8 _ I8 q8) fun b s9 ⟨H9, I9, q9⟩ => ?_
    have fin : ∀ {s' : Shared} {H' : Hp}, Inv (X.blk s3 H3 scope ce fp) ([] ++ pinsAt fp s7.heap) σ8 H' s' → Nx H' → ∃ m, m < n ∧ ∃ i H', Inv (X.blk s3 H3 scope ce fp) [] (wipe σ (own.map (·.2))) H' s' ∧ tn i s'.heap ∧ (∀ b ∈ fp, H' b = none) ∧ W i m H' := fun {s' H'} I' nx => by
      obtain ⟨m', hm, w'⟩ := hNx H' nx
      have pin' : ∀ b ∈ fp, ∀ o, s7.heap.get? b = some o → s'.heap.get? b = some o ∧ H' b = none := fun b hb o e =>
        let z := I'.pin (b, o) (List.mem_append_right _ (List.mem_append_right _ (mem_pinsAt hb e)))
        ⟨z.1, z.2.1⟩
      refine ⟨m', hm, i + 1, H', (I'.unpinned (pins := [])).weak (by rw [← hw8, wipe_length]) (fun j v e => ?_), T.keep _ _ _ st7 fun b hb o e => (pin' b hb o e).1, fun b hb => ?_, w'⟩
      · rw [← hw8] at e
        exact (wipe_some e).1
      · obtain ⟨o, e, _⟩ := T.obj _ _ st7 b hb
        exact (pin' b hb o e).2
    cases b with
    | false =>
      rw [if_neg Bool.false_ne_true] at q9
      exact fin I9 q9
    | true =>
      rw [if_pos rfl] at q9
      refine thnF (pe.run _ s9 σ8 H9 _ I9 q9) fun z s10 ⟨yv, H10, I10, r10, c, l, ey, hD10, hz10, nx⟩ => ?_
      subst ey
      obtain ⟨tk, rfl⟩ := (show ∃ t, z = Value.str c t from r10)
      exact addL_ok (X := X.blk s3 H3 scope ce fp) I10 hD10 hz10 fun _ s11 I11 => fin I11 nx
theorem pe_scL {elt tg iter : Expr} {ifs : List Expr} {scope : Scope} {own : List (PySem.Str × Nat)} {pos : Pos} {wi : TI} {g : TG} {tt : TT} {te : TE} (hc : X.calm = true) (hN : X.N.Nodup) (hi : PI X tg iter wi) (ok : BlkOk X.N X.env.scope scope own)
    (hg : BX X scope fun Y => PG Y tg g) (ht : BX X scope fun Y => PTs Y ifs tt) (he : BX X scope fun Y => PE Y elt te) (hs : ∀ x, foldedSetIterable iter X.env x = pure x := by intro _; rfl) :
    PE X (.SetComp elt [⟨tg, iter, ifs, 0⟩] scope pos) (tScL X.w wi g tt te (own.map (·.2))) := by
  refine ⟨fun pins s σ H Q I h => ?_⟩
  rw [PpSet.eval_SetComp]
  refine sc1_core hc hN I hi ok hg ht he hs h fun D C s' m H' I' q hn f => ⟨m, hn, fun h'' sb => ?_⟩
  obtain ⟨f0, f1, f2, f3, f4, f5⟩ := f
  exact ⟨.ref D, H', I'.turned (t' := s'.toks) (fun b o hb e => (sb.2 b hb).trans e) f0 f1 f3 f4 f5, rfl, q⟩
end
end SW

set_option Elab.async false
set_option linter.all false
set_option maxRecDepth 100000
set_option maxHeartbeats 4000000
namespace SW
open PySem PySem.Spec PyProof.Rows L2
section
variable {X : Cx}
/-- a set comprehension of two fors -/
theorem sc2_core {pins : List (Addr × Obj)} {s : Shared} {σ : L2.St} {H : Hp} {Q : VK} {elt tg iter tg1 iter1 : Expr} {ifs ifs1 : List Expr} {scope : Scope} {own : List (PySem.Str × Nat)} {vs1 : List Nat} {pos pos' : Pos} {wi wi1 : TI} {g g1 : TG} {tt tt1 : TT} {te : TE} {use : Option (Value → Sem Unit)} {Qf : Value → Shared → Prop}
    (hc : X.calm = true) (hN : X.N.Nodup) (I : Inv X pins σ H s) (hi : PI X tg iter wi) (ok : BlkOk X.N X.env.scope scope own) (hv : ∀ i ∈ vs1, i ∈ own.map (·.2)) (hg : BX X scope fun Y => PG Y tg g) (ht : BX X scope fun Y => PTs Y ifs tt) (he : BX X scope fun Y => PE Y elt te) (hs : ∀ x, foldedSetIterable iter X.env x = pure x)
    (hi1 : BX X scope fun Y => PI Y tg1 iter1 wi1) (hg1 : BX X scope fun Y => PG Y tg1 g1) (ht1 : BX X scope fun Y => PTs Y ifs1 tt1) (hs1 : ∀ env x, foldedSetIterable iter1 env x = pure x)
    (h : tScL2 X.w wi g tt wi1 g1 tt1 te (own.map (·.2)) vs1 σ H Q) (hRR : ∀ D C s' m H', Inv X pins σ H' s' → Q (.ref D) H' → s'.heap.Ns C m → FpOk X pins H' C → compPost (model X.prog X.w) X.A X.xe use Qf (.ref D) C (.ok .next) s') :
    wpAny (model X.prog X.w) X.A (comprehension (SC2 elt tg iter tg1 iter1 ifs ifs1 scope pos) scope X.env pos' (newSet (.type "set")) false (eval iter X.env) use) Qf X.xe s := by
  have hfree : ∀ y ∈ scope.names, y.2 = .free → ∃ c, X.env.cells.lookup y.1 = some c := fun y hy e => (ok.free y hy e).elim (fun k => I.ok.has _ (.inl k)) fun k => I.ok.has _ (.inr k)
  refine wpAny_comprehension_free (use := use) rfl hs (closure_ok hfree) ok.kind (fun y hy e => by rw [ok.uniq y hy, e]) (thn (hi.run pins s σ H _ I h) fun xv s1 hx => thn hx fun itv s2 h2 => ?_)
  obtain ⟨it, fp, tn, J, H2, e, I2, T, st2, f2, q⟩ := h2
  subst e
  refine PpSet.newSet_ok (newEnv_comp ?_)
  obtain ⟨W, ⟨m0, w0⟩, turn⟩ := q _ (I2.hok.fresh (Nat.le_refl _))
  refine sc_begin (tn := tn) (m := model X.prog X.w) hN ok I2 f2 (fun b hb => let ⟨o, eo, _⟩ := T.obj _ _ st2 b hb; ⟨o, eo⟩) rfl fun s3 H3 s4 cl eH I3 f3 kp e3 e4 ec I4 => ?_
  have pg := hg s3 H3 s3.heap.objs.size cl fp
  have pt := ht s3 H3 s3.heap.objs.size cl fp
  have pe := he s3 H3 s3.heap.objs.size cl fp
  have pi1 := hi1 s3 H3 s3.heap.objs.size cl fp
  have pg1 := hg1 s3 H3 s3.heap.objs.size cl fp
  have pt1 := ht1 s3 H3 s3.heap.objs.size cl fp
  have st4 : tn 0 s4.heap := T.keep _ _ _ st2 fun b _ o e => kp b o e
  have nfp : ∀ b ∈ fp, H3 b = none := fun b hb => (f3 b hb).1.1
  rw [← eH] at w0
  generalize hD : s2.heap.objs.size = D at *
  suffices Z : codeAny (model X.prog X.w) X.A (.compLoop (SC2 elt tg iter tg1 iter1 ifs ifs1 scope pos) 0 (.ref it) (.ref D) (compEnvC scope cl s3.heap.objs.size X.env)) (compPost (model X.prog X.w) X.A X.xe use Qf (.ref D) s3.heap.objs.size) s4 by
    have Y := PpSet.codeAny_compStart_set Z (T.self X.A 0 _ _ _ st4 Z)
    subst ec e4 e3
    exact Y
  have cL : (compEnvC scope cl s3.heap.objs.size X.env).locals = s3.heap.objs.size := rfl
  generalize compEnvC scope cl s3.heap.objs.size X.env = ce at I4 pg pt pe pi1 pg1 pt1 cL ⊢
  refine sc2_loop0 (hs1 ce) (fun n s' => ∃ i H', Inv (X.blk s3 H3 scope ce fp) [] (wipe σ (own.map (·.2))) H' s' ∧ tn i s'.heap ∧ (∀ b ∈ fp, H' b = none) ∧ W i n H') ?_ m0 ⟨0, H3, I4, st4, nfp, w0⟩
  rintro n s5 ⟨i, H5, I5, st5, n5, w5⟩
  rcases turn i n H5 w5 with ⟨stop, qq⟩ | ⟨go, Nx, hNx, step⟩
  · refine thnF (T.done (X.blk s3 H3 scope ce fp) rfl rfl rfl hc i [] s5 _ H5 (fun _ _ => False) I5 (blk_stat I5 n5) st5 stop) fun r s6 ⟨hr, I6⟩ => ?_
    subst hr
    have I7 : Inv X pins σ H5 s6 := I3.call' (ch := fp) I6.os I6.base I6.hok I6.bare fun b hb => ⟨(f3 b hb).1.2.2.2.1, (f3 b hb).1.2.1, (f3 b hb).1.2.2.2.2.1, (f3 b hb).1.2.2.2.2.2⟩
    have nC : H5 s3.heap.objs.size = none := cL ▸ (show H5 ce.locals = none from I6.free)
    obtain ⟨m, hn, _⟩ := I6.loc
    exact hRR D s3.heap.objs.size s6 m H5 I7 qq (cL ▸ (show s6.heap.Ns ce.locals m from hn)) (I3.fpOk (Nat.le_refl _) nC)
  · refine thnF (T.item (X.blk s3 H3 scope ce fp) rfl rfl rfl hc i [] s5 _ H5 (fun _ _ => False) I5 (blk_stat I5 n5) st5 go) fun r s6 ⟨u, hr, h6⟩ => ?_
    subst hr
    refine thnF h6 fun _ s7 ⟨x, H7, I7, r7, y7, st7, n7⟩ => ?_
    refine thnF (pg.run _ s7 _ H7 x u _ (I7.pinned (blk_stat I7 n7) (T.obj _ _ st7)) r7 (step x H7 y7)) fun _ s8 ⟨σ8, H8, I8, hw8, q8⟩ => ?_
    refine thnF (pt.run _ s8 σ8 H8 _ I8 q8) fun b s9 ⟨H9, I9, q9⟩ => ?_
    have fin : ∀ {σ9 : L2.St} {s' : Shared} {H' : Hp}, Inv (X.blk s3 H3 scope ce fp) ([] ++ pinsAt fp s7.heap) σ9 H' s' → (wipe σ (own.map (·.2))).length = σ9.length → (∀ (j : Nat) v, (wipe σ (own.map (·.2)))[j]? = some (some v) → σ9[j]? = some (some v)) → Nx H' →
        ∃ m, m < n ∧ ∃ i H', Inv (X.blk s3 H3 scope ce fp) [] (wipe σ (own.map (·.2))) H' s' ∧ tn i s'.heap ∧ (∀ b ∈ fp, H' b = none) ∧ W i m H' := fun {σ9 s' H'} I' hl hk nx => by
      obtain ⟨m', hm, w'⟩ := hNx H' nx
      have pin' : ∀ b ∈ fp, ∀ o, s7.heap.get? b = some o → s'.heap.get? b = some o ∧ H' b = none := fun b hb o e =>
        let z := I'.pin (b, o) (List.mem_append_right _ (List.mem_append_right _ (mem_pinsAt hb e)))
        ⟨z.1, z.2.1⟩
      refine ⟨m', hm, i + 1, H', (I'.unpinned (pins := [])).weak hl hk, T.keep _ _ _ st7 fun b hb o e => (pin' b hb o e).1, fun b hb => ?_, w'⟩
      obtain ⟨o, e, _⟩ := T.obj _ _ st7 b hb
      exact (pin' b hb o e).2
    have hl8 : (wipe σ (own.map (·.2))).length = σ8.length := by rw [← hw8, wipe_length]
    have hk8 : ∀ (j : Nat) v, (wipe σ (own.map (·.2)))[j]? = some (some v) → σ8[j]? = some (some v) ∧ j ∉ own.map (·.2) := fun j v e => by
      rw [← hw8] at e
      exact wipe_some e
    have hk9 : ∀ (j : Nat) v, (wipe σ (own.map (·.2)))[j]? = some (some v) → (wipe σ8 vs1)[j]? = some (some v) := fun j v e => by
      obtain ⟨a, b⟩ := hk8 j v e
      rw [wipe_out fun z => b (hv j z)]
      exact a
    cases b with
    | false =>
      rw [if_neg Bool.false_ne_true] at q9
      exact fin I9 hl8 (fun j v e => (hk8 j v e).1) q9
    | true =>
      rw [if_pos rfl] at q9
      refine thnF (pi1.run _ s9 σ8 H9 _ I9 q9) fun xv s10 hx => thnF hx fun itv s11 h11 => ?_
      obtain ⟨it1, fp1, tn1, J1, H11, e1, I11, T1, st11, f11, W1, ⟨m1, w1⟩, turn1⟩ := h11
      subst e1
      have stat1 : ∀ {H' : Hp}, (∀ b ∈ fp1, H' b = none) → ∀ b ∈ fp1, FpOk (X.blk s3 H3 scope ce fp) ([] ++ pinsAt fp s7.heap) H' b := fun hn b hb => ⟨hn b hb, (f11 b hb).2⟩
      suffices Z : codeAny (model X.prog X.w) X.A (.compLoop (SC2 elt tg iter tg1 iter1 ifs ifs1 scope pos) 1 (.ref it1) (.ref D) ce) (fun r s' => match r with
          | .ok _ => ∃ m, m < n ∧ ∃ i H', Inv (X.blk s3 H3 scope ce fp) [] (wipe σ (own.map (·.2))) H' s' ∧ tn i s'.heap ∧ (∀ b ∈ fp, H' b = none) ∧ W i m H'
          | .error _ => False) s11 from sc2_start1 Z (T1.self X.A 0 _ _ _ st11 Z)
      refine sc2_loop1 (fun k s' => ∃ j H', Inv (X.blk s3 H3 scope ce fp) ([] ++ pinsAt fp s7.heap) (wipe σ8 vs1) H' s' ∧ tn1 j s'.heap ∧ (∀ b ∈ fp1, H' b = none) ∧ W1 j k H') ?_ m1 ⟨0, H11, I11.weak (wipe_length _ _) (fun j v e => (wipe_some e).1), st11, fun b hb => (f11 b hb).1, w1⟩
      rintro k s12 ⟨j, H12, I12, st12, n12, w12⟩
      rcases turn1 j k H12 w12 with ⟨stop1, nx1⟩ | ⟨go1, Nx1, hNx1, step1⟩
      · refine thnF (T1.done (X.blk s3 H3 scope ce fp) rfl rfl rfl hc j _ s12 (wipe σ8 vs1) H12 (fun _ _ => False) I12 (stat1 n12) st12 stop1) fun r s13 ⟨hr, I13⟩ => ?_
        subst hr
        exact fin I13 (hl8.trans (wipe_length σ8 vs1).symm) hk9 nx1
      · refine thnF (T1.item (X.blk s3 H3 scope ce fp) rfl rfl rfl hc j _ s12 (wipe σ8 vs1) H12 (fun _ _ => False) I12 (stat1 n12) st12 go1) fun r s13 ⟨u1, hr, h13⟩ => ?_
        subst hr
        refine thnF h13 fun _ s14 ⟨x1, H14, I14, r14, y14, st14, n14⟩ => ?_
        refine thnF (pg1.run _ s14 (wipe σ8 vs1) H14 x1 u1 _ (I14.pinned (stat1 n14) (T1.obj _ _ st14)) r14 (step1 x1 H14 y14)) fun _ s15 ⟨σ15, H15, I15, hw15, q15⟩ => ?_
        refine thnF (pt1.run _ s15 σ15 H15 _ I15 q15) fun b1 s16 ⟨H16, I16, q16⟩ => ?_
        have fin1 : ∀ {s' : Shared} {H' : Hp}, Inv (X.blk s3 H3 scope ce fp) (([] ++ pinsAt fp s7.heap) ++ pinsAt fp1 s14.heap) σ15 H' s' → Nx1 H' → ∃ m, m < k ∧ ∃ j H', Inv (X.blk s3 H3 scope ce fp) ([] ++ pinsAt fp s7.heap) (wipe σ8 vs1) H' s' ∧ tn1 j s'.heap ∧ (∀ b ∈ fp1, H' b = none) ∧ W1 j m H' := fun {s' H'} I' nx => by
          obtain ⟨m', hm, w'⟩ := hNx1 H' nx
          have pin' : ∀ b ∈ fp1, ∀ o, s14.heap.get? b = some o → s'.heap.get? b = some o ∧ H' b = none := fun b hb o e =>
            let z := I'.pin (b, o) (List.mem_append_right _ (List.mem_append_right _ (mem_pinsAt hb e)))
            ⟨z.1, z.2.1⟩
          refine ⟨m', hm, j + 1, H', I'.unpinned.weak (by rw [← hw15, wipe_length]) (fun j v e => by rw [← hw15] at e; exact (wipe_some e).1), T1.keep _ _ _ st14 fun b hb o e => (pin' b hb o e).1, fun b hb => ?_, w'⟩
          obtain ⟨o, e, _⟩ := T1.obj _ _ st14 b hb
          exact (pin' b hb o e).2
        cases b1 with
        | false =>
          rw [if_neg Bool.false_ne_true] at q16
          exact fin1 I16 q16
        | true =>
          rw [if_pos rfl] at q16
          refine thnF (pe.run _ s16 σ15 H16 _ I16 q16) fun z s17 ⟨yv, H17, I17, r17, c, l, ey, hD17, hz17, nx⟩ => ?_
          subst ey
          obtain ⟨tk, rfl⟩ := (show ∃ t, z = Value.str c t from r17)
          exact addL_ok (X := X.blk s3 H3 scope ce fp) I17 hD17 hz17 fun _ s18 I18 => fin1 I18 nx
theorem pe_scL2 {elt tg iter tg1 iter1 : Expr} {ifs ifs1 : List Expr} {scope : Scope} {own : List (PySem.Str × Nat)} {vs1 : List Nat} {pos : Pos} {wi wi1 : TI} {g g1 : TG} {tt tt1 : TT} {te : TE} (hc : X.calm = true) (hN : X.N.Nodup) (hi : PI X tg iter wi) (ok : BlkOk X.N X.env.scope scope own) (hv : ∀ i ∈ vs1, i ∈ own.map (·.2))
    (hg : BX X scope fun Y => PG Y tg g) (ht : BX X scope fun Y => PTs Y ifs tt) (hi1 : BX X scope fun Y => PI Y tg1 iter1 wi1) (hg1 : BX X scope fun Y => PG Y tg1 g1) (ht1 : BX X scope fun Y => PTs Y ifs1 tt1) (he : BX X scope fun Y => PE Y elt te)
    (hs : ∀ x, foldedSetIterable iter X.env x = pure x := by intro _; rfl) (hs1 : ∀ env x, foldedSetIterable iter1 env x = pure x := by intro _ _; rfl) :
    PE X (SC2 elt tg iter tg1 iter1 ifs ifs1 scope pos) (tScL2 X.w wi g tt wi1 g1 tt1 te (own.map (·.2)) vs1) := by
  refine ⟨fun pins s σ H Q I h => ?_⟩
  rw [PpSet.eval_SetComp]
  refine sc2_core hc hN I hi ok hv hg ht he hs hi1 hg1 ht1 hs1 h fun D C s' m H' I' q hn f => ⟨m, hn, fun h'' sb => ?_⟩
  obtain ⟨f0, f1, f2, f3, f4, f5⟩ := f
  exact ⟨.ref D, H', I'.turned (t' := s'.toks) (fun b o hb e => (sb.2 b hb).trans e) f0 f1 f3 f4 f5, rfl, q⟩
end
/-! ### a display of two texts -/
theorem setL_put {P : Program} {w : World} {A : Around} {E : Value → Shared → Prop} {s : Shared} {a : Addr} {l : List Str} {k : Str} {tk : Tok} {Q : Bool → Shared → Prop} (R : SetL w s.heap a l) (room : l.length + 1 < scanBound)
    (hQ : ∀ b h' t', Heap.SameBut a s.heap h' → SetL w h' a (insS l k) → Q b { s with heap := h', toks := t' }) : wpAny (model P w) A (setAdd a (.str k tk)) Q E s := by
  unfold setAdd
  refine wpAny_holding (wpAny_bind ((strKind P w).pyHash (strKind_is P w k tk) ?_))
  exact setL_add_hashed (s := { s with toks := s.toks + 1 }) R room fun b h' sb r => hQ b h' _ sb r
theorem kdsCode_of {K : PySem.W.Frag} {cdv : Value} {q : PySem.Str} (h : PySem.W.codeIn K cdv q = true) : PySem.W.kdsCode K cdv = true := by
  unfold PySem.W.codeIn at h
  unfold PySem.W.kdsCode
  split at h
  · split at h
    · rename_i e
      simp only [e]
    · cases h
  · cases h
/-- {a, b}, two texts -/
def tSetD (w : World) (ta tb : TE) : TE := fun σ H Q => ∀ D, H D = none → ta σ (upd H D (SetLO w D [])) fun x H1 => tb σ H1 fun y H2 => ∃ a b, x = .str a ∧ y = .str b ∧ H2 D = some (SetLO w D []) ∧ ∀ l, l = insS (insS [] a) b → Q (.ref D) (upd (upd H2 D (SetLO w D (insS [] a))) D (SetLO w D l))
section
variable {X : Cx}
theorem pe_setD {e1 e2 : Expr} {ta tb : TE} {pos : Pos} (hcode : PySem.W.kdsCode X.K X.env.code = true) (h1 : PE X e1 ta) (h2 : PE X e2 tb) (hp : [e1, e2].all PySem.W.kdsPlain = true := by rfl) : PE X (.Set [e1, e2] 0 pos) (tSetD X.w ta tb) := by
  refine ⟨fun pins s σ H Q I h => ?_⟩
  rw [arm_eval_Set]
  refine wpAny_bind (wpAny_standAt ?_)
  refine wpAny_bind (PySem.W.kds_main I.kIn hcode fun b => ?_)
  rw [PySem.W.kds_star _ hp, List.map_map]
  have hroad : displayRoad 0 [e1, e2] = .oneByOne := rfl
  rw [hroad]
  unfold setDisplay
  try dsimp only
  rw [if_neg (by decide)]
  refine wpAny_bind (PpSet.newSet_ok ?_)
  have q0 := h _ (I.hok.fresh (Nat.le_refl s.heap.objs.size))
  have I1 : Inv X pins σ (upd H s.heap.objs.size (SetLO X.w s.heap.objs.size [])) { s with heap := s.heap.push (emptySet X.w) } :=
    I.laid (t' := s.toks) (fun b o e => Heap.get?_push_of_some _ e) (Nat.le_refl _) (setLO_ok (setL_fresh X.w))
  generalize s.heap.objs.size = D at q0 I1 ⊢
  generalize hs1 : ({ s with heap := s.heap.push (emptySet X.w) } : Shared) = s1 at I1
  dsimp only
  refine wpAny_bind (wpAny_holding ?_)
  show wpAny _ _ (evalAll [(eval e1 X.env >>= fun v => standAt pos >>= fun _ => pure v), (eval e2 X.env >>= fun v => standAt pos >>= fun _ => pure v)] >>= _) _ _ s1
  refine wpAny_bind ?_
  show wpAny _ _ ((eval e1 X.env >>= fun v => standAt pos >>= fun _ => pure v) >>= fun v => holding [v] (evalAll [(eval e2 X.env >>= fun v => standAt pos >>= fun _ => pure v)]) >>= fun r => pure (v :: r)) _ _ s1
  refine wpAny_bind (wpAny_bind (thn (h1.run pins s1 σ _ _ I1 q0) fun v s2 ⟨x, H1, I2, r1, q1⟩ => wpAny_bind (wpAny_standAt (wpAny_pure ?_))))
  refine wpAny_bind (wpAny_holding ?_)
  show wpAny _ _ ((eval e2 X.env >>= fun v => standAt pos >>= fun _ => pure v) >>= fun v => holding [v] (evalAll []) >>= fun r => pure (v :: r)) _ _ s2
  refine wpAny_bind (wpAny_bind (thn (h2.run pins s2 σ _ _ I2 q1) fun v2 s3 ⟨y, H2, I3, r2, q2⟩ => wpAny_bind (wpAny_standAt (wpAny_pure ?_))))
  refine wpAny_bind (wpAny_holding (wpAny_pure (wpAny_pure (wpAny_pure ?_))))
  obtain ⟨a, b', rfl, rfl, hD, q⟩ := q2
  obtain ⟨ta', rfl⟩ := (show ∃ t, v = Value.str a t from r1)
  obtain ⟨tb', rfl⟩ := (show ∃ t, v2 = Value.str b' t from r2)
  have wr : ∀ {H' : Hp} {s' : Shared} {l l' : List Str} {h' : Heap} {t' : Nat}, Inv X pins σ H' s' → H' D = some (SetLO X.w D l) → Heap.SameBut D s'.heap h' → SetL X.w h' D l' → Inv X pins σ (upd H' D (SetLO X.w D l')) { s' with heap := h', toks := t' } := fun {H' s' l l' h' t'} J hJ sb R => by
    have he : ∃ u, h'.get? D = some u := by
      have ⟨o, _, _, _, ho, _⟩ := R
      exact ⟨o, ho⟩
    exact J.write (e := D) (t' := t') (by rw [hJ]; trivial) (.inl rfl) (fun b u hb hu => (sb.2 b hb).trans hu) he (setLO_ok R)
  refine wpAny_bind (wpAny_holding ?_)
  rw [List.forIn_cons]
  refine wpAny_bind (wpAny_bind (wpAny_bind (setL_put (setLO_get I3 hD) (by decide) fun b1 h1' t1 sb1 R1 => wpAny_pure ?_)))
  have I4 := wr (t' := t1) I3 hD sb1 R1
  have hz : (insS [] a).length + 1 < scanBound := Nat.lt_of_le_of_lt (Nat.succ_le_succ (insS_len (l := []) (k := a))) (by decide)
  dsimp only
  rw [List.forIn_cons]
  refine wpAny_bind (wpAny_bind (setL_put (setLO_get I4 upd_same) hz fun b2 h2' t2 sb2 R2 => wpAny_pure ?_))
  have I5 := wr (t' := t2) I4 upd_same sb2 R2
  dsimp only
  rw [List.forIn_nil]
  refine wpAny_pure ?_
  rw [if_neg (show ¬ ((DisplayRoad.oneByOne == DisplayRoad.unsure) = true) from by decide)]
  refine wpAny_pure ?_
  show wpAny _ _ (forIn ([] : List (Bool × Sem Value)) PUnit.unit _ >>= _) _ _ _
  rw [List.forIn_nil]
  exact wpAny_bind (wpAny_pure (wpAny_pure (wpAny_pure ⟨.ref D, _, I5, rfl, q _ rfl⟩)))
end
end SW

set_option Elab.async false
set_option linter.all false
set_option maxRecDepth 100000
set_option maxHeartbeats 4000000
/-! ### max(xs, default=d) over a list of ints -/
namespace SW
open PySem PySem.Spec PyProof.Rows L2
section
variable {prog : Program} {w : World} {A : Around} {R : Result → Shared → Prop} {I S : Addr} {fp wr : List Addr} {n : Nat} {Fp : Nat → Value → Prop} {St : Nat → Heap → Prop}
abbrev dk (d : Value) : List (Str × Value) := [(Str.ofString "default", d)]
abbrev lobj (vs : Array Value) (c : Nat) : Obj := { cls := .type "list", dict := none, data := .seq vs c, slots := #[] }
theorem maxD_loop {d : Value} (W : Walks prog w A.in1 I fp wr n Fp St) (bt : Nat → Nat → Bool) (hcmp : CmpOf prog w A.in1 .Gt Fp bt) (hSf : S ∉ fp) :
    ∀ (k j : Nat) (s : Shared) (vb : Value) (c : Nat), n - (j + 1) = k → j + 1 ≤ n → St (j + 1) s.heap → Fp (argBest bt j) vb → s.heap.get? S = some (lobj #[vb, vb] c) →
    (∀ v h' tk, Fp (argBest bt (n - 1)) v → (∀ b o, b ∉ wr → b ≠ S → s.heap.get? b = some o → h'.get? b = some o) → R (.ok (.ret v)) { s with heap := h', toks := tk }) →
    codeAny (model prog w) A (.builtin "max.loop" ⟨[.ref I, .none, .ref S], dk d⟩) R s := by
  have hSw : S ∉ wr := fun h => hSf (W.sub _ h)
  have hname : (toString "max" ++ toString ".loop" : String) = "max.loop" := by decide
  have other : ∀ {f : Obj → Obj} {h : Heap} {b : Addr} {o : Obj}, b ≠ S → h.get? b = some o → (h.update S f).get? b = some o := fun hb e => (Heap.get?_update_other _ _ (Ne.symm hb)).trans e
  have nS : ∀ b ∈ fp, b ≠ S := fun b hb e => hSf (e ▸ hb)
  intro k
  induction k with
  | zero =>
    intro j s vb c hk hj hst hPb hS hR
    have hin : j + 1 = n := by omega
    refine codeAny_builtin F.entry_max_loop ?_
    rw [Around.under_plainId F.plain_max_loop _]
    refine wpAny_bind (wpAny_seqItems hS rfl ?_)
    refine wpAny_bind (wpAny_tryCatch (W.done s _ _ (hin ▸ hst) fun h' tk kp => ?_))
    refine wpAny_bind (m := updateSeq S fun _ => #[]) (wpAny_updateSeq (kp S _ hSw hS) rfl (wpAny_bind (wpAny_letGo (wpAny_pure ?_))))
    exact hR vb _ tk (by rw [← hin]; exact hPb) fun b o hbw hbS e => other hbS (kp b o hbw e)
  | succ k ih =>
    intro j s vb c hk hj hst hPb hS hR
    have hlt : j + 1 < n := by omega
    refine codeAny_builtin F.entry_max_loop ?_
    rw [Around.under_plainId F.plain_max_loop _]
    refine wpAny_bind (wpAny_seqItems hS rfl ?_)
    refine wpAny_bind (wpAny_tryCatch (W.item (j + 1) s _ _ hlt hst fun v h' tk hP hst' kp => ?_))
    have hS' := kp S _ hSw hS
    refine wpAny_bind (m := tryCatch (holding [v, v] (richCompare .Gt v vb >>= _)) _) (wpAny_tryCatch (wpAny_holding (wpAny_bind (hcmp (j + 1) (argBest bt j) v vb _ _ _ hP hPb ?_))))
    refine wpAny_bind (wpAny_holding (wpAny_truthy_bool ?_))
    refine wpAny_bind (wpAny_letGo (wpAny_pure ?_))
    cases hb : bt (j + 1) (argBest bt j) with
    | true =>
      simp only [if_true]
      refine wpAny_bind (wpAny_updateSeq hS' rfl (wpAny_bind (wpAny_letGo ?_)))
      rw [hname]
      refine wpAny_pure ⟨plainId_quiet F.plain_max_loop _, ih (j + 1) _ v _ (by omega) hlt (W.frame _ _ _ hst' fun b hbf o e => other (nS b hbf) e) (by simp only [argBest, hb, if_true]; exact hP) (Heap.get?_update_self _ hS' rfl)
        fun v' h2 tk2 hP2 k2 => hR v' h2 tk2 hP2 fun b o hbw hbS e => k2 b o hbw hbS (other hbS (kp b o hbw e))⟩
    | false =>
      simp only [Bool.false_eq_true, if_false]
      refine wpAny_bind (wpAny_letGo ?_)
      rw [hname]
      exact wpAny_pure ⟨plainId_quiet F.plain_max_loop _, ih (j + 1) _ vb c (by omega) hlt hst' (by simp only [argBest, hb, Bool.false_eq_true, if_false]; exact hPb) hS' fun v' h2 tk2 hP2 k2 => hR v' h2 tk2 hP2 fun b o hbw hbS e => k2 b o hbw hbS (kp b o hbw e)⟩
theorem maxD_first {d : Value} (W : Walks prog w A.in1 I fp wr n Fp St) (bt : Nat → Nat → Bool) (hcmp : CmpOf prog w A.in1 .Gt Fp bt) (hSf : S ∉ fp) {s : Shared} {c : Nat} (hst : St 0 s.heap) (hS : s.heap.get? S = some (lobj #[] c))
    (hR : 0 < n → ∀ v h' tk, Fp (argBest bt (n - 1)) v → (∀ b o, b ∉ wr → b ≠ S → s.heap.get? b = some o → h'.get? b = some o) → R (.ok (.ret v)) { s with heap := h', toks := tk })
    (h0 : n = 0 → ∀ h' tk, (∀ b o, b ∉ wr → s.heap.get? b = some o → h'.get? b = some o) → R (.ok (.ret d)) { s with heap := h', toks := tk }) :
    codeAny (model prog w) A (.builtin "max.loop" ⟨[.ref I, .none, .ref S], dk d⟩) R s := by
  have hSw : S ∉ wr := fun h => hSf (W.sub _ h)
  have hname : (toString "max" ++ toString ".loop" : String) = "max.loop" := by decide
  refine codeAny_builtin F.entry_max_loop ?_
  rw [Around.under_plainId F.plain_max_loop _]
  refine wpAny_bind (wpAny_seqItems hS rfl ?_)
  rcases Nat.eq_zero_or_pos n with hn | hn
  · refine wpAny_bind (wpAny_tryCatch (W.done s _ _ (hn ▸ hst) fun h' tk kp => ?_))
    refine wpAny_bind (wpAny_rule (wpAny_pure ?_))
    exact h0 hn _ tk kp
  · refine wpAny_bind (wpAny_tryCatch (W.item 0 s _ _ hn hst fun v h' tk hP hst' kp => ?_))
    have hS' := kp S _ hSw hS
    refine wpAny_bind (m := updateSeq S fun _ => #[v, v]) (wpAny_updateSeq hS' rfl ?_)
    rw [hname]
    refine wpAny_pure ⟨plainId_quiet F.plain_max_loop _, maxD_loop W bt hcmp hSf _ 0 _ v _ rfl hn (W.frame _ _ _ hst' fun b hbf o e => (Heap.get?_update_other _ _ (fun z : S = b => hSf (z ▸ hbf))).trans e) hP (Heap.get?_update_self _ hS' rfl) fun v' h2 tk2 hP2 k2 => ?_⟩
    exact hR hn v' h2 tk2 hP2 fun b o hbw hbS e => k2 b o hbw hbS ((Heap.get?_update_other _ _ (Ne.symm hbS)).trans (kp b o hbw e))
end
theorem args_maxD (a d : Value) : argsOk "max" ⟨[a], dk d⟩ := by unfold argsOk; kernel_rfl
section
variable {prog : Program} {w : World} {A : Around} {E : Value → Shared → Prop} {s : Shared} {l : Addr} {its : List Value} {ns : List Int}
theorem max_int_D {d : Value} {xs : Array (Int × Tok)} {Q : Value → Shared → Prop} (hh : A.handled = none) (hl : s.heap.IsList l (intItems xs))
    (h : 0 < xs.size → ∀ v h' tk, (intItems xs)[argBest (fun i j => decide (numAt xs i > numAt xs j)) (xs.size - 1)]? = some v → (∀ b o, s.heap.get? b = some o → h'.get? b = some o) → Q v { s with heap := h', toks := tk })
    (h0 : xs.size = 0 → ∀ h' tk, (∀ b o, s.heap.get? b = some o → h'.get? b = some o) → Q d { s with heap := h', toks := tk }) :
    wpAny (model prog w) A (call (.builtin "max") [.ref l] (dk d)) Q E s := by
  have hname : (toString "max" ++ toString ".loop" : String) = "max.loop" := by decide
  refine kmk_tree F.kind_max F.plain_max F.entry_max (args_maxD _ _) ?_
  show wpAny _ A.in1 (Builtin.Builtins.bindParams "max" ["key", "default"] 0 ⟨[], dk d⟩ >>= _) _ _ s
  refine wpAny_bind (wpAny_of_eq (show Builtin.Builtins.bindParams "max" ["key", "default"] 0 ⟨[], dk d⟩ = pure [none, some d] from rfl) ?_)
  refine wpAny_bind (wpAny_pure ?_)
  refine wpAny_bind (iter_intList hl fun s₂ e st hfp hlI => ?_)
  subst e
  refine wpAny_bind (wpAny_newObj_type ?_)
  rw [hname]
  have W := Walks.list (prog := prog) (w := w) (A := A.in1) hh _ l hlI (intItems xs)
  have hSf : (s.heap.push { cls := .type "list_iterator", data := .fields #[.ref l, .int 0 0] }).objs.size ∉ [s.heap.objs.size, l] := fun hm => Nat.lt_irrefl _ (hfp _ hm)
  have hsz : (intItems xs).size = xs.size := by simp [intItems]
  refine wpAny_pure ⟨plainId_quiet F.plain_max_loop _, maxD_first W (fun i j => decide (numAt xs i > numAt xs j)) (CmpOf.ints_gt (numAt xs) (fun _ _ => intItems_at)) hSf (W.frame _ _ _ st fun b _ o e => Heap.get?_push_of_some _ e) (Heap.get?_push_size _ rfl)
    (fun hn v h' tk hP k => ?_) fun hn h' tk k => ?_⟩
  · refine h (by rw [← hsz]; exact hn) v h' tk (by rw [← hsz]; exact hP) fun b o e => k b o (fun hm => ?_) ?_ (Heap.get?_push_of_some _ (Heap.get?_push_of_some _ e))
    · have := Heap.lt_size e
      rw [List.mem_singleton.mp hm] at this
      exact Nat.lt_irrefl _ this
    · exact Nat.ne_of_lt (Heap.lt_size (Heap.get?_push_of_some _ e))
  · refine h0 (by rw [← hsz]; exact hn) h' tk fun b o e => k b o (fun hm => ?_) (Heap.get?_push_of_some _ (Heap.get?_push_of_some _ e))
    have := Heap.lt_size e
    rw [List.mem_singleton.mp hm] at this
    exact Nat.lt_irrefl _ this
/-- the greatest, or d -/
def topD (d : Int) (ns : List Int) (m : Int) : Prop := (ns = [] ∧ m = d) ∨ (m ∈ ns ∧ ∀ y ∈ ns, y ≤ m)
theorem maxD_raw {d : Int} {td : Tok} {Q : Value → Shared → Prop} (hh : A.handled = none) (hl : s.heap.IsList l its.toArray) (hi : IntsAre its ns)
    (h : ∀ h' tk m t', (∀ b o, s.heap.get? b = some o → h'.get? b = some o) → topD d ns m → Q (.int m t') { s with heap := h', toks := tk }) : wpAny (model prog w) A (call (.builtin "max") [.ref l] (dk (.int d td))) Q E s := by
  obtain ⟨xs, e⟩ := hi.allInts.items
  have hn : numsOf (intItems xs).toList = ns := by rw [← e]; exact hi.numsOf
  rw [nums_intItems] at hn
  subst hn
  rw [e] at hl
  refine max_int_D hh hl (fun hsz v h' tk hv hk => ?_) fun hsz h' tk hk => ?_
  · obtain ⟨t, rfl⟩ := intItems_at hv
    obtain ⟨h1, h2⟩ := argBest_gt (numAt xs) (xs.size - 1)
    refine h h' tk _ t hk (.inr ⟨?_, fun a ha => ?_⟩)
    · rw [numAt_eq]; exact PySem.getD_mem (by rw [List.length_map, Array.length_toList]; omega)
    · obtain ⟨j, hj, rfl⟩ := mem_getD ha
      rw [List.length_map, Array.length_toList] at hj
      rw [← numAt_eq]; exact h2 j (by omega)
  · refine h h' tk d td hk (.inl ⟨?_, rfl⟩)
    have : xs.toList = [] := by
      apply List.eq_nil_of_length_eq_zero
      rw [Array.length_toList]; exact hsz
    rw [this]; rfl
end
def tMaxD (K : PySem.W.Frag) (d : Int) (t : TE) : TE := fun σ H Q => t σ H fun x H1 => ∃ a ns, x = .ref a ∧ SqL K H1 a (ns.map V.int) ∧ ∀ m, topD d ns m → Q (.int m) H1
/-- max(xs, default=d) -/
theorem pe_maxD {X : Cx} {e : Expr} {t : TE} {d : Int} {k : Nat} {kp cp p pos : Pos} (hc : X.calm = true) (hg : Gl X "max") (hm : X.mg "max" = none) (he : PE X e t) (hs : starEach [e] X.env = (false, eval e X.env) :: starEach [] X.env := by rfl) :
    PE X (.Call (.Name "max" p) [e] [⟨some "default", .Constant (.int d) k cp, kp⟩] pos) (tMaxD X.K d t) := by
  refine ⟨fun pins s σ H Q I h => ?_⟩
  refine wpAny_Call_Name_kw (ld_blt I hg hm boot_max ?_ (by decide) (by decide))
  have hb : backTo pos (starEach [e] X.env) = (false, eval e X.env) :: backTo pos (starEach [] X.env) := by rw [hs]; rfl
  refine callWith_kw ?_ hb (by rw [hb]; rfl) rfl rfl
  rw [hb]
  refine Calls.spliced_cons (thn (he.run pins s σ H _ I h) fun v s1 ⟨x, H1, I1, r1, a, ns, ex, hl, q⟩ => Calls.spliced_nil ?_)
  subst ex
  obtain rfl : v = Value.ref a := r1
  have hd : PE X (.Constant (.int d) k cp) (tC (.int d)) := pe_int
  refine kws_cons (thn (hd.run pins s1 σ H1 (fun y H2 => y = .int d ∧ H2 = H1) I1 ⟨rfl, rfl⟩) fun u s2 ⟨y, H2, I2, r2, ey, eH⟩ => kws_nil ?_)
  subst ey eH
  obtain ⟨td, rfl⟩ := (show ∃ t, u = Value.int d t from r2)
  obtain ⟨its, rv, hl2, _⟩ := I2.list hl
  refine maxD_raw (I2.ok.hd hc) hl2.isList rv.ints fun h' tk m t' hk tp => ⟨.int m, _, I2.kept hk, ⟨_, rfl⟩, q m tp⟩
end SW

set_option Elab.async false
set_option linter.all false
set_option maxRecDepth 100000
set_option maxHeartbeats 4000000
namespace SW
open PySem PySem.Spec PyProof.Rows L2
/-! ### texts in order -/
def leS (a b : Str) : Prop := ¬ b.cps.toList < a.cps.toList
theorem leS_trans {a b c : Str} (h : leS a b) (g : leS b c) : leS a c := by
  unfold leS at *
  exact fun k => List.not_lt.mpr (List.le_trans (List.not_lt.mp h) (List.not_lt.mp g)) k
theorem leS_anti {a b : Str} (h : leS a b) (g : leS b a) : a = b := by
  have e := List.le_antisymm (List.not_lt.mp h) (List.not_lt.mp g)
  cases a
  cases b
  congr 1
  exact Array.toList_inj.mp e
theorem pw_of_rising : ∀ (p : Str) (l : List Str), risingS p l = true → (p :: l).Pairwise leS
  | p, [], _ => List.pairwise_singleton _ _
  | p, x :: r, h => by
    have h' : (!ltCps x.cps.toList p.cps.toList && risingS x r) = true := h
    rw [Bool.and_eq_true, Bool.not_eq_true', ltCps_eq] at h'
    have a : leS p x := fun z => by
      rw [decide_eq_true z] at h'
      exact absurd h'.1 (by decide)
    have ih := pw_of_rising x r h'.2
    refine List.pairwise_cons.mpr ⟨fun y hy => ?_, ih⟩
    rcases List.mem_cons.mp hy with e | hy
    · rw [e]; exact a
    · exact leS_trans a ((List.pairwise_cons.mp ih).1 y hy)
theorem pw_of_sorted {l : List Str} (h : sortedS l = true) : l.Pairwise leS := by
  cases l with
  | nil => exact List.Pairwise.nil
  | cons x r => exact pw_of_rising x r h
/-- sorted, each once: it is known by its members -/
theorem srt_eq : ∀ {a b : List Str}, a.Pairwise leS → b.Pairwise leS → a.Nodup → b.Nodup → (∀ x, x ∈ a ↔ x ∈ b) → a = b
  | [], [], _, _, _, _, _ => rfl
  | [], y :: s, _, _, _, _, h => absurd ((h y).mpr (List.mem_cons_self ..)) (by simp)
  | x :: r, [], _, _, _, _, h => absurd ((h x).mp (List.mem_cons_self ..)) (by simp)
  | x :: r, y :: s, pa, pb, na, nb, h => by
    obtain ⟨a1, a2⟩ := List.pairwise_cons.mp pa
    obtain ⟨b1, b2⟩ := List.pairwise_cons.mp pb
    obtain ⟨c1, c2⟩ := List.nodup_cons.mp na
    obtain ⟨d1, d2⟩ := List.nodup_cons.mp nb
    have e : x = y := by
      rcases List.mem_cons.mp ((h x).mp (List.mem_cons_self ..)) with e | hx
      · exact e
      · rcases List.mem_cons.mp ((h y).mpr (List.mem_cons_self ..)) with e | hy
        · exact e.symm
        · exact leS_anti (a1 y hy) (b1 x hx)
    subst e
    have := srt_eq a2 b2 c2 d2 fun z => by
      constructor
      · intro hz
        rcases List.mem_cons.mp ((h z).mp (List.mem_cons_of_mem _ hz)) with e | q
        · exact absurd (e ▸ hz) c1
        · exact q
      · intro hz
        rcases List.mem_cons.mp ((h z).mpr (List.mem_cons_of_mem _ hz)) with e | q
        · exact absurd (e ▸ hz) d1
        · exact q
    rw [this]
theorem nodup_len : ∀ (l D : List Str), l.Nodup → (∀ x ∈ l, x ∈ D) → l.length ≤ D.length
  | [], _, _, _ => Nat.zero_le _
  | x :: l, D, hn, hs => by
    obtain ⟨h1, h2⟩ := List.nodup_cons.mp hn
    have hx : x ∈ D := hs x (List.mem_cons_self ..)
    have ih := nodup_len l (D.erase x) h2 fun y hy => (List.mem_erase_of_ne (show y ≠ x from fun e => h1 (e ▸ hy))).2 (hs y (List.mem_cons_of_mem _ hy))
    have e := List.length_erase_of_mem hx
    have hp : 0 < D.length := List.length_pos_of_mem hx
    rw [List.length_cons]
    omega
/-- ys: the members of l, in order, each once -/
structure Srt (ys l : List Str) : Prop where
  pw : ys.Pairwise leS
  nd : ys.Nodup
  mem : ∀ x, x ∈ ys ↔ x ∈ l
theorem Srt.eq {a b l : List Str} (x : Srt a l) (y : Srt b l) : a = b := srt_eq x.pw y.pw x.nd y.nd fun z => (x.mem z).trans (y.mem z).symm
theorem Srt.len {a l : List Str} (x : Srt a l) : a.length ≤ l.length := nodup_len a l x.nd fun z h => (x.mem z).mp h
theorem Srt.sub {a l D : List Str} (x : Srt a l) (h : ∀ z ∈ l, z ∈ D) : a.length ≤ D.length := nodup_len a D x.nd fun z q => h z ((x.mem z).mp q)
theorem srt_of {ys m l : List Str} (p : ys.Perm m) (s : sortedS ys = true) (nd : m.Nodup) (h : ∀ x, x ∈ m ↔ x ∈ l) : Srt ys l :=
  ⟨pw_of_sorted s, p.nodup_iff.mpr nd, fun x => p.mem_iff.trans (h x)⟩
theorem srt_one (c : Str) : Srt [c] [c] := ⟨List.pairwise_singleton _ _, by simp, fun _ => Iff.rfl⟩
theorem srt_nil : Srt [] [] := ⟨List.Pairwise.nil, by simp, fun _ => Iff.rfl⟩
theorem Srt.filter {ys l : List Str} (s : Srt ys l) (p : Str → Bool) : Srt (ys.filter p) (l.filter p) :=
  ⟨s.pw.sublist List.filter_sublist, s.nd.sublist List.filter_sublist, fun x => by rw [List.mem_filter, List.mem_filter, s.mem]⟩
/-! ### formulas -/
inductive Fm where
  | rel (k a b : Str)
  | nam (c : Str)
  | neg (f : Fm)
  | bin (k : Str) (f g : Fm)
  | qu (k x : Str) (f : Fm)
def Fm.dat : Fm → PyData
  | .rel k a b => .tuple [.str k, .str a, .str b]
  | .nam c => .tuple [.str "named", .str c]
  | .neg f => .tuple [.str "not", f.dat]
  | .bin k f g => .tuple [.str k, f.dat, g.dat]
  | .qu k x f => .tuple [.str k, .str x, f.dat]
def Fm.dep : Fm → Nat
  | .rel _ _ _ => 1
  | .nam _ => 1
  | .neg f => f.dep + 1
  | .bin _ f g => max f.dep g.dep + 1
  | .qu _ _ f => f.dep + 1
def Fm.parts : Fm → List Fm
  | .rel _ _ _ => []
  | .nam _ => []
  | .neg f => [f]
  | .bin _ f g => [f, g]
  | .qu _ _ f => [f]
def Fm.size : Fm → Nat
  | .rel _ _ _ => 1
  | .nam _ => 1
  | .neg f => f.size + 1
  | .bin _ f g => f.size + g.size + 1
  | .qu _ _ f => f.size + 1
def Fm.nest : Fm → Nat
  | .rel _ _ _ => 0
  | .nam _ => 0
  | .neg f => f.nest
  | .bin _ f g => max f.nest g.nest
  | .qu _ _ f => f.nest + 1
def Fm.nms : Fm → List Str
  | .rel _ _ _ => []
  | .nam c => [c]
  | .neg f => f.nms
  | .bin _ f g => f.nms ++ g.nms
  | .qu _ _ f => f.nms
def Fm.fvs : Fm → List Str
  | .rel k a b => if k = "letter" then [b] else [a, b]
  | .nam _ => []
  | .neg f => f.fvs
  | .bin _ f g => f.fvs ++ g.fvs
  | .qu _ x f => f.fvs.filter fun y => decide (y ≠ x)
abbrev xyz : List Str := ["x", "y", "z"]
abbrev XYZ : List Str := ["X", "Y", "Z"]
abbrev vrs : List Str := ["x", "y", "z", "X", "Y", "Z"]
/-- names: one to eight lowercase letters -/
def NmOk (c : Str) : Prop := 1 ≤ c.cps.size ∧ c.cps.size ≤ 8 ∧ ∀ x ∈ c.cps.toList, 97 ≤ x ∧ x ≤ 122
inductive RelOk : Str → Str → Str → Prop where
  | ltr {a b : Str} (ha : a ∈ abc) (hb : b ∈ xyz) : RelOk "letter" a b
  | pl {k a b : Str} (hk : k = "before" ∨ k = "next" ∨ k = "same") (ha : a ∈ xyz) (hb : b ∈ xyz) : RelOk k a b
  | el {a b : Str} (ha : a ∈ xyz) (hb : b ∈ XYZ) : RelOk "in" a b
def Fm.Ok : Fm → Prop
  | .rel k a b => RelOk k a b
  | .nam c => NmOk c
  | .neg f => f.Ok
  | .bin k f g => (k = "and" ∨ k = "or") ∧ f.Ok ∧ g.Ok
  | .qu k x f => (k = "some" ∨ k = "all") ∧ x ∈ vrs ∧ f.Ok
theorem Fm.dep_pos (f : Fm) : 1 ≤ f.dep := by cases f <;> unfold Fm.dep <;> omega
theorem xyz_sub : ∀ c ∈ xyz, c ∈ vrs := by
  intro c h
  simp only [xyz, vrs, List.mem_cons, List.not_mem_nil, or_false] at h ⊢
  rcases h with h | h | h <;> simp [h]
theorem XYZ_sub : ∀ c ∈ XYZ, c ∈ vrs := by
  intro c h
  simp only [XYZ, vrs, List.mem_cons, List.not_mem_nil, or_false] at h ⊢
  rcases h with h | h | h <;> simp [h]
theorem Fm.parts_mem {f g : Fm} (o : f.Ok) (h : g ∈ f.parts) : g.Ok ∧ g.dep < f.dep := by
  cases f with
  | rel k a b => exact absurd h (by simp [Fm.parts])
  | nam c => exact absurd h (by simp [Fm.parts])
  | neg f =>
    rw [Fm.parts, List.mem_singleton] at h
    subst h
    exact ⟨o, by rw [Fm.dep]; omega⟩
  | bin k f1 f2 =>
    rw [Fm.parts, List.mem_cons, List.mem_singleton] at h
    obtain ⟨_, o1, o2⟩ := o
    rcases h with rfl | rfl
    · exact ⟨o1, by rw [Fm.dep]; omega⟩
    · exact ⟨o2, by rw [Fm.dep]; omega⟩
  | qu k x f =>
    rw [Fm.parts, List.mem_singleton] at h
    subst h
    exact ⟨o.2.2, by rw [Fm.dep]; omega⟩
theorem Fm.parts_len (f : Fm) : f.parts.length ≤ 2 := by cases f <;> simp [Fm.parts]
theorem Fm.fvs_sub : ∀ f : Fm, f.Ok → ∀ x ∈ f.fvs, x ∈ vrs
  | .rel k a b, o, x, h => by
    rw [Fm.fvs] at h
    have o' : RelOk k a b := o
    cases o' with
    | ltr ha hb =>
      rw [if_pos rfl, List.mem_singleton] at h
      subst h
      exact xyz_sub _ hb
    | pl hk ha hb =>
      split at h
      · rw [List.mem_singleton] at h
        subst h
        exact xyz_sub _ hb
      · rw [List.mem_cons, List.mem_singleton] at h
        rcases h with rfl | rfl
        · exact xyz_sub _ ha
        · exact xyz_sub _ hb
    | el ha hb =>
      rw [if_neg (by decide), List.mem_cons, List.mem_singleton] at h
      rcases h with rfl | rfl
      · exact xyz_sub _ ha
      · exact XYZ_sub _ hb
  | .nam c, o, x, h => absurd h (by simp [Fm.fvs])
  | .neg f, o, x, h => Fm.fvs_sub f o x h
  | .bin k f g, o, x, h => by
    rcases List.mem_append.mp h with h | h
    · exact Fm.fvs_sub f o.2.1 x h
    · exact Fm.fvs_sub g o.2.2 x h
  | .qu k y f, o, x, h => Fm.fvs_sub f o.2.2 x (List.mem_filter.mp h).1
theorem Fm.nms_len : ∀ f : Fm, f.nms.length ≤ 2 ^ (f.dep - 1)
  | .rel k a b => by simp [Fm.nms]
  | .nam c => by simp [Fm.nms, Fm.dep]
  | .neg f => by
    have ih := Fm.nms_len f
    have := f.dep_pos
    rw [Fm.nms, Fm.dep]
    exact Nat.le_trans ih (Nat.pow_le_pow_right (by decide) (by omega))
  | .bin k f g => by
    have h1 := Fm.nms_len f
    have h2 := Fm.nms_len g
    have p1 := f.dep_pos
    have p2 := g.dep_pos
    rw [Fm.nms, Fm.dep, List.length_append]
    have a1 : 2 ^ (f.dep - 1) ≤ 2 ^ (max f.dep g.dep - 1) := Nat.pow_le_pow_right (by decide) (by omega)
    have a2 : 2 ^ (g.dep - 1) ≤ 2 ^ (max f.dep g.dep - 1) := Nat.pow_le_pow_right (by decide) (by omega)
    have e : max f.dep g.dep + 1 - 1 = (max f.dep g.dep - 1) + 1 := by omega
    rw [e, Nat.pow_succ]
    omega
  | .qu k x f => by
    have ih := Fm.nms_len f
    have := f.dep_pos
    rw [Fm.nms, Fm.dep]
    exact Nat.le_trans ih (Nat.pow_le_pow_right (by decide) (by omega))
theorem Fm.nms_32 {f : Fm} (h : f.dep ≤ 6) : f.nms.length ≤ 32 := by
  have := Fm.nms_len f
  have h2 : 2 ^ (f.dep - 1) ≤ 2 ^ 5 := Nat.pow_le_pow_right (by decide) (by omega)
  have e : 2 ^ 5 = 32 := by decide
  omega
theorem Fm.size_le : ∀ f : Fm, f.size < 2 ^ f.dep
  | .rel k a b => by rw [Fm.size, Fm.dep]; decide
  | .nam c => by rw [Fm.size, Fm.dep]; decide
  | .neg f => by
    have := Fm.size_le f
    rw [Fm.size, Fm.dep, Nat.pow_succ]
    omega
  | .bin k f g => by
    have h1 := Fm.size_le f
    have h2 := Fm.size_le g
    have a1 : 2 ^ f.dep ≤ 2 ^ max f.dep g.dep := Nat.pow_le_pow_right (by decide) (Nat.le_max_left _ _)
    have a2 : 2 ^ g.dep ≤ 2 ^ max f.dep g.dep := Nat.pow_le_pow_right (by decide) (Nat.le_max_right _ _)
    rw [Fm.size, Fm.dep, Nat.pow_succ]
    omega
  | .qu k x f => by
    have := Fm.size_le f
    rw [Fm.size, Fm.dep, Nat.pow_succ]
    omega
/-! ### how the heap bears them -/
abbrev FV (K : PySem.W.Frag) (H : Hp) (v : V) (f : Fm) : Prop := Dp K H v f.dat
def FVs (K : PySem.W.Frag) (H : Hp) (vs : List V) (fs : List Fm) : Prop := DpAll K H vs (fs.map Fm.dat)
theorem FV.tp {K : PySem.W.Frag} {H H' : Hp} (t : Tp H H') : ∀ (f : Fm) {v : V}, FV K H v f → FV K H' v f
  | .rel k a b, v, h => by
    unfold FV Fm.dat at *
    cases h with | tup s x => ?_
    cases x with | cons x y => ?_
    cases y with | cons y z => ?_
    cases z with | cons z u => ?_
    cases x
    cases y
    cases z
    cases u
    exact .tup (t.sq s) (.cons (.str _) (.cons (.str _) (.cons (.str _) .nil)))
  | .nam c, v, h => by
    unfold FV Fm.dat at *
    cases h with | tup s x => ?_
    cases x with | cons x y => ?_
    cases y with | cons y z => ?_
    cases x
    cases y
    cases z
    exact .tup (t.sq s) (.cons (.str _) (.cons (.str _) .nil))
  | .neg f, v, h => by
    unfold FV Fm.dat at *
    cases h with | tup s x => ?_
    cases x with | cons x y => ?_
    cases y with | cons y z => ?_
    cases x
    cases z
    exact .tup (t.sq s) (.cons (.str _) (.cons (FV.tp t f y) .nil))
  | .bin k f g, v, h => by
    unfold FV Fm.dat at *
    cases h with | tup s x => ?_
    cases x with | cons x y => ?_
    cases y with | cons y z => ?_
    cases z with | cons z u => ?_
    cases x
    cases u
    exact .tup (t.sq s) (.cons (.str _) (.cons (FV.tp t f y) (.cons (FV.tp t g z) .nil)))
  | .qu k x f, v, h => by
    unfold FV Fm.dat at *
    cases h with | tup s x => ?_
    cases x with | cons x y => ?_
    cases y with | cons y z => ?_
    cases z with | cons z u => ?_
    cases x
    cases y
    cases u
    exact .tup (t.sq s) (.cons (.str _) (.cons (.str _) (.cons (FV.tp t f z) .nil)))
theorem FVs.tp {K : PySem.W.Frag} {H H' : Hp} (t : Tp H H') : ∀ {fs : List Fm} {vs : List V}, FVs K H vs fs → FVs K H' vs fs
  | [], vs, h => by
    unfold FVs at *
    cases h
    exact .nil
  | f :: r, vs, h => by
    unfold FVs at h
    rw [List.map_cons] at h
    cases h with | cons a b => ?_
    exact .cons (FV.tp t f a) (FVs.tp t (fs := r) b)
theorem FVs.length {K : PySem.W.Frag} {H : Hp} {fs : List Fm} {vs : List V} (h : FVs K H vs fs) : vs.length = fs.length := by
  have := DpAll.length h
  rw [List.length_map] at this
  exact this
theorem FVs.get {K : PySem.W.Frag} {H : Hp} {fs : List Fm} {vs : List V} {i : Nat} {x : V} (h : FVs K H vs fs) (e : vs[i]? = some x) : ∃ f, fs[i]? = some f ∧ FV K H x f := by
  obtain ⟨d, h1, h2⟩ := DpAll.get h e
  rw [List.getElem?_map] at h1
  obtain ⟨f, h3, rfl⟩ := Option.map_eq_some_iff.mp h1
  exact ⟨f, h3, h2⟩
inductive FAt (K : PySem.W.Frag) (H : Hp) (v : V) : Fm → Prop where
  | rel {p : Addr} {k a b : Str} (e : v = .ref p) (s : SqT K H p [.str k, .str a, .str b]) : FAt K H v (.rel k a b)
  | nam {p : Addr} {c : Str} (e : v = .ref p) (s : SqT K H p [.str "named", .str c]) : FAt K H v (.nam c)
  | neg {p : Addr} {x : V} {f : Fm} (e : v = .ref p) (s : SqT K H p [.str "not", x]) (h : FV K H x f) : FAt K H v (.neg f)
  | bin {p : Addr} {x y : V} {k : Str} {f g : Fm} (e : v = .ref p) (s : SqT K H p [.str k, x, y]) (h : FV K H x f) (h2 : FV K H y g) : FAt K H v (.bin k f g)
  | qu {p : Addr} {x : V} {k y : Str} {f : Fm} (e : v = .ref p) (s : SqT K H p [.str k, .str y, x]) (h : FV K H x f) : FAt K H v (.qu k y f)
theorem FV.at {K : PySem.W.Frag} {H : Hp} {v : V} : ∀ {f : Fm}, FV K H v f → FAt K H v f
  | .rel k a b, h => by
    unfold FV Fm.dat at h
    cases h with | tup s x => ?_
    cases x with | cons x y => ?_
    cases y with | cons y z => ?_
    cases z with | cons z u => ?_
    cases x
    cases y
    cases z
    cases u
    exact .rel rfl s
  | .nam c, h => by
    unfold FV Fm.dat at h
    cases h with | tup s x => ?_
    cases x with | cons x y => ?_
    cases y with | cons y z => ?_
    cases x
    cases y
    cases z
    exact .nam rfl s
  | .neg f, h => by
    unfold FV Fm.dat at h
    cases h with | tup s x => ?_
    cases x with | cons x y => ?_
    cases y with | cons y z => ?_
    cases x
    cases z
    exact .neg rfl s y
  | .bin k f g, h => by
    unfold FV Fm.dat at h
    cases h with | tup s x => ?_
    cases x with | cons x y => ?_
    cases y with | cons y z => ?_
    cases z with | cons z u => ?_
    cases x
    cases u
    exact .bin rfl s y z
  | .qu k x f, h => by
    unfold FV Fm.dat at h
    cases h with | tup s x => ?_
    cases x with | cons x y => ?_
    cases y with | cons y z => ?_
    cases z with | cons z u => ?_
    cases x
    cases y
    cases u
    exact .qu rfl s z
section
variable {K : PySem.W.Frag} {H : Hp} {p : Addr} {x y : V} {f g : Fm}
theorem fv_rel {k a b : Str} (s : SqT K H p [.str k, .str a, .str b]) : FV K H (.ref p) (.rel k a b) := .tup s (.cons (.str _) (.cons (.str _) (.cons (.str _) .nil)))
theorem fv_nam {c : Str} (s : SqT K H p [.str "named", .str c]) : FV K H (.ref p) (.nam c) := .tup s (.cons (.str _) (.cons (.str _) .nil))
theorem fv_neg (s : SqT K H p [.str "not", x]) (h : FV K H x f) : FV K H (.ref p) (.neg f) := .tup s (.cons (.str _) (.cons h .nil))
theorem fv_bin {k : Str} (s : SqT K H p [.str k, x, y]) (h : FV K H x f) (h2 : FV K H y g) : FV K H (.ref p) (.bin k f g) := .tup s (.cons (.str _) (.cons h (.cons h2 .nil)))
theorem fv_qu {k a : Str} (s : SqT K H p [.str k, .str a, x]) (h : FV K H x f) : FV K H (.ref p) (.qu k a f) := .tup s (.cons (.str _) (.cons (.str _) (.cons h .nil)))
theorem fvs_nil : FVs K H [] [] := .nil
theorem fvs_cons {xs : List V} {fs : List Fm} (h : FV K H x f) (t : FVs K H xs fs) : FVs K H (x :: xs) (f :: fs) := .cons h t
end
theorem strs_dp {K : PySem.W.Frag} {H : Hp} : ∀ ds : List Str, DpAll K H (ds.map V.str) (ds.map PyData.str)
  | [] => .nil
  | d :: r => .cons (.str d) (strs_dp r)
theorem strs_sm {ds : List Str} {n : Nat} (h : ds.length ≤ 1000) : Sm (n + 1) (.list (ds.map PyData.str)) := by
  unfold Sm
  refine ⟨by rw [List.length_map]; exact h, fun d q => ?_⟩
  obtain ⟨i, _, rfl⟩ := List.mem_map.mp q
  cases n <;> (unfold Sm; trivial)
/-! ### a def whose code object is at hand -/
section
variable {P : Program} {w : World} {K : PySem.W.Frag} {mg : Str → Option Value} {base : Heap}
theorem Df.okC {x : Str} {st : Stmt} {N ps : List Str} {k : Nat} {sp : Sp} (D : Df K mg x st ps) (S : FnScope N ps (defScope st)) (len : ∀ vs H Q E, sp vs H Q E → vs.length = ps.length)
    (hbody : ∀ (f : Addr) (cdv : Value) (A : Around) (outer : List Env) (s : Shared) (H : Hp) (vs : List V) (Q : VK) (E : XK), PySem.W.kdsCode K cdv = true → Room k (A.deeper (envOfC x (defScope st) s.heap.objs.size f cdv)) → sp vs H Q E →
      ∃ t, PSs (cxOf CX0 P w K mg base N x (defScope st) f cdv A outer s H E).nox (defBody st) t ∧ t { nx := fun _ H' => Q .non H', rt := Q } (start N vs) H) : Cal P w K mg base (k + 1) x ps sp := by
  obtain ⟨f, fd, F, m, b⟩ := D.ex
  have kp := F.kp
  obtain ⟨oc, od, kV, doc, pm, an, cdv, ct, osl, rfl, lk, hcd⟩ := F.ex
  refine ⟨f, _, fn_of lk hcd S len fun A outer s H vs Q E hr hsp => ?_, m, kp, b, oc, od, osl, lk⟩
  obtain ⟨t, h, q⟩ := hbody f cdv A outer s H vs Q E (kdsCode_of hcd) hr hsp
  exact ⟨t, h.nox, q⟩
end
end SW

set_option Elab.async false
set_option linter.all false
set_option maxRecDepth 100000
set_option maxHeartbeats 4000000
namespace SW
open PySem PySem.Spec PyProof.Rows L2
/-! ### any comprehension over a walk of given items -/
theorem wkAt {J : It} {n : Nat} {G : Hp → Prop} {xs : List V} {H0 : Hp} {Qd : Hp → Prop} {body : (Hp → Prop) → V → Hp → Prop} (w : Walk J n G (YAt xs)) (Pv : Nat → Hp → Prop) (h0 : Pv 0 H0) (hG : ∀ i H, i ≤ n → Pv i H → G H)
    (hs : ∀ i x H, i < n → xs[i]? = some x → Pv i H → body (Pv (i + 1)) x H) (hd : ∀ H, Pv n H → Qd H) :
    ∃ W : Nat → Nat → Hp → Prop, (∃ m, W 0 m H0) ∧ ∀ i m H, W i m H → (J.stop i H ∧ Qd H) ∨ (J.go i H ∧ ∃ Nx : Hp → Prop, (∀ H', Nx H' → ∃ m', m' < m ∧ W (i + 1) m' H') ∧ ∀ x H', J.yld i H x H' → body Nx x H') := by
  refine ⟨fun i m H => m = n - i ∧ i ≤ n ∧ Pv i H, ⟨n, by omega, Nat.zero_le _, h0⟩, ?_⟩
  rintro i m H ⟨rfl, hi, p⟩
  by_cases hlt : i < n
  · refine .inr ⟨w.goes i H hlt (hG i H hi p), Pv (i + 1), fun H' p' => ⟨n - (i + 1), by omega, rfl, hlt, p'⟩, fun x H' y => ?_⟩
    obtain ⟨e, y2⟩ := w.yields i H x H' hlt (hG i H hi p) y
    subst e
    exact hs i x _ hlt y2 p
  · have e : i = n := by omega
    subst e
    exact .inl ⟨w.stops H (hG _ H hi p), hd H p⟩
/-- one more text into the set -/
theorem e_sc {w : World} {D : Addr} {H : Hp} {c : Str} {l : List Str} {Nx : Hp → Prop} (hD : H D = some (SetLO w D l)) (hl : l.length + 1 < 4096) (h : Nx (upd H D (SetLO w D (insS l c)))) :
    ∃ (c' : Str) (l' : List Str), V.str c = .str c' ∧ H D = some (SetLO w D l') ∧ l'.length + 1 < scanBound ∧ Nx (upd H D (SetLO w D (insS l' c'))) := ⟨c, l, rfl, hD, hl, h⟩
def insAll (l : List Str) : List Str → List Str
  | [] => l
  | c :: r => insAll (insS l c) r
theorem insAll_nodup : ∀ {r l : List Str}, l.Nodup → (insAll l r).Nodup
  | [], _, h => h
  | c :: r, _, h => insAll_nodup (r := r) (insS_nodup h)
theorem mem_insAll {x : Str} : ∀ {r l : List Str}, x ∈ insAll l r ↔ x ∈ l ∨ x ∈ r
  | [], l => by simp [insAll]
  | c :: r, l => by
    rw [insAll, mem_insAll, mem_insS, List.mem_cons]
    exact ⟨fun h => h.elim (fun h => h.elim .inl fun h => .inr (.inl h)) fun h => .inr (.inr h), fun h => h.elim (fun h => .inl (.inl h)) fun h => h.elim (fun h => .inl (.inr h)) .inr⟩
theorem insAll_app {a b l : List Str} : insAll l (a ++ b) = insAll (insAll l a) b := by
  induction a generalizing l with
  | nil => rfl
  | cons c r ih => exact ih
theorem insAll_len : ∀ {r l : List Str}, (insAll l r).length ≤ l.length + r.length
  | [], l => by simp [insAll]
  | c :: r, l => by
    have h1 := insAll_len (r := r) (l := insS l c)
    have h2 := insS_len (l := l) (k := c)
    rw [insAll, List.length_cons]
    omega
theorem insAll_one {l : List Str} {c : Str} : insAll l [c] = insS l c := rfl
theorem insAll_take {xs : List Str} {i : Nat} {c : Str} (e : xs[i]? = some c) : insAll [] (xs.take (i + 1)) = insS (insAll [] (xs.take i)) c := by
  rw [List.take_add_one, e]
  show insAll [] (xs.take i ++ [c]) = _
  rw [insAll_app, insAll_one]
theorem insAll_srt {ys r : List Str} (p : ys.Perm (insAll [] r)) (s : sortedS ys = true) : Srt ys r :=
  srt_of p s (insAll_nodup List.nodup_nil) fun x => by rw [mem_insAll]; simp
theorem strs_get {xs : List Str} {i : Nat} {x : V} (e : (xs.map V.str)[i]? = some x) : ∃ c, xs[i]? = some c ∧ x = .str c := by
  rw [List.getElem?_map] at e
  obtain ⟨c, h, rfl⟩ := Option.map_eq_some_iff.mp e
  exact ⟨c, h, rfl⟩
theorem at_ofN {α : Type} {xs : List α} {z : Int} {j : Nat} {v : α} (e : z = (j : Int)) (h : xs[j]? = some v) : atI xs z = some v := by
  rw [e]
  exact atI_nat h
theorem upd_other {H : Hp} {D b : Addr} {o : HO} (h : b ≠ D) : upd H D o b = H b := upd_ne h
theorem ne_str {a b : V} : decide (a = b) = true ↔ a = b := decide_eq_true_iff
/-- l: the members of r, each once -/
structure Srt' (l r : List Str) : Prop where
  nd : l.Nodup
  mem : ∀ x, x ∈ l ↔ x ∈ r
theorem srt0 : Srt' [] [] := ⟨List.nodup_nil, fun _ => Iff.rfl⟩
theorem Srt'.len {l r : List Str} (s : Srt' l r) : l.length ≤ r.length := nodup_len l r s.nd fun x h => (s.mem x).mp h
theorem Srt'.sub {l r D : List Str} (s : Srt' l r) (h : ∀ z ∈ r, z ∈ D) : l.length ≤ D.length := nodup_len l D s.nd fun x q => h x ((s.mem x).mp q)
theorem Srt'.insAll {l r ys z : List Str} (s : Srt' l r) (h : ∀ x, x ∈ ys ↔ x ∈ z) : Srt' (insAll l ys) (r ++ z) :=
  ⟨insAll_nodup s.nd, fun x => by rw [mem_insAll, List.mem_append, s.mem, h]⟩
/-! ### kinds -/
theorem kd_rel {k a b : Str} (o : RelOk k a b) : k = "letter" ∨ k = "before" ∨ k = "next" ∨ k = "same" ∨ k = "in" := by
  cases o with
  | ltr => exact .inl rfl
  | pl hk => rcases hk with h | h | h <;> simp [h]
  | el => simp
theorem rel_notin {k a b : Str} (o : RelOk k a b) {L : List Str} (h : ("letter" : Str) ∉ L ∧ ("before" : Str) ∉ L ∧ ("next" : Str) ∉ L ∧ ("same" : Str) ∉ L ∧ ("in" : Str) ∉ L) : k ∉ L := by
  rcases kd_rel o with e | e | e | e | e <;> rw [e] <;> simp_all
theorem bin_notin {k : Str} (o : k = "and" ∨ k = "or") {L : List Str} (h : ("and" : Str) ∉ L ∧ ("or" : Str) ∉ L) : k ∉ L := by
  rcases o with e | e <;> rw [e] <;> simp_all
theorem bin_in {k : Str} (o : k = "and" ∨ k = "or") {L : List Str} (h : ("and" : Str) ∈ L ∧ ("or" : Str) ∈ L) : k ∈ L := by
  rcases o with e | e <;> rw [e] <;> simp_all
theorem qu_notin {k : Str} (o : k = "some" ∨ k = "all") {L : List Str} (h : ("some" : Str) ∉ L ∧ ("all" : Str) ∉ L) : k ∉ L := by
  rcases o with e | e <;> rw [e] <;> simp_all
theorem qu_in {k : Str} (o : k = "some" ∨ k = "all") {L : List Str} (h : ("some" : Str) ∈ L ∧ ("all" : Str) ∈ L) : k ∈ L := by
  rcases o with e | e <;> rw [e] <;> simp_all
theorem rel_ne {k a b c : Str} (o : RelOk k a b) (h : ("letter" : Str) ∉ [c] ∧ ("before" : Str) ∉ [c] ∧ ("next" : Str) ∉ [c] ∧ ("same" : Str) ∉ [c] ∧ ("in" : Str) ∉ [c]) : k ≠ c := fun e => rel_notin o h (by rw [e]; exact List.mem_cons_self ..)
theorem bin_ne {k c : Str} (o : k = "and" ∨ k = "or") (h : ("and" : Str) ∉ [c] ∧ ("or" : Str) ∉ [c]) : k ≠ c := fun e => bin_notin o h (by rw [e]; exact List.mem_cons_self ..)
theorem qu_ne {k c : Str} (o : k = "some" ∨ k = "all") (h : ("some" : Str) ∉ [c] ∧ ("all" : Str) ∉ [c]) : k ≠ c := fun e => qu_notin o h (by rw [e]; exact List.mem_cons_self ..)
abbrev nab : List Str := ["not", "and", "or"]
abbrev qus : List Str := ["some", "all"]
abbrev bnsi : List Str := ["before", "next", "same", "in"]
theorem sl1 {xs : List V} {hi : Option Int} (h : 1 ≤ xs.length) : ¬ (HT.sIx xs.length 0 (some 1) = 0 ∧ HT.sIx xs.length xs.length hi = xs.length) := by
  rintro ⟨h1, _⟩
  have e : HT.sIx xs.length 0 (some 1) = min 1 xs.length := HT.sIx_nat xs.length 0 1
  rw [e] at h1
  omega
def sizeL (fs : List Fm) : List Int := fs.map fun f => (f.size : Int)
def nestL (fs : List Fm) : List Int := fs.map fun f => (f.nest : Int)
theorem sizeL_snoc {fs : List Fm} {g : Fm} : (sizeL (fs ++ [g])).map V.int = (sizeL fs).map V.int ++ [.int (g.size : Nat)] := by
  rw [sizeL, List.map_append, List.map_append]
  rfl
theorem nestL_snoc {fs : List Fm} {g : Fm} : (nestL (fs ++ [g])).map V.int = (nestL fs).map V.int ++ [.int (g.nest : Nat)] := by
  rw [nestL, List.map_append, List.map_append]
  rfl
end SW

set_option Elab.async false
set_option linter.all false
set_option maxRecDepth 100000
set_option maxHeartbeats 4000000
namespace SW
open PySem PySem.Spec PyProof.Rows L2
/-! ### list(text) -/
theorem call_list_S {X : Cx} (hc : X.calm = true) : CallR X (.type "list") (fun xs H Q => ∃ z, xs = [.str z] ∧ z.cps.size ≤ sizeLine ∧ ∀ p, H p = none → Q (.ref p) (upd H p (.lst (signs z)))) := by
  intro pins s σ H xs us Q I r h
  obtain ⟨z, rfl, hz, q⟩ := h
  obtain ⟨u, rfl, rx⟩ := vals1 r
  obtain ⟨tk, rfl⟩ := (show ∃ t, u = Value.str z t from rx)
  refine PySem.call_list_str (I.ok.hd hc) z tk (hn := hz) fun h' tk' acc c' hk hS hit => ?_
  have hv : Vals (signs z) acc.toList := by
    refine vals_of ?_ fun i x u p q => ?_
    · unfold signs
      rw [List.length_map, Array.length_toList, Array.length_toList]
      exact hit.1.symm
    · have q' : acc[i]? = some u := by rw [Array.getElem?_toList] at q; exact q
      obtain ⟨c, t2, h1, h2⟩ := hit.2 i u q'
      unfold signs at p
      rw [List.getElem?_map, Array.getElem?_toList, h1] at p
      cases p
      exact ⟨t2, h2⟩
  refine ⟨.ref s.heap.objs.size, upd H s.heap.objs.size (.lst (signs z)), I.laid (t' := tk') hk (Nat.le_refl _)
    (show ObjOk X.prog X.w _ _ _ (.lst (signs z)) from ⟨?_, acc.toList, c', hv, by rw [Array.toArray_toList]; exact hS⟩), rfl, q _ (I.hok.fresh (Nat.le_refl _))⟩
  unfold signs
  rw [List.length_map, Array.length_toList]
  exact hz
/-! ### a text times an int -/
theorem fold_rep (xs : Array Nat) : ∀ (n : Nat) (acc : Array Nat), (List.replicate n xs).foldl (· ++ ·) acc = acc ++ (List.replicate n xs.toList).flatten.toArray
  | 0, acc => by simp
  | n + 1, acc => by
    rw [List.replicate_succ, List.foldl_cons, fold_rep xs n, List.replicate_succ, List.flatten_cons, Array.append_assoc]
    congr 1
    apply Array.toList_inj.mp
    simp
def repS (z : Str) (k : Nat) : Str := ⟨(List.replicate k z.cps.toList).flatten.toArray⟩
def rRepSt : R2 := fun x y H Q => ∃ (z : Str) (k : Nat), x = .str z ∧ y = .int (k : Int) ∧ k ≤ 1000 ∧ z.cps.size ≤ 1000 ∧ Q (.str (repS z k)) H
theorem op_rep_str {X : Cx} : OpR X (binaryOp .Mult) rRepSt := by
  intro pins s σ H x y v u Q I rx ry h
  obtain ⟨z, k, rfl, rfl, hk, hz, q⟩ := h
  obtain ⟨t, rfl⟩ := rx
  obtain ⟨t', rfl⟩ := ry
  have hl : z.length = z.cps.size := rfl
  have hprod : z.cps.size * k ≤ 1000 * 1000 := Nat.mul_le_mul hz hk
  have e63 : (2 : Int) ^ 63 = 9223372036854775808 := by decide
  have hcl : z.cps.size * (Int.ofNat k).toNat ≤ 1000000 := hprod
  refine P.mul_str ?_ ?_ ?_ ?_
  · rw [decide_eq_false (by omega), decide_eq_false (by omega)]
    rfl
  · intro h1 _ h2
    rw [hl] at h2
    have : (2 ^ 63 - 1 : Int) / (k : Int) ≥ 1000 := by
      rw [e63]
      refine Int.le_ediv_of_mul_le (by omega) ?_
      have : (1000 : Int) * k ≤ 1000 * 1000 := by omega
      omega
    omega
  · intro _ _
    show decide _ = false
    refine decide_eq_false ?_
    rw [hl]
    have : (k : Int).toNat = k := Int.toNat_natCast k
    rw [this]
    intro hh
    have : sizeLine < 1000 * 1000 := Nat.lt_of_lt_of_le hh hprod
    exact absurd this (by decide)
  · have fin : ∀ (y : Str) (tk : Tok) (tk2 : Nat), y = repS z k → EP X pins σ Q (.str y tk) { s with toks := tk2 } := fun y tk tk2 e => ⟨.str (repS z k), H, I.tok _, ⟨tk, by rw [e]⟩, q⟩
    have hsz : (repS z k).cps.size ≤ 1000000 := by
      unfold repS
      rw [List.size_toArray, List.length_flatten, List.map_replicate, List.sum_replicate_nat, Array.length_toList, Nat.mul_comm]
      exact hprod
    split
    · have k0 : k = 0 := by omega
      exact ⟨by decide, fin _ _ _ (by rw [k0]; rfl)⟩
    · split
      · rename_i h1 h2
        refine fin z t _ ?_
        rw [Bool.or_eq_true, beq_iff_eq, beq_iff_eq] at h2
        rcases h2 with h2 | h2
        · have k1 : k = 1 := by omega
          rw [k1]
          unfold repS
          simp
        · have e0 : z.cps.toList = [] := by
            have : z.cps.toList.length = 0 := by rw [Array.length_toList]; exact h2
            exact List.eq_nil_of_length_eq_zero this
          unfold repS
          rw [e0]
          cases z with | mk cs => ?_
          have : cs = #[] := by
            have e1 : cs.toList = [] := e0
            exact Array.toList_inj.mp e1
          rw [this]
          simp
      · rename_i h1 h2
        have e : (⟨(List.replicate (k : Int).toNat z.cps).foldl (· ++ ·) #[]⟩ : Str) = repS z k := by
          rw [fold_rep]
          unfold repS
          simp
        refine ⟨?_, fin _ _ _ e⟩
        rw [e]
        exact Nat.le_trans hsz (by decide)
/-! ### list(d), d a dict of the module -/
def keyS (e : DictEntry) : Option Str := match e.key with
  | .str x _ => some x
  | _ => none
def KdL (K : PySem.W.Frag) (w : World) (d : Addr) (ks : List Str) : Prop := ∃ es n, KDict K w d es n ∧ es.toList.map keyS = ks.map some ∧ ks.Nodup ∧ ks.length ≤ sizeLine
theorem pairs_of {prog : Program} {w : World} : ∀ (es : List DictEntry) (ks : List Str), es.map keyS = ks.map some → Pairs (strKind prog w) es (ks.zip (es.map (·.val)))
  | [], [], _ => .nil
  | [], k :: ks, h => by cases h
  | e :: es, [], h => by cases h
  | e :: es, k :: ks, h => by
    rw [List.map_cons, List.map_cons] at h
    injection h with h1 h2
    refine .cons ?_ rfl (pairs_of es ks h2)
    show (strKind prog w).is k e.key = true
    unfold keyS at h1
    split at h1
    · rename_i x t q
      have e := Option.some.inj h1
      rw [q, ← e]
      exact strKind_is prog w x t
    · cases h1
theorem call_list_kd {X : Cx} (hc : X.calm = true) : CallR X (.type "list") (fun xs H Q => ∃ d ks, xs = [.ref d] ∧ KdL X.K X.w d ks ∧ ∀ p, H p = none → Q (.ref p) (upd H p (.lst (ks.map V.str)))) := by
  intro pins s σ H xs us Q I r h
  obtain ⟨d, ks, rfl, ⟨es, n, D, he, nd, hz⟩, q⟩ := h
  obtain ⟨u, rfl, rx⟩ := vals1 r
  obtain rfl : u = Value.ref d := rx
  have hl : ks.length = es.toList.length := by
    have := congrArg List.length he
    rw [List.length_map, List.length_map] at this
    exact this.symm
  have hat : s.heap.DictAt (strKind X.prog X.w) d (ks.zip (es.toList.map (·.val))) n := by
    refine ⟨_, es, I.kIn _ _ D.at_, ⟨rfl, rfl, rfl⟩, rfl, fun e m => ?_, pairs_of _ _ he, ?_⟩
    · obtain ⟨x, t, e1, e2⟩ := D.lit.all e (Array.mem_toList_iff.mpr m)
      exact ⟨x, by rw [e1]; exact strKind_is X.prog X.w x t, e2⟩
    · rw [List.map_fst_zip (by rw [List.length_map]; omega)]
      exact nd
  refine PySem.W.kdl_call (PySem.W.kdl_dict (knd := strKind X.prog X.w) (ep := n) D.low) (I.ok.hd hc) hat ?_ fun h' tk acc' c' hk hS hacc => ?_
  · rw [List.length_zip, List.length_map]
    omega
  have hv : Vals (ks.map V.str) acc'.toList := by
    refine vals_of ?_ fun i x u p q => ?_
    · have h3 := hacc.1
      rw [List.length_zip, List.length_map] at h3
      rw [List.length_map, Array.length_toList (xs := acc'), h3]
      omega
    · obtain ⟨k, y, h1, h2⟩ := hacc.2 i u (by rw [← Array.getElem?_toList]; exact q)
      have e1 : ks[i]? = some k := by
        have := congrArg (fun l => l[i]?) (List.map_fst_zip (l₁ := ks) (l₂ := es.toList.map (·.val)) (by rw [List.length_map]; omega))
        rw [List.getElem?_map, h1] at this
        exact this.symm
      rw [List.getElem?_map, e1] at p
      cases p
      cases u <;> first | (exact absurd h2 (by intro h; cases h)) | skip
      rename_i z t
      have : k = z := by
        have h3 : (Value.isStrOf k (.str z t)) = true := h2
        exact (eq_of_beq (show (z == k) = true from h3)).symm
      exact ⟨t, by rw [this]⟩
  refine ⟨.ref s.heap.objs.size, upd H s.heap.objs.size (.lst (ks.map V.str)), I.laid (t' := tk) hk (Nat.le_refl _)
    (show ObjOk X.prog X.w _ _ _ (.lst (ks.map V.str)) from ⟨by rw [List.length_map]; exact hz, acc'.toList, c', hv, by rw [Array.toArray_toList]; exact hS⟩), rfl, q _ (I.hok.fresh (Nat.le_refl _))⟩
end SW

set_option Elab.async false
set_option linter.all false
set_option maxRecDepth 100000
set_option maxHeartbeats 4000000
/-! ### enumerate(tuple) -/
namespace PySem
open Sem (wp)
set_option maxHeartbeats 1000000 in
theorem sw_enum_new1 {v : Value} {o : Obj} {H : Heap → Prop} (B : Begins v o H) :
    Meets (Builtin.«enumerate.__new__» ⟨[.type "enumerate", v], []⟩) (fun _ R s => H s.heap ∧
      R (.ok (.ret (.ref (s.heap.push o).objs.size))) { s with heap := (s.heap.push o).push { cls := .type "enumerate", data := .fields #[.none, .bool false, .ref s.heap.objs.size, rawInt 0, .none, .none] } }) :=
  .of_wp fun prog w A R s h => by
    obtain ⟨hp, g, d, tk, os⟩ := s; obtain ⟨h1, h⟩ := h
    have hsub := sub_enumerate
    have q1 : ∀ {A' : Around} {E : Value → Shared → Prop} {Q : Value → Shared → Prop}, Q (.ref hp.objs.size) ⟨hp.push o, g, d, tk, os⟩ → wpAny (model prog w) A' (pyIter v) Q E ⟨hp, g, d, tk, os⟩ :=
      fun q => B.iter prog w _ _ ⟨hp, g, d, tk, os⟩ _ h1 q
    wp_walk using q1
    refine wpAny_stack_any fun st => wpAny_pure ?_
    split
    · rename_i c _ _ _ _ _
      cases (c == Value.type "enumerate")
      · wp_walk using q1
        exact ⟨_, rfl, h⟩
      · wp_walk using q1
        exact ⟨_, rfl, h⟩
    · wp_walk using q1
      exact ⟨_, rfl, h⟩
section
variable {prog : Program} {w : World} {A : Around} {E : Value → Shared → Prop} {s : Shared}
theorem sw_enum_begins1 {v : Value} {o : Obj} {H : Heap → Prop} {Q : Value → Shared → Prop} (B : Begins v o H) (h1 : H s.heap)
    (h : ∀ h', IsEnum h' (s.heap.objs.size + 1) s.heap.objs.size 0 .none → h'.get? s.heap.objs.size = some o → h'.objs.size = s.heap.objs.size + 2 →
      (∀ b o, s.heap.get? b = some o → h'.get? b = some o) → Q (.ref (s.heap.objs.size + 1)) { s with heap := h' }) :
    wpAny (model prog w) A (call (.type "enumerate") [v]) Q E s := by
  refine callType_new F.called_enumerate (by decide) (F.typeCall_enumerate_1 _) (F.newCall_enumerate_1 _) (fun obj => F.args_object_init_2 obj _) F.entry_enumerate_new
    (sw_enum_new1 B) ⟨h1, ?_⟩
  have hz : (s.heap.push o).objs.size = s.heap.objs.size + 1 := Heap.size_push ..
  show _ ∧ _
  rw [hz]
  have he : IsEnum ((s.heap.push o).push { cls := .type "enumerate", data := .fields #[.none, .bool false, .ref s.heap.objs.size, rawInt 0, .none, .none] }) (s.heap.objs.size + 1) s.heap.objs.size 0 .none := by
    have := Heap.get?_push_size (s.heap.push o) (o := { cls := .type "enumerate", data := .fields #[.none, .bool false, .ref s.heap.objs.size, rawInt 0, .none, .none] }) rfl
    rw [hz] at this; exact this
  refine ⟨⟨_, he, rfl⟩, h _ he (Heap.get?_push_of_some _ (Heap.get?_push_size _ B.free)) (by rw [Heap.size_push, hz]) fun b o x => Heap.get?_push_of_some _ (Heap.get?_push_of_some _ x)⟩
end
end PySem

set_option Elab.async false
set_option linter.all false
set_option maxRecDepth 100000
set_option maxHeartbeats 4000000
namespace SW
open PySem PySem.Spec PyProof.Rows L2
def Ites (z : Str) : It :=
  ⟨fun i _ => i < z.cps.size,
    fun i H v H' => ∃ T c, v = .ref T ∧ H T = none ∧ H' = upd H T (.tup [.int (i : Nat), .str ⟨#[c]⟩]) ∧ z.cps[i]? = some c,
    fun i _ => i = z.cps.size⟩
theorem turn_enumS {P : Program} {w : World} {K : PySem.W.Frag} {elts : List Expr} {kk : Nat} {tpos : Pos} {z : Str} {tz : Tok} {e it : Addr} (n2 : e ≠ it) :
    Turn P w K (.Tuple elts kk tpos) (Ites z) [e, it] e (fun i h => (∃ old, IsEnum h e it (0 + ((i : Nat) : Int)) old) ∧ h.IsStrIter it (strIterType z) z tz i) where
  mem := List.mem_cons_self ..
  obj := fun i h st b hb => by
    obtain ⟨⟨old, he⟩, ⟨o, ho, hc, hd⟩⟩ := st
    have e' : b = e ∨ b = it := by simpa using hb
    rcases e' with z | z
    · rw [z]; exact ⟨_, he, fun v q => nomatch q⟩
    · rw [z]; exact ⟨o, ho, fun v q => by rw [hd] at q; cases q⟩
  keep := fun i h h' st k => let ⟨⟨old, he⟩, ⟨o, ho, r⟩⟩ := st; ⟨⟨old, k e (by simp) _ he⟩, ⟨o, k it (by simp) _ ho, r⟩⟩
  self := fun A i s Q E st h => let ⟨⟨_, he⟩, _⟩ := st; wpAny_pyIter_enum he h
  item := by
    intro X hP hw hK calm i pins s σ H E I fps st going
    subst hP hw hK
    obtain ⟨he, h2⟩ := st
    have hd : X.A.in1.handled = none := I.ok.hd calm
    have W := WalksT.enumFrom (A := X.A) 0 (Draws.text (prog := X.prog) (w := X.w) hd it z tz) e n2 (by simp [n2]) (by simp)
    refine W.item i s _ _ going ⟨he, h2⟩ (fun T vals h' tk hvals hT hTup mid kept => ?_)
    obtain ⟨t, w2, ⟨c, u2, hc, rfl⟩, rfl⟩ := hvals
    have apart := W.apart i T h' mid
    refine ⟨_, rfl, W.go elts kk tpos i T { s with heap := h', toks := tk } _ _ mid (fun h'' st' kept2 => ?_)⟩
    have e0 : (0 : Int) + (i : Int) = ((i : Nat) : Int) := Int.zero_add _
    rw [e0] at hTup
    have hTup2 : h''.IsTuple T #[.int ((i : Nat) : Int) t, .str ⟨#[c]⟩ u2] := hTup.at fun o q => kept2 T o apart q
    have new : ObjOk X.prog X.w (upd H T (.tup [.int (i : Nat), .str ⟨#[c]⟩])) h'' T (.tup [.int (i : Nat), .str ⟨#[c]⟩]) := ⟨by show 2 ≤ sizeLine; decide, [.int ((i : Nat) : Int) t, .str ⟨#[c]⟩ u2], .cons ⟨_, rfl⟩ (.cons ⟨_, rfl⟩ .nil), hTup2⟩
    have sub : ∀ c ∈ [e, it], FpOk X pins H c := fps
    have J : Inv X pins σ (upd H T (.tup [.int (i : Nat), .str ⟨#[c]⟩])) { s with heap := h'', toks := tk } :=
      I.turnedNew (t' := tk) (ch := [e, it]) (fun c o hc q => kept2 c o hc (kept c o hc q)) sub hT new
    refine ⟨.ref T, _, J, rfl, ⟨T, c, rfl, I.hok.fresh hT, rfl, hc⟩, st', fun c hc => ?_⟩
    have hcl : c < s.heap.objs.size := by
      have e' : c = e ∨ c = it := by simpa using hc
      obtain ⟨old, he'⟩ := he
      rcases e' with q | q
      · rw [q]; exact Heap.lt_size he'
      · rw [q]; obtain ⟨_, e1, _⟩ := h2; exact Heap.lt_size e1
    rw [upd_ne (Nat.ne_of_lt (Nat.lt_of_lt_of_le hcl hT))]
    exact (fps c hc).1
  done := by
    intro X hP hw hK calm i pins s σ H E I fps st over
    subst hP hw hK
    obtain ⟨he, h2⟩ := st
    have hd : X.A.in1.handled = none := I.ok.hd calm
    have W := WalksT.enumFrom (A := X.A) 0 (Draws.text (prog := X.prog) (w := X.w) hd it z tz) e n2 (by simp [n2]) (by simp)
    have e' : i = z.cps.size := over
    subst e'
    exact W.done s _ _ ⟨he, h2⟩ (fun h' tk kept => ⟨rfl, I.turnedL (t' := tk) (ch := [e, it]) (fun c o hc q => kept c o hc q) fps⟩)
def iEnumS (ta : TA) : TI := fun σ H R => ta σ H fun vs H1 => ∃ z, vs = [.str z] ∧ R (Ites z) H1
theorem pi_enumS {X : Cx} {e : Expr} {ta : TA} {p pos tpos : Pos} {elts : List Expr} {kk : Nat} (hg : Gl X "enumerate") (hm : X.mg "enumerate" = none) (ha : PA X [e] ta) (hs : starEach [e] X.env = [(false, eval e X.env)] := by rfl) :
    PI X (.Tuple elts kk tpos) (.Call (.Name "enumerate" p) [e] [] pos) (iEnumS ta) := by
  refine ⟨fun pins s σ H R I h => ?_⟩
  refine Call_ (ld_blt I hg hm boot_enumerate (PyProof.Rows.callWith_type1 (thn (ha.run pos pins s σ H _ I h) fun us s1 ⟨vs, H1, I1, r1, q1⟩ => ?_) hs rfl))
  obtain ⟨z, ex, q⟩ := q1
  subst ex
  cases r1 with
  | cons r rr =>
    cases rr
    obtain ⟨tz, rfl⟩ := (show ∃ t, _ = Value.str z t from r)
    refine sw_enum_begins1 (begins_text z tz) trivial fun h' he hit hsz hk => wpAny_pyIter_enum he ?_
    have I2 : Inv X pins σ H1 { s1 with heap := h' } := I1.kept (t' := s1.toks) hk
    refine ⟨s1.heap.objs.size + 1, [s1.heap.objs.size + 1, s1.heap.objs.size], _, _, H1, rfl, I2, turn_enumS (z := z) (tz := tz) (Nat.succ_ne_self _), ⟨⟨.none, he⟩, ⟨_, hit, rfl, rfl⟩⟩, fun b hb => ?_, q⟩
    have e' : b = s1.heap.objs.size + 1 ∨ b = s1.heap.objs.size := by simpa using hb
    have hle : s1.heap.objs.size ≤ b := by
      rcases e' with z | z
      · rw [z]; exact Nat.le_add_right _ _
      · rw [z]; exact Nat.le_refl _
    exact I1.fpOk hle (I1.hok.fresh hle)
theorem for_enumS {z : Str} {g : TG} {tb : TS} {D : Ends} {σ : L2.St} {H : Hp} (Pv : Nat → L2.St → Hp → Prop) (h0 : Pv 0 σ H)
    (hs : ∀ (i c : Nat) (T : Addr) (σ : L2.St) (H : Hp), z.cps[i]? = some c → Pv i σ H → H T = none → g (.ref T) σ (upd H T (.tup [.int (i : Nat), .str ⟨#[c]⟩])) fun σ2 H2 => tb { D with nx := Pv (i + 1), ct := Pv (i + 1), bk := D.nx } σ2 H2) (hd : ∀ σ H, Pv z.cps.size σ H → D.nx σ H) :
    ∃ W : Nat → Nat → L2.St → Hp → Prop, (∃ m, W 0 m σ H) ∧ ∀ i m σ H, W i m σ H →
      ((Ites z).stop i H ∧ D.nx σ H) ∨ ((Ites z).go i H ∧ ∃ N : L2.St → Hp → Prop, (∀ σ' H', N σ' H' → ∃ m', m' < m ∧ W (i + 1) m' σ' H') ∧ ∀ v H', (Ites z).yld i H v H' → g v σ H' fun σ2 H2 => tb { D with nx := N, ct := N, bk := D.nx } σ2 H2) := by
  refine ⟨fun i m σ H => m = z.cps.size - i ∧ i ≤ z.cps.size ∧ Pv i σ H, ⟨z.cps.size, rfl, Nat.zero_le _, h0⟩, ?_⟩
  rintro i m σ H ⟨rfl, hi, p⟩
  by_cases hlt : i < z.cps.size
  · refine .inr ⟨hlt, Pv (i + 1), fun σ' H' p' => ⟨z.cps.size - (i + 1), by omega, rfl, hlt, p'⟩, fun v H' y => ?_⟩
    obtain ⟨T, c, rfl, hT, rfl, f2⟩ := y
    exact hs i c T σ H f2 p hT
  · have e : i = z.cps.size := by omega
    exact .inl ⟨e, hd σ H (e ▸ p)⟩
end SW

set_option Elab.async false
set_option linter.all false
set_option maxRecDepth 100000
set_option maxHeartbeats 4000000
namespace SW
open PySem PySem.Spec PyProof.Rows L2
/-! ### texts as lists of numbers -/
def tx (l : List Nat) : Str := ⟨l.toArray⟩
abbrev ls (z : Str) : List Nat := z.cps.toList
theorem ls_tx (l : List Nat) : ls (tx l) = l := by simp [ls, tx]
theorem tx_ls (z : Str) : tx (ls z) = z := by cases z; simp [ls, tx]
theorem ls_app (a b : Str) : ls (a ++ b) = ls a ++ ls b := by
  show (a.cps ++ b.cps).toList = _
  simp [ls]
theorem ls_inj {a b : Str} (h : ls a = ls b) : a = b := by rw [← tx_ls a, ← tx_ls b, h]
theorem emp_app (a : Str) : Str.empty ++ a = a := ls_inj (by rw [ls_app]; rfl)
theorem len_ls (a : Str) : a.length = (ls a).length := by simp [ls, Str.length]
theorem len_app (a b : Str) : (a ++ b).length = a.length + b.length := by rw [len_ls, len_ls, len_ls, ls_app, List.length_append]
theorem len_tx (l : List Nat) : (tx l).length = l.length := by rw [len_ls, ls_tx]
theorem one_tx (c : Nat) : (⟨#[c]⟩ : Str) = tx [c] := rfl
theorem take_cut (l : List Nat) (a b n : Nat) (hn : n = l.length) : (l.drop (min a n)).take (min b n - min a n) = (l.drop a).take (b - a) := by
  by_cases h : a ≤ n
  · have e1 : min a n = a := Nat.min_eq_left h
    rw [e1]
    by_cases h2 : b ≤ n
    · have e2 : min b n = b := Nat.min_eq_left h2
      rw [e2]
    · have e2 : min b n = n := Nat.min_eq_right (by omega)
      rw [e2, List.take_of_length_le (by rw [List.length_drop]; omega), List.take_of_length_le (by rw [List.length_drop]; omega)]
  · have e1 : min a n = n := Nat.min_eq_right (by omega)
    rw [e1, List.drop_eq_nil_of_le (show l.length ≤ n by omega), List.drop_eq_nil_of_le (show l.length ≤ a by omega), List.take_nil, List.take_nil]
theorem ls_cut (z : Str) (a b : Nat) : ls (cutS z (some (a : Int)) (some (b : Int))) = ((ls z).drop a).take (b - a) := by
  show (((z.cps.toList.drop (HT.sIx z.length 0 (some (a : Int)))).take (HT.sIx z.length z.length (some (b : Int)) - HT.sIx z.length 0 (some (a : Int)))).toArray).toList = _
  rw [HT.sIx_nat, HT.sIx_nat, List.toList_toArray]
  exact take_cut _ a b _ (len_ls z)
/-! ### tokens of a text -/
def low (x : Nat) : Prop := 97 ≤ x ∧ x ≤ 122
instance (x : Nat) : Decidable (low x) := inferInstanceAs (Decidable (_ ∧ _))
def wrd (x : Nat) : Prop := low x ∨ (88 ≤ x ∧ x ≤ 90)
instance (x : Nat) : Decidable (wrd x) := inferInstanceAs (Decidable (_ ∨ _))
def sgc (x : Nat) : Prop := x = 40 ∨ x = 41 ∨ x = 123 ∨ x = 125 ∨ x = 60 ∨ x = 61
instance (x : Nat) : Decidable (sgc x) := inferInstanceAs (Decidable (_ ∨ _))
/-- no small letter stands first -/
def Cl (r : List Nat) : Prop := ∀ x, r.head? = some x → ¬ low x
inductive Tk : List Nat → List Str → Prop where
  | nil : Tk [] []
  | sp {r : List Nat} {ts : List Str} (h : Tk r ts) : Tk (32 :: r) ts
  | word {c : Nat} {w r : List Nat} {ts : List Str} (hc : wrd c) (hw : ∀ x ∈ w, low x) (hr : Cl r) (h : Tk r ts) : Tk (c :: (w ++ r)) (tx (c :: w) :: ts)
  | sign {c : Nat} {r : List Nat} {ts : List Str} (hc : sgc c) (h : Tk r ts) : Tk (c :: r) (tx [c] :: ts)
theorem Tk.sps {r : List Nat} {ts : List Str} (h : Tk r ts) : ∀ k : Nat, Tk (List.replicate k 32 ++ r) ts
  | 0 => h
  | k + 1 => by
    rw [List.replicate_succ, List.cons_append]
    exact .sp (Tk.sps h k)
theorem cl_nil : Cl [] := fun x h => by cases h
theorem cl_of {c : Nat} {r : List Nat} (h : ¬ low c) : Cl (c :: r) := fun x e => by
  cases e
  exact h
/-- the signs that a formula's text is made of -/
def chr (x : Nat) : Prop := x = 32 ∨ sgc x ∨ wrd x
theorem Tk.chars {l : List Nat} {ts : List Str} (h : Tk l ts) : ∀ x ∈ l, chr x := by
  induction h with
  | nil => intro x h; cases h
  | sp h ih =>
    intro x hx
    rcases List.mem_cons.mp hx with e | hx
    · exact .inl e
    · exact ih x hx
  | word hc hw hr h ih =>
    intro x hx
    rcases List.mem_cons.mp hx with e | hx
    · exact e ▸ .inr (.inr hc)
    · rcases List.mem_append.mp hx with hx | hx
      · exact .inr (.inr (.inl (hw x hx)))
      · exact ih x hx
  | sign hc h ih =>
    intro x hx
    rcases List.mem_cons.mp hx with e | hx
    · exact e ▸ .inr (.inl hc)
    · exact ih x hx
def wdB : List Nat → Bool
  | [] => false
  | c :: w => decide (wrd c) && w.all fun x => decide (low x)
theorem tk_wd {c : Str} {r : List Nat} {us : List Str} (h : wdB (ls c) = true) (t : Tk r us) (hr : Cl r) : Tk (ls c ++ r) (c :: us) := by
  cases e : ls c with
  | nil =>
    rw [e] at h
    cases h
  | cons x w =>
    rw [e] at h
    unfold wdB at h
    rw [Bool.and_eq_true, decide_eq_true_iff, List.all_eq_true] at h
    have ec : c = tx (x :: w) := by rw [← e, tx_ls]
    rw [ec]
    exact .word h.1 (fun y hy => of_decide_eq_true (h.2 y hy)) hr t
theorem tk_sg {x : Nat} {c : Str} {r : List Nat} {us : List Str} (e : ls c = [x]) (h : sgc x) (t : Tk r us) : Tk (ls c ++ r) (c :: us) := by
  have ec : c = tx [x] := by rw [← e, tx_ls]
  rw [e, ec]
  exact .sign h t
/-! ### the text of a formula -/
def sgn (k : Str) : Str := if k = "before" then "<" else if k = "same" then "=" else k
def Fm.txt : Fm → Str
  | .rel k a b => if k = "letter" then a ++ "(" ++ b ++ ")" else a ++ " " ++ sgn k ++ " " ++ b
  | .nam c => "{" ++ c ++ "}"
  | .neg f => "not " ++ f.txt
  | .bin k f g => "(" ++ f.txt ++ " " ++ k ++ " " ++ g.txt ++ ")"
  | .qu k x f => k ++ " " ++ x ++ " " ++ f.txt
def Fm.toks : Fm → List Str
  | .rel k a b => if k = "letter" then [a, "(", b, ")"] else [a, sgn k, b]
  | .nam c => ["{", c, "}"]
  | .neg f => "not" :: f.toks
  | .bin k f g => "(" :: (f.toks ++ k :: (g.toks ++ [(")" : Str)]))
  | .qu k x f => k :: x :: f.toks
theorem mem3 {P : Str → Prop} {x a b c : Str} (h : x ∈ [a, b, c]) (ha : P a) (hb : P b) (hc : P c) : P x := by
  simp only [List.mem_cons, List.not_mem_nil, or_false] at h
  rcases h with h | h | h <;> rw [h] <;> assumption
theorem wd_abc {x : Str} (h : x ∈ abc) : wdB (ls x) = true := mem3 (P := fun x => wdB (ls x) = true) h (by decide +kernel) (by decide +kernel) (by decide +kernel)
theorem wd_xyz {x : Str} (h : x ∈ xyz) : wdB (ls x) = true := mem3 (P := fun x => wdB (ls x) = true) h (by decide +kernel) (by decide +kernel) (by decide +kernel)
theorem wd_XYZ {x : Str} (h : x ∈ XYZ) : wdB (ls x) = true := mem3 (P := fun x => wdB (ls x) = true) h (by decide +kernel) (by decide +kernel) (by decide +kernel)
theorem vrs_or {x : Str} (h : x ∈ vrs) : x ∈ xyz ∨ x ∈ XYZ := by
  simp only [vrs, xyz, XYZ, List.mem_cons, List.not_mem_nil, or_false] at h ⊢
  rcases h with h | h | h | h | h | h <;> simp [h]
theorem wd_vrs {x : Str} (h : x ∈ vrs) : wdB (ls x) = true := (vrs_or h).elim wd_xyz wd_XYZ
theorem wd_bin {k : Str} (h : k = "and" ∨ k = "or") : wdB (ls k) = true := by
  rcases h with h | h <;> rw [h] <;> decide +kernel
theorem wd_qu {k : Str} (h : k = "some" ∨ k = "all") : wdB (ls k) = true := by
  rcases h with h | h <;> rw [h] <;> decide +kernel
theorem wd_nm {c : Str} (h : NmOk c) : wdB (ls c) = true := by
  obtain ⟨h1, _, h3⟩ := h
  cases e : ls c with
  | nil =>
    have : (ls c).length = c.cps.size := by simp [ls]
    rw [e] at this
    rw [← this] at h1
    exact absurd h1 (by simp)
  | cons x w =>
    unfold wdB
    rw [Bool.and_eq_true, decide_eq_true_iff, List.all_eq_true]
    have hm : ∀ y ∈ x :: w, low y := fun y hy => h3 y (by rw [← e] at hy; exact hy)
    exact ⟨.inl (hm x (List.mem_cons_self ..)), fun y hy => decide_eq_true (hm y (List.mem_cons_of_mem _ hy))⟩
theorem ls_lp : ls "(" = [40] := by decide +kernel
theorem ls_rp : ls ")" = [41] := by decide +kernel
theorem ls_lb : ls "{" = [123] := by decide +kernel
theorem ls_rb : ls "}" = [125] := by decide +kernel
theorem ls_sp : ls " " = [32] := by decide +kernel
theorem ls_lt : ls "<" = [60] := by decide +kernel
theorem ls_eq : ls "=" = [61] := by decide +kernel
theorem ls_not : ls "not " = ls "not" ++ [32] := by decide +kernel
theorem cl_sp {r : List Nat} : Cl (32 :: r) := cl_of (by decide)
theorem sgn_tk {k a b : Str} (o : RelOk k a b) (hk : k ≠ "letter") {r : List Nat} {us : List Str} (t : Tk r us) (hr : Cl r) : Tk (ls (sgn k) ++ r) (sgn k :: us) := by
  rcases kd_rel o with e | e | e | e | e
  · exact absurd e hk
  · rw [e, show sgn "before" = "<" by decide +kernel]
    exact tk_sg ls_lt (by decide) t
  · rw [e, show sgn "next" = "next" by decide +kernel]
    exact tk_wd (by decide +kernel) t hr
  · rw [e, show sgn "same" = "=" by decide +kernel]
    exact tk_sg ls_eq (by decide) t
  · rw [e, show sgn "in" = "in" by decide +kernel]
    exact tk_wd (by decide +kernel) t hr
theorem rel_wd {k a b : Str} (o : RelOk k a b) (hk : k ≠ "letter") : wdB (ls a) = true ∧ wdB (ls b) = true := by
  cases o with
  | ltr => exact absurd rfl hk
  | pl _ ha hb => exact ⟨wd_xyz ha, wd_xyz hb⟩
  | el ha hb => exact ⟨wd_xyz ha, wd_XYZ hb⟩
theorem tk_fm : ∀ (f : Fm), f.Ok → ∀ {r : List Nat} {us : List Str}, Tk r us → Cl r → Tk (ls f.txt ++ r) (f.toks ++ us)
  | .rel k a b, o, r, us, t, hr => by
    by_cases hk : k = "letter"
    · subst hk
      have o' : RelOk "letter" a b := o
      have hab : a ∈ abc ∧ b ∈ xyz := by
        cases o' with
        | ltr ha hb => exact ⟨ha, hb⟩
        | pl hk => rcases hk with h | h | h <;> exact absurd h (by decide +kernel)
      rw [Fm.txt, if_pos rfl, Fm.toks, if_pos rfl]
      simp only [ls_app, List.append_assoc, List.cons_append, List.nil_append]
      refine tk_wd (wd_abc hab.1) (tk_sg ls_lp (by decide) (tk_wd (wd_xyz hab.2) (tk_sg ls_rp (by decide) t) ?_)) ?_
      · rw [ls_rp]; exact cl_of (by decide)
      · rw [ls_lp]; exact cl_of (by decide)
    · have o' : RelOk k a b := o
      rw [Fm.txt, if_neg hk, Fm.toks, if_neg hk]
      simp only [ls_app, List.append_assoc, List.cons_append, List.nil_append, ls_sp]
      have w := rel_wd o' hk
      exact tk_wd w.1 (.sp (sgn_tk o' hk (.sp (tk_wd w.2 t hr)) cl_sp)) cl_sp
  | .nam c, o, r, us, t, hr => by
    rw [Fm.txt, Fm.toks]
    simp only [ls_app, List.append_assoc, List.cons_append, List.nil_append]
    refine tk_sg ls_lb (by decide) (tk_wd (wd_nm o) (tk_sg ls_rb (by decide) t) ?_)
    rw [ls_rb]; exact cl_of (by decide)
  | .neg f, o, r, us, t, hr => by
    rw [Fm.txt, Fm.toks]
    simp only [ls_app, List.append_assoc, List.cons_append, List.nil_append, ls_not]
    exact tk_wd (by decide +kernel) (.sp (tk_fm f o t hr)) cl_sp
  | .bin k f g, o, r, us, t, hr => by
    rw [Fm.txt, Fm.toks]
    simp only [ls_app, List.append_assoc, List.cons_append, List.nil_append, ls_sp]
    refine tk_sg ls_lp (by decide) (tk_fm f o.2.1 (.sp (tk_wd (wd_bin o.1) (.sp (tk_fm g o.2.2 (tk_sg ls_rp (by decide) t) ?_)) cl_sp)) cl_sp)
    rw [ls_rp]; exact cl_of (by decide)
  | .qu k x f, o, r, us, t, hr => by
    rw [Fm.txt, Fm.toks]
    simp only [ls_app, List.append_assoc, List.cons_append, List.nil_append, ls_sp]
    exact tk_wd (wd_qu o.1) (.sp (tk_wd (wd_vrs o.2.1) (.sp (tk_fm f o.2.2 t hr)) cl_sp)) cl_sp
theorem tk_txt {f : Fm} (o : f.Ok) : Tk (ls f.txt) f.toks := by
  have := tk_fm f o .nil cl_nil
  rw [List.append_nil, List.append_nil] at this
  exact this
/-! ### its length -/
theorem len_mem {L : List Str} {n : Nat} (h : (L.all fun c => decide (c.length ≤ n)) = true) {c : Str} (hc : c ∈ L) : c.length ≤ n := of_decide_eq_true (List.all_eq_true.mp h c hc)
theorem len_vrs {x : Str} (h : x ∈ vrs) : x.length ≤ 1 := len_mem (L := vrs) (by decide +kernel) h
theorem len_abc1 {x : Str} (h : x ∈ abc) : x.length ≤ 1 := len_mem (L := abc) (by decide +kernel) h
theorem len_sgn {k a b : Str} (o : RelOk k a b) : (sgn k).length ≤ 6 := by
  rcases kd_rel o with e | e | e | e | e <;> rw [e] <;> decide +kernel
theorem len_rel {k a b : Str} (o : RelOk k a b) : a.length ≤ 1 ∧ b.length ≤ 1 := by
  cases o with
  | ltr ha hb => exact ⟨len_abc1 ha, len_vrs (xyz_sub _ hb)⟩
  | pl _ ha hb => exact ⟨len_vrs (xyz_sub _ ha), len_vrs (xyz_sub _ hb)⟩
  | el ha hb => exact ⟨len_vrs (xyz_sub _ ha), len_vrs (XYZ_sub _ hb)⟩
theorem l_lp : ("(" : Str).length = 1 := by decide +kernel
theorem l_rp : (")" : Str).length = 1 := by decide +kernel
theorem l_lb : ("{" : Str).length = 1 := by decide +kernel
theorem l_rb : ("}" : Str).length = 1 := by decide +kernel
theorem l_sp : (" " : Str).length = 1 := by decide +kernel
theorem l_not : ("not " : Str).length = 4 := by decide +kernel
theorem len_bin {k : Str} (h : k = "and" ∨ k = "or") : k.length ≤ 3 := by rcases h with h | h <;> rw [h] <;> decide +kernel
theorem len_qu {k : Str} (h : k = "some" ∨ k = "all") : k.length ≤ 4 := by rcases h with h | h <;> rw [h] <;> decide +kernel
theorem Fm.txt_len : ∀ f : Fm, f.Ok → f.txt.length ≤ 10 * f.size
  | .rel k a b, o => by
    have o' : RelOk k a b := o
    have h := len_rel o'
    have hs := len_sgn o'
    rw [Fm.txt, Fm.size]
    split <;> simp only [len_app, l_lp, l_rp, l_sp] <;> omega
  | .nam c, o => by
    have : c.length ≤ 8 := o.2.1
    rw [Fm.txt, Fm.size]
    simp only [len_app, l_lb, l_rb]
    omega
  | .neg f, o => by
    have := Fm.txt_len f o
    rw [Fm.txt, Fm.size]
    simp only [len_app, l_not]
    omega
  | .bin k f g, o => by
    have h1 := Fm.txt_len f o.2.1
    have h2 := Fm.txt_len g o.2.2
    have h3 := len_bin o.1
    rw [Fm.txt, Fm.size]
    simp only [len_app, l_lp, l_rp, l_sp]
    omega
  | .qu k x f, o => by
    have h1 := Fm.txt_len f o.2.2
    have h3 := len_qu o.1
    have h4 := len_vrs o.2.1
    rw [Fm.txt, Fm.size]
    simp only [len_app, l_sp]
    omega
theorem Fm.txt_640 {f : Fm} (o : f.Ok) (h : f.dep ≤ 6) : f.txt.length ≤ 640 := by
  have h1 := f.txt_len o
  have h2 := f.size_le
  have h3 : 2 ^ f.dep ≤ 2 ^ 6 := Nat.pow_le_pow_right (by decide) h
  have e : 2 ^ 6 = 64 := by decide
  omega
theorem Fm.txt_app {a b : Str} {n m k : Nat} (ha : a.length ≤ n) (hb : b.length ≤ m) (h : n + m ≤ k) : (a ++ b).length ≤ k := by
  rw [len_app]
  omega
end SW

set_option Elab.async false
set_option linter.all false
set_option maxRecDepth 100000
set_option maxHeartbeats 4000000
namespace SW
open PySem PySem.Spec PyProof.Rows L2
/-! ### a text with more spaces and fewer -/
def pun (o : Option Nat) : Prop := ∃ x, o = some x ∧ sgc x
def spc (x : Nat) : Prop := x = 32 ∨ sgc x
instance (x : Nat) : Decidable (spc x) := inferInstanceAs (Decidable (_ ∨ _))
inductive Lo : Option Nat → List Nat → List Nat → Prop where
  | nil {p : Option Nat} : Lo p [] []
  | drop {p : Option Nat} {r o : List Nat} (h : pun p ∨ pun r.head?) (t : Lo (some 32) r o) : Lo p (32 :: r) o
  | keep {p : Option Nat} {c k : Nat} {r o : List Nat} (h : k = 0 ∨ spc c) (t : Lo (some c) r o) : Lo p (c :: r) (c :: (List.replicate k 32 ++ o))
theorem low_ne {c : Nat} (h : low c) : c ≠ 32 ∧ ¬ sgc c := by
  unfold low at h
  unfold sgc
  omega
theorem wrd_ne {c : Nat} (h : wrd c) : c ≠ 32 ∧ ¬ sgc c := by
  unfold wrd low at h
  unfold sgc
  omega
/-- a run of letters stays as it is -/
theorem Lo.run : ∀ {w : List Nat} {p : Option Nat} {r o : List Nat}, (∀ x ∈ w, wrd x) → Lo p (w ++ r) o → (¬ pun p) → ∃ q o', o = w ++ o' ∧ Lo q r o' ∧ ¬ pun q
  | [], p, r, o, _, h, hp => ⟨p, o, rfl, h, hp⟩
  | c :: w, p, r, o, hw, h, hp => by
    have hc := hw c (List.mem_cons_self ..)
    have hn := wrd_ne hc
    rw [List.cons_append] at h
    cases h with
    | drop _ _ => exact absurd rfl hn.1
    | @keep _ _ k _ o2 hk t =>
      have k0 : k = 0 := by
        rcases hk with hk | hk | hk
        · exact hk
        · exact absurd hk hn.1
        · exact absurd hk hn.2
      subst k0
      have hp2 : ¬ pun (some c) := fun ⟨x, e, hx⟩ => by
        cases e
        exact hn.2 hx
      obtain ⟨q, o', e, t', hq⟩ := Lo.run (w := w) (fun x hx => hw x (List.mem_cons_of_mem _ hx)) t hp2
      refine ⟨q, o', ?_, t', hq⟩
      rw [e]
      rfl
theorem Lo.cl {q : Option Nat} {r o : List Nat} (h : Lo q r o) (hq : ¬ pun q) (hr : Cl r) : Cl o := by
  cases h with
  | nil => exact cl_nil
  | @drop _ r' o' h t =>
    rcases h with h | h
    · exact absurd h hq
    · obtain ⟨x, e, hx⟩ := h
      cases r' with
      | nil => cases e
      | cons y r'' =>
        cases e
        cases t with
        | drop _ _ => exact absurd hx (by decide)
        | keep _ _ => exact cl_of fun hl => (low_ne hl).2 hx
  | keep h t => exact cl_of (hr _ rfl)
theorem tk_lo {l : List Nat} {ts : List Str} (h : Tk l ts) : ∀ {p : Option Nat} {o : List Nat}, Lo p l o → Tk o ts := by
  induction h with
  | nil =>
    intro p o q
    cases q
    exact .nil
  | sp h ih =>
    intro p o q
    cases q with
    | drop _ t => exact ih t
    | keep _ t => exact .sp (Tk.sps (ih t) _)
  | @word c w r ts hc hw hr h ih =>
    intro p o q
    have hn := wrd_ne hc
    cases q with
    | drop _ _ => exact absurd rfl hn.1
    | @keep _ _ k _ o2 hk t =>
      have k0 : k = 0 := by
        rcases hk with hk | hk | hk
        · exact hk
        · exact absurd hk hn.1
        · exact absurd hk hn.2
      subst k0
      have hp2 : ¬ pun (some c) := fun ⟨x, e, hx⟩ => by
        cases e
        exact hn.2 hx
      obtain ⟨q, o', e, t', hq⟩ := Lo.run (fun x hx => .inl (hw x hx)) t hp2
      rw [e]
      exact .word hc hw (t'.cl hq hr) (ih t')
  | sign hc h ih =>
    intro p o q
    cases q with
    | drop _ _ => exact absurd hc (by decide)
    | keep _ t => exact .sign hc (Tk.sps (ih t) _)
theorem Lo.len {p : Option Nat} {l o : List Nat} {m : Nat} (h : Lo p l o) : (∀ x, x ∈ l → True) → True := fun _ => trivial
/-- how the loop goes: what is made of the first i signs -/
def pvo (l : List Nat) (i : Nat) : Option Nat := if i = 0 then none else l[i - 1]?
theorem pvo_succ {l : List Nat} {i : Nat} {c : Nat} (h : l[i]? = some c) : pvo l (i + 1) = some c := by
  unfold pvo
  rw [if_neg (by omega)]
  exact h
def LoI (l : List Nat) (i : Nat) (out : List Nat) : Prop := ∀ o', Lo (pvo l i) (l.drop i) o' → Lo none l (out ++ o')
theorem loI_zero {l : List Nat} : LoI l 0 [] := fun o' h => h
theorem drop_at {l : List Nat} {i c : Nat} (h : l[i]? = some c) : l.drop i = c :: l.drop (i + 1) := by
  obtain ⟨hl, e⟩ := List.getElem?_eq_some_iff.mp h
  rw [List.drop_eq_getElem_cons hl, e]
theorem loI_keep {l : List Nat} {i c k : Nat} {out : List Nat} (h : LoI l i out) (e : l[i]? = some c) (hk : k = 0 ∨ spc c) : LoI l (i + 1) (out ++ (c :: List.replicate k 32)) := fun o' t => by
  rw [pvo_succ e] at t
  have := h (c :: (List.replicate k 32 ++ o')) (by rw [drop_at e]; exact .keep hk t)
  rw [List.append_assoc, List.cons_append]
  exact this
theorem loI_drop {l : List Nat} {i : Nat} {out : List Nat} (h : LoI l i out) (e : l[i]? = some 32) (hp : pun (pvo l i) ∨ pun l[i + 1]?) : LoI l (i + 1) out := fun o' t => by
  rw [pvo_succ e] at t
  refine h o' ?_
  rw [drop_at e]
  refine .drop ?_ t
  rw [List.head?_drop]
  exact hp
theorem loI_end {l out : List Nat} (h : LoI l l.length out) : Lo none l out := by
  have := h [] (by rw [List.drop_eq_nil_of_le (Nat.le_refl _)]; exact .nil)
  rw [List.append_nil] at this
  exact this
/-! ### a word's end -/
def tw (l : List Nat) : List Nat := l.takeWhile fun x => decide (low x)
theorem tw_app : ∀ {w r : List Nat}, (∀ x ∈ w, low x) → Cl r → tw (w ++ r) = w
  | [], [], _, _ => rfl
  | [], x :: r, _, h => by
    unfold tw
    rw [List.nil_append, List.takeWhile_cons, if_neg]
    rw [decide_eq_true_iff]
    exact h x rfl
  | c :: w, r, hw, h => by
    unfold tw
    rw [List.cons_append, List.takeWhile_cons, if_pos (decide_eq_true (hw c (List.mem_cons_self ..)))]
    have := tw_app (w := w) (fun x hx => hw x (List.mem_cons_of_mem _ hx)) h
    unfold tw at this
    rw [this]
def tend (l : List Nat) (i : Nat) : Nat := i + 1 + match l[i]? with
  | some c => if wrd c then (tw (l.drop (i + 1))).length else 0
  | none => 0
theorem tend_wrd {l : List Nat} {i c : Nat} (e : l[i]? = some c) (h : wrd c) : tend l i = i + 1 + (tw (l.drop (i + 1))).length := by
  unfold tend
  rw [e]
  show i + 1 + (if wrd c then _ else 0) = _
  rw [if_pos h]
theorem tend_not {l : List Nat} {i c : Nat} (e : l[i]? = some c) (h : ¬ wrd c) : tend l i = i + 1 := by
  unfold tend
  rw [e]
  show i + 1 + (if wrd c then _ else 0) = _
  rw [if_neg h]
theorem tw_len (l : List Nat) : (tw l).length ≤ l.length := (List.takeWhile_sublist _).length_le
/-- the next piece of a text of known tokens -/
theorem tk_step {l : List Nat} {i c : Nat} {ts : List Str} (e : l[i]? = some c) (t : Tk (l.drop i) ts) :
    tend l i ≤ l.length ∧ ((c = 32 ∧ Tk (l.drop (tend l i)) ts) ∨ (c ≠ 32 ∧ ∃ ts', ts = tx ((l.drop i).take (tend l i - i)) :: ts' ∧ Tk (l.drop (tend l i)) ts')) := by
  have hi : i < l.length := (List.getElem?_eq_some_iff.mp e).1
  have ed := drop_at e
  rw [ed] at t
  generalize hq : l.drop (i + 1) = q at t
  cases t with
  | sp h =>
    have et := tend_not (l := l) e (by decide)
    rw [et, hq]
    exact ⟨by omega, .inl ⟨rfl, h⟩⟩
  | @word _ w r ts hc hw hr h =>
    have et := tend_wrd e hc
    rw [hq, tw_app hw hr] at et
    have el : l.length = i + 1 + (w.length + r.length) := by
      have := congrArg List.length hq
      rw [List.length_drop, List.length_append] at this
      omega
    refine ⟨by omega, .inr ⟨(wrd_ne hc).1, ts, ?_, ?_⟩⟩
    · congr 2
      rw [ed, hq, et, show i + 1 + w.length - i = w.length + 1 by omega, List.take_succ_cons, List.take_left]
    · rw [et, ← List.drop_drop, hq, List.drop_left]
      exact h
  | @sign _ _ ts hc h =>
    have hn : ¬ wrd c := fun hw => (wrd_ne hw).2 hc
    have et := tend_not e hn
    rw [et, hq]
    refine ⟨by omega, .inr ⟨?_, ts, ?_, h⟩⟩
    · intro h; subst h; exact absurd hc (by decide)
    · congr 2
      rw [ed, show i + 1 - i = 1 by omega]
      rfl
/-! ### what is begun -/
inductive Fr where
  | nt
  | qf (k x : Str)
  | op (k : Str) (g : Fm)
  | bn (k : Str) (f : Fm)
def Fr.tl : Fr → List Str
  | .nt => []
  | .qf _ _ => []
  | .op k g => k :: (g.toks ++ [(")" : Str)])
  | .bn _ _ => [(")" : Str)]
def Fr.Ok : Fr → Prop
  | .nt => True
  | .qf k x => (k = "some" ∨ k = "all") ∧ x ∈ vrs
  | .op k g => (k = "and" ∨ k = "or") ∧ g.Ok
  | .bn k f => (k = "and" ∨ k = "or") ∧ f.Ok
def Fr.plug : Fr → Fm → Fm
  | .nt, f => .neg f
  | .qf k x, f => .qu k x f
  | .op k g, f => .bin k f g
  | .bn k f1, f => .bin k f1 f
/-- behind a formula within: the larger one, or the next one to read -/
def Fr.cl : Fr → Fm → Fm ⊕ (Fm × Fr)
  | .nt, f => .inl (.neg f)
  | .qf k x, f => .inl (.qu k x f)
  | .op k g, f => .inr (g, .bn k f)
  | .bn k f1, f => .inl (.bin k f1 f)
def Fm.opn : Fm → Option (Fm × Fr)
  | .rel _ _ _ => none
  | .nam _ => none
  | .neg f => some (f, .nt)
  | .bin k f g => some (f, .op k g)
  | .qu k x f => some (f, .qf k x)
def Fm.wk : Fm → Nat
  | .rel _ _ _ => 1
  | .nam _ => 1
  | .neg f => f.wk + 2
  | .bin _ f g => f.wk + g.wk + 3
  | .qu _ _ f => f.wk + 2
def Fr.wk : Fr → Nat
  | .nt => 1
  | .qf _ _ => 1
  | .op _ g => g.wk + 2
  | .bn _ _ => 1
def tls : List Fr → List Str
  | [] => []
  | fr :: c => fr.tl ++ tls c
def plugs : List Fr → Fm → Fm
  | [], f => f
  | fr :: c, f => plugs c (fr.plug f)
def wks : List Fr → Nat
  | [] => 0
  | fr :: c => fr.wk + wks c
def FrOks : List Fr → Prop
  | [] => True
  | fr :: c => fr.Ok ∧ FrOks c
theorem Fm.opn_toks {g f : Fm} {fr : Fr} (h : g.opn = some (f, fr)) : fr.plug f = g ∧ (g.Ok → f.Ok ∧ fr.Ok) ∧ g.wk = f.wk + fr.wk + 1 := by
  cases g with
  | rel k a b => cases h
  | nam c => cases h
  | neg f => cases h; exact ⟨rfl, fun o => ⟨o, trivial⟩, rfl⟩
  | bin k f g => cases h; exact ⟨rfl, fun o => ⟨o.2.1, o.1, o.2.2⟩, by rw [Fm.wk, Fr.wk]; omega⟩
  | qu k x f => cases h; exact ⟨rfl, fun o => ⟨o.2.2, o.1, o.2.1⟩, rfl⟩
theorem Fm.atom_wk {g : Fm} (h : g.opn = none) : g.wk = 1 := by
  cases g <;> first | rfl | cases h
theorem Fr.cl_inl {fr : Fr} {f h : Fm} (e : fr.cl f = .inl h) : fr.plug f = h ∧ fr.wk = 1 ∧ (fr.Ok → f.Ok → h.Ok) := by
  cases fr with
  | nt => cases e; exact ⟨rfl, rfl, fun _ o => o⟩
  | qf k x => cases e; exact ⟨rfl, rfl, fun o p => ⟨o.1, o.2, p⟩⟩
  | op k g => cases e
  | bn k f1 => cases e; exact ⟨rfl, rfl, fun o p => ⟨o.1, o.2, p⟩⟩
theorem Fr.cl_inr {fr fr' : Fr} {f g : Fm} (e : fr.cl f = .inr (g, fr')) : fr.plug f = fr'.plug g ∧ fr.wk = g.wk + fr'.wk + 1 ∧ (fr.Ok → f.Ok → g.Ok ∧ fr'.Ok) := by
  cases fr with
  | nt => cases e
  | qf k x => cases e
  | op k g => cases e; exact ⟨rfl, by rw [Fr.wk, Fr.wk], fun o p => ⟨o.2, o.1, p⟩⟩
  | bn k f1 => cases e
/-! ### how the heap bears tokens and what is begun -/
inductive Al {α : Type} (R : V → α → Prop) : List V → List α → Prop where
  | nil : Al R [] []
  | cons {v : V} {x : α} {vs : List V} {xs : List α} (h : R v x) (t : Al R vs xs) : Al R (v :: vs) (x :: xs)
theorem Al.imp {α : Type} {R S : V → α → Prop} (f : ∀ v x, R v x → S v x) : ∀ {vs : List V} {xs : List α}, Al R vs xs → Al S vs xs
  | _, _, .nil => .nil
  | _, _, .cons h t => .cons (f _ _ h) (Al.imp f t)
theorem Al.app {α : Type} {R : V → α → Prop} : ∀ {vs us : List V} {xs ys : List α}, Al R vs xs → Al R us ys → Al R (vs ++ us) (xs ++ ys)
  | _, _, _, _, .nil, h => h
  | _, _, _, _, .cons h t, u => .cons h (Al.app t u)
theorem Al.len {α : Type} {R : V → α → Prop} : ∀ {vs : List V} {xs : List α}, Al R vs xs → vs.length = xs.length
  | _, _, .nil => rfl
  | _, _, .cons h t => by rw [List.length_cons, List.length_cons, Al.len t]
def TkV (K : PySem.W.Frag) (H : Hp) (v : V) (t : Str) : Prop := ∃ p n, v = .ref p ∧ SqT K H p [.int n, .str t]
def FrV (K : PySem.W.Frag) (H : Hp) (v : V) : Fr → Prop
  | .nt => ∃ p, v = .ref p ∧ SqT K H p [.str "not"]
  | .qf k x => ∃ p, v = .ref p ∧ SqT K H p [.str k, .str x]
  | .op _ _ => ∃ p, v = .ref p ∧ SqT K H p [.str "("]
  | .bn k f => ∃ p x, v = .ref p ∧ SqT K H p [.str k, x] ∧ FV K H x f
theorem TkV.tp {K : PySem.W.Frag} {H H' : Hp} (t : Tp H H') (v : V) (s : Str) (h : TkV K H v s) : TkV K H' v s := by
  obtain ⟨p, n, e, q⟩ := h
  exact ⟨p, n, e, t.sq q⟩
theorem FrV.tp {K : PySem.W.Frag} {H H' : Hp} (t : Tp H H') (v : V) (fr : Fr) (h : FrV K H v fr) : FrV K H' v fr := by
  cases fr with
  | nt => obtain ⟨p, e, q⟩ := h; exact ⟨p, e, t.sq q⟩
  | qf k x => obtain ⟨p, e, q⟩ := h; exact ⟨p, e, t.sq q⟩
  | op k g => obtain ⟨p, e, q⟩ := h; exact ⟨p, e, t.sq q⟩
  | bn k f => obtain ⟨p, x, e, q, r⟩ := h; exact ⟨p, x, e, t.sq q, FV.tp t _ r⟩
/-- a list whose last item comes first -/
def Stk {α : Type} (R : Hp → V → α → Prop) (H : Hp) (a : Addr) (xs : List α) : Prop := ∃ vs, H a = some (.lst vs.reverse) ∧ Al (R H) vs xs
abbrev TokL (K : PySem.W.Frag) (H : Hp) (a : Addr) (ts : List Str) : Prop := Stk (TkV K) H a ts
abbrev FrL (K : PySem.W.Frag) (H : Hp) (a : Addr) (c : List Fr) : Prop := Stk (FrV K) H a c
section
variable {α : Type} {R : Hp → V → α → Prop} {H H' : Hp} {a : Addr} {x : α} {xs : List α}
theorem Stk.lst (h : Stk R H a xs) : ∃ z, H a = some (.lst z) := by
  obtain ⟨vs, e, _⟩ := h
  exact ⟨_, e⟩
theorem Stk.keep (h : Stk R H a xs) (hR : ∀ v x, R H v x → R H' v x) (k : ∀ o, H a = some o → H' a = some o) : Stk R H' a xs := by
  obtain ⟨vs, e, q⟩ := h
  exact ⟨vs, k _ e, q.imp hR⟩
/-- its last item is taken -/
theorem Stk.pop (h : Stk R H a (x :: xs)) : ∃ v vs, H a = some (.lst (vs.reverse ++ [v])) ∧ R H v x ∧ Al (R H) vs xs := by
  obtain ⟨vs, e, q⟩ := h
  cases q with | @cons v _ vs' _ h t => exact ⟨v, vs', by rw [e, List.reverse_cons], h, t⟩
theorem Stk.push {v : V} {vs : List V} (e : H' a = some (.lst (vs.reverse ++ [v]))) (h : R H' v x) (t : Al (R H') vs xs) : Stk R H' a (x :: xs) := ⟨v :: vs, by rw [e, List.reverse_cons], .cons h t⟩
end
theorem last_get {vs : List V} {v : V} : (vs ++ [v])[(vs ++ [v]).length - 1]? = some v := by
  rw [List.length_append, List.length_singleton, Nat.add_sub_cancel, List.getElem?_append_right (Nat.le_refl _), Nat.sub_self]
  rfl
end SW

set_option Elab.async false
set_option linter.all false
set_option maxRecDepth 100000
set_option maxHeartbeats 4000000
namespace SW
open PySem PySem.Spec PyProof.Rows L2
/-! ### a dict of the module from texts to texts -/
inductive HS (K : PySem.W.Frag) (a : Addr) : List (Str × Str) → Prop where
  | nil : HS K a []
  | cons {k v : Str} {u : Value} {kvs : List (Str × Str)} (e : PySem.W.nsIn K a k = some (some u)) (r : L2.RelV (.str v) u) (t : HS K a kvs) : HS K a ((k, v) :: kvs)
def KdS (K : PySem.W.Frag) (w : World) (a : Addr) (kvs : List (Str × Str)) : Prop := KdL K w a (kvs.map fun p => p.1) ∧ ∀ p ∈ kvs, KDct K w a p.1 (.str p.2)
theorem HS.get {K : PySem.W.Frag} {a : Addr} {kvs : List (Str × Str)} (h : HS K a kvs) : ∀ p ∈ kvs, ∃ u, PySem.W.nsIn K a p.1 = some (some u) ∧ L2.RelV (.str p.2) u := by
  induction h with
  | nil => intro p hp; cases hp
  | cons e r t ih =>
    intro p hp
    rcases List.mem_cons.mp hp with q | hp
    · rw [q]; exact ⟨_, e, r⟩
    · exact ih p hp
theorem kds_mk {K : PySem.W.Frag} {w : World} {a : Addr} {es : Array DictEntry} {n : Nat} {kvs : List (Str × Str)} (l : K.lookup a = some ⟨.type "dict", none, .dict es n, #[]⟩) (lit : PySem.W.KeysLit w.params es.toList) (lo : (a == sysModules) = false)
    (he : es.toList.map keyS = (kvs.map fun p => p.1).map some) (nd : (kvs.map fun p => p.1).Nodup) (hz : (kvs.map fun p => p.1).length ≤ sizeLine) (hs : HS K a kvs) : KdS K w a kvs :=
  ⟨⟨es, n, ⟨l, lit, lo⟩, he, nd, hz⟩, fun p hp => by
    obtain ⟨u, e, r⟩ := hs.get p hp
    exact ⟨es, n, u, l, lit, e, r⟩⟩
theorem KdS.of {K : PySem.W.Frag} {w : World} {a : Addr} {kvs : List (Str × Str)} (h : KdS K w a kvs) {k v : Str} (m : (k, v) ∈ kvs) : KDct K w a k (.str v) := h.2 _ m
abbrev sgnT : List (Str × Str) := [("before", "<"), ("next", "next"), ("same", "="), ("in", "in")]
abbrev kndT : List (Str × Str) := [("<", "before"), ("next", "next"), ("=", "same"), ("in", "in")]
theorem sgn_mem {k a b : Str} (o : RelOk k a b) (hk : k ≠ "letter") : (k, sgn k) ∈ sgnT := by
  rcases kd_rel o with e | e | e | e | e
  · exact absurd e hk
  all_goals (rw [e]; decide +kernel)
theorem knd_mem {k a b : Str} (o : RelOk k a b) (hk : k ≠ "letter") : (sgn k, k) ∈ kndT := by
  rcases kd_rel o with e | e | e | e | e
  · exact absurd e hk
  all_goals (rw [e]; decide +kernel)
/-! ### lengths -/
theorem fit {n : Nat} (h : n ≤ 100000) : n ≤ sizeLine := Nat.le_trans h (by decide)
/-! ### signs of known texts -/
theorem ls_low : ls "abcdefghijklmnopqrstuvwxyz" = (List.range 26).map fun x => x + 97 := by decide +kernel
theorem mem_low {c : Nat} : c ∈ ls "abcdefghijklmnopqrstuvwxyz" ↔ low c := by
  rw [ls_low, List.mem_map]
  unfold low
  constructor
  · rintro ⟨x, hx, rfl⟩
    have := List.mem_range.mp hx
    omega
  · intro h
    exact ⟨c - 97, List.mem_range.mpr (by omega), by omega⟩
theorem mem_set {c : Nat} : c ∈ ls "XYZ" ↔ 88 ≤ c ∧ c ≤ 90 := by
  rw [show ls "XYZ" = [88, 89, 90] by decide +kernel]
  simp only [List.mem_cons, List.not_mem_nil, or_false]
  omega
theorem mem_sgn {c : Nat} : c ∈ ls "(){}<=" ↔ sgc c := by
  rw [show ls "(){}<=" = [40, 41, 123, 125, 60, 61] by decide +kernel]
  simp only [List.mem_cons, List.not_mem_nil, or_false]
  exact Iff.rfl
theorem mem_sgs {c : Nat} : c ∈ ls " (){}<=" ↔ spc c := by
  rw [show ls " (){}<=" = [32, 40, 41, 123, 125, 60, 61] by decide +kernel]
  simp only [List.mem_cons, List.not_mem_nil, or_false]
  exact Iff.rfl
theorem mem_chr {c : Nat} (h : chr c) : c ∈ ls " (){}<=XYZabcdefghijklmnopqrstuvwxyz" := by
  rw [show ls " (){}<=XYZabcdefghijklmnopqrstuvwxyz" = [32, 40, 41, 123, 125, 60, 61, 88, 89, 90] ++ (List.range 26).map (fun x => x + 97) by decide +kernel]
  rw [List.mem_append, List.mem_map]
  rcases h with h | h | h | h
  · left; rw [h]; decide
  · left
    unfold sgc at h
    simp only [List.mem_cons, List.not_mem_nil, or_false]
    omega
  · right
    unfold low at h
    exact ⟨c - 97, List.mem_range.mpr (by omega), by omega⟩
  · left
    simp only [List.mem_cons, List.not_mem_nil, or_false]
    omega
theorem wrd_mem {c : Nat} : wrd c ↔ c ∈ ls "abcdefghijklmnopqrstuvwxyz" ∨ c ∈ ls "XYZ" := by rw [mem_low, mem_set]; exact Iff.rfl
theorem at_ls {z : Str} {n c : Nat} (h : (ls z)[n]? = some c) {i : Int} (e : i = (n : Int)) : atI z.cps.toList i = some c := by
  rw [e]
  exact atI_nat h
theorem tw_get {l : List Nat} {k c : Nat} (h : l[k]? = some c) (hk : k = (tw l).length) : ¬ low c := by
  induction l generalizing k with
  | nil => cases h
  | cons x r ih =>
    unfold tw at hk
    rw [List.takeWhile_cons] at hk
    by_cases hx : low x
    · rw [if_pos (decide_eq_true hx), List.length_cons] at hk
      subst hk
      exact ih (k := (tw r).length) h rfl
    · rw [if_neg (fun z => hx (of_decide_eq_true z))] at hk
      subst hk
      cases h
      exact hx
theorem tw_lt {l : List Nat} {k c : Nat} (h : l[k]? = some c) (hk : k < (tw l).length) : low c := by
  induction l generalizing k with
  | nil => cases h
  | cons x r ih =>
    unfold tw at hk
    rw [List.takeWhile_cons] at hk
    by_cases hx : low x
    · rw [if_pos (decide_eq_true hx), List.length_cons] at hk
      cases k with
      | zero => cases h; exact hx
      | succ k => exact ih (k := k) h (by unfold tw; omega)
    · rw [if_neg (fun z => hx (of_decide_eq_true z))] at hk
      exact absurd hk (by simp)
end SW

set_option Elab.async false
set_option linter.all false
set_option maxRecDepth 100000
set_option maxHeartbeats 4000000
namespace SW
open PySem PySem.Spec PyProof.Rows L2
/-! ### the text of a word, read: what is found, or the error -/
def dig (x : Nat) : Prop := 48 ≤ x ∧ x ≤ 57
instance (x : Nat) : Decidable (dig x) := inferInstanceAs (Decidable (_ ∧ _))
def dw (l : List Nat) : List Nat := l.takeWhile fun x => decide (dig x)
/-- errors: a text that is not valid at a place; more than a limit -/
inductive WEr where
  | it (n : Nat)
  | tl (n : Nat)
  deriving DecidableEq
def grp : List W → W
  | [] => .emp
  | [x] => x
  | x :: y :: r => .join (x :: y :: r)
abbrev mxc : Nat := 1000000000000000000000000000000
def numEnd (l : List Nat) (s : Nat) : Except WEr Nat :=
  if dw (l.drop s) = [] ∨ ((dw (l.drop s)).head? = some 48 ∧ dw (l.drop s) ≠ [48]) ∨ mxc < NumText.digitsVal (dw (l.drop s)) then .error (.it s) else .ok (s + (dw (l.drop s)).length)
def nmLen (l : List Nat) (s : Nat) : Nat := min 8 (tw (l.drop s)).length
def nmEnd (l : List Nat) (s : Nat) : Except WEr Nat :=
  if nmLen l s = 0 ∨ l[s + nmLen l s]? ≠ some 125 then .error (.it (s + nmLen l s)) else .ok (s + nmLen l s)
/-- l from i up to j -/
def cutL (l : List Nat) (i j : Nat) : List Nat := (l.drop i).take (j - i)
/-- a part behind ps -/
def rdPart (l : List Nat) (i c : Nat) (ps : List W) : Except WEr (Nat × List W) :=
  if c = 97 ∨ c = 98 ∨ c = 99 then .ok (i + 1, ps ++ [.ltr (tx [c])])
  else if c = 123 then match nmEnd l (i + 1) with
    | .error e => .error e
    | .ok e => .ok (e + 1, ps ++ [.nam (tx (cutL l (i + 1) e))])
  else .error (.it i)
/-- a suffix behind x -/
def rdSuf (l : List Nat) (i c : Nat) (ps : List W) (x : W) : Except WEr (Nat × List W) :=
  if c = 94 then match numEnd l (i + 1) with
    | .error e => .error e
    | .ok e => .ok (e, ps ++ [.times x ((NumText.digitsVal (cutL l (i + 1) e) : Nat) : Int)])
  else .ok (i + 1, ps ++ [if c = 62 then .right x else .left x])
def onTop (r : List (List W)) : Except WEr (Nat × List W) → Except WEr (Nat × List (List W))
  | .error e => .error e
  | .ok (i, ps) => .ok (i, ps :: r)
/-- one step: the innermost group stands first -/
def rdStep (l : List Nat) (i c : Nat) : List (List W) → Except WEr (Nat × List (List W))
  | [] => .error (.it i)
  | ps :: r =>
    if c = 40 then (if 8 < (ps :: r).length then .error (.tl 8) else .ok (i + 1, [] :: ps :: r))
    else if c = 41 ∧ r ≠ [] then (match r with
      | [] => .error (.it i)
      | q :: r2 => .ok (i + 1, (q ++ [grp ps]) :: r2))
    else if c = 94 ∨ c = 62 ∨ c = 60 then (match ps.getLast? with
      | some x => onTop r (rdSuf l i c ps.dropLast x)
      | none => onTop r (rdPart l i c ps))
    else onTop r (rdPart l i c ps)
/-- all steps -/
inductive Rd (l : List Nat) : Nat → List (List W) → Except WEr (List (List W)) → Prop where
  | done {i : Nat} {st : List (List W)} (h : l.length ≤ i) : Rd l i st (.ok st)
  | err {i c : Nat} {st : List (List W)} {e : WEr} (h : l[i]? = some c) (s : rdStep l i c st = .error e) : Rd l i st (.error e)
  | step {i c j : Nat} {st st' : List (List W)} {o : Except WEr (List (List W))} (h : l[i]? = some c) (s : rdStep l i c st = .ok (j, st')) (t : Rd l j st' o) : Rd l i st o
/-- the whole: the length, the groups that stay open, the depth -/
inductive RdW (l : List Nat) : Except WEr W → Prop where
  | long (h : 200 < l.length) : RdW l (.error (.tl 200))
  | bad {e : WEr} (h : l.length ≤ 200) (r : Rd l 0 [[]] (.error e)) : RdW l (.error e)
  | opn {p q : List W} {r : List (List W)} (h : l.length ≤ 200) (t : Rd l 0 [[]] (.ok (p :: q :: r))) : RdW l (.error (.it l.length))
  | deep {ps : List W} (h : l.length ≤ 200) (t : Rd l 0 [[]] (.ok [ps])) (d : 12 < (grp ps).dep) : RdW l (.error (.tl 12))
  | ok {ps : List W} (h : l.length ≤ 200) (t : Rd l 0 [[]] (.ok [ps])) (d : (grp ps).dep ≤ 12) : RdW l (.ok (grp ps))
theorem numEnd_lt {l : List Nat} {s e : Nat} (h : numEnd l s = .ok e) : s < e ∧ e = s + (dw (l.drop s)).length := by
  unfold numEnd at h
  split at h
  · cases h
  · rename_i hn
    cases h
    refine ⟨?_, rfl⟩
    have : dw (l.drop s) ≠ [] := fun q => hn (.inl q)
    have := List.length_pos_iff.mpr this
    omega
theorem nmEnd_lt {l : List Nat} {s e : Nat} (h : nmEnd l s = .ok e) : s < e ∧ e < l.length ∧ e = s + nmLen l s := by
  unfold nmEnd at h
  split at h
  · cases h
  · rename_i hn
    cases h
    refine ⟨?_, ?_, rfl⟩
    · have : nmLen l s ≠ 0 := fun q => hn (.inl q)
      omega
    · have : l[s + nmLen l s]? = some 125 := Classical.byContradiction fun q => hn (.inr q)
      exact (List.getElem?_eq_some_iff.mp this).1
theorem rdPart_lt {l : List Nat} {i c j : Nat} {ps qs : List W} (h : rdPart l i c ps = .ok (j, qs)) : i < j := by
  unfold rdPart at h
  split at h
  · cases h; omega
  · split at h
    · split at h
      · cases h
      · rename_i e he
        cases h
        have := nmEnd_lt he
        omega
    · cases h
theorem rdSuf_lt {l : List Nat} {i c j : Nat} {ps qs : List W} {x : W} (h : rdSuf l i c ps x = .ok (j, qs)) : i < j := by
  unfold rdSuf at h
  split at h
  · split at h
    · cases h
    · rename_i e he
      cases h
      have := numEnd_lt he
      omega
  · cases h; omega
theorem onTop_ok {r : List (List W)} {a : Except WEr (Nat × List W)} {j : Nat} {st : List (List W)} (h : onTop r a = .ok (j, st)) : ∃ ps, a = .ok (j, ps) ∧ st = ps :: r := by
  cases a with
  | error e => cases h
  | ok p => cases h; exact ⟨_, rfl, rfl⟩
theorem rdStep_lt {l : List Nat} {i c j : Nat} {st st' : List (List W)} (h : rdStep l i c st = .ok (j, st')) : i < j ∧ st' ≠ [] := by
  unfold rdStep at h
  split at h
  · cases h
  · split at h
    · split at h
      · cases h
      · cases h; exact ⟨by omega, by simp⟩
    · split at h
      · split at h
        · cases h
        · cases h; exact ⟨by omega, by simp⟩
      · split at h
        · split at h
          · obtain ⟨ps, e, rfl⟩ := onTop_ok h
            exact ⟨rdSuf_lt e, by simp⟩
          · obtain ⟨ps, e, rfl⟩ := onTop_ok h
            exact ⟨rdPart_lt e, by simp⟩
        · obtain ⟨ps, e, rfl⟩ := onTop_ok h
          exact ⟨rdPart_lt e, by simp⟩
/-- every text is read in one way -/
theorem rd_all (l : List Nat) : ∀ (n i : Nat) (st : List (List W)), l.length - i ≤ n → ∃ o, Rd l i st o
  | 0, i, st, h => ⟨_, .done (by omega)⟩
  | n + 1, i, st, h => by
    by_cases hi : l.length ≤ i
    · exact ⟨_, .done hi⟩
    · have e : l[i]? = some (l[i]'(by omega)) := List.getElem?_eq_getElem (by omega)
      cases hs : rdStep l i (l[i]'(by omega)) st with
      | error er => exact ⟨_, .err e hs⟩
      | ok p =>
        obtain ⟨j, st'⟩ := p
        have := (rdStep_lt hs).1
        obtain ⟨o, ho⟩ := rd_all l n j st' (by omega)
        exact ⟨o, .step e hs ho⟩
theorem Rd.det {l : List Nat} {i : Nat} {st : List (List W)} {o : Except WEr (List (List W))} (h : Rd l i st o) : ∀ {o'}, Rd l i st o' → o = o' := by
  induction h with
  | done h =>
    intro o' t
    cases t with
    | done _ => rfl
    | err e _ => exact absurd (List.getElem?_eq_some_iff.mp e).1 (by omega)
    | step e _ _ => exact absurd (List.getElem?_eq_some_iff.mp e).1 (by omega)
  | err e s =>
    intro o' t
    cases t with
    | done h => exact absurd (List.getElem?_eq_some_iff.mp e).1 (by omega)
    | err e' s' =>
      rw [e] at e'
      cases e'
      rw [s] at s'
      cases s'
      rfl
    | step e' s' _ =>
      rw [e] at e'
      cases e'
      rw [s] at s'
      cases s'
  | step e s t ih =>
    intro o' t
    cases t with
    | done h => exact absurd (List.getElem?_eq_some_iff.mp e).1 (by omega)
    | err e' s' =>
      rw [e] at e'
      cases e'
      rw [s] at s'
      cases s'
    | step e' s' t' =>
      rw [e] at e'
      cases e'
      rw [s] at s'
      cases s'
      exact ih t'
theorem Rd.ne {l : List Nat} {i : Nat} {st : List (List W)} {o : Except WEr (List (List W))} (h : Rd l i st o) : st ≠ [] → ∀ st', o = .ok st' → st' ≠ [] := by
  induction h with
  | done h => intro hs st' e; cases e; exact hs
  | err e s => intro hs st' e; cases e
  | step e s t ih => intro hs; exact ih (rdStep_lt s).2
theorem rdW_all (l : List Nat) : ∃ o, RdW l o := by
  by_cases hl : 200 < l.length
  · exact ⟨_, .long hl⟩
  · obtain ⟨o, ho⟩ := rd_all l (l.length - 0) 0 [[]] (Nat.le_refl _)
    cases o with
    | error e => exact ⟨_, .bad (by omega) ho⟩
    | ok st =>
      cases st with
      | nil => exact absurd rfl (ho.ne (by simp) [] rfl)
      | cons p r =>
        cases r with
        | cons q r => exact ⟨_, .opn (by omega) ho⟩
        | nil =>
          by_cases hd : 12 < (grp p).dep
          · exact ⟨_, .deep (by omega) ho hd⟩
          · exact ⟨_, .ok (by omega) ho (by omega)⟩
end SW

set_option Elab.async false
set_option linter.all false
set_option maxRecDepth 100000
set_option maxHeartbeats 4000000
namespace SW
open PySem PySem.Spec PyProof.Rows L2
/-! ### what is kept, errors that are wished for -/
def KpS (as : List Addr) (H H' : Hp) : Prop := ∀ b o, b ∉ as → H b = some o → H' b = some o
theorem KpS.refl (as : List Addr) (H : Hp) : KpS as H H := fun _ _ _ h => h
theorem KpS.trans {as : List Addr} {H H1 H2 : Hp} (a : KpS as H H1) (b : KpS as H1 H2) : KpS as H H2 := fun c o n h => b c o n (a c o n h)
theorem KpS.sub {as bs : List Addr} {H H' : Hp} (a : KpS as H H') (h : ∀ x ∈ as, x ∈ bs) : KpS bs H H' := fun c o n e => a c o (fun m => n (h c m)) e
theorem KpS.same {as : List Addr} {H H' : Hp} (a : Same H H') : KpS as H H' := fun _ _ _ h => a _ _ h
theorem KpS.kp {a : Addr} {as : List Addr} {H H' : Hp} (k : Kp a H H') (m : a ∈ as) : KpS as H H' := fun c o n e => k c o (fun q => n (q ▸ m)) e
theorem KpS.at {a : Addr} {as : List Addr} {H : Hp} {o : HO} (m : a ∈ as) : KpS as H (upd H a o) := KpS.kp Kp.at m
theorem KpS.new {p : Addr} {as : List Addr} {H : Hp} {o : HO} (h : H p = none) : KpS as H (upd H p o) := KpS.same (same_new h)
theorem KpS.tp {as : List Addr} {H H' : Hp} (k : KpS as H H') (h : ∀ a ∈ as, ∃ z, H a = some (.lst z)) : Tp H H' := fun a xs q => by
  rcases q with q | ⟨o, q⟩
  · refine .inl (k _ _ (fun m => ?_) q)
    obtain ⟨z, hz⟩ := h a m
    rw [q] at hz
    cases hz
  · refine .inr ⟨o, k _ _ (fun m => ?_) q⟩
    obtain ⟨z, hz⟩ := h a m
    rw [q] at hz
    cases hz
/-- the error is told by E, whatever of as has changed -/
def Wz (CI CT : Addr) (E : XK) (as : List Addr) (H : Hp) : WEr → Prop
  | .it n => ∀ d H2 m, H2 d = some (.xd (erf "InvalidText" "position" (n : Int) m)) → KpS as H H2 → E (.ref CI) (some d) H2
  | .tl n => ∀ d H2 m, H2 d = some (.xd (erf "TooLarge" "limit" (n : Int) m)) → KpS as H H2 → E (.ref CT) (some d) H2
theorem Wz.mono {CI CT : Addr} {E : XK} {as bs : List Addr} {H H' : Hp} {e : WEr} (z : Wz CI CT E as H e) (k : KpS as H H') (h : ∀ x ∈ bs, x ∈ as) : Wz CI CT E bs H' e := by
  cases e with
  | it n => exact fun d H2 m h2 k2 => z d H2 m h2 (k.trans (k2.sub h))
  | tl n => exact fun d H2 m h2 k2 => z d H2 m h2 (k.trans (k2.sub h))
theorem wz_it {CI CT : Addr} {E : XK} {as : List Addr} {H : Hp} {n : Nat} (z : Wz CI CT E as H (.it n)) : ∀ d H2 m, H d = none → H2 d = some (.xd (erf "InvalidText" "position" (n : Int) m)) → Same H H2 → E (.ref CI) (some d) H2 := fun d H2 m _ h2 s => z d H2 m h2 (KpS.same s)
theorem wz_tl {CI CT : Addr} {E : XK} {as : List Addr} {H : Hp} {n : Nat} (z : Wz CI CT E as H (.tl n)) : ∀ d H2 m, H d = none → H2 d = some (.xd (erf "TooLarge" "limit" (n : Int) m)) → Same H H2 → E (.ref CT) (some d) H2 := fun d H2 m _ h2 s => z d H2 m h2 (KpS.same s)
theorem log_nat {n : Nat} (h : n ≤ 1000000) : (n : Int).natAbs.log2 < 1900 := by
  rw [Int.natAbs_natCast]
  by_cases h0 : n = 0
  · rw [h0]; decide
  · have : n.log2 < 20 := (Nat.log2_lt h0).mpr (Nat.lt_of_le_of_lt h (by decide))
    omega
/-- a result, or an error -/
def Rz' {α : Type} (CI CT : Addr) (E : XK) (as : List Addr) (H : Hp) (ok : α → Prop) : Except WEr α → Prop
  | .error e => Wz CI CT E as H e
  | .ok x => ok x
/-! ### comparing signs -/
theorem le_sign {a b : Nat} : (!decide ((⟨#[b]⟩ : Str).cps.toList < (⟨#[a]⟩ : Str).cps.toList)) = decide (a ≤ b) := by
  show (!decide ([b] < [a])) = decide (a ≤ b)
  have e : ([b] < [a]) ↔ b < a := by
    constructor
    · intro h
      cases h with
      | cons h => cases h
      | rel h => exact h
    · intro h
      exact .rel h
  by_cases h : a ≤ b
  · rw [decide_eq_true h, decide_eq_false (fun q => by have := e.mp q; omega)]
    rfl
  · rw [decide_eq_false h, decide_eq_true (e.mpr (by omega))]
    rfl
theorem one_str {s : String} {c : Nat} (h : ls (Str.ofString s) = [c]) : (Str.ofString s : Str) = ⟨#[c]⟩ := ls_inj h
theorem s_0 : ("0" : Str) = ⟨#[48]⟩ := ls_inj (by decide +kernel)
theorem s_9 : ("9" : Str) = ⟨#[57]⟩ := ls_inj (by decide +kernel)
theorem s_a : ("a" : Str) = ⟨#[97]⟩ := ls_inj (by decide +kernel)
theorem s_z : ("z" : Str) = ⟨#[122]⟩ := ls_inj (by decide +kernel)
theorem s_rb : ("}" : Str) = ⟨#[125]⟩ := ls_inj (by decide +kernel)
theorem s_lb : ("{" : Str) = ⟨#[123]⟩ := ls_inj (by decide +kernel)
theorem s_lp : ("(" : Str) = ⟨#[40]⟩ := ls_inj (by decide +kernel)
theorem s_rp : (")" : Str) = ⟨#[41]⟩ := ls_inj (by decide +kernel)
theorem s_hat : ("^" : Str) = ⟨#[94]⟩ := ls_inj (by decide +kernel)
theorem s_gt : (">" : Str) = ⟨#[62]⟩ := ls_inj (by decide +kernel)
theorem s_lt : ("<" : Str) = ⟨#[60]⟩ := ls_inj (by decide +kernel)
theorem sg_inj {a b : Nat} : (⟨#[a]⟩ : Str) = ⟨#[b]⟩ ↔ a = b := by
  constructor
  · intro h
    have := congrArg (fun z : Str => z.cps.toList) h
    simpa using this
  · intro h; rw [h]
/-- a test of one sign against another -/
theorem sq_yes {a : Nat} {s : Str} {b : Nat} {A B : Prop} (e : s = ⟨#[b]⟩) (h : a = b) (q : A) : ∃ k, V.bl (decide (V.str ⟨#[a]⟩ = V.str s)) = V.bl k ∧ if k = true then A else B := eq_yes (by rw [e, h]) q
theorem sq_no {a : Nat} {s : Str} {b : Nat} {A B : Prop} (e : s = ⟨#[b]⟩) (h : a ≠ b) (q : B) : ∃ k, V.bl (decide (V.str ⟨#[a]⟩ = V.str s)) = V.bl k ∧ if k = true then A else B := eq_no (by rw [e]; exact fun z => h (sg_inj.mp z)) q
theorem sn_yes {a : Nat} {s : Str} {b : Nat} {A B : Prop} (e : s = ⟨#[b]⟩) (h : a ≠ b) (q : A) : ∃ k, V.bl (!decide (V.str ⟨#[a]⟩ = V.str s)) = V.bl k ∧ if k = true then A else B := ne_yes (by rw [e]; exact fun z => h (sg_inj.mp z)) q
theorem sn_no {a : Nat} {s : Str} {b : Nat} {A B : Prop} (e : s = ⟨#[b]⟩) (h : a = b) (q : B) : ∃ k, V.bl (!decide (V.str ⟨#[a]⟩ = V.str s)) = V.bl k ∧ if k = true then A else B := ne_no (by rw [e, h]) q
/-! ### runs of digits -/
theorem dw_get {l : List Nat} {k c : Nat} (h : l[k]? = some c) (hk : k = (dw l).length) : ¬ dig c := by
  induction l generalizing k with
  | nil => cases h
  | cons x r ih =>
    unfold dw at hk
    rw [List.takeWhile_cons] at hk
    by_cases hx : dig x
    · rw [if_pos (decide_eq_true hx), List.length_cons] at hk
      subst hk
      exact ih (k := (dw r).length) h rfl
    · rw [if_neg (fun z => hx (of_decide_eq_true z))] at hk
      subst hk
      cases h
      exact hx
theorem dw_lt {l : List Nat} {k c : Nat} (h : l[k]? = some c) (hk : k < (dw l).length) : dig c := by
  induction l generalizing k with
  | nil => cases h
  | cons x r ih =>
    unfold dw at hk
    rw [List.takeWhile_cons] at hk
    by_cases hx : dig x
    · rw [if_pos (decide_eq_true hx), List.length_cons] at hk
      cases k with
      | zero => cases h; exact hx
      | succ k => exact ih (k := k) h (by unfold dw; omega)
    · rw [if_neg (fun z => hx (of_decide_eq_true z))] at hk
      exact absurd hk (by simp)
theorem dw_len (l : List Nat) : (dw l).length ≤ l.length := (List.takeWhile_sublist _).length_le
theorem dw_all (l : List Nat) : NumText.AllDigits (dw l) := by
  induction l with
  | nil => intro c hc; cases hc
  | cons x r ih =>
    intro c hc
    unfold dw at hc
    rw [List.takeWhile_cons] at hc
    split at hc
    · rename_i hx
      rcases List.mem_cons.mp hc with e | hc
      · rw [e]; exact of_decide_eq_true hx
      · exact ih c hc
    · cases hc
theorem dw_take (l : List Nat) : l.take (dw l).length = dw l := by
  induction l with
  | nil => rfl
  | cons x r ih =>
    unfold dw
    rw [List.takeWhile_cons]
    split
    · rw [List.length_cons, List.take_succ_cons]
      exact congrArg (x :: ·) ih
    · rfl
theorem tw_take (l : List Nat) : l.take (tw l).length = tw l := by
  induction l with
  | nil => rfl
  | cons x r ih =>
    unfold tw
    rw [List.takeWhile_cons]
    split
    · rw [List.length_cons, List.take_succ_cons]
      exact congrArg (x :: ·) ih
    · rfl
end SW

set_option Elab.async false
set_option linter.all false
set_option maxRecDepth 100000
set_option maxHeartbeats 4000000
namespace SW
open PySem PySem.Spec PyProof.Rows L2
/-! ### tokens with their places -/
abbrev FTok := Nat × Str
abbrev tokAt (l : List Nat) (i : Nat) : Str := tx ((l.drop i).take (tend l i - i))
inductive TkP (l : List Nat) : Nat → List FTok → Prop where
  | nil : TkP l l.length [(l.length, ("" : Str))]
  | sp {i : Nat} {ts : List FTok} (e : l[i]? = some 32) (h : TkP l (tend l i) ts) : TkP l i ts
  | tok {i c : Nat} {ts : List FTok} (e : l[i]? = some c) (n : c ≠ 32) (h : TkP l (tend l i) ts) : TkP l i ((i, tokAt l i) :: ts)
theorem tend_gt (l : List Nat) (i : Nat) : i < tend l i := by unfold tend; omega
theorem tend_le {l : List Nat} {i c : Nat} (e : l[i]? = some c) : tend l i ≤ l.length := by
  have hi : i < l.length := (List.getElem?_eq_some_iff.mp e).1
  have hle := tw_len (l.drop (i + 1))
  rw [List.length_drop] at hle
  by_cases hw : wrd c
  · rw [tend_wrd e hw]; omega
  · rw [tend_not e hw]; omega
def tkF : Nat → List Nat → Nat → List FTok
  | 0, l, _ => [(l.length, ("" : Str))]
  | n + 1, l, i => match l[i]? with
    | none => [(l.length, ("" : Str))]
    | some c => if c = 32 then tkF n l (tend l i) else (i, tokAt l i) :: tkF n l (tend l i)
theorem tkF_ok (l : List Nat) : ∀ (n i : Nat), i ≤ l.length → l.length - i ≤ n → TkP l i (tkF n l i)
  | 0, i, h, hn => by
    have : i = l.length := by omega
    subst this
    exact .nil
  | n + 1, i, h, hn => by
    rw [tkF]
    cases e : l[i]? with
    | none =>
      have := List.getElem?_eq_none_iff.mp e
      have : i = l.length := by omega
      subst this
      exact .nil
    | some c =>
      have h1 := tend_le e
      have h2 := tend_gt l i
      have ih := tkF_ok l n (tend l i) h1 (by omega)
      dsimp only
      by_cases hc : c = 32
      · rw [if_pos hc]
        exact .sp (hc ▸ e) ih
      · rw [if_neg hc]
        exact .tok e hc ih
def toksOf (l : List Nat) : List FTok := tkF l.length l 0
theorem toksOf_ok (l : List Nat) : TkP l 0 (toksOf l) := tkF_ok l _ _ (Nat.zero_le _) (Nat.le_refl _)
theorem TkP.det {l : List Nat} {i : Nat} {ts us : List FTok} (h : TkP l i ts) (g : TkP l i us) : ts = us := by
  induction h generalizing us with
  | nil =>
    cases g with
    | nil => rfl
    | sp e _ => exact absurd (List.getElem?_eq_some_iff.mp e).1 (by omega)
    | tok e _ _ => exact absurd (List.getElem?_eq_some_iff.mp e).1 (by omega)
  | sp e h ih =>
    cases g with
    | nil => exact absurd (List.getElem?_eq_some_iff.mp e).1 (by omega)
    | sp _ g => exact ih g
    | tok e2 n g => rw [e] at e2; exact absurd (Option.some.inj e2).symm n
  | tok e n h ih =>
    cases g with
    | nil => exact absurd (List.getElem?_eq_some_iff.mp e).1 (by omega)
    | sp e2 g => rw [e] at e2; exact absurd (Option.some.inj e2) n
    | tok _ _ g => rw [ih g]
/-- its end is the end of the text -/
def En (ts : List FTok) : Prop := ∃ us n, ts = us ++ [(n, ("" : Str))]
theorem En.ne {ts : List FTok} (h : En ts) : ∃ p t r, ts = (p, t) :: r := by
  obtain ⟨us, n, rfl⟩ := h
  cases us with
  | nil => exact ⟨_, _, _, rfl⟩
  | cons x r => exact ⟨x.1, x.2, _, rfl⟩
theorem En.tail {p : Nat} {t : Str} {r : List FTok} (h : En ((p, t) :: r)) (n : t ≠ ("" : Str)) : En r := by
  obtain ⟨us, m, e⟩ := h
  cases us with
  | nil =>
    rw [List.nil_append] at e
    injection e with e1 e2
    injection e1 with _ e3
    exact absurd e3 n
  | cons x r2 =>
    rw [List.cons_append] at e
    injection e with e1 e2
    exact ⟨r2, m, e2⟩
theorem TkP.en {l : List Nat} {i : Nat} {ts : List FTok} (h : TkP l i ts) : En ts := by
  induction h with
  | nil => exact ⟨[], _, rfl⟩
  | sp e h ih => exact ih
  | tok e n h ih =>
    obtain ⟨us, m, e⟩ := ih
    exact ⟨_ :: us, m, by rw [e]; rfl⟩
theorem TkP.len {l : List Nat} {i : Nat} {ts : List FTok} (h : TkP l i ts) : i ≤ l.length ∧ ts.length ≤ l.length - i + 1 := by
  induction h with
  | nil => exact ⟨Nat.le_refl _, by simp⟩
  | @sp i ts e h ih =>
    have := tend_gt l i
    exact ⟨by omega, by omega⟩
  | @tok i c ts e n h ih =>
    have := tend_gt l i
    exact ⟨by omega, by rw [List.length_cons]; omega⟩
/-- where the first one stands -/
def hd : List FTok → Nat
  | [] => 0
  | (p, _) :: _ => p
def Spd : List FTok → Prop
  | [] => True
  | (p, t) :: r => (r ≠ [] → p + t.length ≤ hd r) ∧ Spd r
theorem tokAt_len {l : List Nat} {i c : Nat} (e : l[i]? = some c) : (tokAt l i).length = tend l i - i := by
  have h1 := tend_le e
  have h2 := tend_gt l i
  rw [len_tx, List.length_take, List.length_drop]
  omega
theorem TkP.spd {l : List Nat} {i : Nat} {ts : List FTok} (h : TkP l i ts) : i ≤ hd ts ∧ hd ts ≤ l.length ∧ Spd ts := by
  induction h with
  | nil => exact ⟨Nat.le_refl _, Nat.le_refl _, fun n => absurd rfl n, trivial⟩
  | @sp i ts e h ih =>
    have := tend_gt l i
    exact ⟨by omega, ih.2⟩
  | @tok i c ts e n h ih =>
    have h1 := tend_le e
    have h2 := tend_gt l i
    have h3 := tokAt_len e
    exact ⟨Nat.le_refl _, by show i ≤ _; omega, fun _ => by omega, ih.2.2⟩
/-- behind its first sign a token has small letters alone -/
def TS (t : Str) : Prop := ∀ x ∈ (ls t).tail, low x
theorem tw_all : ∀ l : List Nat, ∀ x ∈ tw l, low x := fun l x h => of_decide_eq_true ((List.all_eq_true.mp (List.all_takeWhile (p := fun x => decide (low x)) (l := l))) x h)
theorem tokAt_cons {l : List Nat} {i c : Nat} (e : l[i]? = some c) : ls (tokAt l i) = c :: (if wrd c then tw (l.drop (i + 1)) else []) := by
  rw [ls_tx, drop_at e]
  by_cases hw : wrd c
  · rw [tend_wrd e hw, if_pos hw, show i + 1 + (tw (l.drop (i + 1))).length - i = (tw (l.drop (i + 1))).length + 1 by omega, List.take_succ_cons]
    congr 1
    unfold tw
    exact (List.prefix_iff_eq_take.mp (List.takeWhile_prefix _)).symm
  · rw [tend_not e hw, if_neg hw, show i + 1 - i = 1 by omega]
    rfl
theorem TkP.ts {l : List Nat} {i : Nat} {ts : List FTok} (h : TkP l i ts) : ∀ x ∈ ts, TS x.2 := by
  induction h with
  | nil =>
    intro x hx
    rw [List.mem_singleton.mp hx]
    intro y hy
    have : ls ("" : Str) = [] := by decide +kernel
    rw [this] at hy
    cases hy
  | sp e h ih => exact ih
  | @tok i c ts e n h ih =>
    intro x hx
    rcases List.mem_cons.mp hx with q | hx
    · rw [q]
      intro y hy
      rw [tokAt_cons e, List.tail_cons] at hy
      split at hy
      · exact tw_all _ y hy
      · cases hy
    · exact ih x hx
/-! ### the first sign that no formula has -/
instance (x : Nat) : Decidable (sgc x) := inferInstanceAs (Decidable (_ ∨ _))
instance (x : Nat) : Decidable (chr x) := inferInstanceAs (Decidable (_ ∨ _))
/-- the first sign of l from i on that stands in no formula -/
def Bad1 (l : List Nat) (b : Nat) : Prop := (∃ c, l[b]? = some c ∧ ¬ chr c) ∧ ∀ j c, j < b → l[j]? = some c → chr c
theorem bad_or (l : List Nat) : (∃ b, Bad1 l b) ∨ ∀ (j c : Nat), l[j]? = some c → chr c := by
  have key : ∀ n, n ≤ l.length → (∃ b, Bad1 l b) ∨ ∀ (j c : Nat), j < n → l[j]? = some c → chr c := by
    intro n
    induction n with
    | zero => exact fun _ => .inr fun j c h => absurd h (by omega)
    | succ n ih =>
      intro hn
      rcases ih (by omega) with h | h
      · exact .inl h
      · have e : l[n]? = some (l[n]'(by omega)) := List.getElem?_eq_getElem _
        by_cases hc : chr (l[n]'(by omega))
        · refine .inr fun j c hj ej => ?_
          by_cases q : j = n
          · rw [q, e] at ej
            exact Option.some.inj ej ▸ hc
          · exact h j c (by omega) ej
        · exact .inl ⟨n, ⟨_, e, hc⟩, h⟩
  rcases key l.length (Nat.le_refl _) with h | h
  · exact .inl h
  · exact .inr fun j c e => h j c (List.getElem?_eq_some_iff.mp e).1 e
theorem Bad1.lt {l : List Nat} {b : Nat} (h : Bad1 l b) : b < l.length := by
  obtain ⟨⟨c, e, _⟩, _⟩ := h
  exact (List.getElem?_eq_some_iff.mp e).1
/-! ### the reader -/
abbrev Res := Except (List FTok) (Fm × List FTok)
def tk1 (L : List Str) : List FTok → Except (List FTok) (Str × List FTok)
  | [] => .error []
  | (p, t) :: r => if t ∈ L then .ok (t, r) else .error ((p, t) :: r)
def nmB (t : Str) : Bool := decide (1 ≤ t.cps.size) && (decide (t.cps.size ≤ 8) && t.cps.toList.all fun x => decide (low x))
theorem nmB_ok {t : Str} : nmB t = true ↔ NmOk t := by
  unfold nmB NmOk
  rw [Bool.and_eq_true, Bool.and_eq_true, decide_eq_true_iff, decide_eq_true_iff, List.all_eq_true]
  exact ⟨fun h => ⟨h.1, h.2.1, fun x m => of_decide_eq_true (h.2.2 x m)⟩, fun h => ⟨h.1, h.2.1, fun x m => decide_eq_true (h.2.2 x m)⟩⟩
def tkN : List FTok → Except (List FTok) (Str × List FTok)
  | [] => .error []
  | (p, t) :: r => if nmB t = true then .ok (t, r) else .error ((p, t) :: r)
abbrev sgs : List Str := ["<", "next", "=", "in"]
def knd (s : Str) : Str := if s = "<" then "before" else if s = "=" then "same" else s
abbrev anoT : List Str := ["and", "or"]
def leafL (a : Str) (r : List FTok) : Res := match tk1 ["("] r with
  | .error e => .error e
  | .ok (_, r1) => match tk1 xyz r1 with
    | .error e => .error e
    | .ok (x, r2) => match tk1 [")"] r2 with
      | .error e => .error e
      | .ok (_, r3) => .ok (.rel "letter" a x, r3)
def leafR (x : Str) (r : List FTok) : Res := match tk1 sgs r with
  | .error e => .error e
  | .ok (s, r1) => match tk1 (if s = "in" then XYZ else xyz) r1 with
    | .error e => .error e
    | .ok (y, r2) => .ok (.rel (knd s) x y, r2)
def leafN (r : List FTok) : Res := match tkN r with
  | .error e => .error e
  | .ok (n, r1) => match tk1 ["}"] r1 with
    | .error e => .error e
    | .ok (_, r2) => .ok (.nam n, r2)
def pf : Nat → List FTok → Res
  | 0, ts => .error ts
  | _ + 1, [] => .error []
  | n + 1, (p, t) :: r =>
    if t ∈ abc then leafL t r
    else if t ∈ xyz then leafR t r
    else if t = "{" then leafN r
    else if t ∈ qus then match tk1 vrs r with
      | .error e => .error e
      | .ok (x, r1) => match pf n r1 with
        | .error e => .error e
        | .ok (f, r2) => .ok (.qu t x f, r2)
    else if t = "not" then match pf n r with
      | .error e => .error e
      | .ok (f, r1) => .ok (.neg f, r1)
    else if t = "(" then match pf n r with
      | .error e => .error e
      | .ok (f, r1) => match tk1 anoT r1 with
        | .error e => .error e
        | .ok (k, r2) => match pf n r2 with
          | .error e => .error e
          | .ok (g, r3) => match tk1 [")"] r3 with
            | .error e => .error e
            | .ok (_, r4) => .ok (.bin k f g, r4)
    else .error ((p, t) :: r)
/-! what a reader has left -/
/-- a part of the tokens that is left, with what it cost -/
def Lft (ts r : List FTok) (n k : Nat) : Prop := r <:+ ts ∧ En r ∧ r.length + n ≤ ts.length ∧ (Spd ts → Spd r ∧ hd ts + k ≤ hd r)
theorem Lft.trans {a b c : List FTok} {n m k j : Nat} (h : Lft a b n k) (g : Lft b c m j) : Lft a c (n + m) (k + j) :=
  ⟨g.1.trans h.1, g.2.1, by have := h.2.2.1; have := g.2.2.1; omega, fun s => ⟨(g.2.2.2 (h.2.2.2 s).1).1, by have := (h.2.2.2 s).2; have := (g.2.2.2 (h.2.2.2 s).1).2; omega⟩⟩
theorem Lft.mono {a b : List FTok} {n m k j : Nat} (h : Lft a b n k) (h1 : m ≤ n) (h2 : j ≤ k) : Lft a b m j :=
  ⟨h.1, h.2.1, by have := h.2.2.1; omega, fun s => ⟨(h.2.2.2 s).1, by have := (h.2.2.2 s).2; omega⟩⟩
theorem Lft.one {p : Nat} {t : Str} {r : List FTok} {k : Nat} (h : En ((p, t) :: r)) (n : t ≠ ("" : Str)) (hk : k ≤ t.length) : Lft ((p, t) :: r) r 1 k := by
  have hr := h.tail n
  refine ⟨List.suffix_cons _ _, hr, by rw [List.length_cons]; omega, fun s => ⟨s.2, ?_⟩⟩
  obtain ⟨q, u, r', e⟩ := hr.ne
  have := s.1 (by rw [e]; simp)
  show p + k ≤ _
  omega
/-- a fault stands at a token that is there -/
def Flt (ts e : List FTok) : Prop := e <:+ ts ∧ En e
theorem Flt.of {a b e : List FTok} {n k : Nat} (h : Lft a b n k) (g : Flt b e) : Flt a e := ⟨g.1.trans h.1, g.2⟩
theorem tk1_spec {L : List Str} {ts : List FTok} {k : Nat} (h : En ts) (n : ∀ t ∈ L, t ≠ ("" : Str) ∧ k ≤ t.length) : (∃ t r, tk1 L ts = .ok (t, r) ∧ t ∈ L ∧ Lft ts r 1 k) ∨ ∃ e, tk1 L ts = .error e ∧ Flt ts e := by
  obtain ⟨p, t, r, rfl⟩ := h.ne
  unfold tk1
  by_cases m : t ∈ L
  · exact .inl ⟨t, r, if_pos m, m, Lft.one h (n t m).1 (n t m).2⟩
  · exact .inr ⟨_, if_neg m, List.suffix_refl _, h⟩
theorem tkN_spec {ts : List FTok} (h : En ts) : (∃ t r, tkN ts = .ok (t, r) ∧ NmOk t ∧ Lft ts r 1 1) ∨ ∃ e, tkN ts = .error e ∧ Flt ts e := by
  obtain ⟨p, t, r, rfl⟩ := h.ne
  unfold tkN
  by_cases m : nmB t = true
  · have o := nmB_ok.mp m
    refine .inl ⟨t, r, if_pos m, o, Lft.one h (fun e => ?_) o.1⟩
    rw [e] at o
    exact absurd o.1 (by decide)
  · exact .inr ⟨_, if_neg m, List.suffix_refl _, h⟩
theorem all_len {L : List Str} {k : Nat} (h : (L.all fun t => decide (t ≠ ("" : Str)) && decide (k ≤ t.length)) = true) : ∀ t ∈ L, t ≠ ("" : Str) ∧ k ≤ t.length := fun t m => by
  have := List.all_eq_true.mp h t m
  rw [Bool.and_eq_true] at this
  exact ⟨of_decide_eq_true this.1, of_decide_eq_true this.2⟩
theorem mem_len {L : List Str} {k : Nat} (h : (L.all fun t => decide (t ≠ ("" : Str)) && decide (k ≤ t.length)) = true) {t : Str} (m : t ∈ L) : t ≠ ("" : Str) ∧ k ≤ t.length := all_len h t m
/-- what a reader gives -/
def RSp (ts : List FTok) (o : Res) : Prop := (∃ f r, o = .ok (f, r) ∧ f.Ok ∧ Lft ts r f.size (3 * f.size)) ∨ ∃ e, o = .error e ∧ Flt ts e
theorem leafL_spec {a : Str} {ts r : List FTok} (ha : a ∈ abc) (h : Lft ts r 1 1) : RSp ts (leafL a r) := by
  unfold leafL
  rcases tk1_spec (L := ["("]) (k := 1) h.2.1 (all_len (by decide +kernel)) with ⟨t, r1, e1, m1, l1⟩ | ⟨e, e1, f⟩
  · rw [e1]; dsimp only
    rcases tk1_spec (L := xyz) (k := 1) l1.2.1 (all_len (by decide +kernel)) with ⟨x, r2, e2, m2, l2⟩ | ⟨e, e2, f⟩
    · rw [e2]; dsimp only
      rcases tk1_spec (L := [")"]) (k := 1) l2.2.1 (all_len (by decide +kernel)) with ⟨t3, r3, e3, m3, l3⟩ | ⟨e, e3, f⟩
      · rw [e3]
        exact .inl ⟨_, _, rfl, .ltr ha m2, (((h.trans l1).trans l2).trans l3).mono (by rw [Fm.size]; omega) (by rw [Fm.size]; omega)⟩
      · rw [e3]; exact .inr ⟨_, rfl, f.of ((h.trans l1).trans l2)⟩
    · rw [e2]; exact .inr ⟨_, rfl, f.of (h.trans l1)⟩
  · rw [e1]; exact .inr ⟨_, rfl, f.of h⟩
theorem knd_ok {s x y : Str} (hs : s ∈ sgs) (hx : x ∈ xyz) (hy : y ∈ if s = "in" then XYZ else xyz) : RelOk (knd s) x y := by
  simp only [sgs, List.mem_cons, List.not_mem_nil, or_false] at hs
  rcases hs with rfl | rfl | rfl | rfl
  · rw [if_neg (by decide +kernel)] at hy
    rw [show knd "<" = "before" by decide +kernel]
    exact .pl (.inl rfl) hx hy
  · rw [if_neg (by decide +kernel)] at hy
    rw [show knd "next" = "next" by decide +kernel]
    exact .pl (.inr (.inl rfl)) hx hy
  · rw [if_neg (by decide +kernel)] at hy
    rw [show knd "=" = "same" by decide +kernel]
    exact .pl (.inr (.inr rfl)) hx hy
  · rw [if_pos rfl] at hy
    rw [show knd "in" = "in" by decide +kernel]
    exact .el hx hy
theorem sid_all {s : Str} : ∀ t ∈ (if s = "in" then XYZ else xyz), t ≠ ("" : Str) ∧ 1 ≤ t.length := by
  split
  · exact all_len (by decide +kernel)
  · exact all_len (by decide +kernel)
theorem leafR_spec {x : Str} {ts r : List FTok} (hx : x ∈ xyz) (h : Lft ts r 1 1) : RSp ts (leafR x r) := by
  unfold leafR
  rcases tk1_spec (L := sgs) (k := 1) h.2.1 (all_len (by decide +kernel)) with ⟨t, r1, e1, m1, l1⟩ | ⟨e, e1, f⟩
  · rw [e1]; dsimp only
    rcases tk1_spec (k := 1) l1.2.1 (sid_all (s := t)) with ⟨y, r2, e2, m2, l2⟩ | ⟨e, e2, f⟩
    · rw [e2]
      exact .inl ⟨_, _, rfl, knd_ok m1 hx m2, ((h.trans l1).trans l2).mono (by rw [Fm.size]; omega) (by rw [Fm.size]; omega)⟩
    · rw [e2]; exact .inr ⟨_, rfl, f.of (h.trans l1)⟩
  · rw [e1]; exact .inr ⟨_, rfl, f.of h⟩
theorem leafN_spec {ts r : List FTok} (h : Lft ts r 1 1) : RSp ts (leafN r) := by
  unfold leafN
  rcases tkN_spec h.2.1 with ⟨t, r1, e1, m1, l1⟩ | ⟨e, e1, f⟩
  · rw [e1]; dsimp only
    rcases tk1_spec (L := ["}"]) (k := 1) l1.2.1 (all_len (by decide +kernel)) with ⟨y, r2, e2, m2, l2⟩ | ⟨e, e2, f⟩
    · rw [e2]
      exact .inl ⟨_, _, rfl, m1, ((h.trans l1).trans l2).mono (by rw [Fm.size]; omega) (by rw [Fm.size]; omega)⟩
    · rw [e2]; exact .inr ⟨_, rfl, f.of (h.trans l1)⟩
  · rw [e1]; exact .inr ⟨_, rfl, f.of h⟩
theorem mem_qus {t : Str} (h : t ∈ qus) : t = "some" ∨ t = "all" := by
  simp only [qus, List.mem_cons, List.not_mem_nil, or_false] at h
  exact h
theorem mem_ano {t : Str} (h : t ∈ anoT) : t = "and" ∨ t = "or" := by
  simp only [anoT, List.mem_cons, List.not_mem_nil, or_false] at h
  exact h
theorem pf_spec : ∀ (n : Nat) (ts : List FTok), En ts → ts.length ≤ n → RSp ts (pf n ts)
  | 0, ts, h, hn => by
    obtain ⟨p, t, r, rfl⟩ := h.ne
    exact absurd hn (by simp)
  | n + 1, ts, h, hn => by
    obtain ⟨p, t, r, rfl⟩ := h.ne
    rw [List.length_cons] at hn
    unfold pf
    by_cases c1 : t ∈ abc
    · rw [if_pos c1]
      have := mem_len (L := abc) (k := 1) (by decide +kernel) c1
      exact leafL_spec c1 (Lft.one h this.1 this.2)
    rw [if_neg c1]
    by_cases c2 : t ∈ xyz
    · rw [if_pos c2]
      have := mem_len (L := xyz) (k := 1) (by decide +kernel) c2
      exact leafR_spec c2 (Lft.one h this.1 this.2)
    rw [if_neg c2]
    by_cases c3 : t = "{"
    · rw [if_pos c3]
      subst c3
      exact leafN_spec (Lft.one h (by decide +kernel) (by decide +kernel))
    rw [if_neg c3]
    by_cases c4 : t ∈ qus
    · rw [if_pos c4]
      have := mem_len (L := qus) (k := 3) (by decide +kernel) c4
      have l0 := Lft.one h this.1 this.2
      rcases tk1_spec (L := vrs) (k := 1) l0.2.1 (all_len (by decide +kernel)) with ⟨x, r1, e1, m1, l1⟩ | ⟨e, e1, f⟩
      · rw [e1]; dsimp only
        have l2 := l0.trans l1
        rcases pf_spec n r1 l2.2.1 (by have := l1.2.2.1; omega) with ⟨f, r2, e2, o, l3⟩ | ⟨e, e2, f⟩
        · rw [e2]
          exact .inl ⟨_, _, rfl, ⟨mem_qus c4, m1, o⟩, (l2.trans l3).mono (by rw [Fm.size]; omega) (by rw [Fm.size]; omega)⟩
        · rw [e2]; exact .inr ⟨_, rfl, f.of l2⟩
      · rw [e1]; exact .inr ⟨_, rfl, f.of l0⟩
    rw [if_neg c4]
    by_cases c5 : t = "not"
    · rw [if_pos c5]
      have l0 := Lft.one (k := 3) h (by rw [c5]; decide +kernel) (by rw [c5]; decide +kernel)
      rcases pf_spec n r l0.2.1 (by omega) with ⟨f, r2, e2, o, l3⟩ | ⟨e, e2, f⟩
      · rw [e2]
        exact .inl ⟨_, _, rfl, o, (l0.trans l3).mono (by rw [Fm.size]; omega) (by rw [Fm.size]; omega)⟩
      · rw [e2]; exact .inr ⟨_, rfl, f.of l0⟩
    rw [if_neg c5]
    by_cases c6 : t = "("
    · rw [if_pos c6]
      have l0 := Lft.one (k := 1) h (by rw [c6]; decide +kernel) (by rw [c6]; decide +kernel)
      rcases pf_spec n r l0.2.1 (by omega) with ⟨f, r1, e1, o1, l1⟩ | ⟨e, e1, f⟩
      · rw [e1]; dsimp only
        rcases tk1_spec (L := anoT) (k := 2) l1.2.1 (all_len (by decide +kernel)) with ⟨k, r2, e2, m2, l2⟩ | ⟨e, e2, f⟩
        · rw [e2]; dsimp only
          have b1 := l1.2.2.1
          have b2 := l2.2.2.1
          rcases pf_spec n r2 l2.2.1 (by omega) with ⟨g, r3, e3, o3, l3⟩ | ⟨e, e3, f⟩
          · rw [e3]; dsimp only
            rcases tk1_spec (L := [")"]) (k := 1) l3.2.1 (all_len (by decide +kernel)) with ⟨t4, r4, e4, m4, l4⟩ | ⟨e, e4, f⟩
            · rw [e4]
              exact .inl ⟨_, _, rfl, ⟨mem_ano m2, o1, o3⟩, ((((l0.trans l1).trans l2).trans l3).trans l4).mono (by rw [Fm.size]; omega) (by rw [Fm.size]; omega)⟩
            · rw [e4]; exact .inr ⟨_, rfl, f.of (((l0.trans l1).trans l2).trans l3)⟩
          · rw [e3]; exact .inr ⟨_, rfl, f.of ((l0.trans l1).trans l2)⟩
        · rw [e2]; exact .inr ⟨_, rfl, f.of (l0.trans l1)⟩
      · rw [e1]; exact .inr ⟨_, rfl, f.of l0⟩
    rw [if_neg c6]
    exact .inr ⟨_, rfl, List.suffix_refl _, h⟩
theorem Fm.dep_size : ∀ f : Fm, f.dep ≤ f.size
  | .rel k a b => by simp [Fm.dep, Fm.size]
  | .nam c => by simp [Fm.dep, Fm.size]
  | .neg f => by
    have := Fm.dep_size f
    simp only [Fm.dep, Fm.size]
    omega
  | .bin k f g => by
    have := Fm.dep_size f
    have := Fm.dep_size g
    simp only [Fm.dep, Fm.size]
    omega
  | .qu k x f => by
    have := Fm.dep_size f
    simp only [Fm.dep, Fm.size]
    omega
/-! ### the program's way of reading -/
inductive Gr where
  | nt
  | op
  | bn (k : Str) (f : Fm)
  | qf (k x : Str)
abbrev Stp := Except (List FTok) (List Gr × Option Fm × List FTok)
def lf (c : List Gr) : Res → Stp
  | .error e => .error e
  | .ok (f, r) => .ok (c, some f, r)
def fBeg (c : List Gr) : List FTok → Stp
  | [] => .error []
  | (p, t) :: r =>
    if t ∈ abc then lf c (leafL t r)
    else if t ∈ xyz then lf c (leafR t r)
    else if t = "{" then lf c (leafN r)
    else if t ∈ qus then match tk1 vrs r with
      | .error e => .error e
      | .ok (x, r1) => .ok (.qf t x :: c, none, r1)
    else if t = "not" then .ok (.nt :: c, none, r)
    else if t = "(" then .ok (.op :: c, none, r)
    else .error ((p, t) :: r)
def fGo (f : Fm) : Gr → List Gr → List FTok → Stp
  | .op, c, ts => match tk1 anoT ts with
    | .error e => .error e
    | .ok (k, r) => .ok (.bn k f :: c, none, r)
  | .bn k g, c, ts => match tk1 [")"] ts with
    | .error e => .error e
    | .ok (_, r) => .ok (c, some (.bin k g f), r)
  | .nt, c, ts => .ok (c, some (.neg f), ts)
  | .qf k x, c, ts => .ok (c, some (.qu k x f), ts)
inductive FRd : Nat → List Gr → Option Fm → List FTok → Res → Prop where
  | done {f : Fm} {ts : List FTok} : FRd 0 [] (some f) ts (.ok (f, ts))
  | eB {n : Nat} {c : List Gr} {ts e : List FTok} (h : fBeg c ts = .error e) : FRd (n + 1) c none ts (.error e)
  | sB {n : Nat} {c c' : List Gr} {o : Option Fm} {ts ts' : List FTok} {R : Res} (h : fBeg c ts = .ok (c', o, ts')) (t : FRd n c' o ts' R) : FRd (n + 1) c none ts R
  | eG {n : Nat} {g : Gr} {f : Fm} {c : List Gr} {ts e : List FTok} (h : fGo f g c ts = .error e) : FRd (n + 1) (g :: c) (some f) ts (.error e)
  | sG {n : Nat} {g : Gr} {f : Fm} {c c' : List Gr} {o : Option Fm} {ts ts' : List FTok} {R : Res} (h : fGo f g c ts = .ok (c', o, ts')) (t : FRd n c' o ts' R) : FRd (n + 1) (g :: c) (some f) ts R
/-- the program's reader comes to what pf tells -/
def Mch (c : List Gr) (ts : List FTok) : Res → Prop
  | .ok (f, r) => ∀ m R, FRd m c (some f) r R → ∃ m', FRd m' c none ts R
  | .error e => ∃ m, FRd m c none ts (.error e)
theorem mch_lf {c : List Gr} {ts : List FTok} {o : Res} (h : fBeg c ts = lf c o) : Mch c ts o := by
  cases o with
  | error e => exact ⟨1, .eB h⟩
  | ok p =>
    obtain ⟨f, r⟩ := p
    exact fun m R q => ⟨m + 1, .sB h q⟩
theorem pf_mch : ∀ (n : Nat) (ts : List FTok) (c : List Gr), En ts → ts.length ≤ n → Mch c ts (pf n ts)
  | 0, ts, c, h, hn => by
    obtain ⟨p, t, r, rfl⟩ := h.ne
    exact absurd hn (by simp)
  | n + 1, ts, c, h, hn => by
    obtain ⟨p, t, r, rfl⟩ := h.ne
    rw [List.length_cons] at hn
    have hb : fBeg c ((p, t) :: r) = fBeg c ((p, t) :: r) := rfl
    conv at hb => rhs; unfold fBeg
    dsimp only at hb
    unfold pf
    by_cases c1 : t ∈ abc
    · rw [if_pos c1] at hb ⊢
      exact mch_lf hb
    rw [if_neg c1] at hb ⊢
    by_cases c2 : t ∈ xyz
    · rw [if_pos c2] at hb ⊢
      exact mch_lf hb
    rw [if_neg c2] at hb ⊢
    by_cases c3 : t = "{"
    · rw [if_pos c3] at hb ⊢
      exact mch_lf hb
    rw [if_neg c3] at hb ⊢
    by_cases c4 : t ∈ qus
    · rw [if_pos c4] at hb ⊢
      have := mem_len (L := qus) (k := 3) (by decide +kernel) c4
      have l0 := Lft.one h this.1 this.2
      rcases tk1_spec (L := vrs) (k := 1) l0.2.1 (all_len (by decide +kernel)) with ⟨x, r1, e1, m1, l1⟩ | ⟨e, e1, f⟩
      · rw [e1] at hb ⊢; dsimp only at hb ⊢
        have := pf_mch n r1 (.qf t x :: c) l1.2.1 (by have := l1.2.2.1; omega)
        cases hp : pf n r1 with
        | error e =>
          rw [hp] at this
          obtain ⟨m, q⟩ := this
          exact ⟨m + 1, .sB hb q⟩
        | ok z =>
          obtain ⟨f, r2⟩ := z
          rw [hp] at this
          intro m R q
          obtain ⟨m', q'⟩ := this (m + 1) R (.sG rfl q)
          exact ⟨m' + 1, .sB hb q'⟩
      · rw [e1] at hb ⊢
        exact ⟨1, .eB hb⟩
    rw [if_neg c4] at hb ⊢
    by_cases c5 : t = "not"
    · rw [if_pos c5] at hb ⊢
      have l0 := Lft.one (k := 3) h (by rw [c5]; decide +kernel) (by rw [c5]; decide +kernel)
      have := pf_mch n r (.nt :: c) l0.2.1 (by omega)
      cases hp : pf n r with
      | error e =>
        rw [hp] at this
        obtain ⟨m, q⟩ := this
        exact ⟨m + 1, .sB hb q⟩
      | ok z =>
        obtain ⟨f, r2⟩ := z
        rw [hp] at this
        intro m R q
        obtain ⟨m', q'⟩ := this (m + 1) R (.sG rfl q)
        exact ⟨m' + 1, .sB hb q'⟩
    rw [if_neg c5] at hb ⊢
    by_cases c6 : t = "("
    · rw [if_pos c6] at hb ⊢
      have l0 := Lft.one (k := 1) h (by rw [c6]; decide +kernel) (by rw [c6]; decide +kernel)
      have h1 := pf_mch n r (.op :: c) l0.2.1 (by omega)
      rcases pf_spec n r l0.2.1 (by omega) with ⟨f, r1, e1, o1, l1⟩ | ⟨e, e1, f⟩
      · rw [e1] at h1 ⊢; dsimp only
        rcases tk1_spec (L := anoT) (k := 2) l1.2.1 (all_len (by decide +kernel)) with ⟨k, r2, e2, m2, l2⟩ | ⟨e, e2, f2⟩
        · rw [e2]; dsimp only
          have b1 := l1.2.2.1
          have b2 := l2.2.2.1
          have g1 : fGo f .op c r1 = .ok (.bn k f :: c, none, r2) := by unfold fGo; dsimp only; rw [e2]
          have h2 := pf_mch n r2 (.bn k f :: c) l2.2.1 (by omega)
          rcases pf_spec n r2 l2.2.1 (by omega) with ⟨g, r3, e3, o3, l3⟩ | ⟨e, e3, f3⟩
          · rw [e3] at h2 ⊢; dsimp only
            rcases tk1_spec (L := [")"]) (k := 1) l3.2.1 (all_len (by decide +kernel)) with ⟨t4, r4, e4, m4, l4⟩ | ⟨e, e4, f4⟩
            · rw [e4]
              have g2 : fGo g (.bn k f) c r3 = .ok (c, some (.bin k f g), r4) := by unfold fGo; dsimp only; rw [e4]
              intro m R q
              obtain ⟨m1, q1⟩ := h2 (m + 1) R (.sG g2 q)
              obtain ⟨m2, q2⟩ := h1 (m1 + 1) R (.sG g1 q1)
              exact ⟨m2 + 1, .sB hb q2⟩
            · rw [e4]
              have g2 : fGo g (.bn k f) c r3 = .error e := by unfold fGo; dsimp only; rw [e4]
              obtain ⟨m1, q1⟩ := h2 1 _ (.eG g2)
              obtain ⟨m2, q2⟩ := h1 (m1 + 1) _ (.sG g1 q1)
              exact ⟨m2 + 1, .sB hb q2⟩
          · rw [e3] at h2 ⊢
            obtain ⟨m1, q1⟩ := h2
            obtain ⟨m2, q2⟩ := h1 (m1 + 1) _ (.sG g1 q1)
            exact ⟨m2 + 1, .sB hb q2⟩
        · rw [e2]
          have g1 : fGo f .op c r1 = .error e := by unfold fGo; dsimp only; rw [e2]
          obtain ⟨m2, q2⟩ := h1 1 _ (.eG g1)
          exact ⟨m2 + 1, .sB hb q2⟩
      · rw [e1] at h1 ⊢
        obtain ⟨m1, q1⟩ := h1
        exact ⟨m1 + 1, .sB hb q1⟩
    rw [if_neg c6] at hb ⊢
    exact ⟨1, .eB hb⟩
theorem pf_frd {ts : List FTok} {n : Nat} (h : En ts) (hn : ts.length ≤ n) : ∃ m, FRd m [] none ts (pf n ts) := by
  have := pf_mch n ts [] h hn
  cases e : pf n ts with
  | error q => rw [e] at this; exact this
  | ok p =>
    obtain ⟨f, r⟩ := p
    rw [e] at this
    exact this 0 _ .done
/-- a step keeps within bounds -/
theorem lf_keep {c c' : List Gr} {o : Option Fm} {ts r : List FTok} {R : Res} (s : RSp ts R) (h : lf c R = .ok (c', o, r)) : En r ∧ c'.length + r.length ≤ c.length + ts.length ∧ r.length < ts.length := by
  rcases s with ⟨f, r1, rfl, _, l⟩ | ⟨e, rfl, _⟩
  · injection h with h
    injection h with h1 h2
    injection h2 with h2 h3
    subst h1 h3
    have := l.2.2.1
    have : 1 ≤ f.size := by cases f <;> simp [Fm.size]
    exact ⟨l.2.1, by omega, by omega⟩
  · cases h
end SW

set_option Elab.async false
set_option linter.all false
set_option maxRecDepth 100000
set_option maxHeartbeats 4000000
namespace SW
open PySem PySem.Spec PyProof.Rows L2
/-! ### the verdict on a text -/
def badAt : List Nat → Nat → Option Nat
  | [], _ => none
  | c :: r, i => if chr c then badAt r (i + 1) else some i
theorem badAt_none : ∀ {l : List Nat} {i : Nat}, badAt l i = none → ∀ (j c : Nat), l[j]? = some c → chr c
  | [], i, _, j, c, e => by cases e
  | x :: r, i, h, j, c, e => by
    unfold badAt at h
    by_cases hx : chr x
    · rw [if_pos hx] at h
      cases j with
      | zero => cases e; exact hx
      | succ j => exact badAt_none h j c e
    · rw [if_neg hx] at h
      cases h
theorem badAt_some : ∀ {l : List Nat} {i b : Nat}, badAt l i = some b → i ≤ b ∧ Bad1 l (b - i)
  | [], i, b, h => by cases h
  | x :: r, i, b, h => by
    unfold badAt at h
    by_cases hx : chr x
    · rw [if_pos hx] at h
      obtain ⟨h1, ⟨c, e, hc⟩, h3⟩ := badAt_some h
      have eb : b - i = (b - (i + 1)) + 1 := by omega
      refine ⟨by omega, ⟨c, ?_, hc⟩, fun j c' hj ej => ?_⟩
      · rw [eb, List.getElem?_cons_succ]
        exact e
      · cases j with
        | zero => cases ej; exact hx
        | succ j => exact h3 j c' (by omega) ej
    · rw [if_neg hx] at h
      cases h
      refine ⟨Nat.le_refl _, ?_⟩
      rw [Nat.sub_self]
      exact ⟨⟨x, rfl, hx⟩, fun j c hj => absurd hj (by omega)⟩
theorem bad_some {l : List Nat} {b : Nat} (h : badAt l 0 = some b) : Bad1 l b := (badAt_some h).2
def rdF (l : List Nat) : Except Nat Fm := match badAt l 0 with
  | some b => .error b
  | none => match pf (toksOf l).length (toksOf l) with
    | .error e => .error (hd e)
    | .ok (f, r) => match tk1 [("" : Str)] r with
      | .error e => .error (hd e)
      | .ok _ => .ok f
/-- what the program answers -/
def fpr (l : List Nat) : Except WEr Fm := if 300 < l.length then .error (.tl 300) else match rdF l with
  | .error p => .error (.it p)
  | .ok f => if 40 < f.size then .error (.tl 40) else if 3 < f.nest then .error (.tl 3) else .ok f
theorem TkP.le {l : List Nat} {i : Nat} {ts : List FTok} (h : TkP l i ts) : ∀ x ∈ ts, x.1 ≤ l.length := by
  induction h with
  | nil => intro x hx; rw [List.mem_singleton.mp hx]; exact Nat.le_refl _
  | sp e h ih => exact ih
  | @tok i c ts e n h ih =>
    intro x hx
    rcases List.mem_cons.mp hx with q | hx
    · rw [q]
      exact Nat.le_of_lt (List.getElem?_eq_some_iff.mp e).1
    · exact ih x hx
theorem hd_le {l : List Nat} {e : List FTok} (h : Flt (toksOf l) e) : hd e ≤ l.length := by
  obtain ⟨p, t, r, rfl⟩ := h.2.ne
  exact (toksOf_ok l).le (p, t) (h.1.subset (List.mem_cons_self ..))
theorem rdF_ok {l : List Nat} {f : Fm} (h : rdF l = .ok f) : f.Ok ∧ 3 * f.size ≤ l.length ∧ f.size ≤ (toksOf l).length := by
  unfold rdF at h
  split at h
  · cases h
  have hT := toksOf_ok l
  rcases pf_spec (toksOf l).length (toksOf l) hT.en (Nat.le_refl _) with ⟨g, r, e1, o, lt⟩ | ⟨e, e1, _⟩
  · rw [e1] at h
    dsimp only at h
    split at h
    · cases h
    · cases h
      have h1 := (lt.2.2.2 hT.spd.2.2).2
      have h2 := hd_le (l := l) ⟨lt.1, lt.2.1⟩
      have h3 := lt.2.2.1
      exact ⟨o, by omega, by omega⟩
  · rw [e1] at h
    cases h
theorem rdF_le {l : List Nat} {p : Nat} (h : rdF l = .error p) : p ≤ l.length := by
  unfold rdF at h
  split at h
  · rename_i b hb
    cases h
    exact Nat.le_of_lt (bad_some hb).lt
  have hT := toksOf_ok l
  rcases pf_spec (toksOf l).length (toksOf l) hT.en (Nat.le_refl _) with ⟨g, r, e1, o, lt⟩ | ⟨e, e1, fl⟩
  · rw [e1] at h
    dsimp only at h
    obtain ⟨q, t, r', rfl⟩ := lt.2.1.ne
    unfold tk1 at h
    dsimp only at h
    by_cases m : t ∈ [("" : Str)]
    · rw [if_pos m] at h; cases h
    · rw [if_neg m] at h
      cases h
      exact hd_le ⟨lt.1, lt.2.1⟩
  · rw [e1] at h
    cases h
    exact hd_le fl
/-! ### formulas that are laid out -/
theorem strOk_mem {L : List Str} (h : (L.all PyData.strOk) = true) {c : Str} (hc : c ∈ L) : PyData.strOk c = true := List.all_eq_true.mp h c hc
theorem fm_lay : ∀ f : Fm, f.Ok → PyData.canLay0 f.dat = true
  | .rel k a b, o => by
    have o' : RelOk k a b := o
    have h : PyData.strOk k = true ∧ PyData.strOk a = true ∧ PyData.strOk b = true := by
      cases o' with
      | ltr ha hb => exact ⟨by decide +kernel, strOk_mem (L := abc) (by decide +kernel) ha, strOk_mem (L := xyz) (by decide +kernel) hb⟩
      | pl hk ha hb => exact ⟨by rcases hk with h | h | h <;> rw [h] <;> decide +kernel, strOk_mem (L := xyz) (by decide +kernel) ha, strOk_mem (L := xyz) (by decide +kernel) hb⟩
      | el ha hb => exact ⟨by decide +kernel, strOk_mem (L := xyz) (by decide +kernel) ha, strOk_mem (L := XYZ) (by decide +kernel) hb⟩
    simp [Fm.dat, PyData.canLay0, PyData.canLayAll0, h]
  | .nam c, o => by
    have h : PyData.strOk c = true := by
      unfold PyData.strOk
      rw [Array.all_eq_true]
      intro i hi
      have := o.2.2 c.cps[i] (by simp)
      exact decide_eq_true (by omega)
    have h2 : PyData.strOk (Str.ofString "named") = true := by decide +kernel
    simp [Fm.dat, PyData.canLay0, PyData.canLayAll0, h, h2]
  | .neg f, o => by
    have h2 : PyData.strOk (Str.ofString "not") = true := by decide +kernel
    simp [Fm.dat, PyData.canLay0, PyData.canLayAll0, fm_lay f o, h2]
  | .bin k f g, o => by
    have h2 : PyData.strOk k = true := by rcases o.1 with h | h <;> rw [h] <;> decide +kernel
    simp [Fm.dat, PyData.canLay0, PyData.canLayAll0, fm_lay f o.2.1, fm_lay g o.2.2, h2]
  | .qu k x f, o => by
    have h2 : PyData.strOk k = true := by rcases o.1 with h | h <;> rw [h] <;> decide +kernel
    have h3 : PyData.strOk x = true := strOk_mem (L := vrs) (by decide +kernel) o.2.1
    simp [Fm.dat, PyData.canLay0, PyData.canLayAll0, fm_lay f o.2.2, h2, h3]
theorem fm_depth : ∀ f : Fm, PyData.depth f.dat ≤ f.dep + 1
  | .rel k a b => by simp only [Fm.dat, PyData.depth, PyData.depthAll, Fm.dep]; omega
  | .nam c => by simp only [Fm.dat, PyData.depth, PyData.depthAll, Fm.dep]; omega
  | .neg f => by
    have := fm_depth f
    simp only [Fm.dat, PyData.depth, PyData.depthAll, Fm.dep]
    omega
  | .bin k f g => by
    have := fm_depth f
    have := fm_depth g
    simp only [Fm.dat, PyData.depth, PyData.depthAll, Fm.dep]
    omega
  | .qu k x f => by
    have := fm_depth f
    simp only [Fm.dat, PyData.depth, PyData.depthAll, Fm.dep]
    omega
theorem fm_shaped {f : Fm} (h : f.Ok) (hd : f.dep ≤ 60) : SeqAt.shaped (.tuple [.str "value", f.dat]) = true := by
  have h1 := fm_lay f h
  have h2 := fm_depth f
  show (PyData.canLay0 (.tuple [.str "value", f.dat]) && decide (PyData.depth (.tuple [.str "value", f.dat]) ≤ 64)) = true
  rw [Bool.and_eq_true]
  refine ⟨?_, decide_eq_true ?_⟩
  · simp only [PyData.canLay0, PyData.canLayAll0, h1, Bool.and_true]
    decide +kernel
  · simp only [PyData.depth, PyData.depthAll]
    omega
/-! ### tokens and what is begun, in the heap -/
def TkW (K : PySem.W.Frag) (H : Hp) (v : V) (t : FTok) : Prop := ∃ p, v = .ref p ∧ SqT K H p [.int (t.1 : Nat), .str t.2]
def GrV (K : PySem.W.Frag) (H : Hp) (v : V) : Gr → Prop
  | .nt => ∃ p, v = .ref p ∧ SqT K H p [.str "not"]
  | .op => ∃ p, v = .ref p ∧ SqT K H p [.str "("]
  | .qf k x => ∃ p, v = .ref p ∧ SqT K H p [.str k, .str x]
  | .bn k f => ∃ p x, v = .ref p ∧ SqT K H p [.str k, x] ∧ FV K H x f
theorem TkW.tp {K : PySem.W.Frag} {H H' : Hp} (t : Tp H H') (v : V) (s : FTok) (h : TkW K H v s) : TkW K H' v s := by
  obtain ⟨p, e, q⟩ := h
  exact ⟨p, e, t.sq q⟩
theorem GrV.tp {K : PySem.W.Frag} {H H' : Hp} (t : Tp H H') (v : V) (fr : Gr) (h : GrV K H v fr) : GrV K H' v fr := by
  cases fr with
  | nt => obtain ⟨p, e, q⟩ := h; exact ⟨p, e, t.sq q⟩
  | qf k x => obtain ⟨p, e, q⟩ := h; exact ⟨p, e, t.sq q⟩
  | op => obtain ⟨p, e, q⟩ := h; exact ⟨p, e, t.sq q⟩
  | bn k f => obtain ⟨p, x, e, q, r⟩ := h; exact ⟨p, x, e, t.sq q, FV.tp t _ r⟩
abbrev TW (K : PySem.W.Frag) (H : Hp) (a : Addr) (ts : List FTok) : Prop := Stk (TkW K) H a ts
abbrev GW (K : PySem.W.Frag) (H : Hp) (a : Addr) (c : List Gr) : Prop := Stk (GrV K) H a c
section
variable {K : PySem.W.Frag}
theorem TkW.pop {H : Hp} {a : Addr} {t : FTok} {ts : List FTok} (h : TW K H a (t :: ts)) : ∃ p vs, H a = some (.lst (vs ++ [.ref p])) ∧ SqT K H p [.int (t.1 : Nat), .str t.2] ∧ TW K (upd H a (.lst vs)) a ts := by
  obtain ⟨v, vs, e, ⟨p, rfl, s⟩, r⟩ := h.pop
  exact ⟨p, _, e, s, vs, upd_same, r.imp (TkW.tp (tp_set e))⟩
theorem tw_new {H : Hp} {a p : Addr} {o : HO} {ts : List FTok} (h : TW K H a ts) (hp : H p = none) : TW K (upd H p o) a ts :=
  h.keep (TkW.tp (tp_new hp)) fun o e => by rw [upd_ne (ne_of_none e hp)]; exact e
theorem gw_new {H : Hp} {a p : Addr} {o : HO} {c : List Gr} (h : GW K H a c) (hp : H p = none) : GW K (upd H p o) a c :=
  h.keep (GrV.tp (tp_new hp)) fun o e => by rw [upd_ne (ne_of_none e hp)]; exact e
/-- tokens at a, what is begun at b -/
structure RP (K : PySem.W.Frag) (a b : Addr) (H H' : Hp) (ts : List FTok) (c : List Gr) : Prop where
  tok : TW K H' a ts
  fr : GW K H' b c
  kp : Kp2 a b H H'
theorem RP.new {a b p : Addr} {H H' : Hp} {ts : List FTok} {c : List Gr} {o : HO} (r : RP K a b H H' ts c) (hp : H' p = none) : RP K a b H (upd H' p o) ts c :=
  ⟨tw_new r.tok hp, gw_new r.fr hp, r.kp.trans (Kp.new hp).two⟩
theorem RP.took {a b : Addr} {H H1 H2 : Hp} {ts ts' : List FTok} {c : List Gr} (r : RP K a b H H1 ts c) (ne : b ≠ a) (h : TW K H2 a ts') (k : Kp a H1 H2) : RP K a b H H2 ts' c := by
  obtain ⟨z, hz⟩ := r.tok.lst
  exact ⟨h, r.fr.keep (GrV.tp (k.tp hz)) (fun o e => k _ _ ne e), r.kp.trans k.two⟩
theorem RP.put {a b : Addr} {H H1 : Hp} {ts : List FTok} {c : List Gr} {v : V} {fr : Gr} {vs : List V} (r : RP K a b H H1 ts c) (ne : b ≠ a) (hb : H1 b = some (.lst vs)) (hv : GrV K (upd H1 b (.lst (vs ++ [v]))) v fr) : RP K a b H (upd H1 b (.lst (vs ++ [v]))) ts (fr :: c) := by
  obtain ⟨us, e, q⟩ := r.fr
  rw [hb] at e
  have e2 := HO.lst.inj (Option.some.inj e)
  refine ⟨r.tok.keep (TkW.tp (tp_set hb)) (fun o e => by rw [upd_ne ne.symm]; exact e), ?_, r.kp.trans Kp2.at⟩
  exact Stk.push (by rw [upd_same, e2]) hv (q.imp (GrV.tp (tp_set hb)))
theorem RP.bl {a b : Addr} {H H' : Hp} {ts : List FTok} {c : List Gr} (r : RP K a b H H' ts c) : ∃ zs, H' b = some (.lst zs) ∧ zs.length = c.length := by
  obtain ⟨us, e, q⟩ := r.fr
  exact ⟨_, e, by rw [List.length_reverse, q.len]⟩
theorem RP.tp {a b : Addr} {H H' : Hp} {ts : List FTok} {c : List Gr} {z y : List V} (r : RP K a b H H' ts c) (h : H a = some (.lst z)) (g : H b = some (.lst y)) : Tp H H' := r.kp.tp h g
theorem RP.comp {a b : Addr} {H H1 H2 : Hp} {ts ts' : List FTok} {c c' : List Gr} (r : RP K a b H H1 ts c) (s : RP K a b H1 H2 ts' c') : RP K a b H H2 ts' c' := ⟨s.tok, s.fr, r.kp.trans s.kp⟩
theorem Kp2.kps {a b : Addr} {H H' : Hp} (k : Kp2 a b H H') : KpS [a, b] H H' := fun x o n h => k x o (fun e => n (by simp [e])) (fun e => n (by simp [e])) h
end
end SW

set_option Elab.async false
set_option linter.all false
set_option maxRecDepth 100000
set_option maxHeartbeats 4000000
namespace SW
open PySem PySem.Spec PyProof.Rows L2
section
variable {P : Program} {w : World} {K : PySem.W.Frag} {mg : Str → Option Value} {h : Heap}
theorem df_mk {x : Str} {st : Stmt} {ps : List Str} {f : Addr} {od an : Option Addr} {sl : Array (Option Value)} {oc kV dc pm cd ct : Value} (X : K.In h) (G : h.Ns mainGlobals mg)
    (a : PySem.W.nsIn K mainGlobals x = some (some (.ref f))) (l : K.lookup f = some ⟨oc, od, .func (PySem.W.fnOf x x (defArgs st) (defBody st) (defScope st) .none kV dc pm an cd ct), sl⟩) (c : PySem.W.codeIn K cd x = true) (k : PySem.W.keepIn K (.ref f) = true)
    (hb : ∀ (kV doc pm : Value) (an : Option Addr) (cdv ct : Value) (us : List Value), us.length = ps.length → bindArgs (PySem.W.fnOf x x (defArgs st) (defBody st) (defScope st) .none kV doc pm an cdv ct) ⟨us, []⟩ = pure (ps.zip us)) : Df K mg x st ps := by
  have F := fun_mk (st := st) l c k
  exact ⟨f, _, F, PySem.W.mg_of X G a, F.binds (ps := ps) hb⟩
theorem law_end {st : Stmt} {fa : Addr} {k : Nat} {sp : Sp} (D : Df K mg "law" st ["_law_script"]) (hmg : mg "law" = some (.ref fa))
    (hb : ∀ (kV doc pm : Value) (an : Option Addr) (cdv ct : Value) (v : Value), bindArgs (PySem.W.fnOf "law" "law" (defArgs st) (defBody st) (defScope st) .none kV doc pm an cdv ct) ⟨[v], []⟩ = pure [(("_law_script" : Str), v)])
    (c : ∀ base : Heap, K.In base → base.Ns mainGlobals mg → Cal P w K mg base k "law" ["_law_script"] sp) :
    ∃ fd : FuncData, (∀ (s : Shared) (v : Value), BindsTo s fd ⟨[v], []⟩ [("_law_script", v)]) ∧ ∀ base : Heap, K.In base → base.Ns mainGlobals mg → FnOk P w K mg base CX0 k fa fd ["_law_script"] sp := by
  obtain ⟨f, fd, F, m, b⟩ := D.ex
  have e : f = fa := by
    rw [hmg] at m
    cases m
    rfl
  subst e
  obtain ⟨oc, od, kV, doc, pm, an, cdv, ct, osl, rfl, lk, _⟩ := F.ex
  refine ⟨_, fun s v => .of_eq (hb kV doc pm an cdv ct v), fun base h1 h2 => ?_⟩
  obtain ⟨f', fd', F', m', _, _, oc', od', osl', lk'⟩ := (c base h1 h2).ex
  have e : f' = f := by
    rw [m] at m'
    cases m'
    rfl
  subst e
  rw [lk] at lk'
  cases lk'
  exact F'
theorem sqt_mk {a : Addr} {o : Obj} {its : Array Value} {n : Nat} {xs : List V} (l : K.lookup a = some o) (hc : o.cls = .type "tuple") (hd : o.data = .seq its n) (hs : its.size ≤ sizeLine) (r : Vals xs its.toList) : ∀ H, SqT K H a xs :=
  fun _ => .inr ⟨o, its, n, l, hc, hd, hs, r⟩
end
theorem relstr {z y : Str} {tk : Tok} (h : z = y) : L2.RelV (.str z) (.str y tk) := ⟨tk, by rw [h]⟩
/-- what a law's def promises -/
def spLaw (K : PySem.W.Frag) : Sp := fun vs H Q _ => ∃ (a : Addr) (ns : List Int), vs = [.ref a] ∧ SqL K H a (ns.map V.int) ∧ ∀ H', Q (.bl true) H'
theorem walk {l : PySem.W.OpenLaw} {q : Program} {loose : List Str} {XP : (Str → Option Value) → Heap → Prop} {YP : World → Heap → Prop} {d : DefRec} {K : Params → PySem.W.Frag} {k : Nat} (hr : Room k callerA) (hn : l.most = some 63) (hdf : d.params.defaults = [])
    (hY : ∀ (w : World) (h : Heap), YP w h → (K w.params).In h)
    (F : ∀ (w : World) (mg : Str → Option Value) (fa : Addr) (h : Heap), (K w.params).In h → h.Ns mainGlobals mg → mg d.name = some (.ref fa) →
      ∃ fd : FuncData, (∀ (s : Shared) (u : Value), BindsTo s fd ⟨[u], []⟩ [("_law_script", u)]) ∧ ∀ base : Heap, (K w.params).In base → base.Ns mainGlobals mg → FnOk l.prog w (K w.params) mg base CX0 k fa fd ["_law_script"] (spLaw (K w.params))) :
    PySem.W.WalkO q loose XP YP l.row.toRowW d [] (fun f vs => PySem.call f vs) :=
  L2.walk_of (n := 63) (k := k) (x := "_law_script") (CX := fun _ => CX0) (sp := fun w => spLaw (K w.params)) hn (by decide) hdf hr hY F (fun _ _ a ns hl _ hS => ⟨a, ns, rfl, hS, fun _ => rfl⟩) fun _ _ _ _ _ z => z
end SW

set_option Elab.async false
set_option linter.all false
set_option maxRecDepth 100000
set_option maxHeartbeats 4000000
namespace SW
open PySem PySem.Spec PyProof.Rows L2
def top (i : Nat) : Stmt := PySem.Challenge.pw_scatterwords_k16_formula_texts_refused.main.body.getD i (.Pass ⟨0, 0, 0, 0⟩)
abbrev s_ScatterError_init : Stmt := inCls (top 1) 0
abbrev s_InvalidText_init : Stmt := inCls (top 2) 0
abbrev s_TooLarge_init : Stmt := inCls (top 3) 0
abbrev s_Missing_init : Stmt := inCls (top 4) 0
abbrev s_formula_size : Stmt := top 9
abbrev s_nesting : Stmt := top 10
abbrev s_inner_formulas : Stmt := top 11
abbrev s_parse_formula : Stmt := top 22
abbrev s__tokens : Stmt := top 23
abbrev s__token_end : Stmt := top 24
abbrev s__take : Stmt := top 25
abbrev s__take_name : Stmt := top 26
abbrev s__read_formula : Stmt := top 27
abbrev s__begin : Stmt := top 28
abbrev s__read_relation : Stmt := top 29
abbrev s__go_on : Stmt := top 30
abbrev s__law_draws : Stmt := top 32
abbrev s__law_draw : Stmt := top 33
abbrev s__law_pick : Stmt := top 34
abbrev s__law_same : Stmt := top 35
abbrev s__law_field : Stmt := top 36
abbrev s__law_try : Stmt := top 37
abbrev s__law_refusal : Stmt := top 38
abbrev s__law_name : Stmt := top 39
abbrev s__law_bent : Stmt := top 40
abbrev s__law_any_formula : Stmt := top 41
abbrev s__law_written : Stmt := top 42
abbrev s__law_tokens : Stmt := top 43
abbrev s__law_behind : Stmt := top 44
abbrev s__law_formula_due : Stmt := top 45
abbrev s_law : Stmt := top 46
section
variable {P : Program} {w : World} {K : PySem.W.Frag} {mg : Str → Option Value} {base : Heap}
/-! ### the tokens of a text -/
def spTEnd : Sp := fun vs H Q _ => ∃ z n c, vs = [.str z, .int (n : Nat)] ∧ (ls z)[n]? = some c ∧ z.length ≤ 1000 ∧ Q (.int (tend (ls z) n : Nat)) H
theorem tend_loop {z : Str} {n c : Nat} {H : Hp} {R : VK} (hc : (ls z)[n]? = some c) (hw : wrd c) (hz : z.length ≤ 1000) : tWhile
        (tAnd
          (tTest
            (tOp (rI0 fun i j => V.bl (decide (i < j))) (tVar 2)
              (tCB (fun xs H Q => ∃ z, xs = [V.str z] ∧ z.length ≤ sizeLine ∧ Q (V.int (z.length : Nat)) H)
                (tCons (tVar 0) tNil))))
          (tTest (tOp rInS (tOp rIxS (tVar 0) (tVar 2)) (tC (V.str (Str.ofString "abcdefghijklmnopqrstuvwxyz"))))))
        (tAug 2 (tC (V.int 1)) (ipI fun i j => i + j))
        { nx := fun σ' H' => σ' = [some (V.str z), some (V.int (n : Nat)), some (V.int (tend (ls z) n : Nat))] ∧ H' = H, rt := R } [some (V.str z), some (V.int (n : Nat)), some (V.int ((n : Nat) + 1))] H := by
  have hl := len_ls z
  have ht := tend_wrd hc hw
  have hle := tw_len ((ls z).drop (n + 1))
  rw [List.length_drop] at hle
  have hn : n < (ls z).length := (List.getElem?_eq_some_iff.mp hc).1
  refine ⟨fun m σ' H' => ∃ k : Nat, σ' = [some (V.str z), some (V.int (n : Nat)), some (V.int ((n + 1 + k : Nat)))] ∧ k ≤ (tw ((ls z).drop (n + 1))).length ∧ m = (tw ((ls z).drop (n + 1))).length - k ∧ H' = H, ⟨_, 0, by rfl, Nat.zero_le _, rfl, rfl⟩, ?_⟩
  rintro m σ' H' ⟨k, rfl, hk, rfl, rfl⟩
  refine ⟨_, rfl, _, rfl, _, rfl, fit (by omega), _, _, rfl, rfl, _, rfl, ite2 (fun h => ?_) (fun h => ?_)⟩
  · have hlt : ((n + 1 + k : Nat) : Int) < (z.length : Nat) := of_decide_eq_true h
    have hlt' : n + 1 + k < (ls z).length := by omega
    have hx : (ls z)[n + 1 + k]? = some (ls z)[n + 1 + k] := List.getElem?_eq_getElem hlt'
    have hx2 : ((ls z).drop (n + 1))[k]? = some (ls z)[n + 1 + k] := by rw [List.getElem?_drop]; exact hx
    refine ⟨_, rfl, _, rfl, _, _, _, rfl, rfl, fit (by omega), at_ls hx rfl, _, _, rfl, rfl, _, rfl, ite2 (fun h2 => ?_) (fun h2 => ?_)⟩
    · have hlow : low (ls z)[n + 1 + k] := mem_low.mp (of_decide_eq_true h2)
      have hk2 : k < (tw ((ls z).drop (n + 1))).length := by
        rcases Nat.lt_or_ge k (tw ((ls z).drop (n + 1))).length with h | h
        · exact h
        · exact absurd hlow (tw_get hx2 (by omega))
      refine ⟨fun σ' H'' => σ' = [some (V.str z), some (V.int (n : Nat)), some (V.int ((n + 1 + (k + 1) : Nat)))] ∧ H'' = H', ?_, _, rfl, _, _, rfl, rfl, rfl, rfl⟩
      rintro σ' H'' ⟨rfl, rfl⟩
      exact ⟨_, by omega, k + 1, rfl, hk2, rfl, rfl⟩
    · have hnl : ¬ low (ls z)[n + 1 + k] := fun hl => h2 (decide_eq_true (mem_low.mpr hl))
      have hk2 : k = (tw ((ls z).drop (n + 1))).length := by
        rcases Nat.lt_or_ge k (tw ((ls z).drop (n + 1))).length with h | h
        · exact absurd (tw_lt hx2 h) hnl
        · omega
      subst hk2
      exact ⟨by rw [ht], rfl⟩
  · have hge : ¬ ((n + 1 + k : Nat) : Int) < (z.length : Nat) := fun q => h (decide_eq_true q)
    have hk2 : k = (tw ((ls z).drop (n + 1))).length := by omega
    subst hk2
    exact ⟨by rw [ht], rfl⟩
theorem sc__token_end : FnScope ["text", "start", "end"] ["text", "start"] (defScope s__token_end) := ⟨rfl, rfl, rfl, by decide +kernel, rfl, by decide +kernel, by decide +kernel⟩
theorem ok_tend (D : Df K mg "_token_end" s__token_end ["text", "start"]) (bi : Bi mg) {vL vS : Value} (mLOWERCASE : mg "LOWERCASE" = some vL) (rLOWERCASE : L2.RelV (.str "abcdefghijklmnopqrstuvwxyz") vL) (mSETS : mg "SETS" = some vS) (rS : L2.RelV (.str "XYZ") vS) :
    Cal P w K mg base 1 "_token_end" ["text", "start"] spTEnd := by
  refine D.ok sc__token_end (fun vs H Q E h => ?_) (fun f cdv A outer s H vs Q E hr h => ?_)
  · obtain ⟨z, n, c, rfl, _⟩ := h
    rfl
  obtain ⟨z, n, c, rfl, hc, hz, q⟩ := h
  have hn : n < (ls z).length := (List.getElem?_eq_some_iff.mp hc).1
  have hl := len_ls z
  refine ⟨_, (pss_cons (ps_set (i := 2) sc__token_end.nd rfl (.inl rfl) (pe_op op_add (pv 1) pe_int))
      (C8.pss_cut (ps_if (PW.pt (pw_or (pt_cmpR op_inS (pe_ix ix_str (pv 0) (pv 1) (fun _ _ => rfl)) (pe_glob (v := .str "abcdefghijklmnopqrstuvwxyz") (by rfl) mLOWERCASE rLOWERCASE) (by rfl)) (pw_or1 (pt_cmpR op_inS (pe_ix ix_str (pv 0) (pv 1) (fun _ _ => rfl)) (pe_glob (v := .str "XYZ") (by rfl) mSETS rS) (by rfl))))) (pss_one (ps_while PassesOwn.never (PW.pt (pw_and (pt_cmpR op_lt (pv 2) (pe_callB call_len_str (by rfl) bi.len PySem.boot_len (pa_cons (pv 0) pa_nil)) (nomark _)) (pw_and1 (pt_cmpR op_inS (pe_ix ix_str (pv 0) (pv 2) (fun _ _ => rfl)) (pe_glob (v := .str "abcdefghijklmnopqrstuvwxyz") (by rfl) mLOWERCASE rLOWERCASE) (by rfl))))) (pss_one (ps_aug (i := 2) sc__token_end.nd rfl (.inl rfl) pe_int ip_add)))) pss_nil)
      (pss_one (ps_ret (pv 2))))), ?_⟩
  refine ⟨_, rfl, _, _, rfl, rfl, ?_⟩
  refine ⟨fun σ' H' => σ' = [some (.str z), some (.int (n : Nat)), some (.int (tend (ls z) n : Nat))] ∧ H' = H, ?_, ?_⟩
  rotate_left
  · rintro σ' H' ⟨rfl, rfl⟩
    exact ⟨_, rfl, q⟩
  refine ⟨_, rfl, _, rfl, _, _, _, rfl, rfl, fit (by omega), at_ls hc rfl, _, _, rfl, rfl, _, rfl, ite2 (fun h => ?_) (fun h => ?_)⟩
  · exact tend_loop hc (.inl (mem_low.mp (of_decide_eq_true h))) hz
  · refine ⟨_, rfl, _, rfl, _, _, _, rfl, rfl, fit (by omega), at_ls hc rfl, _, _, rfl, rfl, _, rfl, ite2 (fun h2 => ?_) (fun h2 => ?_)⟩
    · exact tend_loop hc (.inr (mem_set.mp (of_decide_eq_true h2))) hz
    · have nw : ¬ wrd c := fun hw => (wrd_mem.mp hw).elim (fun q => h (decide_eq_true q)) (fun q => h2 (decide_eq_true q))
      exact ⟨by rw [tend_not hc nw]; rfl, rfl⟩
/-- a list of tokens at a -/
def spTokens (K : PySem.W.Frag) : Sp := fun vs H Q _ => ∃ z ts, vs = [.str z] ∧ TkP (ls z) 0 ts ∧ z.length ≤ 1000 ∧ ∀ a us H', H' a = some (.lst us) → H a = none → Al (TkW K H') us ts → Same H H' → Q (.ref a) H'
theorem sc__tokens : FnScope ["text", "found", "at", "end"] ["text"] (defScope s__tokens) := ⟨rfl, rfl, rfl, by decide +kernel, rfl, by decide +kernel, by decide +kernel⟩
theorem ok_tokens (D : Df K mg "_tokens" s__tokens ["text"]) (bi : Bi mg) {vE : Value} (mEND : mg "END" = some vE) (rEND : L2.RelV (.str "") vE) (c_token_end : Cal P w K mg base 1 "_token_end" ["text", "start"] spTEnd) :
    Cal P w K mg base 2 "_tokens" ["text"] (spTokens K) := by
  refine D.ok sc__tokens (fun vs H Q E h => ?_) (fun f cdv A outer s H vs Q E hr h => ?_)
  · obtain ⟨z, ts, rfl, _⟩ := h
    rfl
  obtain ⟨z, ts, rfl, ht, hz, q⟩ := h
  have hl := len_ls z
  refine ⟨_, (pss_cons (ps_set (i := 1) sc__tokens.nd rfl (.inl rfl) (pe_lst pa_nil))
      (pss_cons (ps_set (i := 2) sc__tokens.nd rfl (.inl rfl) pe_int)
      (pss_cons (ps_while PassesOwn.never (pt_cmpR op_lt (pv 2) (pe_callB call_len_str (by rfl) bi.len PySem.boot_len (pa_cons (pv 0) pa_nil)) (nomark _)) (pss_cons (ps_set (i := 3) sc__tokens.nd rfl (.inl rfl) (pe_own c_token_end hr (by omega) (by rfl) (pa_cons (pv 0) (pa_cons (pv 2) pa_nil))))
      (C8.pss_cut (ps_if (pt_cmpR op_ne (pe_ix ix_str (pv 0) (pv 2) (fun _ _ => rfl)) pe_str (nomark _)) (pss_one (ps_expr (pe_bm PySem.F.plainAttrs_list PySem.F.slot_list_append PySem.F.type_list_append mt_append (pv 1) (pa_cons (pe_tup (pa_cons (pv 2) (pa_cons (pe_slice sl_str (pv 0) (po_some (pv 2)) (po_some (pv 3))) pa_nil))) pa_nil)))) pss_nil)
      (pss_one (ps_set (i := 2) sc__tokens.nd rfl (.inl rfl) (pv 3))))))
      (pss_cons (ps_expr (pe_bm PySem.F.plainAttrs_list PySem.F.slot_list_append PySem.F.type_list_append mt_append (pv 1) (pa_cons (pe_tup (pa_cons (pe_callB call_len_str (by rfl) bi.len PySem.boot_len (pa_cons (pv 0) pa_nil)) (pa_cons (pe_glob (v := .str "") (by rfl) mEND rEND) pa_nil))) pa_nil)))
      (pss_one (ps_ret (pv 1))))))), ?_⟩
  refine ⟨Nat.zero_le _, fun a ha => ?_⟩
  -- what is found, what is left
  refine ⟨fun m σ' H' => ∃ (n : Nat) (y : Option V) (us : List V) (t0 t1 : List FTok), σ' = [some (.str z), some (.ref a), some (.int (n : Nat)), y] ∧ n ≤ (ls z).length ∧ m = (ls z).length - n ∧ H' a = some (.lst us) ∧ us.length ≤ n ∧ Al (TkW K H') us t0 ∧ TkP (ls z) n t1 ∧ t0 ++ t1 = ts ∧ Kp a H H', ⟨_, 0, none, [], [], ts, rfl, Nat.zero_le _, rfl, upd_same, Nat.le_refl _, .nil, ht, rfl, Kp.new ha⟩, ?_⟩
  rintro m σ' H' ⟨n, y, us, t0, t1, rfl, hn, rfl, hA, hu, hal, htk, e, kp⟩
  refine ⟨_, rfl, _, rfl, _, rfl, fit (by omega), _, _, rfl, rfl, _, rfl, ite2 (fun h => ?_) (fun h => ?_)⟩
  · have hlt : (n : Int) < (z.length : Nat) := of_decide_eq_true h
    have hlt' : n < (ls z).length := by omega
    have hx : (ls z)[n]? = some (ls z)[n] := List.getElem?_eq_getElem hlt'
    have h1 := tend_le hx
    have hgt := tend_gt (ls z) n
    generalize (ls z)[n] = c at hx
    refine ⟨fun σ2 H2 => ∃ (n2 : Nat) (y : Option V) (us : List V) (t0 t1 : List FTok), σ2 = [some (.str z), some (.ref a), some (.int (n2 : Nat)), y] ∧ n < n2 ∧ n2 ≤ (ls z).length ∧ H2 a = some (.lst us) ∧ us.length ≤ n2 ∧ Al (TkW K H2) us t0 ∧ TkP (ls z) n2 t1 ∧ t0 ++ t1 = ts ∧ Kp a H H2, ?_, ?_⟩
    · rintro σ2 H2 ⟨n2, y, us, t0, t1, rfl, hn2, hn3, r⟩
      exact ⟨_, by omega, n2, y, us, t0, t1, rfl, hn3, rfl, r⟩
    refine ⟨_, rfl, _, rfl, z, n, _, rfl, hx, by omega, ?_⟩
    -- behind the test
    refine ⟨fun σ2 H2 => ∃ (us : List V) (t0 t1 : List FTok), σ2 = [some (.str z), some (.ref a), some (.int (n : Nat)), some (.int (tend (ls z) n : Nat))] ∧ H2 a = some (.lst us) ∧ us.length ≤ tend (ls z) n ∧ Al (TkW K H2) us t0 ∧ TkP (ls z) (tend (ls z) n) t1 ∧ t0 ++ t1 = ts ∧ Kp a H H2, ?_, ?_⟩
    · refine ⟨_, rfl, _, rfl, _, _, _, rfl, rfl, fit (by omega), at_ls hx rfl, rfl, ?_⟩
      by_cases hc : c = 32
      · refine ne_no ?_ ?_
        · rw [hc]; decide +kernel
        · refine ⟨us, t0, t1, rfl, hA, by omega, hal, ?_, e, kp⟩
          cases htk with
          | nil => omega
          | sp _ h => exact h
          | tok e2 n2 _ => rw [hx] at e2; exact absurd ((Option.some.inj e2).symm.trans hc) n2
      · obtain ⟨ts', et, hk⟩ : ∃ ts', t1 = (n, tokAt (ls z) n) :: ts' ∧ TkP (ls z) (tend (ls z) n) ts' := by
          cases htk with
          | nil => omega
          | sp e2 h => rw [hx] at e2; exact absurd (Option.some.inj e2) hc
          | tok _ _ h => exact ⟨_, rfl, h⟩
        refine ne_yes ?_ ?_
        · intro e
          refine hc ?_
          have := congrArg ls e
          rw [ls_sp] at this
          exact (List.cons.inj this).1
        · refine ⟨_, rfl, .inl ⟨rfl, _, SqL.of hA⟩, _, rfl, _, rfl, _, rfl, _, rfl, _, rfl, _, rfl, _, rfl, fit (by omega), (by show 2 ≤ sizeLine; decide), fun p hp => ?_⟩
          have hA2 : (upd H' p (.tup [.int (n : Nat), .str (cutS z (some (n : Nat)) (some (tend (ls z) n : Nat)))])) a = some (.lst us) := by
            rw [upd_ne (ne_of_none hA hp)]
            exact hA
          have etx : cutS z (some (n : Nat)) (some (tend (ls z) n : Nat)) = tokAt (ls z) n := ls_inj (by rw [ls_cut, ls_tx])
          have kpp := kp.trans (Kp.new (r := a) (o := .tup [.int (n : Nat), .str (cutS z (some (n : Nat)) (some (tend (ls z) n : Nat)))]) hp)
          have tp2 : Tp H' (upd (upd H' p (.tup [.int (n : Nat), .str (cutS z (some (n : Nat)) (some (tend (ls z) n : Nat)))])) a (.lst (us ++ [.ref p]))) := (tp_new hp).trans (tp_set hA2)
          refine ⟨a, _, _, rfl, rfl, hA2, Nat.lt_of_le_of_lt (show us.length ≤ 1000 by omega) (by decide), us ++ [.ref p], t0 ++ [(n, tokAt (ls z) n)], ts', rfl, upd_same, ?_, (hal.imp (TkW.tp tp2)).app (.cons ⟨p, rfl, ?_⟩ .nil), hk, ?_, kpp.trans Kp.at⟩
          · rw [List.length_append, List.length_singleton]
            omega
          · show SqT K _ p [.int (n : Nat), .str (tokAt (ls z) n)]
            rw [← etx]
            exact (tp_set hA2).sq (SqT.of upd_same)
          · rw [List.append_assoc, ← e, et]
            rfl
    · rintro σ2 H2 ⟨us2, t2, t3, rfl, hA2, hu2, hal2, htk2, e2, kp2⟩
      exact ⟨_, rfl, tend (ls z) n, _, us2, t2, t3, rfl, hgt, h1, hA2, hu2, hal2, htk2, e2, kp2⟩
  · have hge : ¬ ((n : Int) < (z.length : Nat)) := fun q => h (decide_eq_true q)
    have hn2 : n = (ls z).length := by omega
    subst hn2
    obtain rfl : t1 = [((ls z).length, ("" : Str))] := htk.det .nil
    refine ⟨_, rfl, .inl ⟨rfl, _, SqL.of hA⟩, _, rfl, _, rfl, fit (by omega), (by show 2 ≤ sizeLine; decide), fun p hp => ?_⟩
    have hA2 : (upd H' p (.tup [.int (z.length : Nat), .str ""])) a = some (.lst us) := by
      rw [upd_ne (ne_of_none hA hp)]
      exact hA
    have kpp := kp.trans (Kp.new (r := a) (o := .tup [.int (z.length : Nat), .str ""]) hp)
    have tp2 : Tp H' (upd (upd H' p (.tup [.int (z.length : Nat), .str ""])) a (.lst (us ++ [.ref p]))) := (tp_new hp).trans (tp_set hA2)
    refine ⟨a, _, _, rfl, rfl, hA2, Nat.lt_of_le_of_lt (show us.length ≤ 1000 by omega) (by decide), _, rfl, ?_⟩
    refine q a (us ++ [.ref p]) _ upd_same ha ?_ ?_
    · rw [← e]
      refine (hal.imp (TkW.tp tp2)).app (.cons ⟨p, rfl, ?_⟩ .nil)
      show SqT K _ p [.int ((ls z).length : Nat), .str ""]
      rw [← hl]
      exact (tp_set hA2).sq (SqT.of upd_same)
    · have kk := kpp.trans (Kp.at (o := .lst (us ++ [.ref p])))
      exact fun b o hb => kk b o (ne_of_none hb ha) hb

end
end SW

set_option Elab.async false
set_option linter.all false
set_option maxRecDepth 100000
set_option maxHeartbeats 4000000
namespace SW
open PySem PySem.Spec PyProof.Rows L2
section
variable {P : Program} {w : World} {K : PySem.W.Frag} {mg : Str → Option Value} {base : Heap}
theorem ni_no {c : Str} {L : List Str} {A B : Prop} (h : c ∈ L) (q : B) : ∃ k, V.bl (if true = true then !inV (.str c) (L.map V.str) else inV (.str c) (L.map V.str)) = V.bl k ∧ if k = true then A else B :=
  ⟨false, by rw [if_pos rfl, inV_str, decide_eq_true h]; rfl, q⟩
theorem ni_yes {c : Str} {L : List Str} {A B : Prop} (h : c ∉ L) (q : A) : ∃ k, V.bl (if true = true then !inV (.str c) (L.map V.str) else inV (.str c) (L.map V.str)) = V.bl k ∧ if k = true then A else B :=
  ⟨true, by rw [if_pos rfl, inV_str, decide_eq_false h]; rfl, q⟩
theorem low26 : ((List.range 26).all fun i => Unicode.isLower (i + 97) && !(Unicode.isUpper (i + 97) || Unicode.isTitle (i + 97))) = true := by decide +kernel
theorem low_uni {c : Nat} (h : low c) : Unicode.isLower c = true ∧ (Unicode.isUpper c || Unicode.isTitle c) = false := by
  unfold low at h
  have := List.all_eq_true.mp low26 (c - 97) (List.mem_range.mpr (by omega))
  rw [show c - 97 + 97 = c by omega, Bool.and_eq_true, Bool.not_eq_true'] at this
  exact this
theorem nm_lower {c : Str} (h : NmOk c) : Txt.islower c = true := by
  obtain ⟨h1, _, h3⟩ := h
  unfold Txt.islower
  rw [Bool.and_eq_true, Bool.not_eq_true', Array.any_eq_true, Array.any_eq_false]
  refine ⟨⟨0, h1, ?_⟩, fun i hi => ?_⟩
  · exact (low_uni (h3 _ (Array.mem_toList_iff.mpr (Array.getElem_mem _)))).1
  · rw [(low_uni (h3 _ (Array.mem_toList_iff.mpr (Array.getElem_mem hi)))).2]
    exact Bool.false_ne_true
/-- a token: empty, or letters of which all but the first are small, or a sign that stands alone -/
def TF (t : Str) : Prop := ls t = [] ∨ (∃ c w, ls t = c :: w ∧ wrd c ∧ ∀ x ∈ w, low x) ∨ ∃ c, ls t = [c] ∧ sgc c
theorem nolow : ([40, 41, 123, 125, 60, 61].all fun c => !Unicode.isLower c) = true := by decide +kernel
theorem upXYZ : ([88, 89, 90].all fun c => Unicode.isUpper c) = true := by decide +kernel
theorem lower_nm {t : Str} (h : TF t) (hl : Txt.islower t = true) (h8 : t.cps.size ≤ 8) : NmOk t := by
  unfold Txt.islower at hl
  rw [Bool.and_eq_true, Bool.not_eq_true', Array.any_eq_true, Array.any_eq_false] at hl
  obtain ⟨⟨i, hi, h1⟩, h2⟩ := hl
  have hsz : (ls t).length = t.cps.size := by simp [ls]
  have hget : ∀ (j : Nat) (hj : j < t.cps.size), (ls t)[j]? = some t.cps[j] := fun j hj => by
    rw [List.getElem?_eq_getElem (by rw [hsz]; exact hj)]
    simp [ls]
  rcases h with h | ⟨c, w, e, hc, hw⟩ | ⟨c, e, hc⟩
  · rw [h, List.length_nil] at hsz
    omega
  · have h0 : 0 < t.cps.size := by rw [← hsz, e]; simp
    have hx := hget 0 h0
    rw [e, List.getElem?_cons_zero] at hx
    have hx := Option.some.inj hx
    have hlow : low c := by
      rcases hc with hc | hc
      · exact hc
      · exfalso
        have h3 := h2 0 h0
        rw [← hx] at h3
        have h4 : Unicode.isUpper c = true := List.all_eq_true.mp upXYZ c (by
          simp only [List.mem_cons, List.not_mem_nil, or_false]
          omega)
        rw [h4] at h3
        exact h3 rfl
    refine ⟨h0, h8, fun x hx => ?_⟩
    have hx : x ∈ ls t := hx
    rw [e] at hx
    rcases List.mem_cons.mp hx with q | hx
    · rw [q]; exact hlow
    · exact hw x hx
  · exfalso
    have hx := hget i hi
    have hm : t.cps[i] ∈ ls t := List.mem_of_getElem? hx
    rw [e, List.mem_singleton] at hm
    rw [hm] at h1
    have h4 := List.all_eq_true.mp nolow c (by
      unfold sgc at hc
      simp only [List.mem_cons, List.not_mem_nil, or_false]
      omega)
    rw [h1] at h4
    cases h4
/-! ### one token taken -/
/-- a token taken, or the error at the place where the tokens stand -/
def Rk {α : Type} (CI CT : Addr) (E : XK) (as : List Addr) (H : Hp) (ok : α → Prop) : Except (List FTok) α → Prop
  | .error e => Wz CI CT E as H (.it (hd e))
  | .ok x => ok x
/-- tokens of a text of at most 1000 signs -/
def Gd (ts : List FTok) : Prop := ∀ x ∈ ts, x.1 ≤ 1000 ∧ x.2.length ≤ 1000 ∧ TF x.2
theorem Gd.lft {ts r : List FTok} {n k : Nat} (g : Gd ts) (l : Lft ts r n k) : Gd r := fun x m => g x (l.1.subset m)
def spTake (K : PySem.W.Frag) (CI CT : Addr) : Sp := fun vs H Q E => ∃ (a e : Addr) (ts : List FTok) (L : List Str), vs = [.ref a, .ref e] ∧ TW K H a ts ∧ En ts ∧ Gd ts ∧ H e = some (.lst (L.map V.str)) ∧
  Rk CI CT E [a] H (fun p : Str × List FTok => ∀ H', TW K H' a p.2 → Kp a H H' → Q (.str p.1) H') (tk1 L ts)
theorem sc__take : FnScope ["tokens", "expected", "position", "token"] ["tokens", "expected"] (defScope s__take) := ⟨rfl, rfl, rfl, by decide +kernel, rfl, by decide +kernel, by decide +kernel⟩
theorem ok_take {CI CT : Addr} (D : Df K mg "_take" s__take ["tokens", "expected"]) (bi : Bi mg) (eInvalidText : ErrOk P w K mg base "InvalidText" CI "InvalidText" "position") : CalX P w K mg base 4 "_take" ["tokens", "expected"] (spTake K CI CT) := by
  refine D.okX sc__take (fun vs H Q E h => ?_) (fun f cdv A outer s H vs Q E hr h => ?_)
  · obtain ⟨a, e, ts, L, rfl, _⟩ := h
    rfl
  obtain ⟨a, e, ts, L, rfl, hT, hE, hB, hL, q⟩ := h
  obtain ⟨n, t, ts, rfl⟩ := hE.ne
  obtain ⟨p, vs, hA, s, hT2⟩ := TkW.pop hT
  have hn : n ≤ 1000 := (hB (n, t) (List.mem_cons_self ..)).1
  refine ⟨_, (pss_cons (ps_asg (pe_bm0 PySem.F.plainAttrs_list PySem.F.slot_list_pop PySem.F.type_list_pop mt_pop (pv 0)) (pg_tup rfl (pgs_cons (pg_name (i := 2) sc__take.nd rfl (.inl rfl)) (pgs_cons (pg_name (i := 3) sc__take.nd rfl (.inl rfl)) pgs_nil))))
      (pss_cons (ps_if (pt_cmpR op_notIn_seq (pv 3) (pv 1) (by rfl)) (pss_one (ps_raise rfl (takes_of rfl rfl rfl rfl) (pmk_err eInvalidText (hr.mono (by omega)) (by rfl) (pa_cons (pv 2) pa_nil)))) pss_nil)
      (pss_one (ps_ret (pv 3))))), ?_⟩
  refine ⟨_, rfl, .inl ⟨rfl, _, SqL.of hA⟩, a, _, _, rfl, rfl, hA, last_get, ?_⟩
  rw [List.dropLast_concat]
  refine ⟨p, _, rfl, (tp_set hA).sq s, rfl, _, _, rfl, _, _, rfl, rfl, ?_⟩
  have ne : e ≠ a := fun h => by
    rw [h, hA] at hL
    have h2 := (HO.lst.inj (Option.some.inj hL))
    have h3 : V.ref p ∈ L.map V.str := by rw [← h2]; simp
    obtain ⟨x, _, hx⟩ := List.mem_map.mp h3
    cases hx
  unfold tk1 at q
  dsimp only at q
  by_cases m : t ∈ L
  · rw [if_pos m] at q
    refine ⟨_, rfl, _, rfl, e, _, rfl, .inl (SqL.of (by rw [upd_ne ne]; exact hL)), rfl, flat_strs L, ni_no m ?_⟩
    exact ⟨_, rfl, q _ hT2 Kp.at⟩
  · rw [if_neg m] at q
    refine ⟨_, rfl, _, rfl, e, _, rfl, .inl (SqL.of (by rw [upd_ne ne]; exact hL)), rfl, flat_strs L, ni_yes m ?_⟩
    exact ⟨_, rfl, mk_err (log_nat (by omega)) (wz_it (CT := CT) (Wz.mono (e := .it (hd ((n, t) :: ts))) q (KpS.at (List.mem_singleton.mpr rfl)) (fun x h => h)))⟩
def spTakeN (K : PySem.W.Frag) (CI CT : Addr) : Sp := fun vs H Q E => ∃ (a : Addr) (ts : List FTok), vs = [.ref a] ∧ TW K H a ts ∧ En ts ∧ Gd ts ∧
  Rk CI CT E [a] H (fun p : Str × List FTok => ∀ H', TW K H' a p.2 → Kp a H H' → Q (.str p.1) H') (tkN ts)
theorem sc__take_name : FnScope ["tokens", "position", "token"] ["tokens"] (defScope s__take_name) := ⟨rfl, rfl, rfl, by decide +kernel, rfl, by decide +kernel, by decide +kernel⟩
theorem ok_take_name {CI CT : Addr} (D : Df K mg "_take_name" s__take_name ["tokens"]) (bi : Bi mg) {vN : Value} (mMAX_NAME : mg "MAX_NAME" = some vN) (rMAX_NAME : L2.RelV (.int 8) vN) (eInvalidText : ErrOk P w K mg base "InvalidText" CI "InvalidText" "position") : CalX P w K mg base 4 "_take_name" ["tokens"] (spTakeN K CI CT) := by
  refine D.okX sc__take_name (fun vs H Q E h => ?_) (fun f cdv A outer s H vs Q E hr h => ?_)
  · obtain ⟨a, ts, rfl, _⟩ := h
    rfl
  obtain ⟨a, ts, rfl, hT, hE, hB, q⟩ := h
  obtain ⟨n, t, ts, rfl⟩ := hE.ne
  obtain ⟨p, vs, hA, s, hT2⟩ := TkW.pop hT
  obtain ⟨hn, htl, hTF⟩ := hB (n, t) (List.mem_cons_self ..)
  have htl' : t.length ≤ 1000 := htl
  refine ⟨_, (pss_cons (ps_asg (pe_bm0 PySem.F.plainAttrs_list PySem.F.slot_list_pop PySem.F.type_list_pop mt_pop (pv 0)) (pg_tup rfl (pgs_cons (pg_name (i := 1) sc__take_name.nd rfl (.inl rfl)) (pgs_cons (pg_name (i := 2) sc__take_name.nd rfl (.inl rfl)) pgs_nil))))
      (pss_cons (ps_if (PW.pt (pw_or (pt_not (pt_val (pe_bm0 PySem.F.plainAttrs_str PySem.F.slot_str_islower PySem.F.type_str_islower mt_islower (pv 2)))) (pw_or1 (pt_cmpR op_gt (pe_callB call_len_str (by rfl) bi.len PySem.boot_len (pa_cons (pv 2) pa_nil)) (pe_glob (v := .int 8) (by rfl) mMAX_NAME rMAX_NAME) (nomark _))))) (pss_one (ps_raise rfl (takes_of rfl rfl rfl rfl) (pmk_err eInvalidText (hr.mono (by omega)) (by rfl) (pa_cons (pv 1) pa_nil)))) pss_nil)
      (pss_one (ps_ret (pv 2))))), ?_⟩
  refine ⟨_, rfl, .inl ⟨rfl, _, SqL.of hA⟩, a, _, _, rfl, rfl, hA, last_get, ?_⟩
  rw [List.dropLast_concat]
  refine ⟨p, _, rfl, (tp_set hA).sq s, rfl, _, _, rfl, _, _, rfl, rfl, ?_⟩
  unfold tkN at q
  dsimp only at q
  have er : ∀ {A : Prop}, (nmB t = true → A) → (nmB t ≠ true → A) → A := fun x y => by by_cases h : nmB t = true; exact x h; exact y h
  have bad : nmB t ≠ true → Wz CI CT E [a] (upd H a (.lst vs)) (.it n) := fun m => by
    rw [if_neg m] at q
    exact Wz.mono (e := .it (hd ((n, t) :: ts))) q (KpS.at (List.mem_singleton.mpr rfl)) (fun x h => h)
  refine ⟨_, rfl, rfl, t, rfl, rfl, trivial, _, rfl, ?_⟩
  by_cases hlo : Txt.islower t = true
  · rw [hlo]
    refine ⟨_, rfl, _, rfl, fit (by omega), _, _, rfl, rfl, _, rfl, ite2 (fun h => ?_) (fun h => ?_)⟩
    · have h8 : (8 : Int) < (t.length : Nat) := of_decide_eq_true h
      refine ⟨_, rfl, mk_err (log_nat (by omega)) (wz_it (CT := CT) (bad (fun m => ?_)))⟩
      have := (nmB_ok.mp m).2.1
      have e : t.length = t.cps.size := rfl
      omega
    · have h8 : ¬ (8 : Int) < (t.length : Nat) := fun z => h (decide_eq_true z)
      have m : nmB t = true := nmB_ok.mpr (lower_nm hTF hlo (by have e : t.length = t.cps.size := rfl; omega))
      rw [if_pos m] at q
      exact ⟨_, rfl, q _ hT2 Kp.at⟩
  · rw [Bool.eq_false_iff.mpr hlo]
    exact ⟨_, rfl, mk_err (log_nat (by omega)) (wz_it (CT := CT) (bad (fun m => hlo (nm_lower (nmB_ok.mp m)))))⟩

end
end SW

set_option Elab.async false
set_option linter.all false
set_option maxRecDepth 100000
set_option maxHeartbeats 4000000
namespace SW
open PySem PySem.Spec PyProof.Rows L2
section
variable {P : Program} {w : World} {K : PySem.W.Frag} {mg : Str → Option Value} {base : Heap}
/-! ### what a formula begins with -/
theorem sg_abc : signs "abc" = abc.map V.str := by decide +kernel
theorem sg_xyz : signs "xyz" = xyz.map V.str := by decide +kernel
theorem sg_XYZ : signs "XYZ" = XYZ.map V.str := by decide +kernel
theorem mem_l {x : Str} {L M : List Str} (h : x ∈ L) : x ∈ L ++ M := List.mem_append_left _ h
theorem mem_r {x : Str} {L M : List Str} (h : x ∈ M) : x ∈ L ++ M := List.mem_append_right _ h
theorem knd_tab {s : Str} (h : s ∈ sgs) : (s, knd s) ∈ kndT := by
  simp only [sgs, List.mem_cons, List.not_mem_nil, or_false] at h
  rcases h with rfl | rfl | rfl | rfl <;> decide +kernel
theorem sgs_keys : kndT.map (fun p => p.1) = sgs := rfl
/-- one token more: the error, or the rest -/
theorem take_at {CI CT a : Addr} {ts : List FTok} {L : List Str} {k : Nat} {H H0 : Hp} {as : List Addr} {Q : VK} {E : XK} {e : Addr} (hT : TW K H a ts) (hE : En ts) (hG : Gd ts) (hL : H e = some (.lst (L.map V.str))) (n : ∀ t ∈ L, t ≠ ("" : Str) ∧ k ≤ t.length) (ha : a ∈ as) (kp : KpS as H0 H)
    (bad : ∀ r, tk1 L ts = .error r → Wz CI CT E as H0 (.it (hd r))) (ok : ∀ t r H', tk1 L ts = .ok (t, r) → t ∈ L → Lft ts r 1 k → TW K H' a r → Kp a H H' → Q (.str t) H') : spTake K CI CT [.ref a, .ref e] H Q E := by
  refine ⟨a, e, ts, L, rfl, hT, hE, hG, hL, ?_⟩
  rcases tk1_spec hE n with ⟨t, r, e1, m, l⟩ | ⟨r, e1, f⟩
  · rw [e1]
    exact fun H' h1 h2 => ok t r H' e1 m l h1 h2
  · rw [e1]
    exact Wz.mono (CT := CT) (e := .it (hd r)) (bad r e1) kp (fun x h => by rw [List.mem_singleton.mp h]; exact ha)
def spRel (K : PySem.W.Frag) (CI CT : Addr) : Sp := fun vs H Q E => ∃ (a : Addr) (x : Str) (ts : List FTok), vs = [.ref a, .str x] ∧ TW K H a ts ∧ En ts ∧ Gd ts ∧ x ∈ xyz ∧
  Rk CI CT E [a] H (fun p : Fm × List FTok => ∀ v H', FV K H' v p.1 → TW K H' a p.2 → Kp a H H' → Q v H') (leafR x ts)
theorem sc__read_relation : FnScope ["tokens", "place", "sign", "other"] ["tokens", "place"] (defScope s__read_relation) := ⟨rfl, rfl, rfl, by decide +kernel, rfl, by decide +kernel, by decide +kernel⟩
theorem ok_relation {CI CT aK : Addr} {vP vS : Value} (D : Df K mg "_read_relation" s__read_relation ["tokens", "place"]) (bi : Bi mg) (mKINDS : mg "KINDS" = some (.ref aK)) (kK : KdS K w aK kndT) (mPLACES : mg "PLACES" = some vP) (rP : L2.RelV (.str "xyz") vP) (mSETS : mg "SETS" = some vS) (rS : L2.RelV (.str "XYZ") vS)
    (c_take : CalX P w K mg base 4 "_take" ["tokens", "expected"] (spTake K CI CT)) : CalX P w K mg base 5 "_read_relation" ["tokens", "place"] (spRel K CI CT) := by
  refine D.okX sc__read_relation (fun vs H Q E h => ?_) (fun f cdv A outer s H vs Q E hr h => ?_)
  · obtain ⟨a, x, ts, rfl, _⟩ := h
    rfl
  obtain ⟨a, x, ts, rfl, hT, hE, hG, hx, q⟩ := h
  refine ⟨_, (pss_cons (ps_set (i := 2) sc__read_relation.nd rfl (.inl rfl) (pe_ownX c_take hr (by omega) passX (by rfl) (pa_cons (pv 0) (pa_cons (pe_callTy (call_list_kd rfl) (by rfl) bi.list (by decide +kernel) (pa_cons (pe_glob (v := .ref aK) (by rfl) mKINDS rfl) pa_nil)) pa_nil))))
      (pss_cons (ps_set (i := 3) sc__read_relation.nd rfl (.inl rfl) (pe_ownX c_take hr (by omega) passX (by rfl) (pa_cons (pv 0) (pa_cons (pe_ifExp (pt_cmpR op_eq (pv 2) pe_str (nomark _)) (pe_callTy (call_list_S rfl) (by rfl) bi.list (by decide +kernel) (pa_cons (pe_glob (v := .str "XYZ") (by rfl) mSETS rS) pa_nil)) (pe_callTy (call_list_S rfl) (by rfl) bi.list (by decide +kernel) (pa_cons (pe_glob (v := .str "xyz") (by rfl) mPLACES rP) pa_nil))) pa_nil))))
      (pss_one (ps_ret (pe_tup (pa_cons (pe_ix ix_kdict (pe_glob (v := .ref aK) (by rfl) mKINDS rfl) (pv 2) (fun _ _ => rfl)) (pa_cons (pv 1) (pa_cons (pv 3) pa_nil)))))))), ?_⟩
  refine ⟨_, rfl, _, _, rfl, kK.1, fun p hp => ?_⟩
  unfold leafR at q
  dsimp only [tNil, List.cons_append, List.nil_append]
  refine take_at (CT := CT) (as := [a]) (H0 := H) (L := sgs) (k := 1) (tw_new hT hp) hE hG upd_same (all_len (by decide +kernel)) (List.mem_singleton.mpr rfl) (KpS.new hp) (fun r e => by rw [e] at q; exact q) (fun t r H1 e m l hT1 k1 => ?_)
  rw [e] at q
  dsimp only at q
  have kk := (Kp.new (r := a) (o := .lst ((kndT.map fun p => p.1).map V.str)) hp).trans k1
  by_cases hin : t = "in"
  · rw [if_pos hin] at q
    refine ⟨_, rfl, _, rfl, rfl, eq_yes hin ?_⟩
    refine ⟨_, rfl, by decide, fun p2 hp2 => ?_⟩
    dsimp only [tNil, List.cons_append, List.nil_append]
    refine take_at (CT := CT) (as := [a]) (H0 := H) (L := XYZ) (k := 1) (tw_new hT1 hp2) l.2.1 (hG.lft l) (by rw [upd_same, sg_XYZ]) (all_len (by decide +kernel)) (List.mem_singleton.mpr rfl) ((KpS.kp kk (List.mem_singleton.mpr rfl)).trans (KpS.new hp2)) (fun r e => by rw [e] at q; exact q) (fun y r2 H2 e2 m2 l2 hT2 k2 => ?_)
    rw [e2] at q
    refine ⟨_, rfl, _, _, _, rfl, rfl, kK.of (knd_tab m), _, rfl, _, rfl, (by show 3 ≤ sizeLine; decide), fun p3 hp3 => ?_⟩
    exact q _ _ (fv_rel (SqT.of upd_same)) (tw_new hT2 hp3) (kk.trans ((Kp.new hp2).trans (k2.trans (Kp.new hp3))))
  · rw [if_neg hin] at q
    refine ⟨_, rfl, _, rfl, rfl, eq_no hin ?_⟩
    refine ⟨_, rfl, by decide, fun p2 hp2 => ?_⟩
    dsimp only [tNil, List.cons_append, List.nil_append]
    refine take_at (CT := CT) (as := [a]) (H0 := H) (L := xyz) (k := 1) (tw_new hT1 hp2) l.2.1 (hG.lft l) (by rw [upd_same, sg_xyz]) (all_len (by decide +kernel)) (List.mem_singleton.mpr rfl) ((KpS.kp kk (List.mem_singleton.mpr rfl)).trans (KpS.new hp2)) (fun r e => by rw [e] at q; exact q) (fun y r2 H2 e2 m2 l2 hT2 k2 => ?_)
    rw [e2] at q
    refine ⟨_, rfl, _, _, _, rfl, rfl, kK.of (knd_tab m), _, rfl, _, rfl, (by show 3 ≤ sizeLine; decide), fun p3 hp3 => ?_⟩
    exact q _ _ (fv_rel (SqT.of upd_same)) (tw_new hT2 hp3) (kk.trans ((Kp.new hp2).trans (k2.trans (Kp.new hp3))))
abbrev fstT : List Str := abc ++ (xyz ++ (qus ++ (["not", "(", "{"] : List Str)))
theorem fst_eq : signs "abc" ++ (signs "xyz" ++ ([V.str "some", V.str "all"] ++ [V.str "not", .str "(", .str "{"])) = fstT.map V.str := by
  rw [sg_abc, sg_xyz]
  rfl
/-- what a step gives: a formula, or one more thing begun -/
def StP (K : PySem.W.Frag) (a b : Addr) (H : Hp) (Q : VK) : List Gr × Option Fm × List FTok → Prop
  | (c, none, ts) => ∀ H', RP K a b H H' ts c → Q .non H'
  | (c, some f, ts) => ∀ v H', FV K H' v f → RP K a b H H' ts c → Q v H'
def spBegin (K : PySem.W.Frag) (CI CT : Addr) : Sp := fun vs H Q E => ∃ (a b : Addr) (ts : List FTok) (c : List Gr), vs = [.ref a, .ref b] ∧ TW K H a ts ∧ En ts ∧ Gd ts ∧ GW K H b c ∧ b ≠ a ∧ c.length ≤ 1000 ∧
  Rk CI CT E [a, b] H (StP K a b H Q) (fBeg c ts)
theorem xyz_abc {x : Str} (h : x ∈ xyz) : x ∉ abc := mem3 (P := fun x => x ∉ abc) h (by decide +kernel) (by decide +kernel) (by decide +kernel)
theorem sc__begin : FnScope ["tokens", "begun", "token", "place", "name"] ["tokens", "begun"] (defScope s__begin) := ⟨rfl, rfl, rfl, by decide +kernel, rfl, by decide +kernel, by decide +kernel⟩
theorem ok_begin {CI CT aQ : Addr} {vL vP vS : Value} (D : Df K mg "_begin" s__begin ["tokens", "begun"]) (bi : Bi mg) (mLETTERS : mg "LETTERS" = some vL) (tk : L2.RelV (.str "abc") vL) (mPLACES : mg "PLACES" = some vP) (rP : L2.RelV (.str "xyz") vP) (mSETS : mg "SETS" = some vS) (rS : L2.RelV (.str "XYZ") vS)
    (mQUANTIFIERS : mg "QUANTIFIERS" = some (.ref aQ)) (hQ : ∀ H, SqT K H aQ [.str "some", .str "all"])
    (c_take : CalX P w K mg base 4 "_take" ["tokens", "expected"] (spTake K CI CT)) (c_take_name : CalX P w K mg base 4 "_take_name" ["tokens"] (spTakeN K CI CT)) (c_read_relation : CalX P w K mg base 5 "_read_relation" ["tokens", "place"] (spRel K CI CT)) : CalX P w K mg base 6 "_begin" ["tokens", "begun"] (spBegin K CI CT) := by
  refine D.okX sc__begin (fun vs H Q E h => ?_) (fun f cdv A outer s H vs Q E hr h => ?_)
  · obtain ⟨a, b, ts, c, rfl, _⟩ := h
    rfl
  obtain ⟨a, b, ts, c, rfl, hT, hE, hG, hF, ne, hc, q⟩ := h
  obtain ⟨tkl, rfl⟩ := tk
  refine ⟨_, (pss_cons (ps_set (i := 2) sc__begin.nd rfl (.inl rfl) (pe_ownX c_take hr (by omega) passX (by rfl) (pa_cons (pv 0) (pa_cons (pe_lst (pa_starS rfl (pe_glob (v := .str "abc") (by rfl) mLETTERS ⟨_, rfl⟩) (pa_starS rfl (pe_glob (v := .str "xyz") (by rfl) mPLACES rP) (StX.pa_star (pe_glob (v := .ref aQ) (by rfl) mQUANTIFIERS rfl) (pa_cons pe_str (pa_cons pe_str (pa_cons pe_str pa_nil))))))) pa_nil))))
      (pss_cons (ps_if (pt_cmpR op_in_seq (pv 2) (pe_callTy (call_list_S rfl) (by rfl) bi.list (by decide +kernel) (pa_cons (pe_glob (v := .str "abc") (by rfl) mLETTERS ⟨_, rfl⟩) pa_nil)) (by rfl)) (pss_cons (ps_expr (pe_ownX c_take hr (by omega) passX (by rfl) (pa_cons (pv 0) (pa_cons (pe_lst (pa_cons pe_str pa_nil)) pa_nil))))
      (pss_cons (ps_set (i := 3) sc__begin.nd rfl (.inl rfl) (pe_ownX c_take hr (by omega) passX (by rfl) (pa_cons (pv 0) (pa_cons (pe_callTy (call_list_S rfl) (by rfl) bi.list (by decide +kernel) (pa_cons (pe_glob (v := .str "xyz") (by rfl) mPLACES rP) pa_nil)) pa_nil))))
      (pss_cons (ps_expr (pe_ownX c_take hr (by omega) passX (by rfl) (pa_cons (pv 0) (pa_cons (pe_lst (pa_cons pe_str pa_nil)) pa_nil))))
      (pss_one (ps_ret (pe_tup (pa_cons pe_str (pa_cons (pv 2) (pa_cons (pv 3) pa_nil))))))))) pss_nil)
      (pss_cons (ps_if (pt_cmpR op_in_seq (pv 2) (pe_callTy (call_list_S rfl) (by rfl) bi.list (by decide +kernel) (pa_cons (pe_glob (v := .str "xyz") (by rfl) mPLACES rP) pa_nil)) (by rfl)) (pss_one (ps_ret (pe_ownX c_read_relation hr (by omega) passX (by rfl) (pa_cons (pv 0) (pa_cons (pv 2) pa_nil))))) pss_nil)
      (pss_cons (ps_if (pt_cmpR op_eq (pv 2) pe_str (nomark _)) (pss_cons (ps_set (i := 4) sc__begin.nd rfl (.inl rfl) (pe_ownX c_take_name hr (by omega) passX (by rfl) (pa_cons (pv 0) pa_nil)))
      (pss_cons (ps_expr (pe_ownX c_take hr (by omega) passX (by rfl) (pa_cons (pv 0) (pa_cons (pe_lst (pa_cons pe_str pa_nil)) pa_nil))))
      (pss_one (ps_ret (pe_tup (pa_cons pe_str (pa_cons (pv 4) pa_nil))))))) pss_nil)
      (C8.pss_cut (ps_if (pt_cmpR op_in_seq (pv 2) (pe_glob (v := .ref aQ) (by rfl) mQUANTIFIERS rfl) (by rfl)) (pss_one (ps_expr (pe_bm PySem.F.plainAttrs_list PySem.F.slot_list_append PySem.F.type_list_append mt_append (pv 1) (pa_cons (pe_tup (pa_cons (pv 2) (pa_cons (pe_ownX c_take hr (by omega) passX (by rfl) (pa_cons (pv 0) (pa_cons (pe_lst (pa_starS rfl (pe_glob (v := .str "xyz") (by rfl) mPLACES rP) (pa_starS rfl (pe_glob (v := .str "XYZ") (by rfl) mSETS rS) pa_nil))) pa_nil))) pa_nil))) pa_nil)))) (pss_one (ps_expr (pe_bm PySem.F.plainAttrs_list PySem.F.slot_list_append PySem.F.type_list_append mt_append (pv 1) (pa_cons (pe_tup (pa_cons (pv 2) pa_nil)) pa_nil)))))
      (pss_one (ps_ret pe_non))))))), ?_⟩
  obtain ⟨n, t, r, rfl⟩ := hE.ne
  have r0 : RP K a b H H ((n, t) :: r) c := ⟨hT, hF, Kp2.refl a b H⟩
  have ia : a ∈ [a, b] := List.mem_cons_self ..
  unfold fBeg at q
  dsimp only at q
  refine ⟨_, rfl, _, rfl, by decide, _, rfl, by decide, aQ, _, rfl, .inl (hQ _), (by show 11 ≤ sizeLine; decide), fun p hp => ?_⟩
  dsimp only [tNil, List.cons_append, List.nil_append]
  refine take_at (CT := CT) (as := [a, b]) (H0 := H) (L := fstT) (k := 1) (tw_new hT hp) hE hG (by rw [upd_same]; exact congrArg (fun l => some (HO.lst l)) fst_eq) (all_len (by decide +kernel)) ia (KpS.new hp) (fun e he => ?_) (fun t' r' H1 he m l hT1 k1 => ?_)
  · unfold tk1 at he
    dsimp only at he
    by_cases m : t ∈ fstT
    · rw [if_pos m] at he
      cases he
    · rw [if_neg m] at he
      cases he
      have m1 : t ∉ abc := fun h => m (mem_l h)
      have m2 : t ∉ xyz := fun h => m (mem_r (mem_l h))
      have m3 : t ∉ qus := fun h => m (mem_r (mem_r (mem_l h)))
      have m4 : t ≠ "{" := fun h => m (by rw [h]; decide +kernel)
      have m5 : t ≠ "not" := fun h => m (by rw [h]; decide +kernel)
      have m6 : t ≠ "(" := fun h => m (by rw [h]; decide +kernel)
      rw [if_neg m1, if_neg m2, if_neg m4, if_neg m3, if_neg m5, if_neg m6] at q
      exact q
  unfold tk1 at he
  dsimp only at he
  by_cases mf : t ∈ fstT
  rotate_left
  · rw [if_neg mf] at he
    cases he
  rw [if_pos mf] at he
  cases he
  have r1 := (r0.new (o := .lst (signs "abc" ++ (signs "xyz" ++ ([V.str "some", V.str "all"] ++ [V.str "not", .str "(", .str "{"])))) hp).took ne hT1 k1
  have lz : ∀ {n : Nat}, n = c.length → n < sizeLine := fun e => Nat.lt_of_le_of_lt (show _ ≤ 1000 by omega) (by decide)
  by_cases ma : t ∈ abc
  · -- a letter
    rw [if_pos ma] at q
    unfold leafL at q
    refine ⟨_, rfl, _, rfl, by decide, fun p2 hp2 => ⟨p2, abc.map V.str, rfl, .inl (SqL.of (by rw [upd_same, sg_abc])), rfl, rfl, in_yes abc ma ?_⟩⟩
    have r2 := r1.new (o := .lst (signs "abc")) hp2
    refine ⟨_, rfl, (by show 1 ≤ sizeLine; decide), fun p3 hp3 => ?_⟩
    have r3 := r2.new (o := .lst [.str "("]) hp3
    dsimp only [tNil, List.cons_append, List.nil_append]
    refine take_at (CT := CT) (as := [a, b]) (H0 := H) (L := ["("]) (k := 1) r3.tok l.2.1 (hG.lft l) upd_same (all_len (by decide +kernel)) ia r3.kp.kps (fun e he => by rw [he] at q; exact q) (fun t3 s3 H3 e3 m3 l3 hT3 k3 => ?_)
    rw [e3] at q
    dsimp only at q
    have r4 := r3.took ne hT3 k3
    refine ⟨_, rfl, _, rfl, by decide, fun p4 hp4 => ?_⟩
    have r5 := r4.new (o := .lst (signs "xyz")) hp4
    have g3 := (hG.lft l).lft l3
    dsimp only [tNil, List.cons_append, List.nil_append]
    refine take_at (CT := CT) (as := [a, b]) (H0 := H) (L := xyz) (k := 1) r5.tok l3.2.1 g3 (by rw [upd_same, sg_xyz]) (all_len (by decide +kernel)) ia r5.kp.kps (fun e he => by rw [he] at q; exact q) (fun x s4 H4 e4 m4 l4 hT4 k4 => ?_)
    rw [e4] at q
    dsimp only at q
    have r6 := r5.took ne hT4 k4
    refine ⟨_, rfl, (by show 1 ≤ sizeLine; decide), fun p5 hp5 => ?_⟩
    have r7 := r6.new (o := .lst [.str ")"]) hp5
    dsimp only [tNil, List.cons_append, List.nil_append]
    refine take_at (CT := CT) (as := [a, b]) (H0 := H) (L := [")"]) (k := 1) r7.tok l4.2.1 (g3.lft l4) upd_same (all_len (by decide +kernel)) ia r7.kp.kps (fun e he => by rw [he] at q; exact q) (fun t5 s5 H5 e5 m5 l5 hT5 k5 => ?_)
    rw [e5] at q
    have r8 := r7.took ne hT5 k5
    refine ⟨_, rfl, _, rfl, (by show 3 ≤ sizeLine; decide), fun p6 hp6 => ?_⟩
    exact q _ _ (fv_rel (SqT.of upd_same)) (r8.new hp6)
  rw [if_neg ma] at q
  refine ⟨_, rfl, _, rfl, by decide, fun p2 hp2 => ⟨p2, abc.map V.str, rfl, .inl (SqL.of (by rw [upd_same, sg_abc])), rfl, rfl, in_no abc ma ?_⟩⟩
  have r2 := r1.new (o := .lst (signs "abc")) hp2
  by_cases mx : t ∈ xyz
  · rw [if_pos mx] at q
    refine ⟨_, rfl, _, rfl, by decide, fun p3 hp3 => ⟨p3, xyz.map V.str, rfl, .inl (SqL.of (by rw [upd_same, sg_xyz])), rfl, rfl, in_yes xyz mx ?_⟩⟩
    have r3 := r2.new (o := .lst (signs "xyz")) hp3
    refine ⟨_, rfl, _, rfl, a, t, r, rfl, r3.tok, l.2.1, hG.lft l, mx, ?_⟩
    cases hl : leafR t r with
    | error e =>
      rw [hl] at q
      exact Wz.mono (CT := CT) (e := .it (hd e)) q r3.kp.kps (fun x h => by rw [List.mem_singleton.mp h]; exact ia)
    | ok p =>
      rw [hl] at q
      exact fun v H4 hv hT4 k4 => q v H4 hv (r3.took ne hT4 k4)
  rw [if_neg mx] at q
  refine ⟨_, rfl, _, rfl, by decide, fun p3 hp3 => ⟨p3, xyz.map V.str, rfl, .inl (SqL.of (by rw [upd_same, sg_xyz])), rfl, rfl, in_no xyz mx ?_⟩⟩
  have r3 := r2.new (o := .lst (signs "xyz")) hp3
  by_cases mb : t = "{"
  · rw [if_pos mb] at q
    unfold leafN at q
    refine ⟨_, rfl, rfl, eq_yes mb ?_⟩
    refine ⟨_, rfl, a, r, rfl, r3.tok, l.2.1, hG.lft l, ?_⟩
    rcases tkN_spec l.2.1 with ⟨nm, s4, e4, o4, l4⟩ | ⟨e, e4, f4⟩
    · rw [e4] at q ⊢
      dsimp only at q
      intro H4 hT4 k4
      have r4 := r3.took ne hT4 k4
      refine ⟨_, rfl, (by show 1 ≤ sizeLine; decide), fun p5 hp5 => ?_⟩
      have r5 := r4.new (o := .lst [.str "}"]) hp5
      dsimp only [tNil, List.cons_append, List.nil_append]
      refine take_at (CT := CT) (as := [a, b]) (H0 := H) (L := ["}"]) (k := 1) r5.tok l4.2.1 ((hG.lft l).lft l4) upd_same (all_len (by decide +kernel)) ia r5.kp.kps (fun e he => by rw [he] at q; exact q) (fun t5 s5 H5 e5 m5 l5 hT5 k5 => ?_)
      rw [e5] at q
      have r6 := r5.took ne hT5 k5
      refine ⟨_, rfl, (by show 2 ≤ sizeLine; decide), fun p6 hp6 => ?_⟩
      exact q _ _ (fv_nam (SqT.of upd_same)) (r6.new hp6)
    · rw [e4] at q ⊢
      exact Wz.mono (CT := CT) (e := .it (hd e)) q r3.kp.kps (fun x h => by rw [List.mem_singleton.mp h]; exact ia)
  rw [if_neg mb] at q
  refine ⟨_, rfl, rfl, eq_no mb ?_⟩
  by_cases mq : t ∈ qus
  · rw [if_pos mq] at q
    refine ⟨fun _ H' => Q .non H', ?_, fun σ' H' r => r⟩
    refine ⟨_, rfl, aQ, _, rfl, .inr (hQ _), rfl, rfl, in_yes qus mq ?_⟩
    obtain ⟨zs, hz, hl⟩ := r3.bl
    refine ⟨_, rfl, .inl ⟨rfl, _, SqL.of hz⟩, _, rfl, _, rfl, _, rfl, by decide, _, rfl, by decide, (by show 6 ≤ sizeLine; decide), fun p4 hp4 => ?_⟩
    have r4 := r3.new (o := .lst (signs "xyz" ++ (signs "XYZ" ++ []))) hp4
    dsimp only [tNil, List.cons_append, List.nil_append]
    refine take_at (CT := CT) (as := [a, b]) (H0 := H) (L := vrs) (k := 1) r4.tok l.2.1 (hG.lft l) (by rw [upd_same, sg_xyz, sg_XYZ]; rfl) (all_len (by decide +kernel)) ia r4.kp.kps (fun e he => by rw [he] at q; exact q) (fun x s4 H4 e4 m4 l4 hT4 k4 => ?_)
    rw [e4] at q
    have r5 := r4.took ne hT4 k4
    refine ⟨(by show 2 ≤ sizeLine; decide), fun p5 hp5 => ?_⟩
    have r6 := r5.new (o := .tup [.str t, .str x]) hp5
    obtain ⟨zs5, hz5, hl5⟩ := r6.bl
    refine ⟨b, _, _, rfl, rfl, hz5, lz hl5, ?_⟩
    exact q _ (r6.put (fr := .qf t x) ne hz5 ⟨p5, rfl, (tp_set hz5).sq (SqT.of upd_same)⟩)
  rw [if_neg mq] at q
  refine ⟨fun _ H' => Q .non H', ?_, fun σ' H' r => r⟩
  refine ⟨_, rfl, aQ, _, rfl, .inr (hQ _), rfl, rfl, in_no qus mq ?_⟩
  obtain ⟨zs, hz, hl⟩ := r3.bl
  refine ⟨_, rfl, .inl ⟨rfl, _, SqL.of hz⟩, _, rfl, (by show 1 ≤ sizeLine; decide), fun p5 hp5 => ?_⟩
  have r5 := r3.new (o := .tup [.str t]) hp5
  obtain ⟨zs5, hz5, hl5⟩ := r5.bl
  refine ⟨b, _, _, rfl, rfl, hz5, lz hl5, ?_⟩
  by_cases mn : t = "not"
  · rw [if_pos mn] at q
    exact q _ (r5.put (fr := .nt) ne hz5 ⟨p5, rfl, by rw [← mn]; exact (tp_set hz5).sq (SqT.of upd_same)⟩)
  rw [if_neg mn] at q
  have mp : t = "(" := by
    rcases List.mem_append.mp mf with h | h
    · exact absurd h ma
    rcases List.mem_append.mp h with h | h
    · exact absurd h mx
    rcases List.mem_append.mp h with h | h
    · exact absurd h mq
    simp only [List.mem_cons, List.not_mem_nil, or_false] at h
    rcases h with h | h | h
    · exact absurd h mn
    · exact h
    · exact absurd h mb
  rw [if_pos mp] at q
  exact q _ (r5.put (fr := .op) ne hz5 ⟨p5, rfl, by rw [← mp]; exact (tp_set hz5).sq (SqT.of upd_same)⟩)

end
end SW

set_option Elab.async false
set_option linter.all false
set_option maxRecDepth 100000
set_option maxHeartbeats 4000000
namespace SW
open PySem PySem.Spec PyProof.Rows L2
section
variable {P : Program} {w : World} {K : PySem.W.Frag} {mg : Str → Option Value} {base : Heap}
/-! ### behind a formula within -/
/-- a frame as it is made -/
def GrOk : Gr → Prop
  | .nt => True
  | .op => True
  | .bn k _ => k = "and" ∨ k = "or"
  | .qf k x => (k = "some" ∨ k = "all") ∧ x ∈ vrs
def spGo (K : PySem.W.Frag) (CI CT : Addr) : Sp := fun vs H Q E => ∃ (a b : Addr) (v : V) (f : Fm) (fr : Gr) (ts : List FTok) (c : List Gr), vs = [.ref a, .ref b, v] ∧ FV K H v f ∧ GrOk fr ∧ TW K H a ts ∧ En ts ∧ Gd ts ∧ GW K H b (fr :: c) ∧ b ≠ a ∧ c.length ≤ 1000 ∧
  Rk CI CT E [a, b] H (StP K a b H Q) (fGo f fr c ts)
theorem sc__go_on : FnScope ["tokens", "begun", "formula", "beginning"] ["tokens", "begun", "formula"] (defScope s__go_on) := ⟨rfl, rfl, rfl, by decide +kernel, rfl, by decide +kernel, by decide +kernel⟩
theorem ok_go {CI CT : Addr} (D : Df K mg "_go_on" s__go_on ["tokens", "begun", "formula"]) (bi : Bi mg) (c_take : CalX P w K mg base 4 "_take" ["tokens", "expected"] (spTake K CI CT)) : CalX P w K mg base 5 "_go_on" ["tokens", "begun", "formula"] (spGo K CI CT) := by
  refine D.okX sc__go_on (fun vs H Q E h => ?_) (fun f cdv A outer s H vs Q E hr h => ?_)
  · obtain ⟨a, b, v, f, fr, ts, c, rfl, _⟩ := h
    rfl
  obtain ⟨a, b, v, f, fr, ts, c, rfl, hv, hfo, hT, hE, hG, hF, ne, hc, q⟩ := h
  refine ⟨_, (pss_cons (ps_set (i := 3) sc__go_on.nd rfl (.inl rfl) (pe_bm0 PySem.F.plainAttrs_list PySem.F.slot_list_pop PySem.F.type_list_pop mt_pop (pv 1)))
      (pss_cons (ps_if (pt_cmpR op_eq (pe_ix ix_tup (pv 3) pe_int (fun _ _ => rfl)) pe_str (nomark _)) (pss_cons (ps_expr (pe_bm PySem.F.plainAttrs_list PySem.F.slot_list_append PySem.F.type_list_append mt_append (pv 1) (pa_cons (pe_tup (pa_cons (pe_ownX c_take hr (by omega) passX (by rfl) (pa_cons (pv 0) (pa_cons (pe_lst (pa_cons pe_str (pa_cons pe_str pa_nil))) pa_nil))) (pa_cons (pv 2) pa_nil))) pa_nil)))
      (pss_one (ps_ret pe_non))) pss_nil)
      (C8.pss_cut (ps_if (pt_cmpR op_in_seq (pe_ix ix_tup (pv 3) pe_int (fun _ _ => rfl)) (pe_tup (pa_cons pe_str (pa_cons pe_str pa_nil))) (by rfl)) (pss_one (ps_expr (pe_ownX c_take hr (by omega) passX (by rfl) (pa_cons (pv 0) (pa_cons (pe_lst (pa_cons pe_str pa_nil)) pa_nil))))) pss_nil)
      (pss_one (ps_ret (pe_tup (StX.pa_star (pv 3) (pa_cons (pv 2) pa_nil)))))))), ?_⟩
  obtain ⟨za, hza⟩ := hT.lst
  obtain ⟨v0, vs0, hB, hv0, hal⟩ := hF.pop
  have ia : a ∈ [a, b] := List.mem_cons_self ..
  have lz : ∀ {n : Nat}, n = c.length → n < sizeLine := fun e => Nat.lt_of_le_of_lt (show _ ≤ 1000 by omega) (by decide)
  have r1 : RP K a b H (upd H b (.lst vs0.reverse)) ts c := ⟨hT.keep (TkW.tp (tp_set hB)) (fun o e => by rw [upd_ne ne.symm]; exact e), ⟨vs0, upd_same, hal.imp (GrV.tp (tp_set hB))⟩, Kp2.at⟩
  have hv1 := GrV.tp (tp_set (o := .lst vs0.reverse) hB) v0 fr hv0
  refine ⟨_, rfl, .inl ⟨rfl, _, SqL.of hB⟩, b, _, _, rfl, rfl, hB, last_get, ?_⟩
  rw [List.dropLast_concat]
  generalize upd H b (.lst vs0.reverse) = H1 at r1 hv1
  cases fr with
  | op =>
    obtain ⟨p0, rfl, s0⟩ := hv1
    unfold fGo at q
    dsimp only at q
    refine ⟨_, rfl, _, _, _, _, rfl, rfl, s0, rfl, rfl, eq_yes rfl ?_⟩
    obtain ⟨zs, hz, hl⟩ := r1.bl
    refine ⟨_, rfl, .inl ⟨rfl, _, SqL.of hz⟩, _, rfl, (by show 2 ≤ sizeLine; decide), fun p hp => ?_⟩
    have r2 := r1.new (o := .lst [.str "and", .str "or"]) hp
    dsimp only [tNil, List.cons_append, List.nil_append]
    refine take_at (CT := CT) (as := [a, b]) (H0 := H) (L := anoT) (k := 2) r2.tok hE hG upd_same (all_len (by decide +kernel)) ia r2.kp.kps (fun e he => by rw [he] at q; exact q) (fun k s2 H2 e2 m2 l2 hT2 k2 => ?_)
    rw [e2] at q
    have r3 := r2.took ne hT2 k2
    refine ⟨_, rfl, (by show 2 ≤ sizeLine; decide), fun p2 hp2 => ?_⟩
    have r4 := r3.new (o := .tup [.str k, v]) hp2
    obtain ⟨zs3, hz3, hl3⟩ := r4.bl
    refine ⟨b, _, _, rfl, rfl, hz3, lz hl3, ?_⟩
    exact q _ (r4.put (v := .ref p2) (fr := .bn k f) ne hz3 ⟨p2, v, rfl, (tp_set hz3).sq (SqT.of upd_same), FV.tp ((r4.tp hza hB).trans (tp_set hz3)) _ hv⟩)
  | nt =>
    obtain ⟨p0, rfl, s0⟩ := hv1
    have q : StP K a b H Q (c, some (.neg f), ts) := q
    refine ⟨_, rfl, _, _, _, _, rfl, rfl, s0, rfl, rfl, eq_no (by decide +kernel) ?_⟩
    refine ⟨fun σ' H' => σ' = [some (.ref a), some (.ref b), some v, some (.ref p0)] ∧ Tp H1 H' ∧ RP K a b H H' ts c, ?_, ?_⟩
    · refine ⟨_, rfl, _, _, _, _, rfl, rfl, s0, rfl, (by show 2 ≤ sizeLine; decide), fun p hp => ⟨p, _, rfl, .inr (SqT.of upd_same), rfl, rfl, in_no anoT (by decide +kernel) ?_⟩⟩
      exact ⟨rfl, tp_new hp, r1.new hp⟩
    · rintro σ' H' ⟨rfl, t, r⟩
      refine ⟨_, rfl, p0, _, rfl, .inl (t.sq s0), _, rfl, (by show 2 ≤ sizeLine; decide), fun p hp => ?_⟩
      exact q _ _ (fv_neg (SqT.of upd_same) (FV.tp ((r.tp hza hB).trans (tp_new hp)) _ hv)) (r.new hp)
  | qf k x =>
    obtain ⟨p0, rfl, s0⟩ := hv1
    have q : StP K a b H Q (c, some (.qu k x f), ts) := q
    refine ⟨_, rfl, _, _, _, _, rfl, rfl, s0, rfl, rfl, eq_no (qu_ne hfo.1 (by decide +kernel)) ?_⟩
    refine ⟨fun σ' H' => σ' = [some (.ref a), some (.ref b), some v, some (.ref p0)] ∧ Tp H1 H' ∧ RP K a b H H' ts c, ?_, ?_⟩
    · refine ⟨_, rfl, _, _, _, _, rfl, rfl, s0, rfl, (by show 2 ≤ sizeLine; decide), fun p hp => ⟨p, _, rfl, .inr (SqT.of upd_same), rfl, rfl, in_no anoT (qu_notin hfo.1 (by decide +kernel)) ?_⟩⟩
      exact ⟨rfl, tp_new hp, r1.new hp⟩
    · rintro σ' H' ⟨rfl, t, r⟩
      refine ⟨_, rfl, p0, _, rfl, .inl (t.sq s0), _, rfl, (by show 3 ≤ sizeLine; decide), fun p hp => ?_⟩
      exact q _ _ (fv_qu (SqT.of upd_same) (FV.tp ((r.tp hza hB).trans (tp_new hp)) _ hv)) (r.new hp)
  | bn k f1 =>
    obtain ⟨p0, x0, rfl, s0, hx0⟩ := hv1
    unfold fGo at q
    dsimp only at q
    refine ⟨_, rfl, _, _, _, _, rfl, rfl, s0, rfl, rfl, eq_no (bin_ne hfo (by decide +kernel)) ?_⟩
    refine ⟨fun σ' H' => σ' = [some (.ref a), some (.ref b), some v, some (.ref p0)] ∧ Tp H1 H' ∧ ∃ t s3, tk1 [")"] ts = .ok (t, s3) ∧ RP K a b H H' s3 c, ?_, ?_⟩
    · refine ⟨_, rfl, _, _, _, _, rfl, rfl, s0, rfl, (by show 2 ≤ sizeLine; decide), fun p hp => ⟨p, _, rfl, .inr (SqT.of upd_same), rfl, rfl, in_yes anoT (bin_in hfo (by decide +kernel)) ?_⟩⟩
      have r2 := r1.new (o := .tup [.str "and", .str "or"]) hp
      refine ⟨_, rfl, (by show 1 ≤ sizeLine; decide), fun p2 hp2 => ?_⟩
      have r3 := r2.new (o := .lst [.str ")"]) hp2
      dsimp only [tNil, List.cons_append, List.nil_append]
      refine take_at (CT := CT) (as := [a, b]) (H0 := H) (L := [")"]) (k := 1) r3.tok hE hG upd_same (all_len (by decide +kernel)) ia r3.kp.kps (fun e he => by rw [he] at q; exact q) (fun t3 s3 H3 e3 m3 l3 hT3 k3 => ?_)
      obtain ⟨z3, hz3⟩ := r3.tok.lst
      exact ⟨rfl, (tp_new hp).trans ((tp_new hp2).trans (k3.tp hz3)), t3, s3, e3, r3.took ne hT3 k3⟩
    · rintro σ' H' ⟨rfl, t, t3, s3, e3, r⟩
      rw [e3] at q
      refine ⟨_, rfl, p0, _, rfl, .inl (t.sq s0), _, rfl, (by show 3 ≤ sizeLine; decide), fun p hp => ?_⟩
      exact q _ _ (fv_bin (SqT.of upd_same) (FV.tp (t.trans (tp_new hp)) _ hx0) (FV.tp ((r.tp hza hB).trans (tp_new hp)) _ hv)) (r.new hp)

end
end SW

set_option Elab.async false
set_option linter.all false
set_option maxRecDepth 100000
set_option maxHeartbeats 4000000
namespace SW
open PySem PySem.Spec PyProof.Rows L2
section
variable {P : Program} {w : World} {K : PySem.W.Frag} {mg : Str → Option Value} {base : Heap}
/-! ### inner_formulas -/
def spInnerF (K : PySem.W.Frag) : Sp := fun vs H Q _ => ∃ v t, vs = [v] ∧ FV K H v t ∧ t.Ok ∧ ∀ b xs H', SqT K H' b xs → FVs K H' xs t.parts → Same H H' → Q (.ref b) H'
theorem sc_inner_formulas : FnScope ["formula", "kind"] ["formula"] (defScope s_inner_formulas) := ⟨rfl, rfl, rfl, by decide +kernel, rfl, by decide +kernel, by decide +kernel⟩
theorem ok_innerF {aQ : Addr} (D : Df K mg "inner_formulas" s_inner_formulas ["formula"]) (bi : Bi mg) (mQUANTIFIERS : mg "QUANTIFIERS" = some (.ref aQ)) (hQ : ∀ H, SqT K H aQ [.str "some", .str "all"]) : Cal P w K mg base 1 "inner_formulas" ["formula"] (spInnerF K) := by
  refine D.ok sc_inner_formulas (fun vs H Q E h => ?_) (fun f cdv A outer s H vs Q E hr h => ?_)
  · obtain ⟨v, t, rfl, _⟩ := h
    rfl
  obtain ⟨v, t, rfl, hv, ho, q⟩ := h
  refine ⟨_, (pss_cons (ps_set (i := 1) sc_inner_formulas.nd rfl (.inl rfl) (pe_ix ix_tup (pv 0) pe_int (fun _ _ => rfl)))
      (pss_cons (ps_if (pt_cmpR op_in_seq (pv 1) (pe_tup (pa_cons pe_str (pa_cons pe_str (pa_cons pe_str pa_nil)))) (by rfl)) (pss_one (ps_ret (pe_slice sl_tup (pv 0) (po_some pe_int) po_none))) pss_nil)
      (pss_cons (ps_if (pt_cmpR op_in_seq (pv 1) (pe_glob (v := .ref aQ) (by rfl) mQUANTIFIERS rfl) (by rfl)) (pss_one (ps_ret (pe_tup (pa_cons (pe_ix ix_tup (pv 0) pe_int (fun _ _ => rfl)) pa_nil)))) pss_nil)
      (pss_one (ps_ret (pe_tup pa_nil)))))), ?_⟩
  have at_ := hv.at
  cases at_ with
  | @rel p k a b e s =>
    cases e
    refine ⟨_, rfl, _, _, _, _, rfl, rfl, s, rfl, _, rfl, (by show 3 ≤ sizeLine; decide), fun p hp => ?_⟩
    refine ⟨p, _, rfl, .inr (SqT.of upd_same), rfl, rfl, in_no nab (rel_notin ho (by decide +kernel)) ?_⟩
    refine ⟨_, rfl, aQ, _, rfl, .inr (hQ _), rfl, rfl, in_no qus (rel_notin ho (by decide +kernel)) ?_⟩
    refine ⟨Nat.zero_le _, fun p2 hp2 => ?_⟩
    exact q p2 [] _ (SqT.of upd_same) fvs_nil ((same_new hp).trans (same_new hp2))
  | @nam p c e s =>
    cases e
    refine ⟨_, rfl, _, _, _, _, rfl, rfl, s, rfl, _, rfl, (by show 3 ≤ sizeLine; decide), fun p hp => ?_⟩
    refine ⟨p, _, rfl, .inr (SqT.of upd_same), rfl, rfl, in_no nab (by decide +kernel) ?_⟩
    refine ⟨_, rfl, aQ, _, rfl, .inr (hQ _), rfl, rfl, in_no qus (by decide +kernel) ?_⟩
    refine ⟨Nat.zero_le _, fun p2 hp2 => ?_⟩
    exact q p2 [] _ (SqT.of upd_same) fvs_nil ((same_new hp).trans (same_new hp2))
  | @neg p x f e s hx =>
    cases e
    refine ⟨_, rfl, _, _, _, _, rfl, rfl, s, rfl, _, rfl, (by show 3 ≤ sizeLine; decide), fun p hp => ?_⟩
    refine ⟨p, _, rfl, .inr (SqT.of upd_same), rfl, rfl, in_yes nab (by decide +kernel) ?_⟩
    refine ⟨_, rfl, _, rfl, _, _, rfl, (tp_new hp).sq s, sl1 (by show 1 ≤ 2; decide), fun p2 hp2 => ?_⟩
    exact q p2 [x] _ (SqT.of upd_same) (fvs_cons (FV.tp ((tp_new hp).trans (tp_new hp2)) _ hx) fvs_nil) ((same_new hp).trans (same_new hp2))
  | @bin p x y k f g e s hx hy =>
    cases e
    refine ⟨_, rfl, _, _, _, _, rfl, rfl, s, rfl, _, rfl, (by show 3 ≤ sizeLine; decide), fun p hp => ?_⟩
    refine ⟨p, _, rfl, .inr (SqT.of upd_same), rfl, rfl, in_yes nab (bin_in ho.1 (by decide +kernel)) ?_⟩
    refine ⟨_, rfl, _, rfl, _, _, rfl, (tp_new hp).sq s, sl1 (by show 1 ≤ 3; decide), fun p2 hp2 => ?_⟩
    exact q p2 [x, y] _ (SqT.of upd_same) (fvs_cons (FV.tp ((tp_new hp).trans (tp_new hp2)) _ hx) (fvs_cons (FV.tp ((tp_new hp).trans (tp_new hp2)) _ hy) fvs_nil)) ((same_new hp).trans (same_new hp2))
  | @qu p x k y f e s hx =>
    cases e
    refine ⟨_, rfl, _, _, _, _, rfl, rfl, s, rfl, _, rfl, (by show 3 ≤ sizeLine; decide), fun p hp => ?_⟩
    refine ⟨p, _, rfl, .inr (SqT.of upd_same), rfl, rfl, in_no nab (qu_notin ho.1 (by decide +kernel)) ?_⟩
    refine ⟨_, rfl, aQ, _, rfl, .inr (hQ _), rfl, rfl, in_yes qus (qu_in ho.1 (by decide +kernel)) ?_⟩
    refine ⟨_, rfl, _, _, _, _, rfl, rfl, (tp_new hp).sq s, rfl, (by show 1 ≤ sizeLine; decide), fun p2 hp2 => ?_⟩
    exact q p2 [x] _ (SqT.of upd_same) (fvs_cons (FV.tp ((tp_new hp).trans (tp_new hp2)) _ hx) fvs_nil) ((same_new hp).trans (same_new hp2))
/-! ### formula_size, nesting -/
theorem size_sum (f : Fm) : 1 + (sizeL f.parts).sum = (f.size : Int) := by
  cases f <;> simp [sizeL, Fm.parts, Fm.size] <;> omega
theorem nest_top {f : Fm} {m : Int} (h : topD 0 (nestL f.parts) m) : m = ((match f with | .qu _ _ g => g.nest | f => f.nest) : Nat) := by
  cases f with
  | rel k a b =>
    rcases h with h | h
    · exact h.2
    · exact absurd h.1 (by simp [nestL, Fm.parts])
  | nam c =>
    rcases h with h | h
    · exact h.2
    · exact absurd h.1 (by simp [nestL, Fm.parts])
  | neg f =>
    rcases h with h | h
    · exact absurd h.1 (by simp [nestL, Fm.parts])
    · have := h.1
      simp [nestL, Fm.parts] at this
      exact this
  | bin k f g =>
    rcases h with h | h
    · exact absurd h.1 (by simp [nestL, Fm.parts])
    · obtain ⟨h1, h2⟩ := h
      have a1 := h2 (f.nest : Int) (by simp [nestL, Fm.parts])
      have a2 := h2 (g.nest : Int) (by simp [nestL, Fm.parts])
      simp [nestL, Fm.parts] at h1
      show m = ((max f.nest g.nest : Nat) : Int)
      omega
  | qu k x f =>
    rcases h with h | h
    · exact absurd h.1 (by simp [nestL, Fm.parts])
    · have := h.1
      simp [nestL, Fm.parts] at this
      exact this
def spSize (K : PySem.W.Frag) (n : Nat) : Sp := fun vs H Q _ => ∃ v t, vs = [v] ∧ FV K H v t ∧ t.Ok ∧ t.dep ≤ n ∧ ∀ H', Same H H' → Q (.int (t.size : Nat)) H'
theorem sc_formula_size : FnScope ["formula", "part"] ["formula"] (defScope s_formula_size) := ⟨rfl, rfl, rfl, by decide +kernel, rfl, by decide +kernel, by decide +kernel⟩
theorem ok_size1 {n : Nat} (D : Df K mg "formula_size" s_formula_size ["formula"]) (bi : Bi mg) (cinner_formulas : Cal P w K mg base 1 "inner_formulas" ["formula"] (spInnerF K)) (cformula_size : Cal P w K mg base (n + 1) "formula_size" ["formula"] (spSize K n)) :
    Cal P w K mg base (n + 2) "formula_size" ["formula"] (spSize K (n + 1)) := by
  refine D.ok sc_formula_size (fun vs H Q E h => ?_) (fun f cdv A outer s H vs Q E hr h => ?_)
  · obtain ⟨v, t, rfl, _⟩ := h
    rfl
  obtain ⟨v, t, rfl, hv, ho, hd, q⟩ := h
  refine ⟨_, (pss_one (ps_ret (pe_op op_add pe_int (pe_callB (cr_sum rfl) (by rfl) bi.sum (by decide +kernel) (pa_cons (pe_lc (own := [("part", 1)]) (g := gName 1) (tt := tYes) rfl sc_formula_size.nd (pi_tup (pe_own cinner_formulas hr (by omega) (by rfl) (pa_cons (pv 0) pa_nil))) (blkOk_by (N := ["formula", "part"]) (sc := defScope s_formula_size) (by decide +kernel)) (fun _ _ _ _ _ => (pg_name (i := 1) sc_formula_size.nd rfl (.inl rfl))) (fun _ _ _ _ _ => pts_nil) (fun _ _ _ _ _ => (pe_own cformula_size hr (by omega) (by rfl) (pa_cons (pv 1) pa_nil)))) pa_nil))))), ?_⟩
  refine ⟨_, rfl, v, t, rfl, hv, ho, fun b xs H1 hb hx k1 => ⟨b, rfl, ⟨xs, hb⟩, fun Dd hD => ?_⟩⟩
  have hlen := hx.length
  have h2 := t.parts_len
  refine lct (xs := xs) (fun i H3 => H3 Dd = some (.lst ((sizeL (t.parts.take i)).map V.int)) ∧ Same H1 H3) ?_ ?_ ?_ ?_
  · exact ⟨upd_same, same_new hD⟩
  · rintro i H3 _ ⟨_, k3⟩
    exact (tp_same k3).sq hb
  · rintro i x H3 hxi ⟨hA, k3⟩
    obtain ⟨g, e1, h1⟩ := hx.get hxi
    have m1 := Fm.parts_mem ho (List.mem_of_getElem? e1)
    refine ⟨_, rfl, _, g, rfl, FV.tp (tp_same k3) _ h1, m1.1, by omega, fun H4 k4 => ?_⟩
    refine ⟨_, k4 _ _ hA, ?_, ?_, ?_⟩
    · rw [List.length_map, sizeL, List.length_map, List.length_take]
      exact Nat.lt_of_le_of_lt (show _ ≤ 1000 by omega) (by decide)
    · rw [upd_same, List.take_add_one, e1]
      show _ = some (HO.lst ((sizeL (t.parts.take i ++ [g])).map V.int))
      rw [sizeL_snoc]
    · intro b' o hb
      rw [upd_ne (ne_of_none hb hD)]
      exact k4 _ _ (k3 _ _ hb)
  · rintro H3 ⟨hA, k3⟩
    rw [hlen, List.take_length] at hA
    refine ⟨Dd, _, rfl, SqL.of hA, _, _, rfl, rfl, ?_⟩
    show Q (.int (1 + (sizeL t.parts).sum)) H3
    rw [size_sum]
    exact q H3 (k1.trans k3)
theorem ok_size (D : Df K mg "formula_size" s_formula_size ["formula"]) (bi : Bi mg) (ci : Cal P w K mg base 1 "inner_formulas" ["formula"] (spInnerF K)) : ∀ n : Nat, Cal P w K mg base (n + 1) "formula_size" ["formula"] (spSize K n)
  | 0 => D.no fun vs H Q E h => by
    obtain ⟨v, t, _, _, _, h, _⟩ := h
    have := t.dep_pos
    omega
  | n + 1 => ok_size1 D bi ci (ok_size D bi ci n)
def spNest (K : PySem.W.Frag) (n : Nat) : Sp := fun vs H Q _ => ∃ v t, vs = [v] ∧ FV K H v t ∧ t.Ok ∧ t.dep ≤ n ∧ ∀ H', Same H H' → Q (.int (t.nest : Nat)) H'
theorem sc_nesting : FnScope ["formula", "inner", "part"] ["formula"] (defScope s_nesting) := ⟨rfl, rfl, rfl, by decide +kernel, rfl, by decide +kernel, by decide +kernel⟩
theorem ok_nest1 {n : Nat} {aQ : Addr} (D : Df K mg "nesting" s_nesting ["formula"]) (bi : Bi mg) (mQUANTIFIERS : mg "QUANTIFIERS" = some (.ref aQ)) (hQ : ∀ H, SqT K H aQ [.str "some", .str "all"]) (cinner_formulas : Cal P w K mg base 1 "inner_formulas" ["formula"] (spInnerF K)) (cnesting : Cal P w K mg base (n + 1) "nesting" ["formula"] (spNest K n)) :
    Cal P w K mg base (n + 2) "nesting" ["formula"] (spNest K (n + 1)) := by
  refine D.ok sc_nesting (fun vs H Q E h => ?_) (fun f cdv A outer s H vs Q E hr h => ?_)
  · obtain ⟨v, t, rfl, _⟩ := h
    rfl
  obtain ⟨v, t, rfl, hv, ho, hd, q⟩ := h
  refine ⟨_, (pss_cons (ps_set (i := 1) sc_nesting.nd rfl (.inl rfl) (pe_maxD rfl (by rfl) bi.max (pe_lc (own := [("part", 2)]) (g := gName 2) (tt := tYes) rfl sc_nesting.nd (pi_tup (pe_own cinner_formulas hr (by omega) (by rfl) (pa_cons (pv 0) pa_nil))) (blkOk_by (N := ["formula", "inner", "part"]) (sc := defScope s_nesting) (by decide +kernel)) (fun _ _ _ _ _ => (pg_name (i := 2) sc_nesting.nd rfl (.inl rfl))) (fun _ _ _ _ _ => pts_nil) (fun _ _ _ _ _ => (pe_own cnesting hr (by omega) (by rfl) (pa_cons (pv 2) pa_nil))))))
      (pss_one (ps_ret (pe_ifExp (pt_cmpR op_in_seq (pe_ix ix_tup (pv 0) pe_int (fun _ _ => rfl)) (pe_glob (v := .ref aQ) (by rfl) mQUANTIFIERS rfl) (by rfl)) (pe_op op_add (pv 1) pe_int) (pv 1))))), ?_⟩
  refine ⟨_, rfl, v, t, rfl, hv, ho, fun b xs H1 hb hx k1 => ⟨b, rfl, ⟨xs, hb⟩, fun Dd hD => ?_⟩⟩
  have hlen := hx.length
  have h2 := t.parts_len
  refine lct (xs := xs) (fun i H3 => H3 Dd = some (.lst ((nestL (t.parts.take i)).map V.int)) ∧ Same H1 H3) ?_ ?_ ?_ ?_
  · exact ⟨upd_same, same_new hD⟩
  · rintro i H3 _ ⟨_, k3⟩
    exact (tp_same k3).sq hb
  · rintro i x H3 hxi ⟨hA, k3⟩
    obtain ⟨g, e1, h1⟩ := hx.get hxi
    have m1 := Fm.parts_mem ho (List.mem_of_getElem? e1)
    refine ⟨_, rfl, _, g, rfl, FV.tp (tp_same k3) _ h1, m1.1, by omega, fun H4 k4 => ?_⟩
    refine ⟨_, k4 _ _ hA, ?_, ?_, ?_⟩
    · rw [List.length_map, nestL, List.length_map, List.length_take]
      exact Nat.lt_of_le_of_lt (show _ ≤ 1000 by omega) (by decide)
    · rw [upd_same, List.take_add_one, e1]
      show _ = some (HO.lst ((nestL (t.parts.take i ++ [g])).map V.int))
      rw [nestL_snoc]
    · intro b' o hb
      rw [upd_ne (ne_of_none hb hD)]
      exact k4 _ _ (k3 _ _ hb)
  · rintro H3 ⟨hA, k3⟩
    rw [hlen, List.take_length] at hA
    refine ⟨Dd, _, rfl, SqL.of hA, fun m hm => ?_⟩
    have hm := nest_top hm
    have q3 := q H3 (k1.trans k3)
    have at_ := (FV.tp (tp_same (k1.trans k3)) _ hv).at
    cases at_ with
    | @rel p k a b e s =>
      cases e
      refine ⟨_, rfl, _, _, _, _, rfl, rfl, s, rfl, aQ, _, rfl, .inr (hQ _), rfl, rfl, in_no qus (rel_notin ho (by decide +kernel)) ⟨_, rfl, ?_⟩⟩
      rw [hm]
      exact q3
    | @nam p c e s =>
      cases e
      refine ⟨_, rfl, _, _, _, _, rfl, rfl, s, rfl, aQ, _, rfl, .inr (hQ _), rfl, rfl, in_no qus (by decide +kernel) ⟨_, rfl, ?_⟩⟩
      rw [hm]
      exact q3
    | @neg p x f e s hx =>
      cases e
      refine ⟨_, rfl, _, _, _, _, rfl, rfl, s, rfl, aQ, _, rfl, .inr (hQ _), rfl, rfl, in_no qus (by decide +kernel) ⟨_, rfl, ?_⟩⟩
      rw [hm]
      exact q3
    | @bin p x y k f g e s hx hy =>
      cases e
      refine ⟨_, rfl, _, _, _, _, rfl, rfl, s, rfl, aQ, _, rfl, .inr (hQ _), rfl, rfl, in_no qus (bin_notin ho.1 (by decide +kernel)) ⟨_, rfl, ?_⟩⟩
      rw [hm]
      exact q3
    | @qu p x k y f e s hx =>
      cases e
      refine ⟨_, rfl, _, _, _, _, rfl, rfl, s, rfl, aQ, _, rfl, .inr (hQ _), rfl, rfl, in_yes qus (qu_in ho.1 (by decide +kernel)) ⟨_, rfl, _, _, rfl, rfl, ?_⟩⟩
      rw [hm]
      exact q3
theorem ok_nest {aQ : Addr} (D : Df K mg "nesting" s_nesting ["formula"]) (bi : Bi mg) (mQ : mg "QUANTIFIERS" = some (.ref aQ)) (hQ : ∀ H, SqT K H aQ [.str "some", .str "all"]) (ci : Cal P w K mg base 1 "inner_formulas" ["formula"] (spInnerF K)) : ∀ n : Nat, Cal P w K mg base (n + 1) "nesting" ["formula"] (spNest K n)
  | 0 => D.no fun vs H Q E h => by
    obtain ⟨v, t, _, _, _, h, _⟩ := h
    have := t.dep_pos
    omega
  | n + 1 => ok_nest1 D bi mQ hQ ci (ok_nest D bi mQ hQ ci n)
/-! ### a formula read -/
theorem lf_ok {c c' : List Gr} {o : Option Fm} {ts r : List FTok} {R : Res} (s : RSp ts R) (h : lf c R = .ok (c', o, r)) : c' = c ∧ Lft ts r 1 0 := by
  rcases s with ⟨f, r1, rfl, _, l⟩ | ⟨e, rfl, _⟩
  · injection h with h
    injection h with h1 h2
    injection h2 with h2 h3
    subst h1 h3
    exact ⟨rfl, l.mono (by cases f <;> simp [Fm.size]) (Nat.zero_le _)⟩
  · cases h
theorem fBeg_keep {c c' : List Gr} {o : Option Fm} {ts ts' : List FTok} (hE : En ts) (hg : ∀ fr ∈ c, GrOk fr) (h : fBeg c ts = .ok (c', o, ts')) : Lft ts ts' 1 0 ∧ (∀ fr ∈ c', GrOk fr) ∧ c'.length ≤ c.length + 1 := by
  obtain ⟨n, t, r, rfl⟩ := hE.ne
  unfold fBeg at h
  dsimp only at h
  by_cases c1 : t ∈ abc
  · rw [if_pos c1] at h
    have := mem_len (L := abc) (k := 1) (by decide +kernel) c1
    obtain ⟨rfl, l⟩ := lf_ok (leafL_spec c1 (Lft.one hE this.1 this.2)) h
    exact ⟨l, hg, by omega⟩
  rw [if_neg c1] at h
  by_cases c2 : t ∈ xyz
  · rw [if_pos c2] at h
    have := mem_len (L := xyz) (k := 1) (by decide +kernel) c2
    obtain ⟨rfl, l⟩ := lf_ok (leafR_spec c2 (Lft.one hE this.1 this.2)) h
    exact ⟨l, hg, by omega⟩
  rw [if_neg c2] at h
  by_cases c3 : t = "{"
  · rw [if_pos c3] at h
    subst c3
    obtain ⟨rfl, l⟩ := lf_ok (leafN_spec (Lft.one hE (by decide +kernel) (by decide +kernel))) h
    exact ⟨l, hg, by omega⟩
  rw [if_neg c3] at h
  have add : ∀ {g : Gr}, GrOk g → ∀ fr ∈ g :: c, GrOk fr := fun hgo fr m => by
    rcases List.mem_cons.mp m with e | m
    · rw [e]; exact hgo
    · exact hg fr m
  by_cases c4 : t ∈ qus
  · rw [if_pos c4] at h
    have := mem_len (L := qus) (k := 3) (by decide +kernel) c4
    have l0 := Lft.one hE this.1 this.2
    rcases tk1_spec (L := vrs) (k := 1) l0.2.1 (all_len (by decide +kernel)) with ⟨x, r1, e1, m1, l1⟩ | ⟨e, e1, f⟩
    · rw [e1] at h
      cases h
      exact ⟨(l0.trans l1).mono (by omega) (Nat.zero_le _), add ⟨mem_qus c4, m1⟩, by rw [List.length_cons]; omega⟩
    · rw [e1] at h
      cases h
  rw [if_neg c4] at h
  by_cases c5 : t = "not"
  · rw [if_pos c5] at h
    cases h
    exact ⟨(Lft.one (k := 3) hE (by rw [c5]; decide +kernel) (by rw [c5]; decide +kernel)).mono (by omega) (Nat.zero_le _), add trivial, by rw [List.length_cons]; omega⟩
  rw [if_neg c5] at h
  by_cases c6 : t = "("
  · rw [if_pos c6] at h
    cases h
    exact ⟨(Lft.one (k := 1) hE (by rw [c6]; decide +kernel) (by rw [c6]; decide +kernel)).mono (by omega) (Nat.zero_le _), add trivial, by rw [List.length_cons]; omega⟩
  rw [if_neg c6] at h
  cases h
theorem fGo_keep {f : Fm} {g : Gr} {c c' : List Gr} {o : Option Fm} {ts ts' : List FTok} (hE : En ts) (hg : ∀ fr ∈ g :: c, GrOk fr) (h : fGo f g c ts = .ok (c', o, ts')) : En ts' ∧ (∀ x ∈ ts', x ∈ ts) ∧ (∀ fr ∈ c', GrOk fr) ∧ c'.length + ts'.length ≤ (g :: c).length + ts.length := by
  have hc : ∀ fr ∈ c, GrOk fr := fun fr m => hg fr (List.mem_cons_of_mem _ m)
  cases g with
  | nt =>
    cases h
    exact ⟨hE, fun _ m => m, hc, by rw [List.length_cons]; omega⟩
  | qf k x =>
    cases h
    exact ⟨hE, fun _ m => m, hc, by rw [List.length_cons]; omega⟩
  | op =>
    unfold fGo at h
    dsimp only at h
    rcases tk1_spec (L := anoT) (k := 2) hE (all_len (by decide +kernel)) with ⟨x, r1, e1, m1, l1⟩ | ⟨e, e1, f⟩
    · rw [e1] at h
      cases h
      have := l1.2.2.1
      refine ⟨l1.2.1, fun x m => l1.1.subset m, fun fr m => ?_, by rw [List.length_cons, List.length_cons]; omega⟩
      rcases List.mem_cons.mp m with e | m
      · rw [e]; exact mem_ano m1
      · exact hc fr m
    · rw [e1] at h
      cases h
  | bn k f1 =>
    unfold fGo at h
    dsimp only at h
    rcases tk1_spec (L := [")"]) (k := 1) hE (all_len (by decide +kernel)) with ⟨x, r1, e1, m1, l1⟩ | ⟨e, e1, f⟩
    · rw [e1] at h
      cases h
      have := l1.2.2.1
      exact ⟨l1.2.1, fun x m => l1.1.subset m, hc, by rw [List.length_cons]; omega⟩
    · rw [e1] at h
      cases h
theorem FV.ref {H : Hp} {v : V} {f : Fm} (h : FV K H v f) : ∃ p, v = .ref p := by
  have at_ := h.at
  cases at_ with
  | rel e _ => exact ⟨_, e⟩
  | nam e _ => exact ⟨_, e⟩
  | neg e _ _ => exact ⟨_, e⟩
  | bin e _ _ _ => exact ⟨_, e⟩
  | qu e _ _ => exact ⟨_, e⟩
structure RdS (K : PySem.W.Frag) (a b : Addr) (H0 H' : Hp) (ts : List FTok) (c : List Gr) : Prop where
  r : RP K a b H0 H' ts c
  en : En ts
  gd : Gd ts
  ok : ∀ fr ∈ c, GrOk fr
  len : c.length + ts.length ≤ 1000
def RdI (K : PySem.W.Frag) (a b : Addr) (H0 : Hp) (R : Res) (m : Nat) (σ' : L2.St) (H' : Hp) : Prop :=
  (∃ c ts, σ' = [some (.ref a), some (.ref b), some .non] ∧ RdS K a b H0 H' ts c ∧ FRd m c none ts R) ∨ ∃ v f c ts, σ' = [some (.ref a), some (.ref b), some v] ∧ FV K H' v f ∧ RdS K a b H0 H' ts c ∧ FRd m c (some f) ts R
def spRead (K : PySem.W.Frag) (CI CT : Addr) : Sp := fun vs H Q E => ∃ (a : Addr) (ts : List FTok) (n : Nat) (R : Res), vs = [.ref a] ∧ TW K H a ts ∧ En ts ∧ Gd ts ∧ ts.length ≤ 1000 ∧ FRd n [] none ts R ∧
  Rk CI CT E [a] H (fun p : Fm × List FTok => ∀ v H', FV K H' v p.1 → TW K H' a p.2 → Kp a H H' → Q v H') R
theorem kp2_fresh {a b : Addr} {H H' : Hp} {o : HO} (hb : H b = none) (k : Kp2 a b (upd H b o) H') : Kp a H H' := fun x p n h => k x p n (ne_of_none h hb) (by rw [upd_ne (ne_of_none h hb)]; exact h)
theorem sc__read_formula : FnScope ["tokens", "begun", "formula"] ["tokens"] (defScope s__read_formula) := ⟨rfl, rfl, rfl, by decide +kernel, rfl, by decide +kernel, by decide +kernel⟩
theorem ok_read {CI CT : Addr} (D : Df K mg "_read_formula" s__read_formula ["tokens"]) (bi : Bi mg) (c_begin : CalX P w K mg base 6 "_begin" ["tokens", "begun"] (spBegin K CI CT)) (c_go_on : CalX P w K mg base 5 "_go_on" ["tokens", "begun", "formula"] (spGo K CI CT)) : CalX P w K mg base 7 "_read_formula" ["tokens"] (spRead K CI CT) := by
  refine D.okX sc__read_formula (fun vs H Q E h => ?_) (fun f cdv A outer s H vs Q E hr h => ?_)
  · obtain ⟨a, ts, n, R, rfl, _⟩ := h
    rfl
  obtain ⟨a, ts, n, R, rfl, hT, hE, hG, hl, hR, q⟩ := h
  refine ⟨_, (pss_cons (ps_set (i := 1) sc__read_formula.nd rfl (.inl rfl) (pe_lst pa_nil))
      (pss_cons (ps_set (i := 2) sc__read_formula.nd rfl (.inl rfl) pe_non)
      (pss_cons (ps_while (passes_of rfl) (PW.pt (pw_or (pt_cmpR op_isN (pv 2) pe_non (nomark _)) (pw_or1 (pt_truth (pv 1) (by intro _; rfl))))) (pss_one (ps_if (pt_cmpR op_isN (pv 2) pe_non (nomark _)) (pss_one (ps_set (i := 2) sc__read_formula.nd rfl (.inl rfl) (pe_ownX c_begin hr (by omega) passX (by rfl) (pa_cons (pv 0) (pa_cons (pv 1) pa_nil))))) (pss_one (ps_set (i := 2) sc__read_formula.nd rfl (.inl rfl) (pe_ownX c_go_on hr (by omega) passX (by rfl) (pa_cons (pv 0) (pa_cons (pv 1) (pa_cons (pv 2) pa_nil)))))))))
      (pss_one (ps_ret (pv 2)))))), ?_⟩
  refine ⟨Nat.zero_le _, fun b hb => ?_⟩
  obtain ⟨za, hza⟩ := hT.lst
  have ne : b ≠ a := (ne_of_none hza hb).symm
  have bad : ∀ {e : List FTok} {H1 : Hp} {ts c}, R = .error e → RP K a b (upd H b (.lst [])) H1 ts c → Wz CI CT E [a, b] H1 (.it (hd e)) := fun e' r => by
    rw [e'] at q
    have q' : Wz CI CT E [a] H (.it (hd _)) := q
    intro d H2 m h2 k2
    refine q' d H2 m h2 (fun x o n h => ?_)
    have nx : x ≠ a := fun e => n (List.mem_singleton.mpr e)
    have nb : x ≠ b := ne_of_none h hb
    exact k2 x o (by simp [nx, nb]) (r.kp x o nx nb (by rw [upd_ne nb]; exact h))
  refine ⟨RdI K a b (upd H b (.lst [])) R, ⟨n, .inl ⟨[], ts, rfl, ⟨⟨tw_new hT hb, ⟨[], upd_same, .nil⟩, Kp2.refl a b _⟩, hE, hG, fun _ m => absurd m List.not_mem_nil, by simpa using hl⟩, hR⟩⟩, ?_⟩
  rintro m σ' H1 (⟨c, ts, rfl, S, hF⟩ | ⟨v, g, c, ts, rfl, hv, S, hF⟩)
  · refine ⟨_, rfl, rfl, _, rfl, ite2 (fun _ => ?_) (fun h => absurd (decide_eq_true rfl) h)⟩
    refine ⟨fun σ2 H2 => ∃ m', m' < m ∧ RdI K a b (upd H b (.lst [])) R m' σ2 H2, fun _ _ h => h, ?_⟩
    refine ⟨_, rfl, rfl, _, rfl, ite2 (fun _ => ?_) (fun h => absurd (decide_eq_true rfl) h)⟩
    have hlen := S.len
    refine ⟨_, rfl, _, rfl, a, b, ts, c, rfl, S.r.tok, S.en, S.gd, S.r.fr, ne, by omega, ?_⟩
    cases hF with
    | eB he =>
      rw [he]
      exact bad rfl S.r
    | @sB m0 _ c' o _ ts' _ he ht =>
      rw [he]
      obtain ⟨l, hgo, hcl⟩ := fBeg_keep S.en S.ok he
      have hlt := l.2.2.1
      cases o with
      | none =>
        intro H2 r2
        exact ⟨m0, by omega, .inl ⟨c', ts', rfl, ⟨S.r.comp r2, l.2.1, S.gd.lft l, hgo, by omega⟩, ht⟩⟩
      | some f =>
        intro v H2 hv r2
        exact ⟨m0, by omega, .inr ⟨v, f, c', ts', rfl, hv, ⟨S.r.comp r2, l.2.1, S.gd.lft l, hgo, by omega⟩, ht⟩⟩
  · obtain ⟨pv0, rfl⟩ := hv.ref
    refine ⟨_, rfl, rfl, _, rfl, ite2 (fun h => absurd (of_decide_eq_true h) (by intro h; cases h)) (fun _ => ?_)⟩
    obtain ⟨zs, hz, hlz⟩ := S.r.bl
    refine ⟨_, rfl, !zs.isEmpty, .inl ⟨zs, SqL.of hz, rfl⟩, ?_⟩
    cases c with
    | nil =>
      have : zs = [] := List.eq_nil_of_length_eq_zero hlz
      subst this
      cases hF
      exact ⟨_, rfl, q _ _ hv S.r.tok (kp2_fresh hb S.r.kp)⟩
    | cons fr c =>
      have : zs.isEmpty = false := by
        cases zs with
        | nil => cases hlz
        | cons _ _ => rfl
      rw [this]
      have hlen := S.len
      rw [List.length_cons] at hlen
      refine ⟨fun σ2 H2 => ∃ m', m' < m ∧ RdI K a b (upd H b (.lst [])) R m' σ2 H2, fun _ _ h => h, ?_⟩
      refine ⟨_, rfl, rfl, _, rfl, ite2 (fun h => absurd (of_decide_eq_true h) (by intro h; cases h)) (fun _ => ?_)⟩
      refine ⟨_, rfl, _, rfl, _, rfl, a, b, _, g, fr, ts, c, rfl, hv, S.ok fr (List.mem_cons_self ..), S.r.tok, S.en, S.gd, S.r.fr, ne, by omega, ?_⟩
      cases hF with
      | eG he =>
        rw [he]
        exact bad rfl S.r
      | @sG m0 _ _ _ c' o _ ts' _ he ht =>
        rw [he]
        obtain ⟨hE2, hsub, hgo, hcl⟩ := fGo_keep S.en S.ok he
        rw [List.length_cons] at hcl
        have hG2 : Gd ts' := fun x m => S.gd x (hsub x m)
        cases o with
        | none =>
          intro H2 r2
          exact ⟨m0, by omega, .inl ⟨c', ts', rfl, ⟨S.r.comp r2, hE2, hG2, hgo, by omega⟩, ht⟩⟩
        | some f =>
          intro v H2 hv r2
          exact ⟨m0, by omega, .inr ⟨v, f, c', ts', rfl, hv, ⟨S.r.comp r2, hE2, hG2, hgo, by omega⟩, ht⟩⟩
/-! ### parse_formula -/
theorem tkp_gd {l : List Nat} {i : Nat} {ts : List FTok} (h : TkP l i ts) (hc : ∀ (j c : Nat), l[j]? = some c → chr c) (hl : l.length ≤ 1000) : Gd ts := by
  induction h with
  | nil =>
    intro x hx
    rw [List.mem_singleton.mp hx]
    exact ⟨hl, by show ("" : Str).length ≤ 1000; decide, .inl (by show ls "" = []; decide +kernel)⟩
  | sp e h ih => exact ih
  | @tok i c ts e n h ih =>
    intro x hx
    rcases List.mem_cons.mp hx with q | hx
    · rw [q]
      have hi := (List.getElem?_eq_some_iff.mp e).1
      have h1 := tend_le e
      have h2 := tokAt_len e
      refine ⟨by show i ≤ 1000; omega, by show (tokAt l i).length ≤ 1000; omega, ?_⟩
      have e2 := tokAt_cons e
      rcases hc i c e with h | h | h
      · exact absurd h n
      · rw [if_neg (fun hw => (wrd_ne hw).2 h)] at e2
        exact .inr (.inr ⟨c, e2, h⟩)
      · rw [if_pos h] at e2
        exact .inr (.inl ⟨c, _, e2, h, tw_all _⟩)
    · exact ih x hx
theorem bad_atF {l : List Nat} {b : Nat} (h : Bad1 l b) : badAt l 0 = some b := by
  obtain ⟨⟨c, e, hc⟩, h2⟩ := h
  cases hb : badAt l 0 with
  | none => exact absurd (badAt_none hb b c e) hc
  | some b' =>
    obtain ⟨⟨c', e', hc'⟩, h2'⟩ := bad_some hb
    rcases Nat.lt_trichotomy b b' with h | h | h
    · exact absurd (h2' b c h e) hc
    · rw [h]
    · exact absurd (h2 b' c' h e') hc'
theorem bad_no {l : List Nat} (h : ∀ (j c : Nat), l[j]? = some c → chr c) : badAt l 0 = none := by
  cases hb : badAt l 0 with
  | none => rfl
  | some b =>
    obtain ⟨⟨c, e, hc⟩, _⟩ := bad_some hb
    exact absurd (h b c e) hc
theorem chr_mem {c : Nat} (h : c ∈ ls " (){}<=XYZabcdefghijklmnopqrstuvwxyz") : chr c := by
  rw [show ls " (){}<=XYZabcdefghijklmnopqrstuvwxyz" = [32, 40, 41, 123, 125, 60, 61, 88, 89, 90] ++ (List.range 26).map (fun x => x + 97) by decide +kernel, List.mem_append, List.mem_map] at h
  rcases h with h | ⟨x, hx, rfl⟩
  · simp only [List.mem_cons, List.not_mem_nil, or_false] at h
    unfold chr sgc wrd low
    omega
  · have := List.mem_range.mp hx
    exact .inr (.inr (.inl ⟨by omega, by omega⟩))
theorem wz_fresh {CI CT : Addr} {E : XK} {as : List Addr} {H H1 : Hp} {e : WEr} (z : Wz CI CT E [] H e) (s : Same H H1) (f : ∀ x ∈ as, H x = none) : Wz CI CT E as H1 e := by
  have key : ∀ H2, KpS as H1 H2 → KpS [] H H2 := fun H2 k b o _ h => k b o (fun m => by
    have := f b m
    rw [h] at this
    cases this) (s b o h)
  cases e with
  | it n => exact fun d H2 m h2 k2 => z d H2 m h2 (key _ k2)
  | tl n => exact fun d H2 m h2 k2 => z d H2 m h2 (key _ k2)
def spPF (K : PySem.W.Frag) (CI CT : Addr) : Sp := fun vs H Q E => ∃ (z : Str), vs = [.str z] ∧ z.length ≤ 100000 ∧ Rz' CI CT E [] H (fun f : Fm => ∀ v H', FV K H' v f → Same H H' → Q v H') (fpr (ls z))
theorem sc_parse_formula : FnScope ["text", "at", "sign", "tokens", "formula"] ["text"] (defScope s_parse_formula) := ⟨rfl, rfl, rfl, by decide +kernel, rfl, by decide +kernel, by decide +kernel⟩
theorem ok_parse {CI CT : Addr} {vE vC v300 v40 v3 : Value} (D : Df K mg "parse_formula" s_parse_formula ["text"]) (bi : Bi mg) (hen : mg "enumerate" = none) (mEND : mg "END" = some vE) (rEND : L2.RelV (.str "") vE) (mCHARACTERS : mg "CHARACTERS" = some vC) (rCHARACTERS : L2.RelV (.str " (){}<=XYZabcdefghijklmnopqrstuvwxyz") vC)
    (mMAX_CHARACTERS : mg "MAX_CHARACTERS" = some v300) (rMAX_CHARACTERS : L2.RelV (.int 300) v300) (mMAX_NODES : mg "MAX_NODES" = some v40) (rMAX_NODES : L2.RelV (.int 40) v40) (mMAX_NESTING : mg "MAX_NESTING" = some v3) (rMAX_NESTING : L2.RelV (.int 3) v3)
    (eInvalidText : ErrOk P w K mg base "InvalidText" CI "InvalidText" "position") (eTooLarge : ErrOk P w K mg base "TooLarge" CT "TooLarge" "limit")
    (c_tokens : Cal P w K mg base 2 "_tokens" ["text"] (spTokens K)) (c_read_formula : CalX P w K mg base 7 "_read_formula" ["tokens"] (spRead K CI CT)) (c_take : CalX P w K mg base 4 "_take" ["tokens", "expected"] (spTake K CI CT))
    (cformula_size : Cal P w K mg base 101 "formula_size" ["formula"] (spSize K 100)) (cnesting : Cal P w K mg base 101 "nesting" ["formula"] (spNest K 100)) : CalX P w K mg base 102 "parse_formula" ["text"] (spPF K CI CT) := by
  refine D.okX sc_parse_formula (fun vs H Q E h => ?_) (fun f cdv A outer s H vs Q E hr h => ?_)
  · obtain ⟨z, rfl, _⟩ := h
    rfl
  obtain ⟨z, rfl, hz, q⟩ := h
  have hl := len_ls z
  refine ⟨_, (pss_cons (ps_if (pt_cmpR op_gt (pe_callB call_len_str (by rfl) bi.len PySem.boot_len (pa_cons (pv 0) pa_nil)) (pe_glob (v := .int 300) (by rfl) mMAX_CHARACTERS rMAX_CHARACTERS) (nomark _)) (pss_one (ps_raise rfl (takes_of rfl rfl rfl rfl) (pmk_err eTooLarge (hr.mono (by omega)) (by rfl) (pa_cons (pe_glob (v := .int 300) (by rfl) mMAX_CHARACTERS rMAX_CHARACTERS) pa_nil)))) pss_nil)
      (pss_cons (ps_for (passes_of rfl) rfl (pi_enumS (by rfl) hen (pa_cons (pv 0) pa_nil)) (pg_tup rfl (pgs_cons (pg_name (i := 1) sc_parse_formula.nd rfl (.inl rfl)) (pgs_cons (pg_name (i := 2) sc_parse_formula.nd rfl (.inl rfl)) pgs_nil))) (pss_one (ps_if (pt_cmpR op_notInS (pv 2) (pe_glob (v := .str " (){}<=XYZabcdefghijklmnopqrstuvwxyz") (by rfl) mCHARACTERS rCHARACTERS) (by rfl)) (pss_one (ps_raise rfl (takes_of rfl rfl rfl rfl) (pmk_err eInvalidText (hr.mono (by omega)) (by rfl) (pa_cons (pv 1) pa_nil)))) pss_nil)))
      (pss_cons (ps_set (i := 3) sc_parse_formula.nd rfl (.inl rfl) (pe_own c_tokens hr (by omega) (by rfl) (pa_cons (pv 0) pa_nil)))
      (pss_cons (ps_expr (pe_bm0 PySem.F.plainAttrs_list PySem.F.slot_list_reverse PySem.F.type_list_reverse mt_reverse (pv 3)))
      (pss_cons (ps_set (i := 4) sc_parse_formula.nd rfl (.inl rfl) (pe_ownX c_read_formula hr (by omega) passX (by rfl) (pa_cons (pv 3) pa_nil)))
      (pss_cons (ps_expr (pe_ownX c_take hr (by omega) passX (by rfl) (pa_cons (pv 3) (pa_cons (pe_lst (pa_cons (pe_glob (v := .str "") (by rfl) mEND rEND) pa_nil)) pa_nil))))
      (pss_cons (ps_if (pt_cmpR op_gt (pe_own cformula_size hr (by omega) (by rfl) (pa_cons (pv 4) pa_nil)) (pe_glob (v := .int 40) (by rfl) mMAX_NODES rMAX_NODES) (nomark _)) (pss_one (ps_raise rfl (takes_of rfl rfl rfl rfl) (pmk_err eTooLarge (hr.mono (by omega)) (by rfl) (pa_cons (pe_glob (v := .int 40) (by rfl) mMAX_NODES rMAX_NODES) pa_nil)))) pss_nil)
      (pss_cons (ps_if (pt_cmpR op_gt (pe_own cnesting hr (by omega) (by rfl) (pa_cons (pv 4) pa_nil)) (pe_glob (v := .int 3) (by rfl) mMAX_NESTING rMAX_NESTING) (nomark _)) (pss_one (ps_raise rfl (takes_of rfl rfl rfl rfl) (pmk_err eTooLarge (hr.mono (by omega)) (by rfl) (pa_cons (pe_glob (v := .int 3) (by rfl) mMAX_NESTING rMAX_NESTING) pa_nil)))) pss_nil)
      (pss_one (ps_ret (pv 4))))))))))), ?_⟩
  unfold fpr at q
  refine ⟨_, rfl, _, rfl, fit (by omega), _, _, rfl, rfl, _, rfl, ite2 (fun h => ?_) (fun h => ?_)⟩
  · have h2 : (300 : Int) < (z.length : Nat) := of_decide_eq_true h
    rw [if_pos (by omega)] at q
    exact mk_err (log_nat (by decide)) (wz_tl (CI := CI) q)
  have h2 : ¬ (300 : Int) < (z.length : Nat) := fun q => h (decide_eq_true q)
  rw [if_neg (by omega)] at q
  refine ⟨_, rfl, z, rfl, for_enumS (fun i σ' H' => ∃ y1 y2, σ' = [some (.str z), y1, y2, none, none] ∧ Same H H' ∧ ∀ (j c : Nat), j < i → (ls z)[j]? = some c → chr c) ?_ ?_ ?_⟩
  · exact ⟨none, none, rfl, Same.refl H, fun j c h => absurd h (by omega)⟩
  · rintro i c T σ' H2 hc ⟨y1, y2, rfl, S, hlt⟩ hT
    have hc' : (ls z)[i]? = some c := by
      rw [← hc]
      exact Array.getElem?_toList ..
    refine ⟨T, _, rfl, SqT.of upd_same, rfl, _, _, rfl, _, _, rfl, rfl, ?_⟩
    refine ⟨_, rfl, c, _, rfl, rfl, _, rfl, ite2 (fun h => ?_) (fun h => ?_)⟩
    · have hn : ¬ chr c := fun hch => by
        rw [show decide _ = true from decide_eq_true (mem_chr hch)] at h
        cases h
      have hi : i < (ls z).length := (List.getElem?_eq_some_iff.mp hc').1
      have hb : rdF (ls z) = .error i := by
        unfold rdF
        rw [bad_atF ⟨⟨c, hc', hn⟩, hlt⟩]
      rw [hb] at q
      exact ⟨_, rfl, mk_err (log_nat (by omega)) (wz_it (CT := CT) (Wz.mono (CT := CT) (e := .it i) q (KpS.same (S.trans (same_new hT))) (fun _ h => h)))⟩
    · have hch : chr c := chr_mem (by
        by_cases hm : c ∈ ls " (){}<=XYZabcdefghijklmnopqrstuvwxyz"
        · exact hm
        · exfalso
          apply h
          rw [show decide _ = false from decide_eq_false hm]
          rfl)
      refine ⟨_, _, rfl, S.trans (same_new hT), fun j c2 hj e2 => ?_⟩
      by_cases e : j = i
      · rw [e, hc'] at e2
        exact Option.some.inj e2 ▸ hch
      · exact hlt j c2 (by omega) e2
  · rintro σ' H2 ⟨y1, y2, rfl, S, hall⟩
    have hch : ∀ (j c : Nat), (ls z)[j]? = some c → chr c := fun j c e => hall j c (by
      have := (List.getElem?_eq_some_iff.mp e).1
      have e3 : z.cps.size = z.length := rfl
      omega) e
    have hT := toksOf_ok (ls z)
    have hTl := hT.len
    refine ⟨_, rfl, z, toksOf (ls z), rfl, hT, by omega, fun a us H3 ha hfree hal S3 => ?_⟩
    refine ⟨_, rfl, .inl ⟨rfl, _, SqL.of ha⟩, a, us, rfl, rfl, ha, ?_⟩
    have hgd := tkp_gd hT hch (by omega)
    obtain ⟨n, hF⟩ := pf_frd (n := (toksOf (ls z)).length) hT.en (Nat.le_refl _)
    have hTW : TW K (upd H3 a (.lst us.reverse)) a (toksOf (ls z)) := ⟨us, upd_same, hal.imp (TkW.tp (tp_set ha))⟩
    have hfr : ∀ x ∈ [a], H x = none := fun x m => by
      rw [List.mem_singleton.mp m]
      cases e : H a with
      | none => rfl
      | some o => rw [S _ _ e] at hfree; cases hfree
    have S3' : KpS [a] H (upd H3 a (.lst us.reverse)) := fun x o n h => by
      have nx : x ≠ a := fun e => n (List.mem_singleton.mpr e)
      rw [upd_ne nx]
      exact S3 _ _ (S _ _ h)
    have wz : ∀ {e : WEr} {H4 : Hp}, Wz CI CT E [] H e → KpS [a] H H4 → Wz CI CT E [a] H4 e := fun {e} {H4} zz k => by
      have key : ∀ H5, KpS [a] H4 H5 → KpS [] H H5 := fun H5 k5 b o _ h => by
        have nb : b ∉ [a] := fun m => by
          have := hfr b m
          rw [h] at this
          cases this
        exact k5 b o nb (k b o nb h)
      cases e with
      | it n => exact fun d H2 m h2 k2 => zz d H2 m h2 (key _ k2)
      | tl n => exact fun d H2 m h2 k2 => zz d H2 m h2 (key _ k2)
    have erd : rdF (ls z) = match pf (toksOf (ls z)).length (toksOf (ls z)) with
      | .error e => .error (hd e)
      | .ok (f, r) => match tk1 [("" : Str)] r with
        | .error e => .error (hd e)
        | .ok _ => .ok f := by
      unfold rdF
      rw [bad_no hch]
      all_goals rfl
    refine ⟨_, rfl, a, toksOf (ls z), n, _, rfl, hTW, hT.en, hgd, by omega, hF, ?_⟩
    rcases pf_spec (toksOf (ls z)).length (toksOf (ls z)) hT.en (Nat.le_refl _) with ⟨f, r, e1, o, lt⟩ | ⟨e, e1, fl⟩
    rotate_left
    · rw [e1] at erd ⊢
      rw [erd] at q
      exact wz (e := .it (hd e)) q S3'
    rw [e1] at erd ⊢
    dsimp only at erd
    intro v H4 hv hT4 k4
    have S4 : KpS [a] H H4 := S3'.trans (KpS.kp k4 (List.mem_singleton.mpr rfl))
    refine ⟨_, rfl, (by show 1 ≤ sizeLine; decide), fun p hp => ?_⟩
    dsimp only [tNil, List.cons_append, List.nil_append]
    refine ⟨a, p, r, [("" : Str)], rfl, tw_new hT4 hp, lt.2.1, hgd.lft lt, upd_same, ?_⟩
    obtain ⟨qn, t, r', rfl⟩ := lt.2.1.ne
    by_cases m : t ∈ [("" : Str)]
    rotate_left
    · have e2 : tk1 [("" : Str)] ((qn, t) :: r') = .error ((qn, t) :: r') := by unfold tk1; exact if_neg m
      rw [e2] at erd ⊢
      rw [erd] at q
      exact wz (e := .it (hd ((qn, t) :: r'))) q (S4.trans (KpS.new hp))
    have e2 : tk1 [("" : Str)] ((qn, t) :: r') = .ok (t, r') := by unfold tk1; exact if_pos m
    rw [e2] at erd ⊢
    dsimp only at erd
    rw [erd] at q
    dsimp only at q
    obtain ⟨_, hs3, _⟩ := rdF_ok erd
    have hds := f.dep_size
    intro H5 hT5 k5
    have S5 : Same H H5 := fun b o hb => by
      have nb : b ∉ [a] := fun m => by
        have := hfr b m
        rw [hb] at this
        cases this
      exact (S4.trans ((KpS.new hp).trans (KpS.kp k5 (List.mem_singleton.mpr rfl)))) b o nb hb
    obtain ⟨z5, hz5⟩ := (tw_new (o := .lst [.str ""]) hT4 hp).lst
    have hv5 := FV.tp ((tp_new hp).trans (k5.tp hz5)) _ hv
    refine ⟨_, rfl, v, f, rfl, hv5, o, by omega, fun H6 k6 => ⟨_, _, rfl, rfl, _, rfl, ite2 (fun h => ?_) (fun h => ?_)⟩⟩
    · have h40 : (40 : Int) < (f.size : Nat) := of_decide_eq_true h
      rw [if_pos (by omega)] at q
      exact mk_err (log_nat (by decide)) (wz_tl (CI := CI) (Wz.mono (CT := CT) (e := .tl 40) q (KpS.same (S5.trans k6)) (fun _ h => h)))
    have h40 : ¬ (40 : Int) < (f.size : Nat) := fun q => h (decide_eq_true q)
    rw [if_neg (by omega)] at q
    refine ⟨_, rfl, v, f, rfl, FV.tp (tp_same k6) _ hv5, o, by omega, fun H7 k7 => ⟨_, _, rfl, rfl, _, rfl, ite2 (fun h => ?_) (fun h => ?_)⟩⟩
    · have h3 : (3 : Int) < (f.nest : Nat) := of_decide_eq_true h
      rw [if_pos (by omega)] at q
      exact mk_err (log_nat (by decide)) (wz_tl (CI := CI) (Wz.mono (CT := CT) (e := .tl 3) q (KpS.same (S5.trans (k6.trans k7))) (fun _ h => h)))
    have h3 : ¬ (3 : Int) < (f.nest : Nat) := fun q => h (decide_eq_true q)
    rw [if_neg (by omega)] at q
    exact ⟨_, rfl, q v H7 (FV.tp (tp_same (k6.trans k7)) _ hv5) (S5.trans (k6.trans k7))⟩

end
end SW

set_option Elab.async false
set_option linter.all false
set_option maxRecDepth 100000
set_option maxHeartbeats 4000000
namespace SW
open PySem PySem.Spec PyProof.Rows L2
section
variable {P : Program} {w : World} {K : PySem.W.Frag} {mg : Str → Option Value} {base : Heap}
/-! ### the law's own tokens -/
theorem mem_wrdN {c : Nat} : c ∈ (Str.ofString "abcdefghijklmnopqrstuvwxyzXYZ").cps.toList ↔ wrd c := by
  rw [show (Str.ofString "abcdefghijklmnopqrstuvwxyzXYZ").cps.toList = (List.range 26).map (fun x => x + 97) ++ [88, 89, 90] by decide +kernel, List.mem_append, List.mem_map]
  simp only [List.mem_cons, List.not_mem_nil, or_false]
  unfold wrd low
  constructor
  · rintro (⟨x, hx, rfl⟩ | h)
    · have := List.mem_range.mp hx
      omega
    · omega
  · rintro (h | h)
    · exact .inl ⟨c - 97, List.mem_range.mpr (by omega), by omega⟩
    · exact .inr (by omega)
theorem mem_spcN {c : Nat} : c ∈ (Str.ofString "(){}<= ").cps.toList ↔ (c = 32 ∨ sgc c) := by
  rw [show (Str.ofString "(){}<= ").cps.toList = [40, 41, 123, 125, 60, 61, 32] by decide +kernel]
  simp only [List.mem_cons, List.not_mem_nil, or_false]
  unfold sgc
  omega
theorem tw_chr {l : List Nat} {n c : Nat} (h : ∀ (j c : Nat), j < n → l[j]? = some c → chr c) (e : l[n]? = some c) (hc : chr c) : ∀ (j c : Nat), j < tend l n → l[j]? = some c → chr c := fun j x hj ej => by
  by_cases h1 : j < n
  · exact h j x h1 ej
  by_cases h2 : j = n
  · rw [h2, e] at ej
    exact Option.some.inj ej ▸ hc
  by_cases hw : wrd c
  · rw [tend_wrd e hw] at hj
    have e3 : (l.drop (n + 1))[j - (n + 1)]? = some x := by rw [List.getElem?_drop, show n + 1 + (j - (n + 1)) = j by omega]; exact ej
    exact .inr (.inr (.inl (tw_lt e3 (by omega))))
  · rw [tend_not e hw] at hj
    omega
def spLTok (K : PySem.W.Frag) : Sp := fun vs H Q _ => ∃ z, vs = [.str z] ∧ z.length ≤ 1000 ∧ (∀ b, badAt (ls z) 0 = some b → ∀ H', Same H H' → Q (.int (b : Nat)) H') ∧
  (badAt (ls z) 0 = none → ∀ a us H', H' a = some (.lst us) → H a = none → Al (TkW K H') us (toksOf (ls z)) → Same H H' → Q (.ref a) H')
theorem sc__law_tokens : FnScope ["_law_text", "_law_found", "_law_at", "_law_end"] ["_law_text"] (defScope s__law_tokens) := ⟨rfl, rfl, rfl, by decide +kernel, rfl, by decide +kernel, by decide +kernel⟩
theorem ok_ltok (D : Df K mg "_law_tokens" s__law_tokens ["_law_text"]) (bi : Bi mg) : Cal P w K mg base 1 "_law_tokens" ["_law_text"] (spLTok K) := by
  refine D.ok sc__law_tokens (fun vs H Q E h => ?_) (fun f cdv A outer s H vs Q E hr h => ?_)
  · obtain ⟨z, rfl, _⟩ := h
    rfl
  obtain ⟨z, rfl, hz, q1, q2⟩ := h
  have hl := len_ls z
  have hT := toksOf_ok (ls z)
  generalize toksOf (ls z) = T at hT q2
  refine ⟨_, (pss_cons (ps_par (i := 1) (j := 2) rfl sc__law_tokens.nd rfl rfl (by decide) rfl rfl (pa_cons (pe_lst pa_nil) (pa_cons pe_int pa_nil)) (by rfl))
      (pss_cons (ps_while PassesOwn.never (pt_cmpR op_lt (pv 2) (pe_callB call_len_str (by rfl) bi.len PySem.boot_len (pa_cons (pv 0) pa_nil)) (nomark _)) (pss_cons (ps_set (i := 3) sc__law_tokens.nd rfl (.inl rfl) (pe_op op_add (pv 2) pe_int))
      (C8.pss_cut (ps_if (pt_cmpR op_inS (pe_ix ix_str (pv 0) (pv 2) (fun _ _ => rfl)) pe_str (by rfl)) (pss_one (ps_while PassesOwn.never (PW.pt (pw_and (pt_cmpR op_lt (pv 3) (pe_callB call_len_str (by rfl) bi.len PySem.boot_len (pa_cons (pv 0) pa_nil)) (nomark _)) (pw_and1 (pt_cmpR op_inS (pe_ix ix_str (pv 0) (pv 3) (fun _ _ => rfl)) pe_str (by rfl))))) (pss_one (ps_set (i := 3) sc__law_tokens.nd rfl (.inl rfl) (pe_op op_add (pv 3) pe_int))))) (pss_one (ps_if (pt_cmpR op_notInS (pe_ix ix_str (pv 0) (pv 2) (fun _ _ => rfl)) pe_str (by rfl)) (pss_one (ps_ret (pv 2))) pss_nil)))
      (C8.pss_cut (ps_if (pt_cmpR op_ne (pe_ix ix_str (pv 0) (pv 2) (fun _ _ => rfl)) pe_str (nomark _)) (pss_one (ps_expr (pe_bm PySem.F.plainAttrs_list PySem.F.slot_list_append PySem.F.type_list_append mt_append (pv 1) (pa_cons (pe_tup (pa_cons (pv 2) (pa_cons (pe_slice sl_str (pv 0) (po_some (pv 2)) (po_some (pv 3))) pa_nil))) pa_nil)))) pss_nil)
      (pss_one (ps_set (i := 2) sc__law_tokens.nd rfl (.inl rfl) (pv 3)))))))
      (pss_one (ps_ret (pe_op op_cat (pv 1) (pe_lst (pa_cons (pe_tup (pa_cons (pe_callB call_len_str (by rfl) bi.len PySem.boot_len (pa_cons (pv 0) pa_nil)) (pa_cons pe_str pa_nil))) pa_nil))))))), ?_⟩
  refine ⟨Nat.zero_le _, fun a ha => ?_⟩
  refine ⟨_, _, rfl, ?_⟩
  refine ⟨fun m σ' H' => ∃ (n : Nat) (y : Option V) (us : List V) (t0 t1 : List FTok), σ' = [some (.str z), some (.ref a), some (.int (n : Nat)), y] ∧ n ≤ (ls z).length ∧ m = (ls z).length - n ∧ H' a = some (.lst us) ∧ us.length ≤ n ∧ Al (TkW K H') us t0 ∧ TkP (ls z) n t1 ∧ t0 ++ t1 = T ∧ Kp a H H' ∧ (∀ (j c : Nat), j < n → (ls z)[j]? = some c → chr c), ⟨_, 0, none, [], [], T, rfl, Nat.zero_le _, rfl, upd_same, Nat.le_refl _, .nil, hT, rfl, Kp.new ha, fun j c h => absurd h (by omega)⟩, ?_⟩
  rintro m σ' H' ⟨n, y, us, t0, t1, rfl, hn, rfl, hA, hu, hal, htk, e, kp, hch⟩
  have sm : Same H H' := fun b o hb => kp b o (ne_of_none hb ha) hb
  refine ⟨_, rfl, _, rfl, _, rfl, fit (by omega), _, _, rfl, rfl, _, rfl, ite2 (fun h => ?_) (fun h => ?_)⟩
  · have hlt : (n : Int) < (z.length : Nat) := of_decide_eq_true h
    have hlt' : n < (ls z).length := by omega
    have hx : (ls z)[n]? = some (ls z)[n] := List.getElem?_eq_getElem hlt'
    have h1 := tend_le hx
    have hgt := tend_gt (ls z) n
    generalize (ls z)[n] = c at hx
    have hcc := tw_chr hch hx
    refine ⟨fun σ2 H2 => ∃ (n2 : Nat) (y : Option V) (us : List V) (t0 t1 : List FTok), σ2 = [some (.str z), some (.ref a), some (.int (n2 : Nat)), y] ∧ n < n2 ∧ n2 ≤ (ls z).length ∧ H2 a = some (.lst us) ∧ us.length ≤ n2 ∧ Al (TkW K H2) us t0 ∧ TkP (ls z) n2 t1 ∧ t0 ++ t1 = T ∧ Kp a H H2 ∧ (∀ (j c : Nat), j < n2 → (ls z)[j]? = some c → chr c), ?_, ?_⟩
    · rintro σ2 H2 ⟨n2, y, us, t0, t1, rfl, hn2, hn3, r⟩
      exact ⟨_, by omega, n2, y, us, t0, t1, rfl, hn3, rfl, r⟩
    refine ⟨_, rfl, _, _, rfl, rfl, ?_⟩
    -- the end
    refine ⟨fun σ2 H2 => σ2 = [some (.str z), some (.ref a), some (.int (n : Nat)), some (.int (tend (ls z) n : Nat))] ∧ H2 = H' ∧ chr c, ?_, ?_⟩
    · refine ⟨_, rfl, _, rfl, _, _, _, rfl, rfl, fit (by omega), at_ls hx rfl, c, _, rfl, rfl, _, rfl, ite2 (fun hw => ?_) (fun hw => ?_)⟩
      · have hw : wrd c := mem_wrdN.mp (of_decide_eq_true hw)
        have ht := tend_wrd hx hw
        have hle := tw_len ((ls z).drop (n + 1))
        rw [List.length_drop] at hle
        refine ⟨fun m σ' H2 => ∃ k : Nat, σ' = [some (V.str z), some (.ref a), some (V.int (n : Nat)), some (V.int ((n + 1 + k : Nat)))] ∧ k ≤ (tw ((ls z).drop (n + 1))).length ∧ m = (tw ((ls z).drop (n + 1))).length - k ∧ H2 = H', ⟨_, 0, by rfl, Nat.zero_le _, rfl, rfl⟩, ?_⟩
        rintro m σ' H2 ⟨k, rfl, hk, rfl, rfl⟩
        refine ⟨_, rfl, _, rfl, _, rfl, fit (by omega), _, _, rfl, rfl, _, rfl, ite2 (fun h => ?_) (fun h => ?_)⟩
        · have hlt : ((n + 1 + k : Nat) : Int) < (z.length : Nat) := of_decide_eq_true h
          have hlt' : n + 1 + k < (ls z).length := by omega
          have hx1 : (ls z)[n + 1 + k]? = some (ls z)[n + 1 + k] := List.getElem?_eq_getElem hlt'
          have hx2 : ((ls z).drop (n + 1))[k]? = some (ls z)[n + 1 + k] := by rw [List.getElem?_drop]; exact hx1
          refine ⟨_, rfl, _, rfl, _, _, _, rfl, rfl, fit (by omega), at_ls hx1 rfl, _, _, rfl, rfl, _, rfl, ite2 (fun h2 => ?_) (fun h2 => ?_)⟩
          · have hlow : low (ls z)[n + 1 + k] := mem_low.mp (of_decide_eq_true h2)
            have hk2 : k < (tw ((ls z).drop (n + 1))).length := by
              rcases Nat.lt_or_ge k (tw ((ls z).drop (n + 1))).length with h | h
              · exact h
              · exact absurd hlow (tw_get hx2 (by omega))
            refine ⟨fun σ' H'' => σ' = [some (V.str z), some (.ref a), some (V.int (n : Nat)), some (V.int ((n + 1 + (k + 1) : Nat)))] ∧ H'' = H2, ?_, _, rfl, _, _, rfl, rfl, rfl, rfl⟩
            rintro σ' H'' ⟨rfl, rfl⟩
            exact ⟨_, by omega, k + 1, rfl, hk2, rfl, rfl⟩
          · have hnl : ¬ low (ls z)[n + 1 + k] := fun hl => h2 (decide_eq_true (mem_low.mpr hl))
            have hk2 : k = (tw ((ls z).drop (n + 1))).length := by
              rcases Nat.lt_or_ge k (tw ((ls z).drop (n + 1))).length with h | h
              · exact absurd (tw_lt hx2 h) hnl
              · omega
            subst hk2
            exact ⟨by rw [ht], rfl, .inr (.inr hw)⟩
        · have hge : ¬ ((n + 1 + k : Nat) : Int) < (z.length : Nat) := fun q => h (decide_eq_true q)
          have hk2 : k = (tw ((ls z).drop (n + 1))).length := by omega
          subst hk2
          exact ⟨by rw [ht], rfl, .inr (.inr hw)⟩
      · have hw : ¬ wrd c := fun q => hw (decide_eq_true (mem_wrdN.mpr q))
        have ht := tend_not hx hw
        refine ⟨_, rfl, _, rfl, _, _, _, rfl, rfl, fit (by omega), at_ls hx rfl, c, _, rfl, rfl, _, rfl, ite2 (fun hs => ?_) (fun hs => ?_)⟩
        · have hs : ¬ (c = 32 ∨ sgc c) := fun q => by
            rw [show decide _ = true from decide_eq_true (mem_spcN.mpr q)] at hs
            cases hs
          have hn : ¬ chr c := fun q => by
            rcases q with q | q | q
            · exact hs (.inl q)
            · exact hs (.inr q)
            · exact hw q
          exact ⟨_, rfl, q1 n (bad_atF ⟨⟨c, hx, hn⟩, hch⟩) H' sm⟩
        · have hs : c = 32 ∨ sgc c := by
            by_cases q : c = 32 ∨ sgc c
            · exact q
            · exfalso
              apply hs
              rw [show decide _ = false from decide_eq_false (fun h => q (mem_spcN.mp h))]
              rfl
          exact ⟨by rw [ht]; rfl, rfl, hs.elim .inl fun q => .inr (.inl q)⟩
    rintro σ2 H2 ⟨rfl, rfl, hcc0⟩
    have hcc := hcc hcc0
    refine ⟨fun σ2 H2 => ∃ (us : List V) (t0 t1 : List FTok), σ2 = [some (.str z), some (.ref a), some (.int (n : Nat)), some (.int (tend (ls z) n : Nat))] ∧ H2 a = some (.lst us) ∧ us.length ≤ tend (ls z) n ∧ Al (TkW K H2) us t0 ∧ TkP (ls z) (tend (ls z) n) t1 ∧ t0 ++ t1 = T ∧ Kp a H H2, ?_, ?_⟩
    · refine ⟨_, rfl, _, rfl, _, _, _, rfl, rfl, fit (by omega), at_ls hx rfl, rfl, ?_⟩
      by_cases hc : c = 32
      · refine ne_no ?_ ?_
        · rw [hc]; decide +kernel
        · refine ⟨us, t0, t1, rfl, hA, by omega, hal, ?_, e, kp⟩
          cases htk with
          | nil => omega
          | sp _ h => exact h
          | tok e2 n2 _ => rw [hx] at e2; exact absurd ((Option.some.inj e2).symm.trans hc) n2
      · obtain ⟨ts', et, hk⟩ : ∃ ts', t1 = (n, tokAt (ls z) n) :: ts' ∧ TkP (ls z) (tend (ls z) n) ts' := by
          cases htk with
          | nil => omega
          | sp e2 h => rw [hx] at e2; exact absurd (Option.some.inj e2) hc
          | tok _ _ h => exact ⟨_, rfl, h⟩
        refine ne_yes ?_ ?_
        · intro e
          refine hc ?_
          have := congrArg ls e
          rw [ls_sp] at this
          exact (List.cons.inj this).1
        · refine ⟨_, rfl, .inl ⟨rfl, _, SqL.of hA⟩, _, rfl, _, rfl, _, rfl, _, rfl, _, rfl, _, rfl, _, rfl, fit (by omega), (by show 2 ≤ sizeLine; decide), fun p hp => ?_⟩
          have hA2 : (upd H2 p (.tup [.int (n : Nat), .str (cutS z (some (n : Nat)) (some (tend (ls z) n : Nat)))])) a = some (.lst us) := by
            rw [upd_ne (ne_of_none hA hp)]
            exact hA
          have etx : cutS z (some (n : Nat)) (some (tend (ls z) n : Nat)) = tokAt (ls z) n := ls_inj (by rw [ls_cut, ls_tx])
          have kpp := kp.trans (Kp.new (r := a) (o := .tup [.int (n : Nat), .str (cutS z (some (n : Nat)) (some (tend (ls z) n : Nat)))]) hp)
          have tp2 : Tp H2 (upd (upd H2 p (.tup [.int (n : Nat), .str (cutS z (some (n : Nat)) (some (tend (ls z) n : Nat)))])) a (.lst (us ++ [.ref p]))) := (tp_new hp).trans (tp_set hA2)
          refine ⟨a, _, _, rfl, rfl, hA2, Nat.lt_of_le_of_lt (show us.length ≤ 1000 by omega) (by decide), us ++ [.ref p], t0 ++ [(n, tokAt (ls z) n)], ts', rfl, upd_same, ?_, (hal.imp (TkW.tp tp2)).app (.cons ⟨p, rfl, ?_⟩ .nil), hk, ?_, kpp.trans Kp.at⟩
          · rw [List.length_append, List.length_singleton]
            omega
          · show SqT K _ p [.int (n : Nat), .str (tokAt (ls z) n)]
            rw [← etx]
            exact (tp_set hA2).sq (SqT.of upd_same)
          · rw [List.append_assoc, ← e, et]
            rfl
    · rintro σ2 H2 ⟨us2, t2, t3, rfl, hA2, hu2, hal2, htk2, e2, kp2⟩
      exact ⟨_, rfl, tend (ls z) n, _, us2, t2, t3, rfl, hgt, h1, hA2, hu2, hal2, htk2, e2, kp2, hcc⟩
  · have hge : ¬ ((n : Int) < (z.length : Nat)) := fun q => h (decide_eq_true q)
    have hn2 : n = (ls z).length := by omega
    subst hn2
    obtain rfl : t1 = [((ls z).length, ("" : Str))] := htk.det .nil
    have hbad : badAt (ls z) 0 = none := bad_no fun j c e => hch j c (List.getElem?_eq_some_iff.mp e).1 e
    refine ⟨_, rfl, _, rfl, _, rfl, fit (by omega), (by show 2 ≤ sizeLine; decide), fun p hp => ⟨(by show 1 ≤ sizeLine; decide), fun p2 hp2 => ?_⟩⟩
    have hA2 : (upd H' p (.tup [.int (z.length : Nat), .str ""])) a = some (.lst us) := by
      rw [upd_ne (ne_of_none hA hp)]
      exact hA
    have hA3 : (upd (upd H' p (.tup [.int (z.length : Nat), .str ""])) p2 (.lst [.ref p])) a = some (.lst us) := by
      rw [upd_ne (ne_of_none hA2 hp2)]
      exact hA2
    refine ⟨a, p2, us, [.ref p], rfl, rfl, hA3, upd_same, fit (by show us.length + 1 ≤ 100000; omega), fun p3 hp3 => ?_⟩
    have tp2 : Tp H' (upd (upd (upd H' p (.tup [.int (z.length : Nat), .str ""])) p2 (.lst [.ref p])) p3 (.lst (us ++ [.ref p]))) := (tp_new hp).trans ((tp_new hp2).trans (tp_new hp3))
    have sm2 := (sm.trans (same_new (o := .tup [.int (z.length : Nat), .str ""]) hp)).trans (same_new (o := .lst [.ref p]) hp2)
    refine q2 hbad p3 (us ++ [.ref p]) _ upd_same ?_ ?_ (sm2.trans (same_new hp3))
    · cases e4 : H p3 with
      | none => rfl
      | some o => rw [sm2 _ _ e4] at hp3; cases hp3
    · rw [← e]
      refine (hal.imp (TkW.tp tp2)).app (.cons ⟨p, rfl, ?_⟩ .nil)
      show SqT K _ p [.int ((ls z).length : Nat), .str ""]
      rw [← hl]
      exact ((tp_new hp2).trans (tp_new hp3)).sq (SqT.of upd_same)

end
end SW

set_option Elab.async false
set_option linter.all false
set_option maxRecDepth 100000
set_option maxHeartbeats 4000000
namespace SW
open PySem PySem.Spec PyProof.Rows L2
section
variable {P : Program} {w : World} {K : PySem.W.Frag} {mg : Str → Option Value} {base : Heap}
/-! ### the law's own reader -/
abbrev rowsL : List (List Str) := [["("], xyz, [")"]]
abbrev rowsN : List (List Str) := [["name"], ["}"]]
abbrev rowsR (x : List Str) : List (List Str) := [["<", "=", "next", "in"], x]
def rowsF : List (List Str) → List FTok → Except (List FTok) (List FTok)
  | [], ts => .ok ts
  | L :: rs, ts => match (if L = ([("name" : Str)] : List Str) then tkN ts else tk1 L ts) with
    | .error e => .error e
    | .ok (_, r) => rowsF rs r
def rst : Res → Except (List FTok) (List FTok)
  | .error e => .error e
  | .ok (_, r) => .ok r
theorem tk1_mem {L M : List Str} (h : ∀ t, t ∈ L ↔ t ∈ M) (ts : List FTok) : tk1 L ts = tk1 M ts := by
  unfold tk1
  cases ts with
  | nil => rfl
  | cons x r =>
    dsimp only
    by_cases m : x.2 ∈ L
    · rw [if_pos m, if_pos ((h _).mp m)]
    · rw [if_neg m, if_neg (fun q => m ((h _).mpr q))]
theorem rst_L (t : Str) (r : List FTok) : rst (leafL t r) = rowsF rowsL r := by
  unfold leafL rowsF
  rw [if_neg (by decide +kernel)]
  cases tk1 ["("] r with
  | error e => rfl
  | ok p =>
    dsimp only
    unfold rowsF
    rw [if_neg (by decide +kernel)]
    cases tk1 xyz p.2 with
    | error e => rfl
    | ok p2 =>
      dsimp only
      unfold rowsF
      rw [if_neg (by decide +kernel)]
      cases tk1 [")"] p2.2 with
      | error e => rfl
      | ok p3 => rfl
theorem rst_N (r : List FTok) : rst (leafN r) = rowsF rowsN r := by
  unfold leafN rowsF
  rw [if_pos (by decide +kernel)]
  cases tkN r with
  | error e => rfl
  | ok p =>
    dsimp only
    unfold rowsF
    rw [if_neg (by decide +kernel)]
    cases tk1 ["}"] p.2 with
    | error e => rfl
    | ok p2 => rfl
theorem sgs_mem : ∀ t : Str, t ∈ sgs ↔ t ∈ (["<", "=", "next", "in"] : List Str) := fun t => by
  simp only [sgs, List.mem_cons, List.not_mem_nil, or_false]
  constructor <;> (rintro (h | h | h | h) <;> simp [h])
theorem rst_R (x : Str) {q : Nat} {u : Str} {r : List FTok} : rst (leafR x ((q, u) :: r)) = rowsF (rowsR (if u = "in" then XYZ else xyz)) ((q, u) :: r) := by
  unfold leafR rowsF
  rw [if_neg (by decide +kernel), ← tk1_mem sgs_mem]
  cases e : tk1 sgs ((q, u) :: r) with
  | error e => rfl
  | ok p =>
    have : p.1 = u := by
      unfold tk1 at e
      dsimp only at e
      by_cases m : u ∈ sgs
      · rw [if_pos m] at e; cases e; rfl
      · rw [if_neg m] at e; cases e
    dsimp only
    unfold rowsF
    rw [← this]
    have hn : ¬ (if p.1 = "in" then XYZ else xyz) = [("name" : Str)] := by
      by_cases hq : p.1 = "in"
      · rw [if_pos hq]; decide +kernel
      · rw [if_neg hq]; decide +kernel
    rw [if_neg hn]
    cases tk1 (if p.1 = "in" then XYZ else xyz) p.2 with
    | error e => rfl
    | ok p2 => rfl
theorem abc_ne {t : Str} (h : t ∈ abc) : t ∉ xyz ∧ t ≠ "{" ∧ t ∉ qus ∧ t ≠ "not" ∧ t ≠ "(" := mem3 (P := fun t => t ∉ xyz ∧ t ≠ "{" ∧ t ∉ qus ∧ t ≠ "not" ∧ t ≠ "(") h (by decide +kernel) (by decide +kernel) (by decide +kernel)
theorem xyz_ne {t : Str} (h : t ∈ xyz) : t ∉ abc ∧ t ≠ "{" ∧ t ∉ qus ∧ t ≠ "not" ∧ t ≠ "(" := mem3 (P := fun t => t ∉ abc ∧ t ≠ "{" ∧ t ∉ qus ∧ t ≠ "not" ∧ t ≠ "(") h (by decide +kernel) (by decide +kernel) (by decide +kernel)
theorem qus_ne {t : Str} (h : t ∈ qus) : t ∉ abc ∧ t ∉ xyz ∧ t ≠ "{" ∧ t ≠ "not" ∧ t ≠ "(" := by
  rcases mem_qus h with rfl | rfl <;> decide +kernel
section
variable {n p : Nat} {t : Str} {r : List FTok}
theorem pf_abc (h : t ∈ abc) : pf (n + 1) ((p, t) :: r) = leafL t r := by
  unfold pf; exact if_pos h
theorem pf_xyz (h : t ∈ xyz) : pf (n + 1) ((p, t) :: r) = leafR t r := by
  unfold pf
  rw [if_neg (xyz_ne h).1, if_pos h]
theorem pf_br (h : t = "{") : pf (n + 1) ((p, t) :: r) = leafN r := by
  unfold pf
  subst h
  rw [if_neg (by decide +kernel), if_neg (by decide +kernel), if_pos rfl]
theorem pf_qu (h : t ∈ qus) : pf (n + 1) ((p, t) :: r) = match tk1 vrs r with
      | .error e => .error e
      | .ok (x, r1) => match pf n r1 with
        | .error e => .error e
        | .ok (f, r2) => .ok (.qu t x f, r2) := by
  have := qus_ne h
  conv => lhs; unfold pf
  rw [if_neg this.1, if_neg this.2.1, if_neg this.2.2.1, if_pos h]
  all_goals rfl
theorem pf_not (h : t = "not") : pf (n + 1) ((p, t) :: r) = match pf n r with
      | .error e => .error e
      | .ok (f, r1) => .ok (.neg f, r1) := by
  subst h
  conv => lhs; unfold pf
  rw [if_neg (by decide +kernel), if_neg (by decide +kernel), if_neg (by decide +kernel), if_neg (by decide +kernel), if_pos rfl]
  all_goals rfl
theorem pf_par (h : t = "(") : pf (n + 1) ((p, t) :: r) = match pf n r with
      | .error e => .error e
      | .ok (f, r1) => match tk1 anoT r1 with
        | .error e => .error e
        | .ok (k, r2) => match pf n r2 with
          | .error e => .error e
          | .ok (g, r3) => match tk1 [")"] r3 with
            | .error e => .error e
            | .ok (_, r4) => .ok (.bin k f g, r4) := by
  subst h
  conv => lhs; unfold pf
  rw [if_neg (by decide +kernel), if_neg (by decide +kernel), if_neg (by decide +kernel), if_neg (by decide +kernel), if_neg (by decide +kernel), if_pos rfl]
  all_goals rfl
theorem pf_no (h1 : t ∉ abc) (h2 : t ∉ xyz) (h3 : t ≠ "{") (h4 : t ∉ qus) (h5 : t ≠ "not") (h6 : t ≠ "(") : pf (n + 1) ((p, t) :: r) = .error ((p, t) :: r) := by
  unfold pf
  rw [if_neg h1, if_neg h2, if_neg h3, if_neg h4, if_neg h5, if_neg h6]
end
theorem Al.at {α : Type} {R : V → α → Prop} : ∀ {vs : List V} {xs : List α}, Al R vs xs → ∀ {i : Nat} {x : α}, xs[i]? = some x → ∃ v, vs[i]? = some v ∧ R v x
  | _, _, .cons h t, 0, x, e => by cases e; exact ⟨_, rfl, h⟩
  | _, _, .cons h t, i + 1, x, e => Al.at t e
theorem drop_cons {α : Type} {l : List α} {i : Nat} {x : α} {r : List α} (h : l.drop i = x :: r) : l[i]? = some x ∧ l.drop (i + 1) = r ∧ r.length = l.length - (i + 1) ∧ i < l.length := by
  have h1 : l[i]? = some x := by
    have := congrArg List.head? h
    rw [List.head?_drop] at this
    exact this
  have h2 : l.drop (i + 1) = r := by rw [← List.drop_drop, h]; rfl
  have hi := (List.getElem?_eq_some_iff.mp h1).1
  exact ⟨h1, h2, by rw [← h2, List.length_drop], hi⟩
/-- a rest of T stands at its place -/
theorem suf_drop {α : Type} {T r : List α} {i : Nat} (h : r <:+ T.drop i) : T.drop (T.length - r.length) = r := by
  have : r <:+ T := h.trans (List.drop_suffix _ _)
  exact (List.suffix_iff_eq_drop.mp this).symm
def TSs (T : List FTok) : Prop := ∀ x ∈ T, x.2.length ≤ 1000 ∧ TS x.2
/-- where the law's reader comes to -/
def BehR (T : List FTok) (Q : Int → Prop) : Except (List FTok) (List FTok) → Prop
  | .ok r => Q ((T.length - r.length : Nat) : Int)
  | .error e => Q (-1 - ((T.length - e.length : Nat) : Int))
def spBeh (K : PySem.W.Frag) (n : Nat) : Sp := fun vs H Q _ => ∃ (a : Addr) (us : List V) (T : List FTok) (i m : Nat), vs = [.ref a, .int (i : Nat)] ∧ H a = some (.lst us) ∧ Al (TkW K H) us T ∧ En (T.drop i) ∧ T.length ≤ 1000 ∧ TSs T ∧ i < T.length ∧ m ≤ n ∧ (T.drop i).length ≤ m ∧
  ∀ H', Same H H' → BehR T (fun k => Q (.int k) H') (rst (pf m (T.drop i)))
/-- rows of what is to follow -/
def RowAt (H : Hp) (v : V) (rs : List (List Str)) : Prop := ∃ (pr : Addr) (qs : List Addr), v = .ref pr ∧ H pr = some (.lst (qs.map V.ref)) ∧ qs.length = rs.length ∧ ∀ (j : Nat) (q : Addr) (L : List Str), qs[j]? = some q → rs[j]? = some L → H q = some (.lst (L.map V.str))
theorem RowAt.keep {H H' : Hp} {v : V} {rs : List (List Str)} (h : RowAt H v rs) (k : ∀ b xs, H b = some (.lst xs) → H' b = some (.lst xs)) : RowAt H' v rs := by
  obtain ⟨pr, qs, e, h1, h2, h3⟩ := h
  exact ⟨pr, qs, e, k _ _ h1, h2, fun j q L e1 e2 => k _ _ (h3 j q L e1 e2)⟩
def DRow (H : Hp) (kvs : List (Key × V)) (f : Str → Option (List (List Str))) : Prop := ∀ k : Str, (f k = none → valV kvs (.inr k) = none) ∧ ∀ rs, f k = some rs → ∃ v, valV kvs (.inr k) = some v ∧ RowAt H v rs
theorem DRow.put {H H' : Hp} {kvs : List (Key × V)} {f g : Str → Option (List (List Str))} {c : Str} {v : V} {rs : List (List Str)} (d : DRow H kvs f) (k : ∀ b xs, H b = some (.lst xs) → H' b = some (.lst xs)) (h : RowAt H' v rs) (hg : ∀ x, g x = if x = c then some rs else f x) : DRow H' (putK kvs (.inr c) v) g := by
  intro x
  rw [hg, valV_put]
  by_cases e : x = c
  · rw [if_pos e, if_pos (by rw [e])]
    refine ⟨fun q => (by cases q), fun rs' q => ?_⟩
    cases q
    exact ⟨v, rfl, h⟩
  · rw [if_neg e, if_neg (fun q => e (Sum.inr.inj q))]
    exact ⟨(d x).1, fun rs' h => by
      obtain ⟨v', h1, h2⟩ := (d x).2 rs' h
      exact ⟨v', h1, h2.keep k⟩⟩
theorem lst_keep {H : Hp} {D : Addr} {kvs : List (Key × V)} {o : HO} (hD : H D = some (.dK kvs)) : ∀ (b : Addr) (xs : List V), H b = some (.lst xs) → (upd H D o) b = some (.lst xs) := fun b xs h => by
  rw [upd_ne (fun e => by rw [e, hD] at h; cases h)]
  exact h
theorem DRow.keep {H H' : Hp} {kvs : List (Key × V)} {f : Str → Option (List (List Str))} (d : DRow H kvs f) (s : Same H H') : DRow H' kvs f := fun k => ⟨(d k).1, fun rs h => by
  obtain ⟨v, e1, e2⟩ := (d k).2 rs h
  exact ⟨v, e1, e2.keep fun b xs hb => s _ _ hb⟩⟩
theorem rows2 {H : Hp} {q1 q2 : Addr} {L1 L2 : List Str} (h1 : H q1 = some (.lst (L1.map V.str))) (h2 : H q2 = some (.lst (L2.map V.str))) : ∀ (j : Nat) (q : Addr) (L : List Str), [q1, q2][j]? = some q → [L1, L2][j]? = some L → H q = some (.lst (L.map V.str)) := by
  intro j q L e1 e2
  match j, e1, e2 with
  | 0, e1, e2 => cases e1; cases e2; exact h1
  | 1, e1, e2 => cases e1; cases e2; exact h2
theorem rows3 {H : Hp} {q1 q2 q3 : Addr} {L1 L2 L3 : List Str} (h1 : H q1 = some (.lst (L1.map V.str))) (h2 : H q2 = some (.lst (L2.map V.str))) (h3 : H q3 = some (.lst (L3.map V.str))) : ∀ (j : Nat) (q : Addr) (L : List Str), [q1, q2, q3][j]? = some q → [L1, L2, L3][j]? = some L → H q = some (.lst (L.map V.str)) := by
  intro j q L e1 e2
  match j, e1, e2 with
  | 0, e1, e2 => cases e1; cases e2; exact h1
  | 1, e1, e2 => cases e1; cases e2; exact h2
  | 2, e1, e2 => cases e1; cases e2; exact h3
theorem putK_len (kvs : List (Key × V)) (k : Key) (v : V) : (putK kvs k v).length ≤ kvs.length + 1 := by
  unfold putK
  split
  · rw [List.length_map]; omega
  · rw [List.length_append, List.length_singleton]; exact Nat.le_refl _
def fA (i : Nat) (k : Str) : Option (List (List Str)) := if k ∈ abc.take i then some rowsL else if k = "{" then some rowsN else none
def fB (last : List Str) (i : Nat) (k : Str) : Option (List (List Str)) := if k ∈ xyz.take i then some (rowsR last) else fA 3 k
theorem fA_step {i : Nat} {c : Str} (h : abc[i]? = some c) (x : Str) : fA (i + 1) x = if x = c then some rowsL else fA i x := by
  unfold fA
  rw [List.take_add_one, h]
  by_cases e : x = c
  · rw [if_pos (by simp [e]), if_pos e]
  · rw [if_neg e]
    by_cases m : x ∈ abc.take i
    · rw [if_pos (List.mem_append_left _ m), if_pos m]
    · rw [if_neg (fun q => by rcases List.mem_append.mp q with q | q; exact m q; exact e (by simpa using q)), if_neg m]
theorem fB_step {last : List Str} {i : Nat} {c : Str} (h : xyz[i]? = some c) (x : Str) : fB last (i + 1) x = if x = c then some (rowsR last) else fB last i x := by
  unfold fB
  rw [List.take_add_one, h]
  by_cases e : x = c
  · rw [if_pos (by simp [e]), if_pos e]
  · rw [if_neg e]
    by_cases m : x ∈ xyz.take i
    · rw [if_pos (List.mem_append_left _ m), if_pos m]
    · rw [if_neg (fun q => by rcases List.mem_append.mp q with q | q; exact m q; exact e (by simpa using q)), if_neg m]
theorem fB0 (last : List Str) (x : Str) : fB last 0 x = fA 3 x := by unfold fB; exact if_neg (by simp)
theorem nm_tok {t : Str} (h : TS t) : nmB t = true ↔ 1 ≤ t.length ∧ t.length ≤ 8 ∧ ∃ c, (ls t)[0]? = some c ∧ low c := by
  rw [nmB_ok]
  have hsz : t.length = t.cps.size := rfl
  have hl : (ls t).length = t.length := (len_ls t).symm
  constructor
  · rintro ⟨h1, h2, h3⟩
    refine ⟨h1, h2, ?_⟩
    have e : (ls t)[0]? = some ((ls t)[0]'(by omega)) := List.getElem?_eq_getElem _
    exact ⟨_, e, h3 _ (List.getElem_mem _)⟩
  · rintro ⟨h1, h2, c, e, hc⟩
    refine ⟨h1, h2, fun x hx => ?_⟩
    have hx : x ∈ ls t := hx
    cases el : ls t with
    | nil => rw [el] at hx; cases hx
    | cons y w =>
      rw [el] at hx e
      cases e
      rcases List.mem_cons.mp hx with q | hx
      · rw [q]; exact hc
      · exact h x (by rw [el]; exact hx)
/-- the rows that there are -/
def IsRow (rs : List (List Str)) : Prop := rs = rowsL ∨ rs = rowsN ∨ rs = rowsR XYZ ∨ rs = rowsR xyz
abbrev nmL : List Str := ["name"]
abbrev lstD (L : List Str) : PyData := .list (L.map PyData.str)
def rowB (L : List Str) : Bool := SeqAt.shaped (lstD L) && ((PyData.eqv (lstD L) (lstD nmL) == decide (L = nmL)) && (decide (L = nmL) || L.all fun u => decide (u ≠ ("" : Str))))
theorem rows_all : (([rowsL, rowsN, rowsR XYZ, rowsR xyz] : List (List (List Str))).all fun rs => decide (1 ≤ rs.length ∧ rs.length ≤ 3) && rs.all rowB) = true := by decide +kernel
theorem isrow_mem {rs : List (List Str)} (h : IsRow rs) : rs ∈ ([rowsL, rowsN, rowsR XYZ, rowsR xyz] : List (List (List Str))) := by
  rcases h with rfl | rfl | rfl | rfl <;> simp
theorem rows_len {rs : List (List Str)} (h : IsRow rs) : 1 ≤ rs.length ∧ rs.length ≤ 3 := by
  have := List.all_eq_true.mp rows_all rs (isrow_mem h)
  rw [Bool.and_eq_true] at this
  exact of_decide_eq_true this.1
theorem rows_facts {rs : List (List Str)} (h : IsRow rs) {L : List Str} (hL : L ∈ rs) : SeqAt.shaped (lstD L) = true ∧ PyData.eqv (lstD L) (lstD nmL) = decide (L = nmL) ∧ (L ≠ nmL → ∀ u ∈ L, u ≠ ("" : Str)) := by
  have := List.all_eq_true.mp rows_all rs (isrow_mem h)
  rw [Bool.and_eq_true] at this
  have := List.all_eq_true.mp this.2 L hL
  unfold rowB at this
  rw [Bool.and_eq_true, Bool.and_eq_true, Bool.or_eq_true] at this
  refine ⟨this.1, eq_of_beq this.2.1, fun n u hu => ?_⟩
  rcases this.2.2 with q | q
  · exact absurd (of_decide_eq_true q) n
  · exact of_decide_eq_true (List.all_eq_true.mp q u hu)
theorem fB_row {last : List Str} {t : Str} {rs : List (List Str)} (h : fB last 3 t = some rs) : (t ∈ xyz ∧ rs = rowsR last) ∨ (t ∈ abc ∧ rs = rowsL) ∨ (t = "{" ∧ rs = rowsN) := by
  unfold fB at h
  split at h
  · rename_i hx
    cases h
    exact .inl ⟨hx, rfl⟩
  · unfold fA at h
    split at h
    · rename_i ha
      cases h
      exact .inr (.inl ⟨ha, rfl⟩)
    · split at h
      · rename_i hb
        cases h
        exact .inr (.inr ⟨hb, rfl⟩)
      · cases h
theorem fB_ne {last : List Str} {t : Str} {rs : List (List Str)} (h : fB last 3 t = some rs) : t ≠ "" := by
  rcases fB_row h with ⟨h, _⟩ | ⟨h, _⟩ | ⟨h, _⟩
  · exact (mem_len (L := xyz) (k := 1) (by decide +kernel) h).1
  · exact (mem_len (L := abc) (k := 1) (by decide +kernel) h).1
  · rw [h]; decide +kernel
theorem row_pf {last : List Str} {t : Str} {rs : List (List Str)} {p m' : Nat} {r : List FTok} (hE : En ((p, t) :: r)) (hl : last = XYZ ∨ last = xyz) (h : fB last 3 t = some rs) (hu : ∀ q u r1, r = (q, u) :: r1 → (if u = "in" then XYZ else xyz) = last) : IsRow rs ∧ rst (pf (m' + 1) ((p, t) :: r)) = rowsF rs r := by
  have hr' := hE.tail (fB_ne h)
  rcases fB_row h with ⟨hx, rfl⟩ | ⟨hx, rfl⟩ | ⟨hx, rfl⟩
  · refine ⟨by rcases hl with rfl | rfl <;> simp [IsRow], ?_⟩
    obtain ⟨q, u, r1, e⟩ := hr'.ne
    rw [pf_xyz hx, e, rst_R, hu q u r1 e]
  · exact ⟨.inl rfl, by rw [pf_abc hx, rst_L]⟩
  · exact ⟨.inr (.inl rfl), by rw [pf_br hx, rst_N]⟩
theorem dp_strs {K : PySem.W.Frag} {H : Hp} : ∀ L : List Str, DpAll K H (L.map V.str) (L.map PyData.str)
  | [] => .nil
  | x :: L => .cons (.str x) (dp_strs L)
theorem dp_lst {K : PySem.W.Frag} {H : Hp} {p : Addr} {L : List Str} (h : H p = some (.lst (L.map V.str))) : Dp K H (.ref p) (lstD L) := .lst (SqL.of h) (dp_strs L)
theorem fl_strs : ∀ L : List Str, (L.map V.str).all flatV = true
  | [] => rfl
  | x :: L => by rw [List.map_cons, List.all_cons, fl_strs L]; rfl
theorem sc__law_behind : FnScope ["_law_tokens_here", "_law_at", "_law_word", "_law_middle", "_law_end", "_law_rows", "_law_letter", "_law_place", "_law_last", "_law_step", "_law_here", "_law_wanted", "_law_named"] ["_law_tokens_here", "_law_at"] (defScope s__law_behind) := ⟨rfl, rfl, rfl, by decide +kernel, rfl, by decide +kernel, by decide +kernel⟩
theorem ok_beh1 {n : Nat} (D : Df K mg "_law_behind" s__law_behind ["_law_tokens_here", "_law_at"]) (bi : Bi mg) (c_law_behind : Cal P w K mg base n "_law_behind" ["_law_tokens_here", "_law_at"] (spBeh K n)) : Cal P w K mg base (n + 1) "_law_behind" ["_law_tokens_here", "_law_at"] (spBeh K (n + 1)) := by
  refine D.ok sc__law_behind (fun vs H Q E h => ?_) (fun f cdv A outer s H vs Q E hr h => ?_)
  · obtain ⟨a, us, T, i, m, rfl, _⟩ := h
    rfl
  obtain ⟨a, us, T, i, m, rfl, hA, hal, hE, hT, hTS, hi, hmn, hm, q⟩ := h
  refine ⟨_, (pss_cons (ps_set (i := 2) sc__law_behind.nd rfl (.inl rfl) (pe_ix ix_tup (pe_ix ix_list (pv 0) (pv 1) (fun _ _ => rfl)) pe_int (fun _ _ => rfl)))
      (pss_cons (ps_if (pt_cmpR op_eq (pv 2) pe_str (nomark _)) (pss_one (ps_ret (pe_own c_law_behind hr (by omega) (by rfl) (pa_cons (pv 0) (pa_cons (pe_op op_add (pv 1) pe_int) pa_nil))))) pss_nil)
      (pss_cons (ps_if (PW.pt (pw_or (pt_cmpR op_eq (pv 2) pe_str (nomark _)) (pw_or1 (pt_cmpR op_eq (pv 2) pe_str (nomark _))))) (pss_one (ps_ret (pe_ifExp (pt_cmpR op_in_seq (pe_ix ix_tup (pe_ix ix_list (pv 0) (pe_op op_add (pv 1) pe_int) (fun _ _ => rfl)) pe_int (fun _ _ => rfl)) (pe_lst (pa_cons pe_str (pa_cons pe_str (pa_cons pe_str (pa_cons pe_str (pa_cons pe_str (pa_cons pe_str pa_nil))))))) (by rfl)) (pe_own c_law_behind hr (by omega) (by rfl) (pa_cons (pv 0) (pa_cons (pe_op op_add (pv 1) pe_int) pa_nil))) (pe_op op_sub (pe_un un_neg pe_int) (pv 1))))) pss_nil)
      (pss_cons (ps_if (pt_cmpR op_eq (pv 2) pe_str (nomark _)) (pss_cons (ps_set (i := 3) sc__law_behind.nd rfl (.inl rfl) (pe_own c_law_behind hr (by omega) (by rfl) (pa_cons (pv 0) (pa_cons (pe_op op_add (pv 1) pe_int) pa_nil))))
      (pss_cons (ps_if (PW.pt (pw_or (pt_cmpR op_lt (pv 3) pe_int (nomark _)) (pw_or1 (pt_cmpR op_notIn_seq (pe_ix ix_tup (pe_ix ix_list (pv 0) (pv 3) (fun _ _ => rfl)) pe_int (fun _ _ => rfl)) (pe_lst (pa_cons pe_str (pa_cons pe_str pa_nil))) (by rfl))))) (pss_one (ps_ret (pe_ifExp (pt_cmpR op_lt (pv 3) pe_int (nomark _)) (pv 3) (pe_op op_sub (pe_un un_neg pe_int) (pv 3))))) pss_nil)
      (pss_cons (ps_set (i := 4) sc__law_behind.nd rfl (.inl rfl) (pe_own c_law_behind hr (by omega) (by rfl) (pa_cons (pv 0) (pa_cons (pe_op op_add (pv 3) pe_int) pa_nil))))
      (pss_one (ps_ret (pe_ifExp (pt_cmpR op_lt (pv 4) pe_int (nomark _)) (pv 4) (pe_ifExp (pt_cmpR op_eq (pe_ix ix_tup (pe_ix ix_list (pv 0) (pv 4) (fun _ _ => rfl)) pe_int (fun _ _ => rfl)) pe_str (nomark _)) (pe_op op_add (pv 4) pe_int) (pe_op op_sub (pe_un un_neg pe_int) (pv 4))))))))) pss_nil)
      (pss_cons (ps_set (i := 5) sc__law_behind.nd rfl (.inl rfl) (pe_disp (pps_cons pe_str (pe_lst (pa_cons (pe_lst (pa_cons pe_str pa_nil)) (pa_cons (pe_lst (pa_cons pe_str pa_nil)) pa_nil))) pps_nil) (by rfl) (by rfl) (fun z => by cases z) (by decide)))
      (pss_cons (ps_for PassesOwn.never rfl (pi_list (pe_lst (pa_cons pe_str (pa_cons pe_str (pa_cons pe_str pa_nil))))) (pg_name (i := 6) sc__law_behind.nd rfl (.inl rfl)) (pss_one (ps_dput (hu_of hr) (pv 5) (pv 6) (pe_lst (pa_cons (pe_lst (pa_cons pe_str pa_nil)) (pa_cons (pe_lst (pa_cons pe_str (pa_cons pe_str (pa_cons pe_str pa_nil)))) (pa_cons (pe_lst (pa_cons pe_str pa_nil)) pa_nil)))) (by rfl))))
      (pss_cons (ps_for PassesOwn.never rfl (pi_list (pe_lst (pa_cons pe_str (pa_cons pe_str (pa_cons pe_str pa_nil))))) (pg_name (i := 7) sc__law_behind.nd rfl (.inl rfl)) (C8.pss_cut (ps_set (i := 8) sc__law_behind.nd rfl (.inl rfl) (pe_ifExp (pt_cmpR op_eq (pe_ix ix_tup (pe_ix ix_list (pv 0) (pe_callB (call_min2 rfl) (by rfl) bi.min (by decide +kernel) (pa_cons (pe_op op_add (pv 1) pe_int) (pa_cons (pe_op op_sub (pe_callB call_len_seq (by rfl) bi.len PySem.boot_len (pa_cons (pv 0) pa_nil)) pe_int) pa_nil))) (fun _ _ => rfl)) pe_int (fun _ _ => rfl)) pe_str (nomark _)) (pe_lst (pa_cons pe_str (pa_cons pe_str (pa_cons pe_str pa_nil)))) (pe_lst (pa_cons pe_str (pa_cons pe_str (pa_cons pe_str pa_nil))))))
      (pss_one (ps_dput (hu_of hr) (pv 5) (pv 7) (pe_lst (pa_cons (pe_lst (pa_cons pe_str (pa_cons pe_str (pa_cons pe_str (pa_cons pe_str pa_nil))))) (pa_cons (pv 8) pa_nil))) (by rfl)))))
      (pss_cons (ps_if (pt_cmp (pc_dnotin (hu_of hr) (pv 2) (pv 5))) (pss_one (ps_ret (pe_op op_sub (pe_un un_neg pe_int) (pv 1)))) pss_nil)
      (pss_cons (ps_for PassesOwn.never rfl (pi_range1 (by rfl) bi.range (pa_cons (pe_callB call_len_seq (by rfl) bi.len PySem.boot_len (pa_cons (pe_dget (hu_of hr) (pv 5) (pv 2) (fun _ _ => rfl)) pa_nil)) pa_nil)) (pg_name (i := 9) sc__law_behind.nd rfl (.inl rfl)) (pss_cons (ps_par (i := 10) (j := 11) rfl sc__law_behind.nd rfl rfl (by decide) rfl rfl (pa_cons (pe_ix ix_tup (pe_ix ix_list (pv 0) (pe_op op_add (pe_op op_add (pv 1) pe_int) (pv 9)) (fun _ _ => rfl)) pe_int (fun _ _ => rfl)) (pa_cons (pe_ix ix_list (pe_dget (hu_of hr) (pv 5) (pv 2) (fun _ _ => rfl)) (pv 9) (fun _ _ => rfl)) pa_nil)) (by rfl))
      (C8.pss_cut (ps_set (i := 12) sc__law_behind.nd rfl (.inl rfl) (pe_and (pe_cmpR (op_eqD hr.units) (pv 11) (pe_lst (pa_cons pe_str pa_nil)) (nomark _)) (pe_and (pe_chain op_le op_le pe_int (pe_callB call_len_str (by rfl) bi.len PySem.boot_len (pa_cons (pv 10) pa_nil)) pe_int) (pe_one (pe_cmpR op_inS (pe_ix ix_str (pv 10) pe_int (fun _ _ => rfl)) pe_str (by rfl))))))
      (pss_one (ps_if (PW.pt (pw_or (pt_cmpR op_eq (pv 10) pe_str (nomark _)) (pw_or1 (PW.pt (pw_and (pt_not (pt_val (pv 12))) (pw_and1 (PW.pt (pw_or (pt_cmpR (op_eqD hr.units) (pv 11) (pe_lst (pa_cons pe_str pa_nil)) (nomark _)) (pw_or1 (pt_cmpR op_notIn_seq (pv 10) (pv 11) (by rfl))))))))))) (pss_one (ps_ret (pe_op op_sub (pe_op op_sub (pe_un un_neg pe_int) (pv 1)) (pv 9)))) pss_nil)))))
      (pss_one (ps_ret (pe_op op_add (pe_op op_add (pv 1) pe_int) (pe_callB call_len_seq (by rfl) bi.len PySem.boot_len (pa_cons (pe_dget (hu_of hr) (pv 5) (pv 2) (fun _ _ => rfl)) pa_nil)))))))))))))), ?_⟩
  have hul := hal.len
  obtain ⟨p, t, r, ed⟩ := hE.ne
  obtain ⟨e0, er, hrl, _⟩ := drop_cons ed
  obtain ⟨m', rfl⟩ : ∃ m', m = m' + 1 := ⟨m - 1, by rw [ed] at hm; simp at hm; omega⟩
  have hm' : r.length ≤ m' := by rw [ed, List.length_cons] at hm; omega
  rw [ed] at hE q
  -- the token at a place
  have tok : ∀ {H' : Hp} {j : Nat} {x : FTok}, Same H H' → T[j]? = some x → ∃ v, us[j]? = some (.ref v) ∧ H' a = some (.lst us) ∧ SqT K H' v [.int (x.1 : Nat), .str x.2] := fun {H'} {j} {x} k e => by
    obtain ⟨v, h1, p, rfl, h2⟩ := hal.at e
    exact ⟨p, h1, k _ _ hA, (tp_same k).sq h2⟩
  obtain ⟨v0, u0, _, s0⟩ := tok (Same.refl H) e0
  have same := Same.refl H
  refine ⟨_, rfl, _, rfl, _, _, _, _, rfl, rfl, SqL.of hA, at_of (j := i) rfl u0, _, _, _, _, rfl, rfl, s0, rfl, ?_⟩
  dsimp only
  -- a call of its own
  have own : ∀ {H' : Hp} {j : Nat} {Q' : VK} {k : Int}, Same H H' → k = (j : Nat) → En (T.drop j) → (T.drop j).length ≤ m' → (∀ H2, Same H' H2 → BehR T (fun k => Q' (.int k) H2) (rst (pf m' (T.drop j)))) → spBeh K n [.ref a, .int k] H' Q' E0 := fun {H'} {j} {Q'} {k} S ek hEn hl hq => by
    refine ⟨a, us, T, j, m', by rw [ek], S _ _ hA, hal.imp (TkW.tp (tp_same S)), hEn, hT, hTS, ?_, by omega, hl, hq⟩
    obtain ⟨_, _, _, e⟩ := hEn.ne
    exact (drop_cons e).2.2.2
  by_cases hn : t = "not"
  · refine ⟨_, rfl, rfl, eq_yes hn ?_⟩
    have hr' : En r := hE.tail (by rw [hn]; decide +kernel)
    rw [pf_not hn] at q
    refine ⟨_, rfl, _, rfl, _, _, rfl, rfl, own (j := i + 1) same (by omega) (by rw [er]; exact hr') (by rw [er]; exact hm') (fun H2 k2 => ?_)⟩
    rw [er]
    have := q H2 k2
    cases hp : pf m' r with
    | error e => rw [hp] at this; exact this
    | ok z => rw [hp] at this; exact this
  refine ⟨_, rfl, rfl, eq_no hn ?_⟩
  have n1 : t ∉ qus → t ≠ "some" ∧ t ≠ "all" := fun h => ⟨fun e => h (by rw [e]; decide +kernel), fun e => h (by rw [e]; decide +kernel)⟩
  by_cases hq : t ∈ qus
  · -- a quantifier
    have hne := mem_len (L := qus) (k := 3) (by decide +kernel) hq
    have hr' : En r := hE.tail hne.1
    obtain ⟨p1, x, r1, er1⟩ := hr'.ne
    have ed1 : T.drop (i + 1) = (p1, x) :: r1 := by rw [er, er1]
    obtain ⟨e1, ed2, hl2, hi1⟩ := drop_cons ed1
    rw [pf_qu hq, er1] at q
    obtain ⟨v1, u1, _, s1⟩ := tok same e1
    rcases mem_qus hq with hs | hs
    refine ⟨_, rfl, rfl, eq_yes hs ?_⟩
    rotate_left
    refine ⟨_, rfl, rfl, eq_no (by rw [hs]; decide +kernel) ⟨_, rfl, rfl, eq_yes hs ?_⟩⟩
    all_goals
      refine ⟨_, rfl, _, rfl, _, _, rfl, rfl, _, _, _, _, rfl, rfl, SqL.of hA, at_of (j := i + 1) (by omega) u1, _, _, _, _, rfl, rfl, s1, rfl, (by show 6 ≤ sizeLine; decide), fun pl hpl => ⟨pl, _, rfl, .inl (SqL.of upd_same), rfl, rfl, ?_⟩⟩
      by_cases hx : x ∈ vrs
      · refine in_yes vrs hx ?_
        have hx1 := mem_len (L := vrs) (k := 1) (by decide +kernel) hx
        have hr1 : En r1 := by rw [er1] at hr'; exact hr'.tail hx1.1
        have hm1 : r1.length ≤ m' := by rw [er1, List.length_cons] at hm'; omega
        rw [show tk1 vrs ((p1, x) :: r1) = .ok (x, r1) from if_pos hx] at q
        refine ⟨_, rfl, _, rfl, _, _, rfl, rfl, own (j := i + 2) (same_new hpl) (by omega) (by rw [ed2]; exact hr1) (by rw [ed2]; exact hm1) (fun H2 k2 => ?_)⟩
        rw [ed2]
        have := q H2 ((same_new hpl).trans k2)
        dsimp only at this
        cases hp : pf m' r1 with
        | error e => rw [hp] at this; exact this
        | ok z => rw [hp] at this; exact this
      · refine in_no vrs hx ⟨_, rfl, _, rfl, _, _, rfl, rfl, ?_⟩
        rw [show tk1 vrs ((p1, x) :: r1) = .error ((p1, x) :: r1) from if_neg hx] at q
        have := q _ (same_new (o := .lst (vrs.map V.str)) hpl)
        dsimp only [rst, BehR] at this
        rw [List.length_cons, show (-1 : Int) - ((T.length - (r1.length + 1) : Nat) : Int) = -2 - (i : Nat) by omega] at this
        exact this
  refine ⟨_, rfl, rfl, eq_no (n1 hq).1 ⟨_, rfl, rfl, eq_no (n1 hq).2 ?_⟩⟩
  by_cases hp : t = "("
  · refine ⟨_, rfl, rfl, eq_yes hp ?_⟩
    have hr' : En r := hE.tail (by rw [hp]; decide +kernel)
    rw [pf_par hp] at q
    refine ⟨_, rfl, _, rfl, _, _, rfl, rfl, ?_⟩
    dsimp only [tNil, List.cons_append, List.nil_append]
    refine own (j := i + 1) same (by omega) (by rw [er]; exact hr') (by rw [er]; exact hm') (fun H2 k2 => ?_)
    rw [er]
    rcases pf_spec m' r hr' hm' with ⟨f, r1, e1, o1, l1⟩ | ⟨e, e1, fl⟩
    rotate_left
    · rw [e1] at q ⊢
      refine ⟨_, rfl, _, _, rfl, rfl, _, rfl, ite2 (fun _ => ?_) (fun h => absurd (decide_eq_true (by omega)) h)⟩
      exact ⟨_, rfl, _, _, rfl, rfl, _, rfl, ite2 (fun _ => ⟨_, rfl, q H2 k2⟩) (fun h => absurd (decide_eq_true (by omega)) h)⟩
    rw [e1] at q ⊢
    dsimp only at q
    have ej := suf_drop (i := i + 1) (by rw [er]; exact l1.1)
    dsimp only [rst, BehR]
    have hrl1 := l1.2.2.1
    generalize hj : T.length - r1.length = j at ej
    obtain ⟨p2, k, r2, er2⟩ := l1.2.1.ne
    subst er2
    obtain ⟨e2, ed3, hl3, hj1⟩ := drop_cons ej
    obtain ⟨v2, u2, hA2, s2⟩ := tok k2 e2
    refine ⟨_, rfl, _, _, rfl, rfl, _, rfl, ite2 (fun h => absurd (of_decide_eq_true h) (by omega)) (fun _ => ?_)⟩
    refine ⟨_, rfl, _, rfl, _, _, _, _, rfl, rfl, SqL.of hA2, at_of (j := j) rfl u2, _, _, _, _, rfl, rfl, s2, rfl, (by show 2 ≤ sizeLine; decide), fun pl hpl => ⟨pl, _, rfl, .inl (SqL.of upd_same), rfl, rfl, ?_⟩⟩
    have k3 := k2.trans (same_new (o := .lst [.str "and", .str "or"]) hpl)
    by_cases hk : k ∈ anoT
    rotate_left
    · refine ni_yes (L := anoT) hk ?_
      refine ⟨_, rfl, _, _, rfl, rfl, _, rfl, ite2 (fun h => absurd (of_decide_eq_true h) (by omega)) (fun _ => ⟨_, rfl, _, rfl, _, _, rfl, rfl, ?_⟩)⟩
      rw [show tk1 anoT ((p2, k) :: r2) = .error ((p2, k) :: r2) from if_neg hk] at q
      have := q _ k3
      dsimp only [rst, BehR] at this
      rw [hj] at this
      exact this
    refine ni_no (L := anoT) hk ?_
    rw [show tk1 anoT ((p2, k) :: r2) = .ok (k, r2) from if_pos hk] at q
    dsimp only at q
    have hr2 : En r2 := l1.2.1.tail (mem_len (L := anoT) (k := 1) (by decide +kernel) hk).1
    have hm2 : r2.length ≤ m' := by rw [List.length_cons] at hrl1; omega
    refine ⟨_, rfl, _, rfl, _, _, rfl, rfl, ?_⟩
    dsimp only [tNil, List.cons_append, List.nil_append]
    refine own (j := j + 1) k3 (by omega) (by rw [ed3]; exact hr2) (by rw [ed3]; exact hm2) (fun H4 k4 => ?_)
    have k5 := k3.trans k4
    rw [ed3]
    rcases pf_spec m' r2 hr2 hm2 with ⟨g, r3, e3, o3, l3⟩ | ⟨e, e3, fl⟩
    rotate_left
    · rw [e3] at q ⊢
      exact ⟨_, rfl, _, _, rfl, rfl, _, rfl, ite2 (fun _ => ⟨_, rfl, q H4 k5⟩) (fun h => absurd (decide_eq_true (by omega)) h)⟩
    rw [e3] at q ⊢
    dsimp only at q
    have ej3 := suf_drop (i := j + 1) (by rw [ed3]; exact l3.1)
    dsimp only [rst, BehR]
    have hrl3 := l3.2.2.1
    generalize hj3 : T.length - r3.length = j3 at ej3
    obtain ⟨p4, x4, r4, er4⟩ := l3.2.1.ne
    subst er4
    obtain ⟨e4, ed5, hl5, hj5⟩ := drop_cons ej3
    obtain ⟨v4, u4, hA4, s4⟩ := tok k5 e4
    refine ⟨_, rfl, _, _, rfl, rfl, _, rfl, ite2 (fun h => absurd (of_decide_eq_true h) (by omega)) (fun _ => ?_)⟩
    refine ⟨_, rfl, _, rfl, _, _, _, _, rfl, rfl, SqL.of hA4, at_of (j := j3) rfl u4, _, _, _, _, rfl, rfl, s4, rfl, rfl, ?_⟩
    by_cases hx : x4 = ")"
    · refine eq_yes hx ⟨_, rfl, _, _, rfl, rfl, ?_⟩
      rw [show tk1 [(")" : Str)] ((p4, x4) :: r4) = .ok (x4, r4) from if_pos (List.mem_singleton.mpr hx)] at q
      have := q _ k5
      dsimp only [rst, BehR] at this
      rw [show ((T.length - r4.length : Nat) : Int) = (j3 : Nat) + 1 by rw [List.length_cons] at hj3; omega] at this
      exact this
    · refine eq_no hx ⟨_, rfl, _, rfl, _, _, rfl, rfl, ?_⟩
      rw [show tk1 [(")" : Str)] ((p4, x4) :: r4) = .error ((p4, x4) :: r4) from if_neg (fun h => hx (List.mem_singleton.mp h))] at q
      have := q _ k5
      dsimp only [rst, BehR] at this
      rw [hj3] at this
      exact this
  refine ⟨_, rfl, rfl, eq_no hp ?_⟩
  refine fun pD hD => ⟨(by show 1 ≤ sizeLine; decide), fun q1 h1 => ⟨(by show 1 ≤ sizeLine; decide), fun q2 h2 => ⟨(by show 2 ≤ sizeLine; decide), fun pr hpr => ?_⟩⟩⟩
  have sc := (same_new (o := .lst [.str "name"]) h1).trans ((same_new (o := .lst [.str "}"]) h2).trans (same_new (o := .lst [.ref q1, .ref q2]) hpr))
  have hDd := sc _ _ (upd_same (H := H) (a := pD) (o := .dK []))
  have ra : RowAt (upd (upd (upd (upd H pD (.dK [])) q1 (.lst [.str "name"])) q2 (.lst [.str "}"])) pr (.lst [.ref q1, .ref q2])) (.ref pr) rowsN := ⟨pr, [q1, q2], rfl, upd_same, rfl, rows2 (L1 := ["name"]) (L2 := ["}"]) (((same_new h2).trans (same_new (o := .lst [.ref q1, .ref q2]) hpr)) _ _ upd_same) ((same_new (o := .lst [.ref q1, .ref q2]) hpr) _ _ upd_same)⟩
  have sH : Same H _ := (same_new (o := .dK []) hD).trans sc
  refine ⟨hDd, [(.inr "{", .ref pr)], rfl, (by show 1 ≤ 15; decide), ?_⟩
  generalize upd (upd (upd (upd H pD (.dK [])) q1 (.lst [.str "name"])) q2 (.lst [.str "}"])) pr (.lst [.ref q1, .ref q2]) = H1 at hDd ra sH
  have sDp : ∀ {H' : Hp} {o : HO}, Same H H' → Same H (upd H' pD o) := fun s b o hb => by
    rw [upd_ne (ne_of_none hb hD)]
    exact s b o hb
  have d0 : DRow (upd H1 pD (.dK (mergeK [] [((.inr "{" : Key), V.ref pr)]))) (mergeK [] [((.inr "{" : Key), V.ref pr)]) (fA 0) := DRow.put (kvs := []) (f := fun _ => none) (fun k => ⟨fun _ => rfl, fun rs h => by cases h⟩) (lst_keep hDd) (ra.keep (lst_keep hDd)) (fun x => by unfold fA; rw [if_neg (by simp)])
  have hD0 : (upd H1 pD (.dK (mergeK [] [((.inr "{" : Key), V.ref pr)]))) pD = some (.dK (mergeK [] [((.inr "{" : Key), V.ref pr)])) := upd_same
  have hl0 : (mergeK [] [((.inr "{" : Key), V.ref pr)]).length ≤ 1 + 0 := Nat.le_refl 1
  have sH0 := sDp (o := .dK (mergeK [] [((.inr "{" : Key), V.ref pr)])) sH
  generalize upd H1 pD (.dK (mergeK [] [((.inr "{" : Key), V.ref pr)])) = H2 at d0 hD0 sH0
  generalize mergeK [] [((.inr "{" : Key), V.ref pr)] = kvs0 at d0 hD0 hl0
  clear ra hDd sH
  -- letters
  refine ⟨(by show 3 ≤ sizeLine; decide), fun pl hpl => ⟨pl, rfl, ⟨abc.map V.str, SqL.of upd_same⟩, for_list (xs := abc.map V.str) (fun j σ' H' => ∃ y6 kvs, σ' = [some (.ref a), some (.int (i : Nat)), some (.str t), none, none, some (.ref pD), y6, none, none, none, none, none, none] ∧ H' pD = some (.dK kvs) ∧ kvs.length ≤ 1 + j ∧ DRow H' kvs (fA j) ∧ Same H H' ∧ H' pl = some (.lst (abc.map V.str))) ?_ ?_ ?_ ?_⟩⟩
  · exact ⟨none, kvs0, rfl, (same_new hpl) _ _ hD0, hl0, fun k => ⟨(d0 k).1, fun rs h => by
      obtain ⟨v, e1, e2⟩ := (d0 k).2 rs h
      exact ⟨v, e1, e2.keep fun b xs hb => (same_new hpl) _ _ hb⟩⟩, sH0.trans (same_new hpl), upd_same⟩
  · rintro j σ' H' _ ⟨_, _, rfl, _, _, _, _, h⟩
    exact SqL.of h
  · rintro j x σ' H' hx ⟨y6, kvs, rfl, hk, hkl, hd, hs, hpl'⟩
    rw [List.getElem?_map] at hx
    obtain ⟨c, hc, rfl⟩ := Option.map_eq_some_iff.mp hx
    have hj3 : j < 3 := (List.getElem?_eq_some_iff.mp hc).1
    refine ⟨(by show 1 ≤ sizeLine; decide), fun q1 h1 => ⟨(by show 3 ≤ sizeLine; decide), fun q2 h2 => ⟨(by show 1 ≤ sizeLine; decide), fun q3 h3 => ⟨(by show 3 ≤ sizeLine; decide), fun pr hpr => ?_⟩⟩⟩⟩
    have s4 := same_new (o := .lst [.ref q1, .ref q2, .ref q3]) hpr
    have s3 := (same_new (o := .lst [.str ")"]) h3).trans s4
    have s2 := (same_new (o := .lst [.str "x", .str "y", .str "z"]) h2).trans s3
    have s1 := (same_new (o := .lst [.str "("]) h1).trans s2
    have ra : RowAt (upd (upd (upd (upd H' q1 (.lst [.str "("])) q2 (.lst [.str "x", .str "y", .str "z"])) q3 (.lst [.str ")"])) pr (.lst [.ref q1, .ref q2, .ref q3])) (.ref pr) rowsL := ⟨pr, [q1, q2, q3], rfl, upd_same, rfl, rows3 (L1 := ["("]) (L2 := xyz) (L3 := [")"]) (s2 _ _ upd_same) (s3 _ _ upd_same) (s4 _ _ upd_same)⟩
    have hk4 := s1 _ _ hk
    have hp4 := s1 _ _ hpl'
    have hd4 := hd.keep s1
    have hs4 := hs.trans s1
    generalize upd (upd (upd (upd H' q1 (.lst [.str "("])) q2 (.lst [.str "x", .str "y", .str "z"])) q3 (.lst [.str ")"])) pr (.lst [.ref q1, .ref q2, .ref q3]) = H4 at ra hk4 hp4 hd4 hs4
    refine ⟨_, rfl, _, rfl, pD, _, rfl, DPut.k (k := .inr c) hk4 (Nat.lt_of_le_of_lt (show kvs.length ≤ 1000 by omega) (by decide)), ?_⟩
    refine ⟨_, _, rfl, upd_same, ?_, hd4.put (lst_keep hk4) (ra.keep (lst_keep hk4)) (fA_step hc), sDp hs4, lst_keep hk4 _ _ hp4⟩
    have := putK_len kvs (.inr c) (.ref pr)
    omega
  rintro σ' H3 ⟨y6, kvs1, rfl, hD1, hl1, d1, sH1, _⟩
  have d1 : DRow H3 kvs1 (fA 3) := d1
  have hl1 : kvs1.length ≤ 4 := hl1
  clear d0 hD0 hl0 sH0
  -- places
  obtain ⟨pm, um, ejm⟩ : ∃ pm um, T[min (i + 1) (T.length - 1)]? = some (pm, um) := ⟨_, _, List.getElem?_eq_getElem (by omega)⟩
  refine ⟨(by show 3 ≤ sizeLine; decide), fun pl hpl => ⟨pl, rfl, ⟨xyz.map V.str, SqL.of upd_same⟩, for_list (xs := xyz.map V.str) (fun j σ' H' => ∃ y6 y7 y8 kvs, σ' = [some (.ref a), some (.int (i : Nat)), some (.str t), none, none, some (.ref pD), y6, y7, y8, none, none, none, none] ∧ H' pD = some (.dK kvs) ∧ kvs.length ≤ 4 + j ∧ DRow H' kvs (fB (if um = "in" then XYZ else xyz) j) ∧ Same H H' ∧ H' pl = some (.lst (xyz.map V.str))) ?_ ?_ ?_ ?_⟩⟩
  · refine ⟨y6, none, none, kvs1, rfl, (same_new hpl) _ _ hD1, hl1, fun k => ?_, sH1.trans (same_new hpl), upd_same⟩
    rw [fB0]
    exact (d1.keep (same_new hpl)) k
  · rintro j σ' H' _ ⟨_, _, _, _, rfl, _, _, _, _, h⟩
    exact SqL.of h
  · rintro j x σ' H' hx ⟨y6, y7, y8, kvs, rfl, hk, hkl, hd, hs, hpl'⟩
    rw [List.getElem?_map] at hx
    obtain ⟨c, hc, rfl⟩ := Option.map_eq_some_iff.mp hx
    have hj3 : j < 3 := (List.getElem?_eq_some_iff.mp hc).1
    obtain ⟨vm, hum, hAm, sm⟩ := tok hs ejm
    refine ⟨fun σ2 H2 => ∃ pla, σ2 = [some (.ref a), some (.int (i : Nat)), some (.str t), none, none, some (.ref pD), y6, some (.str c), some (.ref pla), none, none, none, none] ∧ H2 pla = some (.lst ((if um = "in" then XYZ else xyz).map V.str)) ∧ Same H' H2, ?_, ?_⟩
    · refine ⟨_, rfl, _, rfl, _, _, rfl, rfl, _, rfl, a, us, rfl, .inl (SqL.of hAm), _, _, rfl, rfl, _, _, rfl, _, _, _, _, rfl, rfl, SqL.of hAm, at_of (j := min (i + 1) (T.length - 1)) (by split <;> omega) hum, _, _, _, _, rfl, rfl, sm, rfl, rfl, ?_⟩
      by_cases hin : um = "in"
      · rw [if_pos hin]
        exact eq_yes hin ⟨(by show 3 ≤ sizeLine; decide), fun pla hpla => ⟨pla, rfl, upd_same, same_new hpla⟩⟩
      · rw [if_neg hin]
        exact eq_no hin ⟨(by show 3 ≤ sizeLine; decide), fun pla hpla => ⟨pla, rfl, upd_same, same_new hpla⟩⟩
    rintro σ2 H2 ⟨pla, rfl, hpla, k2⟩
    refine ⟨(by show 4 ≤ sizeLine; decide), fun q1 h1 => ⟨_, rfl, (by show 2 ≤ sizeLine; decide), fun pr hpr => ?_⟩⟩
    have s4 := same_new (o := .lst [.ref q1, .ref pla]) hpr
    have s3 := (same_new (o := .lst [.str "<", .str "=", .str "next", .str "in"]) h1).trans s4
    have s1 := k2.trans s3
    have ra : RowAt (upd (upd H2 q1 (.lst [.str "<", .str "=", .str "next", .str "in"])) pr (.lst [.ref q1, .ref pla])) (.ref pr) (rowsR (if um = "in" then XYZ else xyz)) := ⟨pr, [q1, pla], rfl, upd_same, rfl, rows2 (L1 := ["<", "=", "next", "in"]) (s4 _ _ upd_same) (s3 _ _ hpla)⟩
    have hk4 := s1 _ _ hk
    have hp4 := s1 _ _ hpl'
    have hd4 := hd.keep s1
    have hs4 := hs.trans s1
    generalize upd (upd H2 q1 (.lst [.str "<", .str "=", .str "next", .str "in"])) pr (.lst [.ref q1, .ref pla]) = H4 at ra hk4 hp4 hd4 hs4
    refine ⟨_, rfl, _, rfl, pD, _, rfl, DPut.k (k := .inr c) hk4 (Nat.lt_of_le_of_lt (show kvs.length ≤ 1000 by omega) (by decide)), ?_⟩
    refine ⟨_, _, _, _, rfl, upd_same, ?_, hd4.put (lst_keep hk4) (ra.keep (lst_keep hk4)) (fB_step hc), sDp hs4, lst_keep hk4 _ _ hp4⟩
    have := putK_len kvs (.inr c) (.ref pr)
    omega
  rintro σ' H4 ⟨y6, y7, y8, kvs, rfl, hkv, _, hd, sH4, _⟩
  have hd : DRow H4 kvs (fB (if um = "in" then XYZ else xyz) 3) := hd
  clear d1 hD1 hl1 sH1
  generalize hlast : (if um = "in" then XYZ else xyz) = last at hd
  -- no row
  cases hrow : fB last 3 t with
  | none =>
    have hv := (hd t).1 hrow
    have hg := DGet.k (k := .inr t) hkv
    rw [hv] at hg
    refine ⟨_, rfl, _, rfl, pD, _, rfl, hg, _, rfl, ite2 (fun _ => ?_) (fun h => absurd rfl h)⟩
    have hno : t ∉ abc ∧ t ∉ xyz ∧ t ≠ "{" := by
      unfold fB at hrow
      split at hrow
      · cases hrow
      · rename_i hx
        unfold fA at hrow
        split at hrow
        · cases hrow
        · rename_i ha
          split at hrow
          · cases hrow
          · rename_i hb
            exact ⟨ha, hx, hb⟩
    rw [pf_no hno.1 hno.2.1 hno.2.2 hq hn hp] at q
    refine ⟨_, rfl, _, rfl, _, _, rfl, rfl, ?_⟩
    have := q _ sH4
    dsimp only [rst, BehR] at this
    rw [List.length_cons, show (-1 : Int) - ((T.length - (r.length + 1) : Nat) : Int) = -1 - (i : Nat) by omega] at this
    exact this
  | some rs =>
    obtain ⟨hrs, hpf⟩ := row_pf hE (by rw [← hlast]; split <;> simp) hrow (by
      intro q1 u1 r1 e1
      rw [← hlast]
      have h1 : T[i + 1]? = some (q1, u1) := (drop_cons (show T.drop (i + 1) = (q1, u1) :: r1 by rw [er, e1])).1
      have h2 := (List.getElem?_eq_some_iff.mp h1).1
      rw [show min (i + 1) (T.length - 1) = i + 1 by omega, h1] at ejm
      cases ejm
      rfl) (m' := m')
    rw [hpf] at q
    obtain ⟨v, hv, pr, qs, rfl, hpr, hql, hqs⟩ := (hd t).2 rs hrow
    have hg := DGet.k (k := .inr t) hkv
    rw [hv] at hg
    have hr' : En r := hE.tail (fB_ne hrow)
    refine ⟨_, rfl, _, rfl, pD, _, rfl, hg, _, rfl, ite2 (fun h => absurd h (by simp)) (fun _ => ?_)⟩
    have hn3 := rows_len hrs
    refine ⟨_, rfl, _, rfl, pD, _, rfl, hg, pr, _, rfl, .inl (SqL.of hpr), _, rfl, by rw [List.length_map]; omega, by rw [List.length_map]; omega, for_range (n := (qs.map V.ref).length) (fun j σ' H' => ∃ y9 y10 y11 y12, σ' = [some (.ref a), some (.int (i : Nat)), some (.str t), none, none, some (.ref pD), y6, y7, y8, y9, y10, y11, y12] ∧ Same H4 H' ∧ rowsF (rs.drop j) (T.drop (i + 1 + j)) = rowsF rs r ∧ En (T.drop (i + 1 + j))) ?_ ?_ ?_⟩
    · exact ⟨none, none, none, none, rfl, Same.refl H4, by rw [Nat.add_zero, er]; rfl, by rw [Nat.add_zero, er]; exact hr'⟩
    · rintro j σ' H' hj ⟨y9, y10, y11, y12, rfl, k4, hro, hEn⟩
      rw [List.length_map, hql] at hj
      obtain ⟨p1, u1, r1, ej⟩ := hEn.ne
      obtain ⟨e1, ed2, hl2, hj1⟩ := drop_cons ej
      obtain ⟨q1, eq1⟩ : ∃ q1, qs[j]? = some q1 := ⟨_, List.getElem?_eq_getElem (by omega)⟩
      obtain ⟨L, eL⟩ : ∃ L, rs[j]? = some L := ⟨_, List.getElem?_eq_getElem hj⟩
      have hLf := hqs j q1 L eq1 eL
      obtain ⟨hL1, hL2, hL3⟩ := rows_facts hrs (List.mem_of_getElem? eL)
      have sH' := sH4.trans k4
      obtain ⟨v1, u1', hA1, s1⟩ := tok sH' e1
      have hTu := hTS _ (List.mem_of_getElem? e1)
      have hdr : rs.drop j = L :: rs.drop (j + 1) := by
        rw [List.drop_eq_getElem_cons hj]
        congr 1
        rw [List.getElem?_eq_getElem hj] at eL
        exact Option.some.inj eL
      rw [ej] at hEn hro
      rw [hdr] at hro
      conv at hro => lhs; unfold rowsF
      have hg' : DGet H' pD (.str t) (some (.ref pr)) := by
        have := DGet.k (k := .inr t) (k4 _ _ hkv)
        rw [hv] at this
        exact this
      have hmq : (qs.map V.ref)[j]? = some (.ref q1) := by rw [List.getElem?_map, eq1]; rfl
      refine ⟨_, rfl, _, rfl, _, _, rfl, rfl, _, rfl, _, _, rfl, rfl, _, _, _, _, rfl, rfl, SqL.of hA1, at_of (j := i + 1 + j) (by omega) u1', _, _, _, _, rfl, rfl, s1, rfl, _, rfl, _, rfl, pD, _, rfl, hg', _, rfl, _, _, _, _, rfl, rfl, SqL.of (k4 _ _ hpr), at_of (j := j) (by omega) hmq, _, _, rfl, ?_⟩
      -- named
      refine ⟨fun σ2 H2 => ∃ b, σ2 = [some (.ref a), some (.int (i : Nat)), some (.str t), none, none, some (.ref pD), y6, y7, y8, some (.int (0 + (j : Nat))), some (.str u1), some (.ref q1), some (.bl b)] ∧ Same H' H2 ∧ (b = true ↔ (L = nmL ∧ nmB u1 = true)), ?_, ?_⟩
      · refine ⟨_, rfl, (by show 1 ≤ sizeLine; decide), fun pn hpn => ⟨lstD L, lstD nmL, dp_lst ((same_new hpn) _ _ (k4 _ _ hLf)), dp_lst upd_same, hL1, by decide +kernel, ?_⟩⟩
        rw [hL2]
        have no : ∀ {b : Bool} {H2 : Hp}, Same H' H2 → b = false → ¬ (L = nmL ∧ nmB u1 = true) → ∃ b', V.bl b = V.bl b' ∧ Same H' H2 ∧ (b' = true ↔ (L = nmL ∧ nmB u1 = true)) := fun {b} {H2} k e n => ⟨b, rfl, k, by rw [e]; exact ⟨fun h => (nomatch h), fun h => absurd h n⟩⟩
        by_cases hn : L = nmL
        rotate_left
        · exact ⟨false, by rw [decide_eq_false hn], (if_neg (by decide)).mpr ⟨false, rfl, same_new hpn, ⟨fun h => (nomatch h), fun h => absurd h.1 hn⟩⟩⟩
        refine ⟨true, by rw [decide_eq_true hn], (if_pos rfl).mpr ?_⟩
        have hlu : u1.length ≤ 1000 := hTu.1
        have hnm := nm_tok (t := u1) hTu.2
        refine ⟨_, rfl, u1, rfl, fit (by omega), _, _, rfl, rfl, _, rfl, ite2 (fun h => ?_) (fun h => ?_)⟩
        rotate_left
        · refine ⟨_, rfl, (if_neg (by decide)).mpr ⟨false, rfl, same_new hpn, ⟨fun h => (nomatch h), fun h2 => ?_⟩⟩⟩
          have := (hnm.mp h2.2).1
          exact absurd (decide_eq_true (show (1 : Int) ≤ (u1.length : Nat) by omega)) h
        have h1 : (1 : Int) ≤ (u1.length : Nat) := of_decide_eq_true h
        refine ⟨_, _, rfl, rfl, _, rfl, ite2 (fun h => ?_) (fun h => ?_)⟩
        rotate_left
        · refine ⟨false, rfl, same_new hpn, ⟨fun h => (nomatch h), fun h2 => ?_⟩⟩
          have := (hnm.mp h2.2).2.1
          exact absurd (decide_eq_true (show (u1.length : Nat) ≤ (8 : Int) by omega)) h
        have h8 : (u1.length : Nat) ≤ (8 : Int) := of_decide_eq_true h
        obtain ⟨c0, hc0⟩ : ∃ c0, (ls u1)[0]? = some c0 := ⟨_, List.getElem?_eq_getElem (by rw [← len_ls]; omega)⟩
        refine ⟨_, rfl, _, _, c0, rfl, rfl, fit (by omega), at_ofN (z := (0 : Int)) (j := 0) rfl hc0, c0, _, rfl, rfl, _, rfl, same_new hpn, ?_⟩
        rw [decide_eq_true_iff, hnm]
        have hmem : c0 ∈ (Str.ofString "abcdefghijklmnopqrstuvwxyz").cps.toList ↔ low c0 := by
          have : (Str.ofString "abcdefghijklmnopqrstuvwxyz").cps.toList = (List.range 26).map fun x => x + 97 := ls_low
          rw [this, List.mem_map]
          unfold low
          constructor
          · rintro ⟨x, hx, rfl⟩
            have := List.mem_range.mp hx
            omega
          · intro h
            exact ⟨c0 - 97, List.mem_range.mpr (by omega), by omega⟩
        rw [hmem]
        constructor
        · exact fun h => ⟨hn, by omega, by omega, c0, hc0, h⟩
        · rintro ⟨_, _, _, c, e, h⟩
          rw [hc0] at e
          cases e
          exact h
      rintro σ2 H2 ⟨b, rfl, k5, hb⟩
      have k6 := k4.trans k5
      have bad : (if L = nmL then tkN ((p1, u1) :: r1) else tk1 L ((p1, u1) :: r1)) = .error ((p1, u1) :: r1) → ∀ H3, Same H4 H3 → Q (.int (-2 - (i : Nat) - (0 + (j : Nat)))) H3 := fun e H3 s => by
        have := q H3 (sH4.trans s)
        rw [← hro, e] at this
        dsimp only [BehR] at this
        rw [List.length_cons, show (-1 : Int) - ((T.length - (r1.length + 1) : Nat) : Int) = -2 - (i : Nat) - (0 + (j : Nat)) by omega] at this
        exact this
      have good : ∀ {x : Str}, (if L = nmL then tkN ((p1, u1) :: r1) else tk1 L ((p1, u1) :: r1)) = .ok (x, r1) → u1 ≠ "" → rowsF (rs.drop (j + 1)) (T.drop (i + 1 + (j + 1))) = rowsF rs r ∧ En (T.drop (i + 1 + (j + 1))) := fun {x} e n => by
        rw [e] at hro
        rw [show i + 1 + (j + 1) = i + 1 + j + 1 by omega, ed2]
        exact ⟨hro, hEn.tail n⟩
      by_cases he : u1 = ""
      · refine ⟨_, rfl, rfl, eq_yes he ((if_pos rfl).mpr ⟨_, rfl, _, rfl, _, _, rfl, rfl, _, rfl, _, _, rfl, rfl, bad ?_ _ k6⟩)⟩
        by_cases hn : L = nmL
        · rw [if_pos hn]
          refine if_neg fun h => ?_
          have := nmB_ok.mp h
          rw [he] at this
          exact absurd this.1 (by decide)
        · rw [if_neg hn]
          exact if_neg fun h => hL3 hn _ h he
      refine ⟨_, rfl, rfl, eq_no he ⟨_, rfl, _, rfl, ?_⟩⟩
      cases b with
      | true =>
        obtain ⟨hn, hm⟩ := hb.mp rfl
        refine (if_neg (by decide)).mpr ((if_neg (by decide)).mpr ⟨_, _, _, _, rfl, k6, good (x := u1) ?_ he⟩)
        rw [if_pos hn]
        exact if_pos hm
      | false =>
        refine (if_pos rfl).mpr ⟨_, rfl, (by show 1 ≤ sizeLine; decide), fun pn hpn => ⟨lstD L, lstD nmL, dp_lst ((same_new hpn) _ _ (k6 _ _ hLf)), dp_lst upd_same, hL1, by decide +kernel, ?_⟩⟩
        rw [hL2]
        have k7 := k6.trans (same_new (o := .lst (nmL.map V.str)) hpn)
        by_cases hn : L = nmL
        · refine ⟨true, by rw [decide_eq_true hn], (if_pos rfl).mpr ((if_pos rfl).mpr ⟨_, rfl, _, rfl, _, _, rfl, rfl, _, rfl, _, _, rfl, rfl, bad ?_ _ k7⟩)⟩
          rw [if_pos hn]
          exact if_neg fun h => absurd (hb.mpr ⟨hn, h⟩) (by decide)
        · refine ⟨false, by rw [decide_eq_false hn], (if_neg (by decide)).mpr ⟨_, rfl, _, rfl, q1, _, rfl, .inl (SqL.of (k7 _ _ hLf)), rfl, fl_strs L, ?_⟩⟩
          by_cases hu : u1 ∈ L
          · refine ni_no hu ⟨_, _, _, _, rfl, k7, good (x := u1) ?_ he⟩
            rw [if_neg hn]
            exact if_pos hu
          · refine ni_yes hu ⟨_, rfl, _, rfl, _, _, rfl, rfl, _, rfl, _, _, rfl, rfl, bad ?_ _ k7⟩
            rw [if_neg hn]
            exact if_neg hu
    · rintro σ' H' ⟨y9, y10, y11, y12, rfl, k4, hro, hEn⟩
      have hg' : DGet H' pD (.str t) (some (.ref pr)) := by
        have := DGet.k (k := .inr t) (k4 _ _ hkv)
        rw [hv] at this
        exact this
      refine ⟨_, rfl, _, _, rfl, rfl, _, rfl, _, rfl, pD, _, rfl, hg', pr, _, rfl, .inl (SqL.of (k4 _ _ hpr)), _, _, rfl, rfl, ?_⟩
      have := q _ (sH4.trans k4)
      rw [← hro, List.length_map, hql, List.drop_length] at this
      unfold rowsF at this
      dsimp only [BehR] at this
      rw [List.length_map, hql]
      obtain ⟨p9, u9, r9, e9⟩ := hEn.ne
      rw [List.length_map, hql] at e9
      have h9 := (drop_cons e9).2.2.2
      rw [List.length_drop] at this
      rw [show ((T.length - (T.length - (i + 1 + rs.length)) : Nat) : Int) = (i : Nat) + 1 + (rs.length : Nat) by omega] at this
      exact this
theorem ok_beh (D : Df K mg "_law_behind" s__law_behind ["_law_tokens_here", "_law_at"]) (bi : Bi mg) : ∀ n : Nat, Cal P w K mg base n "_law_behind" ["_law_tokens_here", "_law_at"] (spBeh K n)
  | 0 => D.no fun vs H Q E h => by
    obtain ⟨a, us, T, i, m, _, _, _, hE, _, _, _, h1, h2, _⟩ := h
    obtain ⟨_, _, _, e⟩ := hE.ne
    rw [e, List.length_cons] at h2
    omega
  | n + 1 => ok_beh1 D bi (ok_beh D bi n)

end
end SW

set_option Elab.async false
set_option linter.all false
set_option maxRecDepth 100000
set_option maxHeartbeats 4000000
namespace SW
open PySem PySem.Spec PyProof.Rows L2
section
variable {P : Program} {w : World} {K : PySem.W.Frag} {mg : Str → Option Value} {base : Heap}
/-! ### the law's verdict on a text -/
theorem TkP.tl {l : List Nat} {i : Nat} {ts : List FTok} (h : TkP l i ts) : ∀ x ∈ ts, x.2.length ≤ l.length := by
  induction h with
  | nil => intro x hx; rw [List.mem_singleton.mp hx]; exact Nat.zero_le _
  | sp e h ih => exact ih
  | @tok i c ts e n h ih =>
    intro x hx
    rcases List.mem_cons.mp hx with q | hx
    · rw [q]
      have h1 := tend_le e
      have h3 := tokAt_len e
      show (tokAt l i).length ≤ _
      omega
    · exact ih x hx
def FDueR (H : Hp) (Q : VK) : Except Nat Fm → Prop
  | .ok _ => ∀ H', Same H H' → Q .non H'
  | .error p => ∀ pt H', H' pt = some (.tup [.str "InvalidText", .int (p : Nat)]) → Same H H' → Q (.ref pt) H'
def spFDue : Sp := fun vs H Q _ => ∃ z, vs = [.str z] ∧ z.length ≤ 120 ∧ FDueR H Q (rdF (ls z))
theorem suf_hd {T r : List FTok} {p : Nat} {t : Str} {r' : List FTok} (h : r <:+ T) (e : r = (p, t) :: r') : T[T.length - r.length]? = some (p, t) ∧ T.length - r.length < T.length := by
  have := suf_drop (i := 0) (T := T) (r := r) h
  rw [e] at this
  obtain ⟨h1, _, _, h2⟩ := drop_cons this
  rw [← e] at h1 h2
  exact ⟨h1, h2⟩
theorem sc__law_formula_due : FnScope ["_law_text", "_law_tokens_here", "_law_end", "_law_fault"] ["_law_text"] (defScope s__law_formula_due) := ⟨rfl, rfl, rfl, by decide +kernel, rfl, by decide +kernel, by decide +kernel⟩
theorem ok_fdue (D : Df K mg "_law_formula_due" s__law_formula_due ["_law_text"]) (bi : Bi mg) (c_law_tokens : Cal P w K mg base 1 "_law_tokens" ["_law_text"] (spLTok K)) (c_law_behind : Cal P w K mg base 121 "_law_behind" ["_law_tokens_here", "_law_at"] (spBeh K 121)) :
    Cal P w K mg base 122 "_law_formula_due" ["_law_text"] spFDue := by
  refine D.ok sc__law_formula_due (fun vs H Q E h => ?_) (fun f cdv A outer s H vs Q E hr h => ?_)
  · obtain ⟨z, rfl, _⟩ := h
    rfl
  obtain ⟨z, rfl, hz, q⟩ := h
  have hl := len_ls z
  refine ⟨_, (pss_cons (ps_set (i := 1) sc__law_formula_due.nd rfl (.inl rfl) (pe_own c_law_tokens hr (by omega) (by rfl) (pa_cons (pv 0) pa_nil)))
      (pss_cons (ps_if (pt_val (pe_callB call_isi (by rfl) bi.isinstance (by decide +kernel) (pa_cons (pv 1) (pa_cons (pe_bltn (v := .ty "int") (u := .type "int") (by rfl) bi.int (by decide +kernel) rfl) pa_nil)))) (pss_one (ps_ret (pe_tup (pa_cons pe_str (pa_cons (pv 1) pa_nil))))) pss_nil)
      (pss_cons (ps_set (i := 2) sc__law_formula_due.nd rfl (.inl rfl) (pe_own c_law_behind hr (by omega) (by rfl) (pa_cons (pv 1) (pa_cons pe_int pa_nil))))
      (C8.pss_cut (ps_set (i := 3) sc__law_formula_due.nd rfl (.inl rfl) (pe_ifExp (pt_cmpR op_lt (pv 2) pe_int (nomark _)) (pe_op op_sub (pe_un un_neg pe_int) (pv 2)) (pv 2)))
      (pss_cons (ps_if (PW.pt (pw_or (pt_cmpR op_lt (pv 2) pe_int (nomark _)) (pw_or1 (pt_cmpR op_ne (pe_ix ix_tup (pe_ix ix_list (pv 1) (pv 2) (fun _ _ => rfl)) pe_int (fun _ _ => rfl)) pe_str (nomark _))))) (pss_one (ps_ret (pe_tup (pa_cons pe_str (pa_cons (pe_ix ix_tup (pe_ix ix_list (pv 1) (pv 3) (fun _ _ => rfl)) pe_int (fun _ _ => rfl)) pa_nil))))) pss_nil)
      (pss_one (ps_ret pe_non))))))), ?_⟩
  refine ⟨_, rfl, z, rfl, by omega, fun b hb H1 S1 => ?_, fun hb a us H1 hA _ hal S1 => ?_⟩
  · unfold rdF at q
    rw [hb] at q
    refine rd_isi (n := "int") (b := true) rfl (.int (b : Int)) rfl ⟨_, rfl, ite2 (fun _ => ?_) (fun h => absurd rfl h)⟩
    exact ⟨_, rfl, (by show 2 ≤ sizeLine; decide), fun pt hpt => q pt _ upd_same (S1.trans (same_new hpt))⟩
  have hT := toksOf_ok (ls z)
  have hlen := hT.len.2
  unfold rdF at q
  rw [hb] at q
  dsimp only at q
  generalize toksOf (ls z) = T at hT hlen hal q
  have hTS : TSs T := fun x hx => ⟨Nat.le_trans (hT.tl x hx) (by omega), hT.ts x hx⟩
  have tok : ∀ {H' : Hp} {j : Nat} {x : FTok}, Same H1 H' → T[j]? = some x → ∃ v, us[j]? = some (.ref v) ∧ H' a = some (.lst us) ∧ SqT K H' v [.int (x.1 : Nat), .str x.2] := fun {H'} {j} {x} k e => by
    obtain ⟨v, h1, p, rfl, h2⟩ := hal.at e
    exact ⟨p, h1, k _ _ hA, (tp_same k).sq h2⟩
  have hne : 0 < T.length := by
    obtain ⟨_, _, _, e⟩ := hT.en.ne
    rw [e]
    exact Nat.succ_pos _
  have hty : TyX K H1 (.ref a) (.type "list") := SqL.ty (SqL.of hA)
  have hTn : T.length ≤ 121 := by omega
  refine ⟨_, rfl, .ref a, .ty "int", _, _, false, rfl, .ty "int", hty, rfl, _, rfl, ite2 (fun h => absurd h (by decide)) (fun _ => ?_)⟩
  refine ⟨_, rfl, ⟨a, us, T, 0, T.length, rfl, hA, hal, hT.en, by omega, hTS, hne, hTn, Nat.le_refl _, fun H2 S2 => ?_⟩⟩
  show BehR T _ (rst (pf T.length T))
  have S12 := S1.trans S2
  rcases pf_spec T.length T hT.en (Nat.le_refl _) with ⟨f0, r, e1, o1, lt⟩ | ⟨e, e1, fl⟩
  rotate_left
  · rw [e1] at q ⊢
    dsimp only [rst, BehR]
    obtain ⟨p, t0, r', er⟩ := fl.2.ne
    obtain ⟨hk, hk2⟩ := suf_hd fl.1 er
    obtain ⟨v, u, hA2, s⟩ := tok S2 hk
    have ep : hd e = p := by rw [er]; rfl
    generalize hk0 : T.length - e.length = k at hk u
    dsimp only at q
    rw [ep] at q
    refine ⟨fun σ2 H3 => σ2 = [some (.str z), some (.ref a), some (.int (-1 - (k : Nat))), some (.int (k : Nat))] ∧ H3 = H2, ?_, ?_⟩
    · refine ⟨_, rfl, _, _, rfl, rfl, _, rfl, ite2 (fun _ => ?_) (fun h => absurd (decide_eq_true (by omega)) h)⟩
      refine ⟨_, rfl, _, rfl, _, _, rfl, rfl, ?_, rfl⟩
      show [some (V.str z), some (V.ref a), some (V.int (-1 - (k : Nat))), some (V.int ((-1 : Int) - (-1 - (k : Nat))))] = _
      rw [show (-1 : Int) - (-1 - (k : Nat)) = (k : Nat) by omega]
    rintro σ2 H3 ⟨rfl, rfl⟩
    refine ⟨_, rfl, _, _, rfl, rfl, _, rfl, ite2 (fun _ => (if_pos rfl).mpr ?_) (fun h => absurd (decide_eq_true (by omega)) h)⟩
    exact ⟨_, rfl, _, rfl, _, _, _, _, rfl, rfl, SqL.of hA2, at_of (j := k) rfl u, _, _, _, _, rfl, rfl, s, rfl, (by show 2 ≤ sizeLine; decide), fun pt hpt => q pt _ upd_same (S12.trans (same_new hpt))⟩
  rw [e1] at q ⊢
  dsimp only [rst, BehR]
  obtain ⟨p, t0, r', er⟩ := lt.2.1.ne
  obtain ⟨hk, hk2⟩ := suf_hd lt.1 er
  obtain ⟨v, u, hA2, s⟩ := tok S2 hk
  generalize hk0 : T.length - r.length = k at hk u
  refine ⟨fun σ2 H3 => σ2 = [some (.str z), some (.ref a), some (.int (k : Nat)), some (.int (k : Nat))] ∧ H3 = H2, ?_, ?_⟩
  · exact ⟨_, rfl, _, _, rfl, rfl, _, rfl, ite2 (fun h => absurd (of_decide_eq_true h) (by omega)) (fun _ => ⟨_, rfl, rfl, rfl⟩)⟩
  rintro σ2 H3 ⟨rfl, rfl⟩
  refine ⟨_, rfl, _, _, rfl, rfl, _, rfl, ite2 (fun h => absurd (of_decide_eq_true h) (by omega)) (fun _ => ?_)⟩
  refine ⟨_, rfl, _, rfl, _, _, _, _, rfl, rfl, SqL.of hA2, at_of (j := k) rfl u, _, _, _, _, rfl, rfl, s, rfl, rfl, ?_⟩
  rw [er] at q
  dsimp only at q
  by_cases h0 : t0 = ""
  · refine ne_no h0 ?_
    rw [show tk1 [("" : Str)] ((p, t0) :: r') = .ok (t0, r') from if_pos (List.mem_singleton.mpr h0)] at q
    exact q _ S12
  · refine ne_yes h0 ?_
    rw [show tk1 [("" : Str)] ((p, t0) :: r') = .error ((p, t0) :: r') from if_neg (fun h => h0 (List.mem_singleton.mp h))] at q
    exact ⟨_, rfl, _, rfl, _, _, _, _, rfl, rfl, SqL.of hA2, at_of (j := k) rfl u, _, _, _, _, rfl, rfl, s, rfl, (by show 2 ≤ sizeLine; decide), fun pt hpt => q pt _ upd_same (S12.trans (same_new hpt))⟩

end
end SW

set_option Elab.async false
set_option linter.all false
set_option maxRecDepth 100000
set_option maxHeartbeats 4000000
namespace SW
open PySem PySem.Spec PyProof.Rows L2
section
variable {P : Program} {w : World} {K : PySem.W.Frag} {mg : Str → Option Value} {base : Heap}
theorem pick3 {a b c : Str} {j : Nat} {x : V} (e : [V.str a, .str b, .str c][j]? = some x) : ∃ z, x = .str z ∧ z ∈ [a, b, c] := by
  match j, e with
  | 0, e => cases e; exact ⟨_, rfl, by simp⟩
  | 1, e => cases e; exact ⟨_, rfl, by simp⟩
  | 2, e => cases e; exact ⟨_, rfl, by simp⟩
theorem pick2 {a b : Str} {j : Nat} {x : V} (e : [V.str a, .str b][j]? = some x) : ∃ z, x = .str z ∧ (z = a ∨ z = b) := by
  match j, e with
  | 0, e => cases e; exact ⟨_, rfl, .inl rfl⟩
  | 1, e => cases e; exact ⟨_, rfl, .inr rfl⟩
theorem pick6 {a b c d e' f : Str} {j : Nat} {x : V} (e : [V.str a, .str b, .str c, .str d, .str e', .str f][j]? = some x) : ∃ z, x = .str z ∧ z ∈ [a, b, c, d, e', f] := by
  match j, e with
  | 0, e => cases e; exact ⟨_, rfl, by simp⟩
  | 1, e => cases e; exact ⟨_, rfl, by simp⟩
  | 2, e => cases e; exact ⟨_, rfl, by simp⟩
  | 3, e => cases e; exact ⟨_, rfl, by simp⟩
  | 4, e => cases e; exact ⟨_, rfl, by simp⟩
  | 5, e => cases e; exact ⟨_, rfl, by simp⟩
/-! ### _law_draws -/
def spDraws (K : PySem.W.Frag) : Sp := fun vs H Q _ => ∃ (a : Addr) (ns : List Int), vs = [.ref a] ∧ SqL K H a (ns.map V.int) ∧ ∀ r l H', Rng H' r l → Same H H' → Q (.ref r) H'
theorem sc__law_draws : FnScope ["_law_script", "_law_state", "_law_cell"] ["_law_script"] (defScope s__law_draws) := ⟨rfl, rfl, rfl, by decide +kernel, rfl, by decide +kernel, by decide +kernel⟩
theorem ok_draws (D : Df K mg "_law_draws" s__law_draws ["_law_script"]) (bi : Bi mg) : Cal P w K mg base 1 "_law_draws" ["_law_script"] (spDraws K) := by
  refine D.ok sc__law_draws (fun vs H Q E h => ?_) (fun f cdv A outer s H vs Q E hr h => ?_)
  · obtain ⟨a, ns, rfl, _⟩ := h
    rfl
  obtain ⟨a, ns, rfl, hS, q⟩ := h
  refine ⟨_, (pss_cons (ps_set (i := 1) sc__law_draws.nd rfl (.inl rfl) pe_int)
      (pss_cons (ps_for PassesOwn.never rfl (pi_list (pe_slice sl_list (pv 0) po_none (po_some pe_int))) (pg_name (i := 2) sc__law_draws.nd rfl (.inl rfl)) (pss_one (ps_set (i := 1) sc__law_draws.nd rfl (.inl rfl) (pe_op op_modN (pe_callTy call_int1 (by rfl) bi.int (by decide +kernel) (pa_cons (pe_op op_add (pe_op op_add (pe_op op_mul (pv 1) pe_int) (pe_op op_modN (pe_callTy call_int1 (by rfl) bi.int (by decide +kernel) (pa_cons (pv 2) pa_nil)) pe_int)) pe_int) pa_nil)) pe_int))))
      (pss_one (ps_ret (pe_lst (pa_cons (pe_callTy call_list_of (by rfl) bi.list (by decide +kernel) (pa_cons (pe_slice sl_list (pv 0) po_none (po_some pe_int)) pa_nil)) (pa_cons pe_int (pa_cons pe_int (pa_cons (pv 1) (pa_cons pe_int pa_nil)))))))))), ?_⟩
  obtain ⟨ms, hms⟩ := cutV_ints ns none (some 63)
  refine ⟨_, rfl, 63, rfl, a, _, rfl, hS, fun c nc => ?_⟩
  have k1 : Same H (upd H c (.lst (cutV (ns.map V.int) none (some 63)))) := same_new nc
  refine ⟨c, rfl, ⟨_, SqL.of upd_same⟩, for_list (xs := cutV (ns.map V.int) none (some 63)) (fun i σ' H' => ∃ st y2, σ' = [some (.ref a), some (.int st), y2] ∧ H' = upd H c (.lst (cutV (ns.map V.int) none (some 63)))) ?_ ?_ ?_ ?_⟩
  · exact ⟨_, none, rfl, rfl⟩
  · rintro i σ' H' _ ⟨st, y2, _, rfl⟩
    exact SqL.of upd_same
  · rintro i x σ' H' hx ⟨st, y2, rfl, rfl⟩
    rw [hms, List.getElem?_map] at hx
    obtain ⟨m, _, rfl⟩ := Option.map_eq_some_iff.mp hx
    refine ⟨_, rfl, _, _, rfl, rfl, .inr (by decide), _, rfl, .inl ⟨_, rfl, _, _, rfl, rfl, (show (2147483629 : Int) ≠ 0 by decide), _, _, rfl, rfl, _, _, rfl, rfl, .inl ⟨_, rfl, _, _, rfl, rfl, (show (2147483647 : Int) ≠ 0 by decide), ?_⟩⟩⟩
    exact ⟨_, _, rfl, rfl⟩
  · rintro σ' H' ⟨st, y2, rfl, rfl⟩
    refine ⟨_, rfl, 63, rfl, a, _, rfl, k1.seq hS, fun c2 nc2 => ?_⟩
    refine ⟨c2, _, rfl, .inl (SqL.of upd_same), fun l hl => ?_⟩
    refine ⟨_, rfl, (by show 5 ≤ sizeLine; decide), fun r hr' => ?_⟩
    have e1 := upd_same (H := upd (upd H c (.lst (cutV (ns.map V.int) none (some 63)))) c2 (.lst (cutV (ns.map V.int) none (some 63)))) (a := l) (o := .lst (cutV (ns.map V.int) none (some 63)))
    have lr := ne_of_none e1 hr'
    refine q r l _ ⟨ms, 0, 0, st, 0, upd_same, ?_, by decide, lr⟩ (k1.trans ((same_new nc2).trans ((same_new hl).trans (same_new hr'))))
    rw [upd_ne lr, e1, hms]
/-! ### _law_draw -/
def spDrawW : Sp := fun vs H Q _ => ∃ r l m, vs = [.ref r, .int m] ∧ 0 < m ∧ m.natAbs.log2 < 9000 ∧ Rng H r l ∧ ∀ (v : Int) H', 0 ≤ v → v < m → Rng H' r l → Kp r H H' → Q (.int v) H'
def spDraw : Sp := fun vs H Q _ => ∃ r l m, vs = [.ref r, .int m] ∧ 0 < m ∧ m < 1073741824 ∧ Rng H r l ∧ ∀ (v : Int) H', 0 ≤ v → v < m → Rng H' r l → Kp r H H' → Q (.int v) H'
theorem sc__law_draw : FnScope ["_law_rng", "_law_many", "_law_cell", "_law_digit", "_law_seed"] ["_law_rng", "_law_many"] (defScope s__law_draw) := ⟨rfl, rfl, rfl, by decide +kernel, rfl, by decide +kernel, by decide +kernel⟩
theorem ok_drawW (D : Df K mg "_law_draw" s__law_draw ["_law_rng", "_law_many"]) (bi : Bi mg) : Cal P w K mg base 1 "_law_draw" ["_law_rng", "_law_many"] spDrawW := by
  refine D.ok sc__law_draw (fun vs H Q E h => ?_) (fun f cdv A outer s H vs Q E hr h => ?_)
  · obtain ⟨r, l, m, rfl, _⟩ := h
    rfl
  obtain ⟨r, l, m, rfl, hm, hm2, ⟨ns, i, d, st, c, h1, h2, h3, h4⟩, q⟩ := h
  refine ⟨_, (pss_cons (ps_asg (pe_op op_add (pe_ix ix_list (pv 0) pe_int (fun _ _ => rfl)) pe_int) (pg_sub (pv 0) pe_int set_list))
      (C8.pss_cut (ps_if (PW.pt (pw_and (pt_cmpR op_eq (pe_ix ix_list (pv 0) pe_int (fun _ _ => rfl)) pe_int (nomark _)) (pw_and1 (pt_cmpR op_lt (pe_ix ix_list (pv 0) pe_int (fun _ _ => rfl)) (pe_callB call_len_seq (by rfl) bi.len PySem.boot_len (pa_cons (pe_ix ix_list (pv 0) pe_int (fun _ _ => rfl)) pa_nil)) (nomark _))))) (pss_cons (ps_set (i := 2) sc__law_draw.nd rfl (.inl rfl) (pe_ix ix_list (pe_ix ix_list (pv 0) pe_int (fun _ _ => rfl)) (pe_ix ix_list (pv 0) pe_int (fun _ _ => rfl)) (fun _ _ => rfl)))
      (pss_cons (ps_asg (pe_op op_add (pe_ix ix_list (pv 0) pe_int (fun _ _ => rfl)) pe_int) (pg_sub (pv 0) pe_int set_list))
      (pss_one (ps_if (pt_cmpR op_ge (pv 2) (pe_op op_pow pe_int pe_int) (nomark _)) (pss_one (ps_asg (pv 2) (pg_sub (pv 0) pe_int set_list))) (pss_one (ps_asg (pe_op op_modN (pe_callTy call_int1 (by rfl) bi.int (by decide +kernel) (pa_cons (pe_op op_add (pe_op op_add (pe_op op_mul (pe_ix ix_list (pv 0) pe_int (fun _ _ => rfl)) pe_int) (pe_op op_mul (pe_op op_modN (pe_callTy call_int1 (by rfl) bi.int (by decide +kernel) (pa_cons (pv 2) pa_nil)) pe_int) pe_int)) pe_int) pa_nil)) pe_int) (pg_sub (pv 0) pe_int set_list))))))) pss_nil)
      (pss_cons (ps_if (pt_cmpR op_gt (pe_ix ix_list (pv 0) pe_int (fun _ _ => rfl)) pe_int (nomark _)) (pss_cons (ps_set (i := 3) sc__law_draw.nd rfl (.inl rfl) (pe_op op_modN (pe_callTy call_int1 (by rfl) bi.int (by decide +kernel) (pa_cons (pe_ix ix_list (pv 0) pe_int (fun _ _ => rfl)) pa_nil)) (pv 1)))
      (pss_cons (ps_asg (pe_op op_fdivW (pe_ix ix_list (pv 0) pe_int (fun _ _ => rfl)) (pv 1)) (pg_sub (pv 0) pe_int set_list))
      (pss_one (ps_ret (pv 3))))) pss_nil)
      (pss_cons (ps_set (i := 4) sc__law_draw.nd rfl (.inl rfl) (pe_ix ix_list (pv 0) pe_int (fun _ _ => rfl)))
      (pss_cons (ps_asg (pe_op op_modN (pe_callTy call_int1 (by rfl) bi.int (by decide +kernel) (pa_cons (pe_op op_add (pe_op op_add (pe_op op_add (pe_op op_mul (pv 4) pe_int) (pe_op op_mul (pe_op op_fdivN (pv 4) pe_int) pe_int)) (pe_op op_mul (pe_ix ix_list (pv 0) pe_int (fun _ _ => rfl)) pe_int)) pe_int) pa_nil)) pe_int) (pg_sub (pv 0) pe_int set_list))
      (pss_one (ps_ret (pe_op op_modN (pe_callTy call_int1 (by rfl) bi.int (by decide +kernel) (pa_cons (pe_op op_add (pe_op op_fdivN (pe_ix ix_list (pv 0) pe_int (fun _ _ => rfl)) pe_int) (pe_op op_mul (pe_op op_modN (pe_callTy call_int1 (by rfl) bi.int (by decide +kernel) (pa_cons (pe_ix ix_list (pv 0) pe_int (fun _ _ => rfl)) pa_nil)) pe_int) pe_int)) pa_nil)) (pv 1))))))))), ?_⟩
  -- rng[4] += 1
  refine ⟨_, rfl, _, _, _, _, rfl, rfl, SqL.of h1, rfl, _, _, rfl, rfl, _, rfl, r, _, 4, 4, rfl, rfl, h1, rfl, ?_⟩
  have k1 : Kp r H (upd H r (.lst [.ref l, .int i, .int d, .int st, .int (c + 1)])) := Kp.at
  generalize e1 : upd H r (.lst (List.set [.ref l, .int i, .int d, .int st, .int c] 4 (.int (c + 1)))) = H1
  have g1 : H1 r = some (.lst [.ref l, .int i, .int d, .int st, .int (c + 1)]) := by
    rw [← e1]
    exact upd_same
  have k1 : Kp r H H1 := by
    rw [← e1]
    exact Kp.at
  have g2 := k1 _ _ h4 h2
  -- the first if: anything may stand in the three
  refine ⟨fun σ' H' => ∃ y2 i d st c, σ' = [some (.ref r), some (.int m), y2, none, none] ∧ H' r = some (.lst [.ref l, .int i, .int d, .int st, .int c]) ∧ 0 ≤ i ∧ Kp r H H', ?_, ?_⟩
  · refine ⟨_, rfl, _, _, _, _, rfl, rfl, SqL.of g1, rfl, rfl, _, rfl, ?_⟩
    refine ite2 (fun _ => ?_) (fun _ => ⟨none, i, d, st, c + 1, rfl, g1, h3, k1⟩)
    refine ⟨_, rfl, _, _, _, _, rfl, rfl, SqL.of g1, rfl, _, rfl, _, _, _, _, rfl, rfl, SqL.of g1, rfl, l, _, rfl, .inl (SqL.of g2), _, _, rfl, rfl, _, rfl, ?_⟩
    refine ite2 (fun hc => ?_) (fun _ => ⟨none, i, d, st, c + 1, rfl, g1, h3, k1⟩)
    have hc' : i < ((ns.map V.int).length : Int) := of_decide_eq_true hc
    rw [List.length_map] at hc'
    have hi : i.toNat < ns.length := by omega
    have ha : atI (ns.map V.int) i = some (.int ns[i.toNat]) := at_of (j := i.toNat) (by omega) (by rw [List.getElem?_map, List.getElem?_eq_getElem hi]; rfl)
    refine ⟨_, rfl, _, _, _, _, rfl, rfl, SqL.of g1, rfl, _, rfl, _, _, _, _, rfl, rfl, SqL.of g1, rfl, _, _, _, _, rfl, rfl, SqL.of g2, ha, ?_⟩
    refine ⟨_, rfl, _, _, _, _, rfl, rfl, SqL.of g1, rfl, _, _, rfl, rfl, _, rfl, r, _, 1, 1, rfl, rfl, g1, rfl, ?_⟩
    generalize e3 : upd H1 r (.lst (List.set [.ref l, .int i, .int d, .int st, .int (c + 1)] 1 (.int (i + 1)))) = H2
    have g3 : H2 r = some (.lst [.ref l, .int (i + 1), .int d, .int st, .int (c + 1)]) := by
      rw [← e3]
      exact upd_same
    have k3 : Kp r H H2 := by
      rw [← e3]
      exact k1.trans Kp.at
    refine ⟨_, rfl, _, _, rfl, rfl, ⟨by decide, by decide, by decide⟩, _, _, rfl, rfl, _, rfl, ?_⟩
    refine ite2 (fun _ => ?_) (fun _ => ?_)
    · refine ⟨_, rfl, _, rfl, r, _, 2, 2, rfl, rfl, g3, rfl, ?_⟩
      exact ⟨_, i + 1, _, st, c + 1, rfl, upd_same, by omega, k3.trans Kp.at⟩
    · refine ⟨_, rfl, _, _, _, _, rfl, rfl, SqL.of g3, rfl, _, _, rfl, rfl, .inr (by decide), ?_⟩
      refine ⟨_, rfl, .inl ⟨_, rfl, _, _, rfl, rfl, (show (2147483629 : Int) ≠ 0 by decide), _, _, rfl, rfl, .inr (by decide), _, _, rfl, rfl, _, _, rfl, rfl, .inl ⟨_, rfl, _, _, rfl, rfl, (show (2147483647 : Int) ≠ 0 by decide), ?_⟩⟩⟩
      refine ⟨_, rfl, r, _, 3, 3, rfl, rfl, g3, rfl, ?_⟩
      exact ⟨_, i + 1, d, _, c + 1, rfl, upd_same, by omega, k3.trans Kp.at⟩
  · rintro σ' H' ⟨y2, i, d, st, c, rfl, g1, h3, k1⟩
    refine ⟨_, rfl, _, _, _, _, rfl, rfl, SqL.of g1, rfl, _, _, rfl, rfl, _, rfl, ?_⟩
    refine ite2 (fun _ => ?_) (fun _ => ?_)
    · refine ⟨_, rfl, _, _, _, _, rfl, rfl, SqL.of g1, rfl, .inl ⟨_, rfl, _, rfl, _, _, rfl, rfl, by omega, ?_⟩⟩
      refine ⟨_, rfl, _, _, _, _, rfl, rfl, SqL.of g1, rfl, _, rfl, _, _, rfl, rfl, ⟨hm, hm2⟩, _, rfl, r, _, 2, 2, rfl, rfl, g1, rfl, ?_⟩
      refine ⟨_, rfl, q _ _ (Int.fmod_nonneg_of_pos _ hm) (Int.fmod_lt_of_pos _ hm) ?_ (k1.trans Kp.at)⟩
      exact ⟨ns, i, _, st, c, upd_same, (k1.trans Kp.at) _ _ h4 h2, h3, h4⟩
    · refine ⟨_, rfl, _, _, _, _, rfl, rfl, SqL.of g1, rfl, ?_⟩
      refine ⟨_, rfl, _, _, rfl, rfl, .inr (by decide), _, rfl, _, _, rfl, rfl, ⟨by decide, by decide⟩, _, _, rfl, rfl, .inr (by decide), _, _, rfl, rfl, _, rfl, _, _, _, _, rfl, rfl, SqL.of g1, rfl, _, _, rfl, rfl, .inr (by decide), _, _, rfl, rfl, _, _, rfl, rfl, .inl ⟨_, rfl, _, _, rfl, rfl, (show (2147483647 : Int) ≠ 0 by decide), ?_⟩⟩
      refine ⟨_, rfl, r, _, 3, 3, rfl, rfl, g1, rfl, ?_⟩
      refine ⟨_, rfl, _, _, _, _, rfl, rfl, SqL.of upd_same, rfl, _, _, rfl, rfl, ⟨by decide, by decide⟩, _, rfl, _, _, _, _, rfl, rfl, SqL.of upd_same, rfl, .inl ⟨_, rfl, _, _, rfl, rfl, (show (7919 : Int) ≠ 0 by decide), _, _, rfl, rfl, .inr (by decide), _, _, rfl, rfl, .inl ⟨_, rfl, _, rfl, _, _, rfl, rfl, by omega, ?_⟩⟩⟩
      refine q _ _ (Int.fmod_nonneg_of_pos _ hm) (Int.fmod_lt_of_pos _ hm) ?_ (k1.trans Kp.at)
      exact ⟨ns, i, _, _, c, upd_same, (k1.trans Kp.at) _ _ h4 h2, h3, h4⟩
theorem ok_draw (D : Df K mg "_law_draw" s__law_draw ["_law_rng", "_law_many"]) (bi : Bi mg) : Cal P w K mg base 1 "_law_draw" ["_law_rng", "_law_many"] spDraw := (ok_drawW D bi).imp fun vs H Q E h => by
  obtain ⟨r, l, m, e, hm, hm2, h⟩ := h
  exact ⟨r, l, m, e, hm, Nat.lt_of_lt_of_le (PySem.Flt.log2_lt_of (k := 30) (by decide) (by omega)) (by decide), h⟩
/-! ### _law_pick -/
def spPick : Sp := fun vs H Q _ => ∃ r l t xs, vs = [.ref r, .ref t] ∧ Rng H r l ∧ H t = some (.lst xs) ∧ t ≠ r ∧ 0 < xs.length ∧ xs.length ≤ 1000 ∧ ∀ (j : Nat) x H', xs[j]? = some x → Rng H' r l → Kp r H H' → Q x H'
theorem sc__law_pick : FnScope ["_law_rng", "_law_things"] ["_law_rng", "_law_things"] (defScope s__law_pick) := ⟨rfl, rfl, rfl, by decide +kernel, rfl, by decide +kernel, by decide +kernel⟩
theorem ok_pick (D : Df K mg "_law_pick" s__law_pick ["_law_rng", "_law_things"]) (bi : Bi mg) (c_law_draw : Cal P w K mg base 1 "_law_draw" ["_law_rng", "_law_many"] spDraw) : Cal P w K mg base 2 "_law_pick" ["_law_rng", "_law_things"] spPick := by
  refine D.ok sc__law_pick (fun vs H Q E h => ?_) (fun f cdv A outer s H vs Q E hr h => ?_)
  · obtain ⟨r, l, t, xs, rfl, _⟩ := h
    rfl
  obtain ⟨r, l, t, xs, rfl, g, ht, hne, h0, h1, q⟩ := h
  refine ⟨_, (pss_one (ps_ret (pe_ix ix_list (pv 1) (pe_own c_law_draw hr (by omega) (by rfl) (pa_cons (pv 0) (pa_cons (pe_callB call_len_seq (by rfl) bi.len PySem.boot_len (pa_cons (pv 1) pa_nil)) pa_nil))) (fun _ _ => rfl)))), ?_⟩
  refine ⟨_, rfl, _, rfl, _, rfl, t, xs, rfl, .inl (SqL.of ht), r, l, _, rfl, by omega, by omega, g, fun v H1 hv0 hv1 g1 k1 => ?_⟩
  have hv : v.toNat < xs.length := by omega
  exact ⟨t, xs, v, xs[v.toNat], rfl, rfl, SqL.of (k1 _ _ hne ht), at_of (j := v.toNat) (by omega) (List.getElem?_eq_getElem hv), q v.toNat _ H1 (List.getElem?_eq_getElem hv) g1 k1⟩
/-! ### _law_same of equal data -/
def spSame (K : PySem.W.Frag) : Nat → Sp
  | 0 => fun _ _ _ _ => False
  | n + 1 => fun vs H Q _ => ∃ x y d, vs = [x, y] ∧ Dp K H x d ∧ Dp K H y d ∧ Sm n d ∧ ∀ H', Same H H' → Q (.bl true) H'
theorem sc__law_same : FnScope ["_law_found", "_law_due", "_law_a", "_law_b"] ["_law_found", "_law_due"] (defScope s__law_same) := ⟨rfl, rfl, rfl, by decide +kernel, rfl, by decide +kernel, by decide +kernel⟩
theorem ok_same1 {n : Nat} (D : Df K mg "_law_same" s__law_same ["_law_found", "_law_due"]) (bi : Bi mg) (c_law_same : Cal P w K mg base n "_law_same" ["_law_found", "_law_due"] (spSame K n)) :
    Cal P w K mg base (n + 1) "_law_same" ["_law_found", "_law_due"] (spSame K (n + 1)) := by
  refine D.ok sc__law_same (fun vs H Q E h => ?_) (fun f cdv A outer s H vs Q E hr h => ?_)
  · obtain ⟨x, y, d, rfl, _⟩ := h
    rfl
  obtain ⟨x, y, d, rfl, hx, hy, hs, q⟩ := h
  refine ⟨_, (pss_cons (ps_if (PW.pt (pw_or (pt_val (pe_callB call_isi (by rfl) bi.isinstance (by decide +kernel) (pa_cons (pv 1) (pa_cons (pe_bltn (v := .ty "list") (u := .type "list") (by rfl) bi.list (by decide +kernel) rfl) pa_nil)))) (pw_or1 (pt_val (pe_callB call_isi (by rfl) bi.isinstance (by decide +kernel) (pa_cons (pv 1) (pa_cons (pe_bltn (v := .ty "tuple") (u := .type "tuple") (by rfl) bi.tuple (by decide +kernel) rfl) pa_nil))))))) (pss_cons (ps_if (PW.pt (pw_or (pt_cmpR op_ne (pe_callB call_isi (by rfl) bi.isinstance (by decide +kernel) (pa_cons (pv 0) (pa_cons (pe_bltn (v := .ty "list") (u := .type "list") (by rfl) bi.list (by decide +kernel) rfl) pa_nil))) (pe_callB call_isi (by rfl) bi.isinstance (by decide +kernel) (pa_cons (pv 1) (pa_cons (pe_bltn (v := .ty "list") (u := .type "list") (by rfl) bi.list (by decide +kernel) rfl) pa_nil))) (nomark _)) (pw_or1 (pt_cmpR op_ne (pe_callB call_isi (by rfl) bi.isinstance (by decide +kernel) (pa_cons (pv 0) (pa_cons (pe_bltn (v := .ty "tuple") (u := .type "tuple") (by rfl) bi.tuple (by decide +kernel) rfl) pa_nil))) (pe_callB call_isi (by rfl) bi.isinstance (by decide +kernel) (pa_cons (pv 1) (pa_cons (pe_bltn (v := .ty "tuple") (u := .type "tuple") (by rfl) bi.tuple (by decide +kernel) rfl) pa_nil))) (nomark _))))) (pss_one (ps_ret pe_bl)) pss_nil)
      (pss_one (ps_ret (pe_and (pe_cmpR op_eq (pe_callB call_len_seq (by rfl) bi.len PySem.boot_len (pa_cons (pv 0) pa_nil)) (pe_callB call_len_seq (by rfl) bi.len PySem.boot_len (pa_cons (pv 1) pa_nil)) (nomark _)) (pe_one (pe_callB (cr_all rfl) (by rfl) bi.all (by decide +kernel) (pa_cons (pe_lc (own := [("_law_a", 2), ("_law_b", 3)]) (g := gTup K 2 (gCons (gName 2) (gCons (gName 3) gNil))) (tt := tYes) rfl sc__law_same.nd (RZ.pi_zipA (by rfl) bi.zip (pa_cons (pv 0) (pa_cons (pv 1) pa_nil))) (blkOk_by (N := ["_law_found", "_law_due", "_law_a", "_law_b"]) (sc := defScope s__law_same) (by decide +kernel)) (fun _ _ _ _ _ => (pg_tup rfl (pgs_cons (pg_name (i := 2) sc__law_same.nd rfl (.inl rfl)) (pgs_cons (pg_name (i := 3) sc__law_same.nd rfl (.inl rfl)) pgs_nil)))) (fun _ _ _ _ _ => pts_nil) (fun _ _ _ _ _ => (pe_own c_law_same hr (by omega) (by rfl) (pa_cons (pv 2) (pa_cons (pv 3) pa_nil))))) pa_nil))))))) pss_nil)
      (pss_cons (ps_if (PW.pt (pw_or (pt_cmpR op_isN (pv 1) pe_non (nomark _)) (pw_or1 (pt_cmpR op_isN (pv 0) pe_non (nomark _))))) (pss_one (ps_ret (pe_and (pe_cmpR op_isN (pv 1) pe_non (nomark _)) (pe_one (pe_cmpR op_isN (pv 0) pe_non (nomark _)))))) pss_nil)
      (pss_cons (ps_if (PW.pt (pw_or (pt_cmpR op_ne (pe_callB call_isi (by rfl) bi.isinstance (by decide +kernel) (pa_cons (pv 1) (pa_cons (pe_bltn (v := .ty "bool") (u := .type "bool") (by rfl) bi.bool (by decide +kernel) rfl) pa_nil))) (pe_callB call_isi (by rfl) bi.isinstance (by decide +kernel) (pa_cons (pv 0) (pa_cons (pe_bltn (v := .ty "bool") (u := .type "bool") (by rfl) bi.bool (by decide +kernel) rfl) pa_nil))) (nomark _)) (pw_or1 (pt_cmpR op_ne (pe_callB call_isi (by rfl) bi.isinstance (by decide +kernel) (pa_cons (pv 1) (pa_cons (pe_bltn (v := .ty "int") (u := .type "int") (by rfl) bi.int (by decide +kernel) rfl) pa_nil))) (pe_callB call_isi (by rfl) bi.isinstance (by decide +kernel) (pa_cons (pv 0) (pa_cons (pe_bltn (v := .ty "int") (u := .type "int") (by rfl) bi.int (by decide +kernel) rfl) pa_nil))) (nomark _))))) (pss_one (ps_ret pe_bl)) pss_nil)
      (pss_one (ps_ret (pe_and (pe_cmpR op_eq (pe_callB call_isi (by rfl) bi.isinstance (by decide +kernel) (pa_cons (pv 1) (pa_cons (pe_bltn (v := .ty "str") (u := .type "str") (by rfl) bi.str (by decide +kernel) rfl) pa_nil))) (pe_callB call_isi (by rfl) bi.isinstance (by decide +kernel) (pa_cons (pv 0) (pa_cons (pe_bltn (v := .ty "str") (u := .type "str") (by rfl) bi.str (by decide +kernel) rfl) pa_nil))) (nomark _)) (pe_one (pe_cmpR op_eq (pv 0) (pv 1) (nomark _))))))))), ?_⟩
  have q0 := q H (fun _ _ e => e)
  cases d with
  | none =>
    cases hx
    cases hy
    refine ⟨_, rfl, _, _, _, _, false, rfl, .ty _, .base .non, kit_ty (by decide +kernel), _, rfl, ?_⟩
    refine ⟨_, rfl, _, _, _, _, false, rfl, .ty _, .base .non, kit_ty (by decide +kernel), _, rfl, ?_⟩
    refine ⟨_, rfl, rfl, _, rfl, ?_⟩
    refine ⟨_, rfl, rfl, _, rfl, ?_⟩
    exact ⟨_, rfl, rfl, q0⟩
  | bool b =>
    cases hx
    cases hy
    refine ⟨_, rfl, _, _, _, _, false, rfl, .ty _, .base (.bl b), kit_ty (by decide +kernel), _, rfl, ?_⟩
    refine ⟨_, rfl, _, _, _, _, false, rfl, .ty _, .base (.bl b), kit_ty (by decide +kernel), _, rfl, ?_⟩
    refine ⟨_, rfl, rfl, _, rfl, ?_⟩
    refine ⟨_, rfl, rfl, _, rfl, ?_⟩
    refine ⟨_, rfl, _, _, _, _, true, rfl, .ty _, .base (.bl b), kit_ty (by decide +kernel), _, rfl, _, _, _, _, true, rfl, .ty _, .base (.bl b), kit_ty (by decide +kernel), rfl, _, rfl, ?_⟩
    refine ⟨_, rfl, _, _, _, _, true, rfl, .ty _, .base (.bl b), kit_ty (by decide +kernel), _, rfl, _, _, _, _, true, rfl, .ty _, .base (.bl b), kit_ty (by decide +kernel), rfl, _, rfl, ?_⟩
    refine ⟨_, rfl, _, _, _, _, false, rfl, .ty _, .base (.bl b), kit_ty (by decide +kernel), _, rfl, _, _, _, _, false, rfl, .ty _, .base (.bl b), kit_ty (by decide +kernel), rfl, _, rfl, ?_⟩
    refine ⟨_, rfl, _, rfl, rfl, ?_⟩
    rw [decide_eq_true rfl]
    exact q0
  | int i =>
    cases hx
    cases hy
    refine ⟨_, rfl, _, _, _, _, false, rfl, .ty _, .base (.int i), kit_ty (by decide +kernel), _, rfl, ?_⟩
    refine ⟨_, rfl, _, _, _, _, false, rfl, .ty _, .base (.int i), kit_ty (by decide +kernel), _, rfl, ?_⟩
    refine ⟨_, rfl, rfl, _, rfl, ?_⟩
    refine ⟨_, rfl, rfl, _, rfl, ?_⟩
    refine ⟨_, rfl, _, _, _, _, false, rfl, .ty _, .base (.int i), kit_ty (by decide +kernel), _, rfl, _, _, _, _, false, rfl, .ty _, .base (.int i), kit_ty (by decide +kernel), rfl, _, rfl, ?_⟩
    refine ⟨_, rfl, _, _, _, _, true, rfl, .ty _, .base (.int i), kit_ty (by decide +kernel), _, rfl, _, _, _, _, true, rfl, .ty _, .base (.int i), kit_ty (by decide +kernel), rfl, _, rfl, ?_⟩
    refine ⟨_, rfl, _, _, _, _, false, rfl, .ty _, .base (.int i), kit_ty (by decide +kernel), _, rfl, _, _, _, _, false, rfl, .ty _, .base (.int i), kit_ty (by decide +kernel), rfl, _, rfl, ?_⟩
    refine ⟨_, rfl, _, rfl, rfl, ?_⟩
    rw [decide_eq_true rfl]
    exact q0
  | str z =>
    cases hx
    cases hy
    refine ⟨_, rfl, _, _, _, _, false, rfl, .ty _, .base (.str z), kit_ty (by decide +kernel), _, rfl, ?_⟩
    refine ⟨_, rfl, _, _, _, _, false, rfl, .ty _, .base (.str z), kit_ty (by decide +kernel), _, rfl, ?_⟩
    refine ⟨_, rfl, rfl, _, rfl, ?_⟩
    refine ⟨_, rfl, rfl, _, rfl, ?_⟩
    refine ⟨_, rfl, _, _, _, _, false, rfl, .ty _, .base (.str z), kit_ty (by decide +kernel), _, rfl, _, _, _, _, false, rfl, .ty _, .base (.str z), kit_ty (by decide +kernel), rfl, _, rfl, ?_⟩
    refine ⟨_, rfl, _, _, _, _, false, rfl, .ty _, .base (.str z), kit_ty (by decide +kernel), _, rfl, _, _, _, _, false, rfl, .ty _, .base (.str z), kit_ty (by decide +kernel), rfl, _, rfl, ?_⟩
    refine ⟨_, rfl, _, _, _, _, true, rfl, .ty _, .base (.str z), kit_ty (by decide +kernel), _, rfl, _, _, _, _, true, rfl, .ty _, .base (.str z), kit_ty (by decide +kernel), rfl, _, rfl, ?_⟩
    refine ⟨_, rfl, _, rfl, rfl, ?_⟩
    rw [decide_eq_true rfl]
    exact q0
  | list ds =>
    cases hx with | lst sx ax => ?_
    cases hy with | lst sy ay => ?_
    rename_i a xs b ys
    have lx := DpAll.length ax
    have ly := DpAll.length ay
    cases n with
    | zero => exact hs.elim
    | succ m =>
    unfold Sm at hs
    refine ⟨_, rfl, _, _, _, _, true, rfl, .ty _, SqL.ty sy, kit_ty (by decide +kernel), _, rfl, ?_⟩
    
    refine ⟨_, rfl, _, _, _, _, true, rfl, .ty _, SqL.ty sx, kit_ty (by decide +kernel), _, rfl, _, _, _, _, true, rfl, .ty _, SqL.ty sy, kit_ty (by decide +kernel), rfl, _, rfl, ?_⟩
    refine ⟨_, rfl, _, _, _, _, false, rfl, .ty _, SqL.ty sx, kit_ty (by decide +kernel), _, rfl, _, _, _, _, false, rfl, .ty _, SqL.ty sy, kit_ty (by decide +kernel), rfl, _, rfl, ?_⟩
    refine ⟨_, rfl, _, _, rfl, .inl sx, _, rfl, _, _, rfl, .inl sy, rfl, _, rfl, ite2 (fun _ => ?_) (fun ne => absurd (by rw [lx, ly]; exact decide_eq_true rfl) ne)⟩
    refine ⟨_, rfl, _, rfl, a, b, xs, ys, rfl, .inl ⟨sx, sy, fun Dd hD => ?_⟩⟩
    refine lcz (n := min xs.length ys.length) (walk_zip rfl) (by decide) (fun i H2 => H2 Dd = some (.lst ((List.replicate i true).map V.bl)) ∧ Same H H2) ?_ ?_ ?_ ?_
    · exact ⟨upd_same, same_new hD⟩
    · rintro i H2 _ ⟨_, s2⟩
      exact ⟨s2.seq sx, s2.seq sy⟩
    · rintro i x y T H2 hi e1 e2 ⟨hA, s2⟩ hT
      obtain ⟨d1, g1, h1⟩ := DpAll.get ax e1
      obtain ⟨d2, g2, h2⟩ := DpAll.get ay e2
      have e := Option.some.inj (g1.symm.trans g2)
      subst e
      have s3 : Same H (upd H2 T (.tup [x, y])) := s2.trans (same_new hT)
      refine ⟨_, rfl, _, rfl, _, _, d1, rfl, Dp.same s3 _ h1, Dp.same s3 _ h2, hs.2 d1 (List.mem_of_getElem? g1), fun H4 s4 => ?_⟩
      have hA4 := s4 _ _ (same_new hT _ _ hA)
      refine ⟨_, hA4, ?_, ?_, ?_⟩
      · rw [List.length_map, List.length_replicate]
        exact Nat.lt_of_le_of_lt (show i ≤ 1000 by omega) (by decide)
      · rw [upd_same, rep_snoc]
      · intro b o hb
        rw [upd_ne (ne_of_none hb hD)]
        exact s4 _ _ (s3 _ _ hb)
    · rintro H2 ⟨hA, s2⟩
      refine ⟨Dd, _, rfl, SqL.of hA, ?_⟩
      rw [all_true]
      exact q H2 s2
  | tuple ds =>
    cases hx with | tup sx ax => ?_
    cases hy with | tup sy ay => ?_
    rename_i a xs b ys
    have lx := DpAll.length ax
    have ly := DpAll.length ay
    cases n with
    | zero => exact hs.elim
    | succ m =>
    unfold Sm at hs
    refine ⟨_, rfl, _, _, _, _, false, rfl, .ty _, SqT.ty sy, kit_ty (by decide +kernel), _, rfl, ?_⟩
    refine ⟨_, rfl, _, _, _, _, true, rfl, .ty _, SqT.ty sy, kit_ty (by decide +kernel), _, rfl, ?_⟩
    refine ⟨_, rfl, _, _, _, _, false, rfl, .ty _, SqT.ty sx, kit_ty (by decide +kernel), _, rfl, _, _, _, _, false, rfl, .ty _, SqT.ty sy, kit_ty (by decide +kernel), rfl, _, rfl, ?_⟩
    refine ⟨_, rfl, _, _, _, _, true, rfl, .ty _, SqT.ty sx, kit_ty (by decide +kernel), _, rfl, _, _, _, _, true, rfl, .ty _, SqT.ty sy, kit_ty (by decide +kernel), rfl, _, rfl, ?_⟩
    refine ⟨_, rfl, _, _, rfl, .inr sx, _, rfl, _, _, rfl, .inr sy, rfl, _, rfl, ite2 (fun _ => ?_) (fun ne => absurd (by rw [lx, ly]; exact decide_eq_true rfl) ne)⟩
    refine ⟨_, rfl, _, rfl, a, b, xs, ys, rfl, .inr ⟨sx, sy, fun Dd hD => ?_⟩⟩
    refine lcz (n := min xs.length ys.length) (walk_zipT rfl) (by decide) (fun i H2 => H2 Dd = some (.lst ((List.replicate i true).map V.bl)) ∧ Same H H2) ?_ ?_ ?_ ?_
    · exact ⟨upd_same, same_new hD⟩
    · rintro i H2 _ ⟨_, s2⟩
      exact ⟨(tp_same s2).sq sx, (tp_same s2).sq sy⟩
    · rintro i x y T H2 hi e1 e2 ⟨hA, s2⟩ hT
      obtain ⟨d1, g1, h1⟩ := DpAll.get ax e1
      obtain ⟨d2, g2, h2⟩ := DpAll.get ay e2
      have e := Option.some.inj (g1.symm.trans g2)
      subst e
      have s3 : Same H (upd H2 T (.tup [x, y])) := s2.trans (same_new hT)
      refine ⟨_, rfl, _, rfl, _, _, d1, rfl, Dp.same s3 _ h1, Dp.same s3 _ h2, hs.2 d1 (List.mem_of_getElem? g1), fun H4 s4 => ?_⟩
      have hA4 := s4 _ _ (same_new hT _ _ hA)
      refine ⟨_, hA4, ?_, ?_, ?_⟩
      · rw [List.length_map, List.length_replicate]
        exact Nat.lt_of_le_of_lt (show i ≤ 1000 by omega) (by decide)
      · rw [upd_same, rep_snoc]
      · intro b o hb
        rw [upd_ne (ne_of_none hb hD)]
        exact s4 _ _ (s3 _ _ hb)
    · rintro H2 ⟨hA, s2⟩
      refine ⟨Dd, _, rfl, SqL.of hA, ?_⟩
      rw [all_true]
      exact q H2 s2
  | dict ds => cases hx
theorem ok_same (D : Df K mg "_law_same" s__law_same ["_law_found", "_law_due"]) (bi : Bi mg) : ∀ n : Nat, Cal P w K mg base n "_law_same" ["_law_found", "_law_due"] (spSame K n)
  | 0 => D.no fun vs H Q E h => h.elim
  | n + 1 => ok_same1 D bi (ok_same D bi n)
/-! ### _law_name -/
/-- texts of one lowercase letter -/
def Ltrs (ys : List Str) : Prop := ∀ y ∈ ys, ∃ c, y = ⟨#[c]⟩ ∧ 97 ≤ c ∧ c ≤ 122
theorem join_fold : ∀ (ys : List Str) (acc : Array Nat), Ltrs ys → (∀ x ∈ acc.toList, 97 ≤ x ∧ x ≤ 122) →
    (ys.foldl (fun (a : Array Nat) (p : Str) => a ++ (⟨#[]⟩ : Str).cps ++ p.cps) acc).size = acc.size + ys.length ∧ ∀ x ∈ (ys.foldl (fun (a : Array Nat) (p : Str) => a ++ (⟨#[]⟩ : Str).cps ++ p.cps) acc).toList, 97 ≤ x ∧ x ≤ 122
  | [], acc, _, h => ⟨rfl, h⟩
  | y :: r, acc, hy, h => by
    obtain ⟨c, e, h1, h2⟩ := hy y (List.mem_cons_self ..)
    have ih := join_fold r (acc ++ (⟨#[]⟩ : Str).cps ++ y.cps) (fun z hz => hy z (List.mem_cons_of_mem _ hz)) (fun x hx => by
      rw [e] at hx
      simp at hx
      rcases hx with hx | hx
      · exact h x (Array.mem_toList_iff.mpr hx)
      · rw [hx]; exact ⟨h1, h2⟩)
    rw [List.foldl_cons]
    refine ⟨?_, ih.2⟩
    rw [ih.1, e, List.length_cons]
    simp
    omega
theorem join_name {ys : List Str} (h : Ltrs ys) (h1 : 1 ≤ ys.length) (h8 : ys.length ≤ 8) : NmOk (Txt.join ⟨#[]⟩ ys) := by
  cases ys with
  | nil => simp at h1
  | cons y r =>
    obtain ⟨c, e, c1, c2⟩ := h y (List.mem_cons_self ..)
    have ih := join_fold r y.cps (fun z hz => h z (List.mem_cons_of_mem _ hz)) (fun x hx => by
      rw [e] at hx
      simp at hx
      rw [hx]
      exact ⟨c1, c2⟩)
    have es : y.cps.size = 1 := by rw [e]; rfl
    have ej : Txt.join ⟨#[]⟩ (y :: r) = ⟨r.foldl (fun (a : Array Nat) (p : Str) => a ++ (⟨#[]⟩ : Str).cps ++ p.cps) y.cps⟩ := rfl
    rw [ej]
    rw [List.length_cons] at h8
    refine ⟨?_, ?_, ih.2⟩
    · show 1 ≤ Array.size _
      rw [ih.1, es]
      omega
    · show Array.size _ ≤ 8
      rw [ih.1, es]
      omega
def spName : Sp := fun vs H Q _ => ∃ r l, vs = [.ref r] ∧ Rng H r l ∧ ∀ c H', NmOk c → Rng H' r l → Kp r H H' → Q (.str c) H'
theorem abc26 {i : Nat} (h : i < 26) : ∃ c, (Str.ofString "abcdefghijklmnopqrstuvwxyz").cps.toList[i]? = some c ∧ 97 ≤ c ∧ c ≤ 122 := by
  have key : ((List.range 26).all fun i => match (Str.ofString "abcdefghijklmnopqrstuvwxyz").cps.toList[i]? with | some c => decide (97 ≤ c ∧ c ≤ 122) | none => false) = true := by decide +kernel
  have := List.all_eq_true.mp key i (List.mem_range.mpr h)
  split at this
  · rename_i c e
    have := of_decide_eq_true this
    exact ⟨c, e, this.1, this.2⟩
  · cases this
theorem lens_le {ys : List Str} (h : Ltrs ys) : (ys.map (·.length)).sum ≤ ys.length := by
  induction ys with
  | nil => simp
  | cons y r ih =>
    obtain ⟨c, e, _, _⟩ := h y (List.mem_cons_self ..)
    have := ih fun z hz => h z (List.mem_cons_of_mem _ hz)
    rw [List.map_cons, List.sum_cons, List.length_cons, e]
    have e1 : (⟨#[c]⟩ : Str).length = 1 := rfl
    rw [e1]
    omega
theorem sc__law_name : FnScope ["_law_rng", "_law_letters", "_law_k"] ["_law_rng"] (defScope s__law_name) := ⟨rfl, rfl, rfl, by decide +kernel, rfl, by decide +kernel, by decide +kernel⟩
theorem ok_name (D : Df K mg "_law_name" s__law_name ["_law_rng"]) (bi : Bi mg) (c_law_draw : Cal P w K mg base 1 "_law_draw" ["_law_rng", "_law_many"] spDraw) : Cal P w K mg base 2 "_law_name" ["_law_rng"] spName := by
  refine D.ok sc__law_name (fun vs H Q E h => ?_) (fun f cdv A outer s H vs Q E hr h => ?_)
  · obtain ⟨r, l, rfl, _⟩ := h
    rfl
  obtain ⟨r, l, rfl, g, q⟩ := h
  refine ⟨_, (pss_cons (ps_set (i := 1) sc__law_name.nd rfl (.inr rfl) pe_str)
      (pss_one (ps_ret (pe_bm PySem.F.plainAttrs_str PySem.F.slot_str_join PySem.F.type_str_join mt_join pe_str (pa_cons (pe_lc (own := [("_law_k", 2)]) (g := gName 2) (tt := tYes) rfl sc__law_name.nd (pi_range1 (by rfl) bi.range (pa_cons (pe_op op_add pe_int (pe_own c_law_draw hr (by omega) (by rfl) (pa_cons (pv 0) (pa_cons pe_int pa_nil)))) pa_nil)) (blkOk_by (N := ["_law_rng", "_law_letters", "_law_k"]) (sc := defScope s__law_name) (by decide +kernel)) (fun _ _ _ _ _ => (pg_name (i := 2) sc__law_name.nd rfl (.inl rfl))) (fun _ _ _ _ _ => pts_nil) (fun _ _ _ _ _ => (pe_ix ix_str (pv 1) (pe_own c_law_draw hr (by omega) (by rfl) (pa_cons (pv 0) (pa_cons pe_int pa_nil))) (fun _ _ => rfl)))) pa_nil))))), ?_⟩
  refine ⟨rfl, _, rfl, r, l, _, rfl, by decide, by decide, g, fun v H1 v0 v1 g1 k1 => ?_⟩
  have v1' : v < 8 := v1
  refine ⟨_, _, rfl, rfl, _, rfl, by omega, by omega, fun Dd hD => ?_⟩
  obtain ⟨z1, hz1⟩ := g1.lst
  obtain ⟨zl1, hzl1⟩ := g1.some_l
  have Dr : Dd ≠ r := (ne_of_none hz1 hD).symm
  have Dl : Dd ≠ l := (ne_of_none hzl1 hD).symm
  refine lcr (lo := 0) (n := (1 + v).toNat) (fun i H3 => ∃ ys : List Str, H3 Dd = some (.lst (ys.map V.str)) ∧ ys.length = i ∧ Ltrs ys ∧ Rng H3 r l ∧ Kp r H1 H3) ?_ ?_ ?_
  · exact ⟨[], upd_same, rfl, fun y h => (List.not_mem_nil h).elim, g1.new hD, Kp.new hD⟩
  · rintro i H3 hi ⟨ys, hA, hl, hy, g3, k3⟩
    refine ⟨_, rfl, _, rfl, r, l, _, rfl, by decide, by decide, g3, fun u H4 u0 u1 g4 k4 => ?_⟩
    have u1' : u < 26 := u1
    obtain ⟨c, ec, c1, c2⟩ := abc26 (i := u.toNat) (by omega)
    refine ⟨_, u, c, rfl, rfl, (by decide), at_ofN (j := u.toNat) (show u = ((u.toNat : Nat) : Int) by omega) ec, ?_⟩
    refine ⟨_, k4 _ _ Dr hA, ?_, ys ++ [⟨#[c]⟩], ?_, ?_, ?_, ?_, ?_⟩
    · rw [List.length_map]
      exact Nat.lt_of_le_of_lt (show ys.length ≤ 100 by omega) (by decide)
    · rw [upd_same, List.map_append]
      rfl
    · rw [List.length_append, hl]
      rfl
    · intro y hm
      rcases List.mem_append.mp hm with h | h
      · exact hy y h
      · exact ⟨c, List.mem_singleton.mp h, c1, c2⟩
    · exact g4.of (fun o h => by rw [upd_ne Dr.symm]; exact h) (fun o h => by rw [upd_ne Dl.symm]; exact h)
    · intro b o n1 hb
      rw [upd_ne (ne_of_none hb hD)]
      exact k4 b o n1 (k3 b o n1 hb)
  · rintro H3 ⟨ys, hA, hl, hy, g3, k3⟩
    refine ⟨_, Dd, ys, rfl, rfl, .inl (SqL.of hA), ?_, q _ H3 (join_name hy (by omega) (by omega)) g3 (k1.trans k3)⟩
    have := lens_le hy
    have e0 : (Str.ofString "").length = 0 := by decide +kernel
    rw [e0, Nat.mul_zero]
    omega
/-! ### _law_any_formula, with the lengths of the texts -/
theorem tl_rel {k a b : Str} (o : RelOk k a b) : (Fm.rel k a b).txt.length ≤ 10 := by
  have := Fm.txt_len (.rel k a b) o
  rw [Fm.size] at this
  exact this
theorem tl_nam {c : Str} (o : NmOk c) : (Fm.nam c).txt.length ≤ 10 := by
  have := Fm.txt_len (.nam c) o
  rw [Fm.size] at this
  exact this
theorem tl_neg {f : Fm} : (Fm.neg f).txt.length = 4 + f.txt.length := by rw [Fm.txt, len_app, l_not]
theorem tl_bin {k : Str} {f g : Fm} (h : k = "and" ∨ k = "or") : (Fm.bin k f g).txt.length ≤ 7 + f.txt.length + g.txt.length := by
  have := len_bin h
  rw [Fm.txt]
  simp only [len_app, l_lp, l_rp, l_sp]
  omega
theorem tl_qu {k x : Str} {f : Fm} (h : k = "some" ∨ k = "all") (hx : x ∈ vrs) : (Fm.qu k x f).txt.length ≤ 7 + f.txt.length := by
  have := len_qu h
  have := len_vrs hx
  rw [Fm.txt]
  simp only [len_app, l_sp]
  omega
def spAnyF (K : PySem.W.Frag) (d : Nat) : Sp := fun vs H Q _ => ∃ r l k a e, vs = [.ref r, .ref k, .int e] ∧ e = (d : Int) ∧ 1 ≤ d ∧ (d ≤ 4 ∧ 1 ≤ a) ∧ Rng H r l ∧ H k = some (.lst [.int a]) ∧ k ≠ r ∧ k ≠ l ∧
  ∀ v t a' H', FV K H' v t → t.Ok → t.dep ≤ d → (1 ≤ a' ∧ a' ≤ a ∧ (t.txt.length : Int) ≤ 3 + 7 * (d : Int) + 24 * (a - a')) → Rng H' r l → H' k = some (.lst [.int a']) → Kp2 r k H H' → Q v H'
theorem sc__law_any_formula : FnScope ["_law_rng", "_law_kit", "_law_deep", "_law_way", "_law_variable", "_law_first", "_law_kind", "_law_one", "_law_other"] ["_law_rng", "_law_kit", "_law_deep"] (defScope s__law_any_formula) := ⟨rfl, rfl, rfl, by decide +kernel, rfl, by decide +kernel, by decide +kernel⟩
theorem ok_any1 {n : Nat} (D : Df K mg "_law_any_formula" s__law_any_formula ["_law_rng", "_law_kit", "_law_deep"]) (bi : Bi mg) (c_law_draw : Cal P w K mg base 1 "_law_draw" ["_law_rng", "_law_many"] spDraw) (c_law_pick : Cal P w K mg base 2 "_law_pick" ["_law_rng", "_law_things"] spPick) (c_law_name : Cal P w K mg base 2 "_law_name" ["_law_rng"] spName)
    (c_law_any_formula : Cal P w K mg base (n + 2) "_law_any_formula" ["_law_rng", "_law_kit", "_law_deep"] (spAnyF K n)) : Cal P w K mg base (n + 3) "_law_any_formula" ["_law_rng", "_law_kit", "_law_deep"] (spAnyF K (n + 1)) := by
  refine D.ok sc__law_any_formula (fun vs H Q E h => ?_) (fun f cdv A outer s H vs Q E hr h => ?_)
  · obtain ⟨r, l, k, a, e, rfl, _⟩ := h
    rfl
  obtain ⟨r, l, k, a, e, rfl, he, hd, ⟨hd4, ha⟩, g, hk, kr, kl, q⟩ := h
  refine ⟨_, (C8.pss_cut (ps_set (i := 3) sc__law_any_formula.nd rfl (.inl rfl) (pe_ifExp (pt_cmpR op_gt (pv 2) pe_int (nomark _)) (pe_own c_law_draw hr (by omega) (by rfl) (pa_cons (pv 0) (pa_cons pe_int pa_nil))) pe_int))
      (pss_cons (ps_if (pt_cmpR op_lt (pv 3) pe_int (nomark _)) (pss_cons (ps_set (i := 4) sc__law_any_formula.nd rfl (.inl rfl) (pe_own c_law_pick hr (by omega) (by rfl) (pa_cons (pv 0) (pa_cons (pe_lst (pa_cons pe_str (pa_cons pe_str (pa_cons pe_str (pa_cons pe_str (pa_cons pe_str (pa_cons pe_str pa_nil))))))) pa_nil))))
      (pss_one (ps_ret (pe_tup (pa_cons (pe_own c_law_pick hr (by omega) (by rfl) (pa_cons (pv 0) (pa_cons (pe_lst (pa_cons pe_str (pa_cons pe_str pa_nil))) pa_nil))) (pa_cons (pv 4) (pa_cons (pe_own c_law_any_formula hr (by omega) (by rfl) (pa_cons (pv 0) (pa_cons (pv 1) (pa_cons (pe_op op_sub (pv 2) pe_int) pa_nil)))) pa_nil))))))) pss_nil)
      (C8.pss_cut (ps_if (PW.pt (pw_and (pt_cmpR op_lt (pv 3) pe_int (nomark _)) (pw_and1 (pt_cmpR op_gt (pe_ix ix_list (pv 1) pe_int (fun _ _ => rfl)) pe_int (nomark _))))) (pss_cons (ps_asg (pe_op op_sub (pe_ix ix_list (pv 1) pe_int (fun _ _ => rfl)) pe_int) (pg_sub (pv 1) pe_int set_list))
      (pss_cons (ps_set (i := 5) sc__law_any_formula.nd rfl (.inl rfl) (pe_own c_law_any_formula hr (by omega) (by rfl) (pa_cons (pv 0) (pa_cons (pv 1) (pa_cons (pe_op op_sub (pv 2) pe_int) pa_nil)))))
      (pss_one (ps_ret (pe_tup (pa_cons (pe_own c_law_pick hr (by omega) (by rfl) (pa_cons (pv 0) (pa_cons (pe_lst (pa_cons pe_str (pa_cons pe_str pa_nil))) pa_nil))) (pa_cons (pv 5) (pa_cons (pe_own c_law_any_formula hr (by omega) (by rfl) (pa_cons (pv 0) (pa_cons (pv 1) (pa_cons (pe_op op_sub (pv 2) pe_int) pa_nil)))) pa_nil)))))))) pss_nil)
      (pss_cons (ps_if (pt_cmpR op_lt (pv 3) pe_int (nomark _)) (pss_one (ps_ret (pe_tup (pa_cons pe_str (pa_cons (pe_own c_law_any_formula hr (by omega) (by rfl) (pa_cons (pv 0) (pa_cons (pv 1) (pa_cons (pe_op op_sub (pv 2) pe_int) pa_nil)))) pa_nil))))) pss_nil)
      (pss_cons (ps_set (i := 6) sc__law_any_formula.nd rfl (.inl rfl) (pe_own c_law_draw hr (by omega) (by rfl) (pa_cons (pv 0) (pa_cons pe_int pa_nil))))
      (pss_cons (ps_par (i := 7) (j := 8) rfl sc__law_any_formula.nd rfl rfl (by decide) rfl rfl (pa_cons (pe_own c_law_pick hr (by omega) (by rfl) (pa_cons (pv 0) (pa_cons (pe_lst (pa_cons pe_str (pa_cons pe_str (pa_cons pe_str pa_nil)))) pa_nil))) (pa_cons (pe_own c_law_pick hr (by omega) (by rfl) (pa_cons (pv 0) (pa_cons (pe_lst (pa_cons pe_str (pa_cons pe_str (pa_cons pe_str pa_nil)))) pa_nil))) pa_nil)) (by rfl))
      (pss_cons (ps_if (pt_cmpR op_eq (pv 6) pe_int (nomark _)) (pss_one (ps_ret (pe_tup (pa_cons pe_str (pa_cons (pe_own c_law_pick hr (by omega) (by rfl) (pa_cons (pv 0) (pa_cons (pe_lst (pa_cons pe_str (pa_cons pe_str (pa_cons pe_str pa_nil)))) pa_nil))) (pa_cons (pv 7) pa_nil)))))) pss_nil)
      (pss_cons (ps_if (pt_cmpR op_eq (pv 6) pe_int (nomark _)) (pss_one (ps_ret (pe_tup (pa_cons pe_str (pa_cons (pv 7) (pa_cons (pe_own c_law_pick hr (by omega) (by rfl) (pa_cons (pv 0) (pa_cons (pe_lst (pa_cons pe_str (pa_cons pe_str (pa_cons pe_str pa_nil)))) pa_nil))) pa_nil)))))) pss_nil)
      (pss_cons (ps_if (pt_cmpR op_eq (pv 6) pe_int (nomark _)) (pss_one (ps_ret (pe_tup (pa_cons pe_str (pa_cons (pe_own c_law_name hr (by omega) (by rfl) (pa_cons (pv 0) pa_nil)) pa_nil))))) pss_nil)
      (pss_one (ps_ret (pe_tup (pa_cons (pe_ix ix_list (pe_lst (pa_cons pe_str (pa_cons pe_str (pa_cons pe_str pa_nil)))) (pe_op op_sub (pv 6) pe_int) (fun _ _ => rfl)) (pa_cons (pv 7) (pa_cons (pv 8) pa_nil))))))))))))))), ?_⟩
  -- the way
  refine ⟨fun σ' H1 => ∃ way : Int, σ' = [some (.ref r), some (.ref k), some (.int e), some (.int way), none, none, none, none, none] ∧ 0 ≤ way ∧ (way = 8 ∨ (way < 9 ∧ 1 ≤ n)) ∧ Rng H1 r l ∧ Kp r H H1, ?_, ?_⟩
  · refine ⟨_, rfl, _, _, rfl, rfl, _, rfl, ite2 (fun hc => ?_) (fun _ => ?_)⟩
    · have hc' : e > 1 := of_decide_eq_true hc
      refine ⟨_, rfl, r, l, _, rfl, by decide, by decide, g, fun v H1 hv0 hv1 g1 k1 => ?_⟩
      exact ⟨v, rfl, hv0, .inr ⟨hv1, by omega⟩, g1, k1⟩
    · exact ⟨8, rfl, by decide, .inl rfl, g, Kp.refl r H⟩
  rintro σ' H1 ⟨way, rfl, w0, w1, g1, k1⟩
  have hk1 : H1 k = some (.lst [.int a]) := k1 _ _ kr hk
  have en : e - 1 = (n : Int) := by omega
  -- what is picked among texts
  have pk : ∀ {H2 : Hp} {a2 : Int} {xs : List V} {Q2 : VK}, Rng H2 r l → H2 k = some (.lst [.int a2]) → 0 < xs.length → xs.length ≤ 1000 → (∀ (j : Nat) x H', xs[j]? = some x → Rng H' r l → H' k = some (.lst [.int a2]) → Kp r H2 H' → Q2 x H') →
      ∀ p, H2 p = none → spPick [.ref r, .ref p] (upd H2 p (.lst xs)) Q2 E0 := by
    intro H2 a2 xs Q2 g2 hk2 h0 h1 hq p hp
    obtain ⟨z2, hz2⟩ := g2.lst
    refine ⟨r, l, p, xs, rfl, g2.new hp, upd_same, (ne_of_none hz2 hp).symm, h0, h1, fun j x H' e g' k' => ?_⟩
    exact hq j x H' e g' (k' _ _ kr (by rw [upd_ne (ne_of_none hk2 hp)]; exact hk2)) ((Kp.new hp).trans k')
  have lt : ∀ {b : Bool}, ¬ b = true → b = false := fun h => Bool.eq_false_iff.mpr h
  refine ⟨_, rfl, _, _, rfl, rfl, _, rfl, ite2 (fun _ => ?_) (fun hc => ?_)⟩
  · -- some, all
    rename_i hw
    have hw3 : way < 3 := of_decide_eq_true hw
    have hn : 1 ≤ n := by omega
    refine ⟨_, rfl, (by show 6 ≤ sizeLine; decide), fun p hp => ?_⟩
    refine pk g1 hk1 (by show 0 < 6; decide) (by show 6 ≤ 1000; decide) (fun j x H2 ex g2 hk2 k2 => ?_) p hp
    obtain ⟨y, rfl, hy⟩ := pick6 ex
    refine ⟨_, rfl, (by show 2 ≤ sizeLine; decide), fun p2 hp2 => ?_⟩
    refine pk g2 hk2 (by show 0 < 2; decide) (by show 2 ≤ 1000; decide) (fun j2 x2 H3 ex2 g3 hk3 k3 => ?_) p2 hp2
    obtain ⟨kd, rfl, hkd⟩ := pick2 ex2
    refine ⟨_, rfl, _, rfl, _, rfl, _, rfl, _, _, rfl, rfl, ?_⟩
    refine ⟨r, l, k, a, _, rfl, en, hn, ⟨by omega, ha⟩, g3, hk3, kr, kl, fun v t a2 H4 hv ho hdp hb g4 hk4 k4 => ?_⟩
    refine ⟨(by show 3 ≤ sizeLine; decide), fun p3 hp3 => ?_⟩
    exact q _ (.qu kd y t) a2 _ (fv_qu (SqT.of upd_same) (FV.tp (tp_new hp3) _ hv)) ⟨hkd, hy, ho⟩ (by rw [Fm.dep]; omega) ⟨hb.1, hb.2.1, by have := hb.2.2; have := tl_qu (f := t) hkd hy; omega⟩ (g4.new hp3) (by rw [upd_ne (ne_of_none hk4 hp3)]; exact hk4) ((k1.trans (k2.trans k3)).two.trans (k4.trans (Kp.new hp3).two))
  have n3 : ¬ way < 3 := of_decide_eq_false (lt hc)
  -- and, or
  refine ⟨fun σ' H2 => σ' = [some (.ref r), some (.ref k), some (.int e), some (.int way), none, none, none, none, none] ∧ H2 = H1, ?_, ?_⟩
  · refine ⟨_, rfl, _, _, rfl, rfl, _, rfl, ite2 (fun c6 => ?_) (fun _ => ⟨rfl, rfl⟩)⟩
    refine ⟨_, rfl, _, _, _, _, rfl, rfl, SqL.of hk1, rfl, _, _, rfl, rfl, _, rfl, ite2 (fun ca => ?_) (fun _ => ⟨rfl, rfl⟩)⟩
    have ca : a > 1 := of_decide_eq_true ca
    have c6' : way < 6 := of_decide_eq_true c6
    have hn : 1 ≤ n := by omega
    refine ⟨_, rfl, _, _, _, _, rfl, rfl, SqL.of hk1, rfl, _, _, rfl, rfl, _, rfl, k, _, 0, 0, rfl, rfl, hk1, rfl, ?_⟩
    have k2 : Kp2 r k H1 (upd H1 k (.lst [.int (a - 1)])) := Kp2.at
    have g2 : Rng (upd H1 k (.lst [.int (a - 1)])) r l := g1.of (fun o h => by rw [upd_ne kr.symm]; exact h) (fun o h => by rw [upd_ne kl.symm]; exact h)
    refine ⟨_, rfl, _, rfl, _, rfl, _, _, rfl, rfl, ?_⟩
    refine ⟨r, l, k, a - 1, _, rfl, en, hn, ⟨by omega, by omega⟩, g2, upd_same, kr, kl, fun v1 t1 a1 H3 hv1 ho1 hd1 hb1 g3 hk3 k3 => ?_⟩
    refine ⟨_, rfl, (by show 2 ≤ sizeLine; decide), fun p2 hp2 => ?_⟩
    refine pk g3 hk3 (by show 0 < 2; decide) (by show 2 ≤ 1000; decide) (fun j2 x2 H4 ex2 g4 hk4 k4 => ?_) p2 hp2
    obtain ⟨kd, rfl, hkd⟩ := pick2 ex2
    refine ⟨_, rfl, _, rfl, _, rfl, _, rfl, _, _, rfl, rfl, ?_⟩
    refine ⟨r, l, k, a1, _, rfl, en, hn, ⟨by omega, hb1.1⟩, g4, hk4, kr, kl, fun v2 t2 a2 H5 hv2 ho2 hd2 hb2 g5 hk5 k5 => ?_⟩
    refine ⟨(by show 3 ≤ sizeLine; decide), fun p3 hp3 => ?_⟩
    obtain ⟨z3, hz3⟩ := g3.lst
    obtain ⟨z4, hz4⟩ := g4.lst
    have tv : Tp H3 (upd H5 p3 (.tup [.str kd, v1, v2])) := (k4.tp hz3).trans ((k5.tp hz4 hk4).trans (tp_new hp3))
    exact q _ (.bin kd t1 t2) a2 _ (fv_bin (SqT.of upd_same) (FV.tp tv _ hv1) (FV.tp (tp_new hp3) _ hv2)) ⟨hkd, ho1, ho2⟩ (by rw [Fm.dep]; omega) ⟨hb2.1, by have := hb1.2.1; have := hb2.2.1; omega, by have := hb1.2.2; have := hb2.2.2; have := tl_bin (f := t1) (g := t2) hkd; omega⟩ (g5.new hp3) (by rw [upd_ne (ne_of_none hk5 hp3)]; exact hk5) (k1.two.trans (k2.trans (k3.trans (k4.two.trans (k5.trans (Kp.new hp3).two)))))
  rintro σ' H2 ⟨rfl, rfl⟩
  refine ⟨_, rfl, _, _, rfl, rfl, _, rfl, ite2 (fun c8 => ?_) (fun c8 => ?_)⟩
  · -- not
    have c8' : way < 8 := of_decide_eq_true c8
    have hn : 1 ≤ n := by omega
    refine ⟨_, rfl, _, rfl, _, rfl, _, _, rfl, rfl, ?_⟩
    refine ⟨r, l, k, a, _, rfl, en, hn, ⟨by omega, ha⟩, g1, hk1, kr, kl, fun v1 t1 a1 H3 hv1 ho1 hd1 hb1 g3 hk3 k3 => ?_⟩
    refine ⟨(by show 2 ≤ sizeLine; decide), fun p3 hp3 => ?_⟩
    exact q _ (.neg t1) a1 _ (fv_neg (SqT.of upd_same) (FV.tp (tp_new hp3) _ hv1)) ho1 (by rw [Fm.dep]; omega) ⟨hb1.1, hb1.2.1, by have := hb1.2.2; have := tl_neg (f := t1); omega⟩ (g3.new hp3) (by rw [upd_ne (ne_of_none hk3 hp3)]; exact hk3) (k1.two.trans (k3.trans (Kp.new hp3).two))
  -- an atom
  refine ⟨_, rfl, r, l, _, rfl, by decide, by decide, g1, fun kd H3 kd0 kd1 g3 k3 => ?_⟩
  have kd1' : kd < 6 := kd1
  have hk3 : H3 k = some (.lst [.int a]) := k3 _ _ kr hk1
  refine ⟨_, rfl, (by show 3 ≤ sizeLine; decide), fun p hp => ?_⟩
  refine pk g3 hk3 (by show 0 < 3; decide) (by show 3 ≤ 1000; decide) (fun j x H4 ex g4 hk4 k4 => ?_) p hp
  obtain ⟨one, rfl, h1⟩ := pick3 ex
  refine ⟨_, rfl, (by show 3 ≤ sizeLine; decide), fun p2 hp2 => ?_⟩
  refine pk g4 hk4 (by show 0 < 3; decide) (by show 3 ≤ 1000; decide) (fun j2 x2 H5 ex2 g5 hk5 k5 => ?_) p2 hp2
  obtain ⟨oth, rfl, h2⟩ := pick3 ex2
  have kk : Kp r H H5 := (k1.trans k3).trans (k4.trans k5)
  refine ⟨_, _, rfl, ?_⟩
  refine ⟨_, rfl, rfl, _, rfl, ite2 (fun _ => ?_) (fun c0 => ?_)⟩
  · refine ⟨_, rfl, (by show 3 ≤ sizeLine; decide), fun p3 hp3 => ?_⟩
    refine pk g5 hk5 (by show 0 < 3; decide) (by show 3 ≤ 1000; decide) (fun j3 x3 H6 ex3 g6 hk6 k6 => ?_) p3 hp3
    obtain ⟨c, rfl, hc⟩ := pick3 ex3
    refine ⟨_, rfl, (by show 3 ≤ sizeLine; decide), fun p4 hp4 => ?_⟩
    exact q _ (.rel "letter" c one) a _ (fv_rel (SqT.of upd_same)) (.ltr hc h1) (by rw [Fm.dep]; omega) ⟨ha, Int.le_refl _, by have := tl_rel (k := "letter") (a := c) (b := one) (.ltr hc h1); omega⟩ (g6.new hp4) (by rw [upd_ne (ne_of_none hk6 hp4)]; exact hk6) (kk.trans (k6.trans (Kp.new hp4))).two
  refine ⟨_, rfl, rfl, _, rfl, ite2 (fun _ => ?_) (fun c4 => ?_)⟩
  · refine ⟨_, rfl, _, rfl, (by show 3 ≤ sizeLine; decide), fun p3 hp3 => ?_⟩
    refine pk g5 hk5 (by show 0 < 3; decide) (by show 3 ≤ 1000; decide) (fun j3 x3 H6 ex3 g6 hk6 k6 => ?_) p3 hp3
    obtain ⟨c, rfl, hc⟩ := pick3 ex3
    refine ⟨(by show 3 ≤ sizeLine; decide), fun p4 hp4 => ?_⟩
    exact q _ (.rel "in" one c) a _ (fv_rel (SqT.of upd_same)) (.el h1 hc) (by rw [Fm.dep]; omega) ⟨ha, Int.le_refl _, by have := tl_rel (k := "in") (a := one) (b := c) (.el h1 hc); omega⟩ (g6.new hp4) (by rw [upd_ne (ne_of_none hk6 hp4)]; exact hk6) (kk.trans (k6.trans (Kp.new hp4))).two
  refine ⟨_, rfl, rfl, _, rfl, ite2 (fun _ => ?_) (fun c5 => ?_)⟩
  · refine ⟨_, rfl, r, l, rfl, g5, fun c H6 hc g6 k6 => ?_⟩
    refine ⟨(by show 2 ≤ sizeLine; decide), fun p4 hp4 => ?_⟩
    have hk6 := k6 _ _ kr hk5
    exact q _ (.nam c) a _ (fv_nam (SqT.of upd_same)) hc (by rw [Fm.dep]; omega) ⟨ha, Int.le_refl _, by have := tl_nam hc; omega⟩ (g6.new hp4) (by rw [upd_ne (ne_of_none hk6 hp4)]; exact hk6) (kk.trans (k6.trans (Kp.new hp4))).two
  have m0 : kd ≠ 0 := fun e => c0 (by rw [e]; exact decide_eq_true rfl)
  have m4 : kd ≠ 4 := fun e => c4 (by rw [e]; exact decide_eq_true rfl)
  have m5 : kd ≠ 5 := fun e => c5 (by rw [e]; exact decide_eq_true rfl)
  have h9 : kd = 1 ∨ kd = 2 ∨ kd = 3 := by omega
  refine ⟨(by show 3 ≤ sizeLine; decide), fun p3 hp3 => ?_⟩
  have S3 := Kp.new (r := r) (o := .lst [.str "before", .str "next", .str "same"]) hp3
  have g6 := g5.new (o := .lst [.str "before", .str "next", .str "same"]) hp3
  have hk6 : (upd H5 p3 (.lst [.str "before", .str "next", .str "same"])) k = some (.lst [.int a]) := by rw [upd_ne (ne_of_none hk5 hp3)]; exact hk5
  rcases h9 with h9 | h9 | h9
  · refine ⟨_, rfl, _, _, rfl, rfl, _, _, _, _, rfl, rfl, SqL.of upd_same, at_of (j := 0) (show kd - 1 = 0 by omega) rfl, _, rfl, _, rfl, (by show 3 ≤ sizeLine; decide), fun p4 hp4 => ?_⟩
    exact q _ (.rel "before" one oth) a _ (fv_rel (SqT.of upd_same)) (.pl (.inl rfl) h1 h2) (by rw [Fm.dep]; omega) ⟨ha, Int.le_refl _, by have := tl_rel (k := "before") (a := one) (b := oth) (.pl (.inl rfl) h1 h2); omega⟩ (g6.new hp4) (by rw [upd_ne (ne_of_none hk6 hp4)]; exact hk6) (kk.trans (S3.trans (Kp.new hp4))).two
  · refine ⟨_, rfl, _, _, rfl, rfl, _, _, _, _, rfl, rfl, SqL.of upd_same, at_of (j := 1) (show kd - 1 = 1 by omega) rfl, _, rfl, _, rfl, (by show 3 ≤ sizeLine; decide), fun p4 hp4 => ?_⟩
    exact q _ (.rel "next" one oth) a _ (fv_rel (SqT.of upd_same)) (.pl (.inr (.inl rfl)) h1 h2) (by rw [Fm.dep]; omega) ⟨ha, Int.le_refl _, by have := tl_rel (k := "next") (a := one) (b := oth) (.pl (.inr (.inl rfl)) h1 h2); omega⟩ (g6.new hp4) (by rw [upd_ne (ne_of_none hk6 hp4)]; exact hk6) (kk.trans (S3.trans (Kp.new hp4))).two
  · refine ⟨_, rfl, _, _, rfl, rfl, _, _, _, _, rfl, rfl, SqL.of upd_same, at_of (j := 2) (show kd - 1 = 2 by omega) rfl, _, rfl, _, rfl, (by show 3 ≤ sizeLine; decide), fun p4 hp4 => ?_⟩
    exact q _ (.rel "same" one oth) a _ (fv_rel (SqT.of upd_same)) (.pl (.inr (.inr rfl)) h1 h2) (by rw [Fm.dep]; omega) ⟨ha, Int.le_refl _, by have := tl_rel (k := "same") (a := one) (b := oth) (.pl (.inr (.inr rfl)) h1 h2); omega⟩ (g6.new hp4) (by rw [upd_ne (ne_of_none hk6 hp4)]; exact hk6) (kk.trans (S3.trans (Kp.new hp4))).two
theorem ok_any (D : Df K mg "_law_any_formula" s__law_any_formula ["_law_rng", "_law_kit", "_law_deep"]) (bi : Bi mg) (c_law_draw : Cal P w K mg base 1 "_law_draw" ["_law_rng", "_law_many"] spDraw) (c_law_pick : Cal P w K mg base 2 "_law_pick" ["_law_rng", "_law_things"] spPick) (c_law_name : Cal P w K mg base 2 "_law_name" ["_law_rng"] spName) :
    ∀ n : Nat, Cal P w K mg base (n + 2) "_law_any_formula" ["_law_rng", "_law_kit", "_law_deep"] (spAnyF K n)
  | 0 => D.no fun vs H Q E h => by
    obtain ⟨r, l, k, a, e, _, _, h1, _⟩ := h
    omega
  | n + 1 => ok_any1 D bi c_law_draw c_law_pick c_law_name (ok_any D bi c_law_draw c_law_pick c_law_name n)
/-! ### the text of a formula -/
def spTxt (K : PySem.W.Frag) (n : Nat) : Sp := fun vs H Q _ => ∃ v t, vs = [v] ∧ FV K H v t ∧ t.Ok ∧ t.dep ≤ n ∧ n ≤ 6 ∧ ∀ H', Same H H' → Q (.str t.txt) H'
theorem t640 {f : Fm} {n : Nat} (o : f.Ok) (h : f.dep ≤ n) (h6 : n ≤ 6) : f.txt.length ≤ 640 := f.txt_640 o (Nat.le_trans h h6)
theorem sgn_get {k a b : Str} (o : RelOk k a b) (hk : k ≠ "letter") : valV (mergeK [] [((.inr "before" : Key), V.str "<"), (.inr "same", .str "="), (.inr "next", .str "next"), (.inr "in", .str "in")]) (.inr k) = some (.str (sgn k)) := by
  rcases kd_rel o with e | e | e | e | e
  · exact absurd e hk
  all_goals (rw [e]; decide +kernel)
theorem sc__law_written : FnScope ["_law_formula", "_law_word"] ["_law_formula"] (defScope s__law_written) := ⟨rfl, rfl, rfl, by decide +kernel, rfl, by decide +kernel, by decide +kernel⟩
theorem ok_written1 {n : Nat} (D : Df K mg "_law_written" s__law_written ["_law_formula"]) (bi : Bi mg) (c_law_written : Cal P w K mg base n "_law_written" ["_law_formula"] (spTxt K n)) :
    Cal P w K mg base (n + 1) "_law_written" ["_law_formula"] (spTxt K (n + 1)) := by
  refine D.ok sc__law_written (fun vs H Q E h => ?_) (fun f cdv A outer s H vs Q E hr h => ?_)
  · obtain ⟨v, t, rfl, _⟩ := h
    rfl
  obtain ⟨v, t, rfl, hv, ho, hd, h6, q⟩ := h
  refine ⟨_, (pss_cons (ps_set (i := 1) sc__law_written.nd rfl (.inl rfl) (pe_ix ix_tup (pv 0) pe_int (fun _ _ => rfl)))
      (pss_cons (ps_if (pt_cmpR op_eq (pv 1) pe_str (nomark _)) (pss_one (ps_ret (pe_op op_add_str (pe_op op_add_str (pe_op op_add_str (pe_ix ix_tup (pv 0) pe_int (fun _ _ => rfl)) pe_str) (pe_ix ix_tup (pv 0) pe_int (fun _ _ => rfl))) pe_str))) pss_nil)
      (pss_cons (ps_if (pt_cmpR op_eq (pv 1) pe_str (nomark _)) (pss_one (ps_ret (pe_op op_add_str (pe_op op_add_str pe_str (pe_ix ix_tup (pv 0) pe_int (fun _ _ => rfl))) pe_str))) pss_nil)
      (pss_cons (ps_if (pt_cmpR op_eq (pv 1) pe_str (nomark _)) (pss_one (ps_ret (pe_op op_add_str pe_str (pe_own c_law_written hr (by omega) (by rfl) (pa_cons (pe_ix ix_tup (pv 0) pe_int (fun _ _ => rfl)) pa_nil))))) pss_nil)
      (pss_cons (ps_if (PW.pt (pw_or (pt_cmpR op_eq (pv 1) pe_str (nomark _)) (pw_or1 (pt_cmpR op_eq (pv 1) pe_str (nomark _))))) (pss_one (ps_ret (pe_op op_add_str (pe_op op_add_str (pe_op op_add_str (pe_op op_add_str (pv 1) pe_str) (pe_ix ix_tup (pv 0) pe_int (fun _ _ => rfl))) pe_str) (pe_own c_law_written hr (by omega) (by rfl) (pa_cons (pe_ix ix_tup (pv 0) pe_int (fun _ _ => rfl)) pa_nil))))) pss_nil)
      (pss_cons (ps_if (PW.pt (pw_or (pt_cmpR op_eq (pv 1) pe_str (nomark _)) (pw_or1 (pt_cmpR op_eq (pv 1) pe_str (nomark _))))) (pss_one (ps_ret (pe_op op_add_str (pe_op op_add_str (pe_op op_add_str (pe_op op_add_str (pe_op op_add_str (pe_op op_add_str pe_str (pe_own c_law_written hr (by omega) (by rfl) (pa_cons (pe_ix ix_tup (pv 0) pe_int (fun _ _ => rfl)) pa_nil))) pe_str) (pv 1)) pe_str) (pe_own c_law_written hr (by omega) (by rfl) (pa_cons (pe_ix ix_tup (pv 0) pe_int (fun _ _ => rfl)) pa_nil))) pe_str))) pss_nil)
      (pss_one (ps_ret (pe_op op_add_str (pe_op op_add_str (pe_op op_add_str (pe_op op_add_str (pe_ix ix_tup (pv 0) pe_int (fun _ _ => rfl)) pe_str) (pe_dget (hu_of hr) (pe_disp (pps_cons pe_str pe_str (pps_cons pe_str pe_str (pps_cons pe_str pe_str (pps_cons pe_str pe_str pps_nil)))) (by rfl) (by rfl) (fun z => by cases z) (by decide)) (pv 1) (fun _ _ => rfl))) pe_str) (pe_ix ix_tup (pv 0) pe_int (fun _ _ => rfl))))))))))), ?_⟩
  have at_ := hv.at
  cases at_ with
  | @rel p k a b e s =>
    cases e
    have qq := q H (Same.refl H)
    have lr := len_rel ho
    have lsg := len_sgn ho
    by_cases hk : k = "letter"
    · subst hk
      rw [Fm.txt, if_pos rfl] at qq
      refine ⟨_, rfl, _, _, _, _, rfl, rfl, s, rfl, _, rfl, rfl, eq_yes rfl ?_⟩
      refine ⟨_, rfl, _, _, _, _, rfl, rfl, s, rfl, _, _, rfl, rfl, fit ?_, _, rfl, _, _, _, _, rfl, rfl, s, rfl, _, _, rfl, rfl, fit ?_, _, _, rfl, rfl, fit ?_, qq⟩
      all_goals (simp only [len_app, l_lp, l_rp]; omega)
    · rw [Fm.txt, if_neg hk] at qq
      refine ⟨_, rfl, _, _, _, _, rfl, rfl, s, rfl, _, rfl, rfl, eq_no hk ?_⟩
      refine ⟨_, rfl, rfl, eq_no (rel_ne ho (by decide +kernel)) ?_⟩
      refine ⟨_, rfl, rfl, eq_no (rel_ne ho (by decide +kernel)) ?_⟩
      refine ⟨_, rfl, rfl, eq_no (rel_ne ho (by decide +kernel)) ?_⟩
      refine ⟨_, rfl, rfl, eq_no (rel_ne ho (by decide +kernel)) ?_⟩
      refine ⟨_, rfl, rfl, eq_no (rel_ne ho (by decide +kernel)) ?_⟩
      refine ⟨_, rfl, rfl, eq_no (rel_ne ho (by decide +kernel)) ?_⟩
      refine ⟨_, rfl, _, _, _, _, rfl, rfl, s, rfl, _, _, rfl, rfl, fit ?_, fun p2 hp2 => ?_⟩
      · simp only [l_sp]; omega
      refine ⟨upd_same, [((.inr "before" : Key), V.str "<"), (.inr "same", .str "="), (.inr "next", .str "next"), (.inr "in", .str "in")], rfl, by decide, ?_⟩
      refine ⟨_, rfl, p2, .str (sgn k), rfl, .inl ⟨_, .inr k, .inl upd_same, rfl, (sgn_get ho hk).symm⟩, ?_⟩
      have tt : Tp H (upd (upd H p2 (.dK [])) p2 (.dK (mergeK [] [((.inr "before" : Key), V.str "<"), (.inr "same", .str "="), (.inr "next", .str "next"), (.inr "in", .str "in")]))) := by
        rw [upd_upd]
        exact tp_new hp2
      have ss : Same H (upd (upd H p2 (.dK [])) p2 (.dK (mergeK [] [((.inr "before" : Key), V.str "<"), (.inr "same", .str "="), (.inr "next", .str "next"), (.inr "in", .str "in")]))) := by
        rw [upd_upd]
        exact same_new hp2
      have qq := q _ ss
      rw [Fm.txt, if_neg hk] at qq
      refine ⟨_, _, rfl, rfl, fit ?_, _, _, rfl, rfl, fit ?_, _, rfl, _, _, _, _, rfl, rfl, tt.sq s, rfl, _, _, rfl, rfl, fit ?_, qq⟩
      all_goals (simp only [len_app, l_sp]; omega)
  | @nam p c e s =>
    cases e
    have qq := q H (Same.refl H)
    rw [Fm.txt] at qq
    have lc : c.length ≤ 8 := ho.2.1
    refine ⟨_, rfl, _, _, _, _, rfl, rfl, s, rfl, _, rfl, rfl, eq_no (by decide +kernel) ?_⟩
    refine ⟨_, rfl, rfl, eq_yes rfl ?_⟩
    refine ⟨_, rfl, _, _, _, _, rfl, rfl, s, rfl, _, _, rfl, rfl, fit ?_, _, _, rfl, rfl, fit ?_, qq⟩
    all_goals (simp only [len_app, l_lb, l_rb]; omega)
  | @neg p x f e s hx =>
    cases e
    rw [Fm.dep] at hd
    refine ⟨_, rfl, _, _, _, _, rfl, rfl, s, rfl, _, rfl, rfl, eq_no (by decide +kernel) ?_⟩
    refine ⟨_, rfl, rfl, eq_no (by decide +kernel) ?_⟩
    refine ⟨_, rfl, rfl, eq_yes rfl ?_⟩
    refine ⟨_, rfl, _, _, _, _, rfl, rfl, s, rfl, x, f, rfl, hx, ho, by omega, by omega, fun H1 k1 => ?_⟩
    have qq := q H1 k1
    rw [Fm.txt] at qq
    have l1 := t640 (n := n) (show f.Ok from ho) (by omega) (by omega)
    refine ⟨_, _, rfl, rfl, fit ?_, qq⟩
    simp only [l_not]
    omega
  | @bin p x y k f g e s hx hy =>
    cases e
    rw [Fm.dep] at hd
    have l1 := t640 (n := n) ho.2.1 (by omega) (by omega)
    have l2 := t640 (n := n) ho.2.2 (by omega) (by omega)
    have l3 := len_bin ho.1
    rcases ho.1 with rfl | rfl
    · refine ⟨_, rfl, _, _, _, _, rfl, rfl, s, rfl, _, rfl, rfl, eq_no (by decide +kernel) ?_⟩
      refine ⟨_, rfl, rfl, eq_no (by decide +kernel) ?_⟩
      refine ⟨_, rfl, rfl, eq_no (by decide +kernel) ?_⟩
      refine ⟨_, rfl, rfl, eq_no (by decide +kernel) ?_⟩
      refine ⟨_, rfl, rfl, eq_no (by decide +kernel) ?_⟩
      refine ⟨_, rfl, rfl, eq_yes rfl ?_⟩
      refine ⟨_, rfl, _, _, _, _, rfl, rfl, s, rfl, x, f, rfl, hx, ho.2.1, by omega, by omega, fun H1 k1 => ?_⟩
      refine ⟨_, _, rfl, rfl, fit ?_, _, _, rfl, rfl, fit ?_, _, rfl, _, _, rfl, rfl, fit ?_, _, _, rfl, rfl, fit ?_, _, rfl, _, _, _, _, rfl, rfl, (tp_same k1).sq s, rfl, y, g, rfl, FV.tp (tp_same k1) _ hy, ho.2.2, by omega, by omega, fun H2 k2 => ?_⟩
      rotate_right
      · have qq := q H2 (k1.trans k2)
        rw [Fm.txt] at qq
        refine ⟨_, _, rfl, rfl, fit ?_, _, _, rfl, rfl, fit ?_, qq⟩
        all_goals (simp only [len_app, l_lp, l_rp, l_sp]; omega)
      all_goals (simp only [len_app, l_lp, l_rp, l_sp]; omega)
    · refine ⟨_, rfl, _, _, _, _, rfl, rfl, s, rfl, _, rfl, rfl, eq_no (by decide +kernel) ?_⟩
      refine ⟨_, rfl, rfl, eq_no (by decide +kernel) ?_⟩
      refine ⟨_, rfl, rfl, eq_no (by decide +kernel) ?_⟩
      refine ⟨_, rfl, rfl, eq_no (by decide +kernel) ?_⟩
      refine ⟨_, rfl, rfl, eq_no (by decide +kernel) ?_⟩
      refine ⟨_, rfl, rfl, eq_no (by decide +kernel) ?_⟩
      refine ⟨_, rfl, rfl, eq_yes rfl ?_⟩
      refine ⟨_, rfl, _, _, _, _, rfl, rfl, s, rfl, x, f, rfl, hx, ho.2.1, by omega, by omega, fun H1 k1 => ?_⟩
      refine ⟨_, _, rfl, rfl, fit ?_, _, _, rfl, rfl, fit ?_, _, rfl, _, _, rfl, rfl, fit ?_, _, _, rfl, rfl, fit ?_, _, rfl, _, _, _, _, rfl, rfl, (tp_same k1).sq s, rfl, y, g, rfl, FV.tp (tp_same k1) _ hy, ho.2.2, by omega, by omega, fun H2 k2 => ?_⟩
      rotate_right
      · have qq := q H2 (k1.trans k2)
        rw [Fm.txt] at qq
        refine ⟨_, _, rfl, rfl, fit ?_, _, _, rfl, rfl, fit ?_, qq⟩
        all_goals (simp only [len_app, l_lp, l_rp, l_sp]; omega)
      all_goals (simp only [len_app, l_lp, l_rp, l_sp]; omega)
  | @qu p x k y f e s hx =>
    cases e
    rw [Fm.dep] at hd
    have l1 := t640 (n := n) ho.2.2 (by omega) (by omega)
    have l2 := len_vrs ho.2.1
    have l3 := len_qu ho.1
    rcases ho.1 with rfl | rfl
    · refine ⟨_, rfl, _, _, _, _, rfl, rfl, s, rfl, _, rfl, rfl, eq_no (by decide +kernel) ?_⟩
      refine ⟨_, rfl, rfl, eq_no (by decide +kernel) ?_⟩
      refine ⟨_, rfl, rfl, eq_no (by decide +kernel) ?_⟩
      refine ⟨_, rfl, rfl, eq_yes rfl ?_⟩
      refine ⟨_, rfl, _, _, rfl, rfl, fit ?_, _, rfl, _, _, _, _, rfl, rfl, s, rfl, _, _, rfl, rfl, fit ?_, _, _, rfl, rfl, fit ?_, _, rfl, _, _, _, _, rfl, rfl, s, rfl, x, f, rfl, hx, ho.2.2, by omega, by omega, fun H1 k1 => ?_⟩
      rotate_right
      · have qq := q H1 k1
        rw [Fm.txt] at qq
        refine ⟨_, _, rfl, rfl, fit ?_, qq⟩
        simp only [len_app, l_sp]
        omega
      all_goals (simp only [len_app, l_sp]; omega)
    · refine ⟨_, rfl, _, _, _, _, rfl, rfl, s, rfl, _, rfl, rfl, eq_no (by decide +kernel) ?_⟩
      refine ⟨_, rfl, rfl, eq_no (by decide +kernel) ?_⟩
      refine ⟨_, rfl, rfl, eq_no (by decide +kernel) ?_⟩
      refine ⟨_, rfl, rfl, eq_no (by decide +kernel) ?_⟩
      refine ⟨_, rfl, rfl, eq_yes rfl ?_⟩
      refine ⟨_, rfl, _, _, rfl, rfl, fit ?_, _, rfl, _, _, _, _, rfl, rfl, s, rfl, _, _, rfl, rfl, fit ?_, _, _, rfl, rfl, fit ?_, _, rfl, _, _, _, _, rfl, rfl, s, rfl, x, f, rfl, hx, ho.2.2, by omega, by omega, fun H1 k1 => ?_⟩
      rotate_right
      · have qq := q H1 k1
        rw [Fm.txt] at qq
        refine ⟨_, _, rfl, rfl, fit ?_, qq⟩
        simp only [len_app, l_sp]
        omega
      all_goals (simp only [len_app, l_sp]; omega)
theorem ok_written (D : Df K mg "_law_written" s__law_written ["_law_formula"]) (bi : Bi mg) : ∀ n : Nat, Cal P w K mg base n "_law_written" ["_law_formula"] (spTxt K n)
  | 0 => D.no fun vs H Q E h => by
    obtain ⟨v, t, _, _, _, h, _⟩ := h
    have := t.dep_pos
    omega
  | n + 1 => ok_written1 D bi (ok_written D bi n)
/-! ### _law_bent -/
theorem cut_to_len (z : Str) (n : Nat) : (cutS z none (some (n : Int))).length ≤ min n z.length := by
  show ((z.cps.toList.drop (HT.sIx z.length 0 none)).take (HT.sIx z.length z.length (some (n : Int)) - HT.sIx z.length 0 none)).toArray.size ≤ _
  rw [HT.sIx_nat, List.size_toArray, List.length_take, List.length_drop]
  have : z.cps.toList.length = z.length := by rw [len_ls]
  omega
theorem cut_from_len (z : Str) (n : Nat) : (cutS z (some (n : Int)) none).length ≤ z.length - n := by
  show ((z.cps.toList.drop (HT.sIx z.length 0 (some (n : Int)))).take (HT.sIx z.length z.length none - HT.sIx z.length 0 (some (n : Int)))).toArray.size ≤ _
  rw [HT.sIx_nat, List.size_toArray, List.length_take, List.length_drop]
  have : z.cps.toList.length = z.length := by rw [len_ls]
  omega
theorem sc__law_bent : FnScope ["_law_rng", "_law_text", "_law_signs", "_law_at", "_law_way", "_law_sign"] ["_law_rng", "_law_text", "_law_signs"] (defScope s__law_bent) := ⟨rfl, rfl, rfl, by decide +kernel, rfl, by decide +kernel, by decide +kernel⟩
def spBent : Sp := fun vs H Q _ => ∃ (r l a : Addr) (z : Str) (ys : List Str), vs = [.ref r, .str z, .ref a] ∧ Rng H r l ∧ z.length ≤ 49000 ∧ H a = some (.lst (ys.map V.str)) ∧ a ≠ r ∧ 0 < ys.length ∧ ys.length ≤ 1000 ∧ (∀ y ∈ ys, y.length ≤ 1) ∧ ∀ (o : Str) H', o.length ≤ z.length + 1 → Rng H' r l → Kp r H H' → Q (.str o) H'
theorem ok_bent (D : Df K mg "_law_bent" s__law_bent ["_law_rng", "_law_text", "_law_signs"]) (bi : Bi mg) (c_law_draw : Cal P w K mg base 1 "_law_draw" ["_law_rng", "_law_many"] spDraw) (c_law_pick : Cal P w K mg base 2 "_law_pick" ["_law_rng", "_law_things"] spPick) :
    Cal P w K mg base 3 "_law_bent" ["_law_rng", "_law_text", "_law_signs"] spBent := by
  refine D.ok sc__law_bent (fun vs H Q E h => ?_) (fun f cdv A outer s H vs Q E hr h => ?_)
  · obtain ⟨r, l, a, z, ys, rfl, _⟩ := h
    rfl
  obtain ⟨r, l, a, z, ys, rfl, g, hz, hA, har, y0, y1, hy, q⟩ := h
  refine ⟨_, (pss_cons (ps_par (i := 3) (j := 4) rfl sc__law_bent.nd rfl rfl (by decide) rfl rfl (pa_cons (pe_own c_law_draw hr (by omega) (by rfl) (pa_cons (pv 0) (pa_cons (pe_op op_add (pe_callB call_len_str (by rfl) bi.len PySem.boot_len (pa_cons (pv 1) pa_nil)) pe_int) pa_nil))) (pa_cons (pe_own c_law_draw hr (by omega) (by rfl) (pa_cons (pv 0) (pa_cons pe_int pa_nil))) pa_nil)) (by rfl))
      (pss_cons (ps_set (i := 5) sc__law_bent.nd rfl (.inl rfl) (pe_own c_law_pick hr (by omega) (by rfl) (pa_cons (pv 0) (pa_cons (pv 2) pa_nil))))
      (pss_one (ps_ret (pe_ix ix_list (pe_lst (pa_cons (pe_op op_add_str (pe_op op_add_str (pe_slice sl_str (pv 1) po_none (po_some (pv 3))) (pv 5)) (pe_slice sl_str (pv 1) (po_some (pv 3)) po_none)) (pa_cons (pe_op op_add_str (pe_slice sl_str (pv 1) po_none (po_some (pv 3))) (pe_slice sl_str (pv 1) (po_some (pe_op op_add (pv 3) pe_int)) po_none)) (pa_cons (pe_op op_add_str (pe_op op_add_str (pe_slice sl_str (pv 1) po_none (po_some (pv 3))) (pv 5)) (pe_slice sl_str (pv 1) (po_some (pe_op op_add (pv 3) pe_int)) po_none)) pa_nil)))) (pv 4) (fun _ _ => rfl)))))), ?_⟩
  refine ⟨_, rfl, _, rfl, _, rfl, fit (by omega), _, _, rfl, rfl, r, l, _, rfl, by omega, by omega, g, fun v H1 v0 v1 g1 k1 => ?_⟩
  refine ⟨_, rfl, r, l, _, rfl, by decide, by decide, g1, fun u H2 u0 u1 g2 k2 => ?_⟩
  refine ⟨_, _, rfl, ?_⟩
  have u3 : u < 3 := u1
  refine ⟨_, rfl, _, rfl, r, l, a, _, rfl, g2, k2 _ _ har (k1 _ _ har hA), har, by rw [List.length_map]; exact y0, by rw [List.length_map]; exact y1, fun j x H3 ex g3 k3 => ?_⟩
  rw [List.getElem?_map] at ex
  obtain ⟨y, hym, rfl⟩ := Option.map_eq_some_iff.mp ex
  have yl := hy y (List.mem_of_getElem? hym)
  have kk := (k1.trans k2).trans k3
  obtain ⟨n, rfl⟩ : ∃ n : Nat, v = (n : Int) := ⟨v.toNat, by omega⟩
  have e1 : ((n : Int) + 1) = ((n + 1 : Nat) : Int) := by omega
  have l1 := cut_to_len z n
  have l2 := cut_from_len z n
  have l3 := cut_from_len z (n + 1)
  refine ⟨_, rfl, _, rfl, _, rfl, _, rfl, fit (by omega), _, rfl, _, _, rfl, rfl, fit (by omega), _, rfl, _, rfl, _, rfl, _, rfl, fit (by omega), _, _, rfl, rfl, fit (by rw [len_app]; omega), ?_⟩
  refine ⟨_, rfl, _, rfl, _, rfl, _, rfl, fit (by omega), _, rfl, _, rfl, _, _, rfl, rfl, _, rfl, _, rfl, fit (by omega), _, _, rfl, rfl, fit (by rw [e1]; omega), ?_⟩
  refine ⟨_, rfl, _, rfl, _, rfl, _, rfl, fit (by omega), _, rfl, _, _, rfl, rfl, fit (by omega), _, rfl, _, rfl, _, _, rfl, rfl, _, rfl, _, rfl, fit (by omega), _, _, rfl, rfl, fit (by rw [e1, len_app]; omega), ?_⟩
  refine ⟨(by show 3 ≤ sizeLine; decide), fun p hp => ?_⟩
  have g4 := fun (o : List V) => g3.new (o := .lst o) hp
  have fin : ∀ (o : Str) (xs : List V), o.length ≤ z.length + 1 → Q (.str o) (upd H3 p (.lst xs)) := fun o xs ho => q o _ ho (g4 xs) (kk.trans (Kp.new hp))
  obtain ⟨m, rfl⟩ : ∃ m : Nat, u = (m : Int) := ⟨u.toNat, by omega⟩
  have hm : m = 0 ∨ m = 1 ∨ m = 2 := by omega
  rcases hm with rfl | rfl | rfl
  · exact ⟨_, rfl, _, _, _, _, rfl, rfl, SqL.of upd_same, at_of (j := 0) rfl rfl, fin _ _ (by rw [len_app, len_app]; omega)⟩
  · exact ⟨_, rfl, _, _, _, _, rfl, rfl, SqL.of upd_same, at_of (j := 1) rfl rfl, fin _ _ (by rw [len_app, e1]; omega)⟩
  · exact ⟨_, rfl, _, _, _, _, rfl, rfl, SqL.of upd_same, at_of (j := 2) rfl rfl, fin _ _ (by rw [len_app, len_app, e1]; omega)⟩

end
end SW

set_option Elab.async false
set_option linter.all false
set_option maxRecDepth 100000
set_option maxHeartbeats 4000000
namespace SW
open PySem PySem.Spec PyProof.Rows L2
/-! ### addresses -/
abbrev big : Int := 1000000000000000000000000000000
/-- the word that a number leads to -/
def W.stp : W → Int → Option W
  | .join ws, i => if 0 ≤ i ∧ i < ws.length then ws[i.toNat]? else none
  | .times w n, i => if 0 ≤ i ∧ i < n then some w else none
  | .right w, i => if 0 ≤ i ∧ i ≤ big then some w else none
  | .left w, i => if 0 ≤ i ∧ i ≤ big then some w else none
  | _, _ => none
theorem stpJ {ws : List W} {i : Int} : (W.join ws).stp i = if 0 ≤ i ∧ i < ws.length then ws[i.toNat]? else none := rfl
theorem stpT {w : W} {n i : Int} : (W.times w n).stp i = if 0 ≤ i ∧ i < n then some w else none := rfl
theorem stpR {w : W} {i : Int} : (W.right w).stp i = if 0 ≤ i ∧ i ≤ big then some w else none := rfl
theorem stpL {w : W} {i : Int} : (W.left w).stp i = if 0 ≤ i ∧ i ≤ big then some w else none := rfl
def W.go : W → List Int → Option W
  | t, [] => some t
  | t, i :: r => match t.stp i with
    | some u => u.go r
    | none => none
def W.isL : W → Bool
  | .ltr _ => true
  | _ => false
/-- ns is the address of a place in t -/
def Vd (t : W) (ns : List Int) : Prop := ∃ c, t.go ns = some (.ltr c)
theorem go_nil (t : W) : t.go [] = some t := by rw [W.go]
theorem go_cons {t u : W} {i : Int} {r : List Int} (h : t.stp i = some u) : t.go (i :: r) = u.go r := by rw [W.go, h]
theorem go_none {t : W} {i : Int} {r : List Int} (h : t.stp i = none) : t.go (i :: r) = none := by rw [W.go, h]
theorem go_app : ∀ (p q : List Int) (t : W), t.go (p ++ q) = match t.go p with
    | some u => u.go q
    | none => none
  | [], q, t => by rw [go_nil]; rfl
  | i :: p, q, t => by
    cases h : t.stp i with
    | none => rw [List.cons_append, go_none h, go_none h]
    | some u => rw [List.cons_append, go_cons h, go_cons h, go_app p q u]
theorem go_app_some {p q : List Int} {t u : W} (h : t.go p = some u) : t.go (p ++ q) = u.go q := by rw [go_app, h]
theorem stp_ok {L : List Str} {t u : W} {i : Int} (o : t.Ok L) (h : t.stp i = some u) : u.Ok L ∧ u.dep + 1 ≤ t.dep := by
  refine W.parts_mem o ?_
  cases t with
  | join ws =>
    rw [stpJ] at h
    split at h
    · exact List.mem_of_getElem? h
    · cases h
  | times w n =>
    rw [stpT] at h
    split at h
    · cases h
      exact List.mem_singleton.mpr rfl
    · cases h
  | right w =>
    rw [stpR] at h
    split at h
    · cases h
      exact List.mem_singleton.mpr rfl
    · cases h
  | left w =>
    rw [stpL] at h
    split at h
    · cases h
      exact List.mem_singleton.mpr rfl
    · cases h
  | emp => cases h
  | ltr c => cases h
  | nam c => cases h
theorem go_ok {L : List Str} : ∀ (ns : List Int) {t u : W}, t.Ok L → t.go ns = some u → u.Ok L ∧ u.dep + ns.length ≤ t.dep
  | [], t, u, o, h => by
    rw [go_nil] at h
    cases h
    exact ⟨o, Nat.le_refl _⟩
  | i :: r, t, u, o, h => by
    cases e : t.stp i with
    | none => rw [go_none e] at h; cases h
    | some v =>
      rw [go_cons e] at h
      have a := stp_ok o e
      have b := go_ok r a.1 h
      refine ⟨b.1, ?_⟩
      rw [List.length_cons]
      omega
theorem vd_nil {c : Str} : Vd (.ltr c) [] := ⟨c, go_nil _⟩
theorem vd_ltr {c : Str} {ns : List Int} (h : Vd (.ltr c) ns) : ns = [] := by
  obtain ⟨d, h⟩ := h
  cases ns with
  | nil => rfl
  | cons i r => rw [go_none (by rfl)] at h; cases h
theorem vd_cons {t u : W} {i : Int} {r : List Int} (h : t.stp i = some u) (v : Vd u r) : Vd t (i :: r) := by
  obtain ⟨c, v⟩ := v
  exact ⟨c, by rw [go_cons h]; exact v⟩
theorem vd_inv {t : W} {ns : List Int} (v : Vd t ns) (h : t.isL = false) : ∃ i r u, ns = i :: r ∧ t.stp i = some u ∧ Vd u r := by
  obtain ⟨c, v⟩ := v
  cases ns with
  | nil =>
    rw [go_nil] at v
    cases v
    cases h
  | cons i r =>
    cases e : t.stp i with
    | none => rw [go_none e] at v; cases v
    | some u =>
      rw [go_cons e] at v
      exact ⟨i, r, u, rfl, e, c, v⟩
theorem stp_join {ws : List W} {k : Nat} {x : W} (h : ws[k]? = some x) : (W.join ws).stp (k : Int) = some x := by
  have hl := (List.getElem?_eq_some_iff.mp h).1
  rw [stpJ]
  rw [if_pos ⟨by omega, by omega⟩]
  exact h
theorem stp_times {w : W} {n i : Int} (h : 0 ≤ i) (h2 : i < n) : (W.times w n).stp i = some w := by
  rw [stpT]
  rw [if_pos ⟨h, h2⟩]
theorem stp_right {w : W} {i : Int} (h : 0 ≤ i) (h2 : i ≤ big) : (W.right w).stp i = some w := by
  rw [stpR]
  rw [if_pos ⟨h, h2⟩]
theorem stp_left {w : W} {i : Int} (h : 0 ≤ i) (h2 : i ≤ big) : (W.left w).stp i = some w := by
  rw [stpL]
  rw [if_pos ⟨h, h2⟩]
/-- how many numbers lead on -/
def W.tot : W → Int
  | .join ws => ws.length
  | .times _ n => n
  | _ => big + 1
theorem stp_tot {t : W} : t.stp t.tot = none := by
  cases t with
  | join ws =>
    show (if 0 ≤ (ws.length : Int) ∧ (ws.length : Int) < ws.length then ws[(ws.length : Int).toNat]? else none) = none
    rw [if_neg (by omega)]
  | times w n =>
    show (if 0 ≤ n ∧ n < n then some w else none) = none
    rw [if_neg (by omega)]
  | right w => rfl
  | left w => rfl
  | emp => rfl
  | ltr c => rfl
  | nam c => rfl
theorem stp_neg {t : W} {i : Int} (h : i < 0) : t.stp i = none := by
  cases t with
  | join ws =>
    rw [stpJ]
    rw [if_neg (by omega)]
  | times w n =>
    rw [stpT]
    rw [if_neg (by omega)]
  | right w =>
    rw [stpR]
    rw [if_neg (by omega)]
  | left w =>
    rw [stpL]
    rw [if_neg (by omega)]
  | emp => rfl
  | ltr c => rfl
  | nam c => rfl
/-- no place stands there -/
def Bad (t : W) (ns : List Int) : Prop := ∀ c, t.go ns ≠ some (.ltr c)
theorem bad_of_none {t : W} {ns : List Int} (h : t.go ns = none) : Bad t ns := fun c e => by rw [h] at e; cases e
theorem bad_of {t u : W} {ns : List Int} (h : t.go ns = some u) (n : u.isL = false) : Bad t ns := fun c e => by
  rw [h] at e
  cases e
  cases n
/-- behind the place -/
theorem bad_more {t : W} {ns : List Int} {i : Int} {r : List Int} (v : Vd t ns) : Bad t (ns ++ i :: r) := by
  obtain ⟨c, v⟩ := v
  refine bad_of_none ?_
  rw [go_app_some v]
  exact go_none (by rfl)
theorem bad_at {t u : W} {p r : List Int} {i : Int} (h : t.go p = some u) (n : u.stp i = none) : Bad t (p ++ i :: r) := by
  refine bad_of_none ?_
  rw [go_app_some h]
  exact go_none n
theorem vd_take {t : W} {ns : List Int} (v : Vd t ns) (k : Nat) : ∃ u, t.go (ns.take k) = some u := by
  obtain ⟨c, v⟩ := v
  rw [← List.take_append_drop k ns, go_app] at v
  cases h : t.go (ns.take k) with
  | none => rw [h] at v; cases v
  | some u => exact ⟨u, rfl⟩
theorem vd_take_isL {t u : W} {ns : List Int} {k : Nat} (v : Vd t ns) (h : t.go (ns.take k) = some u) (hk : k < ns.length) : u.isL = false := by
  obtain ⟨c, v⟩ := v
  rw [← List.take_append_drop k ns, go_app_some h] at v
  have e : ns.drop k = ns[k] :: ns.drop (k + 1) := List.drop_eq_getElem_cons hk
  rw [e] at v
  cases u with
  | ltr d => rw [go_none (by rfl)] at v; cases v
  | _ => rfl
theorem W.cnts_zero {M L : List Str} : ∀ {ws : List W} {x : W}, W.Oks M ws → W.cnts L ws = some 0 → x ∈ ws → x.cnt L = some 0
  | w :: r, x, o, e, h => by
    unfold W.Oks at o
    unfold W.cnts at e
    split at e
    · rename_i a b ea eb
      have e' : a + b = 0 := Option.some.inj e
      have h1 := (W.cnt_bd w o.1 ea).1
      have h2 := (W.cnts_bd r o.2 eb).1
      have ha : a = 0 := by omega
      have hb : b = 0 := by omega
      subst ha
      subst hb
      rcases List.mem_cons.mp h with q | q
      · rw [q]
        exact ea
      · exact W.cnts_zero o.2 eb q
    · cases e
theorem W.cnts_zero_of {L : List Str} : ∀ {ws : List W}, (∀ x ∈ ws, x.cnt L = some 0) → W.cnts L ws = some 0
  | [], _ => by rw [W.cnts]
  | w :: r, h => by
    rw [W.cnts, h w (List.mem_cons_self ..), W.cnts_zero_of fun x q => h x (List.mem_cons_of_mem _ q)]
    rfl
/-- an address has a place: the word is not empty -/
theorem vd_cnt {t : W} (o : t.Ok abc) {ns : List Int} : Vd t ns → t.cnt abcABC ≠ some 0 := by
  induction ns generalizing t with
  | nil =>
    rintro ⟨c, v⟩ e
    rw [go_nil] at v
    cases v
    unfold W.Ok at o
    rw [cnt_ltr, if_pos (abc_sub c o)] at e
    cases e
  | cons i r ih =>
    intro v e
    obtain ⟨c, v'⟩ := v
    cases es : t.stp i with
    | none => rw [go_none es] at v'; cases v'
    | some u =>
      rw [go_cons es] at v'
      have ou := (stp_ok o es).1
      have hu := ih ou ⟨c, v'⟩
      cases t with
      | join ws =>
        rw [stpJ] at es
        split at es
        · have m := List.mem_of_getElem? es
          rw [cnt_join] at e
          unfold W.Ok at o
          exact hu (W.cnts_zero o.2 e m)
        · cases es
      | times w n =>
        rw [stpT] at es
        split at es
        · rename_i hh
          cases es
          unfold W.Ok at o
          rw [cnt_times, if_pos (by omega)] at e
          cases eu : u.cnt abcABC with
          | none => rw [eu] at e; cases e
          | some m =>
            rw [eu] at e
            have e2 : m * n = 0 := Option.some.inj e
            rcases Int.mul_eq_zero.mp e2 with z | z
            · rw [z] at eu
              exact hu eu
            · omega
        · cases es
      | right w =>
        rw [stpR] at es
        split at es
        · cases es
          rw [cnt_right, if_neg hu] at e
          cases e
        · cases es
      | left w =>
        rw [stpL] at es
        split at es
        · cases es
          rw [cnt_left, if_neg hu] at e
          cases e
        · cases es
      | emp => cases es
      | ltr c => cases es
      | nam c => cases es
/-! ### how the heap bears them -/
def AdV (K : PySem.W.Frag) (H : Hp) (v : V) (ns : List Int) : Prop := ∃ a, v = .ref a ∧ SqT K H a (ns.map V.int)
theorem AdV.tp {K : PySem.W.Frag} {H H' : Hp} {v : V} {ns : List Int} (t : Tp H H') (h : AdV K H v ns) : AdV K H' v ns := by
  obtain ⟨a, e, s⟩ := h
  exact ⟨a, e, t.sq s⟩
end SW

set_option Elab.async false
set_option linter.all false
set_option maxRecDepth 100000
set_option maxHeartbeats 4000000
namespace SW
open PySem PySem.Spec PyProof.Rows L2
theorem atI_last {xs : List V} {x : V} : atI (xs ++ [x]) (-1) = some x := by
  unfold atI
  have h : ixN (xs ++ [x]).length (-1) = some xs.length := by
    unfold ixN
    rw [if_neg (by decide), List.length_append, if_pos (by show -(((xs.length + 1 : Nat)) : Int) ≤ -1; omega)]
    congr 1
    show ((-1 : Int) + ((xs.length + 1 : Nat) : Int)).toNat = xs.length
    omega
  rw [h]
  show (xs ++ [x])[xs.length]? = some x
  rw [List.getElem?_append_right (Nat.le_refl _), Nat.sub_self]
  rfl
theorem stp_parts {t u : W} {i : Int} (h : t.stp i = some u) : (∃ ws, t = .join ws ∧ 0 ≤ i ∧ ws[i.toNat]? = some u) ∨ (∃ n, t = .times u n) ∨ t = .right u ∨ t = .left u := by
  cases t with
  | join ws =>
    rw [stpJ] at h
    split at h
    · rename_i hh
      exact .inl ⟨ws, rfl, hh.1, h⟩
    · cases h
  | times w n =>
    rw [stpT] at h
    split at h
    · cases h
      exact .inr (.inl ⟨n, rfl⟩)
    · cases h
  | right w =>
    rw [stpR] at h
    split at h
    · cases h
      exact .inr (.inr (.inl rfl))
    · cases h
  | left w =>
    rw [stpL] at h
    split at h
    · cases h
      exact .inr (.inr (.inr rfl))
    · cases h
  | emp => cases h
  | ltr c => cases h
  | nam c => cases h
/-- here[1][number] if here is a join, else here[1] -/
def tStep (K : PySem.W.Frag) (i j : Nat) : TE := tIf (tTest (tOp rEq (tOp (rIxT K) (tVar i) (tC (.int 0))) (tC (.str "join")))) (tOp (rIxT K) (tOp (rIxT K) (tVar i) (tC (.int 1))) (tVar j)) (tOp (rIxT K) (tVar i) (tC (.int 1)))
theorem walk_step {K : PySem.W.Frag} {i j : Nat} {H : Hp} {x : V} {u u2 : W} {k : Int} {σ : L2.St} {Q : VK} (hx : WV K H x u) (h : u.stp k = some u2) (hi : σ[i]? = some (some x)) (hj : σ[j]? = some (some (.int k))) (q : ∀ y, WV K H y u2 → Q y H) : tStep K i j σ H Q := by
  have at_ := hx.at
  rcases stp_parts h with ⟨ws, rfl, h0, h1⟩ | ⟨n, rfl⟩ | rfl | rfl
  · cases at_ with | @join a b xs ws e s s2 hw => ?_
    cases e
    have hk : k.toNat < xs.length := by rw [hw.length]; exact (List.getElem?_eq_some_iff.mp h1).1
    obtain ⟨u3, e3, hu3⟩ := hw.get (List.getElem?_eq_getElem hk)
    rw [h1] at e3
    cases e3
    exact ⟨_, hi, _, _, _, _, rfl, rfl, s, rfl, rfl, eq_yes rfl ⟨_, hi, _, _, _, _, rfl, rfl, s, rfl, _, hj, _, _, _, _, rfl, rfl, s2, at_of (j := k.toNat) (by omega) (List.getElem?_eq_getElem hk), q _ hu3⟩⟩
  · cases at_ with | times e s hw => ?_
    cases e
    exact ⟨_, hi, _, _, _, _, rfl, rfl, s, rfl, rfl, eq_no (by decide +kernel) ⟨_, hi, _, _, _, _, rfl, rfl, s, rfl, q _ hw⟩⟩
  · cases at_ with | right e s hw => ?_
    cases e
    exact ⟨_, hi, _, _, _, _, rfl, rfl, s, rfl, rfl, eq_no (by decide +kernel) ⟨_, hi, _, _, _, _, rfl, rfl, s, rfl, q _ hw⟩⟩
  · cases at_ with | left e s hw => ?_
    cases e
    exact ⟨_, hi, _, _, _, _, rfl, rfl, s, rfl, rfl, eq_no (by decide +kernel) ⟨_, hi, _, _, _, _, rfl, rfl, s, rfl, q _ hw⟩⟩
theorem cat_one {H : Hp} {K : PySem.W.Frag} {a b : Addr} {i : Int} {ns : List Int} {Q : VK} (ha : SqT K H a [.int i]) (hb : SqT K H b (ns.map V.int)) (hl : ns.length ≤ 1000) (q : ∀ p H', SqT K H' p ((i :: ns).map V.int) → Same H H' → Q (.ref p) H') : rCatT K (.ref a) (.ref b) H Q := by
  refine ⟨a, b, [.int i], ns.map V.int, rfl, rfl, ha, hb, by simp, ?_, fun e => ?_, fun _ p hp => ?_⟩
  · rw [List.length_map]
    exact Nat.le_trans (show 1 + ns.length ≤ 2000 by omega) (by decide)
  · cases ns with
    | nil => exact q a H ha (Same.refl H)
    | cons x r => cases e
  · exact q p _ (SqT.of upd_same) (same_new hp)

/-! ### parts of an address -/
theorem sl_pre {K : PySem.W.Frag} {H : Hp} {a : Addr} {ns : List Int} {i : Int} {k : Nat} {Q : VK} (hi : i = (k : Int)) (ha : SqT K H a (ns.map V.int)) (q : ∀ b H', SqT K H' b ((ns.take k).map V.int) → Same H H' → Q (.ref b) H') : rSlA K (.ref a) none (some i) H Q := by
  subst hi
  have e : cutV (ns.map V.int) none (some (k : Int)) = (ns.take k).map V.int := by rw [cut_to, List.map_take]
  refine ⟨a, _, rfl, ha, fun h => q a H ?_ (Same.refl H), fun _ p hp => q p _ (by rw [e]; exact SqT.of upd_same) (same_new hp)⟩
  have h2 := h.2
  rw [HT.sIx_nat, List.length_map] at h2
  rw [List.take_of_length_le (by omega)]
  exact ha
theorem sl_suf0 {K : PySem.W.Frag} {H : Hp} {a : Addr} {ns : List Int} {i : Int} {k : Nat} {Q : VK} (hi : i = (k : Int)) (ha : SqT K H a (ns.map V.int)) (q : ∀ b H', SqT K H' b ((ns.drop k).map V.int) → Same H H' → Q (.ref b) H') : rSlA K (.ref a) (some i) none H Q := by
  subst hi
  have e : cutV (ns.map V.int) (some (k : Int)) none = (ns.drop k).map V.int := by
    unfold cutV
    rw [HT.sIx_nat, HT.sIx_none, List.length_map, List.map_drop]
    by_cases hk : k ≤ ns.length
    · rw [Nat.min_eq_left hk]
      exact List.take_of_length_le (by rw [List.length_drop, List.length_map]; omega)
    · rw [Nat.min_eq_right (by omega), Nat.sub_self, List.take_zero, List.drop_eq_nil_of_le (by rw [List.length_map]; omega)]
  refine ⟨a, _, rfl, ha, fun h => q a H ?_ (Same.refl H), fun _ p hp => q p _ (by rw [e]; exact SqT.of upd_same) (same_new hp)⟩
  have h2 := h.1
  rw [HT.sIx_nat, List.length_map] at h2
  have h3 : ns.drop k = ns := by
    by_cases hk : k = 0
    · rw [hk, List.drop_zero]
    · have : ns.length = 0 := by omega
      rw [List.length_eq_zero_iff.mp this, List.drop_nil]
  rw [h3]
  exact ha
theorem sl_suf {K : PySem.W.Frag} {σ : L2.St} {H : Hp} {a : Addr} {ns : List Int} {i : Int} {k : Nat} {Q : VK} (hi : i = (k : Int)) (ha : SqT K H a (ns.map V.int)) (q : ∀ b H', SqT K H' b ((ns.drop k).map V.int) → Same H H' → Q (.ref b) H') : tNoPart σ H fun u H3 => rSlA K (.ref a) (some i) u H3 Q :=
  sl_suf0 hi ha q
theorem cat_any {K : PySem.W.Frag} {H : Hp} {a b : Addr} {ns ms : List Int} {Q : VK} (ha : SqT K H a (ns.map V.int)) (hb : SqT K H b (ms.map V.int)) (h1 : ns.length ≤ 1000) (h2 : ms.length ≤ 1000)
    (q : ∀ p H', SqT K H' p ((ns ++ ms).map V.int) → Same H H' → Q (.ref p) H') : rCatA K (.ref a) (.ref b) H Q := by
  refine ⟨a, b, ns.map V.int, ms.map V.int, rfl, rfl, ha, hb, ?_, fun e => ?_, fun _ e => ?_, fun _ _ p hp => ?_⟩
  · rw [List.length_map, List.length_map]
    exact Nat.le_trans (show ns.length + ms.length ≤ 2000 by omega) (by decide)
  · cases ns with
    | nil => exact q b H hb (Same.refl H)
    | cons x r => cases e
  · cases ms with
    | nil => exact q a H (by rw [List.append_nil]; exact ha) (Same.refl H)
    | cons x r => cases e
  · exact q p _ (by rw [List.map_append]; exact SqT.of upd_same) (same_new hp)
/-- what is one tuple of one number -/
theorem one_int {K : PySem.W.Frag} {H : Hp} {p : Addr} {i : Int} (h : SqT K H p [.int i]) : SqT K H p (([i] : List Int).map V.int) := h
theorem kp_same {r : Addr} {H H' : Hp} (s : Same H H') : Kp r H H' := fun b o _ h => s _ _ h
theorem Rng.same {H H' : Hp} {r l : Addr} (g : Rng H r l) (s : Same H H') : Rng H' r l := g.of (fun o h => s _ _ h) (fun o h => s _ _ h)
/-! ### comprehensions of one name with a test -/
theorem lcrT {lo : Int} {n j : Nat} {tt : TT} {te : TE} {σ : L2.St} {H1 : Hp} {D : Addr} {Qd : Hp → Prop} (Pv : Nat → Hp → Prop) (h0 : Pv 0 (upd H1 D (.lst [])))
    (hs : ∀ i H, i < n → Pv i H → tt (σ.set j (some (.int (lo + i)))) H fun b H3 => if b = true then te (σ.set j (some (.int (lo + i)))) H3 fun y H4 => ∃ acc, H4 D = some (.lst acc) ∧ acc.length < sizeLine ∧ Pv (i + 1) (upd H4 D (.lst (acc ++ [y]))) else Pv (i + 1) H3)
    (hd : ∀ H, Pv n H → Qd H) :
    ∃ W : Nat → Nat → Hp → Prop, (∃ m, W 0 m (upd H1 D (.lst []))) ∧ ∀ i m H, W i m H →
      ((Itr lo n).stop i H ∧ Qd H) ∨ ((Itr lo n).go i H ∧ ∃ Nx : Hp → Prop, (∀ H', Nx H' → ∃ m', m' < m ∧ W (i + 1) m' H') ∧ ∀ x H', (Itr lo n).yld i H x H' → gName j x (wipe σ [j]) H' fun σ2 H2 => wipe σ2 [j] = wipe σ [j] ∧ tt σ2 H2 fun b H3 =>
        if b = true then te σ2 H3 fun y H4 => ∃ acc, H4 D = some (.lst acc) ∧ acc.length < sizeLine ∧ Nx (upd H4 D (.lst (acc ++ [y]))) else Nx H3) := by
  refine lc_range Pv h0 (fun i H hi p => ?_) hd
  have e1 : wipe σ [j] = σ.set j none := rfl
  have e2 : (wipe σ [j]).set j (some (.int (lo + i))) = σ.set j (some (.int (lo + i))) := by rw [e1, List.set_set]
  unfold gName
  rw [e2]
  refine ⟨?_, hs i H hi p⟩
  show (σ.set j (some (.int (lo + i)))).set j none = σ.set j none
  rw [List.set_set]
theorem toL_zero {o : Option Int} : toL o = 0 ↔ o = some 0 := by
  cases o with
  | none => exact ⟨fun h => absurd h (by show ¬ (-1 : Int) = 0; decide), fun h => nomatch h⟩
  | some m => exact ⟨fun h => congrArg some h, fun h => Option.some.inj h⟩
/-- == 0 of a count -/
theorem eq0 {o : Option Int} {A B : Prop} (a : o = some 0 → A) (b : o ≠ some 0 → B) : ∃ k, V.bl (decide (V.int (toL o) = V.int 0)) = V.bl k ∧ if k = true then A else B := by
  by_cases h : o = some 0
  · exact ⟨true, by rw [h]; rfl, a h⟩
  · refine ⟨false, ?_, b h⟩
    rw [decide_eq_false]
    intro e
    exact h (toL_zero.mp (V.int.inj e))
/-- != 0 of a count -/
theorem ne0 {o : Option Int} {A B : Prop} (a : o ≠ some 0 → A) (b : o = some 0 → B) : ∃ k, V.bl (!decide (V.int (toL o) = V.int 0)) = V.bl k ∧ if k = true then A else B := by
  by_cases h : o = some 0
  · exact ⟨false, by rw [h]; rfl, b h⟩
  · refine ⟨true, ?_, a h⟩
    rw [decide_eq_false]
    · rfl
    · intro e
      exact h (toL_zero.mp (V.int.inj e))
theorem log_big {m : Int} (h0 : 0 ≤ m) (h : m ≤ 1000000000000000000000000000001) : m.natAbs.log2 < 9000 := by
  refine Nat.lt_of_lt_of_le (PySem.Flt.log2_lt_of (k := 110) (by decide) ?_) (by decide)
  have : m.natAbs ≤ 1000000000000000000000000000001 := by omega
  exact Nat.lt_of_le_of_lt this (by decide)
end SW

set_option Elab.async false
set_option linter.all false
set_option maxRecDepth 100000
set_option maxHeartbeats 4000000
namespace SW
open PySem PySem.Spec PyProof.Rows L2
/-! ### range(a, b) of numbers of any size -/
theorem long_turn {P : Program} {w : World} {K : PySem.W.Frag} {tg : Expr} (z : Addr) (a : Int) (k : Nat) : Turn P w K tg (Itr a k) [z] z (fun j hp => IsLongIter hp z (a + (j : Nat) * 1) ((k : Int) - (j : Nat)) 1) where
  mem := List.mem_singleton.mpr rfl
  obj := fun j hp st b hb => by
    obtain rfl := List.mem_singleton.mp hb
    exact ⟨_, st, fun v q => nomatch (show Data.fields _ = Data.cell v from q)⟩
  keep := fun j hp hp' st kp => kp z (List.mem_singleton.mpr rfl) _ st
  self := fun _ _ _ _ _ st q => wpAny_pyIter_longiter st q
  item := by
    intro X hP hw hK calm j pins s σ H E I fps st going
    subst hP hw hK
    obtain ⟨p0, p1, p2, p3, p4, p5⟩ := fps z (List.mem_singleton.mpr rfl)
    have walks := Walks.longrange (prog := X.prog) (w := X.w) (I.ok.hd calm) z a 1 k
    refine walks.item j s _ _ going st (fun v hp' tk hv st' kept => ?_)
    obtain ⟨t, rfl⟩ := hv
    have J : Inv X pins σ H { s with heap := hp', toks := tk } := I.turned (fun b o hb e => kept b o (by simpa using hb) e) p0 p1 p3 p4 p5
    refine ⟨_, rfl, go_of (s := { s with heap := hp', toks := tk }) (n := "longrange_iterator") st' rfl rfl (by decide) ⟨.int (a + j), H, J, ⟨t, ?_⟩, ⟨rfl, rfl⟩, st', fun b hb => (fps b hb).1⟩⟩
    rw [Int.mul_one]
  done := by
    intro X hP hw hK calm j pins s σ H E I fps st over
    subst hP hw hK
    obtain ⟨p0, p1, p2, p3, p4, p5⟩ := fps z (List.mem_singleton.mpr rfl)
    refine wpAny_pyNext_long_end (I.ok.hd calm) st (by have : k ≤ j := over; omega) (fun hp' eb => ⟨rfl, ?_⟩)
    exact I.turned (t' := s.toks) (fun b o hb e => eb b o hb e) p0 p1 p3 p4 p5
section
variable {X : Cx} {tg : Expr}
theorem walk_range {pins : List (Addr × Obj)} {σ : L2.St} {H : Hp} {s : Shared} {R : It → Hp → Prop} {E : Value → Shared → Prop} {a b : Int} {t u v : Tok} {tk : Nat} (I : Inv X pins σ H s) (q : R (Itr a (b - a).toNat) H) :
    wpAny (model X.prog X.w) X.A (pyIter (.ref s.heap.objs.size)) (PIE X pins σ tg R) E { s with heap := s.heap.push { cls := .type "range", data := .fields #[.int a t, .int b u, .int 1 v] }, toks := tk } := by
  have I1 : Inv X pins σ H { s with heap := s.heap.push { cls := .type "range", data := .fields #[.int a t, .int b u, .int 1 v] }, toks := tk } := I.kept fun c o e => Heap.get?_push_of_some _ e
  have e1 : a + ((0 : Nat) : Int) * 1 = a := by simp
  have e2 : (((b - a).toNat : Nat) : Int) - ((0 : Nat) : Int) = Builtin.Range.rangeSize a b 1 := by
    rw [rangeSize_one]
    split <;> omega
  have fps : ∀ c ∈ [(s.heap.push { cls := .type "range", data := .fields #[.int a t, .int b u, .int 1 v] }).objs.size], FpOk X pins H c := fun c hc => by
    obtain rfl := List.mem_singleton.mp hc
    exact I1.fpOk (Nat.le_refl _) (I1.hok.fresh (Nat.le_refl _))
  cases hs : Builtin.Range.small a b 1 with
  | true =>
    refine wpAny_pyIter_range (IsRange.new ..) hs ?_
    refine ⟨(s.heap.push { cls := .type "range", data := .fields #[.int a t, .int b u, .int 1 v] }).objs.size, [(s.heap.push { cls := .type "range", data := .fields #[.int a t, .int b u, .int 1 v] }).objs.size], _, _, H, rfl, I1.kept (t' := tk) (fun c o e => Heap.get?_push_of_some _ e), turn_range _ a (b - a).toNat, ?_, fps, q⟩
    show IsRangeIter _ _ (a + ((0 : Nat) : Int) * 1) ((((b - a).toNat : Nat) : Int) - ((0 : Nat) : Int)) 1
    rw [e1, e2]
    exact Heap.get?_push_size _ rfl
  | false =>
    refine wpAny_pyIter_longrange (IsRange.new ..) hs ?_
    refine ⟨(s.heap.push { cls := .type "range", data := .fields #[.int a t, .int b u, .int 1 v] }).objs.size, [(s.heap.push { cls := .type "range", data := .fields #[.int a t, .int b u, .int 1 v] }).objs.size], _, _, H, rfl, I1.kept (t' := tk) (fun c o e => Heap.get?_push_of_some _ e), long_turn _ a (b - a).toNat, ?_, fps, q⟩
    show IsLongIter _ _ (a + ((0 : Nat) : Int) * 1) ((((b - a).toNat : Nat) : Int) - ((0 : Nat) : Int)) 1
    rw [e1, e2]
    exact Heap.get?_push_size _ rfl
def iRgW (ta : TA) : TI := fun σ H R => ta σ H fun vs H1 => ∃ a b : Int, vs = [.int a, .int b] ∧ R (Itr a (b - a).toNat) H1
theorem pi_rgW {e1 e2 : Expr} {ta : TA} {p pos : Pos} (hg : Gl X "range") (hm : X.mg "range" = none) (ha : PA X [e1, e2] ta) (hs : starEach [e1, e2] X.env = [(false, eval e1 X.env), (false, eval e2 X.env)] := by rfl) (hs2 : starEach [e2] X.env = [(false, eval e2 X.env)] := by rfl) :
    PI X tg (.Call (.Name "range" p) [e1, e2] [] pos) (iRgW ta) := by
  constructor
  intro pins s σ H R I h
  refine Call_ (ld_blt I hg hm boot_range (PyProof.Rows.callWith_type1 (thn (ha.run pos pins s σ H _ I h) fun us s1 got => ?_) (by rw [hs, hs2]) (by rw [hs2]; rfl)))
  obtain ⟨vs, H1, I1, rel, a, b, e, q⟩ := got
  subst e
  match us, rel with
  | [_, _], .cons ⟨t, rfl⟩ (.cons ⟨t', rfl⟩ .nil) => exact call_range_2 (walk_range I1 q)
end
end SW

set_option Elab.async false
set_option linter.all false
set_option maxRecDepth 100000
set_option maxHeartbeats 4000000
namespace SW
open PySem PySem.Spec PyProof.Rows L2 LamX
/-! ### a lambda with one parameter that has a default -/
/-- its names: the parameter y0 alone is its own, and it is none of the maker's -/
structure LamD (N : List Str) (sc scope : Scope) (y0 : Str) : Prop where
  kind : scope.kind = .function
  co : scope.isCoroutine = false
  gen : scope.isGenerator = false
  nocell : ∀ y ∈ scope.names, y.2 ≠ .cell
  own : ∀ y ∈ scope.names, y.2 = .local → y.1 ∉ N
  par : scope.names.lookup y0 = some .local
  free : ∀ y ∈ scope.names, y.2 = .free → sc.names.lookup y.1 = some .cell ∨ sc.names.lookup y.1 = some .free
def lamDB (N : List Str) (sc scope : Scope) (y0 : Str) : Bool :=
  decide (scope.kind = .function) && (!scope.isCoroutine && (!scope.isGenerator && (decide (scope.names.lookup y0 = some .local) &&
    scope.names.all fun y => !decide (y.2 = .cell) && ((!decide (y.2 = .local) || !decide (y.1 ∈ N)) && (!decide (y.2 = .free) || (decide (sc.names.lookup y.1 = some .cell) || decide (sc.names.lookup y.1 = some .free)))))))
theorem lamD_by {N : List Str} {sc scope : Scope} {y0 : Str} (h : lamDB N sc scope y0 = true) : LamD N sc scope y0 := by
  unfold lamDB at h
  simp only [Bool.and_eq_true, Bool.or_eq_true, Bool.not_eq_true', decide_eq_true_eq, decide_eq_false_iff_not, List.all_eq_true] at h
  obtain ⟨h1, h2, h3, h4, h5⟩ := h
  refine ⟨h1, h2, h3, fun y hy => (h5 y hy).1, fun y hy e => ?_, h4, fun y hy e => ?_⟩
  · exact (h5 y hy).2.1.resolve_left (fun z => z e)
  · exact (h5 y hy).2.2.resolve_left (fun z => z e)
section
variable {X : Cx} {pins : List (Addr × Obj)} {σ : L2.St} {H HZ : Hp} {s s1 : Shared} {y0 : Str}
theorem LamD.has {scope : Scope} (L : LamD X.N X.env.scope scope y0) (ok : X.Ok) : ∀ y ∈ scope.names, y.2 = .free → ∃ c, X.env.cells.lookup y.1 = some c :=
  fun y hy e => ok.has _ (L.free y hy e)
/-- the state in which its body starts -/
theorem lamD_start {A : Around} {outer : List Env} {E : XK} {scope : Scope} {f c' : Addr} {h1 : Heap} {tk : Nat} {m0 : Str → Option Value} (I : Inv X pins σ H s) (L : LamD X.N X.env.scope scope y0) (e0 : Env0 X.prog X.w X.K X.mg X.base A outer s1 HZ) (hd : A.handled = none)
    (un : Un (frs X.stack) [] H HZ s.heap s1.heap) (hns : h1.Ns s1.heap.objs.size m0) (kp : ∀ b o, s1.heap.get? b = some o → h1.get? b = some o) :
    Inv (lamCx X A outer s1 HZ E scope f c') [] σ HZ { s1 with heap := h1, toks := tk } := by
  have caps := L.has I.ok
  have back : ∀ {y c}, (cloFrom X.env.cells scope.names []).lookup y = some c → X.env.cells.lookup y = some c := by
    intro y c e
    rcases cloFrom_mem (PySem.mem_of_lookup e) with z | ⟨z1, z2⟩
    · cases z
    · obtain ⟨c1, hc⟩ := caps _ z1 rfl
      have hc1 : X.env.cells.lookup y = some c1 := hc
      have same : c = c1 := by rw [z2, hc1] <;> rfl
      rw [same]
      exact hc1
  have there : ∀ {y}, scope.names.lookup y = some .free → ∃ c, (cloFrom X.env.cells scope.names []).lookup y = some c := by
    intro y hl
    have hy := PySem.mem_of_lookup hl
    exact mem_lookup (cloFrom_has (cells := X.env.cells) (acc := []) hy)
  have cellAt : ∀ {c : Addr} {v : Option Value}, H c = none → s.heap.IsCell c v → h1.IsCell c v := by
    intro c v n ⟨o, ho, hdt⟩
    obtain ⟨sl, q⟩ := un.any ho n (by simp)
    exact ⟨_, kp _ _ q, hdt⟩
  have none_ : ∀ b : Addr, b ∉ (lamCx X A outer s1 HZ E scope f c').ex := by
    intro b z
    have z' : b ∈ ([] : List Addr) := z
    cases z'
  have okNew : (lamCx X A outer s1 HZ E scope f c').Ok := {
    mod := e0.mod
    kind := L.kind
    glob := rfl
    blt := rfl
    above := Nat.le_refl _
    inj := fun y z c g1 g2 => I.ok.inj y z c (back g1) (back g2)
    has := fun y hy => by
      have hy2 : scope.names.lookup y = some .cell ∨ scope.names.lookup y = some .free := hy
      rcases hy2 with hy2 | hy2
      · exact absurd rfl (L.nocell _ (PySem.mem_of_lookup hy2))
      · exact there hy2
    cab := fun y c z _ => by
      have z' : false = true := z
      cases z'
    hd := fun _ => hd
    frames := Around.frames_deeper e0.frames
    stk := .inr ⟨rfl, rfl⟩
    exf := fun b z => absurd z (none_ b)
    bs := e0.bs
    bsz := e0.bsz
    noex := fun b _ _ => none_ b
    exfs := fun b z => absurd z (none_ b)
    funs := e0.funs
    frf := e0.frf }
  have m1 : ∀ (i : Nat) (y : Str) (v : V), X.N[i]? = some y → σ[i]? = some (some v) → Vis scope y → ∃ u, RelV v u ∧ Look (lamEnv X scope s1.heap.objs.size f c') h1 m0 y u := by
    intro i y v g1 g2 g3
    have g4 : Vis scope y := g3
    rcases g4 with k | k | k
    · exact absurd (List.mem_of_getElem? g1) (L.own _ (PySem.mem_of_lookup k) rfl)
    · exact absurd rfl (L.nocell _ (PySem.mem_of_lookup k))
    · obtain ⟨m, _, look⟩ := I.loc
      have outerK := L.free _ (PySem.mem_of_lookup k) rfl
      obtain ⟨u, r, q⟩ := look i y v g1 g2 (outerK.elim (fun z => .inr (.inl z)) (fun z => .inr (.inr z)))
      obtain ⟨c2, hc2⟩ := there k
      refine ⟨u, r, .inr ⟨.inr k, c2, hc2, ?_⟩⟩
      have hc1 := back hc2
      rcases q with ⟨k', _⟩ | ⟨_, c3, hc3, isC⟩
      · have k2 : X.env.scope.names.lookup y = some .local := k'
        rcases outerK with z | z
        · have z2 : X.env.scope.names.lookup y = some .cell := z
          rw [z2] at k2
          cases k2
        · have z2 : X.env.scope.names.lookup y = some .free := z
          rw [z2] at k2
          cases k2
      · rw [hc1] at hc3
        cases hc3
        exact cellAt (I.freeC y _ hc1) isC
  refine ⟨okNew, rfl, e0.bare, Un.kept kp, ⟨_, hns, ?m1⟩, ?m2, e0.hok.fresh (Nat.le_refl _), ?m3, ?m4, e0.hok.kept kp, I.len⟩
  case m1 => intro i y v g1 g2 g3; exact m1 i y v g1 g2 g3
  case m2 =>
    intro y c e
    obtain ⟨v, z⟩ := I.cell y c (back e)
    exact ⟨v, cellAt (I.freeC y c (back e)) z⟩
  case m3 =>
    intro y c e
    obtain ⟨v, o, ho, _⟩ := I.cell y c (back e)
    exact un.free c o ho (I.freeC y c (back e)) (by simp)
  case m4 =>
    intro q hq
    have hq2 : q ∈ ([] : List (Addr × Obj)) ++ [] := hq
    simp at hq2
/-- what the making leaves: the function, its default's tuple, its code object -/
structure Made (X : Cx) (pins : List (Addr × Obj)) (σ : L2.St) (T : List (Addr × Str)) (H H1 : Hp) (s' : Shared) (params : Arguments) (body : Expr) (scope : Scope) (f c' T0 : Addr) (dv doc pm ctv : Value) : Prop where
  inv : Inv X pins σ H1 s'
  ext : ExtN H H1
  tabs : Tabs T H1
  tup : s'.heap.get? T0 = some (PySem.W.kdv_tup [dv])
  tupN : H1 T0 = none
  tupF : T0 ∉ frs X.stack
  fn : s'.heap.get? f = some (PySem.W.kdv_obj "<lambda>" (X.env.qual ++ "<lambda>") params (.expr body) scope (cloFrom X.env.cells scope.names []) (.ref T0) doc pm c' ctv)
  fnN : H1 f = none
  fnF : f ∉ frs X.stack
  code : H1 c' = some (CodeO c' (X.env.qual ++ "<lambda>"))
theorem notFrame_new (I : Inv X pins σ H s) {f : Addr} (hf : s.heap.objs.size ≤ f) : f ∉ frs X.stack := by
  intro z
  rcases List.mem_cons.mp (I.stkSub _ z) with e | e
  · have lt := I.lt
    rw [← e] at lt
    exact absurd (Nat.lt_of_lt_of_le lt hf) (Nat.lt_irrefl _)
  · exact I.nofs hf e
theorem lamD_make {T : List (Addr × Str)} {c P : Addr} {params : Arguments} {body : Expr} {scope : Scope} {pos dp : Pos} {z : Int} {j : Nat} {Q : Value → Shared → Prop} (I : Inv X pins σ H s) (TB : TabB X.base X.mg c P) (hcode : X.env.code = .ref c)
    (hm : (P, X.env.qual ++ "<lambda>") ∈ T) (hu : ∀ p ∈ T, p.1 = P → p.2 = X.env.qual ++ "<lambda>") (hT : Tabs T H) (hd : params.defaults = [.Constant (.int z) j dp]) (hk : params.kw_defaults = []) (hfree : ∀ y ∈ scope.names, y.2 = .free → ∃ c, X.env.cells.lookup y.1 = some c)
    (h : ∀ f c' T0 dv doc pm ctv H1 s', Made X pins σ T H H1 s' params body scope f c' T0 dv doc pm ctv → Q (.ref f) s') :
    wpAny (model X.prog X.w) X.A (eval (.Lambda params body scope pos) X.env) Q X.xe s := by
  refine PySem.W.kdv_lam (by rw [hd]; rfl) hk ?_
  rw [hd]
  refine PySem.W.kdv_all1 (thn (pe_int.run pins s σ H (fun v G => v = .int z ∧ G = H) I ⟨rfl, rfl⟩) fun u s1 got => ?_)
  obtain ⟨v, G, I1, _, _, eG⟩ := got
  subst eG
  refine PySem.W.kdv_all0 ?_
  rw [makeFunction_eq]
  simp only [List.zip_nil_right, List.filterMap_nil, List.isEmpty_nil, List.isEmpty_cons, if_true, pure_bind, Bool.false_eq_true, if_false]
  refine wpAny_bind (wpAny_newTextTuple ?_)
  obtain ⟨ps, hP, ht, ha⟩ := hT _ hm
  have hP1 : s1.heap.get? P = some { cls := .none, data := .fields ps } := I1.hok P _ hP
  have tN : G s1.heap.objs.size = none := I1.hok.fresh (Nat.le_refl _)
  have tF := notFrame_new I1 (Nat.le_refl _)
  have tP : s1.heap.objs.size ≠ P := Nat.ne_of_gt (Heap.lt_size hP1)
  have I2 : Inv X pins σ G { s1 with heap := s1.heap.push (PySem.W.kdv_tup [u]) } := I1.kept fun b o e => Heap.get?_push_of_some _ e
  have tG : (s1.heap.push (PySem.W.kdv_tup [u])).get? s1.heap.objs.size = some (PySem.W.kdv_tup [u]) := Heap.get?_push_size _ rfl
  have bP : (s1.heap.push (PySem.W.kdv_tup [u])).BuiltinsAt X.mg P := TB.bm.keeps I2.bk
  have hP2 : (s1.heap.push (PySem.W.kdv_tup [u])).get? P = some { cls := .none, data := .fields ps } := I2.hok P _ hP
  cases hc : codeAmong pos ps.toList with
  | some cv =>
    obtain ⟨c', e, hco⟩ := ha pos cv hc
    subst e
    refine PySem.W.kdv_makeTailHit (mg := X.mg) (c := c) (P := P) (ps := ps) (closure_ok hfree) I2.ok.glob (I2.mod.glob.keeps I2.bk) hcode (TB.code.keeps I2.bk) hP2 ht hc bP fun ctv doc h' tk keep hsz => ?_
    refine h h'.objs.size c' s1.heap.objs.size u doc ((X.mg "__name__").getD .none) ctv G _ ⟨I2.kept fun b o e => Heap.get?_push_of_some _ (keep b o e), ExtN.refl G, hT, Heap.get?_push_of_some _ (keep _ _ tG), tN, tF, Heap.get?_push_size _ rfl, I2.hok.fresh hsz, notFrame_new I2 hsz, hco⟩
  | none =>
    refine PySem.W.kdv_makeTail (mg := X.mg) (c := c) (P := P) (ps := ps) (closure_ok hfree) I2.ok.glob (I2.mod.glob.keeps I2.bk) hcode (TB.code.keeps I2.bk) hP2 ht hc TB.gP bP fun c' ctv doc h' tk keep hge hlt hrec htb => ?_
    obtain ⟨c2, oc, vs, t, e2, hoc, hdt, hv⟩ := hrec
    cases e2
    have nC : G c' = none := I2.hok.fresh hge
    have big : (s1.heap.push (PySem.W.kdv_tup [u])).objs.size ≤ h'.objs.size := Nat.le_trans hge (Nat.le_of_lt hlt)
    have tC : s1.heap.objs.size ≠ c' := Nat.ne_of_lt (Nat.lt_of_lt_of_le (Heap.lt_size tG) hge)
    have J := inv_table (t' := tk) (more := #[rawInt pos.line, rawInt pos.col, .ref c']) (h' := h'.push (PySem.W.kdv_obj "<lambda>" (X.env.qual ++ "<lambda>") params (.expr body) scope (cloFrom X.env.cells scope.names []) (.ref s1.heap.objs.size) doc ((X.mg "__name__").getD .none) c' ctv)) I2 hP
      (fun b o hb e => Heap.get?_push_of_some _ (keep b o hb e)) (Heap.get?_push_of_some _ htb) hge ⟨oc, vs, t, Heap.get?_push_of_some _ hoc, hdt, hv⟩
    have ext : ExtN G (upd (upd G P (.tbl (ps ++ #[rawInt pos.line, rawInt pos.col, .ref c']))) c' (CodeO c' (X.env.qual ++ "<lambda>"))) := by
      intro b o e n
      rw [upd_ne (ne_of_none e nC), upd_ne (fun q => n ps (Option.some.inj (e.symm.trans (by rw [q]; exact hP))))]
      exact e
    refine h h'.objs.size c' s1.heap.objs.size u doc ((X.mg "__name__").getD .none) ctv _ _ ⟨J, ext, fun p hp => ?_, Heap.get?_push_of_some _ (keep _ _ tP tG), ?_, tF, Heap.get?_push_size _ rfl, ?_, notFrame_new I2 big, upd_same⟩
    · by_cases hb : p.1 = P
      · rw [hu p hp hb, hb]
        refine ⟨ps ++ #[rawInt pos.line, rawInt pos.col, .ref c'], by rw [upd_ne (ne_of_none hP nC), upd_same], ?_, fun p' cv hcv => ?_⟩
        · rw [Array.toList_append]
          exact PySem.TriplesOk_snoc _ _ _ _ ht
        · rw [Array.toList_append] at hcv
          rcases among_app _ ht hcv with q | q
          · obtain ⟨c0, q1, q2⟩ := ha p' cv q
            exact ⟨c0, q1, ext _ _ q2 codeO_ne⟩
          · exact ⟨c', q, upd_same⟩
      · obtain ⟨ps', a1, a2, a3⟩ := hT p hp
        refine ⟨ps', by rw [upd_ne (ne_of_none a1 nC), upd_ne hb]; exact a1, a2, fun p' cv hcv => ?_⟩
        obtain ⟨c0, q1, q2⟩ := a3 p' cv hcv
        exact ⟨c0, q1, ext _ _ q2 codeO_ne⟩
    · rw [upd_ne tC, upd_ne tP]
      exact tN
    · rw [upd_ne (Nat.ne_of_gt hlt), upd_ne (Nat.ne_of_gt (Nat.lt_of_lt_of_le (Heap.lt_size hP2) big))]
      exact I2.hok.fresh big
/-- a(), in the def that got such a lambda: that def was entered at s -/
theorem pe_actD {T : List (Addr × Str)} {H0 : Hp} {CXg : CXT} {Eg : XK} {Ng : List Str} {qg : Str} {sg : Scope} {g f c' T0 : Addr} {cdg dv doc pm ctv : Value} {params : Arguments} {body : Expr} {scope : Scope} {k i : Nat} {a : Str} {pn : List (Addr × Obj)} {xe : Value → Shared → Prop} {W : WX} {E : XK} {tb : TE} {p1 p2 : Pos}
    (Md : Made X pins σ T H0 H s params body scope f c' T0 dv doc pm ctv) (L : LamD X.N X.env.scope scope y0)
    (hbind : ∃ k, bindArgs (PySem.W.kdv_fn "<lambda>" (X.env.qual ++ "<lambda>") params (.expr body) scope (cloFrom X.env.cells scope.names []) (.ref T0) doc pm (.ref c') ctv) ⟨[], []⟩ = seqItems? (.ref T0) >>= k ∧ k (some #[dv]) = pure [(y0, dv)])
    (tk : Takes ((cxOf CXg X.prog X.w X.K X.mg X.base Ng qg sg g cdg X.A X.stack s H Eg).tr pn xe) W) (hW : ∀ cls d σ' H', E cls d H' → W cls d σ' H') (hr : Room (k + 1) (X.A.deeper (envOfC qg sg s.heap.objs.size g cdg)))
    (hbody : ∀ (A : Around) (outer : List Env) (s : Shared) (H : Hp), Room k (A.deeper (lamEnv X scope s.heap.objs.size f c')) → PE (lamCx X A outer s H E scope f c') body tb)
    (hN : Ng[i]? = some a) (hv : Vis sg a) (hd : (a == ("__debug__" : Str)) = false := by decide) (hcd : (a == ("__classdict__" : Str)) = false := by decide) :
    PE ((cxOf CXg X.prog X.w X.K X.mg X.base Ng qg sg g cdg X.A X.stack s H Eg).tr pn xe) (.Call (.Name a p1) [] [] p2)
      (fun σZ HZ Q => σZ[i]? = some (some (.ref f)) ∧ HZ c' = some (CodeO c' (X.env.qual ++ "<lambda>")) ∧ tb σ HZ Q) := by
  refine ⟨fun pinsZ sZ σZ HZ Q IZ hh => wpAny_Call_Name_kw ?_⟩
  obtain ⟨hs, hc, ht⟩ := hh
  refine thn ((pe_var (pos := p1) (i := i) hN hv hd hcd).run pinsZ sZ σZ HZ (fun v H1 => v = .ref f ∧ H1 = HZ) IZ ⟨.ref f, hs, rfl, rfl⟩) (fun u s1 got => ?_)
  obtain ⟨v, H1, I1, r1, ev, eH⟩ := got
  subst ev
  rw [eH] at I1
  obtain rfl : u = Value.ref f := r1
  have noEx : ∀ b : Addr, b ∉ ([] : List Addr) := fun b z => nomatch z
  have fn1 := I1.base.keep f _ Md.fn Md.fnN Md.fnF (noEx f)
  have tup1 := I1.base.keep T0 _ Md.tup Md.tupN Md.tupF (noEx T0)
  refine PySem.W.callWith_F0 ⟨_, _, _, _, fn1⟩ ?_
  have un : Un (frs X.stack) [] H HZ s.heap s1.heap := I1.base
  obtain ⟨⟨oc, vs, t, hoc, hdc, hvc⟩, _, _⟩ := I1.hok c' _ hc
  obtain ⟨kk, b1, b2⟩ := hbind
  have run : codeAny (model X.prog X.w) (X.A.deeper (envOfC qg sg s.heap.objs.size g cdg)) (.call (.ref f) ⟨[], []⟩) (CR (L2.CX X.prog X.w) (envOfC qg sg s.heap.objs.size g cdg :: X.stack) X.prog X.w HZ s1 Q E) s1 := by
    refine PySem.W.kla_callFunE hr.depth fn1 rfl L.co L.gen rfl ⟨c', oc, vs, t, rfl, hoc, hdc, hvc⟩ ?_
    refine BindsTo.of_defaults rfl tup1 rfl b1 b2 _ _ _ _ ?_
    refine wpAny_newFunctionEnv L.nocell (fun y hy => ?_) (fun h1 hns hsb => ⟨I1.nolimit.fresh _ hsb, ?_⟩) L.kind
    · obtain rfl := List.mem_singleton.mp hy
      exact L.par
    have kp : ∀ b o, s1.heap.get? b = some o → h1.get? b = some o := fun b o e => hsb.extBut b o (Nat.ne_of_lt (Heap.lt_size e)) (Heap.get?_push_of_some _ e)
    show codeAny _ _ (.expr body (lamEnv X scope s1.heap.objs.size f c')) _ _
    have J := lamD_start (E := E) (f := f) (c' := c') (tk := s1.toks + 1) Md.inv L I1.env0 hr.hd un hns kp
    refine PySem.W.kla_codeExpr (wpAny_mono ((hbody _ _ s1 HZ (hr.deeper _)).run [] _ _ HZ Q J ht) (fun v s' out => ?_) (fun _ _ z => z))
    obtain ⟨w', H', J', rv, q⟩ := out
    exact ⟨w', H', J'.os, J'.bare, J'.base, J'.hok, rv, q⟩
  have out := passes_call tk hW
  refine wpAny_call (codeAny_mono run (fun r s' hq => ?_))
  match r, hq with
  | .error e, hq => exact out pinsZ σZ HZ s1 e s' I1 hq
  | .ok (.ret u), hq => exact I1.after hq
  | .ok .next, hq => exact hq.elim
  | .ok .brk, hq => exact hq.elim
  | .ok .cont, hq => exact hq.elim
end
section
variable {X : Cx} {y0 : Str}
/-- x(lambda y0=z: body) -/
theorem pe_lamcallD {T : List (Addr × Str)} {TT : (XK → Hp → VK → Prop) → Hp → VK → Prop} {x a : Str} {g c P : Addr} {k j : Nat} {z : Int} {pg : Arguments} {bg : List Stmt} {sg : Scope} {dV kV doc pm cdv ct oc : Value} {an od : Option Addr} {osl : Array (Option Value)} {Ng : List Str}
    {params : Arguments} {body : Expr} {scope : Scope} {t : XK → TE} {p lpos pos dp : Pos} (hg : Gl X x) (hm : X.mg x = some (.ref g)) (hk : PySem.W.keepIn X.K (.ref g) = true)
    (lk : X.K.lookup g = some ⟨oc, od, .func (PySem.W.fnOf x x pg bg sg dV kV doc pm an cdv ct), osl⟩) (hcg : PySem.W.codeIn X.K cdv x = true) (hb : L2.Binds X.K (PySem.W.fnOf x x pg bg sg dV kV doc pm an cdv ct) [a] []) (Sg : FnScope Ng [a] sg) (hNg : Ng[0]? = some a) (hva : Vis sg a)
    (gives : GivesTo X Ng x sg g cdv bg a (X.env.qual ++ "<lambda>") TT) (TB : TabB X.base X.mg c P) (hcode : X.env.code = .ref c) (hmT : (P, X.env.qual ++ "<lambda>") ∈ T) (hu : ∀ p ∈ T, p.1 = P → p.2 = X.env.qual ++ "<lambda>")
    (hr : Room (k + 2) X.A) (L : LamD X.N X.env.scope scope y0) (hdef : params.defaults = [.Constant (.int z) j dp]) (hkw : params.kw_defaults = [])
    (hbind : ∀ (q : Str) (cl : List (Str × Addr)) (T0 : Addr) (doc pm cv ctv dv : Value), ∃ kk, bindArgs (PySem.W.kdv_fn "<lambda>" q params (.expr body) scope cl (.ref T0) doc pm cv ctv) ⟨[], []⟩ = seqItems? (.ref T0) >>= kk ∧ kk (some #[dv]) = pure [(y0, dv)])
    (hbody : ∀ (A : Around) (outer : List Env) (s : Shared) (H : Hp) (E : XK) (f c' : Addr), Room k (A.deeper (lamEnv X scope s.heap.objs.size f c')) → PE (lamCx X A outer s H E scope f c') body (t E))
    (hdb : (x == ("__debug__" : Str)) = false := by decide) (hd : (a == ("__debug__" : Str)) = false := by decide) (hcd : (a == ("__classdict__" : Str)) = false := by decide) :
    PE X (.Call (.Name x p) [.Lambda params body scope lpos] [] pos) (tLam T TT t) := by
  refine ⟨fun pins s σ H Q I hh => wpAny_Call_Name_kw (ld_glob I hg hm ?_ hdb)⟩
  obtain ⟨hT, ask⟩ := hh
  refine PySem.W.callWith_K (h₀ := X.base) I.ok.mod.kin hk ?_ (by rfl) (by rfl)
  show wpAny _ _ (spliced ((false, eval (.Lambda params body scope lpos) X.env) :: backTo pos (starEach [] X.env))) _ _ s
  refine Calls.spliced_cons (lamD_make I TB hcode hmT hu hT hdef hkw (L.has I.ok) (fun f c' T0 dv doc' pm' ctv H1 s' Md => ?_))
  refine Calls.spliced_nil ⟨Md.inv.kIn, ?_⟩
  have run : codeAny (model X.prog X.w) X.A (.call (.ref g) ⟨[.ref f], []⟩) (CR C8.CX0 X.stack X.prog X.w H1 s' Q C8.E0) s' := by
    refine run_ofS (N := Ng) (ps := [a]) (us := [.ref f]) (vs := [.ref f]) lk hcg Sg hr Md.inv.env0 (hb s' [.ref f] Md.inv.kIn rfl) (.cons rfl .nil) rfl (fun room => ?_)
    have act := gives f c' s' H1 Q (fun E H' Q' => t E σ H' Q')
      (fun W pn xe E p1 p2 tk hW => pe_actD (i := 0) Md L (hbind _ _ _ _ _ _ _ _) tk hW room (fun A outer s H r2 => hbody A outer s H E f c' r2) hNg hva hd hcd) Md.code (ask H1 Md.ext Md.tabs)
    obtain ⟨t', good, asked⟩ := act
    exact ⟨t', good.nox, asked⟩
  refine wpAny_call (codeAny_mono run (fun r s2 hq => ?_))
  match r, hq with
  | .error e, hq => exact (show False from hq).elim
  | .ok (.ret u), hq => exact Md.inv.after hq
  | .ok .next, hq => exact hq.elim
  | .ok .brk, hq => exact hq.elim
  | .ok .cont, hq => exact hq.elim
end
end SW

set_option Elab.async false
set_option linter.all false
set_option maxRecDepth 100000
set_option maxHeartbeats 4000000
namespace SW
open PySem PySem.Spec PyProof.Rows L2
/-! ### calls with keywords of defs that errors may leave -/
section
variable {X : Cx} {k j : Nat} {x : Str} {ps ks : List Str} {sp : Sp} {p pos : Pos} {kws : List Keyword} {tk : TA} {st : Stmt} {g : List Value → List Value → List Value} {gV : List V → List V → List V} {e : Expr} {es : List Expr} {t : TA} {E : XK}
/-- where no error is raised -/
theorem passN : Passes (L2.CX X.prog X.w) X (fun _ _ _ => False) := passes_call LamX.takes0 (fun _ _ _ _ z => z)
theorem pe_ownXK0 (c : CalX X.prog X.w X.K X.mg X.base k x ps sp) (D : Df X.K X.mg x st ps) (room : Room j X.A) (hk : k ≤ j) (hx : Passes (L2.CX X.prog X.w) X E) (hg : Gl X x)
    (hb : ∀ (kV doc pm : Value) (an : Option Addr) (cdv ct : Value) (us ws : List Value), (g us ws).length = ps.length →
      bindArgs (PySem.W.fnOf x x (defArgs st) (defBody st) (defScope st) .none kV doc pm an cdv ct) ⟨us, ks.zip ws⟩ = pure (ps.zip (g us ws)))
    (hrel : ∀ {vs : List V} {us : List Value} {zs : List V} {ws : List Value}, Vals vs us → Vals zs ws → Vals (gV vs zs) (g us ws)) (hkw : PK X kws tk)
    (hall : (backToKw pos (keywordEach kws X.env)).all (·.1.isSome) = true := by rfl) (hks : (backToKw pos (keywordEach kws X.env)).filterMap (·.1) = ks := by rfl) (hdb : (x == ("__debug__" : Str)) = false := by decide)
    (hpl : ((backTo pos (starEach [] X.env)).any (·.1) || (backToKw pos (keywordEach kws X.env)).any (·.1.isNone)) = false := by rfl) :
    PE X (.Call (.Name x p) [] kws pos) (tCallK sp gV E tNil tk) := by
  obtain ⟨f, fd, F, m, keep, _, look⟩ := c.ex
  have kb : KBinds X.K fd ps ks g gV := kbinds D m look hb hrel
  constructor
  intro pins s σ H Q I h
  refine wpAny_Call_Name_kw (ld_glob I hg m (PySem.W.callWith_KW0 (h₀ := X.base) I.ok.mod.kin keep hall (thn (hkw.run pos pins s σ H _ I h) fun ws s2 got => ?_) hpl) hdb)
  obtain ⟨zs, H2, I2, rz, q2⟩ := got
  refine ⟨I2.kIn, ?_⟩
  rw [hks]
  exact run_fnk (F.mono hk) room kb hx I2 .nil rz q2
theorem pe_ownXK (c : CalX X.prog X.w X.K X.mg X.base k x ps sp) (D : Df X.K X.mg x st ps) (room : Room j X.A) (hk : k ≤ j) (hx : Passes (L2.CX X.prog X.w) X E) (hg : Gl X x)
    (hb : ∀ (kV doc pm : Value) (an : Option Addr) (cdv ct : Value) (us ws : List Value), (g us ws).length = ps.length →
      bindArgs (PySem.W.fnOf x x (defArgs st) (defBody st) (defScope st) .none kV doc pm an cdv ct) ⟨us, ks.zip ws⟩ = pure (ps.zip (g us ws)))
    (hrel : ∀ {vs : List V} {us : List Value} {zs : List V} {ws : List Value}, Vals vs us → Vals zs ws → Vals (gV vs zs) (g us ws)) (ha : PA X (e :: es) t) (hkw : PK X kws tk)
    (hall : (backToKw pos (keywordEach kws X.env)).all (·.1.isSome) = true := by rfl) (hks : (backToKw pos (keywordEach kws X.env)).filterMap (·.1) = ks := by rfl) (hdb : (x == ("__debug__" : Str)) = false := by decide)
    (he : starEach (e :: es) X.env = (false, eval e X.env) :: starEach es X.env := by rfl)
    (hpl : ((backTo pos (starEach (e :: es) X.env)).any (·.1) || (backToKw pos (keywordEach kws X.env)).any (·.1.isNone)) = false := by rfl) :
    PE X (.Call (.Name x p) (e :: es) kws pos) (tCallK sp gV E t tk) := by
  obtain ⟨f, fd, F, m, keep, _, look⟩ := c.ex
  exact pe_callK (F.mono hk) room hg m keep (kbinds D m look hb hrel) hx ha hkw hall hks hdb he hpl
end
/-- one place, two keywords the other way round -/
def g12s {α : Type} : List α → List α → List α
  | [a], [b, c] => [a, c, b]
  | _, _ => []
end SW

set_option Elab.async false
set_option linter.all false
set_option maxRecDepth 100000
set_option maxHeartbeats 4000000
namespace SW
open PySem PySem.Spec PyProof.Rows L2
/-! ### an error without a field: C() -/
/-- what its __init__ promises -/
def spErr0 (K : PySem.W.Frag) (C : Addr) (n : Str) : Sp := fun vs H Q _ => ∃ a, vs = [.ref a] ∧ H a = some (exo a C none) ∧
  ∀ dx H' m, H' a = some (exo a C (some dx)) → H' dx = some (exd dx [("message", .str m), ("code", .str n)]) → H dx = none → dx ≠ a → (∀ b o, b ≠ a → H b = some o → H' b = some o) → Q .non H'
structure ErrOk0 (P : Program) (w : World) (K : PySem.W.Frag) (mg : Str → Option Value) (base : Heap) (x : Str) (C : Addr) (n : Str) : Prop where
  ex : ∃ f fd, FnOk P w K mg base CX0 2 f fd ["self"] (spErr0 K C n) ∧ PySem.W.findIn K (.ref C) "__init__" = some (some (.ref f)) ∧ PySem.W.typeIn K (.ref f) = some (.type "function") ∧ Binds K fd ["self"] []
  er : Er K C n "code"
  at_ : mg x = some (.ref C)
abbrev erf0 (n : Str) (m : Str) : List (Str × V) := [("message", .str m), ("code", .str n)]
/-- such an error is wished for -/
def Rz0 (H : Hp) (E : XK) (C : Addr) (n : Str) : Prop := ∀ d H2 m, H d = none → H2 d = some (.xd (erf0 n m)) → Same H H2 → E (.ref C) (some d) H2
theorem Rz0.same {H H1 : Hp} {E : XK} {C : Addr} {n : Str} (z : Rz0 H E C n) (s : Same H H1) : Rz0 H1 E C n := fun d H2 m hd h1 h2 =>
  z d H2 m (Option.eq_none_iff_forall_ne_some.mpr fun o q => by rw [s _ _ q] at hd; cases hd) h1 (s.trans h2)
section
variable {X : Cx} {x : Str} {C : Addr} {n : Str}
theorem pmk_err0 {p pos : Pos} (c : ErrOk0 X.prog X.w X.K X.mg X.base x C n) (room : Room 3 X.A) (hg : Gl X x) (hdb : (x == ("__debug__" : Str)) = false := by decide) :
    PMk X (.Call (.Name x p) [] [] pos) (fun _ H Q => Rz0 H Q C n) := by
  obtain ⟨fI, fd, F1, iC, tI, bI⟩ := c.ex
  have T := c.er.oex
  intro pins s σ H Q I z
  obtain ⟨nm, q, N, bs, bm, sn, sub, ab, col, dd, k0, k1, k2, k3, k5, look, refs⟩ := T.cls
  refine wpAny_Call_Name_kw (ld_glob I hg c.at_ (PySem.W.callWith_K0 I.kIn T.kC ?_) hdb)
  show wpAny _ _ (call (.ref C) []) _ _ _
  obtain ⟨h0, gs, dr, tk, os⟩ := s
  have up : h0.objs.size ≤ h0.objs.size + 1 := Nat.le_succ _
  have free : H (h0.objs.size + 1) = none := I.hok.fresh up
  have kept : ∀ b o, h0.get? b = some o → ((h0.push (PySem.W.kdv_tup [])).push (PySem.HandSPX.excO C h0.objs.size)).get? b = some o := fun b o e => Heap.get?_push_of_some _ (Heap.get?_push_of_some _ e)
  have mine : ((h0.push (PySem.W.kdv_tup [])).push (PySem.HandSPX.excO C h0.objs.size)).get? (h0.objs.size + 1) = some (PySem.HandSPX.excO C h0.objs.size) := by heap_get
  have J : Inv X pins σ (upd H (h0.objs.size + 1) (exo (h0.objs.size + 1) C none)) ⟨(h0.push (PySem.W.kdv_tup [])).push (PySem.HandSPX.excO C h0.objs.size), gs, dr, tk, os⟩ :=
    I.laid (t' := tk) (a := h0.objs.size + 1) (o := exo (h0.objs.size + 1) C none) kept up (exo_ok mine)
  have one : Vals [V.ref (h0.objs.size + 1)] [Value.ref (h0.objs.size + 1)] := .cons rfl .nil
  have asked : spErr0 X.K C n [.ref (h0.objs.size + 1)] (upd H (h0.objs.size + 1) (exo (h0.objs.size + 1) C none))
      (fun v H2 => v = .non ∧ ∃ (d : Addr) (fs : List (Str × V)), H2 (h0.objs.size + 1) = some (exo (h0.objs.size + 1) C (some d)) ∧ H2 d = some (exd d fs) ∧ H d = none ∧ Q (.ref C) (some d) (upd (del H2 (h0.objs.size + 1)) d (.xd fs))) (fun _ _ _ => False) := by
    refine ⟨_, rfl, upd_same, fun dx H' m h1 h2 h3 h4 h5 => ⟨rfl, dx, _, h1, h2, ?_, ?_⟩⟩
    · rw [← h3, upd_ne h4]
    · have hn : H dx = none := by rw [← h3, upd_ne h4]
      refine z dx _ m hn upd_same (fun b o hb => ?_)
      have hba := ne_of_none hb free
      rw [upd_ne (ne_of_none hb hn), del_ne hba]
      exact h5 b o hba (by rw [upd_ne hba]; exact hb)
  have run := F1.run _ X.stack _ _ ⟨[Value.ref (h0.objs.size + 1)], []⟩ [Value.ref (h0.objs.size + 1)] _ _ (fun _ _ _ => False) (room.make C [] []) (J.env0.make C [] []) (bI _ [Value.ref (h0.objs.size + 1)] J.kIn rfl) one asked
  refine wpAny_call (PySem.HandSPX.call_own F.excBase_ValueError (fun Y => PySem.HandSPX.refsVE_contains Y bm refs) (I.kIn _ _ look) (PySem.W.looks_findIn I.kIn iC) (fun self => PySem.W.bind_fn I.kIn self tI) (Nat.zero_le _)
    (codeAny_mono run fun r s' out => ?_))
  match r, out with
  | .error er, out => exact out.elim
  | .ok .next, out => exact False.elim out
  | .ok .brk, out => exact False.elim out
  | .ok .cont, out => exact False.elim out
  | .ok (.ret u), out =>
    obtain ⟨v, H2, os2, bare2, un2, hok2, rv, ev, d, fs, ea, ed, hd1, q2⟩ := out
    subst ev
    obtain ⟨h2, g2, d2, t2, os'⟩ := s'
    exact ⟨rv, mk_end (raises_own T.exC T.tyC) I up kept un2 hok2 os2 bare2 ea ed hd1 q2⟩
end
end SW

set_option Elab.async false
set_option linter.all false
set_option maxRecDepth 100000
set_option maxHeartbeats 4000000
namespace SW
open PySem PySem.Spec PyProof.Rows L2
/-- what a law's def promises that makes functions: its table of code objects is at T, empty -/
def spLawT (K : PySem.W.Frag) (T : Addr) : Sp := fun vs H Q _ => ∃ (a : Addr) (ns : List Int), vs = [.ref a] ∧ SqL K H a (ns.map V.int) ∧ H T = some (.tbl #[]) ∧ ∀ H', Q (.bl true) H'
theorem walkT {l : PySem.W.OpenLaw} {q : Program} {loose : List Str} {XP : (Str → Option Value) → Heap → Prop} {YP : World → Heap → Prop} {d : DefRec} {K : Params → PySem.W.Frag} {k : Nat} (hr : Room k callerA) (hn : l.most = some 63) (hdf : d.params.defaults = [])
    (hY : ∀ (w : World) (h : Heap), YP w h → (K w.params).In h)
    (F : ∀ (w : World) (mg : Str → Option Value) (fa : Addr) (h : Heap), YP w h → (K w.params).In h → h.Ns mainGlobals mg → mg d.name = some (.ref fa) →
      ∃ (fd : FuncData) (c T : Addr), h.get? T = some { cls := .none, data := .fields #[] } ∧ (K w.params).lookup T = none ∧ PySem.W.CodeHd h c T ∧ (∀ (s : Shared) (u : Value), BindsTo s fd ⟨[u], []⟩ [("_law_script", u)]) ∧
        ∀ base : Heap, (K w.params).In base → base.Ns mainGlobals mg → LamX.TabB base mg c T → FnOk l.prog w (K w.params) mg base CX0 k fa fd ["_law_script"] (spLawT (K w.params) T)) :
    PySem.W.WalkO q loose XP YP l.row.toRowW d [] (fun f vs => PySem.call f vs) := by
  refine LamX.walk_ofTs (n := 63) (k := k) (x := "_law_script") (CX := fun _ => CX0) hn (by decide) hdf hr hY (fun w mg fa h Y X G m => ?_) (fun _ _ _ _ _ z => z)
  obtain ⟨fd, c, T, h1, h2, h3, h4, h5⟩ := F w mg fa h Y X G m
  refine ⟨fd, [(c, T)], spLawT (K w.params) T, fun p hp => ?_, fun p hp => ?_, fun p hp => ?_, h4, fun H a ns _ _ hT hS => ⟨a, ns, rfl, hS, hT (c, T) (List.mem_singleton.mpr rfl), fun _ => rfl⟩, fun base i1 i2 i3 => h5 base i1 i2 (i3 (c, T) (List.mem_singleton.mpr rfl))⟩
  · obtain rfl := List.mem_singleton.mp hp
    exact h1
  · obtain rfl := List.mem_singleton.mp hp
    exact h2
  · obtain rfl := List.mem_singleton.mp hp
    exact h3
/-! ### a law's def that tells its code object -/
structure DfC (K : PySem.W.Frag) (mg : Str → Option Value) (x : Str) (st : Stmt) (ps : List Str) (c : Addr) : Prop where
  ex : ∃ (f : Addr) (oc : Value) (od an : Option Addr) (kV doc pm ct : Value) (osl : Array (Option Value)), K.lookup f = some ⟨oc, od, .func (PySem.W.fnOf x x (defArgs st) (defBody st) (defScope st) .none kV doc pm an (.ref c) ct), osl⟩ ∧
    PySem.W.codeIn K (.ref c) x = true ∧ mg x = some (.ref f)
theorem DfC.ok {P : Program} {w : World} {K : PySem.W.Frag} {mg : Str → Option Value} {x : Str} {st : Stmt} {N ps : List Str} {k : Nat} {sp : Sp} {c fa : Addr} (D : DfC K mg x st ps c) (hmg : mg x = some (.ref fa)) (S : FnScope N ps (defScope st)) (len : ∀ vs H Q E, sp vs H Q E → vs.length = ps.length)
    (hb : ∀ (kV doc pm : Value) (an : Option Addr) (cdv ct : Value) (us : List Value), us.length = ps.length → bindArgs (PySem.W.fnOf x x (defArgs st) (defBody st) (defScope st) .none kV doc pm an cdv ct) ⟨us, []⟩ = pure (ps.zip us)) {Φ : Heap → Prop}
    (hbody : ∀ (base : Heap) (f : Addr) (A : Around) (outer : List Env) (s : Shared) (H : Hp) (vs : List V) (Q : VK) (E : XK), Φ base → Room k (A.deeper (envOfC x (defScope st) s.heap.objs.size f (.ref c))) → sp vs H Q E →
      ∃ t, PSs (cxOf CX0 P w K mg base N x (defScope st) f (.ref c) A outer s H E).nox (defBody st) t ∧ t { nx := fun _ H' => Q .non H', rt := Q } (L2.start N vs) H) :
    ∃ fd : FuncData, (∀ (s : Shared) (us : List Value), us.length = ps.length → BindsTo s fd ⟨us, []⟩ (ps.zip us)) ∧ ∀ base : Heap, Φ base → FnOk P w K mg base CX0 (k + 1) fa fd ps sp := by
  obtain ⟨f, oc, od, an, kV, doc, pm, ct, osl, lk, hcd, m⟩ := D.ex
  have e : f = fa := by
    rw [hmg] at m
    cases m
    rfl
  subst e
  refine ⟨_, fun s us hl => .of_eq (hb kV doc pm an (.ref c) ct us hl), fun base hΦ => fn_of lk hcd S len (fun A outer s H vs Q E hr h => ?_)⟩
  obtain ⟨t, good, asked⟩ := hbody base f A outer s H vs Q E hΦ hr h
  exact ⟨t, good.nox, asked⟩
theorem dfC_mk {K : PySem.W.Frag} {mg : Str → Option Value} {h : Heap} {x : Str} {st : Stmt} {ps : List Str} {c f : Addr} {oc : Value} {od an : Option Addr} {kV doc pm ct : Value} {osl : Array (Option Value)} (X : K.In h) (G : h.Ns mainGlobals mg)
    (a : PySem.W.nsIn K mainGlobals x = some (some (.ref f))) (l : K.lookup f = some ⟨oc, od, .func (PySem.W.fnOf x x (defArgs st) (defBody st) (defScope st) .none kV doc pm an (.ref c) ct), osl⟩) (cd : PySem.W.codeIn K (.ref c) x = true) : DfC K mg x st ps c :=
  ⟨f, oc, od, an, kV, doc, pm, ct, osl, l, cd, PySem.W.mg_of X G a⟩
end SW

set_option Elab.async false
set_option linter.all false
set_option maxRecDepth 100000
set_option maxHeartbeats 4000000
namespace SW
open PySem PySem.Spec PyProof.Rows L2
/-! ### what the making of a function keeps -/
theorem ext_same {H H' : Hp} (s : Same H H') : LamX.ExtN H H' := LamX.ExtN.of fun b o h => s b o h
theorem ext_tp {H H' : Hp} (e : LamX.ExtN H H') : Tp H H' := fun a xs h => by
  rcases h with h | ⟨o, h⟩
  · exact .inl (e _ _ h (fun ps q => nomatch q))
  · exact .inr ⟨o, e _ _ h (fun ps q => nomatch q)⟩
theorem Rng.ext {H H' : Hp} {r l : Addr} (g : Rng H r l) (e : LamX.ExtN H H') : Rng H' r l := by
  obtain ⟨ns, i, d, st, c, h1, h2, h3, h4⟩ := g
  exact ⟨ns, i, d, st, c, e _ _ h1 (fun ps q => nomatch q), e _ _ h2 (fun ps q => nomatch q), h3, h4⟩
theorem tabs_kp {T : List (Addr × Str)} {H H' : Hp} {r : Addr} {z : List V} (t : LamX.Tabs T H) (k : Kp r H H') (h : H r = some (.lst z)) : LamX.Tabs T H' := fun p hp => by
  obtain ⟨ps, h1, h2, h3⟩ := t p hp
  refine ⟨ps, k _ _ (fun e => by rw [e, h] at h1; cases h1) h1, h2, fun pos cv hc => ?_⟩
  obtain ⟨c, e1, e2⟩ := h3 pos cv hc
  exact ⟨c, e1, k _ _ (fun e => by rw [e, h] at e2; cases e2) e2⟩
theorem tabs_same {T : List (Addr × Str)} {H H' : Hp} (t : LamX.Tabs T H) (s : Same H H') : LamX.Tabs T H' := t.ext fun b o h => s b o h
/-- the law's try over an error without a field -/
theorem rz_try {K : PySem.W.Frag} {BS C : Addr} {H : Hp} {Q : VK} (hx : PySem.W.exmOne K (.ref C) (.ref BS) = some true) (ec : ErrC K C) (q : ∀ p H', SqT K H' p [.str "InvalidAddress", .non] → Same H H' → Q (.ref p) H') :
    Rz0 H (fun cls d H' => ∃ C dd fs n v, cls = .ref C ∧ d = some dd ∧ PySem.W.exmOne K cls (.ref BS) = some true ∧ ErrC K C ∧ H' dd = some (.xd fs) ∧ fs.lookup ("code" : Str) = some (V.str n) ∧ ErV fs n v ∧ ∀ p, H' p = none → Q (.ref p) (upd H' p (.tup [.str n, v]))) C "InvalidAddress" := by
  intro d H2 m hd h2 s
  refine ⟨C, d, _, "InvalidAddress", .non, rfl, rfl, hx, ec, h2, ?_, .addr, fun p hp => q p _ (SqT.of upd_same) (s.trans (same_new hp))⟩
  have e : (("code" : Str) == ("message" : Str)) = false := by decide +kernel
  simp only [erf0, List.lookup, e, beq_self_eq_true]
theorem addr_pair {K : PySem.W.Frag} {H : Hp} {p p2 : Addr} {Q : VK} (h : SqT K H p [.str "InvalidAddress", .non]) (h2 : SqT K H p2 [.str "InvalidAddress", .non]) (q : Q (.bl false) H) : rNeD K (.ref p) (.ref p2) H Q := by
  refine ⟨.tuple [.str "InvalidAddress", .none], .tuple [.str "InvalidAddress", .none], .tup h (.cons (.str _) (.cons .non .nil)), .tup h2 (.cons (.str _) (.cons .non .nil)), by decide +kernel, by decide +kernel, ?_⟩
  have e : (!PyData.eqv (.tuple [.str "InvalidAddress", .none]) (.tuple [.str "InvalidAddress", .none])) = false := by decide +kernel
  rw [e]
  exact q
/-- what leaves the lambda's body leaves the lambda (the program stands apart, for the unifier's sake) -/
theorem pass_lam2 {X : Cx} {P : Program} {w : World} {A : Around} {outer : List Env} {s : Shared} {H : Hp} {scope : Scope} {f c' : Addr} {E : XK} (hP : X.prog = P := by rfl) (hw : X.w = w := by rfl) : Passes (L2.CX P w) (LamX.lamCx X A outer s H E scope f c') E := by
  subst hP
  subst hw
  exact pass_lam
theorem try_val {K : PySem.W.Frag} {T BS C : Addr} {Lq : Str} {σ : L2.St} {H : Hp} {tl : XK → TE} {Q : VK} (tabs : LamX.Tabs [(T, Lq)] H) (hx : PySem.W.exmOne K (.ref C) (.ref BS) = some true) (ec : ErrC K C)
    (ask : ∀ H1, LamX.ExtN H H1 → ∀ (Ech : XK), Rz0 H1 Ech C "InvalidAddress" → ∀ Q', tl Ech σ H1 Q') (k : ∀ p H2, SqT K H2 p [.str "InvalidAddress", .non] → LamX.ExtN H H2 → LamX.Tabs [(T, Lq)] H2 → Q (.ref p) H2) :
    LamX.tLam [(T, Lq)] (TTry K BS) tl σ H Q := by
  refine ⟨tabs, fun H1 e1 t1 => ?_⟩
  exact ask H1 e1 _ (rz_try (Q := Q) hx ec (fun p H' hp S => k p H' hp (e1.trans (ext_same S)) (tabs_same t1 S))) _
theorem try_test {K : PySem.W.Frag} {T BS C : Addr} {Lq : Str} {σ : L2.St} {H : Hp} {tl : XK → TE} {QF : Bool → Hp → Prop} (tabs : LamX.Tabs [(T, Lq)] H) (hx : PySem.W.exmOne K (.ref C) (.ref BS) = some true) (ec : ErrC K C)
    (ask : ∀ H1, LamX.ExtN H H1 → ∀ (Ech : XK), Rz0 H1 Ech C "InvalidAddress" → ∀ Q', tl Ech σ H1 Q') (k : ∀ H2, LamX.ExtN H H2 → LamX.Tabs [(T, Lq)] H2 → QF false H2) :
    tTest (tOp (rNeD K) (LamX.tLam [(T, Lq)] (TTry K BS) tl) (tTup (tCons (tC (.str "InvalidAddress")) (tCons (tC .non) tNil)))) σ H QF := by
  refine ⟨tabs, fun H1 e1 t1 => ?_⟩
  refine ask H1 e1 _ (rz_try (Q := fun x H1 => tTup (tCons (tC (.str "InvalidAddress")) (tCons (tC .non) tNil)) σ H1 fun y H2 => rNeD K x y H2 fun x H' => ∃ k, x = .bl k ∧ QF k H') hx ec (fun p H' hp S => ?_)) _
  refine ⟨(by show 2 ≤ sizeLine; decide), fun p2 hp2 => ?_⟩
  have S2 := S.trans (same_new (o := .tup [.str "InvalidAddress", .non]) hp2)
  exact addr_pair ((tp_new hp2).sq hp) (SqT.of upd_same) ⟨_, rfl, k _ (e1.trans (ext_same S2)) (tabs_same t1 S2)⟩
theorem fun0_mk {K : PySem.W.Frag} {qual : Str} {st : Stmt} {f : Addr} {od an : Option Addr} {sl : Array (Option Value)} {oc kV dc pm cd ct : Value} {ps : List Str} (l : K.lookup f = some ⟨oc, od, .func (PySem.W.fnOf "__init__" qual (defArgs st) (defBody st) (defScope st) .none kV dc pm an cd ct), sl⟩)
    (c : PySem.W.codeIn K cd qual = true) (k : PySem.W.keepIn K (.ref f) = true) (hb : ∀ (kV doc pm : Value) (an : Option Addr) (cdv ct : Value) (us : List Value), us.length = ps.length → bindArgs (PySem.W.fnOf "__init__" qual (defArgs st) (defBody st) (defScope st) .none kV doc pm an cdv ct) ⟨us, []⟩ = pure (ps.zip us)) :
    ∃ fd, Fun K "__init__" qual st f fd ∧ Binds K fd ps [] := by
  have F := fun_mk (st := st) l c k
  exact ⟨_, F, F.binds (ps := ps) hb⟩
theorem errc_mk {K : PySem.W.Frag} {C : Addr} (h1 : PySem.W.findIn K (.ref C) "__getattribute__" = some (some (.builtin "BaseException.__getattribute__"))) (h2 : PySem.W.findIn K (.ref C) "__getattr__" = some none) (h3 : PySem.W.subIn K (.ref C) (.type "BaseException") = some true) (h4 : PySem.W.hasDictIn K C = true)
    (n1 : PySem.W.findIn K (.ref C) "code" = some none) (n2 : PySem.W.findIn K (.ref C) "position" = some none) (n3 : PySem.W.findIn K (.ref C) "limit" = some none) (n4 : PySem.W.findIn K (.ref C) "variables" = some none) (n5 : PySem.W.findIn K (.ref C) "number" = some none) (n6 : PySem.W.findIn K (.ref C) "name" = some none) : ErrC K C := by
  refine ⟨⟨h1, h2, h3, h4⟩, fun f hf => ?_⟩
  simp only [List.mem_cons, List.not_mem_nil, or_false] at hf
  rcases hf with rfl | rfl | rfl | rfl | rfl | rfl
  · exact n1
  · exact n2
  · exact n3
  · exact n4
  · exact n5
  · exact n6
/-- what the head says of an error without a field -/
def Er0 (K : PySem.W.Frag) (mg : Str → Option Value) (stB stC : Stmt) (x qual : Str) : Prop := ∃ B C f, Bas K mg "ScatterError" B "ScatterError.__init__" stB "something that was passed is not valid" ∧ (∃ fd, Fun K "__init__" qual stC f fd ∧ Binds K fd ["self"] []) ∧
  PySem.W.findIn K (.ref C) "__init__" = some (some (.ref f)) ∧ PySem.W.typeIn K (.ref f) = some (.type "function") ∧ Er K C x "code" ∧ mg x = some (.ref C) ∧ ErrC K C ∧ PySem.W.exmOne K (.ref C) (.ref B) = some true ∧ ∃ BM, mg "Missing" = some (.ref BM)
theorem exm_mk {K : PySem.W.Frag} {c : Value} {B : Addr} (h1 : PySem.W.subIn K (.ref B) (.type "BaseException") = some true) (h2 : (PySem.W.clsIn K B).isSome = true) (h3 : PySem.W.typeIn K (.ref B) = some (.type "type")) (h4 : PySem.W.subIn K c (.ref B) = some true) : PySem.W.exmOne K c (.ref B) = some true := by
  unfold PySem.W.exmOne
  rw [h1]
  show PySem.W.kitCls K c (.ref B) = some true
  unfold PySem.W.kitCls
  show (if ((PySem.W.clsIn K B).isSome && PySem.W.typeIn K (.ref B) == some (.type "type")) = true then PySem.W.subIn K c (.ref B) else none) = some true
  rw [h2, h3, if_pos (by rfl)]
  exact h4
theorem dp_str {K : PySem.W.Frag} {H : Hp} (c : Str) : Dp K H (.str c) (.str c) := .str c
theorem sm_str {n : Nat} (c : Str) : Sm n (.str c) := by cases n <;> (unfold Sm; trivial)
end SW

set_option Elab.async false
set_option linter.all false
set_option maxRecDepth 100000
set_option maxHeartbeats 4000000
namespace SW
open PySem PySem.Spec PyProof.Rows L2 LamX
/-! ### a lambda that is handed on: one def calls the next one with it, which calls it -/
theorem un_in {fs fs' : List Addr} {H H1 H2 : Hp} {h h1 h2 : Heap} (a : Un fs [] H H1 h h1) (b : Un fs' [] H1 H2 h1 h2) (hn : ∀ x ∈ fs', x ∈ fs ∨ h.get? x = none) : Un fs [] H H2 h h2 where
  keep := fun c ob q n hc hx => b.keep c ob (a.keep c ob q n hc hx) (a.free c ob q n hx) (fun m => (hn c m).elim hc (fun e => by rw [q] at e; cases e)) hx
  slot := fun c ob q n hc hx => by
    obtain ⟨sl, e1⟩ := a.slot c ob q n hc hx
    obtain ⟨sl', e2⟩ := b.any e1 (a.free c ob q n hx) hx
    exact ⟨sl', e2⟩
  free := fun c ob q n hx => by
    obtain ⟨o', e1⟩ := a.there c ob q hx
    exact b.free c o' e1 (a.free c ob q n hx) hx
  there := fun c ob q hx => by
    obtain ⟨o', e1⟩ := a.there c ob q hx
    exact b.there c o' e1 hx
  tups := fun x xs e => b.tups x xs (a.tups x xs e)
  frzs := fun x o u e => b.frzs x o u (a.frzs x o u e)
  tbls := fun x ps e => by
    obtain ⟨m, e1⟩ := a.tbls x ps e
    obtain ⟨m', e2⟩ := b.tbls x _ e1
    exact ⟨m ++ m', by rw [← Array.append_assoc]; exact e2⟩
section
variable {X : Cx} {pins : List (Addr × Obj)} {σ : L2.St} {H : Hp} {s : Shared} {y0 : Str}
/-- a(), in a def that was entered from another def than the maker -/
theorem pe_actG {CXg : CXT} {Eg : XK} {Ng : List Str} {qg : Str} {sg : Scope} {g f c' : Addr} {cdg pm ctv : Value} {params : Arguments} {body : Expr} {scope : Scope} {k i : Nat} {a : Str} {pn : List (Addr × Obj)} {xe : Value → Shared → Prop} {W : WX} {E : XK} {tb : TE} {p1 p2 : Pos}
    {A' : Around} {outer' : List Env} {s' : Shared} {H' : Hp}
    (I : Inv X pins σ H s) (L : LamS X.env.scope scope) (hf : s.heap.get? f = some (PySem.W.kla_obj "<lambda>" (X.env.qual ++ "<lambda>") params body scope (cloFrom X.env.cells scope.names []) pm c' ctv)) (hfn : H f = none) (hfr : f ∉ frs X.stack)
    (hbind : bindArgs (PySem.W.kla_fn "<lambda>" (X.env.qual ++ "<lambda>") params body scope (cloFrom X.env.cells scope.names []) pm (.ref c') ctv) ⟨[], []⟩ = pure [])
    (u0 : Un (frs X.stack) [] H H' s.heap s'.heap) (hn : ∀ b ∈ frs outer', b ∈ frs X.stack ∨ s.heap.get? b = none)
    (tk : Takes ((cxOf CXg X.prog X.w X.K X.mg X.base Ng qg sg g cdg A' outer' s' H' Eg).tr pn xe) W) (hW : ∀ cls d σ' H', E cls d H' → W cls d σ' H') (hr : Room (k + 1) (A'.deeper (envOfC qg sg s'.heap.objs.size g cdg)))
    (hbody : ∀ (A : Around) (outer : List Env) (s : Shared) (H : Hp), Room k (A.deeper (lamEnv X scope s.heap.objs.size f c')) → PE (lamCx X A outer s H E scope f c') body tb)
    (hN : Ng[i]? = some a) (hv : Vis sg a) (hd : (a == ("__debug__" : Str)) = false := by decide) (hcd : (a == ("__classdict__" : Str)) = false := by decide) :
    PE ((cxOf CXg X.prog X.w X.K X.mg X.base Ng qg sg g cdg A' outer' s' H' Eg).tr pn xe) (.Call (.Name a p1) [] [] p2)
      (fun σZ HZ Q => σZ[i]? = some (some (.ref f)) ∧ HZ c' = some (CodeO c' (X.env.qual ++ "<lambda>")) ∧ tb σ HZ Q) := by
  refine ⟨fun pinsZ sZ σZ HZ Q IZ h => ?_⟩
  obtain ⟨hs, hc, ht⟩ := h
  refine wpAny_Call_Name_kw (thn ((pe_var (pos := p1) (i := i) hN hv hd hcd).run pinsZ sZ σZ HZ (fun v H1 => v = .ref f ∧ H1 = HZ) IZ ⟨.ref f, hs, rfl, rfl⟩) fun u s1 ⟨v, H1, I1, r1, q1⟩ => ?_)
  obtain ⟨ev, eH⟩ := q1
  subst ev
  rw [eH] at I1
  obtain rfl : u = Value.ref f := r1
  have un : Un (frs X.stack) [] H HZ s.heap s1.heap := un_in u0 I1.base hn
  have of1 : s1.heap.get? f = some (PySem.W.kla_obj "<lambda>" (X.env.qual ++ "<lambda>") params body scope (cloFrom X.env.cells scope.names []) pm c' ctv) := un.keep f _ hf hfn hfr (by simp)
  refine PySem.W.callWith_F0 ⟨_, _, _, _, of1⟩ ?_
  obtain ⟨⟨oc, vs, t, hoc, hdc, hvc⟩, _, _⟩ := I1.hok c' _ hc
  have rc : codeAny (model X.prog X.w) (A'.deeper (envOfC qg sg s'.heap.objs.size g cdg)) (.call (.ref f) ⟨[], []⟩) (CR (L2.CX X.prog X.w) (envOfC qg sg s'.heap.objs.size g cdg :: outer') X.prog X.w HZ s1 Q E) s1 := by
    refine PySem.W.kla_callFunE hr.depth of1 rfl L.co L.gen rfl ⟨c', oc, vs, t, rfl, hoc, hdc, hvc⟩ ?_
    rw [hbind]
    refine wpAny_pure (wpAny_newFunctionEnv (fun y hy => (L.own y hy).2) (fun y hy => absurd hy (by simp)) (fun h₁ hns hsb => ⟨I1.nolimit.fresh _ hsb, ?_⟩) L.kind)
    show codeAny _ _ (.expr body (lamEnv X scope s1.heap.objs.size f c')) _ _
    have kp : ∀ b o, s1.heap.get? b = some o → h₁.get? b = some o := fun b o e => hsb.extBut b o (Nat.ne_of_lt (Heap.lt_size e)) (Heap.get?_push_of_some _ e)
    have J : Inv (lamCx X (A'.deeper (envOfC qg sg s'.heap.objs.size g cdg)) (envOfC qg sg s'.heap.objs.size g cdg :: outer') s1 HZ E scope f c') [] σ HZ { s1 with heap := h₁, toks := s1.toks + ([] : List (Str × Value)).length } :=
      lam_start2 I L I1.env0 hr.hd un hns kp
    refine PySem.W.kla_codeExpr (wpAny_mono ((hbody _ _ s1 HZ (hr.deeper _)).run [] _ _ HZ Q J ht) (fun v s' hq => ?_) fun e s' hq => hq)
    obtain ⟨w', H', J', rv, q⟩ := hq
    exact ⟨w', H', J'.os, J'.bare, J'.base, J'.hok, rv, q⟩
  have hx : Passes (L2.CX X.prog X.w) ((cxOf CXg X.prog X.w X.K X.mg X.base Ng qg sg g cdg A' outer' s' H' Eg).tr pn xe) E := passes_call tk hW
  refine wpAny_call (codeAny_mono rc fun r s' hq => ?_)
  cases r with
  | error e => exact hx pinsZ σZ HZ s1 e s' I1 hq
  | ok fl =>
    cases fl with
    | ret u => exact I1.after hq
    | next => exact False.elim hq
    | brk => exact False.elim hq
    | cont => exact False.elim hq
/-- the same of a lambda with a default -/
theorem pe_actDG {T : List (Addr × Str)} {H0 : Hp} {CXg : CXT} {Eg : XK} {Ng : List Str} {qg : Str} {sg : Scope} {g f c' T0 : Addr} {cdg dv doc pm ctv : Value} {params : Arguments} {body : Expr} {scope : Scope} {k i : Nat} {a : Str} {pn : List (Addr × Obj)} {xe : Value → Shared → Prop} {W : WX} {E : XK} {tb : TE} {p1 p2 : Pos}
    {A' : Around} {outer' : List Env} {s' : Shared} {H' : Hp}
    (Md : Made X pins σ T H0 H s params body scope f c' T0 dv doc pm ctv) (L : LamD X.N X.env.scope scope y0)
    (hbind : ∃ k, bindArgs (PySem.W.kdv_fn "<lambda>" (X.env.qual ++ "<lambda>") params (.expr body) scope (cloFrom X.env.cells scope.names []) (.ref T0) doc pm (.ref c') ctv) ⟨[], []⟩ = seqItems? (.ref T0) >>= k ∧ k (some #[dv]) = pure [(y0, dv)])
    (u0 : Un (frs X.stack) [] H H' s.heap s'.heap) (hn : ∀ b ∈ frs outer', b ∈ frs X.stack ∨ s.heap.get? b = none)
    (tk : Takes ((cxOf CXg X.prog X.w X.K X.mg X.base Ng qg sg g cdg A' outer' s' H' Eg).tr pn xe) W) (hW : ∀ cls d σ' H', E cls d H' → W cls d σ' H') (hr : Room (k + 1) (A'.deeper (envOfC qg sg s'.heap.objs.size g cdg)))
    (hbody : ∀ (A : Around) (outer : List Env) (s : Shared) (H : Hp), Room k (A.deeper (lamEnv X scope s.heap.objs.size f c')) → PE (lamCx X A outer s H E scope f c') body tb)
    (hN : Ng[i]? = some a) (hv : Vis sg a) (hd : (a == ("__debug__" : Str)) = false := by decide) (hcd : (a == ("__classdict__" : Str)) = false := by decide) :
    PE ((cxOf CXg X.prog X.w X.K X.mg X.base Ng qg sg g cdg A' outer' s' H' Eg).tr pn xe) (.Call (.Name a p1) [] [] p2)
      (fun σZ HZ Q => σZ[i]? = some (some (.ref f)) ∧ HZ c' = some (CodeO c' (X.env.qual ++ "<lambda>")) ∧ tb σ HZ Q) := by
  refine ⟨fun pinsZ sZ σZ HZ Q IZ hh => wpAny_Call_Name_kw ?_⟩
  obtain ⟨hs, hc, ht⟩ := hh
  refine thn ((pe_var (pos := p1) (i := i) hN hv hd hcd).run pinsZ sZ σZ HZ (fun v H1 => v = .ref f ∧ H1 = HZ) IZ ⟨.ref f, hs, rfl, rfl⟩) (fun u s1 got => ?_)
  obtain ⟨v, H1, I1, r1, ev, eH⟩ := got
  subst ev
  rw [eH] at I1
  obtain rfl : u = Value.ref f := r1
  have noEx : ∀ b : Addr, b ∉ ([] : List Addr) := fun b z => nomatch z
  have un : Un (frs X.stack) [] H HZ s.heap s1.heap := un_in u0 I1.base hn
  have fn1 := un.keep f _ Md.fn Md.fnN Md.fnF (noEx f)
  have tup1 := un.keep T0 _ Md.tup Md.tupN Md.tupF (noEx T0)
  refine PySem.W.callWith_F0 ⟨_, _, _, _, fn1⟩ ?_
  obtain ⟨⟨oc, vs, t, hoc, hdc, hvc⟩, _, _⟩ := I1.hok c' _ hc
  obtain ⟨kk, b1, b2⟩ := hbind
  have run : codeAny (model X.prog X.w) (A'.deeper (envOfC qg sg s'.heap.objs.size g cdg)) (.call (.ref f) ⟨[], []⟩) (CR (L2.CX X.prog X.w) (envOfC qg sg s'.heap.objs.size g cdg :: outer') X.prog X.w HZ s1 Q E) s1 := by
    refine PySem.W.kla_callFunE hr.depth fn1 rfl L.co L.gen rfl ⟨c', oc, vs, t, rfl, hoc, hdc, hvc⟩ ?_
    refine BindsTo.of_defaults rfl tup1 rfl b1 b2 _ _ _ _ ?_
    refine wpAny_newFunctionEnv L.nocell (fun y hy => ?_) (fun h1 hns hsb => ⟨I1.nolimit.fresh _ hsb, ?_⟩) L.kind
    · obtain rfl := List.mem_singleton.mp hy
      exact L.par
    have kp : ∀ b o, s1.heap.get? b = some o → h1.get? b = some o := fun b o e => hsb.extBut b o (Nat.ne_of_lt (Heap.lt_size e)) (Heap.get?_push_of_some _ e)
    show codeAny _ _ (.expr body (lamEnv X scope s1.heap.objs.size f c')) _ _
    have J := lamD_start (E := E) (f := f) (c' := c') (tk := s1.toks + 1) Md.inv L I1.env0 hr.hd un hns kp
    refine PySem.W.kla_codeExpr (wpAny_mono ((hbody _ _ s1 HZ (hr.deeper _)).run [] _ _ HZ Q J ht) (fun v s' out => ?_) (fun _ _ z => z))
    obtain ⟨w', H', J', rv, q⟩ := out
    exact ⟨w', H', J'.os, J'.bare, J'.base, J'.hok, rv, q⟩
  have out := passes_call tk hW
  refine wpAny_call (codeAny_mono run (fun r s' hq => ?_))
  match r, hq with
  | .error e, hq => exact out pinsZ σZ HZ s1 e s' I1 hq
  | .ok (.ret u), hq => exact I1.after hq
  | .ok .next, hq => exact hq.elim
  | .ok .brk, hq => exact hq.elim
  | .ok .cont, hq => exact hq.elim
end
/-- the def that hands on what it got: x2(a1) is read as TT2 says; TT: what it makes of the lambda's reading -/
def HandsOn (X : Cx) (N1 : List Str) (x1 : Str) (s1 : Scope) (g1 : Addr) (cd1 : Value) (b1 : List Stmt) (a1 x2 : Str) (q : Str) (TT2 TT : (XK → Hp → VK → Prop) → Hp → VK → Prop) : Prop :=
  ∀ (f c' : Addr) (s : Shared) (H : Hp) (Q : VK) (tl : XK → Hp → VK → Prop),
    (∀ p1 p2 p3 : Pos, PE (cxOf C8.CX0 X.prog X.w X.K X.mg X.base N1 x1 s1 g1 cd1 X.A X.stack s H C8.E0).nox (.Call (.Name x2 p1) [.Name a1 p2] [] p3) (fun σZ HZ Q => σZ[0]? = some (some (.ref f)) ∧ HZ c' = some (CodeO c' q) ∧ TT2 tl HZ Q)) →
    H c' = some (CodeO c' q) → TT tl H Q →
    ∃ t, PSs (cxOf C8.CX0 X.prog X.w X.K X.mg X.base N1 x1 s1 g1 cd1 X.A X.stack s H C8.E0).nox b1 t ∧ t { nx := fun _ H' => Q .non H', rt := Q } (L2.start N1 [.ref f]) H
section
variable {X : Cx}
/-- x2(a1) in the def x1 that got a lambda -/
theorem pe_hand {f c' : Addr} {s : Shared} {H : Hp} {tl : XK → Hp → VK → Prop} {TT2 : (XK → Hp → VK → Prop) → Hp → VK → Prop} {q : Str}
    {N1 : List Str} {x1 a1 : Str} {s1 : Scope} {g1 : Addr} {cd1 : Value} {N2 : List Str} {x2 a2 : Str} {g2 : Addr} {k : Nat} {pg : Arguments} {bg : List Stmt} {sg : Scope} {dV kV doc pm cdv ct oc : Value} {an od : Option Addr} {osl : Array (Option Value)} {p1 p2 p3 : Pos}
    (hg : Gl (cxOf C8.CX0 X.prog X.w X.K X.mg X.base N1 x1 s1 g1 cd1 X.A X.stack s H C8.E0).nox x2) (hm : X.mg x2 = some (.ref g2)) (hk : PySem.W.keepIn X.K (.ref g2) = true)
    (lk : X.K.lookup g2 = some ⟨oc, od, .func (PySem.W.fnOf x2 x2 pg bg sg dV kV doc pm an cdv ct), osl⟩) (hcg : PySem.W.codeIn X.K cdv x2 = true) (hb : L2.Binds X.K (PySem.W.fnOf x2 x2 pg bg sg dV kV doc pm an cdv ct) [a2] []) (Sg : FnScope N2 [a2] sg)
    (hN1 : N1[0]? = some a1) (hv1 : Vis s1 a1)
    (hG : GivesTo (cxOf C8.CX0 X.prog X.w X.K X.mg X.base N1 x1 s1 g1 cd1 X.A X.stack s H C8.E0).nox N2 x2 sg g2 cdv bg a2 q TT2)
    (hr : Room (k + 1) (X.A.deeper (envOfC x1 s1 s.heap.objs.size g1 cd1)))
    (act : ∀ (H' : Hp) (s' : Shared), Un (frs X.stack) [] H H' s.heap s'.heap → Room k ((X.A.deeper (envOfC x1 s1 s.heap.objs.size g1 cd1)).deeper (envOfC x2 sg s'.heap.objs.size g2 cdv)) → ∀ (W : WX) (pn : List (Addr × Obj)) (xe : Value → Shared → Prop) (E : XK) (p1 p2 : Pos),
      Takes ((cxOf C8.CX0 X.prog X.w X.K X.mg X.base N2 x2 sg g2 cdv (X.A.deeper (envOfC x1 s1 s.heap.objs.size g1 cd1)) (envOfC x1 s1 s.heap.objs.size g1 cd1 :: X.stack) s' H' C8.E0).tr pn xe) W → (∀ cls d σ' H', E cls d H' → W cls d σ' H') →
      PE ((cxOf C8.CX0 X.prog X.w X.K X.mg X.base N2 x2 sg g2 cdv (X.A.deeper (envOfC x1 s1 s.heap.objs.size g1 cd1)) (envOfC x1 s1 s.heap.objs.size g1 cd1 :: X.stack) s' H' C8.E0).tr pn xe) (.Call (.Name a2 p1) [] [] p2) (fun σZ HZ Q => σZ[0]? = some (some (.ref f)) ∧ HZ c' = some (CodeO c' q) ∧ tl E HZ Q))
    (hdb : (x2 == ("__debug__" : Str)) = false := by decide) (hd : (a1 == ("__debug__" : Str)) = false := by decide) (hcd : (a1 == ("__classdict__" : Str)) = false := by decide) :
    PE (cxOf C8.CX0 X.prog X.w X.K X.mg X.base N1 x1 s1 g1 cd1 X.A X.stack s H C8.E0).nox (.Call (.Name x2 p1) [.Name a1 p2] [] p3) (fun σZ HZ Q => σZ[0]? = some (some (.ref f)) ∧ HZ c' = some (CodeO c' q) ∧ TT2 tl HZ Q) := by
  refine ⟨fun pins sZ σZ HZ Q IZ h => wpAny_Call_Name_kw (ld_glob IZ hg hm ?_ hdb)⟩
  obtain ⟨hs, hc, ht⟩ := h
  refine PySem.W.callWith_K (h₀ := X.base) IZ.ok.mod.kin hk ?_ (by rfl) (by rfl)
  show wpAny _ _ (spliced ((false, eval (.Name a1 p2) _) :: backTo p3 (starEach [] _))) _ _ sZ
  refine Calls.spliced_cons (thn ((pe_var (pos := p2) (i := 0) hN1 hv1 hd hcd).run pins sZ σZ HZ (fun v H1 => v = .ref f ∧ H1 = HZ) IZ ⟨.ref f, hs, rfl, rfl⟩) fun u s2 ⟨v, H1, I1, r1, q1⟩ => ?_)
  obtain ⟨ev, eH⟩ := q1
  subst ev
  rw [eH] at I1
  obtain rfl : u = Value.ref f := r1
  refine Calls.spliced_nil ⟨I1.kIn, ?_⟩
  have rc : codeAny (model X.prog X.w) (X.A.deeper (envOfC x1 s1 s.heap.objs.size g1 cd1)) (.call (.ref g2) ⟨[.ref f], []⟩) (CR C8.CX0 (envOfC x1 s1 s.heap.objs.size g1 cd1 :: X.stack) X.prog X.w HZ s2 Q C8.E0) s2 := by
    refine run_ofS (N := N2) (ps := [a2]) (us := [.ref f]) (vs := [.ref f]) lk hcg Sg hr I1.env0 (hb s2 [.ref f] I1.kIn rfl) (.cons rfl .nil) rfl fun hr' => ?_
    obtain ⟨t', ht', hq'⟩ := hG f c' s2 HZ Q tl (fun W pn xe E p1 p2 tk hW => act HZ s2 I1.base hr' W pn xe E p1 p2 tk hW) hc ht
    exact ⟨t', ht'.nox, hq'⟩
  refine wpAny_call (codeAny_mono rc fun r s2 hq => ?_)
  cases r with
  | error e => exact (show False from hq).elim
  | ok fl =>
    cases fl with
    | ret u => exact I1.after hq
    | next => exact False.elim hq
    | brk => exact False.elim hq
    | cont => exact False.elim hq
theorem hand_new {e : Env} {st : List Env} {h : Heap} (he : e.frame = some h.objs.size) : ∀ b ∈ frs (e :: st), b ∈ frs st ∨ h.get? b = none := by
  intro b hb
  have e1 : frs (e :: st) = h.objs.size :: frs st := by
    unfold frs
    rw [List.filterMap_cons, he]
  rw [e1] at hb
  rcases List.mem_cons.mp hb with z | z
  · refine .inr ?_
    cases q : h.get? b with
    | none => rfl
    | some o =>
      have := Heap.lt_size q
      rw [z] at this
      exact absurd this (Nat.lt_irrefl _)
  · exact .inl z
/-- x1(lambda: body), x1 hands it on to x2 -/
theorem pe_lamhand {T : List (Addr × Str)} {TT2 TT : (XK → Hp → VK → Prop) → Hp → VK → Prop} {c P : Addr} {k : Nat}
    {x1 a1 : Str} {g1 : Addr} {pg1 : Arguments} {b1 : List Stmt} {s1 : Scope} {dV1 kV1 doc1 pm1 cd1 ct1 oc1 : Value} {an1 od1 : Option Addr} {osl1 : Array (Option Value)} {N1 : List Str}
    {x2 a2 : Str} {g2 : Addr} {pg2 : Arguments} {b2 : List Stmt} {s2 : Scope} {dV2 kV2 doc2 pm2 cd2 ct2 oc2 : Value} {an2 od2 : Option Addr} {osl2 : Array (Option Value)} {N2 : List Str}
    {params : Arguments} {body : Expr} {scope : Scope} {t : XK → TE} {p lpos pos : Pos} (hg : Gl X x1) (hm : X.mg x1 = some (.ref g1)) (hk : PySem.W.keepIn X.K (.ref g1) = true)
    (lk : X.K.lookup g1 = some ⟨oc1, od1, .func (PySem.W.fnOf x1 x1 pg1 b1 s1 dV1 kV1 doc1 pm1 an1 cd1 ct1), osl1⟩) (hcg : PySem.W.codeIn X.K cd1 x1 = true) (hb : L2.Binds X.K (PySem.W.fnOf x1 x1 pg1 b1 s1 dV1 kV1 doc1 pm1 an1 cd1 ct1) [a1] []) (S1 : FnScope N1 [a1] s1) (hN1 : N1[0]? = some a1) (hv1 : Vis s1 a1)
    (hg2 : s1.names.lookup x2 = some .globalImplicit) (hm2 : X.mg x2 = some (.ref g2)) (hk2 : PySem.W.keepIn X.K (.ref g2) = true)
    (lk2 : X.K.lookup g2 = some ⟨oc2, od2, .func (PySem.W.fnOf x2 x2 pg2 b2 s2 dV2 kV2 doc2 pm2 an2 cd2 ct2), osl2⟩) (hcg2 : PySem.W.codeIn X.K cd2 x2 = true) (hb2 : L2.Binds X.K (PySem.W.fnOf x2 x2 pg2 b2 s2 dV2 kV2 doc2 pm2 an2 cd2 ct2) [a2] []) (S2 : FnScope N2 [a2] s2) (hN2 : N2[0]? = some a2) (hv2 : Vis s2 a2)
    (hH : HandsOn X N1 x1 s1 g1 cd1 b1 a1 x2 (X.env.qual ++ "<lambda>") TT2 TT)
    (hG : ∀ (s : Shared) (H : Hp), GivesTo (cxOf C8.CX0 X.prog X.w X.K X.mg X.base N1 x1 s1 g1 cd1 X.A X.stack s H C8.E0).nox N2 x2 s2 g2 cd2 b2 a2 (X.env.qual ++ "<lambda>") TT2)
    (TB : TabB X.base X.mg c P) (hcode : X.env.code = .ref c) (hmT : (P, X.env.qual ++ "<lambda>") ∈ T) (hu : ∀ p ∈ T, p.1 = P → p.2 = X.env.qual ++ "<lambda>") (hr : Room (k + 3) X.A) (L : LamS X.env.scope scope) (hdef : defaultsOf params X.env = ([], []))
    (hbind : ∀ (q : Str) (cl : List (Str × Addr)) (pm cv ctv : Value), bindArgs (PySem.W.kla_fn "<lambda>" q params body scope cl pm cv ctv) ⟨[], []⟩ = pure [])
    (hbody : ∀ (A : Around) (outer : List Env) (s : Shared) (H : Hp) (E : XK) (f c' : Addr), Room k (A.deeper (lamEnv X scope s.heap.objs.size f c')) → PE (lamCx X A outer s H E scope f c') body (t E))
    (hdb : (x1 == ("__debug__" : Str)) = false := by decide) (hdb2 : (x2 == ("__debug__" : Str)) = false := by decide) (hd : (a1 == ("__debug__" : Str)) = false := by decide) (hcd : (a1 == ("__classdict__" : Str)) = false := by decide) (hd2 : (a2 == ("__debug__" : Str)) = false := by decide) (hcd2 : (a2 == ("__classdict__" : Str)) = false := by decide) :
    PE X (.Call (.Name x1 p) [.Lambda params body scope lpos] [] pos) (tLam T TT t) := by
  refine ⟨fun pins s σ H Q I h => ?_⟩
  obtain ⟨hT, h⟩ := h
  refine wpAny_Call_Name_kw (ld_glob I hg hm ?_ hdb)
  refine PySem.W.callWith_K (h₀ := X.base) I.ok.mod.kin hk ?_ (by rfl) (by rfl)
  show wpAny _ _ (spliced ((false, eval (.Lambda params body scope lpos) X.env) :: backTo pos (starEach [] X.env))) _ _ s
  refine Calls.spliced_cons (lam_make2 I TB hcode hmT hu hT hdef (L.has I.ok) fun f c' pm' ctv H1 s' I1 eN T1 hf hfn hfr hco => ?_)
  refine Calls.spliced_nil ⟨I1.kIn, ?_⟩
  have rc : codeAny (model X.prog X.w) X.A (.call (.ref g1) ⟨[.ref f], []⟩) (CR C8.CX0 X.stack X.prog X.w H1 s' Q C8.E0) s' := by
    refine run_ofS (N := N1) (ps := [a1]) (us := [.ref f]) (vs := [.ref f]) lk hcg S1 hr I1.env0 (hb s' [.ref f] I1.kIn rfl) (.cons rfl .nil) rfl fun hr' => ?_
    obtain ⟨t', ht', hq'⟩ := hH f c' s' H1 Q (fun E H' Q' => t E σ H' Q') (fun p1 p2 p3 => pe_hand hg2 hm2 hk2 lk2 hcg2 hb2 S2 hN1 hv1 (hG s' H1) hr'
      (fun H2 s2' un hr2 W pn xe E p1 p2 tk hW => pe_actG (i := 0) I1 L hf hfn hfr (hbind _ _ _ _ _) un (hand_new rfl) tk hW hr2 (fun A outer s H hr3 => hbody A outer s H E f c' hr3) hN2 hv2 hd2 hcd2) hdb2 hd hcd) hco (h H1 eN T1)
    exact ⟨t', ht'.nox, hq'⟩
  refine wpAny_call (codeAny_mono rc fun r s2 hq => ?_)
  cases r with
  | error e => exact (show False from hq).elim
  | ok fl =>
    cases fl with
    | ret u => exact I1.after hq
    | next => exact False.elim hq
    | brk => exact False.elim hq
    | cont => exact False.elim hq
/-- the same of a lambda with a default -/
theorem pe_lamhandD {T : List (Addr × Str)} {TT2 TT : (XK → Hp → VK → Prop) → Hp → VK → Prop} {c P : Addr} {k j : Nat} {z : Int} {y0 : Str}
    {x1 a1 : Str} {g1 : Addr} {pg1 : Arguments} {b1 : List Stmt} {s1 : Scope} {dV1 kV1 doc1 pm1 cd1 ct1 oc1 : Value} {an1 od1 : Option Addr} {osl1 : Array (Option Value)} {N1 : List Str}
    {x2 a2 : Str} {g2 : Addr} {pg2 : Arguments} {b2 : List Stmt} {s2 : Scope} {dV2 kV2 doc2 pm2 cd2 ct2 oc2 : Value} {an2 od2 : Option Addr} {osl2 : Array (Option Value)} {N2 : List Str}
    {params : Arguments} {body : Expr} {scope : Scope} {t : XK → TE} {p lpos pos dp : Pos} (hg : Gl X x1) (hm : X.mg x1 = some (.ref g1)) (hk : PySem.W.keepIn X.K (.ref g1) = true)
    (lk : X.K.lookup g1 = some ⟨oc1, od1, .func (PySem.W.fnOf x1 x1 pg1 b1 s1 dV1 kV1 doc1 pm1 an1 cd1 ct1), osl1⟩) (hcg : PySem.W.codeIn X.K cd1 x1 = true) (hb : L2.Binds X.K (PySem.W.fnOf x1 x1 pg1 b1 s1 dV1 kV1 doc1 pm1 an1 cd1 ct1) [a1] []) (S1 : FnScope N1 [a1] s1) (hN1 : N1[0]? = some a1) (hv1 : Vis s1 a1)
    (hg2 : s1.names.lookup x2 = some .globalImplicit) (hm2 : X.mg x2 = some (.ref g2)) (hk2 : PySem.W.keepIn X.K (.ref g2) = true)
    (lk2 : X.K.lookup g2 = some ⟨oc2, od2, .func (PySem.W.fnOf x2 x2 pg2 b2 s2 dV2 kV2 doc2 pm2 an2 cd2 ct2), osl2⟩) (hcg2 : PySem.W.codeIn X.K cd2 x2 = true) (hb2 : L2.Binds X.K (PySem.W.fnOf x2 x2 pg2 b2 s2 dV2 kV2 doc2 pm2 an2 cd2 ct2) [a2] []) (S2 : FnScope N2 [a2] s2) (hN2 : N2[0]? = some a2) (hv2 : Vis s2 a2)
    (hH : HandsOn X N1 x1 s1 g1 cd1 b1 a1 x2 (X.env.qual ++ "<lambda>") TT2 TT)
    (hG : ∀ (s : Shared) (H : Hp), GivesTo (cxOf C8.CX0 X.prog X.w X.K X.mg X.base N1 x1 s1 g1 cd1 X.A X.stack s H C8.E0).nox N2 x2 s2 g2 cd2 b2 a2 (X.env.qual ++ "<lambda>") TT2)
    (TB : TabB X.base X.mg c P) (hcode : X.env.code = .ref c) (hmT : (P, X.env.qual ++ "<lambda>") ∈ T) (hu : ∀ p ∈ T, p.1 = P → p.2 = X.env.qual ++ "<lambda>") (hr : Room (k + 3) X.A) (L : LamD X.N X.env.scope scope y0)
    (hdef : params.defaults = [.Constant (.int z) j dp]) (hkw : params.kw_defaults = [])
    (hbind : ∀ (q : Str) (cl : List (Str × Addr)) (T0 : Addr) (doc pm cv ctv dv : Value), ∃ kk, bindArgs (PySem.W.kdv_fn "<lambda>" q params (.expr body) scope cl (.ref T0) doc pm cv ctv) ⟨[], []⟩ = seqItems? (.ref T0) >>= kk ∧ kk (some #[dv]) = pure [(y0, dv)])
    (hbody : ∀ (A : Around) (outer : List Env) (s : Shared) (H : Hp) (E : XK) (f c' : Addr), Room k (A.deeper (lamEnv X scope s.heap.objs.size f c')) → PE (lamCx X A outer s H E scope f c') body (t E))
    (hdb : (x1 == ("__debug__" : Str)) = false := by decide) (hdb2 : (x2 == ("__debug__" : Str)) = false := by decide) (hd : (a1 == ("__debug__" : Str)) = false := by decide) (hcd : (a1 == ("__classdict__" : Str)) = false := by decide) (hd2 : (a2 == ("__debug__" : Str)) = false := by decide) (hcd2 : (a2 == ("__classdict__" : Str)) = false := by decide) :
    PE X (.Call (.Name x1 p) [.Lambda params body scope lpos] [] pos) (tLam T TT t) := by
  refine ⟨fun pins s σ H Q I h => ?_⟩
  obtain ⟨hT, h⟩ := h
  refine wpAny_Call_Name_kw (ld_glob I hg hm ?_ hdb)
  refine PySem.W.callWith_K (h₀ := X.base) I.ok.mod.kin hk ?_ (by rfl) (by rfl)
  show wpAny _ _ (spliced ((false, eval (.Lambda params body scope lpos) X.env) :: backTo pos (starEach [] X.env))) _ _ s
  refine Calls.spliced_cons (lamD_make I TB hcode hmT hu hT hdef hkw (L.has I.ok) fun f c' T0 dv doc pm ctv H1 s' Md => ?_)
  refine Calls.spliced_nil ⟨Md.inv.kIn, ?_⟩
  have rc : codeAny (model X.prog X.w) X.A (.call (.ref g1) ⟨[.ref f], []⟩) (CR C8.CX0 X.stack X.prog X.w H1 s' Q C8.E0) s' := by
    refine run_ofS (N := N1) (ps := [a1]) (us := [.ref f]) (vs := [.ref f]) lk hcg S1 hr Md.inv.env0 (hb s' [.ref f] Md.inv.kIn rfl) (.cons rfl .nil) rfl fun hr' => ?_
    obtain ⟨t', ht', hq'⟩ := hH f c' s' H1 Q (fun E H' Q' => t E σ H' Q') (fun p1 p2 p3 => pe_hand hg2 hm2 hk2 lk2 hcg2 hb2 S2 hN1 hv1 (hG s' H1) hr'
      (fun H2 s2' un hr2 W pn xe E p1 p2 tk hW => pe_actDG (i := 0) Md L (hbind _ _ _ _ _ _ _ _) un (hand_new rfl) tk hW hr2 (fun A outer s H hr3 => hbody A outer s H E f c' hr3) hN2 hv2 hd2 hcd2) hdb2 hd hcd) Md.code (h H1 Md.ext Md.tabs)
    exact ⟨t', ht'.nox, hq'⟩
  refine wpAny_call (codeAny_mono rc fun r s2 hq => ?_)
  cases r with
  | error e => exact (show False from hq).elim
  | ok fl =>
    cases fl with
    | ret u => exact Md.inv.after hq
    | next => exact False.elim hq
    | brk => exact False.elim hq
    | cont => exact False.elim hq
end
end SW

set_option Elab.async false
set_option linter.all false
set_option maxRecDepth 100000
set_option maxHeartbeats 4000000
namespace SW
open PySem PySem.Spec PyProof.Rows L2
section
variable {P : Program} {w : World} {K : PySem.W.Frag} {mg : Str → Option Value} {base : Heap}
/-! ### _law_field -/
theorem sc__law_field : FnScope ["_law_e"] ["_law_e"] (defScope s__law_field) := ⟨rfl, rfl, rfl, by decide +kernel, rfl, by decide +kernel, by decide +kernel⟩
theorem ok_field (D : Df K mg "_law_field" s__law_field ["_law_e"]) : CalW P w K mg base 1 "_law_field" ["_law_e"] (spField K) := by
  refine D.okW sc__law_field (fun p vs H Q h => ?_) (fun f cdv A outer s H vs Q p hr h => ?_)
  · obtain ⟨C, dd, fs, n, v, rfl, _⟩ := h
    rfl
  obtain ⟨C, dd, fs, n, v, rfl, hz, hf, cc, hd, hn, hv, q⟩ := h
  have hp : (p.1, p.2) ∈ (L2H.cxH C8.CX0 P w K mg base ["_law_e"] "_law_field" (defScope s__law_field) f cdv A outer s H C8.E0 p).pn := by show p ∈ [p]; simp
  refine ⟨_, (pss_cons (ps_if (PW.pt (pw_or (pt_cmpR op_eq (pe_xfP hp cc.xf (cc.no "code" (by decide)) hz hf (pv 0)) pe_str (nomark _)) (pw_or (pt_cmpR op_eq (pe_xfP hp cc.xf (cc.no "code" (by decide)) hz hf (pv 0)) pe_str (nomark _)) (pw_or1 (pt_cmpR op_eq (pe_xfP hp cc.xf (cc.no "code" (by decide)) hz hf (pv 0)) pe_str (nomark _)))))) (pss_one (ps_ret (pe_xfP hp cc.xf (cc.no "position" (by decide)) hz hf (pv 0)))) pss_nil)
      (pss_cons (ps_if (PW.pt (pw_or (pt_cmpR op_eq (pe_xfP hp cc.xf (cc.no "code" (by decide)) hz hf (pv 0)) pe_str (nomark _)) (pw_or1 (pt_cmpR op_eq (pe_xfP hp cc.xf (cc.no "code" (by decide)) hz hf (pv 0)) pe_str (nomark _))))) (pss_one (ps_ret (pe_xfP hp cc.xf (cc.no "limit" (by decide)) hz hf (pv 0)))) pss_nil)
      (pss_cons (ps_if (pt_cmpR op_eq (pe_xfP hp cc.xf (cc.no "code" (by decide)) hz hf (pv 0)) pe_str (nomark _)) (pss_one (ps_ret (pe_xfP hp cc.xf (cc.no "variables" (by decide)) hz hf (pv 0)))) pss_nil)
      (pss_cons (ps_if (pt_cmpR op_eq (pe_xfP hp cc.xf (cc.no "code" (by decide)) hz hf (pv 0)) pe_str (nomark _)) (pss_one (ps_ret (pe_xfP hp cc.xf (cc.no "number" (by decide)) hz hf (pv 0)))) pss_nil)
      (pss_one (ps_ret (pe_ifExp (PW.pt (pw_or (pt_cmpR op_eq (pe_xfP hp cc.xf (cc.no "code" (by decide)) hz hf (pv 0)) pe_str (nomark _)) (pw_or1 (pt_cmpR op_eq (pe_xfP hp cc.xf (cc.no "code" (by decide)) hz hf (pv 0)) pe_str (nomark _))))) pe_non (pe_xfP hp cc.xf (cc.no "name" (by decide)) hz hf (pv 0))))))))), ?_⟩
  cases hv with
  | text h =>
    refine ⟨_, rfl, rfl, fs, _, hd, hn, rfl, eq_yes rfl ?_⟩
    exact ⟨_, rfl, rfl, fs, _, hd, h, q⟩
  | large h =>
    refine ⟨_, rfl, rfl, fs, _, hd, hn, rfl, eq_no (by decide +kernel) ?_⟩
    refine ⟨_, rfl, rfl, fs, _, hd, hn, rfl, eq_no (by decide +kernel) ?_⟩
    refine ⟨_, rfl, rfl, fs, _, hd, hn, rfl, eq_no (by decide +kernel) ?_⟩
    refine ⟨_, rfl, rfl, fs, _, hd, hn, rfl, eq_yes rfl ?_⟩
    exact ⟨_, rfl, rfl, fs, _, hd, h, q⟩
  | addr =>
    refine ⟨_, rfl, rfl, fs, _, hd, hn, rfl, eq_no (by decide +kernel) ?_⟩
    refine ⟨_, rfl, rfl, fs, _, hd, hn, rfl, eq_no (by decide +kernel) ?_⟩
    refine ⟨_, rfl, rfl, fs, _, hd, hn, rfl, eq_no (by decide +kernel) ?_⟩
    refine ⟨_, rfl, rfl, fs, _, hd, hn, rfl, eq_no (by decide +kernel) ?_⟩
    refine ⟨_, rfl, rfl, fs, _, hd, hn, rfl, eq_no (by decide +kernel) ?_⟩
    refine ⟨_, rfl, rfl, fs, _, hd, hn, rfl, eq_no (by decide +kernel) ?_⟩
    refine ⟨_, rfl, rfl, fs, _, hd, hn, rfl, eq_no (by decide +kernel) ?_⟩
    refine ⟨_, rfl, rfl, fs, _, hd, hn, rfl, eq_yes rfl ?_⟩
    exact q
/-! ### _law_try -/
theorem try_gives {X : Cx} {g BS BM : Addr} {cdg : Value} {q : Str} (hr : Room 3 X.A) (cf : CalW X.prog X.w X.K X.mg X.base 1 "_law_field" ["_law_e"] (spField X.K))
    (mS : X.mg "ScatterError" = some (.ref BS)) (mM : X.mg "Missing" = some (.ref BM)) :
    LamX.GivesTo X ["_law_ask", "_law_e"] "_law_try" (defScope s__law_try) g cdg (defBody s__law_try) "_law_ask" q (TTry X.K BS) := by
  intro f c' s H Q tl act hc h
  obtain ⟨fw, fdw, F, mF, kF, bF⟩ := cf.ex
  have suite : ∀ (b : Addr) (ob : Obj) (k : Value) (dd : Option Addr) (pl : List (Addr × Obj)) (j : Nat) (p1 p2 p3 p4 p5 p6 p7 : Pos),
      Zc k dd ob → (∃ w, ob.data = .fields w) →
      PSs ((cxOf C8.CX0 X.prog X.w X.K X.mg X.base ["_law_ask", "_law_e"] "_law_try" (defScope s__law_try) g cdg X.A X.stack s H C8.E0).nox.suite b ((b, ob) :: pl))
        [.Return (some (.Tuple [.Attribute (.Name "_law_e" p1) "code" p2, .Call (.Name "_law_field" p3) [.Name "_law_e" p4] [] p5] j p6)) p7] (tsTry X.K b k dd) := by
    intro b ob k dd pl j p1 p2 p3 p4 p5 p6 p7 hz hf
    have r0 : Room 1 (X.A.deeper (envOfC "_law_try" (defScope s__law_try) s.heap.objs.size g cdg)) := (hr.mono (by decide : 2 ≤ 3)).deeper _
    have r1 : L2H.RoomH 1 ((cxOf C8.CX0 X.prog X.w X.K X.mg X.base ["_law_ask", "_law_e"] "_law_try" (defScope s__law_try) g cdg X.A X.stack s H C8.E0).nox.suite b ((b, ob) :: pl)).A :=
      ⟨r0.dp, r0.un⟩
    have hp : (b, ob) ∈ ((cxOf C8.CX0 X.prog X.w X.K X.mg X.base ["_law_ask", "_law_e"] "_law_try" (defScope s__law_try) g cdg X.A X.stack s H C8.E0).nox.suite b ((b, ob) :: pl)).pn := List.mem_cons_self
    have term := pss_one (ps_ret (pos := p7) (pe_tup (x1 := j) (pos := p6) (pa_cons (pe_xfQ (n := "code") (pos := p2) hp hz hf (pv (pos := p1) 1))
      (pa_cons (pe_callW (pos := p5) (q := p3) (sp2 := spF X.K b k dd) (fun vs H' Q' z => by
        obtain ⟨C, d2, fs, n, v, e1, e2, e3, e4⟩ := z
        subst e2
        subst e3
        exact ⟨C, d2, fs, n, v, e1, hz, hf, e4⟩) hp F r1 (by rfl) mF kF bF (pa_cons (pv (pos := p4) 1) pa_nil)) pa_nil))))
    refine ⟨fun pins s' σ H' D I z => term.run pins s' σ H' D I ?_⟩
    obtain ⟨C, d2, fs, n, v, e1, e2, ec, hσ0, hd, hn, hv, q⟩ := z
    have hσ := hσ0 (by rw [I.len]; show 1 < 2; decide)
    exact ⟨_, hσ, rfl, C, d2, fs, _, e1, e2, ec.xf, ec.no _ (by decide), hd, hn, _, hσ, C, d2, fs, n, v, rfl, e1, e2, ec, hd, hn, hv, (by show 2 ≤ sizeLine; decide), fun p hp => q p hp⟩
  have nd : (["_law_ask", "_law_e"] : List Str).Nodup := by decide +kernel
  refine ⟨_, pss_one (ps_try_asL (X := (cxOf C8.CX0 X.prog X.w X.K X.mg X.base ["_law_ask", "_law_e"] "_law_try" (defScope s__law_try) g cdg X.A X.stack s H C8.E0).nox) (nm := "_law_e") (i := 1) (Wout := fun _ _ _ _ => False)
    (ls := [(.ref BS, tsTry X.K), (.ref BM, tsTry X.K)])
    (tb := fun W D σ H0 => ∃ Ech : XK, (∀ cls d σ' H', Ech cls d H' → W cls d σ' H') ∧ σ[0]? = some (some (.ref f)) ∧ H0 c' = some (LamX.CodeO c' q) ∧
      tl Ech H0 (fun v H' => ([V.str "value", v] : List V).length ≤ sizeLine ∧ ∀ p, H' p = none → D.rt (.ref p) (upd H' p (.tup [.str "value", v]))))
    rfl rfl nd rfl (by rfl) LamX.takes0 (fun W pn xe tk _ => ?_)
    (.some ⟨by rfl, by decide +kernel, .inl mS⟩ (fun b ob k dd pl hz hf => suite b ob k dd pl _ _ _ _ _ _ _ _ hz hf)
      (.some ⟨by rfl, by decide +kernel, .inl mM⟩ (fun b ob k dd pl hz hf => suite b ob k dd pl _ _ _ _ _ _ _ _ hz hf) .none))), ?_⟩
  · refine ⟨fun pins s' σ H' D I z => ?_⟩
    obtain ⟨Ech, hW, h1, h2, h3⟩ := z
    exact (pss_one (ps_ret (pe_tup (pa_cons pe_str (pa_cons (act W pn xe Ech _ _ tk hW) pa_nil))))).run pins s' σ H' D I ⟨h1, h2, h3⟩
  · refine ⟨fun cls d H' => ∃ C dd fs n v, cls = .ref C ∧ d = some dd ∧ PySem.W.exmOne X.K cls (.ref BS) = some true ∧ ErrC X.K C ∧ H' dd = some (.xd fs) ∧ fs.lookup ("code" : Str) = some (V.str n) ∧ ErV fs n v ∧
      ∀ p, H' p = none → Q (.ref p) (upd H' p (.tup [.str n, v])), fun cls d σ' H' z => ?_, rfl, hc, h⟩
    obtain ⟨C, dd, fs, n, v, e1, e2, e3, ec, hd, hn, hv, q'⟩ := z
    refine ⟨true, e3, fun _ a ha => ⟨C, dd, fs, n, v, e1, e2, ec, fun hl => ?_, hd, hn, hv, q'⟩, fun z => nomatch z⟩
    rw [List.length_set] at hl
    exact List.getElem?_set_self hl
theorem pe_try {X : Cx} {BS BM c T : Addr} {k : Nat} {params : Arguments} {body : Expr} {scope : Scope} {t : XK → TE} {p lpos pos : Pos} (D : Df X.K X.mg "_law_try" s__law_try ["_law_ask"]) (cf : CalW X.prog X.w X.K X.mg X.base 1 "_law_field" ["_law_e"] (spField X.K))
    (mS : X.mg "ScatterError" = some (.ref BS)) (mM : X.mg "Missing" = some (.ref BM)) (TB : LamX.TabB X.base X.mg c T) (hcode : X.env.code = .ref c) (hr : Room (k + 3) X.A) (hg : Gl X "_law_try") (L : LamX.LamS X.env.scope scope) (hdef : defaultsOf params X.env = ([], []))
    (hbind : ∀ (q : Str) (cl : List (Str × Addr)) (pm cv ctv : Value), bindArgs (PySem.W.kla_fn "<lambda>" q params body scope cl pm cv ctv) ⟨[], []⟩ = pure [])
    (hbody : ∀ (A : Around) (outer : List Env) (s : Shared) (H : Hp) (E : XK) (f c' : Addr), Room (k + 1) (A.deeper (LamX.lamEnv X scope s.heap.objs.size f c')) → PE (LamX.lamCx X A outer s H E scope f c') body (t E)) :
    PE X (.Call (.Name "_law_try" p) [.Lambda params body scope lpos] [] pos) (LamX.tLam [(T, X.env.qual ++ "<lambda>")] (TTry X.K BS) t) := by
  obtain ⟨g, fd, F, m, b⟩ := D.ex
  obtain ⟨oc, od, kV, doc, pm, an, cdv, ct, osl, rfl, lk, hcd⟩ := F.ex
  exact LamX.pe_lamcall (Ng := ["_law_ask", "_law_e"]) (a := "_law_ask") hg m F.kp lk hcd b ⟨rfl, rfl, rfl, by decide +kernel, rfl, by decide +kernel, by decide +kernel⟩ rfl (.inl (by decide +kernel))
    (try_gives (hr.mono (by omega)) cf mS mM) TB hcode (List.mem_singleton.mpr rfl) (fun p hp _ => by rw [List.mem_singleton.mp hp]) (hr.mono (by omega)) L hdef hbind hbody
theorem pe_tryD {X : Cx} {BS BM c T : Addr} {y0 : Str} {k j : Nat} {z : Int} {params : Arguments} {body : Expr} {scope : Scope} {t : XK → TE} {p lpos pos dp : Pos} (D : Df X.K X.mg "_law_try" s__law_try ["_law_ask"]) (cf : CalW X.prog X.w X.K X.mg X.base 1 "_law_field" ["_law_e"] (spField X.K))
    (mS : X.mg "ScatterError" = some (.ref BS)) (mM : X.mg "Missing" = some (.ref BM)) (TB : LamX.TabB X.base X.mg c T) (hcode : X.env.code = .ref c) (hr : Room (k + 3) X.A) (hg : Gl X "_law_try") (L : LamD X.N X.env.scope scope y0)
    (hdef : params.defaults = [.Constant (.int z) j dp]) (hkw : params.kw_defaults = [])
    (hbind : ∀ (q : Str) (cl : List (Str × Addr)) (T0 : Addr) (doc pm cv ctv dv : Value), ∃ kk, bindArgs (PySem.W.kdv_fn "<lambda>" q params (.expr body) scope cl (.ref T0) doc pm cv ctv) ⟨[], []⟩ = seqItems? (.ref T0) >>= kk ∧ kk (some #[dv]) = pure [(y0, dv)])
    (hbody : ∀ (A : Around) (outer : List Env) (s : Shared) (H : Hp) (E : XK) (f c' : Addr), Room (k + 1) (A.deeper (LamX.lamEnv X scope s.heap.objs.size f c')) → PE (LamX.lamCx X A outer s H E scope f c') body (t E)) :
    PE X (.Call (.Name "_law_try" p) [.Lambda params body scope lpos] [] pos) (LamX.tLam [(T, X.env.qual ++ "<lambda>")] (TTry X.K BS) t) := by
  obtain ⟨g, fd, F, m, b⟩ := D.ex
  obtain ⟨oc, od, kV, doc, pm, an, cdv, ct, osl, rfl, lk, hcd⟩ := F.ex
  exact pe_lamcallD (Ng := ["_law_ask", "_law_e"]) (a := "_law_ask") hg m F.kp lk hcd b ⟨rfl, rfl, rfl, by decide +kernel, rfl, by decide +kernel, by decide +kernel⟩ rfl (.inl (by decide +kernel))
    (try_gives (hr.mono (by omega)) cf mS mM) TB hcode (List.mem_singleton.mpr rfl) (fun p hp _ => by rw [List.mem_singleton.mp hp]) (hr.mono (by omega)) L hdef hkw hbind hbody
/-! ### _law_refusal: a lambda handed on to _law_try -/
/-- what becomes of what _law_try told -/
def tRefR (K : PySem.W.Frag) (f : Addr) (Q : VK) : VK := fun v H1 =>
  tRet (tIf (tTest (tOp rEq (tOp (rIxT K) (tVar 1) (tC (.int 0))) (tC (.str "value")))) (tC (.str "value")) (tVar 1)) { nx := fun _ H' => Q .non H', rt := Q } [some (.ref f), some v] H1
theorem refR_at {f p : Addr} {Q : VK} {H1 : Hp} {n : Str} {v : V} (hp : SqT K H1 p [.str n, v]) (h1 : n = "value" → Q (.str "value") H1) (h2 : n ≠ "value" → Q (.ref p) H1) : tRefR K f Q (.ref p) H1 := by
  refine ⟨_, rfl, _, _, _, _, rfl, rfl, hp, rfl, rfl, _, rfl, ite2 (fun e => ?_) (fun e => ?_)⟩
  · exact h1 (V.str.inj (of_decide_eq_true e))
  · exact ⟨_, rfl, h2 fun q => e (by rw [q]; exact decide_eq_true rfl)⟩
def TRef (K : PySem.W.Frag) (BS : Addr) : (XK → Hp → VK → Prop) → Hp → VK → Prop := fun tl H Q => ∀ f : Addr, TTry K BS tl H (tRefR K f Q)
theorem refusal_hands {X : Cx} {g1 BS : Addr} {cd1 : Value} {q : Str} : HandsOn X ["_law_ask", "_law_told"] "_law_refusal" (defScope s__law_refusal) g1 cd1 (defBody s__law_refusal) "_law_ask" "_law_try" q (TTry X.K BS) (TRef X.K BS) := by
  intro f c' s H Q tl call hc h
  have nd : (["_law_ask", "_law_told"] : List Str).Nodup := by decide +kernel
  refine ⟨_, pss_cons (ps_set (i := 1) nd rfl (.inl rfl) (call _ _ _)) (pss_one (ps_ret (pe_ifExp (pt_cmpR op_eq (pe_ix ix_tup (pv 1) pe_int (fun _ _ => rfl)) pe_str (nomark _)) pe_str (pv 1)))), ?_⟩
  refine ⟨rfl, hc, ?_⟩
  exact h f
theorem pe_ref {X : Cx} {BS BM c T : Addr} {k : Nat} {params : Arguments} {body : Expr} {scope : Scope} {t : XK → TE} {p lpos pos : Pos} (D1 : Df X.K X.mg "_law_refusal" s__law_refusal ["_law_ask"]) (D : Df X.K X.mg "_law_try" s__law_try ["_law_ask"]) (cf : CalW X.prog X.w X.K X.mg X.base 1 "_law_field" ["_law_e"] (spField X.K))
    (mS : X.mg "ScatterError" = some (.ref BS)) (mM : X.mg "Missing" = some (.ref BM)) (TB : LamX.TabB X.base X.mg c T) (hcode : X.env.code = .ref c) (hr : Room (k + 4) X.A) (hg : Gl X "_law_refusal") (L : LamX.LamS X.env.scope scope) (hdef : defaultsOf params X.env = ([], []))
    (hbind : ∀ (q : Str) (cl : List (Str × Addr)) (pm cv ctv : Value), bindArgs (PySem.W.kla_fn "<lambda>" q params body scope cl pm cv ctv) ⟨[], []⟩ = pure [])
    (hbody : ∀ (A : Around) (outer : List Env) (s : Shared) (H : Hp) (E : XK) (f c' : Addr), Room (k + 1) (A.deeper (LamX.lamEnv X scope s.heap.objs.size f c')) → PE (LamX.lamCx X A outer s H E scope f c') body (t E)) :
    PE X (.Call (.Name "_law_refusal" p) [.Lambda params body scope lpos] [] pos) (LamX.tLam [(T, X.env.qual ++ "<lambda>")] (TRef X.K BS) t) := by
  obtain ⟨g1, fd1, F1, m1, b1⟩ := D1.ex
  obtain ⟨oc1, od1, kV1, doc1, pm1, an1, cdv1, ct1, osl1, rfl, lk1, hcd1⟩ := F1.ex
  obtain ⟨g, fd, F, m, b⟩ := D.ex
  obtain ⟨oc, od, kV, doc, pm, an, cdv, ct, osl, rfl, lk, hcd⟩ := F.ex
  exact pe_lamhand (N1 := ["_law_ask", "_law_told"]) (a1 := "_law_ask") (N2 := ["_law_ask", "_law_e"]) (a2 := "_law_ask") hg m1 F1.kp lk1 hcd1 b1 ⟨rfl, rfl, rfl, by decide +kernel, rfl, by decide +kernel, by decide +kernel⟩ rfl (.inl (by decide +kernel))
    (by rfl) m F.kp lk hcd b ⟨rfl, rfl, rfl, by decide +kernel, rfl, by decide +kernel, by decide +kernel⟩ rfl (.inl (by decide +kernel)) refusal_hands (fun s H => try_gives (((hr.mono (by omega : 4 ≤ k + 4))).deeper _) cf mS mM) TB hcode (List.mem_singleton.mpr rfl) (fun p hp _ => by rw [List.mem_singleton.mp hp]) (hr.mono (by omega)) L hdef hbind hbody
theorem pe_refD {X : Cx} {BS BM c T : Addr} {y0 : Str} {k j : Nat} {z : Int} {params : Arguments} {body : Expr} {scope : Scope} {t : XK → TE} {p lpos pos dp : Pos} (D1 : Df X.K X.mg "_law_refusal" s__law_refusal ["_law_ask"]) (D : Df X.K X.mg "_law_try" s__law_try ["_law_ask"]) (cf : CalW X.prog X.w X.K X.mg X.base 1 "_law_field" ["_law_e"] (spField X.K))
    (mS : X.mg "ScatterError" = some (.ref BS)) (mM : X.mg "Missing" = some (.ref BM)) (TB : LamX.TabB X.base X.mg c T) (hcode : X.env.code = .ref c) (hr : Room (k + 4) X.A) (hg : Gl X "_law_refusal") (L : LamD X.N X.env.scope scope y0)
    (hdef : params.defaults = [.Constant (.int z) j dp]) (hkw : params.kw_defaults = [])
    (hbind : ∀ (q : Str) (cl : List (Str × Addr)) (T0 : Addr) (doc pm cv ctv dv : Value), ∃ kk, bindArgs (PySem.W.kdv_fn "<lambda>" q params (.expr body) scope cl (.ref T0) doc pm cv ctv) ⟨[], []⟩ = seqItems? (.ref T0) >>= kk ∧ kk (some #[dv]) = pure [(y0, dv)])
    (hbody : ∀ (A : Around) (outer : List Env) (s : Shared) (H : Hp) (E : XK) (f c' : Addr), Room (k + 1) (A.deeper (LamX.lamEnv X scope s.heap.objs.size f c')) → PE (LamX.lamCx X A outer s H E scope f c') body (t E)) :
    PE X (.Call (.Name "_law_refusal" p) [.Lambda params body scope lpos] [] pos) (LamX.tLam [(T, X.env.qual ++ "<lambda>")] (TRef X.K BS) t) := by
  obtain ⟨g1, fd1, F1, m1, b1⟩ := D1.ex
  obtain ⟨oc1, od1, kV1, doc1, pm1, an1, cdv1, ct1, osl1, rfl, lk1, hcd1⟩ := F1.ex
  obtain ⟨g, fd, F, m, b⟩ := D.ex
  obtain ⟨oc, od, kV, doc, pm, an, cdv, ct, osl, rfl, lk, hcd⟩ := F.ex
  exact pe_lamhandD (N1 := ["_law_ask", "_law_told"]) (a1 := "_law_ask") (N2 := ["_law_ask", "_law_e"]) (a2 := "_law_ask") hg m1 F1.kp lk1 hcd1 b1 ⟨rfl, rfl, rfl, by decide +kernel, rfl, by decide +kernel, by decide +kernel⟩ rfl (.inl (by decide +kernel))
    (by rfl) m F.kp lk hcd b ⟨rfl, rfl, rfl, by decide +kernel, rfl, by decide +kernel, by decide +kernel⟩ rfl (.inl (by decide +kernel)) refusal_hands (fun s H => try_gives (((hr.mono (by omega : 4 ≤ k + 4))).deeper _) cf mS mM) TB hcode (List.mem_singleton.mpr rfl) (fun p hp _ => by rw [List.mem_singleton.mp hp]) (hr.mono (by omega)) L hdef hkw hbind hbody
/-! ### the base class of the errors -/
theorem sc_ScatterError_init : FnScope ["self", "message"] ["self", "message"] (defScope s_ScatterError_init) := ⟨rfl, rfl, rfl, by decide +kernel, rfl, by decide +kernel, by decide +kernel⟩
theorem ok_base {B : Addr} (D : Bas K mg "ScatterError" B "ScatterError.__init__" s_ScatterError_init "something that was passed is not valid") : BasOk P w K mg base "ScatterError" B := by
  obtain ⟨f, fd, F, h1, h2⟩ := D.ex
  refine ⟨⟨f, fd, ?_, h1, h2, F.kp⟩, D.at_, D.rd, D.sg⟩
  refine F.ok sc_ScatterError_init (fun vs H Q E h => ?_) (fun cdv A outer s H vs Q E hr h => ?_)
  · obtain ⟨a, C, n, m, rfl, _⟩ := h
    rfl
  obtain ⟨a, C, n, m, rfl, ha, hc, hx, h3, h4, q⟩ := h
  refine ⟨_, pss_cons (ps_ost (pv 0) (pe_nameof (pv 0))) (pss_one (ps_ost (pv 0) (pv 1))), ?_⟩
  refine ⟨_, rfl, a, C, n, rfl, ha, hc, ?_⟩
  refine ⟨_, rfl, a, C, rfl, hx, h3, .inl ⟨ha, fun dx hd hne => ?_⟩⟩
  refine ⟨_, rfl, _, rfl, a, C, rfl, hx, h4, .inr ⟨dx, [("code", .str n)], upd_same, ?_, (by show 1 ≤ 900; decide), ?_⟩⟩
  · rw [upd_ne hne, upd_same]
  · refine q dx _ ?_ upd_same hd hne (fun b o hb ho => ?_)
    · rw [upd_ne (Ne.symm hne), upd_same]
    · have hbd : b ≠ dx := ne_of_none ho hd
      rw [upd_ne hbd, upd_ne hb, upd_ne hbd]
      exact ho
theorem sc_InvalidText_init : FnScope ["self", "position"] ["self", "position"] (defScope s_InvalidText_init) := ⟨rfl, rfl, rfl, by decide +kernel, rfl, by decide +kernel, by decide +kernel⟩
theorem ok_InvalidText {C f : Addr} {fd : FuncData} (F : Fun K "__init__" "InvalidText.__init__" s_InvalidText_init f fd) {B : Addr} (c : BasOk P w K mg base "ScatterError" B) (e : Er K C "InvalidText" "position") :
    FnOk P w K mg base CX0 2 f fd ["self", "position"] (spErr K C "InvalidText" "position") := by
  refine F.ok sc_InvalidText_init (fun vs H Q E h => ?_) (fun cdv A outer s H vs Q E hr h => ?_)
  · obtain ⟨a, i, rfl, _⟩ := h
    rfl
  obtain ⟨a, i, rfl, hi, ha, q⟩ := h
  refine ⟨_, pss_cons (ps_expr (pe_base c hr (by rfl) (pa_cons (pv 0) (pa_cons (pe_joined (.cons pe_str (.cons (pe_fmt (pv 1)) .nil))) pa_nil)))) (pss_one (ps_ost (pv 0) (pv 1))), ?_⟩
  refine ⟨_, rfl, ?_⟩
  refine ⟨_, rfl, (by decide +kernel), _, rfl, .inr ⟨i, rfl, by omega, _, rfl, msg_fits (by decide +kernel) (by omega), ?_⟩⟩
  refine ⟨a, C, "InvalidText", _, rfl, ha, e.cls, e.oex, e.code, e.msg, fun dx H' h1 h2 h3 h4 h5 => ?_⟩
  refine ⟨_, rfl, _, rfl, a, C, rfl, e.oex, e.fld_, .inr ⟨dx, _, h1, h2, (by show 2 ≤ 900; decide), ?_⟩⟩
  refine q dx _ _ ?_ upd_same h3 h4 (fun b o hb ho => ?_)
  · rw [upd_ne (Ne.symm h4)]
    exact h1
  · rw [upd_ne (ne_of_none ho h3)]
    exact h5 b o hb ho
theorem sc_TooLarge_init : FnScope ["self", "limit"] ["self", "limit"] (defScope s_TooLarge_init) := ⟨rfl, rfl, rfl, by decide +kernel, rfl, by decide +kernel, by decide +kernel⟩
theorem ok_TooLarge {C f : Addr} {fd : FuncData} (F : Fun K "__init__" "TooLarge.__init__" s_TooLarge_init f fd) {B : Addr} (c : BasOk P w K mg base "ScatterError" B) (e : Er K C "TooLarge" "limit") :
    FnOk P w K mg base CX0 2 f fd ["self", "limit"] (spErr K C "TooLarge" "limit") := by
  refine F.ok sc_TooLarge_init (fun vs H Q E h => ?_) (fun cdv A outer s H vs Q E hr h => ?_)
  · obtain ⟨a, i, rfl, _⟩ := h
    rfl
  obtain ⟨a, i, rfl, hi, ha, q⟩ := h
  refine ⟨_, pss_cons (ps_expr (pe_base c hr (by rfl) (pa_cons (pv 0) (pa_cons (pe_joined (.cons pe_str (.cons (pe_fmt (pv 1)) .nil))) pa_nil)))) (pss_one (ps_ost (pv 0) (pv 1))), ?_⟩
  refine ⟨_, rfl, ?_⟩
  refine ⟨_, rfl, (by decide +kernel), _, rfl, .inr ⟨i, rfl, by omega, _, rfl, msg_fits (by decide +kernel) (by omega), ?_⟩⟩
  refine ⟨a, C, "TooLarge", _, rfl, ha, e.cls, e.oex, e.code, e.msg, fun dx H' h1 h2 h3 h4 h5 => ?_⟩
  refine ⟨_, rfl, _, rfl, a, C, rfl, e.oex, e.fld_, .inr ⟨dx, _, h1, h2, (by show 2 ≤ 900; decide), ?_⟩⟩
  refine q dx _ _ ?_ upd_same h3 h4 (fun b o hb ho => ?_)
  · rw [upd_ne (Ne.symm h4)]
    exact h1
  · rw [upd_ne (ne_of_none ho h3)]
    exact h5 b o hb ho
/-! ### parse_formula, asked in the law's try -/
/-- what the head says of the two errors -/
structure Ers (K : PySem.W.Frag) (BS CI CT : Addr) : Prop where
  xI : PySem.W.exmOne K (.ref CI) (.ref BS) = some true
  eI : ErrC K CI
  xT : PySem.W.exmOne K (.ref CT) (.ref BS) = some true
  eT : ErrC K CT
/-- what the law's try tells -/
def Told (K : PySem.W.Frag) (H : Hp) (p : Addr) : Except WEr Fm → Prop
  | .ok w => ∃ v, H p = some (.tup [.str "value", v]) ∧ FV K H v w
  | .error (.it n) => H p = some (.tup [.str "InvalidText", .int (n : Nat)])
  | .error (.tl n) => H p = some (.tup [.str "TooLarge", .int (n : Nat)])
theorem l_erf {n fld : Str} {i : Int} {m : Str} (h1 : ("code" == fld : Bool) = false) (h2 : (("code" : Str) == ("message" : Str)) = false) : (erf n fld i m).lookup ("code" : Str) = some (V.str n) := by
  simp only [erf, List.lookup, h1, h2, beq_self_eq_true]
theorem pw_try {BS CI CT : Addr} {z : Str} {o : Except WEr Fm} {H : Hp} {Q : VK} (er : Ers K BS CI CT) (hz : z.length ≤ 100000) (hR : fpr (ls z) = o) (k : ∀ p H', Told K H' p o → Same H H' → Q (.ref p) H') :
    spPF K CI CT [.str z] H (fun v H' => ([V.str "value", v] : List V).length ≤ sizeLine ∧ ∀ p, H' p = none → Q (.ref p) (upd H' p (.tup [.str "value", v])))
      (fun cls d H' => ∃ C dd fs n v, cls = .ref C ∧ d = some dd ∧ PySem.W.exmOne K cls (.ref BS) = some true ∧ ErrC K C ∧ H' dd = some (.xd fs) ∧ fs.lookup ("code" : Str) = some (V.str n) ∧ ErV fs n v ∧ ∀ p, H' p = none → Q (.ref p) (upd H' p (.tup [.str n, v]))) := by
  refine ⟨z, rfl, hz, ?_⟩
  rw [hR]
  cases o with
  | ok w => exact fun v H' hv S => ⟨(by show 2 ≤ sizeLine; decide), fun p hp => k p _ ⟨v, upd_same, FV.tp (tp_new hp) _ hv⟩ (S.trans (same_new hp))⟩
  | error e =>
    cases e with
    | it n =>
      intro d H2 m h2 S
      refine ⟨CI, d, _, "InvalidText", .int (n : Nat), rfl, rfl, er.xI, er.eI, h2, l_erf (by decide +kernel) (by decide +kernel), .text ?_, fun p hp => k p _ upd_same (fun b o h => ?_)⟩
      · simp only [erf, List.lookup, beq_self_eq_true]
      · exact same_new hp b o (S b o (by simp) h)
    | tl n =>
      intro d H2 m h2 S
      refine ⟨CT, d, _, "TooLarge", .int (n : Nat), rfl, rfl, er.xT, er.eT, h2, l_erf (by decide +kernel) (by decide +kernel), .large ?_, fun p hp => k p _ upd_same (fun b o h => ?_)⟩
      · simp only [erf, List.lookup, beq_self_eq_true]
      · exact same_new hp b o (S b o (by simp) h)
theorem ask_try {T BS CI CT : Addr} {Lq : Str} {σ : L2.St} {H : Hp} {tl : XK → TE} {Q : VK} {z : Str} {o : Except WEr Fm} (er : Ers K BS CI CT) (hz : z.length ≤ 100000) (hR : fpr (ls z) = o) (tabs : LamX.Tabs [(T, Lq)] H)
    (ask : ∀ H1, LamX.ExtN H H1 → ∀ (Q' : VK) (E' : XK), spPF K CI CT [.str z] H1 Q' E' → tl E' σ H1 Q') (k : ∀ p H2, Told K H2 p o → LamX.ExtN H H2 → LamX.Tabs [(T, Lq)] H2 → Q (.ref p) H2) : LamX.tLam [(T, Lq)] (TTry K BS) tl σ H Q := by
  refine ⟨tabs, fun H1 e1 t1 => ?_⟩
  exact ask H1 e1 _ _ (pw_try er hz hR fun p H' hp S => k p H' hp (e1.trans (ext_same S)) (tabs_same t1 S))
/-- what the law's refusal tells -/
def ToldR (H : Hp) (x : V) : Except WEr Fm → Prop
  | .ok _ => x = .str "value"
  | .error (.it n) => ∃ p, x = .ref p ∧ H p = some (.tup [.str "InvalidText", .int (n : Nat)])
  | .error (.tl n) => ∃ p, x = .ref p ∧ H p = some (.tup [.str "TooLarge", .int (n : Nat)])
theorem ask_ref {T BS CI CT : Addr} {Lq : Str} {σ : L2.St} {H : Hp} {tl : XK → TE} {Q : VK} {z : Str} {o : Except WEr Fm} (er : Ers K BS CI CT) (hz : z.length ≤ 100000) (hR : fpr (ls z) = o) (tabs : LamX.Tabs [(T, Lq)] H)
    (ask : ∀ H1, LamX.ExtN H H1 → ∀ (Q' : VK) (E' : XK), spPF K CI CT [.str z] H1 Q' E' → tl E' σ H1 Q') (k : ∀ x H2, ToldR H2 x o → LamX.ExtN H H2 → LamX.Tabs [(T, Lq)] H2 → Q x H2) : LamX.tLam [(T, Lq)] (TRef K BS) tl σ H Q := by
  refine ⟨tabs, fun H1 e1 t1 f => ?_⟩
  refine ask H1 e1 _ _ (pw_try er hz hR fun p H' hp S => ?_)
  have e2 := e1.trans (ext_same S)
  have t2 := tabs_same t1 S
  cases o with
  | ok w =>
    obtain ⟨v, h1, h2⟩ := hp
    exact refR_at (K := K) (SqT.of h1) (fun _ => k _ _ rfl e2 t2) (fun n => absurd rfl n)
  | error e =>
    cases e with
    | it n => exact refR_at (K := K) (SqT.of hp) (fun q => absurd q (by decide +kernel)) (fun _ => k _ _ ⟨p, rfl, hp⟩ e2 t2)
    | tl n => exact refR_at (K := K) (SqT.of hp) (fun q => absurd q (by decide +kernel)) (fun _ => k _ _ ⟨p, rfl, hp⟩ e2 t2)

end
end SW

set_option Elab.async false
set_option linter.all false
set_option maxRecDepth 100000
set_option maxHeartbeats 4000000
namespace SW
open PySem PySem.Spec PyProof.Rows L2
/-! ### the texts of the law -/
def cod : Except WEr Fm → Nat × Nat
  | .ok _ => (0, 0)
  | .error (.it p) => (1, p)
  | .error (.tl p) => (2, p)
theorem cod_ok {o : Except WEr Fm} (h : cod o = (0, 0)) : ∃ f, o = .ok f := by
  match o with
  | .ok f => exact ⟨f, rfl⟩
  | .error (.it p) => cases h
  | .error (.tl p) => cases h
theorem cod_it {o : Except WEr Fm} {p : Nat} (h : cod o = (1, p)) : o = .error (.it p) := by
  match o with
  | .ok f => cases h
  | .error (.it p) => cases h; rfl
  | .error (.tl p) => cases h
theorem cod_tl {o : Except WEr Fm} {p : Nat} (h : cod o = (2, p)) : o = .error (.tl p) := by
  match o with
  | .ok f => cases h
  | .error (.it p) => cases h
  | .error (.tl p) => cases h; rfl
/-- the law's verdict on a text, and the program's -/
theorem verdictF (l : List Nat) (h : l.length ≤ 120) : (∃ p, rdF l = .error p ∧ fpr l = .error (.it p)) ∨ (∃ f, rdF l = .ok f ∧ 3 < f.nest ∧ fpr l = .error (.tl 3)) ∨ ∃ f, rdF l = .ok f ∧ fpr l = .ok f ∧ f.Ok ∧ f.dep ≤ 60 := by
  unfold fpr
  rw [if_neg (by omega)]
  cases e : rdF l with
  | error p => exact .inl ⟨p, rfl, rfl⟩
  | ok f =>
    obtain ⟨o, h3, _⟩ := rdF_ok e
    have hs := Fm.dep_size f
    dsimp only
    rw [if_neg (by omega)]
    by_cases hn : 3 < f.nest
    · rw [if_pos hn]
      exact .inr (.inl ⟨f, rfl, hn, rfl⟩)
    · rw [if_neg hn]
      exact .inr (.inr ⟨f, rfl, rfl, o, by omega⟩)
theorem eqv_no {d : PyData} : PyData.eqv (.tuple [.str "value", d]) (.tuple [.str "TooLarge", .int 3]) = false := by
  have h : ((Str.ofString "value") == (Str.ofString "TooLarge")) = false := by decide +kernel
  simp only [PyData.eqv, PyData.eqvAll, h, Bool.false_and]
theorem str_sm6 {n : Nat} {z : Str} : Sm n (.str z) := by cases n <;> (unfold Sm; trivial)
theorem int_sm6 {n : Nat} {z : Int} : Sm n (.int z) := by cases n <;> (unfold Sm; trivial)
theorem err_sm {c : Str} {n : Int} : Sm 19 (.tuple [.str c, .int n]) := by
  unfold Sm
  refine ⟨by show 2 ≤ 1000; decide, fun d hd => ?_⟩
  simp only [List.mem_cons, List.not_mem_nil, or_false] at hd
  rcases hd with rfl | rfl
  · exact str_sm6
  · exact int_sm6
theorem dp_err {K : PySem.W.Frag} {H : Hp} {p : Addr} {c : Str} {n : Int} (h : SqT K H p [.str c, .int n]) : Dp K H (.ref p) (.tuple [.str c, .int n]) := .tup h (.cons (.str _) (.cons (.int _) .nil))
/-- odd texts -/
abbrev odd1 : List Str := ["", "a(x", "a(X)", "x < X", "x in y", "x in", "some a(x)", "(a(x) a(y))", "(a(x) and", "not", "a(x) b(y)", "{}", "{abcdefghi}", "{not}", "xnext y", "x next  y", "X in X"]
abbrev odd2 : List Str := ["(a(x) and b(y) or c(z))", "some X x in X", "x ? y"]
def oddT : List Str := odd1 ++ odd2
def oddB (z : Str) : Bool := decide (z.length ≤ 100) && match rdF (ls z) with
  | .error _ => true
  | .ok f => decide (f.nest ≤ 3)
theorem odd_ok : ∀ z ∈ oddT, z.length ≤ 100 ∧ ∀ f, rdF (ls z) = .ok f → f.nest ≤ 3 := by
  have : (oddT.all oddB) = true := by decide +kernel
  intro z hz
  have := List.all_eq_true.mp this z hz
  unfold oddB at this
  rw [Bool.and_eq_true] at this
  refine ⟨of_decide_eq_true this.1, fun f e => ?_⟩
  have h := this.2
  rw [e] at h
  exact of_decide_eq_true h
/-- what stands at the end -/
abbrev deepT (u : Nat) : Str := repS (Str.ofString "not ") (37 + u) ++ Str.ofString "a(x)"
theorem deep_lo : ∀ u, u < 3 → cod (fpr (ls (deepT u))) = (0, 0) := by decide +kernel
theorem deep_hi : cod (fpr (ls (deepT 3))) = (2, 40) ∧ cod (fpr (ls (deepT 4))) = (2, 40) := by decide +kernel
theorem deep_len : ∀ u, u < 5 → (deepT u).length = 152 + 4 * u := by decide +kernel
theorem t1_ok : cod (fpr (ls "some x all X some y x < y")) = (0, 0) := by decide +kernel
theorem t2_ok : cod (fpr (ls "some x all X some y all z x < y")) = (2, 3) := by decide +kernel
theorem t3_ok : cod (fpr (ls (repS (Str.ofString " ") 296 ++ Str.ofString "a(x)"))) = (0, 0) := by decide +kernel
theorem t4_ok : cod (fpr (ls (repS (Str.ofString "?") 301))) = (2, 300) := by decide +kernel
theorem t5_ok : cod (fpr (ls (Str.ofString "some x all y some z some X " ++ repS (Str.ofString "not ") 40 ++ Str.ofString "a(x)"))) = (2, 40) := by decide +kernel
theorem t6_ok : cod (fpr (ls (repS (Str.ofString "not ") 41 ++ Str.ofString "a("))) = (1, 166) := by decide +kernel
/-- what the law's refusal tells, as data -/
def toldD : Except WEr Fm → PyData
  | .ok _ => .str "value"
  | .error (.it n) => .tuple [.str "InvalidText", .int (n : Nat)]
  | .error (.tl n) => .tuple [.str "TooLarge", .int (n : Nat)]
theorem told_dp {K : PySem.W.Frag} {H : Hp} {x : V} {o : Except WEr Fm} (h : ToldR H x o) : Dp K H x (toldD o) := by
  match o, h with
  | .ok f, h => rw [show x = .str "value" from h]; exact .str _
  | .error (.it n), h => obtain ⟨p, rfl, h2⟩ := h; exact dp_err (SqT.of h2)
  | .error (.tl n), h => obtain ⟨p, rfl, h2⟩ := h; exact dp_err (SqT.of h2)
theorem dp_ext {K : PySem.W.Frag} {H H' : Hp} {x : V} {o : Except WEr Fm} (h : ToldR H x o) (s : Same H H') : ToldR H' x o := by
  match o, h with
  | .ok f, h => exact h
  | .error (.it n), h => obtain ⟨p, rfl, h2⟩ := h; exact ⟨p, rfl, s _ _ h2⟩
  | .error (.tl n), h => obtain ⟨p, rfl, h2⟩ := h; exact ⟨p, rfl, s _ _ h2⟩
theorem told_ext {H H' : Hp} {x : V} {o : Except WEr Fm} (h : ToldR H x o) (s : LamX.ExtN H H') : ToldR H' x o := by
  match o, h with
  | .ok f, h => exact h
  | .error (.it n), h => obtain ⟨p, rfl, h2⟩ := h; exact ⟨p, rfl, s _ _ h2 (fun ps q => nomatch q)⟩
  | .error (.tl n), h => obtain ⟨p, rfl, h2⟩ := h; exact ⟨p, rfl, s _ _ h2 (fun ps q => nomatch q)⟩
theorem app_step {K : PySem.W.Frag} {T BS CI CT pw : Addr} {Lq : Str} {σ : L2.St} {H : Hp} {tl : XK → TE} {te2 : TE} {i : Nat} {z : Str} {o : Except WEr Fm} {xs : List V} {D : Ends} (er : Ers K BS CI CT) (hz : z.length ≤ 100000) (hR : fpr (ls z) = o) (tabs : LamX.Tabs [(T, Lq)] H) (hσ : σ[i]? = some (some (.ref pw))) (hpw : H pw = some (.lst xs)) (hl : xs.length ≤ 100)
    (ask : ∀ H1, LamX.ExtN H H1 → ∀ (Q' : VK) (E' : XK), spPF K CI CT [.str z] H1 Q' E' → tl E' σ H1 Q')
    (h2 : ∀ (H2 : Hp) (Q2 : VK), (∀ y H3, Dp K H3 y (toldD o) → Same H2 H3 → Q2 y H3) → te2 σ H2 Q2) (sh : SeqAt.shaped (toldD o) = true) (ev : PyData.eqv (toldD o) (toldD o) = true)
    (k : ∀ H4, H4 pw = some (.lst (xs ++ [.bl true])) → LamX.Tabs [(T, Lq)] H4 → D.nx σ H4) :
    tDrop (tBM K "list" rAppend (tVar i) (tCons (tOp (rEqD K) (LamX.tLam [(T, Lq)] (TRef K BS) tl) te2) tNil)) D σ H := by
  refine ⟨_, hσ, .inl ⟨rfl, _, SqL.of hpw⟩, ?_⟩
  refine ask_ref er hz hR tabs ask (fun x H2 hx e2 t2 => ?_)
  refine h2 _ _ (fun y H3 hy s3 => ⟨toldD o, toldD o, told_dp (dp_ext (K := K) hx s3), hy, sh, sh, ?_⟩)
  rw [ev]
  have h3 := s3 _ _ (e2 _ _ hpw (fun ps q => nomatch q))
  refine ⟨pw, _, _, rfl, rfl, h3, Nat.lt_of_le_of_lt hl (by decide), ?_⟩
  exact k _ upd_same (tabs_kp (tabs_same t2 s3) (fun b o n h => by rw [upd_ne n]; exact h) h3)
end SW

set_option Elab.async false
set_option linter.all false
set_option maxRecDepth 100000
set_option maxHeartbeats 4000000
namespace SW
open PySem PySem.Spec PyProof.Rows L2
section
variable {P : Program} {w : World} {K : PySem.W.Frag} {mg : Str → Option Value} {base : Heap}
theorem tabs_kp2 {T : List (Addr × Str)} {H H' : Hp} {r q : Addr} {z y : List V} (t : LamX.Tabs T H) (k : Kp2 r q H H') (h : H r = some (.lst z)) (g : H q = some (.lst y)) : LamX.Tabs T H' := fun p hp => by
  obtain ⟨ps, h1, h2, h3⟩ := t p hp
  refine ⟨ps, k _ _ (fun e => by rw [e, h] at h1; cases h1) (fun e => by rw [e, g] at h1; cases h1) h1, h2, fun pos cv hc => ?_⟩
  obtain ⟨c, e1, e2⟩ := h3 pos cv hc
  exact ⟨c, e1, k _ _ (fun e => by rw [e, h] at e2; cases e2) (fun e => by rw [e, g] at e2; cases e2) e2⟩
abbrev bendL : List Str := ["a", "x", "X", "(", ")", "{", "}", "<", "=", " ", "n", "1", "A", "\n"]
theorem sc_law : FnScope ["_law_script", "_law_rng", "_law_turn", "_law_text", "_law_bend", "_law_due", "_law_told", "_law_odd", "_law_deep", "_law_words", "_law_both"] ["_law_script"] (defScope s_law) := ⟨rfl, rfl, rfl, by decide +kernel, rfl, by decide +kernel, by decide +kernel⟩
abbrev N16 : List Str := ["_law_script", "_law_rng", "_law_turn", "_law_text", "_law_bend", "_law_due", "_law_told", "_law_odd", "_law_deep", "_law_words", "_law_both"]
theorem law_body {c T BS BM CI CT : Addr} {v40 v3 : Value} (hTB : LamX.TabB base mg c T) (mS : mg "ScatterError" = some (.ref BS)) (mM : mg "Missing" = some (.ref BM)) (er : Ers K BS CI CT) (bi : Bi mg)
    (mMAX_NODES : mg "MAX_NODES" = some v40) (rMAX_NODES : L2.RelV (.int 40) v40) (mMAX_NESTING : mg "MAX_NESTING" = some v3) (rMAX_NESTING : L2.RelV (.int 3) v3)
    (D_law_try : Df K mg "_law_try" s__law_try ["_law_ask"]) (D_law_refusal : Df K mg "_law_refusal" s__law_refusal ["_law_ask"]) (c_law_field : CalW P w K mg base 1 "_law_field" ["_law_e"] (spField K)) (Dparse_formula : Df K mg "parse_formula" s_parse_formula ["text"])
    (c_law_draws : Cal P w K mg base 1 "_law_draws" ["_law_script"] (spDraws K)) (c_law_draw : Cal P w K mg base 1 "_law_draw" ["_law_rng", "_law_many"] spDraw) (c_law_same : Cal P w K mg base 20 "_law_same" ["_law_found", "_law_due"] (spSame K 20))
    (c_law_any_formula : Cal P w K mg base 6 "_law_any_formula" ["_law_rng", "_law_kit", "_law_deep"] (spAnyF K 4)) (c_law_written : Cal P w K mg base 5 "_law_written" ["_law_formula"] (spTxt K 5)) (c_law_bent : Cal P w K mg base 3 "_law_bent" ["_law_rng", "_law_text", "_law_signs"] spBent)
    (c_law_formula_due : Cal P w K mg base 122 "_law_formula_due" ["_law_text"] spFDue) (cparse_formula : CalX P w K mg base 102 "parse_formula" ["text"] (spPF K CI CT))
    (f : Addr) (A : Around) (outer : List Env) (s : Shared) (H : Hp) (a : Addr) (ns : List Int) (Q : VK) (E : XK) (hr : Room 160 (A.deeper (envOfC "law" (defScope s_law) s.heap.objs.size f (.ref c)))) (hS : SqL K H a (ns.map V.int)) (hT : H T = some (.tbl #[])) (q : ∀ H', Q (.bl true) H') :
    ∃ t, PSs (cxOf CX0 P w K mg base N16 "law" (defScope s_law) f (.ref c) A outer s H E).nox (defBody s_law) t ∧ t { nx := fun _ H' => Q .non H', rt := Q } (L2.start N16 [.ref a]) H := by
  refine ⟨_, (pss_cons (ps_set (i := 1) sc_law.nd rfl (.inl rfl) (pe_own c_law_draws hr (by omega) (by rfl) (pa_cons (pv 0) pa_nil)))
      (pss_cons (ps_for PassesOwn.never rfl (pi_range1 (by rfl) bi.range (pa_cons pe_int pa_nil)) (pg_name (i := 2) sc_law.nd rfl (.inl rfl)) (pss_cons (ps_set (i := 3) sc_law.nd rfl (.inr rfl) (pe_own c_law_written hr (by omega) (by rfl) (pa_cons (pe_own c_law_any_formula hr (by omega) (by rfl) (pa_cons (pv 1) (pa_cons (pe_lst (pa_cons pe_int pa_nil)) (pa_cons pe_int pa_nil)))) pa_nil)))
      (pss_cons (ps_for PassesOwn.never rfl (pi_range1 (by rfl) bi.range (pa_cons (pe_op op_add pe_int (pe_own c_law_draw hr (by omega) (by rfl) (pa_cons (pv 1) (pa_cons pe_int pa_nil)))) pa_nil)) (pg_name (i := 4) sc_law.nd rfl (.inl rfl)) (pss_one (ps_set (i := 3) sc_law.nd rfl (.inr rfl) (pe_own c_law_bent hr (by omega) (by rfl) (pa_cons (pv 1) (pa_cons (pv 3) (pa_cons (pe_lst (pa_cons pe_str (pa_cons pe_str (pa_cons pe_str (pa_cons pe_str (pa_cons pe_str (pa_cons pe_str (pa_cons pe_str (pa_cons pe_str (pa_cons pe_str (pa_cons pe_str (pa_cons pe_str (pa_cons pe_str (pa_cons pe_str (pa_cons pe_str pa_nil))))))))))))))) pa_nil)))))))
      (pss_cons (ps_par (i := 5) (j := 6) rfl sc_law.nd rfl rfl (by decide) rfl rfl (pa_cons (pe_own c_law_formula_due hr (by omega) (by rfl) (pa_cons (pv 3) pa_nil)) (pa_cons (pe_try D_law_try c_law_field mS mM hTB rfl hr (by rfl) (LamX.lamS_by (sc := defScope s_law) (by decide +kernel)) (by rfl) (fun _ _ _ _ _ => rfl) (fun A outer s H E f c hr => (pe_ownX cparse_formula hr (by omega) pass_lam2 (by rfl) (pa_cons (pv 3) pa_nil)))) pa_nil)) (by rfl))
      (pss_cons (ps_if (PW.pt (pw_or (pt_cmpR op_gt (pe_callB call_len_str (by rfl) bi.len PySem.boot_len (pa_cons (pv 3) pa_nil)) pe_int (nomark _)) (pw_or1 (PW.pt (pw_and (pt_cmpR op_isN (pv 5) pe_non (nomark _)) (pw_and1 (pt_cmpR (op_eqD hr.units) (pv 6) (pe_tup (pa_cons pe_str (pa_cons pe_int pa_nil))) (nomark _)))))))) (pss_one ps_continue) pss_nil)
      (pss_one (ps_if (PW.pt (pw_or (PW.pt (pw_and (pt_cmpR op_notN (pv 5) pe_non (nomark _)) (pw_and1 (pt_not (pt_val (pe_own c_law_same hr (by omega) (by rfl) (pa_cons (pv 6) (pa_cons (pv 5) pa_nil)))))))) (pw_or1 (PW.pt (pw_and (pt_cmpR op_isN (pv 5) pe_non (nomark _)) (pw_and1 (pt_cmpR op_ne (pe_ix ix_tup (pv 6) pe_int (fun _ _ => rfl)) pe_str (nomark _)))))))) (pss_one (ps_ret pe_bl)) pss_nil)))))))
      (pss_cons (ps_set (i := 7) sc_law.nd rfl (.inl rfl) (pe_lst (pa_cons pe_str (pa_cons pe_str (pa_cons pe_str (pa_cons pe_str (pa_cons pe_str (pa_cons pe_str (pa_cons pe_str (pa_cons pe_str (pa_cons pe_str (pa_cons pe_str (pa_cons pe_str (pa_cons pe_str (pa_cons pe_str (pa_cons pe_str (pa_cons pe_str (pa_cons pe_str (pa_cons pe_str pa_nil)))))))))))))))))))
      (pss_cons (ps_set (i := 7) sc_law.nd rfl (.inl rfl) (pe_op op_cat (pv 7) (pe_lst (pa_cons pe_str (pa_cons pe_str (pa_cons pe_str pa_nil))))))
      (pss_cons (ps_for PassesOwn.never rfl (pi_list (pv 7)) (pg_name (i := 3) sc_law.nd rfl (.inr rfl)) (pss_cons (ps_par (i := 5) (j := 6) rfl sc_law.nd rfl rfl (by decide) rfl rfl (pa_cons (pe_own c_law_formula_due hr (by omega) (by rfl) (pa_cons (pv 3) pa_nil)) (pa_cons (pe_try D_law_try c_law_field mS mM hTB rfl hr (by rfl) (LamX.lamS_by (sc := defScope s_law) (by decide +kernel)) (by rfl) (fun _ _ _ _ _ => rfl) (fun A outer s H E f c hr => (pe_ownX cparse_formula hr (by omega) pass_lam2 (by rfl) (pa_cons (pv 3) pa_nil)))) pa_nil)) (by rfl))
      (pss_one (ps_if (PW.pt (pw_or (PW.pt (pw_and (pt_cmpR op_notN (pv 5) pe_non (nomark _)) (pw_and1 (pt_not (pt_val (pe_own c_law_same hr (by omega) (by rfl) (pa_cons (pv 6) (pa_cons (pv 5) pa_nil)))))))) (pw_or1 (PW.pt (pw_and (pt_cmpR op_isN (pv 5) pe_non (nomark _)) (pw_and1 (pt_cmpR op_ne (pe_ix ix_tup (pv 6) pe_int (fun _ _ => rfl)) pe_str (nomark _)))))))) (pss_one (ps_ret pe_bl)) pss_nil))))
      (pss_cons (ps_set (i := 8) sc_law.nd rfl (.inr rfl) (pe_op op_add_str (pe_op op_rep_str pe_str (pe_op op_add pe_int (pe_own c_law_draw hr (by omega) (by rfl) (pa_cons (pv 1) (pa_cons pe_int pa_nil))))) pe_str))
      (C8.pss_cut (ps_set (i := 5) sc_law.nd rfl (.inl rfl) (pe_ifExp (pt_cmpR op_lt (pe_callB call_len_str (by rfl) bi.len PySem.boot_len (pa_cons (pv 8) pa_nil)) pe_int (nomark _)) pe_str (pe_tup (pa_cons pe_str (pa_cons pe_int pa_nil)))))
      (pss_cons (ps_set (i := 9) sc_law.nd rfl (.inl rfl) (pe_lst (pa_cons (pe_cmpR (op_eqD hr.units) (pe_ref D_law_refusal D_law_try c_law_field mS mM hTB rfl hr (by rfl) (LamX.lamS_by (sc := defScope s_law) (by decide +kernel)) (by rfl) (fun _ _ _ _ _ => rfl) (fun A outer s H E f c hr => (pe_ownX cparse_formula hr (by omega) pass_lam2 (by rfl) (pa_cons (pv 8) pa_nil)))) (pv 5) (nomark _)) pa_nil)))
      (pss_cons (ps_expr (pe_bm PySem.F.plainAttrs_list PySem.F.slot_list_append PySem.F.type_list_append mt_append (pv 9) (pa_cons (pe_cmpR (op_eqD hr.units) (pe_refD (y0 := "_law_w") D_law_refusal D_law_try c_law_field mS mM hTB rfl hr (by rfl) (lamD_by (N := ["_law_script", "_law_rng", "_law_turn", "_law_text", "_law_bend", "_law_due", "_law_told", "_law_odd", "_law_deep", "_law_words", "_law_both"]) (sc := defScope s_law) (by decide +kernel)) rfl rfl (fun _ _ _ _ _ _ _ _ => ⟨_, rfl, rfl⟩) (fun A outer s H E f c hr => (pe_ownX cparse_formula hr (by omega) pass_lam2 (by rfl) (pa_cons pe_str pa_nil)))) pe_str (nomark _)) pa_nil)))
      (pss_cons (ps_expr (pe_bm PySem.F.plainAttrs_list PySem.F.slot_list_append PySem.F.type_list_append mt_append (pv 9) (pa_cons (pe_cmpR (op_eqD hr.units) (pe_refD (y0 := "_law_u") D_law_refusal D_law_try c_law_field mS mM hTB rfl hr (by rfl) (lamD_by (N := ["_law_script", "_law_rng", "_law_turn", "_law_text", "_law_bend", "_law_due", "_law_told", "_law_odd", "_law_deep", "_law_words", "_law_both"]) (sc := defScope s_law) (by decide +kernel)) rfl rfl (fun _ _ _ _ _ _ _ _ => ⟨_, rfl, rfl⟩) (fun A outer s H E f c hr => (pe_ownX cparse_formula hr (by omega) pass_lam2 (by rfl) (pa_cons pe_str pa_nil)))) (pe_tup (pa_cons pe_str (pa_cons pe_int pa_nil))) (nomark _)) pa_nil)))
      (pss_cons (ps_expr (pe_bm PySem.F.plainAttrs_list PySem.F.slot_list_append PySem.F.type_list_append mt_append (pv 9) (pa_cons (pe_cmpR (op_eqD hr.units) (pe_refD (y0 := "_law_v") D_law_refusal D_law_try c_law_field mS mM hTB rfl hr (by rfl) (lamD_by (N := ["_law_script", "_law_rng", "_law_turn", "_law_text", "_law_bend", "_law_due", "_law_told", "_law_odd", "_law_deep", "_law_words", "_law_both"]) (sc := defScope s_law) (by decide +kernel)) rfl rfl (fun _ _ _ _ _ _ _ _ => ⟨_, rfl, rfl⟩) (fun A outer s H E f c hr => (pe_ownX cparse_formula hr (by omega) pass_lam2 (by rfl) (pa_cons (pe_op op_add_str (pe_op op_rep_str pe_str pe_int) pe_str) pa_nil)))) pe_str (nomark _)) pa_nil)))
      (pss_cons (ps_expr (pe_bm PySem.F.plainAttrs_list PySem.F.slot_list_append PySem.F.type_list_append mt_append (pv 9) (pa_cons (pe_cmpR (op_eqD hr.units) (pe_refD (y0 := "_law_t") D_law_refusal D_law_try c_law_field mS mM hTB rfl hr (by rfl) (lamD_by (N := ["_law_script", "_law_rng", "_law_turn", "_law_text", "_law_bend", "_law_due", "_law_told", "_law_odd", "_law_deep", "_law_words", "_law_both"]) (sc := defScope s_law) (by decide +kernel)) rfl rfl (fun _ _ _ _ _ _ _ _ => ⟨_, rfl, rfl⟩) (fun A outer s H E f c hr => (pe_ownX cparse_formula hr (by omega) pass_lam2 (by rfl) (pa_cons (pe_op op_rep_str pe_str pe_int) pa_nil)))) (pe_tup (pa_cons pe_str (pa_cons pe_int pa_nil))) (nomark _)) pa_nil)))
      (pss_cons (ps_set (i := 10) sc_law.nd rfl (.inr rfl) (pe_op op_add_str (pe_op op_add_str pe_str (pe_op op_rep_str pe_str pe_int)) pe_str))
      (pss_cons (ps_expr (pe_bm PySem.F.plainAttrs_list PySem.F.slot_list_append PySem.F.type_list_append mt_append (pv 9) (pa_cons (pe_cmpR (op_eqD hr.units) (pe_ref D_law_refusal D_law_try c_law_field mS mM hTB rfl hr (by rfl) (LamX.lamS_by (sc := defScope s_law) (by decide +kernel)) (by rfl) (fun _ _ _ _ _ => rfl) (fun A outer s H E f c hr => (pe_ownX cparse_formula hr (by omega) pass_lam2 (by rfl) (pa_cons (pv 10) pa_nil)))) (pe_tup (pa_cons pe_str (pa_cons pe_int pa_nil))) (nomark _)) pa_nil)))
      (pss_cons (ps_expr (pe_bm PySem.F.plainAttrs_list PySem.F.slot_list_append PySem.F.type_list_append mt_append (pv 9) (pa_cons (pe_cmpR (op_eqD hr.units) (pe_ref D_law_refusal D_law_try c_law_field mS mM hTB rfl hr (by rfl) (LamX.lamS_by (sc := defScope s_law) (by decide +kernel)) (by rfl) (fun _ _ _ _ _ => rfl) (fun A outer s H E f c hr => (pe_ownX cparse_formula hr (by omega) pass_lam2 (by rfl) (pa_cons (pe_op op_add_str (pe_op op_rep_str pe_str pe_int) pe_str) pa_nil)))) (pe_tup (pa_cons pe_str (pa_cons pe_int pa_nil))) (nomark _)) pa_nil)))
      (pss_one (ps_ret (pe_and (pe_cmpR (op_eqD hr.units) (pv 9) (pe_op op_rep (pe_lst (pa_cons pe_bl pa_nil)) pe_int) (nomark _)) (pe_one (pe_cmpR (op_eqD hr.units) (pe_tup (pa_cons (pe_glob (v := .int 40) (by rfl) mMAX_NODES rMAX_NODES) (pa_cons (pe_glob (v := .int 3) (by rfl) mMAX_NESTING rMAX_NESTING) pa_nil))) (pe_tup (pa_cons pe_int (pa_cons pe_int pa_nil))) (nomark _))))))))))))))))))))), ?_⟩
  refine ⟨_, rfl, a, ns, rfl, hS, fun r l H1 g1 k1 => ?_⟩
  generalize ((cxOf CX0 P w K mg base N16 "law" (defScope s_law) f (.ref c) A outer s H E).nox.env.qual ++ Str.ofString "<lambda>") = Lq
  have tb1 : LamX.Tabs [(T, Lq)] H1 := fun p hp => by
    obtain rfl := List.mem_singleton.mp hp
    exact LamX.TabS.nil (k1 _ _ hT)
  have nu : ∀ {xs : List V} (ps : Array Value), (HO.tup xs) ≠ .tbl ps := fun ps q => nomatch q
  have nt : ∀ {xs : List V} (ps : Array Value), (HO.lst xs) ≠ .tbl ps := fun ps q => nomatch q
  refine ⟨8, rfl, by decide, by decide, for_range (n := 8) (fun i σ' H' => ∃ y2 y3 y4 y5 y6, σ' = [some (.ref a), some (.ref r), y2, y3, y4, y5, y6, none, none, none, none] ∧ Rng H' r l ∧ LamX.Tabs [(T, Lq)] H') ?_ ?_ ?_⟩
  · exact ⟨none, none, none, none, none, rfl, g1, tb1⟩
  · rintro i0 σ' H2 _ ⟨y2, y3, y4, y5, y6, rfl, g2, tb2⟩
    obtain ⟨z2, hz2⟩ := g2.lst
    obtain ⟨zl2, hzl2⟩ := g2.some_l
    refine ⟨_, rfl, (by show 1 ≤ sizeLine; decide), fun k hk => ?_⟩
    have tb4 := tabs_same tb2 (same_new (o := .lst [.int 4]) hk)
    have g4 := g2.new (o := .lst [.int 4]) hk
    obtain ⟨z4, hz4⟩ := g4.lst
    refine ⟨r, l, k, 4, _, rfl, rfl, by decide, ⟨by decide, by decide⟩, g4, upd_same, (ne_of_none hz2 hk).symm, (ne_of_none hzl2 hk).symm, fun v t a' H5 hv ho hd hb g5 hk5 k5 => ?_⟩
    have tb5 := tabs_kp2 tb4 k5 hz4 (upd_same (H := H2) (a := k) (o := .lst [.int 4]))
    refine ⟨v, t, rfl, hv, ho, by omega, by decide, fun H6 k6 => ?_⟩
    have tb6 := tabs_same tb5 k6
    have g6 : Rng H6 r l := g5.of (fun o h => k6 _ _ h) (fun o h => k6 _ _ h)
    have hz6 : t.txt.length ≤ 103 := by
      have := hb.1
      have := hb.2.2
      omega
    generalize t.txt = z0 at hz6
    clear hv ho hd hb k5 k6 tb5 g5 tb4 g4 hz2 hz4 hzl2 tb2 g2 hk5
    -- bent
    refine ⟨_, rfl, r, l, _, rfl, by decide, by decide, g6, fun u H7 u0 u1 g7 k7 => ?_⟩
    obtain ⟨z6, hz6'⟩ := g6.lst
    have tb7 := tabs_kp tb6 k7 hz6'
    have u2 : u < 2 := u1
    refine ⟨_, _, rfl, rfl, _, rfl, by omega, by omega, for_range (n := (1 + u).toNat) (fun i σ' H' => ∃ y2 y4 y5 y6 z, σ' = [some (.ref a), some (.ref r), y2, some (.str z), y4, y5, y6, none, none, none, none] ∧ z.length ≤ 103 + i ∧ Rng H' r l ∧ LamX.Tabs [(T, Lq)] H') ?_ ?_ ?_⟩
    · exact ⟨_, _, _, _, z0, rfl, hz6, g7, tb7⟩
    · rintro i σ' H8 hi ⟨y2, y4, y5, y6, z, rfl, hz, g8, tb8⟩
      refine ⟨_, rfl, _, rfl, (by show 14 ≤ sizeLine; decide), fun pl hpl => ?_⟩
      obtain ⟨z8, hz8⟩ := g8.lst
      have g9 := g8.new (o := .lst (bendL.map V.str)) hpl
      have tb9 := tabs_same tb8 (same_new (o := .lst (bendL.map V.str)) hpl)
      obtain ⟨z9, hz9⟩ := g9.lst
      refine ⟨r, l, pl, z, bendL, rfl, g9, by omega, upd_same, (ne_of_none hz8 hpl).symm, by show 0 < 14; decide, by show 14 ≤ 1000; decide, by decide +kernel, fun o H10 ho g10 k10 => ?_⟩
      exact ⟨_, _, _, _, o, rfl, by omega, g10, tabs_kp tb9 k10 hz9⟩
    rintro σ' H8 ⟨y2, y4, y5, y6, z, rfl, hz, g8, tb8⟩
    have hz' : z.length ≤ 105 := by omega
    clear hz tb7 g7 k7 g6 tb6 hz6 hz6'
    -- the verdicts
    have hl := len_ls z
    rcases verdictF (ls z) (by omega) with ⟨n, hd, hW⟩ | ⟨f0, hd, _, hW⟩ | ⟨f0, hd, hW, ho, hdp⟩
    · -- an error
      refine ⟨_, rfl, z, rfl, by omega, ?_⟩
      rw [hd]
      intro d H9 hd9 k9
      refine ask_try er (z := z) (by omega) hW (tabs_same tb8 k9) (fun H1 e1 Q' E' h => ⟨_, rfl, h⟩) (fun p H10 hp e10 tb10 => ?_)
      have hp' : H10 p = some (.tup [.str "InvalidText", .int (n : Nat)]) := hp
      have g10 := Rng.ext (g8.of (fun o h => k9 _ _ h) (fun o h => k9 _ _ h)) e10
      refine ⟨_, _, rfl, _, rfl, _, rfl, fit (by omega), _, _, rfl, rfl, _, rfl, ite2 (fun h => absurd (of_decide_eq_true h) (by omega)) (fun _ => ?_)⟩
      refine ⟨_, rfl, rfl, _, rfl, ite2 (fun h => absurd h (by simp)) (fun _ => ?_)⟩
      refine ⟨_, rfl, rfl, _, rfl, ite2 (fun _ => ?_) (fun h => absurd (by simp) h)⟩
      refine ⟨_, rfl, _, rfl, _, _, _, rfl, dp_err (SqT.of hp'), dp_err (SqT.of (e10 _ _ hd9 nu)), err_sm, fun H11 k11 => ⟨true, rfl, ?_⟩⟩
      refine ⟨_, rfl, rfl, _, rfl, ite2 (fun h => absurd h (by simp)) (fun _ => ?_)⟩
      exact ⟨_, _, _, _, _, rfl, g10.of (fun o h => k11 _ _ h) (fun o h => k11 _ _ h), tabs_same tb10 k11⟩
    · -- too deep
      refine ⟨_, rfl, z, rfl, by omega, ?_⟩
      rw [hd]
      intro H9 k9
      refine ask_try er (z := z) (by omega) hW (tabs_same tb8 k9) (fun H1 e1 Q' E' h => ⟨_, rfl, h⟩) (fun p H10 hp e10 tb10 => ?_)
      have hp' : H10 p = some (.tup [.str "TooLarge", .int 3]) := hp
      refine ⟨_, _, rfl, _, rfl, _, rfl, fit (by omega), _, _, rfl, rfl, _, rfl, ite2 (fun h => absurd (of_decide_eq_true h) (by omega)) (fun _ => ?_)⟩
      refine ⟨_, rfl, rfl, _, rfl, ite2 (fun _ => ?_) (fun h => absurd (decide_eq_true rfl) h)⟩
      refine ⟨_, rfl, (by show 2 ≤ sizeLine; decide), fun pt hpt => ⟨.tuple [.str "TooLarge", .int 3], .tuple [.str "TooLarge", .int 3], dp_err ((tp_new hpt).sq (SqT.of hp')), dp_err (SqT.of upd_same), by decide +kernel, by decide +kernel, _, rfl, ite2 (fun _ => ?_) (fun h => absurd (by decide +kernel) h)⟩⟩
      exact ⟨_, _, _, _, _, rfl, (Rng.ext (g8.of (fun o h => k9 _ _ h) (fun o h => k9 _ _ h)) e10).new hpt, tabs_same tb10 (same_new hpt)⟩
    · -- a formula
      refine ⟨_, rfl, z, rfl, by omega, ?_⟩
      rw [hd]
      intro H9 k9
      refine ask_try er (z := z) (by omega) hW (tabs_same tb8 k9) (fun H1 e1 Q' E' h => ⟨_, rfl, h⟩) (fun p H10 hp e10 tb10 => ?_)
      obtain ⟨v, hp', hw⟩ := hp
      have g10 := Rng.ext (g8.of (fun o h => k9 _ _ h) (fun o h => k9 _ _ h)) e10
      refine ⟨_, _, rfl, _, rfl, _, rfl, fit (by omega), _, _, rfl, rfl, _, rfl, ite2 (fun h => absurd (of_decide_eq_true h) (by omega)) (fun _ => ?_)⟩
      refine ⟨_, rfl, rfl, _, rfl, ite2 (fun _ => ?_) (fun h => absurd (decide_eq_true rfl) h)⟩
      refine ⟨_, rfl, (by show 2 ≤ sizeLine; decide), fun pt hpt => ?_⟩
      have tt := tp_new (o := .tup [.str "TooLarge", .int 3]) hpt
      refine ⟨.tuple [.str "value", f0.dat], .tuple [.str "TooLarge", .int 3], .tup (tt.sq (SqT.of hp')) (.cons (.str _) (.cons (FV.tp tt _ hw) .nil)), dp_err (SqT.of upd_same), fm_shaped ho hdp, by decide +kernel, _, rfl, ite2 (fun h => ?_) (fun _ => ?_)⟩
      · rw [eqv_no] at h
        cases h
      refine ⟨_, rfl, rfl, _, rfl, ite2 (fun h => absurd h (by simp)) (fun _ => ?_)⟩
      refine ⟨_, rfl, rfl, _, rfl, ite2 (fun _ => ?_) (fun h => absurd (decide_eq_true rfl) h)⟩
      refine ⟨_, rfl, _, _, _, _, rfl, rfl, tt.sq (SqT.of hp'), rfl, rfl, ne_no rfl ?_⟩
      exact ⟨_, _, _, _, _, rfl, g10.new hpt, tabs_same tb10 (same_new hpt)⟩
  · rintro σ' H2 ⟨y2, y3, y4, y5, y6, rfl, g2, tb2⟩
    refine ⟨(by show 17 ≤ sizeLine; decide), fun p1 hp1 => ?_⟩
    refine ⟨_, rfl, (by show 3 ≤ sizeLine; decide), fun p2 hp2 => ?_⟩
    refine ⟨p1, p2, odd1.map V.str, odd2.map V.str, rfl, rfl, (same_new hp2) _ _ upd_same, upd_same, (by show 17 + 3 ≤ sizeLine; decide), fun po hpo => ?_⟩
    have s2 := (same_new (o := .lst (odd1.map V.str)) hp1).trans ((same_new (o := .lst (odd2.map V.str)) hp2).trans (same_new (o := .lst (odd1.map V.str ++ odd2.map V.str)) hpo))
    have hA : (upd (upd (upd H2 p1 (.lst (odd1.map V.str))) p2 (.lst (odd2.map V.str))) po (.lst (odd1.map V.str ++ odd2.map V.str))) po = some (.lst (oddT.map V.str)) := upd_same
    have g3 : Rng _ r l := g2.of (fun o h => s2 _ _ h) (fun o h => s2 _ _ h)
    have tb3 := tabs_same tb2 s2
    refine ⟨_, rfl, po, rfl, ⟨oddT.map V.str, SqL.of hA⟩, ?_⟩
    refine for_list (xs := oddT.map V.str) (fun i σ' H' => ∃ y2 y3 y4 y5 y6, σ' = [some (.ref a), some (.ref r), y2, y3, y4, y5, y6, some (.ref po), none, none, none] ∧ Rng H' r l ∧ LamX.Tabs [(T, Lq)] H' ∧ H' po = some (.lst (oddT.map V.str))) ?_ ?_ ?_ ?_
    · exact ⟨_, _, _, _, _, rfl, g3, tb3, hA⟩
    · rintro i σ' H' _ ⟨y2, y3, y4, y5, y6, rfl, _, _, h⟩
      exact SqL.of h
    · rintro i x σ' H4 hx ⟨y2, y3, y4, y5, y6, rfl, g4, tb4, hA4⟩
      rw [List.getElem?_map] at hx
      obtain ⟨z, hzm, rfl⟩ := Option.map_eq_some_iff.mp hx
      obtain ⟨hz, hnest⟩ := odd_ok z (List.mem_of_getElem? hzm)
      have hl := len_ls z
      rcases verdictF (ls z) (by omega) with ⟨n, hd, hW⟩ | ⟨f0, hd, hn3, hW⟩ | ⟨f0, hd, hW, ho, hdp⟩
      · refine ⟨_, rfl, z, rfl, by omega, ?_⟩
        rw [hd]
        intro d H9 hd9 k9
        refine ask_try er (z := z) (by omega) hW (tabs_same tb4 k9) (fun H1 e1 Q' E' h => ⟨_, rfl, h⟩) (fun p H10 hp e10 tb10 => ?_)
        have hp' : H10 p = some (.tup [.str "InvalidText", .int (n : Nat)]) := hp
        have g10 := Rng.ext (g4.of (fun o h => k9 _ _ h) (fun o h => k9 _ _ h)) e10
        refine ⟨_, _, rfl, ?_⟩
        refine ⟨_, rfl, rfl, _, rfl, ite2 (fun _ => ?_) (fun h => absurd (by simp) h)⟩
        refine ⟨_, rfl, _, rfl, _, _, _, rfl, dp_err (SqT.of hp'), dp_err (SqT.of (e10 _ _ hd9 nu)), err_sm, fun H11 k11 => ⟨true, rfl, ?_⟩⟩
        refine ⟨_, rfl, rfl, _, rfl, ite2 (fun h => absurd h (by simp)) (fun _ => ?_)⟩
        exact ⟨_, _, _, _, _, rfl, g10.of (fun o h => k11 _ _ h) (fun o h => k11 _ _ h), tabs_same tb10 k11, k11 _ _ (e10 _ _ (k9 _ _ hA4) nt)⟩
      · exact absurd (hnest f0 hd) (by omega)
      · refine ⟨_, rfl, z, rfl, by omega, ?_⟩
        rw [hd]
        intro H9 k9
        refine ask_try er (z := z) (by omega) hW (tabs_same tb4 k9) (fun H1 e1 Q' E' h => ⟨_, rfl, h⟩) (fun p H10 hp e10 tb10 => ?_)
        obtain ⟨v, hp', hw⟩ := hp
        have g10 := Rng.ext (g4.of (fun o h => k9 _ _ h) (fun o h => k9 _ _ h)) e10
        refine ⟨_, _, rfl, ?_⟩
        refine ⟨_, rfl, rfl, _, rfl, ite2 (fun h => absurd h (by simp)) (fun _ => ?_)⟩
        refine ⟨_, rfl, rfl, _, rfl, ite2 (fun _ => ?_) (fun h => absurd (decide_eq_true rfl) h)⟩
        refine ⟨_, rfl, _, _, _, _, rfl, rfl, SqT.of hp', rfl, rfl, ne_no rfl ?_⟩
        exact ⟨_, _, _, _, _, rfl, g10, tb10, e10 _ _ (k9 _ _ hA4) nt⟩
    · rintro σ' H4 ⟨y2, y3, y4, y5, y6, rfl, g4, tb4, hA4⟩
      clear hA4 hA g3 tb3 hpo tb2 g2 s2
      refine ⟨_, rfl, r, l, _, rfl, by decide, by decide, g4, fun u H5 u0 u1 g5 k5 => ?_⟩
      obtain ⟨z4, hz4⟩ := g4.lst
      have tb5 := tabs_kp tb4 k5 hz4
      obtain ⟨n, rfl⟩ : ∃ n : Nat, u = (n : Int) := ⟨u.toNat, by omega⟩
      have hn5 : n < 5 := by have : (n : Int) < 5 := u1; omega
      have hdl := deep_len n hn5
      refine ⟨_, _, rfl, rfl, _, 37 + n, rfl, congrArg V.int (by omega), by omega, by decide, _, _, rfl, rfl, fit (by rw [← len_app]; exact Nat.le_trans (Nat.le_of_eq hdl) (by omega)), ?_⟩
      -- its verdict
      refine ⟨fun σ2 H6 => ∃ (v : V) (o : Except WEr Fm), σ2 = [some (.ref a), some (.ref r), y2, y3, y4, some v, y6, some (.ref po), some (.str (deepT n)), none, none] ∧ fpr (ls (deepT n)) = o ∧ ToldR H6 v o ∧ SeqAt.shaped (toldD o) = true ∧ PyData.eqv (toldD o) (toldD o) = true ∧ LamX.Tabs [(T, Lq)] H6, ?_, ?_⟩
      · refine ⟨_, rfl, _, rfl, fit (Nat.le_trans (Nat.le_of_eq hdl) (by omega)), _, _, rfl, rfl, _, rfl, ite2 (fun h => ?_) (fun h => ?_)⟩
        · have h3 : ((deepT n).length : Int) < 161 := of_decide_eq_true h
          obtain ⟨f0, e0⟩ := cod_ok (deep_lo n (by omega))
          exact ⟨_, .ok f0, rfl, e0, rfl, (by show SeqAt.shaped (.str "value") = true; decide +kernel), (by show PyData.eqv (.str "value") (.str "value") = true; decide +kernel), tb5⟩
        · have h3 : ¬ ((deepT n).length : Int) < 161 := fun q => h (decide_eq_true q)
          have e0 : fpr (ls (deepT n)) = .error (.tl 40) := by
            have : n = 3 ∨ n = 4 := by omega
            rcases this with rfl | rfl
            · exact cod_tl deep_hi.1
            · exact cod_tl deep_hi.2
          exact ⟨(by show 2 ≤ sizeLine; decide), fun pd hpd => ⟨_, _, rfl, e0, ⟨pd, rfl, upd_same⟩, by decide +kernel, by decide +kernel, tabs_same tb5 (same_new hpd)⟩⟩
      rintro σ2 H6 ⟨v, o, rfl, hdeep, htv, hsh, hev, tb6⟩
      refine ask_ref er (z := deepT n) (by omega) hdeep tb6 (fun H1 e1 Q' E' h => ⟨_, rfl, h⟩) (fun x H7 hx e7 tb7 => ?_)
      refine ⟨_, rfl, toldD o, toldD o, told_dp hx, told_dp (told_ext htv e7), hsh, hsh, ?_⟩
      rw [hev]
      refine ⟨(by show 1 ≤ sizeLine; decide), fun pw hpw => ?_⟩
      have tb8 := tabs_same tb7 (same_new (o := .lst [.bl true]) hpw)
      have hp8 : (upd H7 pw (.lst [.bl true])) pw = some (.lst [.bl true]) := upd_same
      generalize upd H7 pw (.lst [.bl true]) = H8 at tb8 hp8
      clear hx htv hdeep hdl tb7 e7 tb6 tb5 tb4 g5 g4 hz4
      obtain ⟨f1, e1⟩ := cod_ok t1_ok
      refine app_step (K := K) er (z := "some x all X some y x < y") (by decide +kernel) e1 tb8 rfl hp8 (by decide) (fun H1 e1 Q' E' h => h) (fun H2 Q2 h => h _ _ (.str _) (Same.refl _)) (by show SeqAt.shaped (.str "value") = true; decide +kernel) (by show PyData.eqv (.str "value") (.str "value") = true; decide +kernel) (fun H9 hp9 tb9 => ?_)
      refine app_step (K := K) er (z := "some x all X some y all z x < y") (by decide +kernel) (cod_tl t2_ok) tb9 rfl hp9 (by decide) (fun H1 e1 Q' E' h => h) (fun H2 Q2 h => ⟨(by show 2 ≤ sizeLine; decide), fun p hp => h _ _ (dp_err (SqT.of upd_same)) (same_new hp)⟩) (by decide +kernel) (by decide +kernel) (fun H10 hp10 tb10 => ?_)
      obtain ⟨f3, e3⟩ := cod_ok t3_ok
      refine app_step (K := K) er (z := repS (Str.ofString " ") 296 ++ Str.ofString "a(x)") (by decide +kernel) e3 tb10 rfl hp10 (by decide) (fun H1 e1 Q' E' h => ⟨_, 296, rfl, rfl, by decide, by decide, _, _, rfl, rfl, fit (by decide +kernel), h⟩) (fun H2 Q2 h => h _ _ (.str _) (Same.refl _)) (by show SeqAt.shaped (.str "value") = true; decide +kernel) (by show PyData.eqv (.str "value") (.str "value") = true; decide +kernel) (fun H11 hp11 tb11 => ?_)
      refine app_step (K := K) er (z := repS (Str.ofString "?") 301) (by decide +kernel) (cod_tl t4_ok) tb11 rfl hp11 (by decide) (fun H1 e1 Q' E' h => ⟨_, 301, rfl, rfl, by decide, by decide, h⟩) (fun H2 Q2 h => ⟨(by show 2 ≤ sizeLine; decide), fun p hp => h _ _ (dp_err (SqT.of upd_same)) (same_new hp)⟩) (by decide +kernel) (by decide +kernel) (fun H12 hp12 tb12 => ?_)
      refine ⟨_, 40, rfl, rfl, by decide, by decide, _, _, rfl, rfl, fit (by decide +kernel), _, _, rfl, rfl, fit (by decide +kernel), ?_⟩
      refine app_step (K := K) er (z := Str.ofString "some x all y some z some X " ++ repS (Str.ofString "not ") 40 ++ Str.ofString "a(x)") (by decide +kernel) (cod_tl t5_ok) tb12 rfl hp12 (by decide) (fun H1 e1 Q' E' h => ⟨_, rfl, h⟩) (fun H2 Q2 h => ⟨(by show 2 ≤ sizeLine; decide), fun p hp => h _ _ (dp_err (SqT.of upd_same)) (same_new hp)⟩) (by decide +kernel) (by decide +kernel) (fun H13 hp13 tb13 => ?_)
      refine app_step (K := K) er (z := repS (Str.ofString "not ") 41 ++ Str.ofString "a(") (by decide +kernel) (cod_it t6_ok) tb13 rfl hp13 (by decide) (fun H1 e1 Q' E' h => ⟨_, 41, rfl, rfl, by decide, by decide, _, _, rfl, rfl, fit (by decide +kernel), h⟩) (fun H2 Q2 h => ⟨(by show 2 ≤ sizeLine; decide), fun p hp => h _ _ (dp_err (SqT.of upd_same)) (same_new hp)⟩) (by decide +kernel) (by decide +kernel) (fun H14 hp14 tb14 => ?_)
      have h7 : H14 pw = some (.lst [.bl true, .bl true, .bl true, .bl true, .bl true, .bl true, .bl true]) := hp14
      refine ⟨_, rfl, (by show 1 ≤ sizeLine; decide), fun pt hpt => ⟨pt, 7, [.bl true], rfl, rfl, upd_same, by decide, by decide, by decide, fun pq hpq => ?_⟩⟩
      have hq7 : (upd (upd H14 pt (.lst [.bl true])) pq (.lst (List.replicate (7 : Int).toNat [.bl true]).flatten)) pq = some (.lst [.bl true, .bl true, .bl true, .bl true, .bl true, .bl true, .bl true]) := upd_same
      have b7 : ∀ {H : Hp} {p : Addr}, H p = some (.lst [.bl true, .bl true, .bl true, .bl true, .bl true, .bl true, .bl true]) → Dp K H (.ref p) (.list [.bool true, .bool true, .bool true, .bool true, .bool true, .bool true, .bool true]) := fun h => .lst (SqL.of h) (.cons (.bl _) (.cons (.bl _) (.cons (.bl _) (.cons (.bl _) (.cons (.bl _) (.cons (.bl _) (.cons (.bl _) .nil)))))))
      refine ⟨_, _, b7 ((same_new hpq) _ _ ((same_new hpt) _ _ h7)), b7 hq7, by decide +kernel, by decide +kernel, ?_⟩
      rw [show PyData.eqv (.list [.bool true, .bool true, .bool true, .bool true, .bool true, .bool true, .bool true]) (.list [.bool true, .bool true, .bool true, .bool true, .bool true, .bool true, .bool true]) = true by decide +kernel]
      refine ⟨true, rfl, (if_pos rfl).mpr ?_⟩
      have i2 : ∀ {H : Hp} {p : Addr}, H p = some (.tup [.int 40, .int 3]) → Dp K H (.ref p) (.tuple [.int 40, .int 3]) := fun h => .tup (SqT.of h) (.cons (.int _) (.cons (.int _) .nil))
      refine ⟨(by show 2 ≤ sizeLine; decide), fun p3 h3 => ⟨(by show 2 ≤ sizeLine; decide), fun p4 h4 => ⟨_, _, i2 ((same_new h4) _ _ upd_same), i2 upd_same, by decide +kernel, by decide +kernel, ?_⟩⟩⟩
      rw [show PyData.eqv (.tuple [.int 40, .int 3]) (.tuple [.int 40, .int 3]) = true by decide +kernel]
      exact q _
end
end SW

set_option Elab.async false
set_option linter.all false
set_option maxRecDepth 100000
set_option maxHeartbeats 4000000
namespace SW
open PySem PySem.Spec PyProof.Rows L2
/-! ### words with names, their texts -/
mutual
def W.Nk : W → Prop
  | .emp => True
  | .ltr c => c ∈ abc
  | .nam c => NmOk c
  | .join ws => 2 ≤ ws.length ∧ ws.length ≤ 3 ∧ W.Nks ws
  | .times w n => 0 ≤ n ∧ n ≤ 1000000000000000000000000000000 ∧ w.Nk
  | .right w => w.Nk
  | .left w => w.Nk
def W.Nks : List W → Prop
  | [] => True
  | w :: r => w.Nk ∧ W.Nks r
end
theorem W.nks_of : ∀ {ws : List W}, (∀ w ∈ ws, w.Nk) → W.Nks ws
  | [], _ => by unfold W.Nks; trivial
  | w :: r, h => by
    unfold W.Nks
    exact ⟨h w (List.mem_cons_self ..), W.nks_of fun x hx => h x (List.mem_cons_of_mem _ hx)⟩
theorem W.nks_mem : ∀ {ws : List W} {w : W}, w ∈ ws → W.Nks ws → w.Nk
  | x :: r, w, h, o => by
    unfold W.Nks at o
    rcases List.mem_cons.mp h with e | h
    · rw [e]; exact o.1
    · exact W.nks_mem h o.2
abbrev numL := TL.numL
mutual
/-- the text of a part of a join or behind a suffix: joins stand in parentheses -/
def W.ptx : W → List Nat
  | .emp => [40, 41]
  | .ltr c => ls c
  | .nam c => 123 :: (ls c ++ [125])
  | .join ws => 40 :: (W.ptxs ws ++ [41])
  | .times w n => w.ptx ++ (94 :: numL n.toNat)
  | .right w => w.ptx ++ [62]
  | .left w => w.ptx ++ [60]
def W.ptxs : List W → List Nat
  | [] => []
  | w :: r => w.ptx ++ W.ptxs r
end
def W.txt : W → List Nat
  | .join ws => W.ptxs ws
  | w => w.ptx
theorem ptxs_map : ∀ ws : List W, W.ptxs ws = (ws.map W.ptx).flatten
  | [] => by rw [W.ptxs]; rfl
  | w :: r => by rw [W.ptxs, ptxs_map r, List.map_cons, List.flatten_cons]
/-! ### numbers -/
theorem numL_head : ∀ n : Nat, (numL n).head? = some 48 → n = 0 := by
  intro n
  induction n using Nat.strongRecOn with
  | _ n ih =>
    intro h
    by_cases hn : n < 10
    · rw [show numL n = [48 + n] from TL.numL_lt hn] at h
      have := Option.some.inj h
      omega
    · rw [show numL n = numL (n / 10) ++ [48 + n % 10] from TL.numL_step (by omega)] at h
      have hne : numL (n / 10) ≠ [] := TL.numL_ne _
      have h' : (numL (n / 10)).head? = some 48 := by
        cases e : numL (n / 10) with
        | nil => exact absurd e hne
        | cons a b => rw [e] at h; exact h
      have := ih (n / 10) (by omega) h'
      omega
/-- no digit stands first -/
def Nd (r : List Nat) : Prop := ∀ x, r.head? = some x → ¬ dig x
theorem nd_nil : Nd [] := fun x h => by cases h
theorem nd_of {c : Nat} {r : List Nat} (h : ¬ dig c) : Nd (c :: r) := fun x e => by
  cases e
  exact h
theorem dw_app : ∀ {w r : List Nat}, NumText.AllDigits w → Nd r → dw (w ++ r) = w
  | [], [], _, _ => rfl
  | [], x :: r, _, h => by
    unfold dw
    rw [List.nil_append, List.takeWhile_cons, if_neg]
    rw [decide_eq_true_iff]
    exact h x rfl
  | c :: w, r, hw, h => by
    unfold dw
    rw [List.cons_append, List.takeWhile_cons, if_pos (decide_eq_true (show dig c from hw c (List.mem_cons_self ..)))]
    have := dw_app (w := w) (fun x hx => hw x (List.mem_cons_of_mem _ hx)) h
    unfold dw at this
    rw [this]
/-! ### steps one behind the other -/
inductive Rs (l : List Nat) : Nat → List (List W) → Nat → List (List W) → Prop where
  | refl {i : Nat} {st : List (List W)} : Rs l i st i st
  | step {i c j k : Nat} {st st' st'' : List (List W)} (h : l[i]? = some c) (s : rdStep l i c st = .ok (j, st')) (t : Rs l j st' k st'') : Rs l i st k st''
theorem Rs.trans {l : List Nat} {i j k : Nat} {a b c : List (List W)} (h : Rs l i a j b) : Rs l j b k c → Rs l i a k c := by
  induction h with
  | refl => exact id
  | step e s t ih => exact fun q => .step e s (ih q)
theorem Rs.one {l : List Nat} {i c j : Nat} {st st' : List (List W)} (h : l[i]? = some c) (s : rdStep l i c st = .ok (j, st')) : Rs l i st j st' := .step h s .refl
theorem Rs.rd {l : List Nat} {i j : Nat} {a b : List (List W)} {o : Except WEr (List (List W))} (h : Rs l i a j b) : Rd l j b o → Rd l i a o := by
  induction h with
  | refl => exact id
  | step e s t ih => exact fun q => .step e s (ih q)
theorem drop_head {l r : List Nat} {i c : Nat} (h : l.drop i = c :: r) : l[i]? = some c ∧ l.drop (i + 1) = r := by
  have h1 : (l.drop i)[0]? = some c := by rw [h]; rfl
  rw [List.getElem?_drop] at h1
  refine ⟨h1, ?_⟩
  rw [← List.drop_drop, h]
  rfl
theorem drop_app {l a r : List Nat} {i : Nat} (h : l.drop i = a ++ r) : l.drop (i + a.length) = r := by
  rw [← List.drop_drop, h, List.drop_left]
theorem ptx_head : ∀ (w : W), w.Nk → ∃ c r, w.ptx = c :: r ∧ ¬ dig c
  | .emp, _ => ⟨40, [41], by rw [W.ptx], by decide⟩
  | .ltr c, h => by
    unfold W.Nk at h
    rw [W.ptx]
    refine mem3 (P := fun c => ∃ x r, ls c = x :: r ∧ ¬ dig x) h ⟨97, [], by decide +kernel, by decide⟩ ⟨98, [], by decide +kernel, by decide⟩ ⟨99, [], by decide +kernel, by decide⟩
  | .nam c, _ => ⟨123, _, by rw [W.ptx], by decide⟩
  | .join ws, _ => ⟨40, _, by rw [W.ptx], by decide⟩
  | .times w n, h => by
    unfold W.Nk at h
    obtain ⟨c, r, e, hc⟩ := ptx_head w h.2.2
    exact ⟨c, _, by rw [W.ptx, e, List.cons_append], hc⟩
  | .right w, h => by
    unfold W.Nk at h
    obtain ⟨c, r, e, hc⟩ := ptx_head w h
    exact ⟨c, _, by rw [W.ptx, e, List.cons_append], hc⟩
  | .left w, h => by
    unfold W.Nk at h
    obtain ⟨c, r, e, hc⟩ := ptx_head w h
    exact ⟨c, _, by rw [W.ptx, e, List.cons_append], hc⟩
theorem ptxs_nd {ws : List W} {r : List Nat} (h : W.Nks ws) (hr : Nd r) : Nd (W.ptxs ws ++ r) := by
  cases ws with
  | nil => rw [W.ptxs]; exact hr
  | cons w ws =>
    unfold W.Nks at h
    obtain ⟨c, r', e, hc⟩ := ptx_head w h.1
    rw [W.ptxs, e, List.cons_append, List.cons_append]
    exact nd_of hc
theorem last_snoc {ps : List W} {x : W} : (ps ++ [x]).getLast? = some x := by simp
theorem abc_code {c : Str} (h : c ∈ abc) : ∃ x, ls c = [x] ∧ (x = 97 ∨ x = 98 ∨ x = 99) :=
  mem3 (P := fun c => ∃ x, ls c = [x] ∧ (x = 97 ∨ x = 98 ∨ x = 99)) h ⟨97, by decide +kernel, .inl rfl⟩ ⟨98, by decide +kernel, .inr (.inl rfl)⟩ ⟨99, by decide +kernel, .inr (.inr rfl)⟩
/-- a suffix of one sign -/
theorem rs_sfx {l r : List Nat} {i c : Nat} {ps : List W} {x : W} {st : List (List W)} (hc : c = 62 ∨ c = 60) (h : l.drop i = c :: r) : Rs l i ((ps ++ [x]) :: st) (i + 1) ((ps ++ [if c = 62 then W.right x else W.left x]) :: st) := by
  refine Rs.one (drop_head h).1 ?_
  unfold rdStep
  dsimp only
  rw [if_neg (by omega), if_neg (by omega), if_pos (by omega), last_snoc]
  dsimp only
  unfold rdSuf
  rw [if_neg (by omega), List.dropLast_concat]
  rfl
theorem rs_num {l r : List Nat} {i n : Nat} {ps : List W} {x : W} {st : List (List W)} (hn : n ≤ 1000000000000000000000000000000) (h : l.drop i = 94 :: (numL n ++ r)) (hr : Nd r) : Rs l i ((ps ++ [x]) :: st) (i + 1 + (numL n).length) ((ps ++ [W.times x (n : Int)]) :: st) := by
  obtain ⟨h1, h2⟩ := drop_head h
  have hd : dw (l.drop (i + 1)) = numL n := by
    rw [h2]
    exact dw_app (TL.numL_digits n) hr
  have hv : NumText.digitsVal (numL n) = n := TL.numL_val n
  have he : numEnd l (i + 1) = .ok (i + 1 + (numL n).length) := by
    unfold numEnd
    rw [hd, if_neg]
    rintro (h | h | h)
    · exact TL.numL_ne n h
    · have := numL_head n h.1
      rw [this] at h
      exact h.2 (by decide +kernel)
    · rw [hv] at h
      have h' : 1000000000000000000000000000000 < n := h
      omega
  have hcut : cutL l (i + 1) (i + 1 + (numL n).length) = numL n := by
    unfold cutL
    rw [show i + 1 + (numL n).length - (i + 1) = (numL n).length by omega, h2, List.take_left]
  refine Rs.one h1 ?_
  unfold rdStep
  dsimp only
  rw [if_neg (by decide), if_neg (by simp), if_pos (.inl rfl), last_snoc]
  dsimp only
  unfold rdSuf
  rw [if_pos rfl, he]
  dsimp only
  rw [hcut, hv, List.dropLast_concat]
  rfl
theorem rs_name {l r : List Nat} {i : Nat} {c : Str} {ps : List W} {st : List (List W)} (hc : NmOk c) (h : l.drop i = 123 :: (ls c ++ 125 :: r)) : Rs l i (ps :: st) (i + (ls c).length + 2) ((ps ++ [W.nam c]) :: st) := by
  obtain ⟨h1, h2⟩ := drop_head h
  obtain ⟨c1, c2, c3⟩ := hc
  have hlen : (ls c).length = c.cps.size := by simp [ls]
  have htw : tw (l.drop (i + 1)) = ls c := by
    rw [h2]
    exact tw_app (fun x hx => c3 x hx) (cl_of (by decide))
  have hn : nmLen l (i + 1) = (ls c).length := by
    unfold nmLen
    rw [htw]
    omega
  have h3 := (drop_head (drop_app h2)).1
  have he : nmEnd l (i + 1) = .ok (i + 1 + (ls c).length) := by
    unfold nmEnd
    rw [hn, if_neg]
    rintro (h | h)
    · omega
    · exact h h3
  have hcut : cutL l (i + 1) (i + 1 + (ls c).length) = ls c := by
    unfold cutL
    rw [show i + 1 + (ls c).length - (i + 1) = (ls c).length by omega, h2, List.take_left]
  refine Rs.one h1 ?_
  unfold rdStep
  dsimp only
  rw [if_neg (by decide), if_neg (by simp), if_neg (by decide)]
  unfold rdPart
  rw [if_neg (by decide), if_pos rfl, he]
  dsimp only
  rw [hcut, tx_ls]
  show Except.ok (i + 1 + (ls c).length + 1, _) = _
  rw [show i + 1 + (ls c).length + 1 = i + (ls c).length + 2 by omega]
theorem rs_ltr {l r : List Nat} {i : Nat} {c : Str} {ps : List W} {st : List (List W)} (hc : c ∈ abc) (h : l.drop i = ls c ++ r) : Rs l i (ps :: st) (i + 1) ((ps ++ [W.ltr c]) :: st) := by
  obtain ⟨x, e, hx⟩ := abc_code hc
  rw [e] at h
  refine Rs.one (drop_head h).1 ?_
  unfold rdStep
  dsimp only
  rw [if_neg (by omega), if_neg (by omega), if_neg (by omega)]
  unfold rdPart
  rw [if_pos hx, ← e, tx_ls]
  rfl
theorem rs_open {l r : List Nat} {i : Nat} {ps : List W} {st : List (List W)} (hs : st.length + 1 ≤ 8) (h : l.drop i = 40 :: r) : Rs l i (ps :: st) (i + 1) ([] :: ps :: st) := by
  refine Rs.one (drop_head h).1 ?_
  unfold rdStep
  dsimp only
  rw [if_pos rfl, if_neg (by rw [List.length_cons]; omega)]
theorem rs_close {l r : List Nat} {i : Nat} {ps qs : List W} {st : List (List W)} (h : l.drop i = 41 :: r) : Rs l i (ps :: qs :: st) (i + 1) ((qs ++ [grp ps]) :: st) := by
  refine Rs.one (drop_head h).1 ?_
  unfold rdStep
  dsimp only
  rw [if_neg (by decide), if_pos ⟨rfl, by simp⟩]
theorem grp_join {ws : List W} (h : 2 ≤ ws.length) : grp ws = .join ws := by
  match ws, h with
  | x :: y :: r, _ => rfl
mutual
/-- how many parentheses are open within one another in its text -/
def W.opn : W → Nat
  | .emp => 1
  | .ltr _ => 0
  | .nam _ => 0
  | .join ws => W.opns ws + 1
  | .times w _ => w.opn
  | .right w => w.opn
  | .left w => w.opn
def W.opns : List W → Nat
  | [] => 0
  | w :: r => max w.opn (W.opns r)
end
mutual
theorem opn_dep : ∀ w : W, w.opn ≤ w.dep
  | .emp => by rw [W.opn, W.dep]; omega
  | .ltr _ => by rw [W.opn]; omega
  | .nam _ => by rw [W.opn]; omega
  | .join ws => by
    have := opns_deps ws
    rw [W.opn, W.dep]
    omega
  | .times w _ => by
    have := opn_dep w
    rw [W.opn, W.dep]
    omega
  | .right w => by
    have := opn_dep w
    rw [W.opn, W.dep]
    omega
  | .left w => by
    have := opn_dep w
    rw [W.opn, W.dep]
    omega
theorem opns_deps : ∀ ws : List W, W.opns ws ≤ W.deps ws
  | [] => by rw [W.opns]; omega
  | w :: r => by
    have := opn_dep w
    have := opns_deps r
    rw [W.opns, W.deps]
    omega
end
mutual
theorem rs_part : ∀ (w : W), w.Nk → ∀ {l r : List Nat} {i : Nat} {ps : List W} {st : List (List W)}, l.drop i = w.ptx ++ r → Nd r → w.opn + st.length ≤ 8 → Rs l i (ps :: st) (i + w.ptx.length) ((ps ++ [w]) :: st)
  | .emp, o, l, r, i, ps, st, h, hr, hd => by
    rw [W.ptx] at h ⊢
    rw [W.opn] at hd
    exact (rs_open (by omega) h).trans (rs_close (drop_head h).2)
  | .ltr c, o, l, r, i, ps, st, h, hr, hd => by
    unfold W.Nk at o
    rw [W.ptx] at h ⊢
    obtain ⟨x, e, hx⟩ := abc_code o
    have := rs_ltr (ps := ps) (st := st) o h
    rw [e]
    exact this
  | .nam c, o, l, r, i, ps, st, h, hr, hd => by
    unfold W.Nk at o
    rw [W.ptx] at h ⊢
    have := rs_name (ps := ps) (st := st) (r := r) o (by rw [h]; simp)
    rw [List.length_cons, List.length_append, List.length_singleton, show i + ((ls c).length + 1 + 1) = i + (ls c).length + 2 by omega]
    exact this
  | .join ws, o, l, r, i, ps, st, h, hr, hd => by
    unfold W.Nk at o
    rw [W.opn] at hd
    rw [W.ptx] at h ⊢
    have h1 : l.drop i = 40 :: (W.ptxs ws ++ (41 :: r)) := by rw [h]; simp
    have h2 := (drop_head h1).2
    have h3 := rs_parts ws o.2.2 (l := l) (r := 41 :: r) (i := i + 1) (ps := []) (st := ps :: st) h2 (nd_of (by decide)) (by rw [List.length_cons]; omega)
    have h4 := drop_app h2
    have h5 := rs_close (ps := [] ++ ws) (qs := ps) (st := st) h4
    rw [List.nil_append] at h3 h5
    rw [grp_join o.1] at h5
    have h6 := (rs_open (ps := ps) (st := st) (by omega) h1).trans (h3.trans h5)
    rw [List.length_cons, List.length_append, List.length_singleton, show i + ((W.ptxs ws).length + 1 + 1) = i + 1 + (W.ptxs ws).length + 1 by omega]
    exact h6
  | .times w n, o, l, r, i, ps, st, h, hr, hd => by
    unfold W.Nk at o
    rw [W.opn] at hd
    rw [W.ptx] at h ⊢
    have h1 : l.drop i = w.ptx ++ (94 :: (numL n.toNat ++ r)) := by rw [h]; simp
    have h2 := rs_part w o.2.2 (ps := ps) (st := st) h1 (nd_of (by decide)) (by omega)
    have h3 := drop_app h1
    have h4 := rs_num (ps := ps) (x := w) (st := st) (n := n.toNat) (by omega) h3 hr
    rw [Int.toNat_of_nonneg o.1] at h4
    rw [List.length_append, List.length_cons, show i + (w.ptx.length + ((numL n.toNat).length + 1)) = i + w.ptx.length + 1 + (numL n.toNat).length by omega]
    exact h2.trans h4
  | .right w, o, l, r, i, ps, st, h, hr, hd => by
    unfold W.Nk at o
    rw [W.opn] at hd
    rw [W.ptx] at h ⊢
    have h1 : l.drop i = w.ptx ++ (62 :: r) := by rw [h]; simp
    have h2 := rs_part w o (ps := ps) (st := st) h1 (nd_of (by decide)) (by omega)
    have h4 := rs_sfx (ps := ps) (x := w) (st := st) (.inl rfl) (drop_app h1)
    rw [if_pos rfl] at h4
    rw [List.length_append, List.length_singleton, ← Nat.add_assoc]
    exact h2.trans h4
  | .left w, o, l, r, i, ps, st, h, hr, hd => by
    unfold W.Nk at o
    rw [W.opn] at hd
    rw [W.ptx] at h ⊢
    have h1 : l.drop i = w.ptx ++ (60 :: r) := by rw [h]; simp
    have h2 := rs_part w o (ps := ps) (st := st) h1 (nd_of (by decide)) (by omega)
    have h4 := rs_sfx (ps := ps) (x := w) (st := st) (.inr rfl) (drop_app h1)
    rw [if_neg (by decide)] at h4
    rw [List.length_append, List.length_singleton, ← Nat.add_assoc]
    exact h2.trans h4
theorem rs_parts : ∀ (ws : List W), W.Nks ws → ∀ {l r : List Nat} {i : Nat} {ps : List W} {st : List (List W)}, l.drop i = W.ptxs ws ++ r → Nd r → W.opns ws + st.length ≤ 8 → Rs l i (ps :: st) (i + (W.ptxs ws).length) ((ps ++ ws) :: st)
  | [], o, l, r, i, ps, st, h, hr, hd => by
    rw [W.ptxs, List.append_nil]
    exact .refl
  | w :: ws, o, l, r, i, ps, st, h, hr, hd => by
    unfold W.Nks at o
    rw [W.opns] at hd
    rw [W.ptxs] at h ⊢
    rw [List.append_assoc] at h
    have h1 := rs_part w o.1 (ps := ps) (st := st) h (ptxs_nd o.2 hr) (by omega)
    have h2 := rs_parts ws o.2 (ps := ps ++ [w]) (st := st) (drop_app h) hr (by omega)
    rw [List.length_append, ← Nat.add_assoc, show ps ++ w :: ws = ps ++ [w] ++ ws by simp]
    exact h1.trans h2
end
/-- its text as that of a part -/
theorem rs_ptx {w : W} (o : w.Nk) (hd : w.opn ≤ 8) : Rs w.ptx 0 [[]] w.ptx.length [[w]] := by
  have := rs_part w o (l := w.ptx) (r := []) (i := 0) (ps := []) (st := []) (by simp) nd_nil (by simpa using hd)
  rw [Nat.zero_add] at this
  exact this
/-- the whole behind the steps -/
theorem rdW_rs {l : List Nat} {ps : List W} (h : Rs l 0 [[]] l.length [ps]) (hl : l.length ≤ 200) (hd : (grp ps).dep ≤ 12) : RdW l (.ok (grp ps)) := RdW.ok hl (h.rd (.done (Nat.le_refl _))) hd
theorem rdW_rs12 {l : List Nat} {ps : List W} (h : Rs l 0 [[]] l.length [ps]) (hl : l.length ≤ 200) (hd : 12 < (grp ps).dep) : RdW l (.error (.tl 12)) := RdW.deep hl (h.rd (.done (Nat.le_refl _))) hd
/-- the text of a word is read as this word -/
theorem rdW_txt {w : W} (o : w.Nk) (hd : w.dep ≤ 8) (hl : w.txt.length ≤ 200) : RdW w.txt (.ok w) := by
  have hp := opn_dep w
  have key : ∃ ps, Rs w.txt 0 [[]] w.txt.length [ps] ∧ grp ps = w := by
    cases w with
    | join ws =>
      unfold W.Nk at o
      rw [W.opn] at hp
      have := rs_parts ws o.2.2 (l := W.ptxs ws) (r := []) (i := 0) (ps := []) (st := []) (by simp) nd_nil (by simp; omega)
      rw [Nat.zero_add] at this
      exact ⟨ws, this, grp_join o.1⟩
    | emp => exact ⟨_, rs_ptx o (by omega), rfl⟩
    | ltr c => exact ⟨_, rs_ptx o (by omega), rfl⟩
    | nam c => exact ⟨_, rs_ptx o (by omega), rfl⟩
    | times t n => exact ⟨_, rs_ptx o (by omega), rfl⟩
    | right t => exact ⟨_, rs_ptx o (by omega), rfl⟩
    | left t => exact ⟨_, rs_ptx o (by omega), rfl⟩
  obtain ⟨ps, h, e⟩ := key
  have := rdW_rs h hl (by rw [e]; omega)
  rw [e] at this
  exact this
end SW

set_option Elab.async false
set_option linter.all false
set_option maxRecDepth 100000
set_option maxHeartbeats 4000000
namespace SW
open PySem PySem.Spec PyProof.Rows L2
/-! ### texts of words, one of the other -/
theorem ls_num {n : Int} (h : 0 ≤ n) : ls (Str.ofString (toString n)) = numL n.toNat := by
  have := TL.tl_num n.toNat
  rw [Int.toNat_of_nonneg h] at this
  exact this
theorem join_foldS : ∀ (ys : List Str) (acc : Array Nat), (ys.foldl (fun (a : Array Nat) (p : Str) => a ++ (⟨#[]⟩ : Str).cps ++ p.cps) acc).toList = acc.toList ++ (ys.map ls).flatten
  | [], acc => by simp
  | y :: r, acc => by
    rw [List.foldl_cons, join_foldS r]
    simp [ls]
theorem ls_join (ys : List Str) : ls (Txt.join ⟨#[]⟩ ys) = (ys.map ls).flatten := by
  cases ys with
  | nil => rfl
  | cons y r =>
    have ej : Txt.join ⟨#[]⟩ (y :: r) = ⟨r.foldl (fun (a : Array Nat) (p : Str) => a ++ (⟨#[]⟩ : Str).cps ++ p.cps) y.cps⟩ := rfl
    rw [ej]
    show (r.foldl (fun (a : Array Nat) (p : Str) => a ++ (⟨#[]⟩ : Str).cps ++ p.cps) y.cps).toList = _
    rw [join_foldS, List.map_cons, List.flatten_cons]
theorem s_nil : (Str.ofString "" : Str) = ⟨#[]⟩ := ls_inj (by decide +kernel)
theorem ls_hat : ls "^" = [94] := by decide +kernel
theorem ls_gt : ls ">" = [62] := by decide +kernel
theorem ls_ep : ls "()" = [40, 41] := by decide +kernel
theorem p_nam {c : Str} : (Str.ofString "{" : Str) ++ c ++ Str.ofString "}" = tx (W.ptx (.nam c)) := ls_inj (by
  rw [ls_app, ls_app, ls_tx, W.ptx, show ls (Str.ofString "{") = [123] from ls_lb, show ls (Str.ofString "}") = [125] from ls_rb]
  simp)
theorem p_emp : (Str.ofString "()" : Str) = tx (W.ptx .emp) := ls_inj (by rw [ls_tx, W.ptx]; exact ls_ep)
theorem p_ltr {c : Str} : c = tx (W.ptx (.ltr c)) := ls_inj (by rw [ls_tx, W.ptx])
theorem p_par {ws : List W} : (Str.ofString "(" : Str) ++ tx (W.txt (.join ws)) ++ Str.ofString ")" = tx (W.ptx (.join ws)) := ls_inj (by
  rw [ls_app, ls_app, ls_tx, ls_tx, W.ptx, show ls (Str.ofString "(") = [40] from ls_lp, show ls (Str.ofString ")") = [41] from ls_rp, W.txt]
  simp)
theorem p_times {w : W} {n : Int} (h : 0 ≤ n) : tx w.ptx ++ Str.ofString "^" ++ Str.ofString (toString n) = tx (W.ptx (.times w n)) := ls_inj (by
  rw [ls_app, ls_app, ls_tx, ls_tx, W.ptx, ls_num h, show ls (Str.ofString "^") = [94] from ls_hat]
  simp)
theorem p_right {w : W} : tx w.ptx ++ Str.ofString ">" = tx (W.ptx (.right w)) := ls_inj (by
  rw [ls_app, ls_tx, ls_tx, W.ptx, show ls (Str.ofString ">") = [62] from ls_gt])
theorem p_left {w : W} : tx w.ptx ++ Str.ofString "<" = tx (W.ptx (.left w)) := ls_inj (by
  rw [ls_app, ls_tx, ls_tx, W.ptx, show ls (Str.ofString "<") = [60] from ls_lt])
theorem p_join {ws : List W} : Txt.join ⟨#[]⟩ (ws.map fun w => tx w.ptx) = tx (W.txt (.join ws)) := ls_inj (by
  rw [ls_join, ls_tx, W.txt, ptxs_map, List.map_map]
  congr 1)
theorem app_nil (a : Str) : a ++ (⟨#[]⟩ : Str) = a := ls_inj (by rw [ls_app]; exact List.append_nil _)
/-! ### lengths -/
theorem numL_31 {n : Int} (h0 : 0 ≤ n) (h : n ≤ 1000000000000000000000000000000) : (numL n.toNat).length ≤ 31 := TL.numL_len (by decide) (by omega)
mutual
theorem ptx_len : ∀ (w : W), w.Nk → w.ptx.length ≤ 40 * w.nod
  | .emp, _ => by rw [W.ptx, W.nod]; decide
  | .ltr c, h => by
    unfold W.Nk at h
    have := len_abc1 h
    rw [len_ls] at this
    rw [W.ptx, W.nod]
    omega
  | .nam c, h => by
    unfold W.Nk at h
    have : c.length ≤ 8 := h.2.1
    rw [len_ls] at this
    rw [W.ptx, W.nod, List.length_cons, List.length_append, List.length_singleton]
    omega
  | .join ws, h => by
    unfold W.Nk at h
    have := ptxs_len ws h.2.2
    rw [W.ptx, W.nod, List.length_cons, List.length_append, List.length_singleton]
    omega
  | .times w n, h => by
    unfold W.Nk at h
    have := ptx_len w h.2.2
    have := numL_31 h.1 h.2.1
    rw [W.ptx, W.nod, List.length_append, List.length_cons]
    omega
  | .right w, h => by
    unfold W.Nk at h
    have := ptx_len w h
    rw [W.ptx, W.nod, List.length_append, List.length_singleton]
    omega
  | .left w, h => by
    unfold W.Nk at h
    have := ptx_len w h
    rw [W.ptx, W.nod, List.length_append, List.length_singleton]
    omega
theorem ptxs_len : ∀ (ws : List W), W.Nks ws → (W.ptxs ws).length ≤ 40 * W.nods ws
  | [], _ => by rw [W.ptxs]; simp
  | w :: r, h => by
    unfold W.Nks at h
    have := ptx_len w h.1
    have := ptxs_len r h.2
    rw [W.ptxs, W.nods, List.length_append]
    omega
end
mutual
theorem nodK_bd : ∀ w : W, w.Nk → w.nod ≤ 4 ^ w.dep
  | .emp, _ => by rw [W.nod, W.dep]; decide
  | .ltr c, _ => by rw [W.nod, W.dep]; decide
  | .nam c, h => by rw [W.nod, W.dep]; decide
  | .join ws, h => by
    unfold W.Nk at h
    have a := nodKs_bd ws h.2.2
    rw [W.nod, W.dep, Nat.pow_succ]
    have b : ws.length * 4 ^ W.deps ws ≤ 3 * 4 ^ W.deps ws := Nat.mul_le_mul_right _ h.2.1
    have c : 0 < 4 ^ W.deps ws := Nat.pow_pos (by decide)
    omega
  | .times w n, h => by
    unfold W.Nk at h
    have a := nodK_bd w h.2.2
    rw [W.nod, W.dep, Nat.pow_succ]
    have c : 0 < 4 ^ w.dep := Nat.pow_pos (by decide)
    omega
  | .right w, h => by
    unfold W.Nk at h
    have a := nodK_bd w h
    rw [W.nod, W.dep, Nat.pow_succ]
    have c : 0 < 4 ^ w.dep := Nat.pow_pos (by decide)
    omega
  | .left w, h => by
    unfold W.Nk at h
    have a := nodK_bd w h
    rw [W.nod, W.dep, Nat.pow_succ]
    have c : 0 < 4 ^ w.dep := Nat.pow_pos (by decide)
    omega
theorem nodKs_bd : ∀ ws : List W, W.Nks ws → W.nods ws ≤ ws.length * 4 ^ W.deps ws
  | [], _ => by rw [W.nods]; exact Nat.zero_le _
  | w :: r, h => by
    unfold W.Nks at h
    have a := nodK_bd w h.1
    have b := nodKs_bd r h.2
    rw [W.nods, W.deps, List.length_cons, Nat.add_mul, Nat.one_mul]
    have p1 : 4 ^ w.dep ≤ 4 ^ max w.dep (W.deps r) := Nat.pow_le_pow_right (by decide) (Nat.le_max_left _ _)
    have p2 : 4 ^ W.deps r ≤ 4 ^ max w.dep (W.deps r) := Nat.pow_le_pow_right (by decide) (Nat.le_max_right _ _)
    have p3 : r.length * 4 ^ W.deps r ≤ r.length * 4 ^ max w.dep (W.deps r) := Nat.mul_le_mul_left _ p2
    omega
end
theorem txt_le {w : W} : w.txt.length ≤ w.ptx.length := by
  cases w with
  | join ws =>
    rw [W.ptx, W.txt, List.length_cons, List.length_append, List.length_singleton]
    omega
  | _ => exact Nat.le_refl _
theorem ptx_41k {w : W} (o : w.Nk) (h : w.dep ≤ 5) : w.ptx.length ≤ 40960 := by
  have h1 := ptx_len w o
  have h2 := nodK_bd w o
  have h3 : 4 ^ w.dep ≤ 4 ^ 5 := Nat.pow_le_pow_right (by decide) h
  have e : 4 ^ 5 = 1024 := by decide
  omega
theorem nod_1024 {w : W} (o : w.Nk) (h : w.dep ≤ 5) : w.nod ≤ 1024 := by
  have h2 := nodK_bd w o
  have h3 : 4 ^ w.dep ≤ 4 ^ 5 := Nat.pow_le_pow_right (by decide) h
  have e : 4 ^ 5 = 1024 := by decide
  omega
theorem nod_64 {w : W} (o : w.Nk) (h : w.dep ≤ 3) : w.nod ≤ 64 := by
  have h2 := nodK_bd w o
  have h3 : 4 ^ w.dep ≤ 4 ^ 3 := Nat.pow_le_pow_right (by decide) h
  have e : 4 ^ 3 = 64 := by decide
  omega
theorem txt_41k {w : W} (o : w.Nk) (h : w.dep ≤ 5) : w.txt.length ≤ 40960 := Nat.le_trans txt_le (ptx_41k o h)
end SW

set_option Elab.async false
set_option linter.all false
set_option maxRecDepth 100000
set_option maxHeartbeats 4000000
namespace SW
open PySem PySem.Spec PyProof.Rows L2
/-! ### the names in a word -/
mutual
def W.nms : W → List Str
  | .emp => []
  | .ltr _ => []
  | .nam c => [c]
  | .join ws => W.nmss ws
  | .times w _ => w.nms
  | .right w => w.nms
  | .left w => w.nms
def W.nmss : List W → List Str
  | [] => []
  | w :: r => w.nms ++ W.nmss r
end
def nmOf : W → Option Str
  | .nam c => some c
  | _ => none
theorem nmss_mem {x : Str} : ∀ {ws : List W}, x ∈ W.nmss ws ↔ ∃ w ∈ ws, x ∈ w.nms
  | [] => by rw [W.nmss]; simp
  | w :: r => by
    rw [W.nmss, List.mem_append, nmss_mem (ws := r)]
    simp
theorem nms_parts {x : Str} : ∀ {w : W}, x ∈ w.nms ↔ nmOf w = some x ∨ x ∈ W.nmss w.parts
  | .emp => by
    show x ∈ W.nms .emp ↔ none = some x ∨ x ∈ W.nmss []
    rw [W.nms, W.nmss]
    simp
  | .ltr c => by
    show x ∈ W.nms (.ltr c) ↔ none = some x ∨ x ∈ W.nmss []
    rw [W.nms, W.nmss]
    simp
  | .nam c => by
    show x ∈ W.nms (.nam c) ↔ some c = some x ∨ x ∈ W.nmss []
    rw [W.nms, W.nmss]
    simp [eq_comm]
  | .join ws => by
    show x ∈ W.nms (.join ws) ↔ none = some x ∨ x ∈ W.nmss ws
    rw [W.nms]
    simp
  | .times w n => by
    show x ∈ W.nms (.times w n) ↔ none = some x ∨ x ∈ W.nmss [w]
    rw [W.nms, W.nmss, W.nmss]
    simp
  | .right w => by
    show x ∈ W.nms (.right w) ↔ none = some x ∨ x ∈ W.nmss [w]
    rw [W.nms, W.nmss, W.nmss]
    simp
  | .left w => by
    show x ∈ W.nms (.left w) ↔ none = some x ∨ x ∈ W.nmss [w]
    rw [W.nms, W.nmss, W.nmss]
    simp
theorem nmss_nxt {x : Str} {ws : List W} : x ∈ W.nmss ws ↔ x ∈ ws.filterMap nmOf ∨ x ∈ W.nmss (nxt ws) := by
  rw [nmss_mem, nmss_mem, List.mem_filterMap]
  constructor
  · rintro ⟨w, hw, hx⟩
    rcases nms_parts.mp hx with h | h
    · exact .inl ⟨w, hw, h⟩
    · obtain ⟨u, hu, hx⟩ := nmss_mem.mp h
      exact .inr ⟨u, List.mem_flatMap.mpr ⟨w, hw, hu⟩, hx⟩
  · rintro (⟨w, hw, h⟩ | ⟨u, hu, hx⟩)
    · exact ⟨w, hw, nms_parts.mpr (.inl h)⟩
    · obtain ⟨w, hw, hu⟩ := List.mem_flatMap.mp hu
      exact ⟨w, hw, nms_parts.mpr (.inr (nmss_mem.mpr ⟨u, hu, hx⟩))⟩
/-- a word as it is drawn, the names in D -/
def W.Nin (D : List Str) (w : W) : Prop := w.Nk ∧ ∀ x ∈ w.nms, x ∈ D
theorem nin_emp {D : List Str} : W.Nin D .emp := ⟨by unfold W.Nk; trivial, fun x h => by rw [W.nms] at h; exact absurd h (List.not_mem_nil)⟩
theorem nin_ltr {D : List Str} {c : Str} (h : c ∈ abc) : W.Nin D (.ltr c) := ⟨by unfold W.Nk; exact h, fun x h => by rw [W.nms] at h; exact absurd h (List.not_mem_nil)⟩
theorem nin_nam {D : List Str} {c : Str} (h : NmOk c) (m : c ∈ D) : W.Nin D (.nam c) := ⟨by unfold W.Nk; exact h, fun x q => by rw [W.nms] at q; rw [List.mem_singleton.mp q]; exact m⟩
theorem nin_join {D : List Str} {ws : List W} (h2 : 2 ≤ ws.length) (h3 : ws.length ≤ 3) (h : ∀ w ∈ ws, w.Nin D) : W.Nin D (.join ws) := ⟨by unfold W.Nk; exact ⟨h2, h3, W.nks_of fun w hw => (h w hw).1⟩, fun x q => by
  rw [W.nms, nmss_mem] at q
  obtain ⟨w, hw, hx⟩ := q
  exact (h w hw).2 x hx⟩
theorem nin_times {D : List Str} {w : W} {n : Int} (h0 : 0 ≤ n) (h1 : n ≤ 1000000000000000000000000000000) (h : w.Nin D) : W.Nin D (.times w n) := ⟨by unfold W.Nk; exact ⟨h0, h1, h.1⟩, fun x q => by rw [W.nms] at q; exact h.2 x q⟩
theorem nin_right {D : List Str} {w : W} (h : w.Nin D) : W.Nin D (.right w) := ⟨by unfold W.Nk; exact h.1, fun x q => by rw [W.nms] at q; exact h.2 x q⟩
theorem nin_left {D : List Str} {w : W} (h : w.Nin D) : W.Nin D (.left w) := ⟨by unfold W.Nk; exact h.1, fun x q => by rw [W.nms] at q; exact h.2 x q⟩
theorem W.Nin.mono {D D' : List Str} {w : W} (h : w.Nin D) (s : ∀ x ∈ D, x ∈ D') : w.Nin D' := ⟨h.1, fun x q => s x (h.2 x q)⟩
mutual
/-- without names -/
theorem nk_ok : ∀ {w : W}, w.Nk → (∀ x, x ∉ w.nms) → w.Ok abcABC
  | .emp, _, _ => by unfold W.Ok; trivial
  | .ltr c, h, _ => by
    unfold W.Nk at h
    unfold W.Ok
    exact abc_sub c h
  | .nam c, _, n => by
    rw [W.nms] at n
    exact absurd (List.mem_singleton.mpr rfl) (n c)
  | .join ws, h, n => by
    unfold W.Nk at h
    rw [W.nms] at n
    unfold W.Ok
    exact ⟨h.2.1, nks_ok h.2.2 n⟩
  | .times w k, h, n => by
    unfold W.Nk at h
    rw [W.nms] at n
    unfold W.Ok
    exact ⟨h.1, h.2.1, nk_ok h.2.2 n⟩
  | .right w, h, n => by
    unfold W.Nk at h
    rw [W.nms] at n
    unfold W.Ok
    exact nk_ok h n
  | .left w, h, n => by
    unfold W.Nk at h
    rw [W.nms] at n
    unfold W.Ok
    exact nk_ok h n
theorem nks_ok : ∀ {ws : List W}, W.Nks ws → (∀ x, x ∉ W.nmss ws) → W.Oks abcABC ws
  | [], _, _ => by unfold W.Oks; trivial
  | w :: r, h, n => by
    unfold W.Nks at h
    rw [W.nmss] at n
    unfold W.Oks
    exact ⟨nk_ok h.1 fun x q => n x (List.mem_append_left _ q), nks_ok h.2 fun x q => n x (List.mem_append_right _ q)⟩
end
end SW

set_option Elab.async false
set_option linter.all false
set_option maxRecDepth 100000
set_option maxHeartbeats 4000000
namespace SW
open PySem PySem.Spec PyProof.Rows L2
/-- what the head says of an error with one field -/
def ErF (K : PySem.W.Frag) (mg : Str → Option Value) (stC : Stmt) (x qual fld : Str) : Prop := ∃ C f, (∃ fd, Fun K "__init__" qual stC f fd ∧ Binds K fd ["self", fld] []) ∧
  PySem.W.findIn K (.ref C) "__init__" = some (some (.ref f)) ∧ PySem.W.typeIn K (.ref f) = some (.type "function") ∧ Er K C x fld ∧ mg x = some (.ref C)
/-- the same, of one that the law catches by a base class at B -/
def ErX (K : PySem.W.Frag) (mg : Str → Option Value) (B : Addr) (stC : Stmt) (x qual fld : Str) : Prop := ∃ C f, (∃ fd, Fun K "__init__" qual stC f fd ∧ Binds K fd ["self", fld] []) ∧
  PySem.W.findIn K (.ref C) "__init__" = some (some (.ref f)) ∧ PySem.W.typeIn K (.ref f) = some (.type "function") ∧ Er K C x fld ∧ mg x = some (.ref C) ∧ ErrC K C ∧ PySem.W.exmOne K (.ref C) (.ref B) = some true
theorem strOk_nm {c : Str} (h : NmOk c) : PyData.strOk c = true := by
  unfold PyData.strOk
  rw [Array.all_eq_true]
  intro i hi
  have := h.2.2 c.cps[i] (by simp)
  exact decide_eq_true (by omega)
theorem canLay_strs : ∀ ys : List Str, (∀ y ∈ ys, PyData.strOk y = true) → PyData.canLayAll0 (ys.map PyData.str) = true
  | [], _ => by simp [PyData.canLayAll0]
  | y :: r, h => by simp [PyData.canLayAll0, PyData.canLay0, canLay_strs r fun z hz => h z (List.mem_cons_of_mem _ hz), h y (List.mem_cons_self ..)]
theorem depth_strs : ∀ ys : List Str, PyData.depthAll (ys.map PyData.str) ≤ 1
  | [] => by simp [PyData.depthAll]
  | y :: r => by
    have := depth_strs r
    simp only [List.map_cons, PyData.depthAll, PyData.depth]
    omega
theorem shaped_strs {ys : List Str} (h : ∀ y ∈ ys, PyData.strOk y = true) : SeqAt.shaped (.list (ys.map PyData.str)) = true := by
  have h1 := depth_strs ys
  have h2 : PyData.depth (.list (ys.map PyData.str)) ≤ 64 := by simp only [PyData.depth]; omega
  show (PyData.canLay0 (.list (ys.map PyData.str)) && decide (PyData.depth (.list (ys.map PyData.str)) ≤ 64)) = true
  rw [Bool.and_eq_true]
  exact ⟨by simp only [PyData.canLay0]; exact canLay_strs ys h, decide_eq_true h2⟩
theorem eqv_nil {ys : List Str} (h : PyData.eqv (.list (ys.map PyData.str)) (.list []) = true) : ys = [] := by
  cases ys with
  | nil => rfl
  | cons y r => rw [List.map_cons, PyData.eqv, PyData.eqvAll] at h; cases h
mutual
theorem nk_sm : ∀ w : W, w.Nk → Sm (2 * w.dep) w.dat
  | .emp, h => by
    unfold W.dat W.dep
    show Sm 2 _
    unfold Sm
    refine ⟨by decide, fun d q => ?_⟩
    rw [List.mem_singleton.mp q]
    exact sm_str _
  | .ltr c, h => by
    unfold W.dat W.dep
    show Sm 2 _
    unfold Sm
    refine ⟨by show 2 ≤ 1000; decide, fun d q => ?_⟩
    simp only [List.mem_cons, List.not_mem_nil, or_false] at q
    rcases q with rfl | rfl <;> exact sm_str _
  | .nam c, h => by
    unfold W.dat W.dep
    show Sm 2 _
    unfold Sm
    refine ⟨by show 2 ≤ 1000; decide, fun d q => ?_⟩
    simp only [List.mem_cons, List.not_mem_nil, or_false] at q
    rcases q with rfl | rfl <;> exact sm_str _
  | .join ws, h => by
    unfold W.Nk at h
    unfold W.dat W.dep
    show Sm (2 * W.deps ws + 1 + 1) _
    unfold Sm
    refine ⟨by show 2 ≤ 1000; decide, fun d q => ?_⟩
    simp only [List.mem_cons, List.not_mem_nil, or_false] at q
    rcases q with rfl | rfl
    · exact sm_str _
    · unfold Sm
      refine ⟨?_, fun d q => ?_⟩
      · rw [W.dats_map, List.length_map]
        omega
      · exact nks_sm ws h.2.2 d q
  | .times w n, h => by
    unfold W.Nk at h
    unfold W.dat W.dep
    show Sm (2 * w.dep + 1 + 1) _
    unfold Sm
    refine ⟨by show 3 ≤ 1000; decide, fun d q => ?_⟩
    simp only [List.mem_cons, List.not_mem_nil, or_false] at q
    rcases q with rfl | rfl | rfl
    · exact sm_str _
    · exact (nk_sm w h.2.2).mono (by omega)
    · unfold Sm
      trivial
  | .right w, h => by
    unfold W.Nk at h
    unfold W.dat W.dep
    show Sm (2 * w.dep + 1 + 1) _
    unfold Sm
    refine ⟨by show 2 ≤ 1000; decide, fun d q => ?_⟩
    simp only [List.mem_cons, List.not_mem_nil, or_false] at q
    rcases q with rfl | rfl
    · exact sm_str _
    · exact (nk_sm w h).mono (by omega)
  | .left w, h => by
    unfold W.Nk at h
    unfold W.dat W.dep
    show Sm (2 * w.dep + 1 + 1) _
    unfold Sm
    refine ⟨by show 2 ≤ 1000; decide, fun d q => ?_⟩
    simp only [List.mem_cons, List.not_mem_nil, or_false] at q
    rcases q with rfl | rfl
    · exact sm_str _
    · exact (nk_sm w h).mono (by omega)
theorem nks_sm : ∀ ws : List W, W.Nks ws → ∀ d ∈ W.dats ws, Sm (2 * W.deps ws) d
  | [], _, d, q => by
    unfold W.dats at q
    exact absurd q List.not_mem_nil
  | w :: r, h, d, q => by
    unfold W.Nks at h
    unfold W.dats at q
    unfold W.deps
    rcases List.mem_cons.mp q with e | q
    · rw [e]
      exact (nk_sm w h.1).mono (by omega)
    · exact (nks_sm r h.2 d q).mono (by omega)
end
end SW

set_option Elab.async false
set_option linter.all false
set_option maxRecDepth 100000
set_option maxHeartbeats 4000000
namespace SW
open PySem PySem.Spec PyProof.Rows L2
section
variable {P : Program} {w : World} {K : PySem.W.Frag} {mg : Str → Option Value} {base : Heap}
theorem fin {h : Heap} {fa c T : Addr} (_X : K.In h) (_G : h.Ns mainGlobals mg) (hmg : mg "law" = some (.ref fa)) (hen : mg "enumerate" = none)
    (bi : Bi mg)
    (hLETTERS : ∃ v, mg "LETTERS" = some v ∧ L2.RelV (.str "abc") v)
    (hPLACES : ∃ v, mg "PLACES" = some v ∧ L2.RelV (.str "xyz") v)
    (hSETS : ∃ v, mg "SETS" = some v ∧ L2.RelV (.str "XYZ") v)
    (hQUANTIFIERS : ∃ a, mg "QUANTIFIERS" = some (.ref a) ∧ ∀ H, SqT K H a [.str "some", .str "all"])
    (hMAX_NAME : ∃ v, mg "MAX_NAME" = some v ∧ L2.RelV (.int 8) v)
    (hMAX_CHARACTERS : ∃ v, mg "MAX_CHARACTERS" = some v ∧ L2.RelV (.int 300) v)
    (hMAX_NODES : ∃ v, mg "MAX_NODES" = some v ∧ L2.RelV (.int 40) v)
    (hMAX_NESTING : ∃ v, mg "MAX_NESTING" = some v ∧ L2.RelV (.int 3) v)
    (hLOWERCASE : ∃ v, mg "LOWERCASE" = some v ∧ L2.RelV (.str "abcdefghijklmnopqrstuvwxyz") v)
    (hCHARACTERS : ∃ v, mg "CHARACTERS" = some v ∧ L2.RelV (.str " (){}<=XYZabcdefghijklmnopqrstuvwxyz") v)
    (hKINDS : ∃ a, mg "KINDS" = some (.ref a) ∧ KdS K w a [("<", "before"), ("next", "next"), ("=", "same"), ("in", "in")])
    (hEND : ∃ v, mg "END" = some v ∧ L2.RelV (.str "") v)
    (Dformula_size : Df K mg "formula_size" s_formula_size ["formula"])
    (Dnesting : Df K mg "nesting" s_nesting ["formula"])
    (Dinner_formulas : Df K mg "inner_formulas" s_inner_formulas ["formula"])
    (Dparse_formula : Df K mg "parse_formula" s_parse_formula ["text"])
    (D_tokens : Df K mg "_tokens" s__tokens ["text"])
    (D_token_end : Df K mg "_token_end" s__token_end ["text", "start"])
    (D_take : Df K mg "_take" s__take ["tokens", "expected"])
    (D_take_name : Df K mg "_take_name" s__take_name ["tokens"])
    (D_read_formula : Df K mg "_read_formula" s__read_formula ["tokens"])
    (D_begin : Df K mg "_begin" s__begin ["tokens", "begun"])
    (D_read_relation : Df K mg "_read_relation" s__read_relation ["tokens", "place"])
    (D_go_on : Df K mg "_go_on" s__go_on ["tokens", "begun", "formula"])
    (D_law_draws : Df K mg "_law_draws" s__law_draws ["_law_script"])
    (D_law_draw : Df K mg "_law_draw" s__law_draw ["_law_rng", "_law_many"])
    (D_law_pick : Df K mg "_law_pick" s__law_pick ["_law_rng", "_law_things"])
    (D_law_same : Df K mg "_law_same" s__law_same ["_law_found", "_law_due"])
    (D_law_field : Df K mg "_law_field" s__law_field ["_law_e"])
    (D_law_try : Df K mg "_law_try" s__law_try ["_law_ask"])
    (D_law_refusal : Df K mg "_law_refusal" s__law_refusal ["_law_ask"])
    (D_law_name : Df K mg "_law_name" s__law_name ["_law_rng"])
    (D_law_bent : Df K mg "_law_bent" s__law_bent ["_law_rng", "_law_text", "_law_signs"])
    (D_law_any_formula : Df K mg "_law_any_formula" s__law_any_formula ["_law_rng", "_law_kit", "_law_deep"])
    (D_law_written : Df K mg "_law_written" s__law_written ["_law_formula"])
    (D_law_tokens : Df K mg "_law_tokens" s__law_tokens ["_law_text"])
    (D_law_behind : Df K mg "_law_behind" s__law_behind ["_law_tokens_here", "_law_at"])
    (D_law_formula_due : Df K mg "_law_formula_due" s__law_formula_due ["_law_text"])
    (Dlaw : Df K mg "law" s_law ["_law_script"])
    (hEr : ∃ B, Bas K mg "ScatterError" B "ScatterError.__init__" s_ScatterError_init "something that was passed is not valid" ∧ ErX K mg B s_InvalidText_init "InvalidText" "InvalidText.__init__" "position" ∧ ErX K mg B s_TooLarge_init "TooLarge" "TooLarge.__init__" "limit" ∧ ∃ BM, mg "Missing" = some (.ref BM))
    (hL : DfC K mg "law" s_law ["_law_script"] c) (h1 : h.get? T = some { cls := .none, data := .fields #[] }) (h2 : K.lookup T = none) (h3 : PySem.W.CodeHd h c T) :
    ∃ (fd : FuncData) (c T : Addr), h.get? T = some { cls := .none, data := .fields #[] } ∧ K.lookup T = none ∧ PySem.W.CodeHd h c T ∧ (∀ (s : Shared) (u : Value), BindsTo s fd ⟨[u], []⟩ [("_law_script", u)]) ∧
        ∀ base : Heap, K.In base → base.Ns mainGlobals mg → LamX.TabB base mg c T → FnOk P w K mg base CX0 161 fa fd ["_law_script"] (spLawT K T) := by
  obtain ⟨_, mLETTERS, tk, rfl⟩ := hLETTERS
  obtain ⟨_, mPLACES, tPLACES, rfl⟩ := hPLACES
  obtain ⟨_, mSETS, tSETS, rfl⟩ := hSETS
  obtain ⟨aQ, mQUANTIFIERS, hQ⟩ := hQUANTIFIERS
  obtain ⟨_, mMAX_NAME, tMAX_NAME, rfl⟩ := hMAX_NAME
  obtain ⟨_, mMAX_CHARACTERS, tMAX_CHARACTERS, rfl⟩ := hMAX_CHARACTERS
  obtain ⟨_, mMAX_NODES, tMAX_NODES, rfl⟩ := hMAX_NODES
  obtain ⟨_, mMAX_NESTING, tMAX_NESTING, rfl⟩ := hMAX_NESTING
  obtain ⟨_, mLOWERCASE, tLOWERCASE, rfl⟩ := hLOWERCASE
  obtain ⟨_, mCHARACTERS, tCHARACTERS, rfl⟩ := hCHARACTERS
  obtain ⟨aK, mKINDS, kKINDS⟩ := hKINDS
  obtain ⟨_, mEND, tEND, rfl⟩ := hEND
  obtain ⟨B, hB, ⟨CI, fI, ⟨fdI, FI, bI⟩, iI1, iI2, erI, mI, ecI, xI⟩, ⟨CT, fT, ⟨fdT, FT, bT⟩, iT1, iT2, erT, mT, ecT, xT⟩, BM, hMM⟩ := hEr
  obtain ⟨fd, b, ok⟩ := hL.ok (P := P) (w := w) (k := 160) (sp := spLawT K T) (Φ := fun base => LamX.TabB base mg c T) hmg sc_law (fun vs H Q E h => by obtain ⟨a, ns, rfl, _⟩ := h; rfl) (fun _ _ _ _ _ _ us hl => match us, hl with | [_], _ => rfl)
    (fun base f A outer s H vs Q E hΦ hr h => by
      obtain ⟨a, ns, rfl, hS, hT, q⟩ := h
      have c_base := ok_base (P := P) (w := w) (base := base) hB
      have eI : ErrOk P w K mg base "InvalidText" CI "InvalidText" "position" := ⟨⟨fI, fdI, ok_InvalidText FI c_base erI, iI1, iI2, bI⟩, erI, mI⟩
      have eT : ErrOk P w K mg base "TooLarge" CT "TooLarge" "limit" := ⟨⟨fT, fdT, ok_TooLarge FT c_base erT, iT1, iT2, bT⟩, erT, mT⟩
      have c_draw := ok_draw (P := P) (w := w) (base := base) D_law_draw bi
      have c_pick := ok_pick D_law_pick bi c_draw
      have c_name := ok_name D_law_name bi c_draw
      have c_any := ok_any D_law_any_formula bi c_draw c_pick c_name 4
      have c_same := ok_same (P := P) (w := w) (base := base) D_law_same bi 20
      have c_draws := ok_draws (P := P) (w := w) (base := base) D_law_draws bi
      have c_written := ok_written (P := P) (w := w) (base := base) D_law_written bi 5
      have c_field := ok_field (P := P) (w := w) (base := base) D_law_field
      have c_bent := ok_bent D_law_bent bi c_draw c_pick
      have c_ltok := ok_ltok (P := P) (w := w) (base := base) D_law_tokens bi
      have c_beh := ok_beh (P := P) (w := w) (base := base) D_law_behind bi 121
      have c_due := ok_fdue D_law_formula_due bi c_ltok c_beh
      have c_in := ok_innerF (P := P) (w := w) (base := base) Dinner_formulas bi mQUANTIFIERS hQ
      have c_tend := ok_tend (P := P) (w := w) (base := base) D_token_end bi mLOWERCASE ⟨_, rfl⟩ mSETS ⟨_, rfl⟩
      have c_tokens := ok_tokens D_tokens bi mEND ⟨_, rfl⟩ c_tend
      have c_take := ok_take (P := P) (w := w) (base := base) (CT := CT) D_take bi eI
      have c_take_name := ok_take_name (P := P) (w := w) (base := base) (CT := CT) D_take_name bi mMAX_NAME ⟨_, rfl⟩ eI
      have c_rel := ok_relation D_read_relation bi mKINDS kKINDS mPLACES ⟨_, rfl⟩ mSETS ⟨_, rfl⟩ c_take
      have c_begin := ok_begin D_begin bi mLETTERS ⟨_, rfl⟩ mPLACES ⟨_, rfl⟩ mSETS ⟨_, rfl⟩ mQUANTIFIERS hQ c_take c_take_name c_rel
      have c_go := ok_go D_go_on bi c_take
      have c_read := ok_read D_read_formula bi c_begin c_go
      have c_parse := ok_parse Dparse_formula bi hen mEND ⟨_, rfl⟩ mCHARACTERS ⟨_, rfl⟩ mMAX_CHARACTERS ⟨_, rfl⟩ mMAX_NODES ⟨_, rfl⟩ mMAX_NESTING ⟨_, rfl⟩ eI eT c_tokens c_read c_take (ok_size Dformula_size bi c_in 100) (ok_nest Dnesting bi mQUANTIFIERS hQ c_in 100)
      exact law_body hΦ hB.at_ hMM ⟨xI, ecI, xT, ecT⟩ bi mMAX_NODES ⟨_, rfl⟩ mMAX_NESTING ⟨_, rfl⟩ D_law_try D_law_refusal c_field Dparse_formula c_draws c_draw c_same c_any c_written c_bent c_due c_parse f A outer s H a ns Q E hr hS hT q)
  exact ⟨fd, c, T, h1, h2, h3, fun s u => b s [u] rfl, fun base _ _ hT => ok base hT⟩
end
end SW

set_option Elab.async false
set_option linter.all false
open PySem PySem.W PyProof.Rows
set_option maxRecDepth 100000 in
set_option maxHeartbeats 0 in
theorem PySem.Challenge.cw_scatterwords_k16_formula_texts_refused_holds : PySem.Challenge.rw_scatterwords_k16_formula_texts_refused.Holds := by
  w_on; o_law; k_head; (case hw => w_witness2)
  k_fill
  refine SW.walkT (l := PySem.Challenge.rw_scatterwords_k16_formula_texts_refused) (k := 161) ⟨rfl, by decide, by decide⟩ rfl rfl (fun w h Y => PySem.W.km_in_of Y) ?F
  case F =>
    intro w mg fa h Y KX G hmg
    refine' SW.fin KX G hmg ?hen ?bi ?hLETTERS ?hPLACES ?hSETS ?hQUANTIFIERS ?hMAX_NAME ?hMAX_CHARACTERS ?hMAX_NODES ?hMAX_NESTING ?hLOWERCASE ?hCHARACTERS ?hKINDS ?hEND ?Dformula_size ?Dnesting ?Dinner_formulas ?Dparse_formula ?D_tokens ?D_token_end ?D_take ?D_take_name ?D_read_formula ?D_begin ?D_read_relation ?D_go_on ?D_law_draws ?D_law_draw ?D_law_pick ?D_law_same ?D_law_field ?D_law_try ?D_law_refusal ?D_law_name ?D_law_bent ?D_law_any_formula ?D_law_written ?D_law_tokens ?D_law_behind ?D_law_formula_due ?Dlaw ?hEr ?hL (PySem.W.km_tabs_of Y _ (List.mem_singleton.mpr rfl)) ?h2 (PySem.W.codeHd_of_K KX ?h3)
    case bi =>
      refine' ⟨PySem.W.mg_none_of KX G ?b0, PySem.W.mg_none_of KX G ?b1, PySem.W.mg_none_of KX G ?b2, PySem.W.mg_none_of KX G ?b3, PySem.W.mg_none_of KX G ?b4, PySem.W.mg_none_of KX G ?b5, PySem.W.mg_none_of KX G ?b6, PySem.W.mg_none_of KX G ?b7, PySem.W.mg_none_of KX G ?b8, PySem.W.mg_none_of KX G ?b9, PySem.W.mg_none_of KX G ?b10, PySem.W.mg_none_of KX G ?b11, PySem.W.mg_none_of KX G ?b12, PySem.W.mg_none_of KX G ?b13, PySem.W.mg_none_of KX G ?b14, PySem.W.mg_none_of KX G ?b15, PySem.W.mg_none_of KX G ?b16, PySem.W.mg_none_of KX G ?b17, PySem.W.mg_none_of KX G ?b18⟩
      (case b0 => k_is)
      (case b1 => k_is)
      (case b2 => k_is)
      (case b3 => k_is)
      (case b4 => k_is)
      (case b5 => k_is)
      (case b6 => k_is)
      (case b7 => k_is)
      (case b8 => k_is)
      (case b9 => k_is)
      (case b10 => k_is)
      (case b11 => k_is)
      (case b12 => k_is)
      (case b13 => k_is)
      (case b14 => k_is)
      (case b15 => k_is)
      (case b16 => k_is)
      (case b17 => k_is)
      (case b18 => k_is)
    case hLETTERS =>
      refine' ⟨_, PySem.W.mg_of KX G ?a, ?e⟩
      (case a => k_is); (case e => exact ⟨_, rfl⟩)
    case hPLACES =>
      refine' ⟨_, PySem.W.mg_of KX G ?a, ?e⟩
      (case a => k_is); (case e => exact ⟨_, rfl⟩)
    case hSETS =>
      refine' ⟨_, PySem.W.mg_of KX G ?a, ?e⟩
      (case a => k_is); (case e => exact ⟨_, rfl⟩)
    case hQUANTIFIERS =>
      refine' ⟨_, PySem.W.mg_of KX G ?a, SW.sqt_mk ?l ?c ?d ?s ?r⟩
      (case a => k_is); (case l => k_is); (case c => rfl); (case d => rfl); (case s => decide)
      (case r => exact (.cons (SW.relstr (by decide +kernel)) (.cons (SW.relstr (by decide +kernel)) .nil)))
    case hMAX_NAME =>
      refine' ⟨_, PySem.W.mg_of KX G ?a, ?e⟩
      (case a => k_is); (case e => first | exact ⟨_, rfl⟩ | exact SW.relstr (by decide +kernel))
    case hMAX_CHARACTERS =>
      refine' ⟨_, PySem.W.mg_of KX G ?a, ?e⟩
      (case a => k_is); (case e => first | exact ⟨_, rfl⟩ | exact SW.relstr (by decide +kernel))
    case hMAX_NODES =>
      refine' ⟨_, PySem.W.mg_of KX G ?a, ?e⟩
      (case a => k_is); (case e => first | exact ⟨_, rfl⟩ | exact SW.relstr (by decide +kernel))
    case hMAX_NESTING =>
      refine' ⟨_, PySem.W.mg_of KX G ?a, ?e⟩
      (case a => k_is); (case e => first | exact ⟨_, rfl⟩ | exact SW.relstr (by decide +kernel))
    case hLOWERCASE =>
      refine' ⟨_, PySem.W.mg_of KX G ?a, ?e⟩
      (case a => k_is); (case e => first | exact ⟨_, rfl⟩ | exact SW.relstr (by decide +kernel))
    case hCHARACTERS =>
      refine' ⟨_, PySem.W.mg_of KX G ?a, ?e⟩
      (case a => k_is); (case e => first | exact ⟨_, rfl⟩ | exact SW.relstr (by decide +kernel))
    case hKINDS =>
      refine' ⟨_, PySem.W.mg_of KX G ?a, SW.kds_mk ?l ?lit ?lo ?he (by decide +kernel) (by show 4 ≤ sizeLine; decide) (.cons ?e0 ?r0 (.cons ?e1 ?r1 (.cons ?e2 ?r2 (.cons ?e3 ?r3 .nil))))⟩
      (case a => k_is); (case l => k_is); (case lit => exact ⟨⟨_, _, rfl, rfl⟩, ⟨⟨_, _, rfl, rfl⟩, ⟨⟨_, _, rfl, rfl⟩, ⟨⟨_, _, rfl, rfl⟩, trivial⟩⟩⟩⟩); (case lo => decide +kernel); (case he => first | rfl | decide +kernel)
      (case e3 => k_is); (case r3 => exact SW.relstr (by decide +kernel))
      (case e2 => k_is); (case r2 => exact SW.relstr (by decide +kernel))
      (case e1 => k_is); (case r1 => exact SW.relstr (by decide +kernel))
      (case e0 => k_is); (case r0 => exact SW.relstr (by decide +kernel))
    case hEND =>
      refine' ⟨_, PySem.W.mg_of KX G ?a, ?e⟩
      (case a => k_is); (case e => first | exact ⟨_, rfl⟩ | exact SW.relstr (by decide +kernel))
    case Dformula_size =>
      refine' SW.df_mk KX G ?a ?l ?c ?k (fun _ _ _ _ _ _ us hl => match us, hl with | [_], _ => rfl)
      (case a => k_is); (case l => k_is); (case c => k_is); (case k => k_is)
    case Dnesting =>
      refine' SW.df_mk KX G ?a ?l ?c ?k (fun _ _ _ _ _ _ us hl => match us, hl with | [_], _ => rfl)
      (case a => k_is); (case l => k_is); (case c => k_is); (case k => k_is)
    case Dinner_formulas =>
      refine' SW.df_mk KX G ?a ?l ?c ?k (fun _ _ _ _ _ _ us hl => match us, hl with | [_], _ => rfl)
      (case a => k_is); (case l => k_is); (case c => k_is); (case k => k_is)
    case Dparse_formula =>
      refine' SW.df_mk KX G ?a ?l ?c ?k (fun _ _ _ _ _ _ us hl => match us, hl with | [_], _ => rfl)
      (case a => k_is); (case l => k_is); (case c => k_is); (case k => k_is)
    case D_tokens =>
      refine' SW.df_mk KX G ?a ?l ?c ?k (fun _ _ _ _ _ _ us hl => match us, hl with | [_], _ => rfl)
      (case a => k_is); (case l => k_is); (case c => k_is); (case k => k_is)
    case D_token_end =>
      refine' SW.df_mk KX G ?a ?l ?c ?k (fun _ _ _ _ _ _ us hl => match us, hl with | [_, _], _ => rfl)
      (case a => k_is); (case l => k_is); (case c => k_is); (case k => k_is)
    case D_take =>
      refine' SW.df_mk KX G ?a ?l ?c ?k (fun _ _ _ _ _ _ us hl => match us, hl with | [_, _], _ => rfl)
      (case a => k_is); (case l => k_is); (case c => k_is); (case k => k_is)
    case D_take_name =>
      refine' SW.df_mk KX G ?a ?l ?c ?k (fun _ _ _ _ _ _ us hl => match us, hl with | [_], _ => rfl)
      (case a => k_is); (case l => k_is); (case c => k_is); (case k => k_is)
    case D_read_formula =>
      refine' SW.df_mk KX G ?a ?l ?c ?k (fun _ _ _ _ _ _ us hl => match us, hl with | [_], _ => rfl)
      (case a => k_is); (case l => k_is); (case c => k_is); (case k => k_is)
    case D_begin =>
      refine' SW.df_mk KX G ?a ?l ?c ?k (fun _ _ _ _ _ _ us hl => match us, hl with | [_, _], _ => rfl)
      (case a => k_is); (case l => k_is); (case c => k_is); (case k => k_is)
    case D_read_relation =>
      refine' SW.df_mk KX G ?a ?l ?c ?k (fun _ _ _ _ _ _ us hl => match us, hl with | [_, _], _ => rfl)
      (case a => k_is); (case l => k_is); (case c => k_is); (case k => k_is)
    case D_go_on =>
      refine' SW.df_mk KX G ?a ?l ?c ?k (fun _ _ _ _ _ _ us hl => match us, hl with | [_, _, _], _ => rfl)
      (case a => k_is); (case l => k_is); (case c => k_is); (case k => k_is)
    case D_law_draws =>
      refine' SW.df_mk KX G ?a ?l ?c ?k (fun _ _ _ _ _ _ us hl => match us, hl with | [_], _ => rfl)
      (case a => k_is); (case l => k_is); (case c => k_is); (case k => k_is)
    case D_law_draw =>
      refine' SW.df_mk KX G ?a ?l ?c ?k (fun _ _ _ _ _ _ us hl => match us, hl with | [_, _], _ => rfl)
      (case a => k_is); (case l => k_is); (case c => k_is); (case k => k_is)
    case D_law_pick =>
      refine' SW.df_mk KX G ?a ?l ?c ?k (fun _ _ _ _ _ _ us hl => match us, hl with | [_, _], _ => rfl)
      (case a => k_is); (case l => k_is); (case c => k_is); (case k => k_is)
    case D_law_same =>
      refine' SW.df_mk KX G ?a ?l ?c ?k (fun _ _ _ _ _ _ us hl => match us, hl with | [_, _], _ => rfl)
      (case a => k_is); (case l => k_is); (case c => k_is); (case k => k_is)
    case D_law_field =>
      refine' SW.df_mk KX G ?a ?l ?c ?k (fun _ _ _ _ _ _ us hl => match us, hl with | [_], _ => rfl)
      (case a => k_is); (case l => k_is); (case c => k_is); (case k => k_is)
    case D_law_try =>
      refine' SW.df_mk KX G ?a ?l ?c ?k (fun _ _ _ _ _ _ us hl => match us, hl with | [_], _ => rfl)
      (case a => k_is); (case l => k_is); (case c => k_is); (case k => k_is)
    case D_law_refusal =>
      refine' SW.df_mk KX G ?a ?l ?c ?k (fun _ _ _ _ _ _ us hl => match us, hl with | [_], _ => rfl)
      (case a => k_is); (case l => k_is); (case c => k_is); (case k => k_is)
    case D_law_name =>
      refine' SW.df_mk KX G ?a ?l ?c ?k (fun _ _ _ _ _ _ us hl => match us, hl with | [_], _ => rfl)
      (case a => k_is); (case l => k_is); (case c => k_is); (case k => k_is)
    case D_law_bent =>
      refine' SW.df_mk KX G ?a ?l ?c ?k (fun _ _ _ _ _ _ us hl => match us, hl with | [_, _, _], _ => rfl)
      (case a => k_is); (case l => k_is); (case c => k_is); (case k => k_is)
    case D_law_any_formula =>
      refine' SW.df_mk KX G ?a ?l ?c ?k (fun _ _ _ _ _ _ us hl => match us, hl with | [_, _, _], _ => rfl)
      (case a => k_is); (case l => k_is); (case c => k_is); (case k => k_is)
    case D_law_written =>
      refine' SW.df_mk KX G ?a ?l ?c ?k (fun _ _ _ _ _ _ us hl => match us, hl with | [_], _ => rfl)
      (case a => k_is); (case l => k_is); (case c => k_is); (case k => k_is)
    case D_law_tokens =>
      refine' SW.df_mk KX G ?a ?l ?c ?k (fun _ _ _ _ _ _ us hl => match us, hl with | [_], _ => rfl)
      (case a => k_is); (case l => k_is); (case c => k_is); (case k => k_is)
    case D_law_behind =>
      refine' SW.df_mk KX G ?a ?l ?c ?k (fun _ _ _ _ _ _ us hl => match us, hl with | [_, _], _ => rfl)
      (case a => k_is); (case l => k_is); (case c => k_is); (case k => k_is)
    case D_law_formula_due =>
      refine' SW.df_mk KX G ?a ?l ?c ?k (fun _ _ _ _ _ _ us hl => match us, hl with | [_], _ => rfl)
      (case a => k_is); (case l => k_is); (case c => k_is); (case k => k_is)
    case Dlaw =>
      refine' SW.df_mk KX G ?a ?l ?c ?k (fun _ _ _ _ _ _ us hl => match us, hl with | [_], _ => rfl)
      (case a => k_is); (case l => k_is); (case c => k_is); (case k => k_is)
    case hen =>
      refine' PySem.W.mg_none_of KX G ?b
      (case b => k_is)
    case hEr =>
      refine' ⟨_, SW.bas_mk KX G ?a ?fc ?l ?lT ?dT ?rT ?c ?k ?rd ?sg ?hb, ⟨_, _, SW.fun0_mk ?ifl ?ifcd ?ifk ?ifhb, ?ifi, ?ift, SW.er_mk ?iel ?ie2 ?ier ?iesa ?ieex ?iety ?iekp ?ierd ?iefd ?iega ?iegt ?iefc ?iesp ?ietk ?iemr ?iec1 ?iec2 ?iec3, PySem.W.mg_of KX G ?iem, SW.errc_mk ?ix1 ?ix2 ?ix3 ?ix4 ?in1 ?in2 ?in3 ?in4 ?in5 ?in6, SW.exm_mk ?ixm1 ?ixm2 ?ixm3 ?ixm4⟩, ⟨_, _, SW.fun0_mk ?tfl ?tfcd ?tfk ?tfhb, ?tfi, ?tft, SW.er_mk ?tel ?te2 ?ter ?tesa ?teex ?tety ?tekp ?terd ?tefd ?tega ?tegt ?tefc ?tesp ?tetk ?temr ?tec1 ?tec2 ?tec3, PySem.W.mg_of KX G ?tem, SW.errc_mk ?tx1 ?tx2 ?tx3 ?tx4 ?tn1 ?tn2 ?tn3 ?tn4 ?tn5 ?tn6, SW.exm_mk ?txm1 ?txm2 ?txm3 ?txm4⟩, ?mm⟩
      (case a => k_is); (case fc => k_is); (case l => k_is); (case lT => k_is); (case dT => rfl); (case rT => exact SW.relstr (by decide +kernel)); (case c => k_is); (case k => k_is); (case rd => k_is); (case sg => k_is)
      (case hb => exact fun _ _ _ _ _ _ _ us its h1 h2 => match us, its, h1, h2 with | [_, _], [_], _, _ => ⟨_, rfl, rfl⟩)
      (case mm => exact ⟨_, PySem.W.mg_of KX G (by k_is)⟩)
      (case iem => k_is)
      (case ifi => k_is); (case ift => k_is); (case ifl => k_is); (case ifcd => k_is); (case ifk => k_is)
      (case ifhb => exact fun _ _ _ _ _ _ us hl => match us, hl with | [_, _], _ => rfl)
      (case iel => k_is); (case ie2 => rfl); (case ier => rfl); (case iesa => k_is); (case ieex => k_is); (case iety => k_is); (case iekp => k_is); (case ierd => k_is); (case iefd => k_is); (case iega => k_is); (case iegt => k_is); (case iefc => k_is); (case iesp => k_is); (case ietk => k_is); (case iemr => k_is); (case iec1 => k_is); (case iec2 => k_is); (case iec3 => k_is)
      (case ix1 => k_is); (case ix2 => k_is); (case ix3 => k_is); (case ix4 => k_is); (case in1 => k_is); (case in2 => k_is); (case in3 => k_is); (case in4 => k_is); (case in5 => k_is); (case in6 => k_is)
      (case ixm1 => k_is); (case ixm2 => first | rfl | kernel_rfl | k_is); (case ixm3 => k_is); (case ixm4 => k_is)
      (case tem => k_is)
      (case tfi => k_is); (case tft => k_is); (case tfl => k_is); (case tfcd => k_is); (case tfk => k_is)
      (case tfhb => exact fun _ _ _ _ _ _ us hl => match us, hl with | [_, _], _ => rfl)
      (case tel => k_is); (case te2 => rfl); (case ter => rfl); (case tesa => k_is); (case teex => k_is); (case tety => k_is); (case tekp => k_is); (case terd => k_is); (case tefd => k_is); (case tega => k_is); (case tegt => k_is); (case tefc => k_is); (case tesp => k_is); (case tetk => k_is); (case temr => k_is); (case tec1 => k_is); (case tec2 => k_is); (case tec3 => k_is)
      (case tx1 => k_is); (case tx2 => k_is); (case tx3 => k_is); (case tx4 => k_is); (case tn1 => k_is); (case tn2 => k_is); (case tn3 => k_is); (case tn4 => k_is); (case tn5 => k_is); (case tn6 => k_is)
      (case txm1 => k_is); (case txm2 => first | rfl | kernel_rfl | k_is); (case txm3 => k_is); (case txm4 => k_is)
    case hL =>
      refine' SW.dfC_mk KX G ?a ?l ?c
      (case a => k_is); (case l => k_is); (case c => k_is)
    case h2 => first | rfl | kernel_rfl
    case h3 => first | rfl | kernel_rfl
