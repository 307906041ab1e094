import PyProof.Rows.All
import Wide.All
import OpenK.AllK
import Wide.FinOn
import PyProof.ReprRoads
import PyProof.ReprLen
import PyProof.FitsInt
import Flt.Len
import HandS.ForMost
import HandS.Wide
import HandS.IsInst
import HandS.ForExc
import HandS.ExcField
import HandS.ExcInit
import HandS.Dict
import HandS.More
import HandS.SlotsOwn
import PyProof.InstNe
import KE.KExcIs
import HandS.ExcIs
import HandS.FStr
import HandS.IsInst
import HandS.Codes
import KE.KCallOwn
import HandS.Style
import PySem.Challenge.RW_widerkeys_k00_kinds_of_numbers
set_option Elab.async false
set_option linter.all false
set_option maxRecDepth 100000
set_option maxHeartbeats 4000000

namespace Zg
open PySem PySem.Spec PyProof.Rows L2

/-! ### powers -/
def CPowZ (i j : Int) : Prop := 0 ≤ j ∧ (Builtin.Int.intBits i : Int) * j ≤ 2 ^ 27
theorem op_powZ {X : Cx} : OpR X (binaryOp .Pow) (rI CPowZ fun i j => .int (i ^ j.toNat)) :=
  opI fun _ _ _ _ _ _ _ hc q => pow_int hc.1 hc.2 q

/-! ### no repr runs around -/
/-- no repr runs around -/
def Calm (A : Around) : Prop := A.guards = some []
theorem Calm.deeper {A : Around} {env : Env} (h : Calm A) : Calm (A.deeper env) := h

/-- repr(x), x data at any depth -/
def rReprD (K : PySem.W.Frag) : List V → Hp → VK → Prop := fun xs H Q =>
  ∃ (x : V) (d : PyData), xs = [x] ∧ Dp K H x d ∧ d.showable = true ∧ d.hasDict = false ∧
    d.depth ≤ 64 ∧ d.shown.length ≤ sizeLine ∧ (∀ i, x = .int i → i.natAbs.log2 < 1920) ∧ Q (.str d.shown) H
theorem call_reprD {X : Cx} (hg : Calm X.A) (hu : X.A.units + 70 < cLine) : CallR X (.builtin "repr") (rReprD X.K) := by
  intro pins s σ H xs us Q I r h
  obtain ⟨x, d, rfl, hd, hs, hn, hdep, hsz, hi, q⟩ := h
  obtain ⟨u, rfl, rx⟩ := vals1 r
  obtain ⟨as, rd⟩ := Dp.reads I d x u hd rx
  have nod : d.hasDict = true → sysModules ∉ as := fun z => by rw [hn] at z; cases z
  cases hd with
  | non =>
    cases rx
    exact PySem.P.repr_of_none ⟨.str _, H, I.tok _, ⟨_, rfl⟩, q⟩
  | bl b =>
    cases rx
    refine PySem.P.repr_of_bool ⟨.str _, H, I.tok _, ⟨_, rfl⟩, ?_⟩
    cases b <;> exact q
  | int i =>
    obtain ⟨t, rfl⟩ := rx
    exact PySem.P.repr_of_int (hi i rfl) ⟨.str _, H, I.tok _, ⟨_, rfl⟩, q⟩
  | str z =>
    obtain ⟨t, rfl⟩ := rx
    exact PySem.P.repr_of_str ⟨.str _, H, I.tok _, ⟨_, rfl⟩, q⟩ hsz
  | lst h1 h2 =>
    cases rx
    refine repr_of_reads' rd hs nod hg (by omega) (fun _ _ e => e) (fun h' u tk hk => ?_) hsz
    exact ⟨.str _, H, I.kept (t' := tk) hk, ⟨_, rfl⟩, q⟩
  | tup h1 h2 =>
    cases rx
    refine repr_of_reads' rd hs nod hg (by omega) (fun _ _ e => e) (fun h' u tk hk => ?_) hsz
    exact ⟨.str _, H, I.kept (t' := tk) hk, ⟨_, rfl⟩, q⟩

/-! ### defs that are called where no repr runs -/
section
variable {P : Program} {w : World} {K : PySem.W.Frag} {mg : Str → Option Value} {base : Heap} {CX : CXT} {k : Nat} {f : Addr} {fd : FuncData} {ps : List Str} {sp : Sp}
/-- a def keeps its promise wherever it is called with no repr around -/
structure FnG (P : Program) (w : World) (K : PySem.W.Frag) (mg : Str → Option Value) (base : Heap) (CX : CXT)
    (k : Nat) (f : Addr) (fd : FuncData) (ps : List Str) (sp : Sp) : Prop where
  many : ∀ vs H Q E, sp vs H Q E → vs.length = ps.length
  goes : ∀ (A : Around), Calm A → ∀ (fr : List Env) (s : Shared) (H : Hp) (args : Args) (us : List Value) (vs : List V) (Q : VK) (E : XK),
    Room k A → Env0 P w K mg base A fr s H → BindsTo s fd args (ps.zip us) → Vals vs us → sp vs H Q E →
      codeAny (model P w) A (.call (.ref f) args) (CR CX fr P w H s Q E) s
theorem FnG.of (F : FnOk P w K mg base CX k f fd ps sp) : FnG P w K mg base CX k f fd ps sp :=
  ⟨F.len, fun A _ fr s H args us vs Q E r e b v h => F.run A fr s H args us vs Q E r e b v h⟩
theorem FnG.up {j : Nat} (F : FnG P w K mg base CX j f fd ps sp) (h : j ≤ k) : FnG P w K mg base CX k f fd ps sp :=
  ⟨F.many, fun A c fr s H args us vs Q E r => F.goes A c fr s H args us vs Q E (r.mono h)⟩

/-- a def of the text, by its body, with no repr around -/
theorem Fun_okG {x qual : Str} {st : Stmt} {N : List Str} (F : Fun K x qual st f fd) (S : FnScope N ps (defScope st)) (len : ∀ vs H Q E, sp vs H Q E → vs.length = ps.length)
    (hbody : ∀ (cd : Value) (A : Around) (fr : List Env) (s : Shared) (H : Hp) (vs : List V) (Q : VK) (E : XK), Calm A →
      Room k (A.deeper (envOfC qual (defScope st) s.heap.objs.size f cd)) → sp vs H Q E →
        ∃ t, PSs (cxOf CX P w K mg base N qual (defScope st) f cd A fr s H E).nox (defBody st) t ∧ t { nx := fun _ H' => Q .non H', rt := Q } (start N vs) H) :
    FnG P w K mg base CX (k + 1) f fd ps sp := by
  obtain ⟨oc, od, kw, doc, pm, an, cd, ct, osl, rfl, at_f, hcd⟩ := F.ex
  constructor
  · exact len
  intro A calm fr s H args us vs Q E room e0 binds rel hsp
  have hlen := len _ _ _ _ hsp
  have stays : ∀ b o, base.get? b = some o → s.heap.get? b = some o := fun b o e => (e0.bs b o e).1
  refine codeAny_call_function room.depth (e0.mod.kin.keeps stays _ _ at_f) rfl S.co S.gen rfl (PySem.W.codeRec_of (e0.mod.kin.keeps stays) hcd) (binds _ _ _ _ ?_)
  refine wpAny_newFunctionEnv_cells S.kind (fun ⟨n, v⟩ hy => ?_) fun env he s1 inC => ?_
  · cases S.par n (List.of_mem_zip hy).1 with
    | inl z => exact .inl z
    | inr z => exact .inr ⟨z, PySem.W.cellsFrom_some _ _ _ (.inl z)⟩
  subst he
  refine ⟨(e0.mod.nolimit.keeps stays).keeps inC.toInCall.keep, codeAny_func ?_⟩
  obtain ⟨t, ht, hq⟩ := hbody cd A fr s H vs Q E calm (room.deeper _) hsp
  refine wpAny_mono (ht.nox.run [] s1 (start N vs) H _ (inv_start (CX := CX) S room.hd e0 hlen rel inC) hq) (fun fl s' z => ?_) fun _ _ z => z
  match fl, z with
  | .ret _, ⟨v, _, H', J, rv, q⟩ => exact ⟨v, H', J.os, J.bare, J.base, J.hok, rv, q⟩
  | .next, ⟨_, H', J, q⟩ => exact ⟨.non, H', J.os, J.bare, J.base, J.hok, rfl, q⟩
  | .brk, ⟨_, _, _, q⟩ => exact q.elim
  | .cont, ⟨_, _, _, q⟩ => exact q.elim
end

section
variable {X : Cx} {CX : CXT} {k : Nat} {f : Addr} {fd : FuncData} {ps : List Str} {sp : Sp} {E : XK} {x : Str} {p pos : Pos} {e : Expr} {es : List Expr} {t : TA}
/-- f(e, ..) where no repr runs -/
theorem pe_callG (c : Calm X.A) (F : FnG X.prog X.w X.K X.mg X.base CX k f fd ps sp) (hr : Room k X.A) (hg : Gl X x) (hm : X.mg x = some (.ref f)) (hk : PySem.W.keepIn X.K (.ref f) = true)
    (hb : Binds X.K fd ps []) (hx : Passes CX X E) (ha : PA X (e :: es) t) (hdb : (x == ("__debug__" : Str)) = false := by decide)
    (he : starEach (e :: es) X.env = (false, eval e X.env) :: starEach es X.env := by rfl) (hpl : (backTo pos (starEach es X.env)).any (·.1) = false := by rfl) :
    PE X (.Call (.Name x p) (e :: es) [] pos) (tCall sp [] E t) := by
  constructor
  intro pins s σ H Q I h
  refine wpAny_Call_Name_kw (ld_glob I hg hm (PySem.W.callWith_K (h₀ := X.base) I.ok.mod.kin hk (thn (ha.run pos pins s σ H _ I h) fun us s1 z => ?_) he hpl) hdb)
  obtain ⟨vs, H1, J, rel, q⟩ := z
  have q' : sp vs H1 Q E := by rw [← List.append_nil vs]; exact q
  have hl : (us ++ []).length = ps.length := by rw [List.append_nil, ← rel.length]; exact F.many _ _ _ _ q'
  have b := hb s1 us J.kIn hl
  rw [List.append_nil] at b
  refine ⟨J.kIn, wpAny_call (codeAny_mono (F.goes X.A c X.stack s1 H1 ⟨us, []⟩ us vs Q E hr J.env0 b rel q') fun r s2 z => ?_)⟩
  match r, z with
  | .error _, z => exact hx pins σ H1 s1 _ s2 J z
  | .ok (.ret _), z => exact J.after z
  | .ok .next, z => exact z.elim
  | .ok .brk, z => exact z.elim
  | .ok .cont, z => exact z.elim
end

/-! ### the law's own call -/
/-- the script alone is tracked, or nothing -/
def track (a : Addr) (o : HO) : Hp := fun b => if b = a then some o else none
theorem track_at {a : Addr} {o : HO} : track a o a = some o := if_pos rfl
theorem track_off {a b : Addr} {o : HO} (h : b ≠ a) : track a o b = none := if_neg h

theorem lawG {P : Program} {w : World} {K : PySem.W.Frag} {mg mb : Str → Option Value} {k : Nat} {fa a : Addr} {fd : FuncData} {x : Str} {sp : Sp} {s : Shared} {us : List Value} {ns : List Int}
    (kin : K.In s.heap) (gl : s.heap.Ns mainGlobals mg) (bl : s.heap.Ns builtinsNs mb) (bb : ∀ x : Str, x ≠ "__name__" → mb x = bootBuiltins x) (lim : s.heap.NoLimit) (gens : s.gens = #[])
    (ha : s.heap.get? a = some { cls := .type "list", data := .seq us.toArray }) (whole : IntsAre us ns) (line : ns.length ≤ sizeLine) (room : Room k callerA)
    (F : ∀ base : Heap, K.In base → base.Ns mainGlobals mg → FnG P w K mg base CX0 k fa fd [x] sp)
    (bind : ∀ (s : Shared) (u : Value), BindsTo s fd ⟨[u], []⟩ [(x, u)])
    (hsp : ∀ H : Hp, SqL K H a (ns.map V.int) → sp [.ref a] H (fun v _ => v = .bl true) fun _ _ _ => False) :
    codeAny (model P w) callerA (.call (.ref fa) ⟨[.ref a], []⟩) (fun r s' => r = .ok (.ret (.bool true)) ∧ OldK s.heap s'.heap ∧ s'.os = s.os ∧ AllBare s'.gens) s := by
  have rel := vals_ints whole
  have size := whole.length
  -- H: the script, or nothing; what H does not track is in the base
  have go : ∀ H : Hp, SqL K H a (ns.map V.int) → HOk P w H s.heap → (∀ b u, H b = some u → b = a ∧ K.lookup a = none ∧ ∃ o xs, u = .frz o (.lst xs)) →
      codeAny (model P w) callerA (.call (.ref fa) ⟨[.ref a], []⟩) (fun r s' => r = .ok (.ret (.bool true)) ∧ OldK s.heap s'.heap ∧ s'.os = s.os ∧ AllBare s'.gens) s := by
    intro H hS hok only
    have free : ∀ {b : Addr}, b ≠ a → H b = none := fun {b} hb => by
      cases q : H b with
      | none => rfl
      | some u => exact absurd (only b u q).1 hb
    have notDict : ∀ {b : Addr} {o : Obj} {es : Array DictEntry} {n : Nat}, s.heap.get? b = some o → o.data = .dict es n → b ≠ a := fun {b o es n} e d z => by
      subst z
      rw [ha] at e
      have e' := Option.some.inj e
      subst e'
      cases d
    have keepNs : ∀ {b : Addr} {m : Str → Option Value}, s.heap.Ns b m → (hidT s.heap H).Ns b m := fun {b m} z => by
      obtain ⟨o, es, n, e, d, r⟩ := z
      exact ⟨o, es, n, hidT_get e (free (notDict e d)), d, r⟩
    have kinB : K.In (hidT s.heap H) := fun b o e => hidT_get (kin b o e) (by
      cases q : H b with
      | none => rfl
      | some u =>
        obtain ⟨z, no, _⟩ := only b u q
        rw [z, no] at e
        cases e)
    have limB : (hidT s.heap H).NoLimit := by
      obtain ⟨m, h1, h2⟩ := lim
      exact ⟨m, keepNs h1, h2⟩
    have e0 : Env0 P w K mg (hidT s.heap H) callerA [] s H :=
      { frames := rfl, mod := ⟨kinB, keepNs gl, ⟨mb, keepNs bl, bb⟩, limB⟩, bs := fun b o e => of_hidT e, bsz := Nat.le_of_eq (hidT_size _ _), funs := trivial,
        frf := fun b hb => (List.not_mem_nil (show b ∈ ([] : List Addr) from hb)).elim, hok := hok, bare := .of_eq gens }
    refine codeAny_mono ((F _ kinB (keepNs gl)).goes callerA rfl [] s H ⟨[.ref a], []⟩ [.ref a] [.ref a] _ _ room e0 (bind s (.ref a)) (.cons rfl .nil) (hsp H hS)) fun r s' z => ?_
    match r, z with
    | .error _, z => exact False.elim z
    | .ok .next, z => exact False.elim z
    | .ok .brk, z => exact False.elim z
    | .ok .cont, z => exact False.elim z
    | .ok (.ret u), z =>
      obtain ⟨v, H', os, bare, un, hok', rv, q⟩ := z
      have q' : v = .bl true := q
      subst q'
      obtain rfl : u = Value.bool true := rv
      refine ⟨rfl, OldK.of_keep fun b o e => ?_, os, bare⟩
      cases q : H b with
      | none => exact un.keep b o e q (List.not_mem_nil) (List.not_mem_nil)
      | some u =>
        obtain ⟨_, _, ob, xs, eu⟩ := only b u q
        subst eu
        have h1 := (hok b _ q).1
        have h2 := (hok' b _ (un.frzs b ob _ q)).1
        rw [e] at h1
        rw [h2, ← Option.some.inj h1]
  cases hk : K.lookup a with
  | none =>
    refine go (track a (.frz { cls := .type "list", data := .seq us.toArray } (.lst (ns.map V.int)))) (.inl (.inr ⟨_, track_at⟩)) (fun b u z => ?_) fun b u z => ?_
    · by_cases hb : b = a
      · subst hb
        have z' := track_at.symm.trans z
        cases z'
        exact ⟨ha, by rw [List.length_map]; exact line, us, _, rel, ha⟩
      · rw [track_off hb] at z
        cases z
    · by_cases hb : b = a
      · subst hb
        have z' := track_at.symm.trans z
        cases z'
        exact ⟨rfl, hk, _, _, rfl⟩
      · rw [track_off hb] at z
        cases z
  | some o =>
    have e := kin a o hk
    rw [ha] at e
    have e' := Option.some.inj e
    subst e'
    have small : us.toArray.size ≤ sizeLine := by rw [List.size_toArray, size]; exact line
    refine go (fun _ => none) (.inr ⟨_, us.toArray, _, hk, rfl, rfl, rfl, small, by simpa using rel⟩) (fun b u z => ?_) fun b u z => ?_
    · have z' : (none : Option HO) = some u := z
      cases z'
    · have z' : (none : Option HO) = some u := z
      cases z'

/-- what k_head leaves, from the law's promise -/
theorem walkG {l : PySem.W.OpenLaw} {n k : Nat} {q : Program} {loose : List Str} {XP : (Str → Option Value) → Heap → Prop} {YP : World → Heap → Prop} {d : DefRec} {K : Params → PySem.W.Frag} {sp : PySem.W.Frag → Sp} {x : Str}
    (most : l.most = some n) (line : n ≤ sizeLine) (nodef : d.params.defaults = []) (room : Room k callerA) (hY : ∀ (w : World) (h : Heap), YP w h → (K w.params).In h)
    (F : ∀ (w : World) (mg : Str → Option Value) (fa : Addr) (h : Heap), (K w.params).In h → h.Ns mainGlobals mg → mg d.name = some (.ref fa) →
      ∃ fd : FuncData, (∀ (s : Shared) (u : Value), BindsTo s fd ⟨[u], []⟩ [(x, u)]) ∧
        ∀ base : Heap, (K w.params).In base → base.Ns mainGlobals mg → FnG l.prog w (K w.params) mg base CX0 k fa fd [x] (sp (K w.params)))
    (hsp : ∀ (K : PySem.W.Frag) (H : Hp) (a : Addr) (ns : List Int), ns.length ≤ n → SqL K H a (ns.map V.int) → sp K [.ref a] H (fun v _ => v = .bl true) fun _ _ _ => False) :
    PySem.W.WalkO q loose XP YP l.row.toRowW d [] (fun f vs => PySem.call f vs) := by
  refine Att.attach_call most nodef fun w s0 s1 mg mb fa o pm cd doc a vs ns G Y _ _ _ named obj whole few gens => ?_
  have kin := hY w _ Y
  obtain ⟨fd, bind, all⟩ := F w mg fa _ kin G.T.g named
  exact lawG kin G.T.g G.T.b G.T.builtins G.T.nolimit gens obj whole (Nat.le_trans few line) room all bind fun H hS => hsp _ H a ns few hS
section
variable {K : PySem.W.Frag} {σ : L2.St} {H : Hp} {Q : VK} {D : Ends} {v x y : V} {i j : Int} {p q : Addr} {xs : List V} {ta tb tc te : TE} {tt tu : TT} {ts tr : TS}
theorem nn {H : Hp} {a b : Addr} {o : HO} (h' : H b = none) (h : H a = some o) : a ≠ b := ne_of_none h h'
theorem nn' {H : Hp} {a b : Addr} {o : HO} (h' : H b = none) (h : H a = some o) : b ≠ a := (ne_of_none h h').symm
theorem rd_var {n : Nat} (h : σ[n]? = some (some v)) (k : Q v H) : tVar n σ H Q := ⟨v, h, k⟩
theorem rd_c (k : Q v H) : tC v σ H Q := k
theorem rd_op {r : R2} (k : ta σ H fun x H1 => tb σ H1 fun y H2 => r x y H2 Q) : tOp r ta tb σ H Q := k
theorem rd_un {r : V → Hp → VK → Prop} (k : ta σ H fun x H1 => r x H1 Q) : tUn r ta σ H Q := k
theorem rd_I0 {g : Int → Int → V} (k : Q (g i j) H) : rI0 g (.int i) (.int j) H Q := ⟨i, j, rfl, rfl, k⟩
theorem rd_I {C : Int → Int → Prop} {g : Int → Int → V} (c : C i j) (k : Q (g i j) H) : rI C g (.int i) (.int j) H Q := ⟨i, j, rfl, rfl, c, k⟩
theorem rd_U {g : Int → V} (k : Q (g i) H) : rU g (.int i) H Q := ⟨i, rfl, k⟩
theorem rd_eq (s : scal x y = true) (k : Q (.bl (decide (x = y))) H) : rEq x y H Q := ⟨s, k⟩
theorem rd_ne (s : scal x y = true) (k : Q (.bl (!decide (x = y))) H) : rNe x y H Q := ⟨s, k⟩
theorem rd_ixL (h : H p = some (.lst xs)) (e : atI xs i = some v) (k : Q v H) : rIxL K (.ref p) (.int i) H Q := ⟨p, xs, i, v, rfl, rfl, SqL.of h, e, k⟩
theorem rd_ixLs (h : SqL K H p xs) (e : atI xs i = some v) (k : Q v H) : rIxL K (.ref p) (.int i) H Q := ⟨p, xs, i, v, rfl, rfl, h, e, k⟩
theorem rd_ixT (h : H p = some (.tup xs)) (e : atI xs i = some v) (k : Q v H) : rIxT K (.ref p) (.int i) H Q := ⟨p, xs, i, v, rfl, rfl, SqT.of h, e, k⟩
theorem rd_setL {z : V} {n : Nat} {R : Hp → Prop} (h : H p = some (.lst xs)) (e : ixN xs.length i = some n) (k : R (upd H p (.lst (xs.set n z)))) : rSetL (.ref p) (.int i) z H R := ⟨p, xs, i, n, rfl, rfl, h, e, k⟩
theorem rd_sub {to ti : TE} {t : TSet} {R : L2.St → Hp → Prop} (k : to σ H fun o H1 => ti σ H1 fun i H2 => t o i v H2 fun H3 => R σ H3) : gSub to ti t v σ H R := k
theorem rd_test {R : Bool → Hp → Prop} (k : ta σ H fun x H' => ∃ b, x = .bl b ∧ R b H') : tTest ta σ H R := k
theorem rd_tB {R : Bool → Hp → Prop} (k : ta σ H fun x H' => ∃ b, x = .bl b ∧ R b H') : tB ta σ H R := k
theorem rd_bl {b : Bool} {R : Bool → Prop} (k : R b) : ∃ c, V.bl b = .bl c ∧ R c := ⟨b, rfl, k⟩
theorem rd_chain {r r' : R2} (k : ta σ H fun x H1 => tb σ H1 fun y H2 => r x y H2 fun z H3 => ∃ b, z = .bl b ∧ if b = true then tc σ H3 fun u H4 => r' y u H4 Q else Q (.bl false) H3) : tChain r r' ta tb tc σ H Q := k
theorem rd_and {R : Bool → Hp → Prop} (k : tt σ H fun c H1 => if c = true then tu σ H1 R else R false H1) : tAnd tt tu σ H R := k
theorem rd_or {R : Bool → Hp → Prop} (k : tt σ H fun c H1 => if c = true then R true H1 else tu σ H1 R) : tOr tt tu σ H R := k
theorem rd_not {R : Bool → Hp → Prop} (k : tt σ H fun c H1 => R (!c) H1) : tNot tt σ H R := k
theorem rd_andV (k : ta σ H fun x H1 => ∃ c, x = .bl c ∧ if c = true then tb σ H1 Q else Q (.bl false) H1) : tAndV ta tb σ H Q := k
theorem rd_orV (k : ta σ H fun x H1 => ∃ c, x = .bl c ∧ if c = true then Q (.bl true) H1 else tb σ H1 Q) : tOrV ta tb σ H Q := k
theorem rd_notV (k : ta σ H fun x H1 => ∃ c, x = .bl c ∧ Q (.bl (!c)) H1) : tNotV ta σ H Q := k
theorem rd_if (k : tt σ H fun c H1 => if c = true then ta σ H1 Q else tb σ H1 Q) : tIf tt ta tb σ H Q := k
theorem rd_ifS (k : tt σ H fun b H1 => if b = true then ts D σ H1 else tr D σ H1) : tIfS tt ts tr D σ H := k
theorem rd_seq (k : ts { D with nx := tr D } σ H) : tSeq ts tr D σ H := k
theorem rd_next (k : D.nx σ H) : tNext D σ H := k
theorem rd_asg {g : TG} (k : te σ H fun x H1 => g x σ H1 D.nx) : tAsg te g D σ H := k
theorem rd_name {n : Nat} {R : L2.St → Hp → Prop} (k : R (σ.set n (some v)) H) : gName n v σ H R := k
theorem rd_gnil {R : L2.St → Hp → Prop} (k : R σ H) : gNil [] σ H R := ⟨rfl, k⟩
theorem rd_gcons {t : TG} {u : TGs} {R : L2.St → Hp → Prop} (k : t v σ H fun σ' H' => u xs σ' H' R) : gCons t u (v :: xs) σ H R := ⟨v, xs, rfl, k⟩
theorem rd_gtup {n : Nat} {t : TGs} {R : L2.St → Hp → Prop} (h : H p = some (.tup xs)) (e : xs.length = n) (k : t xs σ H R) : gTup K n t (.ref p) σ H R := ⟨p, xs, rfl, SqT.of h, e, k⟩
theorem rd_par {a b : Nat} {tA : TA} (k : tA σ H fun vs H1 => ∃ v w, vs = [v, w] ∧ D.nx ((σ.set a (some v)).set b (some w)) H1) : tPar a b tA D σ H := k
theorem rd_par2 {R : V → V → Prop} (k : R x y) : ∃ v w, [x, y] = [v, w] ∧ R v w := ⟨x, y, rfl, k⟩
theorem rd_drop (k : te σ H fun _ H1 => D.nx σ H1) : tDrop te D σ H := k
theorem rd_ret (k : te σ H D.rt) : tRet te D σ H := k
theorem rd_retN (k : D.rt .non H) : tRetN D σ H := k
theorem rd_nil {R : List V → Hp → Prop} (k : R [] H) : tNil σ H R := k
theorem rd_cons {tl : TA} {R : List V → Hp → Prop} (k : ta σ H fun x H1 => tl σ H1 fun xs H2 => R (x :: xs) H2) : tCons ta tl σ H R := k
theorem rd_tup {tA : TA} (k : tA σ H fun xs H1 => xs.length ≤ sizeLine ∧ ∀ p, H1 p = none → Q (.ref p) (upd H1 p (.tup xs))) : tTup tA σ H Q := k
theorem rd_lst {tA : TA} (k : tA σ H fun xs H1 => xs.length ≤ sizeLine ∧ ∀ p, H1 p = none → Q (.ref p) (upd H1 p (.lst xs))) : tLst tA σ H Q := k
theorem few {n : Nat} (h : n ≤ 1000) : n ≤ sizeLine := Nat.le_of_lt (small1000 h)
theorem rd_new {R : Addr → Prop} (h : xs.length ≤ 1000) (k : ∀ p, H p = none → R p) : xs.length ≤ sizeLine ∧ ∀ p, H p = none → R p := ⟨few h, k⟩
theorem rd_cb {r : List V → Hp → VK → Prop} {tA : TA} (k : tA σ H fun vs H1 => r vs H1 Q) : tCB r tA σ H Q := k
theorem rd_call {sp : Sp} {E : XK} {tA : TA} (k : tA σ H fun vs H1 => sp (vs ++ []) H1 Q E) : tCall sp [] E tA σ H Q := k
theorem rd_make {C : Addr} {sp : Sp} {E : XK} {tA : TA} (k : tA σ H fun vs H1 => ∀ x dx, H1 x = none → H1 dx = none → dx ≠ x →
  sp (.ref x :: (vs ++ [])) (upd (upd H1 dx (.own x)) x (.ins C dx [])) (fun v H2 => v = .non ∧ Q (.ref x) H2) E) : tMake C sp [] E tA σ H Q := k
theorem rd_fld {f : Str} (k : ta σ H fun x H1 => ∃ a C dx fs v, x = .ref a ∧ H1 a = some (.ins C dx fs) ∧ Cls K C ∧ NoAttr K C f ∧ fs.lookup f = some v ∧ Q v H1) : tFld K ta f σ H Q := k
theorem rd_int {R : Int → Prop} {S : Prop} (k : R i) : (∃ j, [V.int i] = [V.int j] ∧ R j) ∨ S := .inl ⟨i, rfl, k⟩
theorem rd_intB {b : Bool} {R : Bool → Prop} {S : Prop} (k : R b) : S ∨ (∃ c, [V.bl b] = [V.bl c] ∧ R c) := .inr ⟨b, rfl, k⟩
theorem rd_one {R : Int → Prop} (k : R i) : ∃ j, [V.int i] = [V.int j] ∧ R j := ⟨i, rfl, k⟩
theorem rd_two {R : Int → Int → Prop} (k : R i j) : ∃ a b, [V.int i, V.int j] = [V.int a, V.int b] ∧ R a b := ⟨i, j, rfl, k⟩
theorem rd_lenL {R : List V → Prop} (h : H p = some (.lst xs)) (k : R xs) : ∃ a ys, [V.ref p] = [V.ref a] ∧ (SqL K H a ys ∨ SqT K H a ys) ∧ R ys := ⟨p, xs, rfl, .inl (SqL.of h), k⟩
theorem rd_lenLs {R : List V → Prop} (h : SqL K H p xs) (k : R xs) : ∃ a ys, [V.ref p] = [V.ref a] ∧ (SqL K H a ys ∨ SqT K H a ys) ∧ R ys := ⟨p, xs, rfl, .inl h, k⟩
theorem rd_lenT {R : List V → Prop} (h : H p = some (.tup xs)) (k : R xs) : ∃ a ys, [V.ref p] = [V.ref a] ∧ (SqL K H a ys ∨ SqT K H a ys) ∧ R ys := ⟨p, xs, rfl, .inr (SqT.of h), k⟩
theorem rd_fldI {C dx a : Addr} {fs : List (Str × V)} {f : Str} (h : H a = some (.ins C dx fs)) (c : Cls K C) (n : NoAttr K C f) (l : fs.lookup f = some v) (k : Q v H) :
    ∃ a' C dx fs v, V.ref a = .ref a' ∧ H a' = some (.ins C dx fs) ∧ Cls K C ∧ NoAttr K C f ∧ fs.lookup f = some v ∧ Q v H := ⟨a, C, dx, fs, v, rfl, h, c, n, l, k⟩
theorem rd_ite {c : Prop} [Decidable c] {A B : Prop} (h1 : c → A) (h2 : ¬ c → B) : if decide c = true then A else B := by
  by_cases h : c
  · rw [if_pos (decide_eq_true h)]
    exact h1 h
  · rw [if_neg (by rw [decide_eq_false h]; exact Bool.false_ne_true)]
    exact h2 h
theorem rd_iteN {c : Prop} [Decidable c] {A B : Prop} (h1 : ¬ c → A) (h2 : c → B) : if (!decide c) = true then A else B := by
  by_cases h : c
  · rw [decide_eq_true h]
    exact iteF (h2 h)
  · rw [decide_eq_false h]
    exact iteT (h1 h)
theorem rd_iteB {b : Bool} {A B : Prop} (h1 : b = true → A) (h2 : b = false → B) : if b = true then A else B := by
  cases b with
  | true => exact iteT (h1 rfl)
  | false => exact iteF (h2 rfl)
end
section
variable {K : PySem.W.Frag} {H : Hp} {Q : VK} {a b c : V} {p : Addr} {xs : List V}
theorem rd_ixL0 (h : H p = some (.lst (a :: xs))) (k : Q a H) : rIxL K (.ref p) (.int 0) H Q := rd_ixL h (atI_nat (j := 0) rfl) k
theorem rd_ixL1 (h : H p = some (.lst (a :: b :: xs))) (k : Q b H) : rIxL K (.ref p) (.int 1) H Q := rd_ixL h (atI_nat (j := 1) rfl) k
theorem rd_ixL2 (h : H p = some (.lst (a :: b :: c :: xs))) (k : Q c H) : rIxL K (.ref p) (.int 2) H Q := rd_ixL h (atI_nat (j := 2) rfl) k
theorem rd_ixT0 (h : H p = some (.tup (a :: xs))) (k : Q a H) : rIxT K (.ref p) (.int 0) H Q := rd_ixT h (atI_nat (j := 0) rfl) k
theorem rd_ixT1 (h : H p = some (.tup (a :: b :: xs))) (k : Q b H) : rIxT K (.ref p) (.int 1) H Q := rd_ixT h (atI_nat (j := 1) rfl) k
theorem rd_setL0 {z : V} {R : Hp → Prop} (h : H p = some (.lst (a :: xs))) (k : R (upd H p (.lst (z :: xs)))) : rSetL (.ref p) (.int 0) z H R := rd_setL (n := 0) h (by simp [ixN]) k
theorem rd_setL2 {z : V} {R : Hp → Prop} (h : H p = some (.lst (a :: b :: c :: xs))) (k : R (upd H p (.lst (a :: b :: z :: xs)))) : rSetL (.ref p) (.int 2) z H R := rd_setL (n := 2) h (by simp [ixN]; omega) k
end
section
variable {K : PySem.W.Frag} {H : Hp} {Q : VK} {i j : Int} {p : Addr} {xs : List V}
/-- an item at an open place within -/
theorem rd_ixLr (h : H p = some (.lst xs)) (h0 : 0 ≤ i) (h1 : i < xs.length) (k : ∀ v, v ∈ xs → Q v H) : rIxL K (.ref p) (.int i) H Q := by
  have hlt : i.toNat < xs.length := by omega
  have e : xs[i.toNat]? = some xs[i.toNat] := List.getElem?_eq_getElem hlt
  exact rd_ixL h (at_of (Int.toNat_of_nonneg h0).symm e) (k _ (List.getElem_mem hlt))
theorem rd_ixLsr (h : SqL K H p xs) (h0 : 0 ≤ i) (h1 : i < xs.length) (k : ∀ v, v ∈ xs → Q v H) : rIxL K (.ref p) (.int i) H Q := by
  have hlt : i.toNat < xs.length := by omega
  have e : xs[i.toNat]? = some xs[i.toNat] := List.getElem?_eq_getElem hlt
  exact rd_ixLs h (at_of (Int.toNat_of_nonneg h0).symm e) (k _ (List.getElem_mem hlt))
/-- % hands on a letter -/
theorem rd_mod (c : 0 < j) (k : ∀ r, r = i % j → 0 ≤ r → r < j → Q (.int r) H) : rI (fun _ j => 0 < j) (fun i j => .int (i % j)) (.int i) (.int j) H Q :=
  rd_I c (k _ rfl (Int.emod_nonneg _ (by omega)) (Int.emod_lt_of_pos _ c))
theorem cmul_l (h1 : -(2 ^ 64) < i) (h2 : i < 2 ^ 64) : CMul i j := .inl ⟨h1, h2⟩
theorem cmul_r (h1 : -(2 ^ 64) < j) (h2 : j < 2 ^ 64) : CMul i j := .inr ⟨h1, h2⟩
theorem cpow (h0 : 0 ≤ j) (h1 : j ≤ 1000000) (h2 : -(2 ^ 64) < i) (h3 : i < 2 ^ 64) : CPow i j := ⟨h0, h1, by omega⟩
theorem cdivw {n : Int} (h0 : 0 < j) (h1 : j < 2 ^ 200) : CDivW n j := wide_div h0 (b := 200) (by omega) (by decide) (by decide)
end
section
variable {K : PySem.W.Frag} {σ : L2.St} {H : Hp} {Q : VK} {D : Ends} {v x y : V} {i j : Int} {a C dx : Addr} {fs : List (Str × V)} {ta te : TE} {f : Str}
theorem rd_sfld (k : te σ H fun y H1 => ta σ H1 fun x H2 => ∃ a C dx fs, x = .ref a ∧ H2 a = some (.ins C dx fs) ∧ Cls K C ∧ NoAttr K C f ∧ fs.length < 1000 ∧ D.nx σ (upd H2 a (.ins C dx (putF f y fs)))) : sFld K ta te f D σ H := k
theorem rd_sfldI {R : Hp → Prop} (h : H a = some (.ins C dx fs)) (c : Cls K C) (n : NoAttr K C f) (l : fs.length < 1000) (k : R (upd H a (.ins C dx (putF f y fs)))) :
    ∃ a' C' dx' fs', V.ref a = .ref a' ∧ H a' = some (.ins C' dx' fs') ∧ Cls K C' ∧ NoAttr K C' f ∧ fs'.length < 1000 ∧ R (upd H a' (.ins C' dx' (putF f y fs'))) := ⟨a, C, dx, fs, rfl, h, c, n, l, k⟩
end
theorem rd_rf {R : Prop} (k : R) : V.non = V.non ∧ R := ⟨rfl, k⟩
theorem rd_bm {K : PySem.W.Frag} {T : String} {r : V → List V → Hp → VK → Prop} {to : TE} {t : TA} {σ : L2.St} {H : Hp} {Q : VK} (k : to σ H fun x H1 => tyV K T x H1 ∧ t σ H1 fun xs H2 => r x xs H2 Q) : tBM K T r to t σ H Q := k
local macro_rules | `(tactic| fail "z hp") => `(tactic| (with_reducible first
  | assumption
  | exact L2.upd_same
  | (refine' (L2.upd_ne ?zn).trans ?zm; (case zn => fail "z ne"); (case zm => fail "z hp"))))
local macro_rules | `(tactic| fail "z ne") => `(tactic| (with_reducible first
  | assumption
  | exact Ne.symm (by assumption)
  | exact Zg.nn (by assumption) (by assumption)
  | exact Zg.nn' (by assumption) (by assumption)
  | (refine' Zg.nn (by assumption) ?zm; (case zm => fail "z hp"))
  | (refine' Zg.nn' (by assumption) ?zm; (case zm => fail "z hp"))))
local macro_rules | `(tactic| fail "z 1") => `(tactic| (with_reducible first
  | refine Zg.rd_var rfl ?_
  | refine Zg.rd_c ?_
  | refine Zg.rd_seq ?_
  | refine Zg.rd_asg ?_
  | refine Zg.rd_name ?_
  | refine Zg.rd_op ?_
  | refine Zg.rd_I0 ?_
  | refine Zg.rd_ret ?_
  | refine Zg.rd_ifS ?_
  | refine Zg.rd_test ?_
  | refine Zg.rd_tB ?_
  | refine Zg.rd_bl ?_
  | refine Zg.rd_un ?_
  | refine Zg.rd_U ?_
  | refine Zg.rd_cons ?_
  | refine Zg.rd_nil ?_
  | refine Zg.rd_sub ?_
  | refine Zg.rd_lst ?_
  | refine Zg.rd_tup ?_
  | refine Zg.rd_cb ?_
  | refine Zg.rd_call ?_
  | refine Zg.rd_make ?_
  | refine Zg.rd_fld ?_
  | refine Zg.rd_chain ?_
  | refine Zg.rd_and ?_
  | refine Zg.rd_or ?_
  | refine Zg.rd_not ?_
  | refine Zg.rd_andV ?_
  | refine Zg.rd_orV ?_
  | refine Zg.rd_notV ?_
  | refine Zg.rd_if ?_
  | refine Zg.rd_next ?_
  | refine Zg.rd_par ?_
  | refine Zg.rd_par2 ?_
  | refine Zg.rd_gnil ?_
  | refine Zg.rd_gcons ?_
  | refine Zg.rd_drop ?_
  | refine Zg.rd_retN ?_
  | refine Zg.rd_eq rfl ?_
  | refine Zg.rd_ne rfl ?_
  | refine Zg.rd_int ?_
  | refine Zg.rd_intB ?_
  | refine Zg.rd_one ?_
  | refine Zg.rd_two ?_
  | refine Zg.rd_sfld ?_
  | refine Zg.rd_bm ?_))
local macro_rules | `(tactic| fail "z side") => `(tactic| (with_reducible first
  | assumption
  | exact Zg.cmul_l (by omega) (by omega)
  | exact Zg.cmul_r (by omega) (by omega)
  | exact Zg.cpow (by omega) (by omega) (by omega) (by omega)
  | exact Zg.cdivw (by omega) (by omega)
  | (show (0 : Int) < _; omega)))
local macro_rules | `(tactic| fail "z 2") => `(tactic| (with_reducible first
  | (refine' Zg.rd_ixL0 ?zh ?_; (case zh => fail "z hp"))
  | (refine' Zg.rd_ixL1 ?zh ?_; (case zh => fail "z hp"))
  | (refine' Zg.rd_ixL2 ?zh ?_; (case zh => fail "z hp"))
  | (refine' Zg.rd_ixT0 ?zh ?_; (case zh => fail "z hp"))
  | (refine' Zg.rd_ixT1 ?zh ?_; (case zh => fail "z hp"))
  | (refine' Zg.rd_I ?zh ?_; (case zh => fail "z side"))
  | (refine' Zg.rd_setL0 ?zh ?_; (case zh => fail "z hp"))
  | (refine' Zg.rd_setL2 ?zh ?_; (case zh => fail "z hp"))
  | (refine' Zg.rd_lenL ?zh ?_; (case zh => fail "z hp"))
  | (refine' Zg.rd_lenT ?zh ?_; (case zh => fail "z hp"))
  | (refine' Zg.rd_new ?zh ?_; (case zh => exact (Nat.le_of_ble_eq_true rfl)))))
local macro_rules | `(tactic| fail "z go") => `(tactic| repeat (first | fail "z 1" | fail "z 2"))
local macro_rules | `(tactic| fail "z run") => `(tactic| repeat (first | fail "z 1" | fail "z 2" | (with_reducible first | refine L2.iteT ?_ | refine L2.iteF ?_ | refine Zg.rd_rf ?_)))
/-! ### own operators of instances -/
section
variable {X : Cx} {CX : CXT} {pins : List (Addr × Obj)} {σ : L2.St} {H : Hp} {s : Shared} {C g : Addr} {fd : FuncData} {ps : List Str} {k : Nat} {sp : Sp} {E : XK}
theorem run_in {A : Around} {Q : VK} {us : List Value} {ws : List V} (F : FnOk X.prog X.w X.K X.mg X.base CX k g fd ps sp) (hr : Room k A) (hb : Binds X.K fd ps []) (e0 : Env0 X.prog X.w X.K X.mg X.base A X.stack s H)
    (hx : Passes CX X E) (I : Inv X pins σ H s) (r : Vals ws us) (h : sp ws H Q E) : wpAny (model X.prog X.w) A (call (.ref g) us) (EP X pins σ Q) X.xe s := by
  have hl : (us ++ []).length = ps.length := by rw [List.append_nil, ← r.length]; exact F.len _ _ _ _ h
  have b := hb s us I.kIn hl
  rw [List.append_nil] at b
  refine wpAny_call (codeAny_mono (F.run A X.stack s H ⟨us, []⟩ us ws Q E hr e0 b r h) fun r s' hq => ?_)
  match r, hq with
  | .error e, z => exact hx pins σ H s e s' I z
  | .ok (.ret _), z => exact I.after z
  | .ok .next, z => exact z.elim
  | .ok .brk, z => exact z.elim
  | .ok .cont, z => exact z.elim
/-- x op y, two instances of the class at C whose def for op is at g -/
def rOwnI (C : Addr) (sp : Sp) (E : XK) : R2 := fun x y H Q => ∃ a dx fs b dy gs, x = .ref a ∧ y = .ref b ∧ H a = some (.ins C dx fs) ∧ H b = some (.ins C dy gs) ∧ sp [x, y] H Q E
theorem op_cmpI {op : CmpOp} (hop : ∀ a b, compareOp op a b = richCompare op a b) (hs : PySem.W.findIn X.K (.ref C) (cmpInfo op).2.1 = some (some (.ref g))) (hf : PySem.W.isFn X.K (.ref g) = true)
    (F : FnOk X.prog X.w X.K X.mg X.base CX k g fd ps sp) (hr : Room k X.A) (hb : Binds X.K fd ps []) (hx : Passes CX X E) : OpR X (compareOp op) (rOwnI C sp E) := by
  intro pins s σ H x y v u Q I rx ry h
  obtain ⟨a, dx, fs, b, dy, gs, rfl, rfl, ha, hb', q⟩ := h
  cases (show v = Value.ref a from rx)
  cases (show u = Value.ref b from ry)
  obtain ⟨mA, O, _⟩ := ins_get I.hok ha
  obtain ⟨od, J, _⟩ := O.look
  obtain ⟨mB, O', _⟩ := ins_get I.hok hb'
  obtain ⟨od', J', _⟩ := O'.look
  obtain ⟨m, hF⟩ := I.fr
  rw [hop]
  refine PySem.W.cmp_K (op := op) (tb := .ref C) hr.units0 hF I.ok.mod.kin J J'.type (by simp [PySem.W.notFirst]) hs hf ?_
  refine wpAny_mono (run_in (us := [.ref a, .ref b]) (ws := [.ref a, .ref b]) F hr hb I.env0 hx I (.cons rfl (.cons rfl .nil)) q) (fun w s' z => ?_) fun _ _ x => x
  obtain ⟨z', H', I', rz, qz⟩ := z
  exact SlX.cmpback rz ⟨z', H', I', rz, qz⟩
theorem op_binI {op : Operator} (hc : PySem.W.selfFirst X.K C = true) (hs : PySem.W.findIn X.K (.ref C) (PySem.dunder op.info.2) = some (some (.ref g))) (hf : PySem.W.isFn X.K (.ref g) = true)
    (F : FnOk X.prog X.w X.K X.mg X.base CX k g fd ps sp) (hr : Room k X.A) (hb : Binds X.K fd ps []) (hx : Passes CX X E) : OpR X (binaryOp op) (rOwnI C sp E) := by
  intro pins s σ H x y v u Q I rx ry h
  obtain ⟨a, dx, fs, b, dy, gs, rfl, rfl, ha, hb', q⟩ := h
  cases (show v = Value.ref a from rx)
  cases (show u = Value.ref b from ry)
  obtain ⟨mA, O, _⟩ := ins_get I.hok ha
  obtain ⟨od, J, _⟩ := O.look
  obtain ⟨mB, O', _⟩ := ins_get I.hok hb'
  obtain ⟨od', J', _⟩ := O'.look
  obtain ⟨m, hF⟩ := I.fr
  refine PySem.W.binop_K hF I.ok.mod.kin J J'.type hc hs hf ?_
  refine wpAny_mono (run_in (us := [.ref a, .ref b]) (ws := [.ref a, .ref b]) F hr hb I.env0 hx I (.cons rfl (.cons rfl .nil)) q) (fun w s' z => ?_) fun _ _ x => x
  obtain ⟨z', H', I', rz, qz⟩ := z
  exact SlX.cmpback rz ⟨z', H', I', rz, qz⟩
end
section
variable {M : Model} {prog : Program} {w : World} {A : Around} {E : Value → Shared → Prop} {s : Shared} {K : PySem.W.Frag} {x C f : Addr} {ox : Obj} {od : Option Obj} {b : Value}
theorem ifBound_ne {args : List Value} {Q : Option Value → Shared → Prop} (X : K.In s.heap) (I : PySem.W.InstAt s.heap x ox C od) (hs : PySem.W.findIn K (.ref C) "__ne__" = some (some (.builtin "object.__ne__")))
    (h : wpAny M A (call (.builtin "object.__ne__") (.ref x :: args)) (fun v => Q (some v)) E s) : wpAny M A (callSpecialIfBound? (.ref x) "__ne__" args) Q E s := by
  simp only [callSpecialIfBound?, bindSpecialIfBound?]
  refine wpAny_holding (wpAny_bind (wpAny_bind (wpAny_bind (I.type.here ((PySem.W.looks_findIn X hs).here ?_)))))
  refine wpAny_bind (wpAny_askSetting (wpAny_ite ?_))
  have fin : wpAny M A (call (.builtin "object.__ne__") ([.ref x] ++ args) >>= fun v => pure (some v)) Q E s := wpAny_bind (wpAny_mono h (fun v s' h' => wpAny_pure h') fun _ _ h' => h')
  split
  · exact wpAny_bind (wpAny_of_eq (F.cmp_object.ne.bind _) (wpAny_pure (by exact fin)))
  · exact wpAny_tryCatch (wpAny_bind (wpAny_of_eq (F.cmp_object.ne.bind _) (wpAny_pure (by exact fin))))
theorem entry_ne {Q : PySem.Fin → Shared → Prop} (hu : A.units < cLine) (X : K.In s.heap) (I : PySem.W.InstAt s.heap x ox C od) (hs : PySem.W.findIn K (.ref C) "__eq__" = some (some (.ref f))) (hf : PySem.W.isFn K (.ref f) = true)
    (h : wpAny (model prog w) A (call (.ref f) [.ref x, b]) (fun v s' => ∃ c, v = .bool c ∧ Q (.done (.ret (.bool (!c)))) s') E s) : wpAny (model prog w) A (Builtin.«object.__ne__» ⟨[.ref x, b], []⟩) Q E s := by
  unfold Builtin.«object.__ne__»
  repeat (first
    | with_reducible refine wpAny_cRoomFor hu ?_
    | (refine wpAny_bind (m := callSpecialIfBound? (.ref x) (Str.ofString "__eq__") [b])
        (PySem.W.ifBound_K X I hs hf (wpAny_mono h (fun r s' hr => by
          obtain ⟨c, rfl, hq⟩ := hr
          repeat (first | exact hq | exact wpAny_pure hq | exact wpAny_truthy_bool hq | (refine wpAny_bind (m := truthy (.bool _)) (wpAny_truthy_bool ?_)) | wp_step)) fun _ _ e => e)))
    | wp_step)
theorem ne_K {L : Addr} {h₀ : Heap} {m : Str → Option Value} {Q : Value → Shared → Prop} (hu : A.units + 1 < cLine) (F0 : PyProof.Rows.Fr h₀ L s.heap m) (X₀ : K.In h₀) (I : PySem.W.InstAt s.heap x ox C od) (hb : PySem.W.Looks (model prog w) s.heap (typeOf b) (.ref C))
    (hm : PySem.W.mroIn K C (.type "object") = some true) (hn : PySem.W.findIn K (.ref C) "__ne__" = some (some (.builtin "object.__ne__"))) (hs : PySem.W.findIn K (.ref C) "__eq__" = some (some (.ref f))) (hf : PySem.W.isFn K (.ref f) = true)
    (h : wpAny (model prog w) A.in1 (call (.ref f) [.ref x, b]) (fun v s' => ∃ c, v = .bool c ∧ Q (.bool (!c)) s') E s) : wpAny (model prog w) A (richCompare .NotEq (.ref x) b) Q E s := by
  have X := X₀.keeps F0.keep
  have one : wpAny (model prog w) A (tryCompare (.ref x) "__ne__" b) (fun r s' => ∃ v, r = some v ∧ Q v s') E s := by
    unfold tryCompare
    refine wpAny_bind (ifBound_ne X I hn (wpAny_call (codeAny_call_builtin F.cmp_object.ne.plain F.cmpEntry_ne (PySem.W.check_slot F.cmpKind_ne F.cmpSplit_ne (I.type.andThen (PySem.W.looks_mroIn X hm)) (F.cmpArgs_ne _ _)
      (entry_ne (A := A.in1) hu X I hs hf (wpAny_mono h (fun v s' hv => ?_) fun _ _ e => e))))))
    obtain ⟨c, rfl, hq⟩ := hv
    first
      | exact ⟨c, rfl, wpAny_pure ⟨_, rfl, hq⟩⟩
      | exact ⟨c, rfl, _, rfl, hq⟩
  simp only [richCompare, cmpInfo_NotEq, oneThing_ref]
  refine wpAny_holding (wpAny_bind (wpAny_cRoomFor (Nat.lt_of_succ_lt hu) ?_))
  refine wpAny_bind (I.type.here (wpAny_bind (hb.here ?_)))
  rw [show (Value.ref C != Value.ref C) = false from by simp]
  simp only [Bool.false_eq_true, if_false]
  refine wpAny_bind (wpAny_pure ?_)
  simp only [Bool.false_eq_true, if_false]
  refine wpAny_bind (wpAny_mono one (fun r s' z => ?_) fun _ _ e => e)
  obtain ⟨v, rfl, hq⟩ := z
  exact wpAny_pure hq
end
section
variable {X : Cx} {CX : CXT} {C g : Addr} {fd : FuncData} {ps : List Str} {k : Nat} {sp : Sp} {E : XK}
/-- x != y by the own == -/
def rNeI (C : Addr) (sp : Sp) (E : XK) : R2 := fun x y H Q => ∃ a dx fs b dy gs, x = .ref a ∧ y = .ref b ∧ H a = some (.ins C dx fs) ∧ H b = some (.ins C dy gs) ∧ sp [x, y] H (fun z H' => ∃ c, z = .bl c ∧ Q (.bl (!c)) H') E
theorem op_neI (hm : PySem.W.mroIn X.K C (.type "object") = some true) (hn : PySem.W.findIn X.K (.ref C) "__ne__" = some (some (.builtin "object.__ne__"))) (hs : PySem.W.findIn X.K (.ref C) "__eq__" = some (some (.ref g))) (hf : PySem.W.isFn X.K (.ref g) = true)
    (F : FnOk X.prog X.w X.K X.mg X.base CX k g fd ps sp) (hr : Room (k + 1) X.A) (hb : Binds X.K fd ps []) (hx : Passes CX X E) (hu : X.A.units + 1 < cLine) : OpR X (compareOp .NotEq) (rNeI C sp E) := by
  intro pins s σ H x y v u Q I rx ry h
  obtain ⟨a, dx, fs, b, dy, gs, rfl, rfl, ha, hb', q⟩ := h
  cases (show v = Value.ref a from rx)
  cases (show u = Value.ref b from ry)
  obtain ⟨mA, O, _⟩ := ins_get I.hok ha
  obtain ⟨od, J, _⟩ := O.look
  obtain ⟨mB, O', _⟩ := ins_get I.hok hb'
  obtain ⟨od', J', _⟩ := O'.look
  obtain ⟨m, hF⟩ := I.fr
  show wpAny _ _ (richCompare .NotEq (.ref a) (.ref b)) _ _ s
  refine ne_K hu hF I.ok.mod.kin J J'.type hm hn hs hf ?_
  refine wpAny_mono (run_in (us := [.ref a, .ref b]) (ws := [.ref a, .ref b]) F hr.in1 hb I.env0.in1 hx I (.cons rfl (.cons rfl .nil)) q) (fun w s' z => ?_) fun _ _ x => x
  obtain ⟨z', H', I', rz, c, ec, qz⟩ := z
  subst ec
  cases (show w = Value.bool c from rz)
  exact ⟨c, rfl, .bl (!c), H', I', rfl, qz⟩
end
def top (i : Nat) : Stmt := PySem.Challenge.pw_widerkeys_k00_kinds_of_numbers.main.body.getD i (.Pass ⟨0, 0, 0, 0⟩)
abbrev s__law_take : Stmt := (top 20)
abbrev N__law_take : List Str := ["_law_pot", "_law_upto", "_law_digit", "_law_prime", "_law_stirred"]
abbrev P__law_take : List Str := ["_law_pot", "_law_upto"]
theorem sc__law_take : FnScope N__law_take P__law_take (defScope s__law_take) := ⟨rfl, rfl, rfl, by decide +kernel, rfl, by decide +kernel, by decide +kernel⟩
abbrev s__law_of : Stmt := (top 21)
abbrev N__law_of : List Str := ["_law_pot", "_law_some"]
abbrev P__law_of : List Str := ["_law_pot", "_law_some"]
theorem sc__law_of : FnScope N__law_of P__law_of (defScope s__law_of) := ⟨rfl, rfl, rfl, by decide +kernel, rfl, by decide +kernel, by decide +kernel⟩
abbrev s__law_pot_of : Stmt := (top 19)
abbrev N__law_pot_of : List Str := ["_law_script", "_law_k", "_law_cell", "_law_own"]
abbrev P__law_pot_of : List Str := ["_law_script", "_law_k"]
theorem sc__law_pot_of : FnScope N__law_pot_of P__law_pot_of (defScope s__law_pot_of) := ⟨rfl, rfl, rfl, by decide +kernel, rfl, by decide +kernel, by decide +kernel⟩

/-- a pot from which n more numbers may be drawn -/
def Pot (H : Hp) (p : Addr) (n : Nat) : Prop := ∃ o s c : Int, H p = some (.lst [.int o, .int s, .int c]) ∧ 0 ≤ o ∧ 0 ≤ s ∧ s < 2305843009213693921 ∧ 0 ≤ c ∧ c + n ≤ 100000
/-- all that was tracked stands, but p -/
def Kp (p : Addr) (H H' : Hp) : Prop := ∀ b o, b ≠ p → H b = some o → H' b = some o
theorem Kp.refl {p : Addr} {H : Hp} : Kp p H H := fun _ _ _ h => h
theorem Kp.trans {p : Addr} {H H1 H2 : Hp} (a : Kp p H H1) (b : Kp p H1 H2) : Kp p H H2 := fun c o n h => b c o n (a c o n h)
theorem Kp.put {p : Addr} {H H1 : Hp} {o : HO} (a : Kp p H H1) : Kp p H (upd H1 p o) := fun c u n h => by
  rw [upd_ne n]
  exact a c u n h
theorem Kp.new {p q : Addr} {H H1 : Hp} {o : HO} (a : Kp p H H1) (hq : H1 q = none) : Kp p H (upd H1 q o) := fun c u n h => by
  have z := a c u n h
  rw [upd_ne (ne_of_none z hq)]
  exact z
theorem same_new {H : Hp} {p : Addr} {o : HO} (h : H p = none) : Same H (upd H p o) := fun b u e => (upd_ne (ne_of_none e h)).trans e
theorem if01 (b : Bool) : (0 : Int) ≤ if b = true then 1 else 0 := by cases b <;> decide
theorem Pot.le {H : Hp} {p : Addr} {m n : Nat} (h : Pot H p n) (l : m ≤ n) : Pot H p m := by
  obtain ⟨o, s, c, a, b, d, e, f, g⟩ := h
  exact ⟨o, s, c, a, b, d, e, f, by omega⟩
theorem Pot.new {H : Hp} {p q : Addr} {n : Nat} {o : HO} (h : Pot H p n) (hq : H q = none) : Pot (upd H q o) p n := by
  obtain ⟨x, s, c, a, b⟩ := h
  exact ⟨x, s, c, (upd_ne (ne_of_none a hq)).trans a, b⟩
theorem Pot.ne {H : Hp} {p q : Addr} {n : Nat} (h : Pot H p n) (hq : H q = none) : p ≠ q := by
  obtain ⟨x, s, c, a, b⟩ := h
  exact ne_of_none a hq
def spTake : Sp := fun vs H Q _ => ∃ (p : Addr) (n : Nat) (u : Int), vs = [.ref p, .int u] ∧ Pot H p (n + 1) ∧ 0 < u ∧ u < 2 ^ 200 ∧
  ∀ (r : Int) (H' : Hp), 0 ≤ r → r < u → Kp p H H' → Pot H' p n → Q (.int r) H'
def spOf : Sp := fun vs H Q _ => ∃ (p a : Addr) (n : Nat) (xs : List V), vs = [.ref p, .ref a] ∧ Pot H p (n + 1) ∧ a ≠ p ∧ H a = some (.lst xs) ∧ 0 < xs.length ∧ xs.length ≤ 1000 ∧
  ∀ (v : V) (H' : Hp), v ∈ xs → Kp p H H' → Pot H' p n → Q v H'
def spPotOf (K : PySem.W.Frag) : Sp := fun vs H Q _ => ∃ (a : Addr) (ns : List Int) (k : Int), vs = [.ref a, .int k] ∧ SqL K H a (ns.map V.int) ∧ ns.length ≤ 1000 ∧ 0 ≤ k ∧ k ≤ 2 ∧
  ∀ (p : Addr) (H' : Hp), H p = none → Same H H' → Pot H' p 100000 → Q (.ref p) H'
/-- a def that stands in the module under its name, with its promise -/
def Cal (P : Program) (w : World) (K : PySem.W.Frag) (mg : Str → Option Value) (base : Heap) (k : Nat) (x : Str) (ps : List Str) (sp : Sp) : Prop :=
  ∃ (f : Addr) (fd : FuncData), FnOk P w K mg base CX0 k f fd ps sp ∧ Binds K fd ps [] ∧ mg x = some (.ref f) ∧ PySem.W.keepIn K (.ref f) = true
def CalG (P : Program) (w : World) (K : PySem.W.Frag) (mg : Str → Option Value) (base : Heap) (k : Nat) (x : Str) (ps : List Str) (sp : Sp) : Prop :=
  ∃ (f : Addr) (fd : FuncData), FnG P w K mg base CX0 k f fd ps sp ∧ Binds K fd ps [] ∧ mg x = some (.ref f) ∧ PySem.W.keepIn K (.ref f) = true
theorem hu70 {k : Nat} {A : Around} (r : Room k A) : A.units + 70 < cLine := by
  have := r.un
  omega
structure Txt (mg : Str → Option Value) : Prop where
  n_int : mg "int" = none
  n_len : mg "len" = none
  n_abs : mg "abs" = none
  n_bool : mg "bool" = none
  n_tuple : mg "tuple" = none
  n_isinstance : mg "isinstance" = none
  n_range : mg "range" = none
  n_max : mg "max" = none
  n_min : mg "min" = none
  n_all : mg "all" = none
  n_repr : mg "repr" = none
section
variable {P : Program} {w : World} {K : PySem.W.Frag} {mg : Str → Option Value} {base : Heap}
theorem ok_take {f : Addr} {fd : FuncData} (F : Fun K "_law_take" "_law_take" s__law_take f fd) (T : Txt mg) : FnOk P w K mg base CX0 1 f fd P__law_take spTake := by
  refine F.ok sc__law_take (fun vs H Q E h => ?_) (fun cdv A outer s H vs Q E hr h => ?_)
  · obtain ⟨p, n, u, rfl, _⟩ := h
    rfl
  · obtain ⟨p, n, u, rfl, ⟨o, z, c, hp, o0, z0, z1, c0, c1⟩, u0, u1, k⟩ := h
    refine ⟨_, (pss_cons (ps_if (pt_cmpR op_gt (pe_ix ix_list (pv 0) pe_int (fun _ _ => rfl)) pe_int (nomark _)) (pss_cons (ps_set (i := 2) sc__law_take.nd rfl (Or.inl rfl) (pe_op op_mod (pe_callTy call_int1 (by rfl) T.n_int (by decide +kernel) (pa_cons (pe_ix ix_list (pv 0) pe_int (fun _ _ => rfl)) pa_nil)) (pv 1)))
      (pss_cons (ps_asg (pe_op op_fdivW (pe_ix ix_list (pv 0) pe_int (fun _ _ => rfl)) (pv 1)) (pg_sub (pv 0) pe_int set_list))
      (pss_one (ps_ret (pv 2))))) pss_nil)
      (pss_cons (ps_asg (pe_op op_add (pe_ix ix_list (pv 0) pe_int (fun _ _ => rfl)) pe_int) (pg_sub (pv 0) pe_int set_list))
      (pss_cons (ps_set (i := 3) sc__law_take.nd rfl (Or.inl rfl) (pe_ix ix_list (pe_lst (pa_cons pe_int (pa_cons pe_int (pa_cons pe_int (pa_cons pe_int (pa_cons pe_int pa_nil)))))) (pe_op op_mod (pe_callTy call_int1 (by rfl) T.n_int (by decide +kernel) (pa_cons (pe_ix ix_list (pv 0) pe_int (fun _ _ => rfl)) pa_nil)) pe_int) (fun _ _ => rfl)))
      (pss_cons (ps_set (i := 4) sc__law_take.nd rfl (Or.inl rfl) (pe_op op_mod (pe_callTy call_int1 (by rfl) T.n_int (by decide +kernel) (pa_cons (pe_op op_pow (pe_op op_add (pe_op op_add (pe_ix ix_list (pv 0) pe_int (fun _ _ => rfl)) (pe_op op_mul (pe_op op_mul pe_int (pe_ix ix_list (pv 0) pe_int (fun _ _ => rfl))) (pe_ix ix_list (pv 0) pe_int (fun _ _ => rfl)))) pe_int) pe_int) pa_nil)) (pv 3)))
      (pss_one (ps_ret (pe_op op_mod (pe_callTy call_int1 (by rfl) T.n_int (by decide +kernel) (pa_cons (pe_op op_fdivW (pe_op op_mul (pv 4) (pe_op op_add (pe_op op_mod (pe_callTy call_int1 (by rfl) T.n_int (by decide +kernel) (pa_cons (pv 4) pa_nil)) pe_int) (pe_op op_mul pe_int (pe_ix ix_list (pv 0) pe_int (fun _ _ => rfl))))) pe_int) pa_nil)) (pv 1)))))))), ?_⟩
    fail "z go"
    refine rd_ite (fun h => ?_) (fun h => ?_)
    · fail "z go"
      exact k _ _ (Int.emod_nonneg _ (by omega)) (Int.emod_lt_of_pos _ u0) Kp.refl.put ⟨_, _, _, upd_same, Int.ediv_nonneg o0 (by omega), z0, z1, c0, by omega⟩
    · fail "z go"
      intro q hq
      have npq : p ≠ q := ne_of_none upd_same hq
      fail "z go"
      refine rd_ixLr upd_same (Int.emod_nonneg _ (by decide)) (Int.emod_lt_of_pos _ (by decide)) fun m hm => ?_
      obtain ⟨m, rfl, m0, m1⟩ : ∃ i : Int, m = .int i ∧ 2147483563 ≤ i ∧ i ≤ 2147483647 := by
        simp only [List.mem_cons, List.not_mem_nil, or_false] at hm
        rcases hm with rfl | rfl | rfl | rfl | rfl <;> exact ⟨_, rfl, by decide, by decide⟩
      have sq0 : 0 ≤ (c + 1) * (c + 1) := Int.mul_nonneg (by omega) (by omega)
      have sq1 : (c + 1) * (c + 1) ≤ 100000 * 100000 := Int.mul_le_mul (by omega) (by omega) (by omega) (by decide)
      have sq2 : 90001 * (c + 1) * (c + 1) = 90001 * ((c + 1) * (c + 1)) := Int.mul_assoc _ _ _
      fail "z go"
      refine k _ _ (Int.emod_nonneg _ (by omega)) (Int.emod_lt_of_pos _ u0) (Kp.refl.put.new hq) ⟨_, _, _, (upd_ne npq).trans upd_same, o0, z0, z1, by omega, by omega⟩
theorem ok_of {f : Addr} {fd : FuncData} (F : Fun K "_law_of" "_law_of" s__law_of f fd) (T : Txt mg) (c_take : Cal P w K mg base 1 "_law_take" P__law_take spTake) :
    FnOk P w K mg base CX0 2 f fd P__law_of spOf := by
  obtain ⟨f_take, fd_take, G__law_take, b__law_take, g__law_take, k__law_take⟩ := c_take
  refine F.ok sc__law_of (fun vs H Q E h => ?_) (fun cdv A outer s H vs Q E hr h => ?_)
  · obtain ⟨p, a, n, xs, rfl, _⟩ := h
    rfl
  · obtain ⟨p, a, n, xs, rfl, hp, nap, ha, l0, l1, k⟩ := h
    refine ⟨_, (pss_one (ps_ret (pe_ix ix_list (pv 1) (pe_call G__law_take (hr.mono (by decide)) rfl g__law_take k__law_take b__law_take .nil pass0 (pa_cons (pv 0) (pa_cons (pe_callB call_len_seq (by rfl) T.n_len (by decide +kernel) (pa_cons (pv 1) pa_nil)) pa_nil))) (fun _ _ => rfl)))), ?_⟩
    fail "z go"
    refine ⟨p, n, _, rfl, hp, by omega, by omega, fun r H' r0 r1 kp pt => ?_⟩
    exact rd_ixLr (kp a _ nap ha) r0 r1 fun v hv => k v H' hv kp pt
theorem ok_pot_of {f : Addr} {fd : FuncData} (F : Fun K "_law_pot_of" "_law_pot_of" s__law_pot_of f fd) (T : Txt mg) : FnOk P w K mg base CX0 1 f fd P__law_pot_of (spPotOf K) := by
  refine F.ok sc__law_pot_of (fun vs H Q E h => ?_) (fun cdv A outer s H vs Q E hr h => ?_)
  · obtain ⟨a, ns, x, rfl, _⟩ := h
    rfl
  · obtain ⟨a, ns, x, rfl, hS, few, x0, x1, k⟩ := h
    refine ⟨_, (pss_cons (ps_set (i := 2) sc__law_pot_of.nd rfl (Or.inl rfl) (pe_ifExp (pt_cmpR op_lt (pv 1) (pe_callB call_len_seq (by rfl) T.n_len (by decide +kernel) (pa_cons (pv 0) pa_nil)) (nomark _)) (pe_ix ix_list (pv 0) (pv 1) (fun _ _ => rfl)) (pe_op op_add (pe_op op_mul pe_int (pv 1)) pe_int)))
      (pss_cons (ps_set (i := 3) sc__law_pot_of.nd rfl (Or.inl rfl) (pe_op op_mul (pe_op op_mod (pe_callTy call_int1 (by rfl) T.n_int (by decide +kernel) (pa_cons (pe_callB call_abs (by rfl) T.n_abs (by decide +kernel) (pa_cons (pv 2) pa_nil)) pa_nil)) (pe_op op_powZ (pe_op op_pow pe_int pe_int) pe_int)) (pe_callTy call_int1 (by rfl) T.n_int (by decide +kernel) (pa_cons (pe_cmpR op_ge (pe_callB call_abs (by rfl) T.n_abs (by decide +kernel) (pa_cons (pv 2) pa_nil)) (pe_op op_pow pe_int pe_int) (nomark _)) pa_nil))))
      (pss_one (ps_ret (pe_lst (pa_cons (pv 3) (pa_cons (pe_op op_mod (pe_callTy call_int1 (by rfl) T.n_int (by decide +kernel) (pa_cons (pe_op op_add (pe_op op_add (pe_op op_mul (pe_op op_mod (pe_callTy call_int1 (by rfl) T.n_int (by decide +kernel) (pa_cons (pv 2) pa_nil)) pe_int) pe_int) (pe_op op_mul (pe_op op_mul pe_int (pv 1)) (pv 1))) pe_int) pa_nil)) pe_int) (pa_cons pe_int pa_nil)))))))), ?_⟩
    fail "z go"
    refine rd_lenLs hS ?_
    fail "z go"
    refine rd_ite (fun h => ?_) (fun h => ?_)
    · fail "z go"
      refine rd_ixLsr hS x0 h fun v hv => ?_
      obtain ⟨c, _, rfl⟩ := List.mem_map.mp hv
      fail "z go"
      refine rd_I (show CPowZ _ _ from ⟨by decide, by decide +kernel⟩) ?_
      fail "z go"
      refine rd_I (by decide +kernel) ?_
      fail "z go"
      intro p hp
      refine k p _ hp (same_new hp) ⟨_, _, _, upd_same, Int.mul_nonneg (Int.emod_nonneg _ (by decide +kernel)) (if01 _), Int.emod_nonneg _ (by decide), Int.emod_lt_of_pos _ (by decide), by decide, by decide⟩
    · fail "z go"
      refine rd_I (show CPowZ _ _ from ⟨by decide, by decide +kernel⟩) ?_
      fail "z go"
      refine rd_I (by decide +kernel) ?_
      fail "z go"
      intro p hp
      refine k p _ hp (same_new hp) ⟨_, _, _, upd_same, Int.mul_nonneg (Int.emod_nonneg _ (by decide +kernel)) (if01 _), Int.emod_nonneg _ (by decide), Int.emod_lt_of_pos _ (by decide), by decide, by decide⟩
/-! ### integers and kinds -/
abbrev s_is_integer : Stmt := (top 8)
abbrev N_is_integer : List Str := ["value"]
abbrev P_is_integer : List Str := ["value"]
theorem sc_is_integer : FnScope N_is_integer P_is_integer (defScope s_is_integer) := ⟨rfl, rfl, rfl, by decide +kernel, rfl, by decide +kernel, by decide +kernel⟩
abbrev s_Kind___init__ : Stmt := (inClass (top 16) 0)
abbrev N_Kind___init__ : List Str := ["self", "low", "high"]
abbrev P_Kind___init__ : List Str := ["self", "low", "high"]
theorem sc_Kind___init__ : FnScope N_Kind___init__ P_Kind___init__ (defScope s_Kind___init__) := ⟨rfl, rfl, rfl, by decide +kernel, rfl, by decide +kernel, by decide +kernel⟩

/-- a plain value: none, a bool, an int, a text, a list, a tuple, a dict -/
inductive Plain (H : Hp) : V → Prop where
  | non : Plain H .non
  | bl (b : Bool) : Plain H (.bl b)
  | int (i : Int) : Plain H (.int i)
  | str (x : Str) : Plain H (.str x)
  | lst {a : Addr} {xs : List V} (e : H a = some (.lst xs)) : Plain H (.ref a)
  | tup {a : Addr} {xs : List V} (e : H a = some (.tup xs)) : Plain H (.ref a)
  | dK {a : Addr} {kvs : List (Key × V)} (e : H a = some (.dK kvs)) : Plain H (.ref a)
def isI : V → Bool
  | .int _ => true
  | _ => false
/-- isinstance of a plain value and a built-in class -/
theorem rd_isi {K : PySem.W.Frag} {H : Hp} {Q : VK} {v : V} {t n : String} {b : Bool} (ty : TyX K H v (.type t)) (e : kitB t n = some b) (k : Q (.bl b) H) : rIsi K [v, .ty n] H Q :=
  ⟨v, .ty n, _, _, b, rfl, .ty n, ty, kit_ty e, k⟩
theorem rd_isiP {K : PySem.W.Frag} {H : Hp} {Q : VK} {v : V} (p : Plain H v) (k1 : ∀ b : Bool, (b = true → isI v = true ∨ ∃ c, v = .bl c) → (isI v = true → b = true) → (∀ c, v = .bl c → b = true) → Q (.bl b) H) : rIsi K [v, .ty "int"] H Q := by
  cases p with
  | non => exact rd_isi (.base .non) (by decide +kernel) (k1 false (fun z => nomatch z) (fun z => nomatch z) fun c z => nomatch z)
  | bl b => exact rd_isi (.base (.bl b)) (by decide +kernel) (k1 true (fun _ => .inr ⟨b, rfl⟩) (fun _ => rfl) fun _ _ => rfl)
  | int i => exact rd_isi (.base (.int i)) (by decide +kernel) (k1 true (fun _ => .inl rfl) (fun _ => rfl) fun _ _ => rfl)
  | str x => exact rd_isi (.base (.str x)) (by decide +kernel) (k1 false (fun z => nomatch z) (fun z => nomatch z) fun c z => nomatch z)
  | lst e => exact rd_isi (.base (.lst e)) (by decide +kernel) (k1 false (fun z => nomatch z) (fun z => nomatch z) fun c z => nomatch z)
  | tup e => exact rd_isi (.base (.tup e)) (by decide +kernel) (k1 false (fun z => nomatch z) (fun z => nomatch z) fun c z => nomatch z)
  | dK e => exact rd_isi (.base (.dK e)) (by decide +kernel) (k1 false (fun z => nomatch z) (fun z => nomatch z) fun c z => nomatch z)
theorem rd_isiB {K : PySem.W.Frag} {H : Hp} {Q : VK} {v : V} (p : Plain H v) (k1 : ∀ b : Bool, (b = true ↔ ∃ c, v = .bl c) → Q (.bl b) H) : rIsi K [v, .ty "bool"] H Q := by
  cases p with
  | non => exact rd_isi (.base .non) (by decide +kernel) (k1 false ⟨fun z => Bool.noConfusion z, fun ⟨c, z⟩ => V.noConfusion z⟩)
  | bl b => exact rd_isi (.base (.bl b)) (by decide +kernel) (k1 true ⟨fun _ => ⟨b, rfl⟩, fun _ => rfl⟩)
  | int i => exact rd_isi (.base (.int i)) (by decide +kernel) (k1 false ⟨fun z => Bool.noConfusion z, fun ⟨c, z⟩ => V.noConfusion z⟩)
  | str x => exact rd_isi (.base (.str x)) (by decide +kernel) (k1 false ⟨fun z => Bool.noConfusion z, fun ⟨c, z⟩ => V.noConfusion z⟩)
  | lst e => exact rd_isi (.base (.lst e)) (by decide +kernel) (k1 false ⟨fun z => Bool.noConfusion z, fun ⟨c, z⟩ => V.noConfusion z⟩)
  | tup e => exact rd_isi (.base (.tup e)) (by decide +kernel) (k1 false ⟨fun z => Bool.noConfusion z, fun ⟨c, z⟩ => V.noConfusion z⟩)
  | dK e => exact rd_isi (.base (.dK e)) (by decide +kernel) (k1 false ⟨fun z => Bool.noConfusion z, fun ⟨c, z⟩ => V.noConfusion z⟩)
def spIsInt : Sp := fun vs H Q _ => ∃ v, vs = [v] ∧ Plain H v ∧ Q (.bl (isI v)) H
theorem ok_is_integer {f : Addr} {fd : FuncData} (F : Fun K "is_integer" "is_integer" s_is_integer f fd) (T : Txt mg) : FnOk P w K mg base CX0 1 f fd P_is_integer spIsInt := by
  refine F.ok sc_is_integer (fun vs H Q E h => ?_) (fun cdv A outer s H vs Q E hr h => ?_)
  · obtain ⟨v, rfl, _⟩ := h
    rfl
  · obtain ⟨v, rfl, p, k⟩ := h
    refine ⟨_, (pss_one (ps_ret (pe_and (pe_callB call_isi (by rfl) T.n_isinstance (by decide +kernel) (pa_cons (pv 0) (pa_cons (pe_bltn (v := .ty "int") (by rfl) T.n_int (by decide +kernel) rfl) pa_nil))) (pe_one (pe_not (pe_callB call_isi (by rfl) T.n_isinstance (by decide +kernel) (pa_cons (pv 0) (pa_cons (pe_bltn (v := .ty "bool") (by rfl) T.n_bool (by decide +kernel) rfl) pa_nil)))))))), ?_⟩
    fail "z go"
    refine rd_isiP p fun b h1 h2 h3 => ?_
    fail "z go"
    refine rd_iteB (fun hb => ?_) (fun hb => ?_)
    · fail "z go"
      refine rd_isiB p fun c hc => ?_
      fail "z go"
      show Q (.bl (!c)) H
      have e : (!c) = isI v := by
        rcases h1 hb with z | z
        · rw [z]
          cases c with
          | false => rfl
          | true =>
            obtain ⟨d, rfl⟩ := hc.mp rfl
            cases z
        · rw [hc.mpr z]
          obtain ⟨d, rfl⟩ := z
          rfl
      rw [e]
      exact k
    · show Q (.bl false) H
      have e : isI v = false := by
        cases q : isI v with
        | false => rfl
        | true =>
          rw [h2 q] at hb
          cases hb
      rw [← e]
      exact k
/-- the fields of a kind -/
def kf (lo hi : Int) : List (Str × V) := putF "size" (.int (hi - lo + 1)) (putF "high" (.int hi) (putF "low" (.int lo) []))
theorem kf_low (lo hi : Int) : (kf lo hi).lookup ("low" : Str) = some (.int lo) := by
  unfold kf
  rw [lookup_putF, if_neg (by decide +kernel), lookup_putF, if_neg (by decide +kernel), lookup_putF, if_pos rfl]
theorem kf_high (lo hi : Int) : (kf lo hi).lookup ("high" : Str) = some (.int hi) := by
  unfold kf
  rw [lookup_putF, if_neg (by decide +kernel), lookup_putF, if_pos rfl]
theorem kf_size (lo hi : Int) : (kf lo hi).lookup ("size" : Str) = some (.int (hi - lo + 1)) := by
  unfold kf
  rw [lookup_putF, if_pos rfl]
structure KindT (K : PySem.W.Frag) (C : Addr) : Prop where
  cl : Cls K C
  n_low : NoAttr K C "low"
  n_high : NoAttr K C "high"
  n_size : NoAttr K C "size"
def IsKind (C : Addr) (H : Hp) (a : Addr) (lo hi : Int) : Prop := ∃ dx, H a = some (.ins C dx (kf lo hi))
theorem IsKind.same {C a : Addr} {H H' : Hp} {lo hi : Int} (h : IsKind C H a lo hi) (s : Same H H') : IsKind C H' a lo hi := by
  obtain ⟨dx, e⟩ := h
  exact ⟨dx, s _ _ e⟩
end
/-! ### small data, its text -/
structure Sm (k n : Nat) (d : PyData) : Prop where
  sh : d.showable = true
  nd : d.hasDict = false
  cl : d.canLay0 = true
  ls : d.leavesShort 250 = true
  wt : d.weight ≤ n
  dp : d.depth ≤ k
structure SmAll (k n : Nat) (ds : List PyData) : Prop where
  sh : PyData.showableAll ds = true
  nd : PyData.hasDictAll ds = false
  cl : PyData.canLayAll0 ds = true
  ls : PyData.leavesShortAll 250 ds = true
  wt : PyData.weightAll ds ≤ n
  dp : PyData.depthAll ds ≤ k
theorem sm_none {k : Nat} : Sm k 0 .none := ⟨by simp [PyData.showable], by simp [PyData.hasDict], by simp [PyData.canLay0], by simp [PyData.leavesShort], by simp [PyData.weight], by simp [PyData.depth]⟩
theorem sm_bool {k : Nat} (b : Bool) : Sm k 0 (.bool b) := ⟨by simp [PyData.showable], by simp [PyData.hasDict], by simp [PyData.canLay0], by simp [PyData.leavesShort], by simp [PyData.weight], by simp [PyData.depth]⟩
theorem log_of {i : Int} (h1 : -(2 ^ 200) < i) (h2 : i < 2 ^ 200) : i.natAbs.log2 < 200 := PySem.Flt.log2_lt_of (by decide) (by omega)
theorem sm_int {k : Nat} {i : Int} (h1 : -(2 ^ 200) < i) (h2 : i < 2 ^ 200) : Sm k 201 (.int i) := by
  have l := log_of h1 h2
  have t := int_text_length_le (k := 200) (by decide) l
  refine ⟨by simp only [PyData.showable, decide_eq_true_eq]; omega, by simp [PyData.hasDict], by simp [PyData.canLay0], ?_, ?_, by simp [PyData.depth]⟩
  · simp only [PyData.leavesShort, decide_eq_true_eq]
    show (Str.ofString (toString i)).length ≤ 250
    rw [PySem.ofString_length]
    omega
  · simp only [PyData.weight]
    split <;> omega
theorem sm_nil {k : Nat} : SmAll k 0 [] := ⟨by simp [PyData.showableAll], by simp [PyData.hasDictAll], by simp [PyData.canLayAll0], by simp [PyData.leavesShortAll], by simp [PyData.weightAll], by simp [PyData.depthAll]⟩
theorem sm_cons {k a b : Nat} {d : PyData} {ds : List PyData} (h : Sm k a d) (t : SmAll k b ds) : SmAll k (a + 1 + b) (d :: ds) := by
  refine ⟨by simp [PyData.showableAll, h.sh, t.sh], by simp [PyData.hasDictAll, h.nd, t.nd], by simp [PyData.canLayAll0, h.cl, t.cl], by simp [PyData.leavesShortAll, h.ls, t.ls], ?_, ?_⟩
  · have := h.wt
    have := t.wt
    simp only [PyData.weightAll]
    omega
  · have := h.dp
    have := t.dp
    simp only [PyData.depthAll]
    omega
theorem sm_list {k n : Nat} {ds : List PyData} (t : SmAll k n ds) : Sm (k + 1) n (.list ds) :=
  ⟨by simp [PyData.showable, t.sh], by simp [PyData.hasDict, t.nd], by simp [PyData.canLay0, t.cl], by simp [PyData.leavesShort, t.ls], by simp [PyData.weight, t.wt], by have := t.dp; simp only [PyData.depth]; omega⟩
theorem sm_tup {k n : Nat} {ds : List PyData} (t : SmAll k n ds) : Sm (k + 1) n (.tuple ds) :=
  ⟨by simp [PyData.showable, t.sh], by simp [PyData.hasDict, t.nd], by simp [PyData.canLay0, t.cl], by simp [PyData.leavesShort, t.ls], by simp [PyData.weight, t.wt], by have := t.dp; simp only [PyData.depth]; omega⟩
theorem Sm.text {k n : Nat} {d : PyData} (h : Sm k n d) (hn : n ≤ 50000) : d.shown.length ≤ sizeLine := by
  have e := PyData.shown_le 250 (by decide) d h.ls
  have w := h.wt
  rw [sizeLine_eq]
  omega
theorem Sm.shaped {k n : Nat} {d : PyData} (h : Sm k n d) (hk : k ≤ 60) : SeqAt.shaped d = true := by
  have := h.dp
  unfold SeqAt.shaped
  rw [h.cl, Bool.true_and]
  exact decide_eq_true (by omega)
theorem rd_repr {K : PySem.W.Frag} {H : Hp} {Q : VK} {v : V} {d : PyData} {k n : Nat} (h : Dp K H v d) (s : Sm k n d) (hk : k ≤ 60) (hn : n ≤ 50000) (q : Q (.str d.shown) H) : rReprD K [v] H Q := by
  refine ⟨v, d, rfl, h, s.sh, s.nd, by have := s.dp; omega, s.text hn, fun i e => ?_, q⟩
  subst e
  cases h
  have z := s.sh
  simp only [PyData.showable, decide_eq_true_eq] at z
  exact z
theorem rd_neD {K : PySem.W.Frag} {H : Hp} {Q : VK} {x y : V} {d e : PyData} {k n k' n' : Nat} (h : Dp K H x d) (h' : Dp K H y e) (s : Sm k n d) (s' : Sm k' n' e) (hk : k ≤ 60) (hk' : k' ≤ 60) (q : Q (.bl (!PyData.eqv d e)) H) : rNeD K x y H Q :=
  ⟨d, e, h, h', s.shaped hk, s'.shaped hk', q⟩
theorem rd_eqD {K : PySem.W.Frag} {H : Hp} {Q : VK} {x y : V} {d e : PyData} {k n k' n' : Nat} (h : Dp K H x d) (h' : Dp K H y e) (s : Sm k n d) (s' : Sm k' n' e) (hk : k ≤ 60) (hk' : k' ≤ 60) (q : Q (.bl (PyData.eqv d e)) H) : rEqD K x y H Q :=
  ⟨d, e, h, h', s.shaped hk, s'.shaped hk', q⟩
theorem Sm.up {k n k' n' : Nat} {d : PyData} (h : Sm k n d) (hk : k ≤ k') (hn : n ≤ n') : Sm k' n' d := ⟨h.sh, h.nd, h.cl, h.ls, Nat.le_trans h.wt hn, Nat.le_trans h.dp hk⟩
/-! ### a caught error that is kept behind its suite -/
section
variable {X : Cx} {pins : List (Addr × Obj)} {σ : L2.St} {H : Hp} {s : Shared}
/-- what is kept behind: the context with the error pinned -/
abbrev kept (X : Cx) (a : Addr) (oe : Obj) (pn : List (Addr × Obj)) : Cx := X.tr ((a, oe) :: pn) X.xe
theorem un_kept {a : Addr} {oe : Obj} {pn' : List (Addr × Obj)} (ok : X.Ok) (J : Inv (kept X a oe (X.pn ++ pins)) pn' σ H s) : Inv X pins σ H s where
  ok := ok
  os := J.os
  bare := J.bare
  base := J.base
  loc := J.loc
  cell := J.cell
  free := J.free
  freeC := J.freeC
  pin := fun q hq => J.pin q (List.mem_append.mpr (.inl (List.mem_cons.mpr (.inr hq))))
  hok := J.hok
  len := J.len
theorem kept_of {a : Addr} {oe : Obj} {pn pn' : List (Addr × Obj)} (ok : X.Ok) (J : Inv (X.suite a ((a, oe) :: pn)) pn' σ H s) : Inv (kept X a oe pn) pn' σ H s where
  ok := ok.toTry _ _
  os := J.os
  bare := J.bare
  base := J.base
  loc := J.loc
  cell := J.cell
  free := J.free
  freeC := J.freeC
  pin := J.pin
  hok := J.hok
  len := J.len
theorem sp_kept {a : Addr} {oe : Obj} {D : Ends} {fl : Flow} (ok : X.Ok) (h : SP (kept X a oe (X.pn ++ pins)) [] D fl s) : SP X pins D fl s := by
  match fl, h with
  | .next, ⟨σ', H', J, q⟩ => exact ⟨σ', H', un_kept ok J, q⟩
  | .brk, ⟨σ', H', J, q⟩ => exact ⟨σ', H', un_kept ok J, q⟩
  | .cont, ⟨σ', H', J, q⟩ => exact ⟨σ', H', un_kept ok J, q⟩
  | .ret _, ⟨v, σ', H', J, r, q⟩ => exact ⟨v, σ', H', un_kept ok J, r, q⟩
end
/-- what a try that keeps its error wishes of one that its body raises -/
def wKeep (K : PySem.W.Frag) (c : Value) (i : Nat) (ts tk : Addr → Value → Option Addr → TS) (D : Ends) : WX := fun cls d σ H =>
  PySem.W.exmOne K cls c = some true ∧ ∀ a, H a = none → ts a cls d { nx := fun σ' H' => tk a cls d D (σ'.set i none) H', rt := fun _ _ => False } (σ.set i (some (.ref a))) H
section
variable {X : Cx} {x n : Str} {c : Value} {i : Nat} {body suite rest : List Stmt} {b₀ : Stmt} {np pos pos' : Pos} {tb : WX → TS} {ts tk : Addr → Value → Option Addr → TS} {t0 : TS}
/-- try: body / except x as n: suite, and what stands behind, read in the light of the error that was caught -/
theorem pss_keep (hs : X.stack = X.env :: X.outer) (hf : X.env.frame = some X.env.locals) (hN : X.N.Nodup) (hi : X.N[i]? = some n) (hln : X.env.kindOf n = some .local) (hc : Names X x c)
    (hb : ∀ (W : WX) (pn : List (Addr × Obj)) (xe : Value → Shared → Prop), Takes (X.tr pn xe) W → PSs (X.tr pn xe) body (tb W))
    (hsu : ∀ (a : Addr) (oe : Obj) (cls : Value) (d : Option Addr) (pn : List (Addr × Obj)), Zc cls d oe → (∃ vs, oe.data = .fields vs) → PSs (X.suite a ((a, oe) :: pn)) (b₀ :: suite) (ts a cls d))
    (h0 : PSs X rest t0)
    (hk : ∀ (a : Addr) (oe : Obj) (cls : Value) (d : Option Addr) (pn : List (Addr × Obj)), Zc cls d oe → (∃ vs, oe.data = .fields vs) → PSs (kept X a oe pn) rest (tk a cls d)) :
    PSs X (.Try body [.ExceptHandler (some (.Name x np)) (some n) (b₀ :: suite) pos'] [] [] pos :: rest) (fun D σ H => tb (wKeep X.K c i ts tk D) { D with nx := t0 D } σ H) := by
  constructor
  intro pins s σ H D I h
  have ok := I.ok
  -- either as behind any statement, or with the error kept
  refine wpAny_execs_cons (thn (Q := fun fl s1 => SP X pins { D with nx := t0 D } fl s1 ∨ (fl = .next ∧ ∃ (a : Addr) (oe : Obj) (cls : Value) (d : Option Addr) (σ' : L2.St) (H' : Hp), Zc cls d oe ∧ (∃ vs, oe.data = .fields vs) ∧
    Inv (kept X a oe (X.pn ++ pins)) [] σ' H' s1 ∧ tk a cls d D σ' H')) ?_ fun fl s1 z => ?_)
  · have hfr : X.A.frames = some (X.env :: X.outer) := ok.frames.trans (congrArg some hs)
    refine wpAny_Try_except ?_
    refine wpAny_mono ((hb (wKeep X.K c i ts tk D) (X.pn ++ pins) _ (fun u s' xx => ?_)).run [] s σ H _ (I.toTry _) h) (fun fl s1 z => ?_) (fun e s1 he => he)
    · -- what the body raises is caught here
      obtain ⟨a, B, sI, pins', σ', H', cls, d, eu, J', nb, up, sky, na, os, ag, hyes, hgo⟩ := xx
      subst eu
      have J : Inv X pins σ' H' sI := J'.ofTry ok
      have air : Sky B (X.env :: X.outer) a (Zc cls d) X.env.locals s'.heap := hs ▸ sky
      refine Sky.land Zc.steady hfr hf air fun h1 fly1 up1 => ?_
      have J1 : Inv X pins σ' H' { s' with heap := h1 } := J.landed nb fly1.1 (up.trans up1) os ag
      obtain ⟨o1, v1, at1, z1, f1⟩ := fly1.there
      have off : a ∉ frs (X.env :: X.outer) := fun hm => by
        obtain ⟨_, o', e', no⟩ := fly1.2.2.1.mem hm
        rw [at1] at e'
        cases e'
        exact no _ f1
      have offL : a ≠ X.env.locals := fun z => off (List.mem_filterMap.mpr ⟨X.env, List.mem_cons_self, hf.trans (congrArg some z.symm)⟩)
      have offF : a ∉ X.fs := fun hm => by
        obtain ⟨e, m, q⟩ := List.mem_filterMap.mp hm
        exact off (List.mem_filterMap.mpr ⟨e, List.mem_cons_of_mem _ m, q⟩)
      have S1 := J1.suite at1 f1 na offL offF
      have cl : PySem.W.Looks (model X.prog X.w) h1 (typeOf (.ref a)) cls := fun A Q E s k q => wpAny_typeOf_ref (k _ _ at1) (z1.1.symm ▸ q)
      have fits := PySem.W.exm_one (M := model X.prog X.w) J1.kIn cl hyes
      have named : ∀ {Q : Value → Shared → Prop} {E : Value → Shared → Prop}, Q c { s' with heap := h1 } → wpAny (model X.prog X.w) (X.A.mark (some (.ref a))) (eval (.Name x np) X.env) Q E { s' with heap := h1 } := fun {Q E} q => by
        obtain ⟨g, nodb, m⟩ := hc
        rcases m with m | ⟨m, bt, nn⟩
        · exact ld_glob (X := X.suite a ((a, o1) :: (X.pn ++ pins))) S1 g m q nodb
        · exact ld_blt (X := X.suite a ((a, o1) :: (X.pn ++ pins))) S1 g m bt q nn nodb
      refine wpAny_handleBy_cons (codeAny_handlers_test (named (fits.here ?_))) (fun q => nomatch q)
      refine codeAny_handlers_suite_as (HandSPX.lands_againZ fly1 fun h2 fly2 up2 => ?_)
      obtain ⟨o2, v2, at2, z2, f2⟩ := fly2.there
      have S2 := (J.landed (s' := { s' with heap := h2 }) nb fly2.1 ((up.trans up1).trans up2) os ag).suite at2 f2 na offL offF
      refine store_ok (X := X.suite a ((a, o2) :: (X.pn ++ pins))) (v := .ref a) S2 hN hi (.inl hln) rfl (fun s3 S3 => ?_) (.inr hln)
      refine wpAny_mono ((hsu a o2 cls d (X.pn ++ pins) z2 ⟨_, f2⟩).run [] s3 _ H' _ S3 (hgo a na)) (fun fl s4 z => ?_) (fun _ _ z => False.elim z)
      match fl, z with
      | .next, ⟨σ4, H4, S4, q4⟩ => exact gone_ok (X := kept X a o2 (X.pn ++ pins)) (kept_of ok S4) hN hi hln fun s5 J5 => .inr ⟨rfl, a, o2, cls, d, _, _, z2, ⟨_, f2⟩, J5, q4⟩
      | .brk, ⟨_, _, _, q4⟩ => exact False.elim q4
      | .cont, ⟨_, _, _, q4⟩ => exact False.elim q4
      | .ret _, ⟨_, _, _, _, _, q4⟩ => exact False.elim q4
    · match fl, z with
      | .next, ⟨σ', H', J', q⟩ => exact wpAny_execs_nil (.inl ⟨σ', H', J'.ofTry ok, q⟩)
      | .brk, ⟨σ', H', J', q⟩ => exact .inl ⟨σ', H', J'.ofTry ok, q⟩
      | .cont, ⟨σ', H', J', q⟩ => exact .inl ⟨σ', H', J'.ofTry ok, q⟩
      | .ret _, ⟨v, σ', H', J', r, q⟩ => exact .inl ⟨v, σ', H', J'.ofTry ok, r, q⟩
  · rcases z with z | ⟨rfl, a, oe, cls, d, σ', H', zc, hd, J, q⟩
    · match fl, z with
      | .next, ⟨σ', H', J, q⟩ => exact h0.run pins s1 σ' H' D J q
      | .brk, z => exact z
      | .cont, z => exact z
      | .ret _, z => exact z
    · exact thn ((hk a oe cls d (X.pn ++ pins) zc hd).run [] s1 σ' H' D J q) fun fl s2 z => sp_kept ok z
end
/-- what an own exception class must have, so that isinstance and fields are read of its objects -/
structure ExcK (K : PySem.W.Frag) (C : Addr) : Prop where
  cl : (PySem.W.clsIn K C).isSome = true
  ga : PySem.W.findIn K (.ref C) "__getattribute__" = some (some (.builtin "BaseException.__getattribute__"))
  gg : PySem.W.findIn K (.ref C) "__getattr__" = some none
  su : PySem.W.subIn K (.ref C) (.type "BaseException") = some true
  ha : PySem.W.findIn K (.ref C) "__class__" = some (some (.builtin "object.__class__"))
  hn : PySem.W.specialIn K (.builtin "object.__class__") "__get__" = some (some (.builtin "getset_descriptor.__get__"))
  ht : PySem.W.takesIn K (.builtin "object.__class__") = some true
  hm : PySem.W.mroIn K C (.type "object") = some true
  hd : PySem.W.hasDictIn K C = true
section
variable {X : Cx} {a : Addr} {oe : Obj} {cls : Value} {d : Option Addr}
theorem held_at {pins : List (Addr × Obj)} {σ : L2.St} {H : Hp} {s : Shared} {C dd : Addr} {fs : List (Str × V)} (hp : (a, oe) ∈ X.pn) (hz : Zc cls d oe) (hf : ∃ vs, oe.data = .fields vs) (I : Inv X pins σ H s) (ec : cls = .ref C) (ed : d = some dd) (ea : H dd = some (.xd fs)) :
    ∃ (od : Obj) (mA : Str → Option Value), PySem.W.InstAt s.heap a oe C (some od) ∧ (∀ y, PySem.W.lookIn y od = some (mA y)) ∧ ∀ y, RelO (fs.lookup y) (mA y) := by
  subst ec
  subst ed
  obtain ⟨ha, _⟩ := I.pin (a, oe) (List.mem_append.mpr (.inl hp))
  obtain ⟨vs, hd⟩ := hf
  have z : ObjOk X.prog X.w H s.heap dd (.xd fs) := I.hok dd _ ea
  obtain ⟨mA, hns, hr⟩ := z
  obtain ⟨od, ho, hl⟩ := lookIn_ns hns
  refine ⟨od, mA, ⟨ha, hz.1, ?_, ?_⟩, hl, hr⟩
  · unfold PySem.W.notCls
    rw [hd]
  · rw [hz.2]
    exact ho
/-- isinstance(e, c), e the error that is kept -/
def rIsP (K : PySem.W.Frag) (a : Addr) (cls : Value) (d : Option Addr) : List V → Hp → VK → Prop := fun xs H Q =>
  ∃ (C dd : Addr) (fs : List (Str × V)) (c : V) (cv : Value) (b : Bool), xs = [.ref a, c] ∧ cls = .ref C ∧ ExcK K C ∧ d = some dd ∧ H dd = some (.xd fs) ∧ (∀ u, RelV c u → u = cv) ∧ PySem.W.kitOne K (.ref C) cv = some b ∧ Q (.bl b) H
theorem call_isP (hp : (a, oe) ∈ X.pn) (hz : Zc cls d oe) (hf : ∃ vs, oe.data = .fields vs) : CallR X (.builtin "isinstance") (rIsP X.K a cls d) := by
  intro pins s σ H xs us Q I r h
  obtain ⟨C, dd, fs, c, cv, b, rfl, ec, T, ed, ea, hcv, e, q⟩ := h
  cases r with
  | cons rx rr =>
    cases rr with
    | cons rt rr =>
      cases rr
      cases rx
      have ev := hcv _ rt
      subst ev
      obtain ⟨od, mA, J, _⟩ := held_at hp hz hf I ec ed ea
      exact PySem.W.kia_one (PySem.W.kitx_exc T.cl T.ga T.gg T.su T.ha T.hn T.ht T.hm) I.kIn J e (fun z => nomatch z) fun tk => ⟨.bl b, H, I.kept (t' := tk) fun _ _ z => z, rfl, q⟩
/-- e.f, e the error that is kept -/
def tXfP (K : PySem.W.Frag) (a : Addr) (cls : Value) (d : Option Addr) (f : Str) (te : TE) : TE := fun σ H Q => te σ H fun x H1 => x = .ref a ∧
  ∃ (C dd : Addr) (fs : List (Str × V)) (v : V), cls = .ref C ∧ ExcK K C ∧ PySem.W.findIn K (.ref C) f = some none ∧ d = some dd ∧ H1 dd = some (.xd fs) ∧ fs.lookup f = some v ∧ Q v H1
theorem pe_xfP {e : Expr} {te : TE} {pos : Pos} {n : Str} (hp : (a, oe) ∈ X.pn) (hz : Zc cls d oe) (hf : ∃ vs, oe.data = .fields vs) (he : PE X e te) (hb : attributeBase e n X.env (eval e X.env) = eval e X.env := by rfl) :
    PE X (.Attribute e n pos) (tXfP X.K a cls d n te) := by
  constructor
  intro pins s σ H Q I h
  refine attr_of hb (thn (he.run pins s σ H _ I h) fun u s1 hh => ?_)
  obtain ⟨x, H1, I1, rx, ex, C, dd, fs, v, ec, T, no, ed, ea, l, q⟩ := hh
  subst ex
  obtain rfl : u = Value.ref a := rx
  obtain ⟨od, mA, J, hl, hr⟩ := held_at hp hz hf I1 ec ed ea
  obtain ⟨u, hu, ru⟩ := RelO.some_of (v := v) (o := mA n) (by rw [← l]; exact hr n)
  exact HandSPX.exc_get I1.kIn J T.ga T.gg T.su (PySem.W.findObj_own T.hd no rfl ((hl n).trans (congrArg some hu))) (handed_of ru) ⟨v, H1, I1.tok _, ru, q⟩
end
/-! ### methods that may raise, in a try; in of instances; the text of dicts -/
section
variable {X : Cx} {CX : CXT} {k : Nat} {f C : Addr} {fd : FuncData} {ps : List Str} {sp : Sp} {m : Str} {pos apos : Pos} {e o : Expr} {es : List Expr} {ta : TE} {t : TA}
/-- o.m(e, ..) in a try: what it raises goes to the wish that the slots at hand have -/
def tMethX (C : Addr) (m : Str) (sp : Sp) (E : L2.St → XK) (ta : TE) (t : TA) : TE := fun σ H Q => tMeth C m sp [] (E σ) ta t σ H Q
theorem pe_methX {E : L2.St → XK} {pl : Sem Bool} (he : PE X o ta) (c : Cls X.K C) (hm : Meth X.K C m f) (F : FnOk X.prog X.w X.K X.mg X.base CX k f fd ps sp) (hr : Room k X.A) (hb : Binds X.K fd ps []) (hx : ∀ σ, PassesAt CX X σ (E σ)) (ha : PA X (e :: es) t)
    (hst : starEach (e :: es) X.env = (false, eval e X.env) :: starEach es X.env := by rfl) (hpl : (backTo pos (starEach es X.env)).any (·.1) = false := by rfl)
    (ht : eval (.Call (.Attribute o m apos) (e :: es) [] pos) X.env = (do
      let ov ← eval o X.env
      standAt apos.atName
      let (f, first) ← holding [ov] (getMethod ov m pl)
      callWith pos f first (backTo pos (starEach (e :: es) X.env)) (backToKw pos (keywordEach [] X.env))) := by rfl) :
    PE X (.Call (.Attribute o m apos) (e :: es) [] pos) (tMethX C m sp E ta t) := by
  constructor
  intro pins s σ H Q I h
  refine PySem.W.methodCall_KW (pl := pl) (thn (he.run pins s σ H _ I h) fun u s1 z => ?_) ht
  obtain ⟨x, H1, I1, rx, a, dx, fs, rfl, ea, l, q⟩ := z
  cases rx
  refine getmeth_ok I1 ea c hm l (PySem.W.callWith_K (first := [.ref a]) (h₀ := X.base) I.ok.mod.kin hm.kp (thn (ha.run pos pins s1 σ H1 _ I1 q) fun us s2 z => ?_) hst hpl)
  obtain ⟨vs, H2, I2, r, q2⟩ := z
  rw [List.append_nil] at q2
  exact ⟨I2.kIn, run_fnS (us := .ref a :: us) (vs := .ref a :: vs) F hr hb (hx σ) I2 (.cons rfl r) q2⟩
/-- x in y, y an instance of the class at C with a def for it -/
def rInI (C : Addr) (sp : Sp) (E : XK) (g : Bool → Bool) : R2 := fun x y H Q => ∃ b dy gs, y = .ref b ∧ H b = some (.ins C dy gs) ∧ sp [y, x] H (fun z H' => ∃ c, z = .bl c ∧ Q (.bl (g c)) H') E
theorem op_inI {E : XK} (hs : PySem.W.findIn X.K (.ref C) "__contains__" = some (some (.ref f))) (hf : PySem.W.isFn X.K (.ref f) = true)
    (F : FnOk X.prog X.w X.K X.mg X.base CX k f fd ps sp) (hr : Room k X.A) (hb : Binds X.K fd ps []) (hx : Passes CX X E) : OpR X (compareOp .In) (rInI C sp E id) := by
  intro pins s σ H x y v u Q I rx ry h
  obtain ⟨b, dy, gs, rfl, hb', q⟩ := h
  cases (show u = Value.ref b from ry)
  obtain ⟨mB, O, _⟩ := ins_get I.hok hb'
  obtain ⟨od, J, _⟩ := O.look
  obtain ⟨m, hF⟩ := I.fr
  refine PySem.W.in_K hF I.ok.mod.kin J hs hf ?_
  refine wpAny_mono (run_in (us := [.ref b, v]) (ws := [.ref b, x]) F hr hb I.env0 hx I (.cons rfl (.cons rx .nil)) q) (fun w s' z => ?_) fun _ _ x => x
  obtain ⟨z', H', I', rz, c, ec, qz⟩ := z
  subst ec
  cases (show w = Value.bool c from rz)
  exact wpAny_truthy_bool ⟨.bl c, H', I', rfl, qz⟩
theorem op_notInI {E : XK} (hs : PySem.W.findIn X.K (.ref C) "__contains__" = some (some (.ref f))) (hf : PySem.W.isFn X.K (.ref f) = true)
    (F : FnOk X.prog X.w X.K X.mg X.base CX k f fd ps sp) (hr : Room k X.A) (hb : Binds X.K fd ps []) (hx : Passes CX X E) : OpR X (compareOp .NotIn) (rInI C sp E (!·)) := by
  intro pins s σ H x y v u Q I rx ry h
  obtain ⟨b, dy, gs, rfl, hb', q⟩ := h
  cases (show u = Value.ref b from ry)
  obtain ⟨mB, O, _⟩ := ins_get I.hok hb'
  obtain ⟨od, J, _⟩ := O.look
  obtain ⟨m, hF⟩ := I.fr
  refine PySem.W.notIn_K hF I.ok.mod.kin J hs hf ?_
  refine wpAny_mono (run_in (us := [.ref b, v]) (ws := [.ref b, x]) F hr hb I.env0 hx I (.cons rfl (.cons rx .nil)) q) (fun w s' z => ?_) fun _ _ x => x
  obtain ⟨z', H', I', rz, c, ec, qz⟩ := z
  subst ec
  cases (show w = Value.bool c from rz)
  exact wpAny_truthy_bool ⟨.bl (!c), H', I', rfl, qz⟩
end
/-- data with dicts of small keys: what a value is, at any depth -/
inductive Dq (K : PySem.W.Frag) (H : Hp) : V → PyData → Prop
  | dp {v : V} {d : PyData} (h : Dp K H v d) : Dq K H v d
  | d0 {a : Addr} (h : H a = some (.dK [])) : Dq K H (.ref a) (.dict [])
  | d1 {a : Addr} {i j : Int} (h : H a = some (.dK [(.inl i, .int j)])) : Dq K H (.ref a) (.dict [(.int i, .int j)])
def rReprQ (K : PySem.W.Frag) : List V → Hp → VK → Prop := fun xs H Q =>
  ∃ (x : V) (d : PyData), xs = [x] ∧ Dq K H x d ∧ d.showable = true ∧ (d.hasDict = true → ∀ v, ¬ Dp K H v d) ∧
    d.depth ≤ 64 ∧ d.shown.length ≤ sizeLine ∧ (∀ i, x = .int i → i.natAbs.log2 < 1920) ∧ Q (.str d.shown) H
theorem Dq.cases2 {K : PySem.W.Frag} {H : Hp} {v : V} {d : PyData} (h : Dq K H v d) (n : d.hasDict = true → ∀ v, ¬ Dp K H v d) : (Dp K H v d ∧ d.hasDict = false) ∨ ∃ a kvs ds, v = .ref a ∧ d = .dict ds ∧ H a = some (.dK kvs) ∧
    ((kvs = [] ∧ ds = []) ∨ ∃ i j : Int, kvs = [(.inl i, .int j)] ∧ ds = [(.int i, .int j)]) := by
  cases h with
  | dp h =>
    refine .inl ⟨h, ?_⟩
    cases e : d.hasDict with
    | false => rfl
    | true => exact absurd h (n e _)
  | d0 h => exact .inr ⟨_, _, _, rfl, rfl, h, .inl ⟨rfl, rfl⟩⟩
  | d1 h => exact .inr ⟨_, _, _, rfl, rfl, h, .inr ⟨_, _, rfl, rfl⟩⟩
theorem call_reprQ {X : Cx} (hg : Calm X.A) (hu : X.A.units + 70 < cLine) : CallR X (.builtin "repr") (rReprQ X.K) := by
  intro pins s σ H xs us Q I r h
  obtain ⟨x, d, rfl, hd, hs, hn, hdep, hsz, hi, q⟩ := h
  rcases hd.cases2 hn with ⟨hd, nd⟩ | ⟨a, kvs, ds, rfl, rfl, ea, hk⟩
  · exact call_reprD hg hu pins s σ H _ us Q I r ⟨x, d, rfl, hd, hs, nd, hdep, hsz, hi, q⟩
  · obtain ⟨u, rfl, rx⟩ := vals1 r
    cases rx
    have z : ObjOk X.prog X.w H s.heap a (.dK kvs) := I.hok a _ ea
    obtain ⟨_, nsm, vs, hkv, o, es, ep, ho, ⟨hc, _, _⟩, hdat, _, hp, _⟩ := z
    have rd : Reads s.heap (.ref a) (.dict ds) (a :: ([] : List Addr) ++ []) := by
      rcases hk with ⟨rfl, rfl⟩ | ⟨i, j, rfl, rfl⟩
      · cases hkv
        have e0 : es.toList = [] := by
          cases hl : es.toList with
          | nil => rfl
          | cons _ _ =>
            rw [hl] at hp
            cases hp
        refine Reads.dict ho hc hdat ?_ ?_
        · rw [e0]
          exact .nil
        · rw [e0]
          exact .nil
      · obtain ⟨kq, vq, rfl, ek, rv⟩ : ∃ kq vq, vs = [(kq, vq)] ∧ (Sum.inl i : Key) = kq ∧ RelV (.int j) vq := by
          match vs, hkv with
          | [(kq, vq)], .cons h1 .nil => exact ⟨kq, vq, rfl, h1.1, h1.2⟩
        · cases hl : es.toList with
          | nil =>
            rw [hl] at hp
            cases hp
          | cons e1 r1 =>
            rw [hl] at hp
            cases hp with
            | cons hk1 hv1 hr1 =>
              cases hr1
              subst ek
              obtain ⟨t, ev⟩ := rv
              have ev' : e1.val = .int j t := hv1.trans ev
              rcases keyIs_shape (show keyIs (.inl i) e1.key = true from hk1) with ⟨i', t', e2, e3⟩ | ⟨x', t', e2, e3⟩
              · have ei : i = i' := Sum.inl.inj e2
                subst ei
                refine Reads.dict (as := [] ++ []) (bs := [] ++ []) ho hc hdat ?_ ?_
                · rw [hl]
                  show ReadsAll s.heap [e1.key] [PyData.int i] _
                  rw [e3]
                  exact .cons (.int i t') .nil
                · rw [hl]
                  show ReadsAll s.heap [e1.val] [PyData.int j] _
                  rw [ev']
                  exact .cons (.int j t) .nil
              · cases e2
    refine repr_of_reads' rd hs (fun _ hm => ?_) hg (by omega) (fun _ _ e => e) (fun h' u tk hk => ?_) hsz
    · rw [List.append_nil] at hm
      have e := List.mem_singleton.mp hm
      rw [← e] at nsm
      simp at nsm
    · exact ⟨.str _, H, I.kept (t' := tk) hk, ⟨_, rfl⟩, q⟩
theorem rd_reprQ {K : PySem.W.Frag} {H : Hp} {Q : VK} {v : V} {d : PyData} {k n : Nat} (h : Dp K H v d) (s : Sm k n d) (hk : k ≤ 60) (hn : n ≤ 50000) (q : Q (.str d.shown) H) : rReprQ K [v] H Q := by
  refine ⟨v, d, rfl, .dp h, s.sh, fun z => ?_, by have := s.dp; omega, s.text hn, fun i e => ?_, q⟩
  · rw [s.nd] at z
    cases z
  · subst e
    cases h
    have z := s.sh
    simp only [PyData.showable, decide_eq_true_eq] at z
    exact z
theorem rd_reprQ0 {K : PySem.W.Frag} {H : Hp} {Q : VK} {a : Addr} (h : H a = some (.dK [])) (q : Q (.str (PyData.shown (.dict []))) H) : rReprQ K [.ref a] H Q := by
  refine ⟨_, _, rfl, .d0 h, by simp [PyData.showable, PyData.showableKv], (fun _ v z => nomatch z), ?_, ?_, fun i e => V.noConfusion e, q⟩
  · simp [PyData.depth, PyData.depthKv]
  · exact few (by decide)
/-! ### errors with one value -/
theorem kit_sub {K : PySem.W.Frag} {C : Addr} {n : String} (hm : PySem.W.kitMeta n = true) (h : PySem.W.subIn K (.ref C) (.type n) = some true) : PySem.W.kitOne K (.ref C) (.type n) = some true := by
  unfold PySem.W.kitOne PySem.W.kitCls
  rw [if_neg (by simp)]
  first
    | (rw [if_pos hm]; exact h)
    | (simp only [hm, if_true]; exact h)
structure ErrT (K : PySem.W.Frag) (mg : Str → Option Value) (CW C : Addr) (nm : Str) : Prop where
  ox : OexC K C
  ek : ExcK K C
  nv : PySem.W.findIn K (.ref C) "value" = some none
  me : PySem.W.exmOne K (.ref C) (.ref CW) = some true
  kc : PySem.W.kitOne K (.ref C) (.ref C) = some true
  kv : PySem.W.kitOne K (.ref C) (.type "ValueError") = some true
  g : mg nm = some (.ref C)
def spBad (C : Addr) : Sp := fun vs H Q _ => ∃ (a : Addr) (v : V), vs = [.ref a, v] ∧ H a = some (exo a C none) ∧ ∀ dx, H dx = none → dx ≠ a → Q .non (upd (upd H dx (exd dx [("value", v)])) a (exo a C (some dx)))
theorem rd_bad {C : Addr} {H : Hp} {Q : XK} {E : XK} {v : V} (k : ∀ d H', H d = none → Same H H' → H' d = some (.xd [("value", v)]) → Q (.ref C) (some d) H') :
    [v].length ≤ 1000 ∧ ∀ a, H a = none → spBad C (.ref a :: ([v] ++ [])) (upd H a (exo a C none)) (fun u H2 => u = .non ∧ ∃ (d : Addr) (fs : List (Str × V)), H2 a = some (exo a C (some d)) ∧ H2 d = some (exd d fs) ∧ H d = none ∧ Q (.ref C) (some d) (upd (del H2 a) d (.xd fs))) E := by
  refine ⟨Nat.le_of_ble_eq_true rfl, fun a na => ⟨a, v, rfl, upd_same, fun dx nd ne => ?_⟩⟩
  have nd' : H dx = none := (upd_ne ne).symm.trans nd
  refine ⟨rfl, dx, _, upd_same, (upd_ne ne).trans upd_same, nd', k dx _ nd' (fun b o e => ?_) upd_same⟩
  have n1 : b ≠ a := ne_of_none e na
  have n2 : b ≠ dx := ne_of_none e nd'
  rw [upd_ne n2, del_ne n1, upd_ne n1, upd_ne n2, upd_ne n1]
  exact e
theorem rd_ost {K : PySem.W.Frag} {a C : Addr} {f : Str} {y : V} {H : Hp} {R : Hp → Prop} (T : OexC K C) (no : PySem.W.findIn K (.ref C) f = some none) (e : H a = some (exo a C none)) (k : ∀ dx, H dx = none → dx ≠ a → R (upd (upd H dx (exd dx [(f, y)])) a (exo a C (some dx)))) :
    ∃ a' C' : Addr, V.ref a = .ref a' ∧ OexC K C' ∧ PySem.W.findIn K (.ref C') f = some none ∧ ((H a' = some (exo a' C' none) ∧ ∀ dx, H dx = none → dx ≠ a' → R (upd (upd H dx (exd dx [(f, y)])) a' (exo a' C' (some dx)))) ∨
      ∃ (dx : Addr) (fs : List (Str × V)), H a' = some (exo a' C' (some dx)) ∧ H dx = some (exd dx fs) ∧ fs.length ≤ 900 ∧ R (upd H dx (exd dx ((f, y) :: fs)))) := ⟨a, C, rfl, T, no, .inl ⟨e, k⟩⟩
theorem pss_none {X : Cx} {l : List Stmt} : PSs X l (fun _ _ _ => False) := ⟨fun _ _ _ _ _ _ h => h.elim⟩
section
variable {X : Cx} {a : Addr} {oe : Obj} {cls : Value} {d : Option Addr} {pn : List (Addr × Obj)}
theorem call_isK (hz : Zc cls d oe) (hf : ∃ vs, oe.data = .fields vs) : CallR (kept X a oe pn) (.builtin "isinstance") (rIsP X.K a cls d) := call_isP (X := kept X a oe pn) List.mem_cons_self hz hf
theorem call_reprK (hg : Calm X.A) (hu : X.A.units + 70 < cLine) : CallR (kept X a oe pn) (.builtin "repr") (rReprQ X.K) := call_reprQ (X := kept X a oe pn) hg hu
theorem pe_xfK {e : Expr} {te : TE} {pos : Pos} {n : Str} (hz : Zc cls d oe) (hf : ∃ vs, oe.data = .fields vs) (he : PE (kept X a oe pn) e te) (hb : attributeBase e n X.env (eval e X.env) = eval e X.env := by rfl) :
    PE (kept X a oe pn) (.Attribute e n pos) (tXfP X.K a cls d n te) := pe_xfP (X := kept X a oe pn) List.mem_cons_self hz hf he hb
end
/-! ### own == with any value; != likewise; str of an instance; making that may raise -/
section
variable {prog : Program} {w : World} {A : Around} {E : Value → Shared → Prop} {s : Shared} {K : PySem.W.Frag} {x C f : Addr} {ox : Obj} {od : Option Obj} {b tb : Value}
theorem ne_KA {L : Addr} {h₀ : Heap} {m : Str → Option Value} {Q : Value → Shared → Prop} (hu : A.units + 1 < cLine) (F0 : PyProof.Rows.Fr h₀ L s.heap m) (X₀ : K.In h₀) (I : PySem.W.InstAt s.heap x ox C od) (hb : PySem.W.Looks (model prog w) s.heap (typeOf b) tb) (hnf : PySem.W.notFirst K C tb = true)
    (hm : PySem.W.mroIn K C (.type "object") = some true) (hn : PySem.W.findIn K (.ref C) "__ne__" = some (some (.builtin "object.__ne__"))) (hs : PySem.W.findIn K (.ref C) "__eq__" = some (some (.ref f))) (hf : PySem.W.isFn K (.ref f) = true)
    (h : wpAny (model prog w) A.in1 (call (.ref f) [.ref x, b]) (fun v s' => ∃ c, v = .bool c ∧ Q (.bool (!c)) s') E s) : wpAny (model prog w) A (richCompare .NotEq (.ref x) b) Q E s := by
  have X := X₀.keeps F0.keep
  have one : wpAny (model prog w) A (tryCompare (.ref x) "__ne__" b) (fun r s' => ∃ v, r = some v ∧ Q v s') E s := by
    unfold tryCompare
    refine wpAny_bind (ifBound_ne X I hn (wpAny_call (codeAny_call_builtin F.cmp_object.ne.plain F.cmpEntry_ne (PySem.W.check_slot F.cmpKind_ne F.cmpSplit_ne (I.type.andThen (PySem.W.looks_mroIn X hm)) (F.cmpArgs_ne _ _)
      (entry_ne (A := A.in1) hu X I hs hf (wpAny_mono h (fun v s' hv => ?_) fun _ _ e => e))))))
    obtain ⟨c, rfl, hq⟩ := hv
    first
      | exact ⟨c, rfl, wpAny_pure ⟨_, rfl, hq⟩⟩
      | exact ⟨c, rfl, _, rfl, hq⟩
  have fin : wpAny (model prog w) A (tryCompare (.ref x) "__ne__" b) (fun r s' => ∃ v, r = some v ∧ Q v s') E s := one
  simp only [richCompare, cmpInfo_NotEq, oneThing_ref]
  refine wpAny_holding (wpAny_bind (wpAny_cRoomFor (Nat.lt_of_succ_lt hu) ?_))
  refine wpAny_bind (I.type.here (wpAny_bind (hb.here ?_)))
  by_cases q : (Value.ref C != tb) = true
  · have e : PySem.W.subIn K tb (.ref C) = some false := by
      rcases Bool.or_eq_true_iff.mp hnf with e | e
      · rw [beq_iff_eq.mp e] at q
        simp at q
      · exact beq_iff_eq.mp e
    rw [if_pos q]
    refine wpAny_bind ((PySem.W.looks_subIn X e).here ?_)
    simp only [Bool.false_eq_true, if_false]
    refine wpAny_bind (wpAny_mono fin (fun r s' z => ?_) fun _ _ e => e)
    obtain ⟨v, rfl, hq⟩ := z
    exact wpAny_pure hq
  · rw [if_neg q]
    refine wpAny_bind (wpAny_pure ?_)
    simp only [Bool.false_eq_true, if_false]
    refine wpAny_bind (wpAny_mono fin (fun r s' z => ?_) fun _ _ e => e)
    obtain ⟨v, rfl, hq⟩ := z
    exact wpAny_pure hq
end
section
variable {X : Cx} {CX : CXT} {C g : Addr} {fd : FuncData} {ps : List Str} {k : Nat} {sp : Sp} {E : XK} {e : Expr} {es : List Expr} {t : TA} {x : Str} {p pos : Pos}
/-- x == y: x an instance of the class at C, whose def for it is at g; y of any type that does not go first -/
def rOwnA (K : PySem.W.Frag) (C : Addr) (sp : Sp) (E : XK) : R2 := fun x y H Q => ∃ a dx fs ty, x = .ref a ∧ H a = some (.ins C dx fs) ∧ TyX K H y ty ∧ PySem.W.notFirst K C ty = true ∧ sp [x, y] H Q E
theorem op_eqA {K0 : PySem.W.Frag} (hK : X.K = K0) (hs : PySem.W.findIn X.K (.ref C) "__eq__" = some (some (.ref g))) (hf : PySem.W.isFn X.K (.ref g) = true)
    (F : FnOk X.prog X.w X.K X.mg X.base CX k g fd ps sp) (hr : Room k X.A) (hb : Binds X.K fd ps []) (hx : Passes CX X E) : OpR X (compareOp .Eq) (rOwnA K0 C sp E) := by
  subst hK
  intro pins s σ H x y v u Q I rx ry h
  obtain ⟨a, dx, fs, ty, rfl, ha, hty, hnf, q⟩ := h
  cases (show v = Value.ref a from rx)
  obtain ⟨mA, O, _⟩ := ins_get I.hok ha
  obtain ⟨od, J, _⟩ := O.look
  obtain ⟨R, kx, kr, _⟩ := kit_of I ry hty
  obtain ⟨m, hF⟩ := I.fr
  show wpAny _ _ (richCompare .Eq (.ref a) u) _ _ s
  refine PySem.W.cmp_K (op := .Eq) (tb := ty) hr.units0 hF I.ok.mod.kin J (kx.ty _ _ I.kIn kr) hnf hs hf ?_
  refine wpAny_mono (run_in (us := [.ref a, u]) (ws := [.ref a, y]) F hr hb I.env0 hx I (.cons rfl (.cons ry .nil)) q) (fun w s' z => ?_) fun _ _ x => x
  obtain ⟨z', H', I', rz, qz⟩ := z
  exact SlX.cmpback rz ⟨z', H', I', rz, qz⟩
/-- x != y by the own == -/
def rNeA (K : PySem.W.Frag) (C : Addr) (sp : Sp) (E : XK) : R2 := fun x y H Q => ∃ a dx fs ty, x = .ref a ∧ H a = some (.ins C dx fs) ∧ TyX K H y ty ∧ PySem.W.notFirst K C ty = true ∧ sp [x, y] H (fun z H' => ∃ c, z = .bl c ∧ Q (.bl (!c)) H') E
theorem op_neA {K0 : PySem.W.Frag} (hK : X.K = K0) (hm : PySem.W.mroIn X.K C (.type "object") = some true) (hn : PySem.W.findIn X.K (.ref C) "__ne__" = some (some (.builtin "object.__ne__"))) (hs : PySem.W.findIn X.K (.ref C) "__eq__" = some (some (.ref g))) (hf : PySem.W.isFn X.K (.ref g) = true)
    (F : FnOk X.prog X.w X.K X.mg X.base CX k g fd ps sp) (hr : Room (k + 1) X.A) (hb : Binds X.K fd ps []) (hx : Passes CX X E) (hu : X.A.units + 1 < cLine) : OpR X (compareOp .NotEq) (rNeA K0 C sp E) := by
  subst hK
  intro pins s σ H x y v u Q I rx ry h
  obtain ⟨a, dx, fs, ty, rfl, ha, hty, hnf, q⟩ := h
  cases (show v = Value.ref a from rx)
  obtain ⟨mA, O, _⟩ := ins_get I.hok ha
  obtain ⟨od, J, _⟩ := O.look
  obtain ⟨R, kx, kr, _⟩ := kit_of I ry hty
  obtain ⟨m, hF⟩ := I.fr
  show wpAny _ _ (richCompare .NotEq (.ref a) u) _ _ s
  refine ne_KA (tb := ty) hu hF I.ok.mod.kin J (kx.ty _ _ I.kIn kr) hnf hm hn hs hf ?_
  refine wpAny_mono (run_in (us := [.ref a, u]) (ws := [.ref a, y]) F hr.in1 hb I.env0.in1 hx I (.cons rfl (.cons ry .nil)) q) (fun w s' z => ?_) fun _ _ x => x
  obtain ⟨z', H', I', rz, c, ec, qz⟩ := z
  subst ec
  cases (show w = Value.bool c from rz)
  exact ⟨c, rfl, .bl (!c), H', I', rfl, qz⟩
/-- str(x), x an instance whose class has a def for it -/
def rStrI (C : Addr) (sp : Sp) (E : XK) : List V → Hp → VK → Prop := fun xs H Q => ∃ a dx fs, xs = [.ref a] ∧ H a = some (.ins C dx fs) ∧ sp [.ref a] H (fun z H' => ∃ t, z = .str t ∧ Q (.str t) H') E
theorem call_strI (hs : PySem.W.findIn X.K (.ref C) "__str__" = some (some (.ref g))) (hf : PySem.W.isFn X.K (.ref g) = true)
    (F : FnOk X.prog X.w X.K X.mg X.base CX k g fd ps sp) (hr : Room (k + 2) X.A) (hb : Binds X.K fd ps []) (hx : Passes CX X E) (hu : X.A.units + 70 < cLine) : CallR X (.type "str") (rStrI C sp E) := by
  intro pins s σ H xs us Q I r h
  obtain ⟨a, dx, fs, rfl, ha, q⟩ := h
  obtain ⟨u, rfl, rx⟩ := vals1 r
  cases rx
  obtain ⟨mA, O, _⟩ := ins_get I.hok ha
  obtain ⟨od, J, _⟩ := O.look
  refine PySem.W.kso_call (by show X.A.units + 1 + 1 < cLine; omega) I.kIn J hs hf ?_
  refine wpAny_mono (run_in (us := [.ref a]) (ws := [.ref a]) F hr.in1.in1 hb I.env0.in1.in1 hx I (.cons rfl .nil) q) (fun w s' z => ?_) fun _ _ x => x
  obtain ⟨z', H', I', rz, t, et, qz⟩ := z
  subst et
  obtain ⟨tk, rfl⟩ := rz
  exact ⟨.str t, H', I', ⟨_, rfl⟩, qz⟩
/-- C(e, ..) in a try: what it raises goes to the wish that the slots at hand have -/
def tMakeX (C : Addr) (sp : Sp) (E : L2.St → XK) (t : TA) : TE := fun σ H Q => tMake C sp [] (E σ) t σ H Q
theorem pe_makeX {f : Addr} {E : L2.St → XK} (M : Mk X.K C f) (F : FnOk X.prog X.w X.K X.mg X.base CX k f fd ps sp) (hr : Room (k + 1) X.A) (hg : Gl X x) (hm : X.mg x = some (.ref C)) (hb : Binds X.K fd ps []) (hx : ∀ σ, PassesAt CX X σ (E σ))
    (ha : PA X (e :: es) t) (hdb : (x == ("__debug__" : Str)) = false := by decide) (he : starEach (e :: es) X.env = (false, eval e X.env) :: starEach es X.env := by rfl) (hpl : (backTo pos (starEach es X.env)).any (·.1) = false := by rfl) :
    PE X (.Call (.Name x p) (e :: es) [] pos) (tMakeX C sp E t) := by
  constructor
  intro pins s σ H Q I h
  refine wpAny_Call_Name_kw (ld_glob I hg hm (PySem.W.callWith_K (h₀ := X.base) I.ok.mod.kin M.kp (thn (ha.run pos pins s σ H _ I h) fun us s1 z => ?_) he hpl) hdb)
  obtain ⟨vs, H1, J, r, q0⟩ := z
  have q : ∀ x dx, H1 x = none → H1 dx = none → dx ≠ x → sp (.ref x :: (vs ++ [])) (upd (upd H1 dx (.own x)) x (.ins C dx [])) (fun v H2 => v = .non ∧ Q (.ref x) H2) (E σ) := q0
  refine ⟨J.kIn, ?_⟩
  have hq := q (s1.heap.objs.size + 1) s1.heap.objs.size (J.hok.fresh (Nat.le_succ _)) (J.hok.fresh (Nat.le_refl _)) (Nat.ne_of_lt (Nat.lt_succ_self _))
  have I2 := Inv.made (C := C) J
  have r2 : Vals (V.ref (s1.heap.objs.size + 1) :: (vs ++ [])) (Value.ref (s1.heap.objs.size + 1) :: (us ++ [])) := .cons rfl (r.append .nil)
  have hl : (Value.ref (s1.heap.objs.size + 1) :: us ++ []).length = ps.length := r2.length.symm.trans (F.len _ _ _ _ hq)
  refine wpAny_call (make_map (f := f) J.kIn M.makes M.init (beq_iff_eq.mp M.fn) (codeAny_mono (F.run _ X.stack _ _ ⟨Value.ref (s1.heap.objs.size + 1) :: us, []⟩ (Value.ref (s1.heap.objs.size + 1) :: (us ++ [])) _ _ (E σ) (hr.make C us [])
    (I2.env0.make C us []) (by have z := hb _ (Value.ref (s1.heap.objs.size + 1) :: us) I2.kIn hl; rw [List.append_nil] at z ⊢; exact z) r2 hq) fun r s' z => ?_))
  match r, z with
  | .error e, z => exact hx σ pins _ _ e s' I2 z
  | .ok (.ret _), z =>
    obtain ⟨v, H', I3, rv, ev, q3⟩ := I2.after z
    subst ev
    exact ⟨rv, ⟨V.ref (s1.heap.objs.size + 1), H', I3, rfl, q3⟩⟩
  | .ok .next, z => exact z.elim
  | .ok .brk, z => exact z.elim
  | .ok .cont, z => exact z.elim
end
/-! ### errors with two values -/
structure ErrT2 (K : PySem.W.Frag) (mg : Str → Option Value) (CW C : Addr) (nm f1 f2 : Str) : Prop where
  ox : OexC K C
  ek : ExcK K C
  n1 : PySem.W.findIn K (.ref C) f1 = some none
  n2 : PySem.W.findIn K (.ref C) f2 = some none
  me : PySem.W.exmOne K (.ref C) (.ref CW) = some true
  kc : PySem.W.kitOne K (.ref C) (.ref C) = some true
  kv : PySem.W.kitOne K (.ref C) (.type "ValueError") = some true
  g : mg nm = some (.ref C)
def spBad2 (C : Addr) (f1 f2 : Str) : Sp := fun vs H Q _ => ∃ (a : Addr) (v w : V), vs = [.ref a, v, w] ∧ H a = some (exo a C none) ∧ ∀ dx, H dx = none → dx ≠ a → Q .non (upd (upd (upd H dx (exd dx [(f1, v)])) a (exo a C (some dx))) dx (exd dx [(f2, w), (f1, v)]))
theorem rd_bad2 {C : Addr} {f1 f2 : Str} {H : Hp} {Q : XK} {E : XK} {v w : V} (k : ∀ d H', H d = none → Same H H' → H' d = some (.xd [(f2, w), (f1, v)]) → Q (.ref C) (some d) H') :
    [v, w].length ≤ 1000 ∧ ∀ a, H a = none → spBad2 C f1 f2 (.ref a :: ([v, w] ++ [])) (upd H a (exo a C none)) (fun u H2 => u = .non ∧ ∃ (d : Addr) (fs : List (Str × V)), H2 a = some (exo a C (some d)) ∧ H2 d = some (exd d fs) ∧ H d = none ∧ Q (.ref C) (some d) (upd (del H2 a) d (.xd fs))) E := by
  refine ⟨Nat.le_of_ble_eq_true rfl, fun a na => ⟨a, v, w, rfl, upd_same, fun dx nd ne => ?_⟩⟩
  have nd' : H dx = none := (upd_ne ne).symm.trans nd
  refine ⟨rfl, dx, _, (upd_ne ne.symm).trans upd_same, upd_same, nd', k dx _ nd' (fun b o e => ?_) upd_same⟩
  have n1 : b ≠ a := ne_of_none e na
  have n2 : b ≠ dx := ne_of_none e nd'
  rw [upd_ne n2, del_ne n1, upd_ne n2, upd_ne n1, upd_ne n2, upd_ne n1]
  exact e
theorem rd_ost2 {K : PySem.W.Frag} {a C dx : Addr} {f : Str} {y : V} {H : Hp} {R : Hp → Prop} {fs : List (Str × V)} (T : OexC K C) (no : PySem.W.findIn K (.ref C) f = some none) (e : H a = some (exo a C (some dx))) (ed : H dx = some (exd dx fs)) (hl : fs.length ≤ 900) (k : R (upd H dx (exd dx ((f, y) :: fs)))) :
    ∃ a' C' : Addr, V.ref a = .ref a' ∧ OexC K C' ∧ PySem.W.findIn K (.ref C') f = some none ∧ ((H a' = some (exo a' C' none) ∧ ∀ dx, H dx = none → dx ≠ a' → R (upd (upd H dx (exd dx [(f, y)])) a' (exo a' C' (some dx)))) ∨
      ∃ (dx : Addr) (fs : List (Str × V)), H a' = some (exo a' C' (some dx)) ∧ H dx = some (exd dx fs) ∧ fs.length ≤ 900 ∧ R (upd H dx (exd dx ((f, y) :: fs)))) := ⟨a, C, rfl, T, no, .inr ⟨dx, fs, e, ed, hl, k⟩⟩
/-! ### data with dicts within, at any depth -/
mutual
inductive Dz (H : Hp) : V → PyData → Prop
  | non : Dz H .non .none
  | bl (b : Bool) : Dz H (.bl b) (.bool b)
  | int (i : Int) : Dz H (.int i) (.int i)
  | str (x : Str) : Dz H (.str x) (.str x)
  | lst {a : Addr} {xs : List V} {ds : List PyData} : a ≠ sysModules → H a = some (.lst xs) → DzAll H xs ds → Dz H (.ref a) (.list ds)
  | tup {a : Addr} {xs : List V} {ds : List PyData} : H a = some (.tup xs) → DzAll H xs ds → Dz H (.ref a) (.tuple ds)
  | d0 {a : Addr} : H a = some (.dK []) → Dz H (.ref a) (.dict [])
  | d1 {a : Addr} {i j : Int} : H a = some (.dK [(.inl i, .int j)]) → Dz H (.ref a) (.dict [(.int i, .int j)])
inductive DzAll (H : Hp) : List V → List PyData → Prop
  | nil : DzAll H [] []
  | cons {v : V} {vs : List V} {d : PyData} {ds : List PyData} : Dz H v d → DzAll H vs ds → DzAll H (v :: vs) (d :: ds)
end
section
variable {X : Cx} {pins : List (Addr × Obj)} {σ : L2.St} {H : Hp} {s : Shared}
theorem d_reads {a : Addr} {kvs : List (Key × V)} {ds : List (PyData × PyData)} (I : Inv X pins σ H s) (ea : H a = some (.dK kvs)) (hk : (kvs = [] ∧ ds = []) ∨ ∃ i j : Int, kvs = [(.inl i, .int j)] ∧ ds = [(.int i, .int j)]) :
    Reads s.heap (.ref a) (.dict ds) (a :: ([] : List Addr) ++ []) ∧ sysModules ∉ (a :: ([] : List Addr) ++ []) := by
  have z : ObjOk X.prog X.w H s.heap a (.dK kvs) := I.hok a _ ea
  obtain ⟨_, nsm, vs, hkv, o, es, ep, ho, ⟨hc, _, _⟩, hdat, _, hp, _⟩ := z
  have rd : Reads s.heap (.ref a) (.dict ds) (a :: ([] : List Addr) ++ []) := by
    rcases hk with ⟨rfl, rfl⟩ | ⟨i, j, rfl, rfl⟩
    · cases hkv
      have e0 : es.toList = [] := by
        cases hl : es.toList with
        | nil => rfl
        | cons _ _ =>
          rw [hl] at hp
          cases hp
      refine Reads.dict ho hc hdat ?_ ?_
      · rw [e0]
        exact .nil
      · rw [e0]
        exact .nil
    · obtain ⟨kq, vq, rfl, ek, rv⟩ : ∃ kq vq, vs = [(kq, vq)] ∧ (Sum.inl i : Key) = kq ∧ RelV (.int j) vq := by
        match vs, hkv with
        | [(kq, vq)], .cons h1 .nil => exact ⟨kq, vq, rfl, h1.1, h1.2⟩
      · cases hl : es.toList with
        | nil =>
          rw [hl] at hp
          cases hp
        | cons e1 r1 =>
          rw [hl] at hp
          cases hp with
          | cons hk1 hv1 hr1 =>
            cases hr1
            subst ek
            obtain ⟨t, ev⟩ := rv
            have ev' : e1.val = .int j t := hv1.trans ev
            rcases keyIs_shape (show keyIs (.inl i) e1.key = true from hk1) with ⟨i', t', e2, e3⟩ | ⟨x', t', e2, e3⟩
            · have ei : i = i' := Sum.inl.inj e2
              subst ei
              refine Reads.dict (as := [] ++ []) (bs := [] ++ []) ho hc hdat ?_ ?_
              · rw [hl]
                show ReadsAll s.heap [e1.key] [PyData.int i] _
                rw [e3]
                exact .cons (.int i t') .nil
              · rw [hl]
                show ReadsAll s.heap [e1.val] [PyData.int j] _
                rw [ev']
                exact .cons (.int j t) .nil
            · cases e2
  refine ⟨rd, fun hm => ?_⟩
  rw [List.append_nil] at hm
  have e := List.mem_singleton.mp hm
  rw [← e] at nsm
  simp at nsm
theorem no_app {a : Addr} {l m : List Addr} (h1 : a ∉ l) (h2 : a ∉ m) : a ∉ l ++ m := fun h => (List.mem_append.mp h).elim h1 h2
mutual
theorem Dz.reads (I : Inv X pins σ H s) : ∀ {v : V} {d : PyData} {u : Value}, Dz H v d → RelV v u → ∃ as, Reads s.heap u d as ∧ sysModules ∉ as
  | _, _, _, .non, r => by
    cases r
    exact ⟨_, .none, List.not_mem_nil⟩
  | _, _, _, .bl b, r => by
    cases r
    exact ⟨_, .bool b, List.not_mem_nil⟩
  | _, _, _, .int i, r => by
    obtain ⟨t, rfl⟩ := r
    exact ⟨_, .int i t, List.not_mem_nil⟩
  | _, _, _, .str x, r => by
    obtain ⟨t, rfl⟩ := r
    exact ⟨_, .str x t, List.not_mem_nil⟩
  | _, _, _, .lst (a := a) (xs := xs) na ha hd, r => by
    cases r
    have z : ObjOk X.prog X.w H s.heap a (.lst xs) := I.hok a _ ha
    obtain ⟨_, its, n, rv, e⟩ := z
    obtain ⟨as, q, no⟩ := DzAll.reads I hd rv
    exact ⟨_, .list e rfl rfl q, fun h => (List.mem_cons.mp h).elim (fun e => na e.symm) no⟩
  | _, _, _, .tup (a := a) (xs := xs) ha hd, r => by
    cases r
    have z : ObjOk X.prog X.w H s.heap a (.tup xs) := I.hok a _ ha
    obtain ⟨_, its, rv, ob, e, c, n, dd⟩ := z
    obtain ⟨as, q, no⟩ := DzAll.reads I hd rv
    exact ⟨_, .tuple e c dd q, no⟩
  | _, _, _, .d0 (a := a) ha, r => by
    cases r
    exact ⟨_, d_reads I ha (.inl ⟨rfl, rfl⟩)⟩
  | _, _, _, .d1 (a := a) ha, r => by
    cases r
    exact ⟨_, d_reads I ha (.inr ⟨_, _, rfl, rfl⟩)⟩
theorem DzAll.reads (I : Inv X pins σ H s) : ∀ {vs : List V} {ds : List PyData} {us : List Value}, DzAll H vs ds → Vals vs us → ∃ as, ReadsAll s.heap us ds as ∧ sysModules ∉ as
  | _, _, _, .nil, r => by
    cases r
    exact ⟨_, .nil, List.not_mem_nil⟩
  | _, _, _, .cons h t, r => by
    cases r with
    | cons r1 r2 =>
      obtain ⟨as, q, no⟩ := Dz.reads I h r1
      obtain ⟨bs, q2, no2⟩ := DzAll.reads I t r2
      exact ⟨_, .cons q q2, no_app no no2⟩
end
end
def rReprZ : List V → Hp → VK → Prop := fun xs H Q => ∃ (x : V) (d : PyData), xs = [x] ∧ Dz H x d ∧ d.showable = true ∧ d.depth ≤ 64 ∧ d.shown.length ≤ sizeLine ∧ (∀ i, x = .int i → i.natAbs.log2 < 1920) ∧ Q (.str d.shown) H
theorem call_reprZ {X : Cx} (hg : Calm X.A) (hu : X.A.units + 70 < cLine) : CallR X (.builtin "repr") rReprZ := by
  intro pins s σ H xs us Q I r h
  obtain ⟨x, d, rfl, hd, hs, hdep, hsz, hi, q⟩ := h
  obtain ⟨u, rfl, rx⟩ := vals1 r
  obtain ⟨as, rd, no⟩ := Dz.reads I hd rx
  have go : ∀ a, u = .ref a → wpAny (model X.prog X.w) X.A (call (.builtin "repr") [u]) (EP X pins σ Q) X.xe s := fun a e => by
    subst e
    refine repr_of_reads' rd hs (fun _ => no) hg (by omega) (fun _ _ e => e) (fun h' u tk hk => ?_) hsz
    exact ⟨.str _, H, I.kept (t' := tk) hk, ⟨_, rfl⟩, q⟩
  cases hd with
  | non =>
    cases rx
    exact PySem.P.repr_of_none ⟨.str _, H, I.tok _, ⟨_, rfl⟩, q⟩
  | bl b =>
    cases rx
    refine PySem.P.repr_of_bool ⟨.str _, H, I.tok _, ⟨_, rfl⟩, ?_⟩
    cases b <;> exact q
  | int i =>
    obtain ⟨t, rfl⟩ := rx
    exact PySem.P.repr_of_int (hi i rfl) ⟨.str _, H, I.tok _, ⟨_, rfl⟩, q⟩
  | str z =>
    obtain ⟨t, rfl⟩ := rx
    exact PySem.P.repr_of_str ⟨.str _, H, I.tok _, ⟨_, rfl⟩, q⟩ hsz
  | lst _ _ _ => exact go _ rx
  | tup _ _ => exact go _ rx
  | d0 _ => exact go _ rx
  | d1 _ => exact go _ rx
theorem call_reprZK {X : Cx} {a : Addr} {oe : Obj} {pn : List (Addr × Obj)} (hg : Calm X.A) (hu : X.A.units + 70 < cLine) : CallR (kept X a oe pn) (.builtin "repr") rReprZ := call_reprZ (X := kept X a oe pn) hg hu
mutual
theorem Dz.same {H H' : Hp} (S : Same H H') : ∀ {v : V} {d : PyData}, Dz H v d → Dz H' v d
  | _, _, .non => .non
  | _, _, .bl b => .bl b
  | _, _, .int i => .int i
  | _, _, .str x => .str x
  | _, _, .lst na ha hd => .lst na (S _ _ ha) (DzAll.same S hd)
  | _, _, .tup ha hd => .tup (S _ _ ha) (DzAll.same S hd)
  | _, _, .d0 ha => .d0 (S _ _ ha)
  | _, _, .d1 ha => .d1 (S _ _ ha)
theorem DzAll.same {H H' : Hp} (S : Same H H') : ∀ {vs : List V} {ds : List PyData}, DzAll H vs ds → DzAll H' vs ds
  | _, _, .nil => .nil
  | _, _, .cons h t => .cons (Dz.same S h) (DzAll.same S t)
end
/-- small data, dicts within or not -/
structure Sz (k n : Nat) (d : PyData) : Prop where
  sh : d.showable = true
  ls : d.leavesShort 250 = true
  wt : d.weight ≤ n
  dp : d.depth ≤ k
structure SzAll (k n : Nat) (ds : List PyData) : Prop where
  sh : PyData.showableAll ds = true
  ls : PyData.leavesShortAll 250 ds = true
  wt : PyData.weightAll ds ≤ n
  dp : PyData.depthAll ds ≤ k
theorem Sm.z {k n : Nat} {d : PyData} (h : Sm k n d) : Sz k n d := ⟨h.sh, h.ls, h.wt, h.dp⟩
theorem Sz.up {k n k' n' : Nat} {d : PyData} (h : Sz k n d) (hk : k ≤ k') (hn : n ≤ n') : Sz k' n' d := ⟨h.sh, h.ls, Nat.le_trans h.wt hn, Nat.le_trans h.dp hk⟩
theorem sz_nil {k : Nat} : SzAll k 0 [] := ⟨by simp [PyData.showableAll], by simp [PyData.leavesShortAll], by simp [PyData.weightAll], by simp [PyData.depthAll]⟩
theorem sz_cons {k a b : Nat} {d : PyData} {ds : List PyData} (h : Sz k a d) (t : SzAll k b ds) : SzAll k (a + 1 + b) (d :: ds) := by
  refine ⟨by simp [PyData.showableAll, h.sh, t.sh], by simp [PyData.leavesShortAll, h.ls, t.ls], ?_, ?_⟩
  · have := h.wt
    have := t.wt
    simp only [PyData.weightAll]
    omega
  · have := h.dp
    have := t.dp
    simp only [PyData.depthAll]
    omega
theorem sz_list {k n : Nat} {ds : List PyData} (t : SzAll k n ds) : Sz (k + 1) n (.list ds) :=
  ⟨by simp [PyData.showable, t.sh], by simp [PyData.leavesShort, t.ls], by simp [PyData.weight, t.wt], by have := t.dp; simp only [PyData.depth]; omega⟩
theorem sz_tup {k n : Nat} {ds : List PyData} (t : SzAll k n ds) : Sz (k + 1) n (.tuple ds) :=
  ⟨by simp [PyData.showable, t.sh], by simp [PyData.leavesShort, t.ls], by simp [PyData.weight, t.wt], by have := t.dp; simp only [PyData.depth]; omega⟩
theorem sz_d0 {k : Nat} : Sz (k + 1) 0 (.dict []) := ⟨by simp [PyData.showable, PyData.showableKv], by simp [PyData.leavesShort, PyData.leavesShortKv], by simp [PyData.weight, PyData.weightKv], by simp [PyData.depth, PyData.depthKv]⟩
theorem sz_d1 {k : Nat} {i j : Int} (a : -(2 ^ 200) < i) (b : i < 2 ^ 200) (c : -(2 ^ 200) < j) (d : j < 2 ^ 200) : Sz (k + 1) 404 (.dict [(.int i, .int j)]) := by
  have x := sm_int (k := 0) a b
  have y := sm_int (k := 0) c d
  refine ⟨by simp only [PyData.showable, PyData.showableKv] at x y ⊢; rw [show decide (i.natAbs.log2 < 1920) = true by have := x.sh; simpa [PyData.showable] using this, show decide (j.natAbs.log2 < 1920) = true by have := y.sh; simpa [PyData.showable] using this]; rfl,
    by simp only [PyData.leavesShort, PyData.leavesShortKv]; rw [show decide ((PyData.shown (.int i)).length ≤ 250) = true by have := x.ls; simpa only [PyData.leavesShort] using this, show decide ((PyData.shown (.int j)).length ≤ 250) = true by have := y.ls; simpa only [PyData.leavesShort] using this]; rfl, ?_, ?_⟩
  · have := x.wt
    have := y.wt
    simp only [PyData.weight, PyData.weightKv] at *
    omega
  · simp [PyData.depth, PyData.depthKv]
theorem Sz.text {k n : Nat} {d : PyData} (h : Sz k n d) (hn : n ≤ 50000) : d.shown.length ≤ sizeLine := by
  have e := PyData.shown_le 250 (by decide) d h.ls
  have w := h.wt
  rw [sizeLine_eq]
  omega
theorem rd_reprZ {H : Hp} {Q : VK} {v : V} {d : PyData} {k n : Nat} (h : Dz H v d) (s : Sz k n d) (hk : k ≤ 60) (hn : n ≤ 50000) (q : Q (.str d.shown) H) : rReprZ [v] H Q := by
  refine ⟨v, d, rfl, h, s.sh, by have := s.dp; omega, s.text hn, fun i e => ?_, q⟩
  subst e
  cases h
  have z := s.sh
  simp only [PyData.showable, decide_eq_true_eq] at z
  exact z
/-- a list's display, told that it is no module table -/
def tLstN (t : TA) : TE := fun σ H Q => t σ H fun xs H1 => xs.length ≤ sizeLine ∧ ∀ p, p ≠ sysModules → H1 p = none → Q (.ref p) (upd H1 p (.lst xs))
theorem pe_lstN {X : Cx} {es : List Expr} {t : TA} {pos : Pos} (h : PA X es t) : PE X (.List es pos) (tLstN t) := by
  constructor
  intro pins s σ H Q I hq
  refine wpAny_List_spliced (thn (h.run pos pins s σ H _ I hq) fun us s1 z => ?_)
  obtain ⟨xs, H1, J, r, z, q⟩ := z
  have fresh := J.hok.fresh (Nat.le_refl s1.heap.objs.size)
  exact ⟨r.length ▸ z, .ref s1.heap.objs.size, upd H1 s1.heap.objs.size (.lst xs), J.laid (t' := s1.toks) (fun _ _ e => Heap.get?_push_of_some _ e) (Nat.le_refl _) ⟨z, us, 0, r, Heap.get?_push_size _ rfl⟩, rfl, q _ (Nat.ne_of_gt J.big) fresh⟩
section
variable {K : PySem.W.Frag} {H : Hp} {p : Addr}
theorem rd_for {wi : TI} {g : TG} {tb : TS} {D : Ends} {σ : L2.St} (k : wi σ H fun J H1 => ∃ W : Nat → Nat → L2.St → Hp → Prop, (∃ m, W 0 m σ H1) ∧ ∀ i m σ H, W i m σ H →
  (J.stop i H ∧ D.nx σ H) ∨ (J.go i H ∧ ∃ N : L2.St → Hp → Prop, (∀ σ' H', N σ' H' → ∃ m', m' < m ∧ W (i + 1) m' σ' H') ∧ ∀ x H', J.yld i H x H' → g x σ H' fun σ2 H2 => tb { D with nx := N, ct := N, bk := D.nx } σ2 H2)) : tFor wi g tb D σ H := k
theorem rd_iT {tl : TE} {σ : L2.St} {R : It → Hp → Prop} (k : tl σ H fun x H1 => ∃ a, x = .ref a ∧ (∃ xs, SqT K H1 a xs) ∧ R (Itt K a) H1) : iTup K tl σ H R := k
theorem rd_iL {tl : TE} {σ : L2.St} {R : It → Hp → Prop} (k : tl σ H fun x H1 => ∃ a, x = .ref a ∧ (∃ xs, SqL K H1 a xs) ∧ R (Itl K a) H1) : iList K tl σ H R := k
theorem rd_iTa {xs : List V} {R : Addr → Prop} (h : H p = some (.tup xs)) (k : R p) : ∃ a, V.ref p = .ref a ∧ (∃ xs, SqT K H a xs) ∧ R a := ⟨p, rfl, ⟨xs, SqT.of h⟩, k⟩
theorem rd_iLa {xs : List V} {R : Addr → Prop} (h : H p = some (.lst xs)) (k : R p) : ∃ a, V.ref p = .ref a ∧ (∃ xs, SqL K H a xs) ∧ R a := ⟨p, rfl, ⟨xs, SqL.of h⟩, k⟩
theorem rd_rng2 {tA : TA} {σ : L2.St} {R : It → Hp → Prop} (k : tA σ H fun vs H1 => ∃ i j : Int, vs = [.int i, .int j] ∧ (-(2 ^ 62) ≤ i ∧ i < 2 ^ 62 ∧ -(2 ^ 62) ≤ j ∧ j < 2 ^ 62) ∧ R (Itr i (j - i).toNat) H1) : iRng2 tA σ H R := k
theorem rd_rng1 {tA : TA} {σ : L2.St} {R : It → Hp → Prop} (k : tA σ H fun vs H1 => ∃ j : Int, vs = [.int j] ∧ -(2 ^ 62) ≤ j ∧ j < 2 ^ 62 ∧ R (Itr 0 j.toNat) H1) : iRng1 tA σ H R := k
theorem Pot.same {H H' : Hp} {p : Addr} {n : Nat} (h : Pot H p n) (s : Same H H') : Pot H' p n := by
  obtain ⟨x, z, c, a, b⟩ := h
  exact ⟨x, z, c, s _ _ a, b⟩
theorem rep_snoc {α : Type} (i : Nat) (x : α) : List.replicate i x ++ [x] = List.replicate (i + 1) x := by
  rw [List.replicate_succ']
theorem all_rep (i : Nat) : (List.replicate i true).all id = true := by
  induction i with
  | zero => rfl
  | succ n ih => rw [List.replicate_succ, List.all_cons, ih]; rfl
end
section
variable {P : Program} {w : World} {K : PySem.W.Frag} {mg : Str → Option Value} {base : Heap}
/-! ### k00: kinds made or refused, what is in them, what equals them -/
abbrev s_BadKind___init__ : Stmt := (inClass (top 3) 0)
abbrev N_BadKind___init__ : List Str := ["self", "one", "other"]
abbrev P_BadKind___init__ : List Str := ["self", "one", "other"]
theorem sc_BadKind___init__ : FnScope N_BadKind___init__ P_BadKind___init__ (defScope s_BadKind___init__) := ⟨rfl, rfl, rfl, by decide +kernel, rfl, by decide +kernel, by decide +kernel⟩
abbrev s_is_between : Stmt := (top 9)
abbrev N_is_between : List Str := ["value", "low", "high"]
abbrev P_is_between : List Str := ["value", "low", "high"]
theorem sc_is_between : FnScope N_is_between P_is_between (defScope s_is_between) := ⟨rfl, rfl, rfl, by decide +kernel, rfl, by decide +kernel, by decide +kernel⟩
abbrev s_Kind___contains__ : Stmt := (inClass (top 16) 6)
abbrev N_Kind___contains__ : List Str := ["self", "number"]
abbrev P_Kind___contains__ : List Str := ["self", "number"]
theorem sc_Kind___contains__ : FnScope N_Kind___contains__ P_Kind___contains__ (defScope s_Kind___contains__) := ⟨rfl, rfl, rfl, by decide +kernel, rfl, by decide +kernel, by decide +kernel⟩
abbrev s_Kind___eq__ : Stmt := (inClass (top 16) 7)
abbrev N_Kind___eq__ : List Str := ["self", "other"]
abbrev P_Kind___eq__ : List Str := ["self", "other"]
theorem sc_Kind___eq__ : FnScope N_Kind___eq__ P_Kind___eq__ (defScope s_Kind___eq__) := ⟨rfl, rfl, rfl, by decide +kernel, rfl, by decide +kernel, by decide +kernel⟩
abbrev s_Kind___str__ : Stmt := (inClass (top 16) 14)
abbrev N_Kind___str__ : List Str := ["self"]
abbrev P_Kind___str__ : List Str := ["self"]
theorem sc_Kind___str__ : FnScope N_Kind___str__ P_Kind___str__ (defScope s_Kind___str__) := ⟨rfl, rfl, rfl, by decide +kernel, rfl, by decide +kernel, by decide +kernel⟩
abbrev s__law_end : Stmt := (top 22)
abbrev N__law_end : List Str := ["_law_pot", "_law_near"]
abbrev P__law_end : List Str := ["_law_pot"]
theorem sc__law_end : FnScope N__law_end P__law_end (defScope s__law_end) := ⟨rfl, rfl, rfl, by decide +kernel, rfl, by decide +kernel, by decide +kernel⟩
abbrev s__law_odd : Stmt := (top 23)
abbrev N__law_odd : List Str := ["_law_pot"]
abbrev P__law_odd : List Str := ["_law_pot"]
theorem sc__law_odd : FnScope N__law_odd P__law_odd (defScope s__law_odd) := ⟨rfl, rfl, rfl, by decide +kernel, rfl, by decide +kernel, by decide +kernel⟩
abbrev s__law_is_number : Stmt := (top 24)
abbrev N__law_is_number : List Str := ["_law_value"]
abbrev P__law_is_number : List Str := ["_law_value"]
theorem sc__law_is_number : FnScope N__law_is_number P__law_is_number (defScope s__law_is_number) := ⟨rfl, rfl, rfl, by decide +kernel, rfl, by decide +kernel, by decide +kernel⟩
abbrev s__law_heard : Stmt := (top 25)
abbrev N__law_heard : List Str := ["_law_low", "_law_high", "_law_caught", "error"]
abbrev P__law_heard : List Str := ["_law_low", "_law_high"]
theorem sc__law_heard : FnScope N__law_heard P__law_heard (defScope s__law_heard) := ⟨rfl, rfl, rfl, by decide +kernel, rfl, by decide +kernel, by decide +kernel⟩

theorem kf_no {lo hi : Int} {m : Str} (h1 : m ≠ ("low" : Str)) (h2 : m ≠ ("high" : Str)) (h3 : m ≠ ("size" : Str)) : (kf lo hi).lookup m = none := by
  unfold kf
  rw [lookup_putF, if_neg h3, lookup_putF, if_neg h2, lookup_putF, if_neg h1]
  rfl
theorem IsKind.kp {C a p : Addr} {H H' : Hp} {lo hi : Int} {n : Nat} (h : IsKind C H a lo hi) (hp : Pot H p n) (k : Kp p H H') : IsKind C H' a lo hi := by
  obtain ⟨dx, e⟩ := h
  obtain ⟨x, z, c, ep, _⟩ := hp
  exact ⟨dx, k _ _ (fun q => by rw [q, ep] at e; cases e) e⟩
theorem rd_mth {C a : Addr} {H : Hp} {lo hi : Int} {m : Str} {R : Prop} (h : IsKind C H a lo hi) (h1 : m ≠ ("low" : Str)) (h2 : m ≠ ("high" : Str)) (h3 : m ≠ ("size" : Str)) (k : R) :
    ∃ (b dx : Addr) (fs : List (Str × V)), V.ref a = .ref b ∧ H b = some (.ins C dx fs) ∧ fs.lookup m = none ∧ R := by
  obtain ⟨dx, e⟩ := h
  exact ⟨a, dx, _, rfl, e, kf_no h1 h2 h3, k⟩
theorem rd_tmeth {C : Addr} {m : Str} {sp : Sp} {dvs : List V} {E : XK} {ta : TE} {t : TA} {σ : L2.St} {H : Hp} {Q : VK} (k : ta σ H fun x H1 => ∃ a dx fs, x = .ref a ∧ H1 a = some (.ins C dx fs) ∧ fs.lookup m = none ∧ t σ H1 fun vs H2 => sp (x :: (vs ++ dvs)) H2 Q E) :
    tMeth C m sp dvs E ta t σ H Q := k
/-- an error's class, called -/
def CalE (P : Program) (w : World) (K : PySem.W.Frag) (mg : Str → Option Value) (base : Heap) (C : Addr) (ps : List Str) : Prop :=
  ∃ (f : Addr) (fd : FuncData), PySem.W.findIn K (.ref C) "__init__" = some (some (.ref f)) ∧ PySem.W.typeIn K (.ref f) = some (.type "function") ∧ FnOk P w K mg base CX0 1 f fd ps (spBad2 C "one" "other") ∧ Binds K fd ps []

theorem ok_BadKind {f C CW : Addr} {fd : FuncData} (F : Fun K "__init__" "BadKind.__init__" s_BadKind___init__ f fd) (ET : ErrT2 K mg CW C "BadKind" "one" "other") : FnOk P w K mg base CX0 1 f fd P_BadKind___init__ (spBad2 C "one" "other") := by
  refine F.ok sc_BadKind___init__ (fun vs H Q E h => ?_) (fun cdv A outer s H vs Q E hr h => ?_)
  · obtain ⟨a, v, w, rfl, _⟩ := h
    rfl
  · obtain ⟨a, v, w, rfl, e, k⟩ := h
    refine ⟨_, (pss_cons (ps_ost (pv 0) (pv 1))
      (pss_one (ps_ost (pv 0) (pv 2)))), ?_⟩
    unfold tOst
    fail "z go"
    refine rd_ost ET.ox ET.n1 e fun dx nd ne => ?_
    fail "z go"
    exact rd_ost2 ET.ox ET.n2 upd_same ((upd_ne ne).trans upd_same) (Nat.le_of_ble_eq_true rfl) (k dx nd ne)
theorem Plain.same {H H' : Hp} {v : V} (h : Plain H v) (s : Same H H') : Plain H' v := by
  cases h with
  | non => exact .non
  | bl b => exact .bl b
  | int i => exact .int i
  | str x => exact .str x
  | lst e => exact .lst (s _ _ e)
  | tup e => exact .tup (s _ _ e)
  | dK e => exact .dK (s _ _ e)
def okK (lo hi : V) : Bool := match lo, hi with
  | .int a, .int b => decide (a ≤ 0) && decide (0 ≤ b)
  | _, _ => false
def spKindX (C CB : Addr) : Sp := fun vs H Q E => ∃ (p dx : Addr) (lo hi : V), vs = [.ref p, lo, hi] ∧ H p = some (.ins C dx []) ∧ Plain H lo ∧ Plain H hi ∧
  (∀ a b : Int, lo = .int a → hi = .int b → a ≤ 0 → 0 ≤ b → ∀ H' : Hp, Kp p H H' → H' p = some (.ins C dx (kf a b)) → Q .non H') ∧
  (okK lo hi = false → ∀ d H', H d = none → Same H H' → H' d = some (.xd [("other", hi), ("one", lo)]) → E (.ref CB) (some d) H')
def CalK (P : Program) (w : World) (K : PySem.W.Frag) (mg : Str → Option Value) (base : Heap) (C CB : Addr) : Prop :=
  ∃ (f : Addr) (fd : FuncData), Mk K C f ∧ FnOk P w K mg base (L2.CX P w) 3 f fd P_Kind___init__ (spKindX C CB) ∧ Binds K fd P_Kind___init__ [] ∧ mg "Kind" = some (.ref C)
theorem ok_KindX {f C CW C_BadKind : Addr} {fd : FuncData} (F : Fun K "__init__" "Kind.__init__" s_Kind___init__ f fd) (KT : KindT K C) (ET_BadKind : ErrT2 K mg CW C_BadKind "BadKind" "one" "other") (c_is : Cal P w K mg base 1 "is_integer" P_is_integer spIsInt) (c_bad : CalE P w K mg base C_BadKind P_BadKind___init__) :
    FnOk P w K mg base (L2.CX P w) 3 f fd P_Kind___init__ (spKindX C C_BadKind) := by
  obtain ⟨f_is, fd_is, G_is_integer, b_is_integer, g_is_integer, k_is_integer⟩ := c_is
  obtain ⟨f_b, fd_b, i_BadKind, t_BadKind, G_BadKind, b_BadKind⟩ := c_bad
  have g_BadKind := ET_BadKind.g
  refine F.okX sc_Kind___init__ (fun vs H Q E h => ?_) (fun cdv A outer s H vs Q E hr h => ?_)
  · obtain ⟨p, dx, lo, hi, rfl, _⟩ := h
    rfl
  · obtain ⟨p, dx, lo, hi, rfl, hp, p1, p2, k1, k2⟩ := h
    refine ⟨_, (pss_cons (ps_if (PW.pt (pw_or (pt_not (pt_val (pe_call G_is_integer (hr.mono (by decide)) rfl g_is_integer k_is_integer b_is_integer .nil pass0 (pa_cons (pv 1) pa_nil)))) (pw_or (pt_not (pt_val (pe_call G_is_integer (hr.mono (by decide)) rfl g_is_integer k_is_integer b_is_integer .nil pass0 (pa_cons (pv 2) pa_nil)))) (pw_or1 (pt_not (pt_chain op_le op_le (pv 1) pe_int (pv 2))))))) (pss_one (ps_raise rfl (takes_of rfl rfl rfl rfl) (pmk_oex ET_BadKind.ox i_BadKind t_BadKind G_BadKind (hr.mono (by decide)) b_BadKind .nil pass0 rfl g_BadKind (pa_cons (pv 1) (pa_cons (pv 2) pa_nil))))) pss_nil)
      (pss_cons (ps_fld (pv 0) (pv 1) rfl)
      (pss_cons (ps_fld (pv 0) (pv 2) rfl)
      (pss_one (ps_fld (pv 0) (pe_op op_add (pe_op op_sub (pv 2) (pv 1)) pe_int) rfl))))), ?_⟩
    unfold tMkO
    fail "z run"
    refine ⟨_, rfl, p1, ?_⟩
    fail "z run"
    refine rd_iteB (fun hb => ?_) (fun hb => ?_)
    · fail "z run"
      exact rd_bad2 fun d H' nd S ed => k2 (by cases lo <;> first | rfl | cases hb) d H' nd S ed
    obtain ⟨a, rfl⟩ : ∃ n, lo = .int n := by cases lo <;> first | exact ⟨_, rfl⟩ | cases hb
    fail "z run"
    refine ⟨_, rfl, p2, ?_⟩
    fail "z run"
    refine rd_iteB (fun hb => ?_) (fun hb => ?_)
    · fail "z run"
      exact rd_bad2 fun d H' nd S ed => k2 (by cases hi <;> first | rfl | cases hb) d H' nd S ed
    obtain ⟨b, rfl⟩ : ∃ n, hi = .int n := by cases hi <;> first | exact ⟨_, rfl⟩ | cases hb
    fail "z run"
    refine rd_iteB (fun h1 => ?_) (fun h1 => ?_)
    · fail "z run"
      refine rd_iteB (fun h2 => ?_) (fun h2 => ?_)
      · fail "z run"
        exact rd_bad2 fun d H' nd S ed => k2 (by
          show (decide (a ≤ 0) && decide (0 ≤ b)) = false
          cases q : decide (0 ≤ b) with
          | true => rw [q] at h2; cases h2
          | false => rw [Bool.and_false]) d H' nd S ed
      · have ha := of_decide_eq_true h1
        have hb : 0 ≤ b := of_decide_eq_true (by cases q : decide (0 ≤ b) with | true => rfl | false => rw [q] at h2; cases h2)
        fail "z go"
        refine rd_sfldI hp KT.cl KT.n_low (by decide) ?_
        fail "z go"
        have l1 := length_putF "low" (.int a) []
        refine rd_sfldI upd_same KT.cl KT.n_high (by show _ < 1000; simp only [List.length_nil] at l1; omega) ?_
        fail "z go"
        have l2 := length_putF "high" (.int b) (putF "low" (.int a) [])
        refine rd_sfldI upd_same KT.cl KT.n_size (by show _ < 1000; simp only [List.length_nil] at l1; omega) ?_
        exact k1 a b rfl rfl ha hb _ Kp.refl.put.put.put upd_same
    · fail "z run"
      refine iteT ?_
      fail "z run"
      exact rd_bad2 fun d H' nd S ed => k2 (by
        show (decide (a ≤ 0) && decide (0 ≤ b)) = false
        rw [h1, Bool.false_and]) d H' nd S ed
/-- Kind(low, high) of any values, where it is called -/
theorem rd_KindA {C CB : Addr} {H : Hp} {E : XK} {lo hi : V} {R : Addr → Hp → Prop} (p1 : Plain H lo) (p2 : Plain H hi) (kg : ∀ a b : Int, lo = .int a → hi = .int b → a ≤ 0 → 0 ≤ b → ∀ (x : Addr) (H' : Hp), H x = none → Same H H' → IsKind C H' x a b → R x H')
    (kb : okK lo hi = false → ∀ d H', H d = none → Same H H' → H' d = some (.xd [("other", hi), ("one", lo)]) → E (.ref CB) (some d) H') :
    ∀ x dx, H x = none → H dx = none → dx ≠ x → spKindX C CB (.ref x :: ([lo, hi] ++ [])) (upd (upd H dx (.own x)) x (.ins C dx [])) (fun v H2 => v = .non ∧ R x H2) E := by
  intro x dx nx nd ne
  have S : Same H (upd (upd H dx (.own x)) x (.ins C dx [])) := fun b o e => (upd_ne (ne_of_none e nx)).trans ((upd_ne (ne_of_none e nd)).trans e)
  refine ⟨x, dx, lo, hi, rfl, upd_same, p1.same S, p2.same S, fun a b ea eb a0 b0 H' kp hx => ⟨rfl, kg a b ea eb a0 b0 x H' nx (fun b o e => kp b o (ne_of_none e nx) (S _ _ e)) ⟨dx, hx⟩⟩, fun z d H' nd2 S2 ed => ?_⟩
  have n1 : d ≠ x := fun e => by rw [e, upd_same] at nd2; cases nd2
  have n2 : d ≠ dx := fun e => by rw [e, upd_ne ne, upd_same] at nd2; cases nd2
  exact kb z d H' (by rw [upd_ne n1, upd_ne n2] at nd2; exact nd2) (S.trans S2) ed
theorem rd_Kind {C CB : Addr} {H : Hp} {E : XK} {lo hi : Int} {R : Addr → Hp → Prop} (h1 : lo ≤ 0) (h2 : 0 ≤ hi) (k : ∀ (a : Addr) (H' : Hp), H a = none → Same H H' → IsKind C H' a lo hi → R a H') :
    ∀ x dx, H x = none → H dx = none → dx ≠ x → spKindX C CB (.ref x :: ([V.int lo, V.int hi] ++ [])) (upd (upd H dx (.own x)) x (.ins C dx [])) (fun v H2 => v = .non ∧ R x H2) E :=
  rd_KindA (.int _) (.int _) (fun a b ea eb _ _ x H' nx S q => by cases ea; cases eb; exact k x H' nx S q) fun z => by
    rw [show okK (.int lo) (.int hi) = (decide (lo ≤ 0) && decide (0 ≤ hi)) from rfl, decide_eq_true h1, decide_eq_true h2] at z
    cases z
def btw (v : V) (lo hi : Int) : Bool := match v with
  | .int n => decide (lo ≤ n) && decide (n ≤ hi)
  | _ => false
theorem btw_no {v : V} {lo hi : Int} (h : isI v = false) : btw v lo hi = false := by
  cases v <;> first | rfl | cases h
theorem isI_int {v : V} (h : isI v = true) : ∃ n, v = .int n := by
  cases v <;> first | exact ⟨_, rfl⟩ | cases h
def spBtw : Sp := fun vs H Q _ => ∃ (v : V) (lo hi : Int), vs = [v, .int lo, .int hi] ∧ Plain H v ∧ Q (.bl (btw v lo hi)) H
theorem ok_btw {f : Addr} {fd : FuncData} (F : Fun K "is_between" "is_between" s_is_between f fd) (c_is : Cal P w K mg base 1 "is_integer" P_is_integer spIsInt) : FnOk P w K mg base CX0 2 f fd P_is_between spBtw := by
  obtain ⟨f_is, fd_is, G_is_integer, b_is_integer, g_is_integer, k_is_integer⟩ := c_is
  refine F.ok sc_is_between (fun vs H Q E h => ?_) (fun cdv A outer s H vs Q E hr h => ?_)
  · obtain ⟨v, lo, hi, rfl, _⟩ := h
    rfl
  · obtain ⟨v, lo, hi, rfl, p, k⟩ := h
    refine ⟨_, (pss_one (ps_ret (pe_and (pe_call G_is_integer (hr.mono (by decide)) rfl g_is_integer k_is_integer b_is_integer .nil pass0 (pa_cons (pv 0) pa_nil)) (pe_one (pe_chain op_le op_le (pv 1) (pv 0) (pv 2)))))), ?_⟩
    fail "z run"
    refine ⟨_, rfl, p, ?_⟩
    fail "z run"
    refine rd_iteB (fun hb => ?_) (fun hb => ?_)
    · obtain ⟨n, rfl⟩ := isI_int hb
      fail "z run"
      refine rd_iteB (fun h1 => ?_) (fun h1 => ?_)
      · fail "z run"
        have e : btw (.int n) lo hi = decide (n ≤ hi) := by
          show (decide (lo ≤ n) && decide (n ≤ hi)) = _
          rw [h1, Bool.true_and]
        rw [← e]
        exact k
      · have e : btw (.int n) lo hi = false := by
          show (decide (lo ≤ n) && decide (n ≤ hi)) = _
          rw [h1, Bool.false_and]
        rw [← e]
        exact k
    · rw [btw_no hb] at k
      exact k
/-- a method -/
def CalN (P : Program) (w : World) (K : PySem.W.Frag) (mg : Str → Option Value) (base : Heap) (CX : CXT) (C : Addr) (k : Nat) (m : Str) (ps : List Str) (sp : Sp) : Prop :=
  ∃ (f : Addr) (fd : FuncData), Meth K C m f ∧ FnOk P w K mg base CX k f fd ps sp ∧ Binds K fd ps []
def spHas (C : Addr) : Sp := fun vs H Q _ => ∃ (a : Addr) (v : V) (lo hi : Int), vs = [.ref a, v] ∧ IsKind C H a lo hi ∧ Plain H v ∧ Q (.bl (btw v lo hi)) H
theorem ok_has {f C : Addr} {fd : FuncData} (F : Fun K "__contains__" "Kind.__contains__" s_Kind___contains__ f fd) (KT : KindT K C) (c_btw : Cal P w K mg base 2 "is_between" P_is_between spBtw) : FnOk P w K mg base CX0 3 f fd P_Kind___contains__ (spHas C) := by
  obtain ⟨f_b, fd_b, G_is_between, b_is_between, g_is_between, k_is_between⟩ := c_btw
  refine F.ok sc_Kind___contains__ (fun vs H Q E h => ?_) (fun cdv A outer s H vs Q E hr h => ?_)
  · obtain ⟨a, v, lo, hi, rfl, _⟩ := h
    rfl
  · obtain ⟨a, v, lo, hi, rfl, ⟨dx, e⟩, p, k⟩ := h
    refine ⟨_, (pss_one (ps_ret (pe_call G_is_between (hr.mono (by decide)) rfl g_is_between k_is_between b_is_between .nil pass0 (pa_cons (pv 1) (pa_cons (pe_fld (pv 0) rfl) (pa_cons (pe_fld (pv 0) rfl) pa_nil)))))), ?_⟩
    fail "z run"
    refine ⟨_, _, _, _, _, rfl, e, KT.cl, KT.n_low, kf_low _ _, ?_⟩
    fail "z run"
    refine ⟨_, _, _, _, _, rfl, e, KT.cl, KT.n_high, kf_high _ _, ?_⟩
    fail "z run"
    refine ⟨_, _, _, rfl, p, ?_⟩
    fail "z run"
    exact k

structure KindO (K : PySem.W.Frag) (C : Addr) : Prop where
  ic : C8.InsC K C
  sf : PySem.W.selfFirst K C = true
  ne : PySem.W.findIn K (.ref C) "__ne__" = some (some (.builtin "object.__ne__"))
  cc : (PySem.W.clsIn K C).isSome = true
  ct : PySem.W.typeIn K (.ref C) = some (.type "type")
  nN : PySem.W.subIn K (.type "NoneType") (.ref C) = some false
  ni : PySem.W.subIn K (.type "int") (.ref C) = some false
  ns : PySem.W.subIn K (.type "str") (.ref C) = some false
  nt : PySem.W.subIn K (.type "tuple") (.ref C) = some false
theorem lt_units {n : Nat} (h : n + 64 < cLine) : n + 1 < cLine := by omega
theorem no_kind {K : PySem.W.Frag} {C : Addr} {n : String} (o : KindO K C) (h : PySem.W.subIn K (.type n) (.ref C) = some false) : PySem.W.kitOne K (.type n) (.ref C) = some false ∧ PySem.W.notFirst K C (.type n) = true := by
  refine ⟨?_, ?_⟩
  · unfold PySem.W.kitOne PySem.W.kitCls
    rw [if_neg (by simp)]
    simp only [o.cc, o.ct, Bool.true_and, beq_self_eq_true, if_true]
    exact h
  · unfold PySem.W.notFirst
    rw [h]
    simp
theorem kind_ty {K : PySem.W.Frag} {H : Hp} {C a : Addr} {lo hi : Int} (o : KindO K C) (h : IsKind C H a lo hi) : TyX K H (.ref a) (.ref C) := by
  obtain ⟨dx, e⟩ := h
  exact .base (.ins e o.ic.cl o.ic.ha o.ic.hn o.ic.htk o.ic.hm)
def eqB (a b c d : Int) : Bool := decide (a = c) && decide (b = d)
def spEqA (K : PySem.W.Frag) (C : Addr) : Sp := fun vs H Q _ => ∃ (p : Addr) (y : V) (a b : Int), vs = [.ref p, y] ∧ IsKind C H p a b ∧
  ((∃ q c d, y = .ref q ∧ IsKind C H q c d ∧ Q (.bl (eqB a b c d)) H) ∨ (∃ ty, TyX K H y ty ∧ PySem.W.kitOne K ty (.ref C) = some false ∧ Q (.bl false) H))
theorem dec_int {a b : Int} : decide (V.int a = V.int b) = decide (a = b) := by
  by_cases q : a = b
  · rw [q]
    simp
  · rw [decide_eq_false q, decide_eq_false fun z => q (V.int.inj z)]
theorem ok_eqA {f C : Addr} {fd : FuncData} (F : Fun K "__eq__" "Kind.__eq__" s_Kind___eq__ f fd) (T : Txt mg) (KT : KindT K C) (KO : KindO K C) (g_Kind : mg "Kind" = some (.ref C)) : FnOk P w K mg base CX0 1 f fd P_Kind___eq__ (spEqA K C) := by
  refine F.ok sc_Kind___eq__ (fun vs H Q E h => ?_) (fun cdv A outer s H vs Q E hr h => ?_)
  · obtain ⟨p, y, a, b, rfl, _⟩ := h
    rfl
  · obtain ⟨p, y, a, b, rfl, hp, h⟩ := h
    refine ⟨_, (pss_one (ps_ret (pe_and (pe_callB call_isi (by rfl) T.n_isinstance (by decide +kernel) (pa_cons (pv 1) (pa_cons (pe_glob (v := .ref C) rfl g_Kind rfl) pa_nil))) (pe_and (pe_cmpR op_eq (pe_fld (pv 0) rfl) (pe_fld (pv 1) rfl) (nomark _)) (pe_one (pe_cmpR op_eq (pe_fld (pv 0) rfl) (pe_fld (pv 1) rfl) (nomark _))))))), ?_⟩
    fail "z run"
    rcases h with ⟨q, c, d, rfl, hq, k⟩ | ⟨ty, ht, hk, k⟩
    · refine ⟨.ref q, .ref C, _, _, true, rfl, .own C, kind_ty KO hq, KO.ic.me, ?_⟩
      fail "z run"
      obtain ⟨dx, e⟩ := id hp
      obtain ⟨dy, e2⟩ := id hq
      refine ⟨_, _, _, _, _, rfl, e, KT.cl, KT.n_low, kf_low _ _, ?_⟩
      fail "z run"
      refine ⟨_, _, _, _, _, rfl, e2, KT.cl, KT.n_low, kf_low _ _, ?_⟩
      fail "z run"
      rw [dec_int]
      refine rd_iteB (fun h1 => ?_) (fun h1 => ?_)
      · fail "z run"
        refine ⟨_, _, _, _, _, rfl, e, KT.cl, KT.n_high, kf_high _ _, ?_⟩
        fail "z run"
        refine ⟨_, _, _, _, _, rfl, e2, KT.cl, KT.n_high, kf_high _ _, ?_⟩
        fail "z run"
        rw [dec_int]
        rw [show eqB a b c d = decide (b = d) by unfold eqB; rw [h1, Bool.true_and]] at k
        exact k
      · rw [show eqB a b c d = false by unfold eqB; rw [h1, Bool.false_and]] at k
        exact k
    · refine ⟨y, .ref C, _, _, false, rfl, .own C, ht, hk, ?_⟩
      fail "z run"
      exact k
def spStr (C : Addr) : Sp := fun vs H Q _ => ∃ (p : Addr) (a b : Int), vs = [.ref p] ∧ IsKind C H p a b ∧ -(2 ^ 200) < a ∧ a < 2 ^ 200 ∧ -(2 ^ 200) < b ∧ b < 2 ^ 200 ∧ ∀ t : Str, Q (.str t) H
theorem int_len {i : Int} (h1 : -(2 ^ 200) < i) (h2 : i < 2 ^ 200) : i.natAbs.log2 < 1920 ∧ (Str.ofString (toString i)).length ≤ 250 := by
  have l := log_of h1 h2
  have t := int_text_length_le (k := 200) (by decide) l
  refine ⟨by omega, ?_⟩
  rw [PySem.ofString_length]
  omega
theorem ok_str {f C : Addr} {fd : FuncData} (F : Fun K "__str__" "Kind.__str__" s_Kind___str__ f fd) (KT : KindT K C) : FnOk P w K mg base CX0 1 f fd P_Kind___str__ (spStr C) := by
  refine F.ok sc_Kind___str__ (fun vs H Q E h => ?_) (fun cdv A outer s H vs Q E hr h => ?_)
  · obtain ⟨p, a, b, rfl, _⟩ := h
    rfl
  · obtain ⟨p, a, b, rfl, ⟨dx, e⟩, a1, a2, b1, b2, k⟩ := h
    refine ⟨_, (pss_one (ps_ret (pe_joined (.cons (pe_fmt (pe_fld (pv 0) rfl)) (.cons pe_str (.cons (pe_fmt (pe_fld (pv 0) rfl)) .nil)))))), ?_⟩
    obtain ⟨x1, x2⟩ := int_len a1 a2
    obtain ⟨y1, y2⟩ := int_len b1 b2
    have sz := sizeLine_eq
    fail "z run"
    unfold tJs tFmt
    fail "z run"
    refine ⟨_, _, _, _, _, rfl, e, KT.cl, KT.n_low, kf_low _ _, .inr ⟨a, rfl, x1, _, rfl, ?_, ?_⟩⟩
    · rw [Str.length_append]
      show 0 + _ ≤ _
      omega
    · unfold tJs
      fail "z run"
      refine ⟨_, rfl, ?_, ?_⟩
      · rw [Str.length_append, Str.length_append]
        show 0 + _ + 2 ≤ _
        omega
      · unfold tJs
        fail "z run"
        refine ⟨_, _, _, _, _, rfl, e, KT.cl, KT.n_high, kf_high _ _, .inr ⟨b, rfl, y1, _, rfl, ?_, ?_⟩⟩
        · rw [Str.length_append, Str.length_append, Str.length_append]
          show 0 + _ + 2 + _ ≤ _
          omega
        · exact k _
theorem sm_str {k : Nat} {x : Str} (h : PyData.showable (.str x) = true) (c : PyData.canLay0 (.str x) = true) (l : PyData.leavesShort 250 (.str x) = true) (w : PyData.weight (.str x) ≤ 300) : Sm k 300 (.str x) := ⟨h, by simp [PyData.hasDict], c, l, w, by simp [PyData.depth]⟩
theorem obj_kp {p t : Addr} {H H' : Hp} {n : Nat} {o : HO} (h : H t = some o) (hp : Pot H p n) (k : Kp p H H') (ne : ∀ a b c : Int, o ≠ .lst [.int a, .int b, .int c]) : H' t = some o := by
  obtain ⟨x, z, c, ep, _⟩ := hp
  exact k _ _ (fun q => by rw [q, ep] at h; exact ne _ _ _ (Option.some.inj h).symm) h
def spEnd : Sp := fun vs H Q _ => ∃ (p : Addr) (n : Nat), vs = [.ref p] ∧ Pot H p (n + 2) ∧ ∀ (e : Int) (H' : Hp), 0 ≤ e → e ≤ 100000000000000002 → Kp p H H' → Pot H' p n → Q (.int e) H'
theorem ok_end {f : Addr} {fd : FuncData} (F : Fun K "_law_end" "_law_end" s__law_end f fd) (T : Txt mg) (c_take : Cal P w K mg base 1 "_law_take" P__law_take spTake) (c_of : Cal P w K mg base 2 "_law_of" P__law_of spOf) :
    FnOk P w K mg base CX0 3 f fd P__law_end spEnd := by
  obtain ⟨f_take, fd_take, G__law_take, b__law_take, g__law_take, k__law_take⟩ := c_take
  obtain ⟨f_of, fd_of, G__law_of, b__law_of, g__law_of, k__law_of⟩ := c_of
  refine F.ok sc__law_end (fun vs H Q E h => ?_) (fun cdv A outer s H vs Q E hr h => ?_)
  · obtain ⟨p, n, rfl, _⟩ := h
    rfl
  · obtain ⟨p, n, rfl, hp, k⟩ := h
    refine ⟨_, (pss_cons (ps_set (i := 1) sc__law_end.nd rfl (Or.inl rfl) (pe_call G__law_of (hr.mono (by decide)) rfl g__law_of k__law_of b__law_of .nil pass0 (pa_cons (pv 0) (pa_cons (pe_lst (pa_cons pe_int (pa_cons pe_int (pa_cons pe_int (pa_cons pe_int (pa_cons pe_int (pa_cons pe_int (pa_cons pe_int (pa_cons pe_int (pa_cons (pe_op op_pow pe_int pe_int) (pa_cons (pe_op op_pow pe_int pe_int) (pa_cons (pe_op op_pow pe_int pe_int) pa_nil)))))))))))) pa_nil))))
      (pss_one (ps_ret (pe_callB (call_max2 rfl) (by rfl) T.n_max (by decide +kernel) (pa_cons pe_int (pa_cons (pe_op op_sub (pe_op op_add (pv 1) (pe_call G__law_take (hr.mono (by decide)) rfl g__law_take k__law_take b__law_take .nil pass0 (pa_cons (pv 0) (pa_cons pe_int pa_nil)))) pe_int) pa_nil)))))), ?_⟩
    fail "z run"
    intro l hl
    fail "z run"
    refine ⟨p, l, n + 1, _, rfl, hp.new hl, (hp.ne hl).symm, upd_same, by simp, by simp, fun v H1 hv K1 P1 => ?_⟩
    obtain ⟨x, rfl, x0, x1⟩ : ∃ x : Int, v = .int x ∧ 0 ≤ x ∧ x ≤ 100000000000000000 := by
      simp only [List.mem_cons, List.not_mem_nil, or_false] at hv
      rcases hv with rfl | rfl | rfl | rfl | rfl | rfl | rfl | rfl | rfl | rfl | rfl <;> exact ⟨_, rfl, by decide, by decide⟩
    fail "z run"
    refine ⟨p, n, 5, rfl, P1, by decide, by decide, fun r H2 r0 r1 K2 P2 => ?_⟩
    fail "z run"
    exact k _ _ (by split <;> omega) (by split <;> omega) (((Kp.refl.new hl).trans K1).trans K2) P2
theorem ok__law_is_number {f : Addr} {fd : FuncData} (F : Fun K "_law_is_number" "_law_is_number" s__law_is_number f fd) (T : Txt mg) : FnOk P w K mg base CX0 1 f fd P__law_is_number spIsInt := by
  refine F.ok sc__law_is_number (fun vs H Q E h => ?_) (fun cdv A outer s H vs Q E hr h => ?_)
  · obtain ⟨v, rfl, _⟩ := h
    rfl
  · obtain ⟨v, rfl, p, k⟩ := h
    refine ⟨_, (pss_one (ps_ret (pe_and (pe_callB call_isi (by rfl) T.n_isinstance (by decide +kernel) (pa_cons (pv 0) (pa_cons (pe_bltn (v := .ty "int") (by rfl) T.n_int (by decide +kernel) rfl) pa_nil))) (pe_one (pe_not (pe_callB call_isi (by rfl) T.n_isinstance (by decide +kernel) (pa_cons (pv 0) (pa_cons (pe_bltn (v := .ty "bool") (by rfl) T.n_bool (by decide +kernel) rfl) pa_nil)))))))), ?_⟩
    fail "z go"
    refine rd_isiP p fun b h1 h2 h3 => ?_
    fail "z go"
    refine rd_iteB (fun hb => ?_) (fun hb => ?_)
    · fail "z go"
      refine rd_isiB p fun c hc => ?_
      fail "z go"
      show Q (.bl (!c)) H
      have e : (!c) = isI v := by
        rcases h1 hb with z | z
        · rw [z]
          cases c with
          | false => rfl
          | true =>
            obtain ⟨d, rfl⟩ := hc.mp rfl
            cases z
        · rw [hc.mpr z]
          obtain ⟨d, rfl⟩ := z
          rfl
      rw [e]
      exact k
    · show Q (.bl false) H
      have e : isI v = false := by
        cases q : isI v with
        | false => rfl
        | true =>
          rw [h2 q] at hb
          cases hb
      rw [← e]
      exact k
/-- what _law_odd gives -/
inductive OddV (H : Hp) : V → Prop
  | non : OddV H .non
  | bl (b : Bool) : OddV H (.bl b)
  | str {x : Str} (s : Sm 0 300 (.str x)) : OddV H (.str x)
  | tup0 {a : Addr} (e : H a = some (.tup [])) : OddV H (.ref a)
  | tup1 {a : Addr} (e : H a = some (.tup [.int 0])) : OddV H (.ref a)
  | lst0 {a : Addr} (n : a ≠ sysModules) (e : H a = some (.lst [])) : OddV H (.ref a)
  | lst1 {a : Addr} (n : a ≠ sysModules) (e : H a = some (.lst [.int 5])) : OddV H (.ref a)
  | d0 {a : Addr} (e : H a = some (.dK [])) : OddV H (.ref a)
theorem OddV.kp {H H' : Hp} {p : Addr} {n : Nat} {v : V} (h : OddV H v) (hp : Pot H p n) (k : Kp p H H') : OddV H' v := by
  cases h with
  | non => exact .non
  | bl b => exact .bl b
  | str s => exact .str s
  | tup0 e => exact .tup0 (obj_kp e hp k (fun _ _ _ z => nomatch z))
  | tup1 e => exact .tup1 (obj_kp e hp k (fun _ _ _ z => nomatch z))
  | lst0 n e => exact .lst0 n (obj_kp e hp k (fun _ _ _ z => nomatch z))
  | lst1 n e => exact .lst1 n (obj_kp e hp k (fun _ _ _ z => nomatch z))
  | d0 e => exact .d0 (obj_kp e hp k (fun _ _ _ z => nomatch z))
theorem OddV.same {H H' : Hp} {v : V} (h : OddV H v) (s : Same H H') : OddV H' v := by
  cases h with
  | non => exact .non
  | bl b => exact .bl b
  | str q => exact .str q
  | tup0 e => exact .tup0 (s _ _ e)
  | tup1 e => exact .tup1 (s _ _ e)
  | lst0 n e => exact .lst0 n (s _ _ e)
  | lst1 n e => exact .lst1 n (s _ _ e)
  | d0 e => exact .d0 (s _ _ e)
theorem OddV.plain {H : Hp} {v : V} (h : OddV H v) : Plain H v ∧ isI v = false := by
  cases h with
  | non => exact ⟨.non, rfl⟩
  | bl b => exact ⟨.bl b, rfl⟩
  | str q => exact ⟨.str _, rfl⟩
  | tup0 e => exact ⟨.tup e, rfl⟩
  | tup1 e => exact ⟨.tup e, rfl⟩
  | lst0 n e => exact ⟨.lst e, rfl⟩
  | lst1 n e => exact ⟨.lst e, rfl⟩
  | d0 e => exact ⟨.dK e, rfl⟩
theorem OddV.data {H : Hp} {v : V} (h : OddV H v) : ∃ d, Dz H v d ∧ Sz 1 300 d := by
  cases h with
  | non => exact ⟨_, .non, (sm_none (k := 0)).z.up (by decide) (by decide)⟩
  | bl b => exact ⟨_, .bl b, (sm_bool (k := 0) b).z.up (by decide) (by decide)⟩
  | str q => exact ⟨_, .str _, q.z.up (by decide) (by decide)⟩
  | tup0 e => exact ⟨_, .tup e .nil, (sz_tup (k := 0) sz_nil).up (by decide) (by decide)⟩
  | tup1 e => exact ⟨_, .tup e (.cons (.int _) .nil), (sz_tup (k := 0) (sz_cons (sm_int (by decide) (by decide)).z sz_nil)).up (by decide) (by decide)⟩
  | lst0 n e => exact ⟨_, .lst n e .nil, (sz_list (k := 0) sz_nil).up (by decide) (by decide)⟩
  | lst1 n e => exact ⟨_, .lst n e (.cons (.int _) .nil), (sz_list (k := 0) (sz_cons (sm_int (by decide) (by decide)).z sz_nil)).up (by decide) (by decide)⟩
  | d0 e => exact ⟨_, .d0 e, (sz_d0 (k := 0)).up (by decide) (by decide)⟩
def spOdd : Sp := fun vs H Q _ => ∃ (p : Addr) (n : Nat), vs = [.ref p] ∧ Pot H p (n + 1) ∧ ∀ (v : V) (H' : Hp), OddV H' v → Kp p H H' → Pot H' p n → Q v H'
theorem Pot.ne' {H : Hp} {p q : Addr} {n : Nat} (h : Pot H p n) (hq : H q = none) : q ≠ p := (h.ne hq).symm
theorem ok_odd {f : Addr} {fd : FuncData} (F : Fun K "_law_odd" "_law_odd" s__law_odd f fd) (T : Txt mg) (c_of : Cal P w K mg base 2 "_law_of" P__law_of spOf) : FnOk P w K mg base CX0 3 f fd P__law_odd spOdd := by
  obtain ⟨f_of, fd_of, G__law_of, b__law_of, g__law_of, k__law_of⟩ := c_of
  refine F.ok sc__law_odd (fun vs H Q E h => ?_) (fun cdv A outer s H vs Q E hr h => ?_)
  · obtain ⟨p, n, rfl, _⟩ := h
    rfl
  · obtain ⟨p, n, rfl, hp, k⟩ := h
    refine ⟨_, (pss_one (ps_ret (pe_call G__law_of (hr.mono (by decide)) rfl g__law_of k__law_of b__law_of .nil pass0 (pa_cons (pv 0) (pa_cons (pe_lst (pa_cons pe_non (pa_cons pe_bl (pa_cons pe_bl (pa_cons pe_str (pa_cons pe_str (pa_cons (pe_tup pa_nil) (pa_cons (pe_tup (pa_cons pe_int pa_nil)) (pa_cons (pe_lstN pa_nil) (pa_cons (pe_lstN (pa_cons pe_int pa_nil)) (pa_cons pe_dnewK (pa_cons pe_str pa_nil)))))))))))) pa_nil))))), ?_⟩
    unfold tLstN
    fail "z run"
    intro w1 hw1
    fail "z run"
    intro w2 hw2
    fail "z run"
    refine ⟨Nat.zero_le _, fun w3 nw3 hw3 => ?_⟩
    fail "z run"
    refine ⟨few (by decide), fun w5 nw5 hw5 => ?_⟩
    fail "z run"
    intro w4 hw4
    fail "z run"
    intro w6 hw6
    have r6 := same_new (o := .lst [.non, .bl true, .bl false, .str "0", .str "", .ref w1, .ref w2, .ref w3, .ref w5, .ref w4, .str "255"]) hw6
    have r4 := (same_new (o := .dK []) hw4).trans r6
    have r5 := (same_new (o := .lst [.int 5]) hw5).trans r4
    have r3 := (same_new (o := .lst []) hw3).trans r5
    have r2 := (same_new (o := .tup [.int 0]) hw2).trans r3
    have r1 := (same_new (o := .tup []) hw1).trans r2
    have b1 := r2 _ _ (upd_same (H := H) (a := w1) (o := .tup []))
    have b2 := r3 _ _ (upd_same (H := upd H w1 (.tup [])) (a := w2) (o := .tup [.int 0]))
    have b3 := r5 _ _ (upd_same (H := upd (upd H w1 (.tup [])) w2 (.tup [.int 0])) (a := w3) (o := .lst []))
    have b5 := r4 _ _ (upd_same (H := upd (upd (upd H w1 (.tup [])) w2 (.tup [.int 0])) w3 (.lst [])) (a := w5) (o := .lst [.int 5]))
    have b4 := r6 _ _ (upd_same (H := upd (upd (upd (upd H w1 (.tup [])) w2 (.tup [.int 0])) w3 (.lst [])) w5 (.lst [.int 5])) (a := w4) (o := .dK []))
    have P6 := hp.same r1
    have nw : w6 ≠ p := (hp.same ((same_new (o := .tup []) hw1).trans ((same_new (o := .tup [.int 0]) hw2).trans ((same_new (o := .lst []) hw3).trans ((same_new (o := .lst [.int 5]) hw5).trans (same_new (o := .dK []) hw4)))))).ne' hw6
    fail "z run"
    refine ⟨p, w6, n, _, rfl, P6, nw, upd_same, by simp, by simp, fun v H8 hv K8 P8 => ?_⟩
    have s1 := obj_kp b1 P6 K8 (fun _ _ _ z => nomatch z)
    have s2 := obj_kp b2 P6 K8 (fun _ _ _ z => nomatch z)
    have s3 := obj_kp b3 P6 K8 (fun _ _ _ z => nomatch z)
    have s4 := obj_kp b4 P6 K8 (fun _ _ _ z => nomatch z)
    have s5 := obj_kp b5 P6 K8 (fun _ _ _ z => nomatch z)
    refine k v H8 ?_ (fun b o nb e => K8 _ _ nb (r1 _ _ e)) P8
    simp only [List.mem_cons, List.not_mem_nil, or_false] at hv
    rcases hv with rfl | rfl | rfl | rfl | rfl | rfl | rfl | rfl | rfl | rfl | rfl
    · exact .non
    · exact .bl _
    · exact .bl _
    · exact .str (sm_str (k := 0) (by decide +kernel) (by decide +kernel) (by decide +kernel) (by decide +kernel))
    · exact .str (sm_str (k := 0) (by decide +kernel) (by decide +kernel) (by decide +kernel) (by decide +kernel))
    · exact .tup0 s1
    · exact .tup1 s2
    · exact .lst0 nw3 s3
    · exact .lst1 nw5 s5
    · exact .d0 s4
    · exact .str (sm_str (k := 0) (by decide +kernel) (by decide +kernel) (by decide +kernel) (by decide +kernel))
def spHeard (C : Addr) : Sp := fun vs H Q _ => ∃ lo hi : V, vs = [lo, hi] ∧ Plain H lo ∧ Plain H hi ∧
  (∀ a b : Int, lo = .int a → hi = .int b → a ≤ 0 → 0 ≤ b → ∀ (k t : Addr) (H' : Hp), Same H H' → IsKind C H' k a b → H' t = some (.tup [.str "kind", .ref k]) → Q (.ref t) H') ∧
  (okK lo hi = false → ∀ (u t : Addr) (H' : Hp), Same H H' → H' u = some (.tup [lo, hi]) → H' t = some (.tup [.str "bad", .ref u]) → Q (.ref t) H')
theorem ok_heard {f C CW C_BadKind : Addr} {fd : FuncData} (F : Fun K "_law_heard" "_law_heard" s__law_heard f fd) (T : Txt mg) (n_ve : mg "ValueError" = none) (KT : KindT K C) (g_WidthError : mg "WidthError" = some (.ref CW)) (ET_BadKind : ErrT2 K mg CW C_BadKind "BadKind" "one" "other")
    (c_kind : CalK P w K mg base C C_BadKind) : FnOk P w K mg base CX0 5 f fd P__law_heard (spHeard C) := by
  obtain ⟨f_kind, fd_kind, mk_Kind, G_Kind, b_Kind, g_Kind⟩ := c_kind
  have g_BadKind := ET_BadKind.g
  refine F.ok sc__law_heard (fun vs H Q E h => ?_) (fun cdv A outer s H vs Q E hr h => ?_)
  · obtain ⟨lo, hi, rfl, _⟩ := h
    rfl
  · obtain ⟨lo, hi, rfl, p1, p2, k1, k2⟩ := h
    refine ⟨_, (pss_cons (ps_set (i := 2) sc__law_heard.nd rfl (Or.inl rfl) pe_non)
      (pss_keep (i := 3) rfl rfl sc__law_heard.nd rfl rfl ⟨rfl, by decide, .inl g_WidthError⟩ (fun W pn xe tk => (pss_one (ps_ret (pe_tup (pa_cons pe_str (pa_cons (pe_makeX mk_Kind G_Kind (hr.mono (by decide)) rfl g_Kind b_Kind (fun σ => passAt tk σ) (pa_cons (pv 0) (pa_cons (pv 1) pa_nil))) pa_nil)))))) (fun a oe cls d pn hz hf => (pss_one (ps_set (i := 2) sc__law_heard.nd rfl (Or.inl rfl) (pv 3))))
      pss_none
      (fun a oe cls d pn hz hf => (pss_cons (ps_if (PW.pt (pw_or (pt_not (pt_val (pe_callB (call_isK hz hf) (by rfl) T.n_isinstance (by decide +kernel) (pa_cons (pv 2) (pa_cons (pe_glob (v := .ref C_BadKind) rfl g_BadKind rfl) pa_nil))))) (pw_or1 (pt_not (pt_val (pe_callB (call_isK hz hf) (by rfl) T.n_isinstance (by decide +kernel) (pa_cons (pv 2) (pa_cons (pe_bltn (v := .ty "ValueError") (by rfl) n_ve (by decide +kernel) rfl) pa_nil)))))))) (pss_one (ps_ret (pe_tup (pa_cons pe_str (pa_cons pe_non pa_nil))))) pss_nil)
      (pss_one (ps_ret (pe_tup (pa_cons pe_str (pa_cons (pe_tup (pa_cons (pe_xfK hz hf (pv 2)) (pa_cons (pe_xfK hz hf (pv 2)) pa_nil))) pa_nil))))))))), ?_⟩
    unfold tMakeX tMake
    fail "z run"
    refine rd_KindA p1 p2 (fun a b ea eb a0 b0 x H' nx S ik => ?_) fun no d H' nd S ed => ⟨ET_BadKind.me, fun x nx => ?_⟩
    · fail "z run"
      intro t ht
      exact k1 a b ea eb a0 b0 x t _ (S.trans (same_new ht)) (ik.same (same_new ht)) upd_same
    · fail "z run"
      refine ⟨C_BadKind, d, _, _, _, true, rfl, rfl, ET_BadKind.ek, rfl, ed, fun _ h => h, ET_BadKind.kc, ?_⟩
      fail "z run"
      refine iteF ?_
      fail "z run"
      refine ⟨C_BadKind, d, _, _, _, true, rfl, rfl, ET_BadKind.ek, rfl, ed, fun _ h => h, ET_BadKind.kv, ?_⟩
      fail "z run"
      refine iteF ?_
      fail "z run"
      unfold tXfP
      fail "z run"
      refine ⟨rfl, C_BadKind, d, _, lo, rfl, ET_BadKind.ek, ET_BadKind.n1, rfl, ed, by rw [lookup_put, if_neg (by decide +kernel), lookup_put, if_pos rfl], ?_⟩
      fail "z run"
      refine ⟨rfl, C_BadKind, d, _, hi, rfl, ET_BadKind.ek, ET_BadKind.n2, rfl, ed, by rw [lookup_put, if_pos rfl], ?_⟩
      fail "z run"
      intro u hu
      fail "z run"
      intro t ht
      exact k2 no u t _ (S.trans ((same_new hu).trans (same_new ht))) (same_new ht _ _ upd_same) upd_same
abbrev s__law_fine : Stmt := (top 26)
abbrev N__law_fine : List Str := ["_law_pot", "_law_low", "_law_high", "_law_word", "_law_kind", "_law_near", "_law_number", "_law_thing", "_law_other", "_law_some", "_law_one"]
abbrev P__law_fine : List Str := ["_law_pot"]
theorem sc__law_fine : FnScope N__law_fine P__law_fine (defScope s__law_fine) := ⟨rfl, rfl, rfl, by decide +kernel, rfl, by decide +kernel, by decide +kernel⟩
abbrev s__law_refused : Stmt := (top 27)
abbrev N__law_refused : List Str := ["_law_pot", "_law_low", "_law_high", "_law_is_fine", "_law_word", "_law_told"]
abbrev P__law_refused : List Str := ["_law_pot"]
theorem sc__law_refused : FnScope N__law_refused P__law_refused (defScope s__law_refused) := ⟨rfl, rfl, rfl, by decide +kernel, rfl, by decide +kernel, by decide +kernel⟩

theorem rd_both {c d : Bool} {σ : L2.St} {H : Hp} {Q : VK} {tb : TE} (h : c = true → ∀ Q' : VK, Q' (.bl d) H → tb σ H Q') (k : Q (.bl (c && d)) H) : if c = true then tb σ H Q else Q (.bl false) H := by
  cases c with
  | true => exact iteT (h rfl Q k)
  | false => exact iteF k
theorem nf_self {K : PySem.W.Frag} {C : Addr} : PySem.W.notFirst K C (.ref C) = true := by
  unfold PySem.W.notFirst
  simp
theorem eqB_self (a b : Int) : eqB a b a b = true := by simp [eqB]
theorem IsKind.put {C k D : Addr} {H : Hp} {x y : Int} {l : List V} {o : HO} (h : IsKind C H k x y) (hD : H D = some (.lst l)) : IsKind C (upd H D o) k x y := by
  obtain ⟨dx, e⟩ := h
  exact ⟨dx, (upd_ne (fun z => by rw [z, hD] at e; cases e)).trans e⟩
/-- what is not equal to the kind (lo, hi) -/
def NoEq (K : PySem.W.Frag) (C : Addr) (H : Hp) (lo hi : Int) (x : V) : Prop := ∃ ty, TyX K H x ty ∧ PySem.W.notFirst K C ty = true ∧ ((∃ q c d, x = .ref q ∧ IsKind C H q c d ∧ eqB lo hi c d = false) ∨ PySem.W.kitOne K ty (.ref C) = some false)
theorem NoEq.use {K : PySem.W.Frag} {C : Addr} {H : Hp} {lo hi : Int} {x : V} {kd : Addr} {Q : VK} {E : XK} (h : NoEq K C H lo hi x) (ik : IsKind C H kd lo hi) (k : Q (.bl false) H) : rOwnA K C (spEqA K C) E (.ref kd) x H Q := by
  obtain ⟨ty, t1, t2, h⟩ := h
  obtain ⟨dk, ek⟩ := id ik
  refine ⟨kd, dk, _, ty, rfl, ek, t1, t2, kd, x, lo, hi, rfl, ik, ?_⟩
  rcases h with ⟨q, c, d, rfl, iq, e⟩ | h
  · exact .inl ⟨q, c, d, rfl, iq, by rw [e]; exact k⟩
  · exact .inr ⟨ty, t1, h, k⟩
theorem NoEq.useN {K : PySem.W.Frag} {C : Addr} {H : Hp} {lo hi : Int} {x : V} {kd : Addr} {Q : VK} {E : XK} (h : NoEq K C H lo hi x) (ik : IsKind C H kd lo hi) (k : Q (.bl true) H) : rNeA K C (spEqA K C) E (.ref kd) x H Q := by
  obtain ⟨ty, t1, t2, h⟩ := h
  obtain ⟨dk, ek⟩ := id ik
  refine ⟨kd, dk, _, ty, rfl, ek, t1, t2, kd, x, lo, hi, rfl, ik, ?_⟩
  rcases h with ⟨q, c, d, rfl, iq, e⟩ | h
  · exact .inl ⟨q, c, d, rfl, iq, by rw [e]; exact ⟨false, rfl, k⟩⟩
  · exact .inr ⟨ty, t1, h, false, rfl, k⟩
def spRight (n : Nat) : Sp := fun vs H Q _ => ∃ (p : Addr) (m : Nat), vs = [.ref p] ∧ Pot H p (m + n) ∧ ∀ H', Kp p H H' → Pot H' p m → Q (.bl true) H'
theorem dp_bools {K : PySem.W.Frag} {H : Hp} {b : Bool} : ∀ n, DpAll K H (List.replicate n (.bl b)) (List.replicate n (.bool b))
  | 0 => .nil
  | n + 1 => .cons (.bl b) (dp_bools n)
theorem sm_bools (b : Bool) : Sm 1 6 (.list [.bool b, .bool b, .bool b, .bool b, .bool b, .bool b]) :=
  sm_list (k := 0) (sm_cons (sm_bool b) (sm_cons (sm_bool b) (sm_cons (sm_bool b) (sm_cons (sm_bool b) (sm_cons (sm_bool b) (sm_cons (sm_bool b) sm_nil))))))
theorem ok_fine {f C CB : Addr} {fd : FuncData} (F : Fun K "_law_fine" "_law_fine" s__law_fine f fd) (T : Txt mg) (n_str : mg "str" = none) (KT : KindT K C) (KO : KindO K C) (c_end : Cal P w K mg base 3 "_law_end" P__law_end spEnd) (c_odd : Cal P w K mg base 3 "_law_odd" P__law_odd spOdd)
    (c_heard : Cal P w K mg base 5 "_law_heard" P__law_heard (spHeard C)) (c_kind : CalK P w K mg base C CB) (c_has : CalN P w K mg base CX0 C 3 "__contains__" P_Kind___contains__ (spHas C)) (c_eq : CalN P w K mg base CX0 C 1 "__eq__" P_Kind___eq__ (spEqA K C))
    (c_str : CalN P w K mg base CX0 C 1 "__str__" P_Kind___str__ (spStr C)) : FnG P w K mg base CX0 6 f fd P__law_fine (spRight 9) := by
  obtain ⟨f_end, fd_end, G__law_end, b__law_end, g__law_end, k__law_end⟩ := c_end
  obtain ⟨f_odd, fd_odd, G__law_odd, b__law_odd, g__law_odd, k__law_odd⟩ := c_odd
  obtain ⟨f_heard, fd_heard, G__law_heard, b__law_heard, g__law_heard, k__law_heard⟩ := c_heard
  obtain ⟨f_kind, fd_kind, mk_Kind, G_Kind, b_Kind, g_Kind⟩ := c_kind
  obtain ⟨f_has, fd_has, o___contains__, G_Kind___contains__, b_Kind___contains__⟩ := c_has
  obtain ⟨f_eq, fd_eq, o___eq__, G_Kind___eq__, b_Kind___eq__⟩ := c_eq
  obtain ⟨f_str, fd_str, o___str__, G_Kind___str__, b_Kind___str__⟩ := c_str
  refine Fun_okG F sc__law_fine (fun vs H Q E h => ?_) (fun cdv A outer s H vs Q E calm hr h => ?_)
  · obtain ⟨p, n, rfl, _⟩ := h
    rfl
  · obtain ⟨p, n, rfl, hp, k⟩ := h
    refine ⟨_, (pss_cons (ps_par (i := 1) (j := 2) rfl sc__law_fine.nd rfl rfl (by decide) rfl rfl (pa_cons (pe_un un_neg (pe_call G__law_end (hr.mono (by decide)) rfl g__law_end k__law_end b__law_end .nil pass0 (pa_cons (pv 0) pa_nil))) (pa_cons (pe_call G__law_end (hr.mono (by decide)) rfl g__law_end k__law_end b__law_end .nil pass0 (pa_cons (pv 0) pa_nil)) pa_nil)) (by rfl))
      (pss_cons (ps_asg (pe_call G__law_heard (hr.mono (by decide)) rfl g__law_heard k__law_heard b__law_heard .nil pass0 (pa_cons (pv 1) (pa_cons (pv 2) pa_nil))) (pg_tup rfl (pgs_cons (pg_name (i := 3) sc__law_fine.nd rfl (Or.inl rfl)) (pgs_cons (pg_name (i := 4) sc__law_fine.nd rfl (Or.inr rfl)) pgs_nil))))
      (pss_cons (ps_if (PW.pt (pw_or (pt_cmpR op_ne (pv 3) pe_str (nomark _)) (pw_or (pt_cmpR op_ne (pe_callB (call_reprQ calm (hu70 hr)) (by rfl) T.n_repr (by decide +kernel) (pa_cons (pe_lst (pa_cons (pe_fld (pv 4) rfl) (pa_cons (pe_fld (pv 4) rfl) pa_nil))) pa_nil)) (pe_callB (call_reprQ calm (hu70 hr)) (by rfl) T.n_repr (by decide +kernel) (pa_cons (pe_lst (pa_cons (pv 1) (pa_cons (pv 2) pa_nil))) pa_nil)) (nomark _)) (pw_or1 (pt_cmpR op_ne (pe_fld (pv 4) rfl) (pe_op op_add (pe_op op_sub (pv 2) (pv 1)) pe_int) (nomark _)))))) (pss_one (ps_ret pe_bl)) pss_nil)
      (pss_cons (ps_set (i := 5) sc__law_fine.nd rfl (Or.inl rfl) (pe_lst (pa_cons (pe_op op_sub (pv 1) pe_int) (pa_cons (pv 1) (pa_cons (pe_op op_add (pv 1) pe_int) (pa_cons (pe_un un_neg pe_int) (pa_cons pe_int (pa_cons pe_int (pa_cons (pe_op op_sub (pv 2) pe_int) (pa_cons (pv 2) (pa_cons (pe_op op_add (pv 2) pe_int) pa_nil)))))))))))
      (pss_cons (ps_for PassesOwn.never rfl (pi_list (pe_op op_cat (pv 5) (pe_lst (pa_cons (pe_call G__law_end (hr.mono (by decide)) rfl g__law_end k__law_end b__law_end .nil pass0 (pa_cons (pv 0) pa_nil)) (pa_cons (pe_un un_neg (pe_call G__law_end (hr.mono (by decide)) rfl g__law_end k__law_end b__law_end .nil pass0 (pa_cons (pv 0) pa_nil))) pa_nil))))) (pg_name (i := 6) sc__law_fine.nd rfl (Or.inl rfl)) (pss_one (ps_if (pt_cmpR op_ne (pe_callB (call_reprQ calm (hu70 hr)) (by rfl) T.n_repr (by decide +kernel) (pa_cons (pe_cmpR (op_inI o___contains__.at_ o___contains__.fn G_Kind___contains__ (hr.mono (by decide)) b_Kind___contains__ pass0) (pv 6) (pv 4) rfl) pa_nil)) (pe_callB (call_reprQ calm (hu70 hr)) (by rfl) T.n_repr (by decide +kernel) (pa_cons (pe_chain op_le op_le (pv 1) (pv 6) (pv 2)) pa_nil)) (nomark _)) (pss_one (ps_ret pe_bl)) pss_nil)))
      (pss_cons (ps_par (i := 7) (j := 8) rfl sc__law_fine.nd rfl rfl (by decide) rfl rfl (pa_cons (pe_call G__law_odd (hr.mono (by decide)) rfl g__law_odd k__law_odd b__law_odd .nil pass0 (pa_cons (pv 0) pa_nil)) (pa_cons (pe_make mk_Kind G_Kind (hr.mono (by decide)) rfl g_Kind b_Kind .nil passL (pa_cons (pv 1) (pa_cons (pv 2) pa_nil))) pa_nil)) (by rfl))
      (pss_cons (ps_if (PW.pt (pw_or (pt_cmpR op_ne (pe_callB (call_reprQ calm (hu70 hr)) (by rfl) T.n_repr (by decide +kernel) (pa_cons (pe_cmpR (op_inI o___contains__.at_ o___contains__.fn G_Kind___contains__ (hr.mono (by decide)) b_Kind___contains__ pass0) (pv 7) (pv 4) rfl) pa_nil)) pe_str (nomark _)) (pw_or (pt_not (pt_cmpR (op_eqA (K0 := K) rfl o___eq__.at_ o___eq__.fn G_Kind___eq__ (hr.mono (by decide)) b_Kind___eq__ pass0) (pv 4) (pv 8) (nomark _))) (pw_or1 (pt_cmpR (op_neA (K0 := K) rfl KO.ic.hm KO.ne o___eq__.at_ o___eq__.fn G_Kind___eq__ (hr.mono (by decide)) b_Kind___eq__ pass0 (lt_units hr.units)) (pv 4) (pv 8) (nomark _)))))) (pss_one (ps_ret pe_bl)) pss_nil)
      (pss_cons (ps_set (i := 9) sc__law_fine.nd rfl (Or.inl rfl) (pe_lst (pa_cons (pe_make mk_Kind G_Kind (hr.mono (by decide)) rfl g_Kind b_Kind .nil passL (pa_cons (pe_op op_sub (pv 1) pe_int) (pa_cons (pv 2) pa_nil))) (pa_cons (pe_make mk_Kind G_Kind (hr.mono (by decide)) rfl g_Kind b_Kind .nil passL (pa_cons (pv 1) (pa_cons (pe_op op_add (pv 2) pe_int) pa_nil))) (pa_cons (pe_tup (pa_cons (pv 1) (pa_cons (pv 2) pa_nil))) (pa_cons (pe_callTy (call_strI o___str__.at_ o___str__.fn G_Kind___str__ (hr.mono (by decide)) b_Kind___str__ pass0 (hu70 hr)) (by rfl) n_str (by decide +kernel) (pa_cons (pv 4) pa_nil)) (pa_cons pe_non (pa_cons (pv 2) pa_nil))))))))
      (pss_one (ps_ret (pe_and (pe_cmpR (op_eqD hr.units) (pe_lc (own := [("_law_one", 10)]) (g := gName 10) (tt := tYes) rfl sc__law_fine.nd (pi_list (pv 9)) (blkOk_by (N := N__law_fine) (sc := defScope s__law_fine) (by decide +kernel)) (fun _ _ _ _ _ => (pg_name (i := 10) sc__law_fine.nd rfl (Or.inl rfl))) (fun _ _ _ _ _ => pts_nil) (fun _ _ _ _ _ => (pe_cmpR (op_eqA (K0 := K) rfl o___eq__.at_ o___eq__.fn G_Kind___eq__ (hr.mono (by decide)) b_Kind___eq__ pass0) (pv 4) (pv 10) (nomark _)))) (pe_op op_rep (pe_lst (pa_cons pe_bl pa_nil)) pe_int) (nomark _)) (pe_one (pe_cmpR (op_eqD hr.units) (pe_lc (own := [("_law_one", 10)]) (g := gName 10) (tt := tYes) rfl sc__law_fine.nd (pi_list (pv 9)) (blkOk_by (N := N__law_fine) (sc := defScope s__law_fine) (by decide +kernel)) (fun _ _ _ _ _ => (pg_name (i := 10) sc__law_fine.nd rfl (Or.inl rfl))) (fun _ _ _ _ _ => pts_nil) (fun _ _ _ _ _ => (pe_cmpR (op_neA (K0 := K) rfl KO.ic.hm KO.ne o___eq__.at_ o___eq__.fn G_Kind___eq__ (hr.mono (by decide)) b_Kind___eq__ pass0 (lt_units hr.units)) (pv 4) (pv 10) (nomark _)))) (pe_op op_rep (pe_lst (pa_cons pe_bl pa_nil)) pe_int) (nomark _)))))))))))))), ?_⟩
    rw [show L2.start N__law_fine [V.ref p] = [some (.ref p), none, none, none, none, none, none, none, none, none, none] from rfl]
    fail "z run"
    refine ⟨p, n + 7, rfl, hp, fun e1 H1 a1 a2 K1 P1 => ?_⟩
    fail "z run"
    refine ⟨p, n + 5, rfl, P1, fun e2 H2 b1 b2 K2 P2 => ?_⟩
    obtain ⟨lo, elo⟩ : ∃ lo, lo = -e1 := ⟨_, rfl⟩
    fail "z run"
    rw [← elo]
    simp only [List.set_cons_succ, List.set_cons_zero]
    refine ⟨.int lo, .int e2, rfl, .int _, .int _, fun a b ea eb _ _ kd t H3 S3 k3 ht => ?_, fun no => ?_⟩
    rotate_left
    · have z : (decide (lo ≤ 0) && decide (0 ≤ e2)) = false := no
      rw [decide_eq_true (show lo ≤ 0 by omega), decide_eq_true b1] at z
      cases z
    cases ea
    cases eb
    have P3 := P2.same S3
    have K3 : Kp p H H3 := (K1.trans K2).trans fun b o _ e => S3 b o e
    obtain ⟨dk, f3⟩ := id k3
    refine rd_gtup ht rfl ?_
    fail "z run"
    refine rd_iteN (fun ne => absurd rfl ne) (fun _ => ?_)
    simp only [List.set_cons_succ, List.set_cons_zero]
    fail "z run"
    refine ⟨_, _, _, _, _, rfl, f3, KT.cl, KT.n_low, kf_low _ _, ?_⟩
    fail "z run"
    refine ⟨_, _, _, _, _, rfl, f3, KT.cl, KT.n_high, kf_high _ _, ?_⟩
    fail "z run"
    intro l1 hl1
    fail "z run"
    have d2 := fun (K : PySem.W.Frag) (H : Hp) (l : Addr) (e : H l = some (.lst [.int lo, .int e2])) => (Dp.lst (K := K) (SqL.of e) (.cons (.int lo) (.cons (.int e2) .nil)))
    have s2 := sm_list (k := 0) (sm_cons (sm_int (i := lo) (by omega) (by omega)) (sm_cons (sm_int (i := e2) (by omega) (by omega)) sm_nil))
    refine rd_reprQ (d2 _ _ _ upd_same) s2 (by decide) (by decide) ?_
    fail "z run"
    intro l2 hl2
    fail "z run"
    refine rd_reprQ (d2 _ _ _ upd_same) s2 (by decide) (by decide) ?_
    fail "z run"
    refine rd_iteN (fun ne => absurd rfl ne) (fun _ => ?_)
    have S4 := (same_new (o := .lst [.int lo, .int e2]) hl1).trans (same_new (o := .lst [.int lo, .int e2]) hl2)
    have k4 := k3.same S4
    have f4 := S4 _ _ f3
    have P4 := P3.same S4
    have K4 : Kp p H _ := K3.trans fun b o _ e => S4 b o e
    generalize upd (upd H3 l1 (.lst [.int lo, .int e2])) l2 (.lst [.int lo, .int e2]) = H4 at *
    fail "z run"
    refine ⟨_, _, _, _, _, rfl, f4, KT.cl, KT.n_size, kf_size _ _, ?_⟩
    fail "z run"
    refine rd_iteN (fun ne => absurd rfl ne) (fun _ => ?_)
    fail "z run"
    intro l hl
    have hL := upd_same (H := H4) (a := l) (o := .lst [.int (lo - 1), .int lo, .int (lo + 1), .int (-1), .int 0, .int 1, .int (e2 - 1), .int e2, .int (e2 + 1)])
    have S5 := same_new (o := .lst [.int (lo - 1), .int lo, .int (lo + 1), .int (-1), .int 0, .int 1, .int (e2 - 1), .int e2, .int (e2 + 1)]) hl
    have k5 := k4.same S5
    have P5 := P4.same S5
    have K5 : Kp p H _ := K4.trans fun b o _ e => S5 b o e
    generalize upd H4 l (.lst [.int (lo - 1), .int lo, .int (lo + 1), .int (-1), .int 0, .int 1, .int (e2 - 1), .int e2, .int (e2 + 1)]) = H5 at *
    fail "z run"
    simp only [List.set_cons_succ, List.set_cons_zero]
    with_reducible refine rd_for ?_
    with_reducible refine rd_iL ?_
    fail "z run"
    refine ⟨p, n + 3, rfl, P5, fun e3 H6 c1 c2 K6 P6 => ?_⟩
    fail "z run"
    refine ⟨p, n + 1, rfl, P6, fun e4 H7 d1 d2' K7 P7 => ?_⟩
    have k7 := (k5.kp P5 K6).kp P6 K7
    have hL7 := obj_kp (obj_kp hL P5 K6 (fun _ _ _ z => nomatch z)) P6 K7 (fun _ _ _ z => nomatch z)
    have K7' := (K5.trans K6).trans K7
    fail "z run"
    intro l3 hl3
    refine ⟨l, l3, _, _, rfl, rfl, (same_new hl3) _ _ hL7, upd_same, few (Nat.le_of_ble_eq_true rfl), fun l4 hl4 => ?_⟩
    have S8 := (same_new (o := .lst [.int e3, .int (-e4)]) hl3).trans (same_new (o := .lst ([.int (lo - 1), .int lo, .int (lo + 1), .int (-1), .int 0, .int 1, .int (e2 - 1), .int e2, .int (e2 + 1)] ++ [.int e3, .int (-e4)])) hl4)
    have hN : upd (upd H7 l3 (.lst [.int e3, .int (-e4)])) l4 (.lst ([.int (lo - 1), .int lo, .int (lo + 1), .int (-1), .int 0, .int 1, .int (e2 - 1), .int e2, .int (e2 + 1)] ++ [.int e3, .int (-e4)])) l4 = some (.lst [.int (lo - 1), .int lo, .int (lo + 1), .int (-1), .int 0, .int 1, .int (e2 - 1), .int e2, .int (e2 + 1), .int e3, .int (-e4)]) := upd_same
    have k8 := k7.same S8
    have P8 := P7.same S8
    have K8 : Kp p H _ := K7'.trans fun b o _ e => S8 b o e
    generalize upd (upd H7 l3 (.lst [.int e3, .int (-e4)])) l4 (.lst ([.int (lo - 1), .int lo, .int (lo + 1), .int (-1), .int 0, .int 1, .int (e2 - 1), .int e2, .int (e2 + 1)] ++ [.int e3, .int (-e4)])) = H8 at *
    refine rd_iLa hN (for_list (K := K) (a := l4) (xs := [.int (lo - 1), .int lo, .int (lo + 1), .int (-1), .int 0, .int 1, .int (e2 - 1), .int e2, .int (e2 + 1), .int e3, .int (-e4)])
      (fun i σ H' => ∃ x, σ = [some (.ref p), some (.int lo), some (.int e2), some (.str "kind"), some (.ref kd), some (.ref l), x, none, none, none, none] ∧ Same H8 H')
      ⟨none, rfl, Same.refl _⟩ (fun i σ H' _ ⟨_, _, s⟩ => SqL.of (s _ _ hN)) ?_ ?_)
    · rintro i x σ H' hx ⟨x6, rfl, s⟩
      obtain ⟨z, rfl⟩ : ∃ z : Int, x = .int z := by
        have hm := List.mem_of_getElem? hx
        simp only [List.mem_cons, List.not_mem_nil, or_false] at hm
        rcases hm with rfl | rfl | rfl | rfl | rfl | rfl | rfl | rfl | rfl | rfl | rfl <;> exact ⟨_, rfl⟩
      have kk := k8.same s
      obtain ⟨dk', ek⟩ := id kk
      fail "z run"
      refine ⟨kd, dk', _, rfl, ek, kd, _, lo, e2, rfl, kk, .int _, _, rfl, ?_⟩
      fail "z run"
      refine rd_reprQ (.bl _) (sm_bool (k := 0) _) (by decide) (by decide) ?_
      fail "z run"
      refine rd_iteB (fun h1 => ?_) (fun h1 => ?_)
      · fail "z run"
        refine rd_reprQ (.bl _) (sm_bool (k := 0) _) (by decide) (by decide) ?_
        fail "z run"
        refine rd_iteN (fun ne => absurd (by
          show V.str (PyData.shown (.bool (btw (.int z) lo e2))) = _
          rw [show btw (.int z) lo e2 = decide (z ≤ e2) by show (decide (lo ≤ z) && decide (z ≤ e2)) = _; rw [h1, Bool.true_and]]) ne) (fun _ => ?_)
        fail "z run"
        exact ⟨_, rfl, s⟩
      · fail "z run"
        refine rd_reprQ (.bl _) (sm_bool (k := 0) _) (by decide) (by decide) ?_
        fail "z run"
        refine rd_iteN (fun ne => absurd (by
          show V.str (PyData.shown (.bool (btw (.int z) lo e2))) = _
          rw [show btw (.int z) lo e2 = false by show (decide (lo ≤ z) && decide (z ≤ e2)) = _; rw [h1, Bool.false_and]]) ne) (fun _ => ?_)
        fail "z run"
        exact ⟨_, rfl, s⟩
    · rintro σ H' ⟨x6, rfl, s⟩
      have k9 := k8.same s
      have P9 := P8.same s
      have K9 : Kp p H H' := K8.trans fun b o _ e => s b o e
      fail "z run"
      refine ⟨p, n, rfl, P9, fun v H10 ov K10 P10 => ?_⟩
      have k10 := k9.kp P9 K10
      have K10' := K9.trans K10
      fail "z run"
      refine rd_Kind (lo := lo) (hi := e2) (by omega) (by omega) fun ko H11 nk S11 q11 => ?_
      have k11 := k10.same S11
      have P11 := P10.same S11
      have ov11 := ov.same S11
      have K11 : Kp p H _ := K10'.trans fun b o _ e => S11 b o e
      fail "z run"
      simp only [List.set_cons_succ, List.set_cons_zero]
      fail "z run"
      obtain ⟨dk', ek⟩ := id k11
      refine ⟨kd, dk', _, rfl, ek, kd, v, lo, e2, rfl, k11, ov11.plain.1, _, rfl, ?_⟩
      rw [btw_no ov11.plain.2]
      fail "z run"
      refine rd_reprQ (.bl _) (sm_bool (k := 0) _) (by decide) (by decide) ?_
      fail "z run"
      refine rd_iteN (fun ne => absurd (by simp [PyData.shown]) ne) (fun _ => ?_)
      fail "z run"
      refine ⟨kd, dk', _, _, rfl, ek, kind_ty KO q11, nf_self, kd, _, lo, e2, rfl, k11, .inl ⟨ko, lo, e2, rfl, q11, ?_⟩⟩
      rw [eqB_self]
      fail "z run"
      refine iteF ?_
      fail "z run"
      refine ⟨kd, dk', _, _, rfl, ek, kind_ty KO q11, nf_self, kd, _, lo, e2, rfl, k11, .inl ⟨ko, lo, e2, rfl, q11, true, ?_⟩⟩
      rw [eqB_self]
      refine ⟨rfl, ?_⟩
      fail "z run"
      refine iteF ?_
      fail "z run"
      refine rd_Kind (lo := lo - 1) (hi := e2) (by omega) (by omega) fun q1 H12 nk S12 i1 => ?_
      fail "z run"
      refine rd_Kind (lo := lo) (hi := e2 + 1) (by omega) (by omega) fun q2 H13 nk S13 i2 => ?_
      fail "z run"
      intro t1 ht1
      have S14 := same_new (o := .tup [.int lo, .int e2]) ht1
      have ht : upd H13 t1 (.tup [.int lo, .int e2]) t1 = some (.tup [.int lo, .int e2]) := upd_same
      have k14 := ((k11.same S12).same S13).same S14
      have i1' := (i1.same S13).same S14
      have i2' := i2.same S14
      have S14' := S12.trans (S13.trans S14)
      generalize upd H13 t1 (.tup [.int lo, .int e2]) = H14 at *
      obtain ⟨dk2, ek2⟩ := id k14
      fail "z run"
      refine ⟨kd, dk2, _, rfl, ek2, kd, lo, e2, rfl, k14, by omega, by omega, by omega, by omega, fun str => ⟨str, rfl, ?_⟩⟩
      fail "z run"
      intro l5 hl5
      have S15 := same_new (o := .lst [.ref q1, .ref q2, .ref t1, .str str, .non, .int e2]) hl5
      have hs : upd H14 l5 (.lst [.ref q1, .ref q2, .ref t1, .str str, .non, .int e2]) l5 = some (.lst [.ref q1, .ref q2, .ref t1, .str str, .non, .int e2]) := upd_same
      have k15 := k14.same S15
      have S15' := S14'.trans S15
      have all : ∀ x ∈ [V.ref q1, .ref q2, .ref t1, .str str, .non, .int e2], ∀ H', Same (upd H14 l5 (.lst [.ref q1, .ref q2, .ref t1, .str str, .non, .int e2])) H' → NoEq K C H' lo e2 x := by
        intro x hx H' S
        simp only [List.mem_cons, List.not_mem_nil, or_false] at hx
        rcases hx with rfl | rfl | rfl | rfl | rfl | rfl
        · have q := (i1'.same S15).same S
          exact ⟨_, kind_ty KO q, nf_self, .inl ⟨q1, _, _, rfl, q, by unfold eqB; rw [decide_eq_false (show ¬ lo = lo - 1 by omega), Bool.false_and]⟩⟩
        · have q := (i2'.same S15).same S
          exact ⟨_, kind_ty KO q, nf_self, .inl ⟨q2, _, _, rfl, q, by unfold eqB; rw [decide_eq_false (show ¬ e2 = e2 + 1 by omega), Bool.and_false]⟩⟩
        · obtain ⟨u1, u2⟩ := no_kind KO KO.nt
          exact ⟨_, .base (.tup (S _ _ (S15 _ _ ht))), u2, .inr u1⟩
        · obtain ⟨u1, u2⟩ := no_kind KO KO.ns
          exact ⟨_, .base (.str _), u2, .inr u1⟩
        · obtain ⟨u1, u2⟩ := no_kind KO KO.nN
          exact ⟨_, .base .non, u2, .inr u1⟩
        · obtain ⟨u1, u2⟩ := no_kind KO KO.ni
          exact ⟨_, .base (.int _), u2, .inr u1⟩
      generalize upd H14 l5 (.lst [.ref q1, .ref q2, .ref t1, .str str, .non, .int e2]) = H15 at *
      fail "z run"
      simp only [List.set_cons_succ, List.set_cons_zero]
      unfold tLc
      with_reducible refine rd_iL ?_
      fail "z run"
      refine rd_iLa hs (fun D hD => lc_list (K := K) (a := l5) (xs := [.ref q1, .ref q2, .ref t1, .str str, .non, .int e2]) (fun j H3 => Same H15 H3 ∧ H3 D = some (.lst (List.replicate j (V.bl false)))) ⟨same_new hD, upd_same⟩ (fun i H3 _ q => SqL.of (q.1 _ _ hs)) ?_ ?_)
      · rintro j x H3 hx ⟨S3, hL3⟩
        have hj : j < 6 := (List.getElem?_eq_some_iff.mp hx).1
        have nx := all x (List.mem_of_getElem? hx) H3 ((Same.refl _).trans S3)
        fail "z run"
        refine ⟨rfl, ?_⟩
        unfold tYes
        refine iteT ?_
        fail "z run"
        refine nx.use (k15.same S3) ?_
        refine ⟨_, hL3, Nat.lt_of_lt_of_le (by rw [List.length_replicate]; exact hj) (few (by decide)), fun b o e => (upd_ne (ne_of_none e hD)).trans (S3 _ _ e), ?_⟩
        rw [rep_snoc]
        exact upd_same
      rintro H3 ⟨S3, hL3⟩
      fail "z run"
      intro l6 hl6
      refine ⟨l6, 6, [.bl false], rfl, rfl, upd_same, by decide, by decide, (show 1 * 6 ≤ sizeLine from few (by decide)), fun l7 hl7 => ?_⟩
      rw [show (List.replicate (Int.toNat 6) [V.bl false]).flatten = List.replicate 6 (V.bl false) from rfl]
      have T3 := (same_new (o := .lst [.bl false]) hl6).trans (same_new (o := .lst (List.replicate 6 (V.bl false))) hl7)
      refine rd_eqD (d := .list (List.replicate 6 (.bool false))) (e := .list (List.replicate 6 (.bool false))) (.lst (SqL.of (T3 _ _ hL3)) (dp_bools 6)) (.lst (SqL.of upd_same) (dp_bools 6)) (sm_bools false) (sm_bools false) (by decide) (by decide) ?_
      rw [show PyData.eqv (.list (List.replicate 6 (.bool false))) (.list (List.replicate 6 (.bool false))) = true by decide +kernel]
      fail "z run"
      have SS := S3.trans T3
      generalize upd (upd H3 l6 (.lst [.bl false])) l7 (.lst (List.replicate 6 (V.bl false))) = H16 at *
      have hs' := SS _ _ hs
      have k16 := k15.same SS
      with_reducible refine rd_iL ?_
      fail "z run"
      refine rd_iLa hs' (fun D hD => lc_list (K := K) (a := l5) (xs := [.ref q1, .ref q2, .ref t1, .str str, .non, .int e2]) (fun j H4 => Same H16 H4 ∧ H4 D = some (.lst (List.replicate j (V.bl true)))) ⟨same_new hD, upd_same⟩ (fun i H4 _ q => SqL.of (q.1 _ _ hs')) ?_ ?_)
      · rintro j x H4 hx ⟨S4, hL4⟩
        have hj : j < 6 := (List.getElem?_eq_some_iff.mp hx).1
        have nx := all x (List.mem_of_getElem? hx) H4 (SS.trans S4)
        fail "z run"
        refine ⟨rfl, ?_⟩
        unfold tYes
        refine iteT ?_
        fail "z run"
        refine nx.useN (k16.same S4) ?_
        refine ⟨_, hL4, Nat.lt_of_lt_of_le (by rw [List.length_replicate]; exact hj) (few (by decide)), fun b o e => (upd_ne (ne_of_none e hD)).trans (S4 _ _ e), ?_⟩
        rw [rep_snoc]
        exact upd_same
      rintro H4 ⟨S4, hL4⟩
      fail "z run"
      intro l8 hl8
      refine ⟨l8, 6, [.bl true], rfl, rfl, upd_same, by decide, by decide, (show 1 * 6 ≤ sizeLine from few (by decide)), fun l9 hl9 => ?_⟩
      rw [show (List.replicate (Int.toNat 6) [V.bl true]).flatten = List.replicate 6 (V.bl true) from rfl]
      have T4 := (same_new (o := .lst [.bl true]) hl8).trans (same_new (o := .lst (List.replicate 6 (V.bl true))) hl9)
      refine rd_eqD (d := .list (List.replicate 6 (.bool true))) (e := .list (List.replicate 6 (.bool true))) (.lst (SqL.of (T4 _ _ hL4)) (dp_bools 6)) (.lst (SqL.of upd_same) (dp_bools 6)) (sm_bools true) (sm_bools true) (by decide) (by decide) ?_
      rw [show PyData.eqv (.list (List.replicate 6 (.bool true))) (.list (List.replicate 6 (.bool true))) = true by decide +kernel]
      fail "z run"
      have S17 := S15'.trans (SS.trans (S4.trans T4))
      exact k _ (K11.trans fun b o _ e => S17 b o e) (P11.same S17)
def Val (H : Hp) (v : V) : Prop := (∃ n : Int, v = .int n ∧ -(10 ^ 18) ≤ n ∧ n ≤ 10 ^ 18) ∨ OddV H v
theorem Val.kp {H H' : Hp} {p : Addr} {n : Nat} {v : V} (h : Val H v) (hp : Pot H p n) (k : Kp p H H') : Val H' v := h.imp id fun h => h.kp hp k
theorem Val.same {H H' : Hp} {v : V} (h : Val H v) (s : Same H H') : Val H' v := h.imp id fun h => h.same s
theorem Val.plain {H : Hp} {v : V} (h : Val H v) : Plain H v := by
  rcases h with ⟨n, rfl, _⟩ | h
  · exact .int n
  · exact h.plain.1
theorem Val.data {H : Hp} {v : V} (h : Val H v) : ∃ d, Dz H v d ∧ Sz 1 300 d := by
  rcases h with ⟨n, rfl, h1, h2⟩ | h
  · exact ⟨_, .int n, (sm_int (k := 0) (by omega) (by omega)).z.up (by decide) (by decide)⟩
  · exact h.data
def rng (lo hi : V) : Bool := match lo, hi with
  | .int a, .int b => decide (a ≤ 0) && decide (0 ≤ b)
  | _, _ => false
theorem okK_eq (lo hi : V) : (isI lo && (isI hi && rng lo hi)) = okK lo hi := by
  cases lo <;> cases hi <;> rfl
theorem okK_int {lo hi : V} (h : okK lo hi = true) : ∃ a b : Int, lo = .int a ∧ hi = .int b ∧ a ≤ 0 ∧ 0 ≤ b := by
  cases lo <;> cases hi <;> first | cases h | skip
  rename_i a b
  have z : (decide (a ≤ 0) && decide (0 ≤ b)) = true := h
  simp at z
  exact ⟨_, _, rfl, rfl, z.1, z.2⟩
theorem ok_refused {f C : Addr} {fd : FuncData} (F : Fun K "_law_refused" "_law_refused" s__law_refused f fd) (T : Txt mg) (c_of : Cal P w K mg base 2 "_law_of" P__law_of spOf) (c_end : Cal P w K mg base 3 "_law_end" P__law_end spEnd) (c_odd : Cal P w K mg base 3 "_law_odd" P__law_odd spOdd)
    (c_num : Cal P w K mg base 1 "_law_is_number" P__law_is_number spIsInt) (c_heard : Cal P w K mg base 5 "_law_heard" P__law_heard (spHeard C)) : FnG P w K mg base CX0 6 f fd P__law_refused (spRight 12) := by
  obtain ⟨f_of, fd_of, G__law_of, b__law_of, g__law_of, k__law_of⟩ := c_of
  obtain ⟨f_end, fd_end, G__law_end, b__law_end, g__law_end, k__law_end⟩ := c_end
  obtain ⟨f_odd, fd_odd, G__law_odd, b__law_odd, g__law_odd, k__law_odd⟩ := c_odd
  obtain ⟨f_num, fd_num, G__law_is_number, b__law_is_number, g__law_is_number, k__law_is_number⟩ := c_num
  obtain ⟨f_heard, fd_heard, G__law_heard, b__law_heard, g__law_heard, k__law_heard⟩ := c_heard
  refine Fun_okG F sc__law_refused (fun vs H Q E h => ?_) (fun cdv A outer s H vs Q E calm hr h => ?_)
  · obtain ⟨p, n, rfl, _⟩ := h
    rfl
  · obtain ⟨p, n, rfl, hp, k⟩ := h
    refine ⟨_, (pss_cons (ps_set (i := 1) sc__law_refused.nd rfl (Or.inl rfl) (pe_call G__law_of (hr.mono (by decide)) rfl g__law_of k__law_of b__law_of .nil pass0 (pa_cons (pv 0) (pa_cons (pe_lst (pa_cons (pe_un un_neg (pe_call G__law_end (hr.mono (by decide)) rfl g__law_end k__law_end b__law_end .nil pass0 (pa_cons (pv 0) pa_nil))) (pa_cons (pe_op op_add pe_int (pe_call G__law_end (hr.mono (by decide)) rfl g__law_end k__law_end b__law_end .nil pass0 (pa_cons (pv 0) pa_nil))) (pa_cons (pe_call G__law_odd (hr.mono (by decide)) rfl g__law_odd k__law_odd b__law_odd .nil pass0 (pa_cons (pv 0) pa_nil)) pa_nil)))) pa_nil))))
      (pss_cons (ps_set (i := 2) sc__law_refused.nd rfl (Or.inl rfl) (pe_call G__law_of (hr.mono (by decide)) rfl g__law_of k__law_of b__law_of .nil pass0 (pa_cons (pv 0) (pa_cons (pe_lst (pa_cons (pe_call G__law_end (hr.mono (by decide)) rfl g__law_end k__law_end b__law_end .nil pass0 (pa_cons (pv 0) pa_nil)) (pa_cons (pe_op op_sub (pe_un un_neg pe_int) (pe_call G__law_end (hr.mono (by decide)) rfl g__law_end k__law_end b__law_end .nil pass0 (pa_cons (pv 0) pa_nil))) (pa_cons (pe_call G__law_odd (hr.mono (by decide)) rfl g__law_odd k__law_odd b__law_odd .nil pass0 (pa_cons (pv 0) pa_nil)) pa_nil)))) pa_nil))))
      (pss_cons (ps_set (i := 3) sc__law_refused.nd rfl (Or.inl rfl) (pe_and (pe_call G__law_is_number (hr.mono (by decide)) rfl g__law_is_number k__law_is_number b__law_is_number .nil pass0 (pa_cons (pv 1) pa_nil)) (pe_and (pe_call G__law_is_number (hr.mono (by decide)) rfl g__law_is_number k__law_is_number b__law_is_number .nil pass0 (pa_cons (pv 2) pa_nil)) (pe_one (pe_chain op_le op_le (pv 1) pe_int (pv 2))))))
      (pss_cons (ps_asg (pe_call G__law_heard (hr.mono (by decide)) rfl g__law_heard k__law_heard b__law_heard .nil pass0 (pa_cons (pv 1) (pa_cons (pv 2) pa_nil))) (pg_tup rfl (pgs_cons (pg_name (i := 4) sc__law_refused.nd rfl (Or.inl rfl)) (pgs_cons (pg_name (i := 5) sc__law_refused.nd rfl (Or.inl rfl)) pgs_nil))))
      (pss_cons (ps_if (pt_val (pv 3)) (pss_one (ps_ret (pe_cmpR op_eq (pv 4) pe_str (nomark _)))) pss_nil)
      (pss_one (ps_ret (pe_and (pe_cmpR op_eq (pv 4) pe_str (nomark _)) (pe_one (pe_cmpR op_eq (pe_callB (call_reprZ calm (hu70 hr)) (by rfl) T.n_repr (by decide +kernel) (pa_cons (pv 5) pa_nil)) (pe_callB (call_reprZ calm (hu70 hr)) (by rfl) T.n_repr (by decide +kernel) (pa_cons (pe_tup (pa_cons (pv 1) (pa_cons (pv 2) pa_nil))) pa_nil)) (nomark _))))))))))), ?_⟩
    rw [show L2.start N__law_refused [V.ref p] = [some (.ref p), none, none, none, none, none] from rfl]
    fail "z run"
    refine ⟨p, n + 10, rfl, hp, fun e1 H1 a1 a2 K1 P1 => ?_⟩
    fail "z run"
    refine ⟨p, n + 8, rfl, P1, fun e2 H2 b1 b2 K2 P2 => ?_⟩
    fail "z run"
    refine ⟨p, n + 7, rfl, P2, fun v H3 ov K3 P3 => ?_⟩
    fail "z run"
    intro l hl
    fail "z run"
    refine ⟨p, l, n + 6, _, rfl, P3.new hl, P3.ne' hl, upd_same, Nat.lt_of_lt_of_le (by decide : 0 < 3) (Nat.le_refl 3), Nat.le_of_ble_eq_true rfl, fun lo H4 hlo K4 P4 => ?_⟩
    have K4' := (((K1.trans K2).trans K3).new hl).trans K4
    have vlo : Val H4 lo := by
      simp only [List.mem_cons, List.not_mem_nil, or_false] at hlo
      rcases hlo with rfl | rfl | rfl
      · exact .inl ⟨_, rfl, by omega, by omega⟩
      · exact .inl ⟨_, rfl, by omega, by omega⟩
      · exact .inr ((ov.same (same_new hl)).kp (P3.new hl) K4)
    fail "z run"
    simp only [List.set_cons_succ, List.set_cons_zero]
    fail "z run"
    refine ⟨p, n + 4, rfl, P4, fun e3 H5 c1 c2 K5 P5 => ?_⟩
    fail "z run"
    refine ⟨p, n + 2, rfl, P5, fun e4 H6 d1 d2 K6 P6 => ?_⟩
    fail "z run"
    refine ⟨p, n + 1, rfl, P6, fun v' H7 ov' K7 P7 => ?_⟩
    fail "z run"
    intro l' hl'
    fail "z run"
    refine ⟨p, l', n, _, rfl, P7.new hl', P7.ne' hl', upd_same, Nat.lt_of_lt_of_le (by decide : 0 < 3) (Nat.le_refl 3), Nat.le_of_ble_eq_true rfl, fun hi H8 hhi K8 P8 => ?_⟩
    have K8' := (((((K4'.trans K5).trans K6).trans K7).new hl').trans K8)
    have vlo8 : Val H8 lo := ((((vlo.kp P4 K5).kp P5 K6).kp P6 K7).same (same_new hl')).kp (P7.new hl') K8
    have vhi8 : Val H8 hi := by
      simp only [List.mem_cons, List.not_mem_nil, or_false] at hhi
      rcases hhi with rfl | rfl | rfl
      · exact .inl ⟨_, rfl, by omega, by omega⟩
      · exact .inl ⟨_, rfl, by omega, by omega⟩
      · exact .inr ((ov'.same (same_new hl')).kp (P7.new hl') K8)
    fail "z run"
    simp only [List.set_cons_succ, List.set_cons_zero]
    fail "z run"
    refine ⟨_, rfl, vlo8.plain, ?_⟩
    fail "z run"
    refine rd_both (d := isI hi && rng lo hi) (fun hb Q' k' => ?_) ?_
    · obtain ⟨a, rfl⟩ := isI_int hb
      fail "z run"
      refine ⟨_, rfl, vhi8.plain, ?_⟩
      fail "z run"
      refine rd_both (d := rng (.int a) hi) (fun hb2 Q'' k'' => ?_) ?_
      · obtain ⟨b, rfl⟩ := isI_int hb2
        fail "z run"
        refine rd_iteB (fun h1 => ?_) (fun h1 => ?_)
        · fail "z run"
          rw [show rng (.int a) (.int b) = decide (0 ≤ b) by show (decide (a ≤ 0) && decide (0 ≤ b)) = _; rw [h1, Bool.true_and]] at k''
          exact k''
        · rw [show rng (.int a) (.int b) = false by show (decide (a ≤ 0) && decide (0 ≤ b)) = _; rw [h1, Bool.false_and]] at k''
          exact k''
      · exact k'
    rw [okK_eq]
    fail "z run"
    simp only [List.set_cons_succ, List.set_cons_zero]
    cases q : okK lo hi with
    | true =>
      obtain ⟨a, b, rfl, rfl, a0, b0⟩ := okK_int q
      refine ⟨_, _, rfl, .int a, .int b, fun a b ea eb _ _ kd t H9 S9 ik ht => ?_, fun no => by rw [q] at no; cases no⟩
      refine rd_gtup ht rfl ?_
      fail "z run"
      rw [decide_eq_true rfl]
      exact k _ (K8'.trans fun b o _ e => S9 b o e) (P8.same S9)
    | false =>
      refine ⟨_, _, rfl, vlo8.plain, vhi8.plain, fun a b ea eb a0 b0 => ?_, fun _ u t H9 S9 hu ht => ?_⟩
      · subst ea
        subst eb
        have z : (decide (a ≤ 0) && decide (0 ≤ b)) = false := q
        rw [decide_eq_true a0, decide_eq_true b0] at z
        cases z
      · refine rd_gtup ht rfl ?_
        fail "z run"
        refine rd_ite (fun _ => ?_) (fun ne => absurd rfl ne)
        obtain ⟨x1, y1, z1⟩ := (vlo8.same S9).data
        obtain ⟨x2, y2, z2⟩ := (vhi8.same S9).data
        have sz := sz_tup (sz_cons z1 (sz_cons z2 sz_nil))
        fail "z run"
        refine rd_reprZ (.tup hu (.cons y1 (.cons y2 .nil))) sz (by decide) (by decide) ?_
        fail "z run"
        intro t2 ht2
        have S10 := same_new (o := .tup [lo, hi]) ht2
        fail "z run"
        refine rd_reprZ (.tup upd_same (.cons (y1.same S10) (.cons (y2.same S10) .nil))) sz (by decide) (by decide) ?_
        fail "z run"
        rw [decide_eq_true rfl]
        exact k _ (K8'.trans fun b o _ e => S10 _ _ (S9 b o e)) ((P8.same S9).same S10)
abbrev s_law : Stmt := (top 28)
abbrev N_law : List Str := ["_law_script", "_law_k", "_law_pot", "_law_turn"]
abbrev P_law : List Str := ["_law_script"]
theorem sc_law : FnScope N_law P_law (defScope s_law) := ⟨rfl, rfl, rfl, by decide +kernel, rfl, by decide +kernel, by decide +kernel⟩

def spLaw (K : PySem.W.Frag) : Sp := fun vs H Q _ => ∃ (a : Addr) (ns : List Int), vs = [.ref a] ∧ SqL K H a (ns.map V.int) ∧ ns.length ≤ 63 ∧ ∀ H', Q (.bl true) H'
theorem sql_kp {K : PySem.W.Frag} {H H1 H2 : Hp} {a p : Addr} {xs : List V} (h : SqL K H a xs) (hp : H p = none) (s : Same H H1) (k : Kp p H1 H2) : SqL K H2 a xs := by
  rcases h with (h | ⟨o, h⟩) | h
  · exact .inl (.inl (k _ _ (ne_of_none h hp) (s _ _ h)))
  · exact .inl (.inr ⟨o, k _ _ (ne_of_none h hp) (s _ _ h)⟩)
  · exact .inr h
theorem ok_law {f : Addr} {fd : FuncData} (F : Fun K "law" "law" s_law f fd) (T : Txt mg) (c_pot : Cal P w K mg base 1 "_law_pot_of" P__law_pot_of (spPotOf K))
    (c_fine : CalG P w K mg base 6 "_law_fine" P__law_fine (spRight 9)) (c_ref : CalG P w K mg base 6 "_law_refused" P__law_refused (spRight 12)) : FnG P w K mg base CX0 7 f fd P_law (spLaw K) := by
  obtain ⟨f_pot, fd_pot, G__law_pot_of, b__law_pot_of, g__law_pot_of, k__law_pot_of⟩ := c_pot
  obtain ⟨f_fine, fd_fine, G__law_fine, b__law_fine, g__law_fine, k__law_fine⟩ := c_fine
  obtain ⟨f_ref, fd_ref, G__law_refused, b__law_refused, g__law_refused, k__law_refused⟩ := c_ref
  refine Fun_okG F sc_law (fun vs H Q E h => ?_) (fun cdv A outer s H vs Q E calm hr h => ?_)
  · obtain ⟨a, ns, rfl, _⟩ := h
    rfl
  · obtain ⟨a, ns, rfl, hS, few, k⟩ := h
    refine ⟨_, (pss_cons (ps_for PassesOwn.never rfl (pi_range1 rfl T.n_range (pa_cons (pe_callB (call_max2 rfl) (by rfl) T.n_max (by decide +kernel) (pa_cons pe_int (pa_cons (pe_callB (call_min2 rfl) (by rfl) T.n_min (by decide +kernel) (pa_cons pe_int (pa_cons (pe_callB call_len_seq (by rfl) T.n_len (by decide +kernel) (pa_cons (pv 0) pa_nil)) pa_nil))) pa_nil))) pa_nil)) (pg_name (i := 1) sc_law.nd rfl (Or.inl rfl)) (pss_cons (ps_set (i := 2) sc_law.nd rfl (Or.inr rfl) (pe_call G__law_pot_of (hr.mono (by decide)) rfl g__law_pot_of k__law_pot_of b__law_pot_of .nil pass0 (pa_cons (pv 0) (pa_cons (pv 1) pa_nil))))
      (pss_one (ps_if (pt_not (pt_val (pe_callB (cr_all rfl) (by rfl) T.n_all (by decide +kernel) (pa_cons (pe_lc (own := [("_law_turn", 3)]) (g := gName 3) (tt := tYes) rfl sc_law.nd (pi_range1 rfl T.n_range (pa_cons pe_int pa_nil)) (blkOk_by (N := N_law) (sc := defScope s_law) (by decide +kernel)) (fun _ _ _ _ _ => (pg_name (i := 3) sc_law.nd rfl (Or.inl rfl))) (fun _ _ _ _ _ => pts_nil) (fun _ _ _ _ _ => (pe_and (pe_callG calm G__law_fine (hr.mono (by decide)) rfl g__law_fine k__law_fine b__law_fine pass0 (pa_cons (pv 2) pa_nil)) (pe_one (pe_callG calm G__law_refused (hr.mono (by decide)) rfl g__law_refused k__law_refused b__law_refused pass0 (pa_cons (pv 2) pa_nil)))))) pa_nil)))) (pss_one (ps_ret pe_bl)) pss_nil))))
      (pss_one (ps_ret pe_bl))), ?_⟩
    fail "z run"
    with_reducible refine rd_for ?_
    with_reducible refine rd_rng1 ?_
    fail "z run"
    refine rd_lenLs hS ?_
    fail "z run"
    refine ⟨by split <;> (try split) <;> omega, by split <;> (try split) <;> omega, for_range (lo := 0) (fun i σ H' => ∃ v1 v2 v3, σ = [some (.ref a), v1, v2, v3] ∧ SqL K H' a (ns.map V.int)) ⟨none, none, none, rfl, hS⟩ ?_ ?_⟩
    · rintro i σ H' hi ⟨v1, v2, v3, rfl, hS'⟩
      have i2 : i ≤ 2 := by
        split at hi <;> (try split at hi) <;> omega
      fail "z run"
      refine ⟨a, ns, _, rfl, hS', by omega, by omega, by omega, fun p H1 np S1 P1 => ?_⟩
      fail "z run"
      unfold tLc
      with_reducible refine rd_rng1 ?_
      fail "z run"
      refine ⟨by decide, by decide, fun D hD => lc_range (lo := 0) (n := 15) (fun j H2 => Kp p H1 H2 ∧ Pot H2 p (21 * (15 - j)) ∧ H2 D = some (.lst (List.replicate j (V.bl true)))) ?_ ?_ ?_⟩
      · exact ⟨Kp.refl.new hD, (P1.new hD).le (by decide), upd_same⟩
      · rintro j H2 hj ⟨K2, P2, hL⟩
        have nDp : D ≠ p := fun e => by
          obtain ⟨x, y, z, ep, _⟩ := P1
          rw [e, ep] at hD
          cases hD
        have e20 : 21 * (15 - j) = (21 * (15 - (j + 1)) + 12) + 9 := by omega
        rw [e20] at P2
        fail "z run"
        refine ⟨rfl, ?_⟩
        unfold tYes
        refine iteT ?_
        fail "z run"
        refine ⟨p, _, rfl, P2, fun H3 K3 P3 => ?_⟩
        fail "z run"
        refine ⟨p, _, rfl, P3, fun H4 K4 P4 => ?_⟩
        have hL4 := K4 _ _ nDp (K3 _ _ nDp hL)
        refine ⟨_, hL4, Nat.lt_of_le_of_lt (by rw [List.length_replicate]; exact Nat.le_of_lt hj) (small1000 (by decide)), fun b o nb e => ?_, ?_, ?_⟩
        · rw [upd_ne (ne_of_none e hD)]
          exact K4 _ _ nb (K3 _ _ nb (K2 _ _ nb e))
        · obtain ⟨x, y, z, ep, r⟩ := P4.le (m := 21 * (15 - (j + 1))) (by omega)
          exact ⟨x, y, z, (upd_ne nDp.symm).trans ep, r⟩
        · rw [rep_snoc]
          exact upd_same
      · rintro H2 ⟨K2, P2, hL⟩
        fail "z run"
        refine ⟨D, List.replicate 15 true, rfl, SqL.of (by rw [List.map_replicate]; exact hL), ?_⟩
        rw [all_rep]
        fail "z run"
        refine iteF ?_
        fail "z run"
        exact ⟨_, _, _, rfl, sql_kp hS' np S1 K2⟩
    · rintro σ H' ⟨v1, v2, v3, rfl, hS'⟩
      fail "z run"
      exact k H'
end
theorem all_mk {l : PySem.W.OpenLaw} {w : World} {K : PySem.W.Frag} {h : Heap} {mg : Str → Option Value} {fa : Addr}
    {C : Addr}
    {CW : Addr}
    {C_BadKind : Addr} {nmBadKind qBadKind : Str} {NBadKind : Addr} {bsBadKind : List Value} {snBadKind : List Str} {subBadKind : List Value} {abBadKind : Bool} {colBadKind : Option Bool} {ddBadKind : Option Addr} {m0BadKind m1BadKind m2BadKind m3BadKind m5BadKind : Option Value}
    {fBadKind___init__ : Addr} {odBadKind___init__ anBadKind___init__ : Option Addr} {slBadKind___init__ : Array (Option Value)} {ocBadKind___init__ kVBadKind___init__ dcBadKind___init__ pmBadKind___init__ cdBadKind___init__ ctBadKind___init__ : Value}
    {fis_integer : Addr} {odis_integer anis_integer : Option Addr} {slis_integer : Array (Option Value)} {ocis_integer kVis_integer dcis_integer pmis_integer cdis_integer ctis_integer : Value}
    {fis_between : Addr} {odis_between anis_between : Option Addr} {slis_between : Array (Option Value)} {ocis_between kVis_between dcis_between pmis_between cdis_between ctis_between : Value}
    {fKind___init__ : Addr} {odKind___init__ anKind___init__ : Option Addr} {slKind___init__ : Array (Option Value)} {ocKind___init__ kVKind___init__ dcKind___init__ pmKind___init__ cdKind___init__ ctKind___init__ : Value}
    {fKind___contains__ : Addr} {odKind___contains__ anKind___contains__ : Option Addr} {slKind___contains__ : Array (Option Value)} {ocKind___contains__ kVKind___contains__ dcKind___contains__ pmKind___contains__ cdKind___contains__ ctKind___contains__ : Value}
    {fKind___eq__ : Addr} {odKind___eq__ anKind___eq__ : Option Addr} {slKind___eq__ : Array (Option Value)} {ocKind___eq__ kVKind___eq__ dcKind___eq__ pmKind___eq__ cdKind___eq__ ctKind___eq__ : Value}
    {fKind___str__ : Addr} {odKind___str__ anKind___str__ : Option Addr} {slKind___str__ : Array (Option Value)} {ocKind___str__ kVKind___str__ dcKind___str__ pmKind___str__ cdKind___str__ ctKind___str__ : Value}
    {f_law_pot_of : Addr} {od_law_pot_of an_law_pot_of : Option Addr} {sl_law_pot_of : Array (Option Value)} {oc_law_pot_of kV_law_pot_of dc_law_pot_of pm_law_pot_of cd_law_pot_of ct_law_pot_of : Value}
    {f_law_take : Addr} {od_law_take an_law_take : Option Addr} {sl_law_take : Array (Option Value)} {oc_law_take kV_law_take dc_law_take pm_law_take cd_law_take ct_law_take : Value}
    {f_law_of : Addr} {od_law_of an_law_of : Option Addr} {sl_law_of : Array (Option Value)} {oc_law_of kV_law_of dc_law_of pm_law_of cd_law_of ct_law_of : Value}
    {f_law_end : Addr} {od_law_end an_law_end : Option Addr} {sl_law_end : Array (Option Value)} {oc_law_end kV_law_end dc_law_end pm_law_end cd_law_end ct_law_end : Value}
    {f_law_odd : Addr} {od_law_odd an_law_odd : Option Addr} {sl_law_odd : Array (Option Value)} {oc_law_odd kV_law_odd dc_law_odd pm_law_odd cd_law_odd ct_law_odd : Value}
    {f_law_is_number : Addr} {od_law_is_number an_law_is_number : Option Addr} {sl_law_is_number : Array (Option Value)} {oc_law_is_number kV_law_is_number dc_law_is_number pm_law_is_number cd_law_is_number ct_law_is_number : Value}
    {f_law_heard : Addr} {od_law_heard an_law_heard : Option Addr} {sl_law_heard : Array (Option Value)} {oc_law_heard kV_law_heard dc_law_heard pm_law_heard cd_law_heard ct_law_heard : Value}
    {f_law_fine : Addr} {od_law_fine an_law_fine : Option Addr} {sl_law_fine : Array (Option Value)} {oc_law_fine kV_law_fine dc_law_fine pm_law_fine cd_law_fine ct_law_fine : Value}
    {f_law_refused : Addr} {od_law_refused an_law_refused : Option Addr} {sl_law_refused : Array (Option Value)} {oc_law_refused kV_law_refused dc_law_refused pm_law_refused cd_law_refused ct_law_refused : Value}
    {flaw : Addr} {odlaw anlaw : Option Addr} {sllaw : Array (Option Value)} {oclaw kVlaw dclaw pmlaw cdlaw ctlaw : Value}
    (X : K.In h) (G : h.Ns mainGlobals mg) (hfa : mg "law" = some (.ref fa))
    (haC : PySem.W.nsIn K mainGlobals "Kind" = some (some (.ref C)))
    (hpg : PySem.W.plainGet K C Str.empty = true)
    (hhd : PySem.W.hasDictIn K C = true)
    (hpo : PySem.W.plainOver K C = true)
    (hsa : PySem.W.findIn K (.ref C) "__setattr__" = some (some (.builtin "object.__setattr__")))
    (hmk : PySem.W.makesIn K C = true)
    (hkc : PySem.W.keepIn K (.ref C) = true)
    (hnlow : PySem.W.findIn K (.ref C) "low" = some none)
    (hnhigh : PySem.W.findIn K (.ref C) "high" = some none)
    (hnsize : PySem.W.findIn K (.ref C) "size" = some none)
    (heOc : PySem.W.typeIn K (.ref C) = some (.type "type"))
    (heOsNoneType : PySem.W.subIn K (.type "NoneType") (.ref C) = some false)
    (heOsint : PySem.W.subIn K (.type "int") (.ref C) = some false)
    (heOsstr : PySem.W.subIn K (.type "str") (.ref C) = some false)
    (heOstuple : PySem.W.subIn K (.type "tuple") (.ref C) = some false)
    (heStr : PySem.W.nsIn K mainGlobals "str" = some none)
    (heW0 : PySem.W.nsIn K mainGlobals "WidthError" = some (some (.ref CW)))
    (heW1 : PySem.W.subIn K (.ref CW) (.type "BaseException") = some true)
    (heW2 : PySem.W.hasDictIn K CW = true)
    (heW3 : PySem.W.typeIn K (.ref CW) = some (.type "type"))
    (heW4 : PySem.W.specialIn K (.builtin "object.__class__") "__get__" = some (some (.builtin "getset_descriptor.__get__")))
    (heW5 : PySem.W.takesIn K (.builtin "object.__class__") = some true)
    (heW6 : PySem.W.nsIn K mainGlobals "ValueError" = some none)
    (he0BadKind : PySem.W.nsIn K mainGlobals "BadKind" = some (some (.ref C_BadKind)))
    (he1BadKind : K.lookup C_BadKind = some (excClassObj nmBadKind qBadKind C_BadKind NBadKind bsBadKind [.ref CW, .type "ValueError", .type "Exception", .type "BaseException", .type "object"] true snBadKind subBadKind abBadKind colBadKind ddBadKind m0BadKind m1BadKind m2BadKind m3BadKind m5BadKind "ValueError.__new__"))
    (he2BadKind : PySem.W.findIn K (.ref C_BadKind) "__setattr__" = some (some (.builtin "object.__setattr__")))
    (he3BadKind : PySem.W.findIn K (.ref C_BadKind) "__getattribute__" = some (some (.builtin "BaseException.__getattribute__")))
    (he4BadKind : PySem.W.findIn K (.ref C_BadKind) "__getattr__" = some none)
    (he6BadKind : PySem.W.keepIn K (.ref C_BadKind) = true)
    (he7BadKind : PySem.W.subIn K (.ref C_BadKind) (.type "BaseException") = some true)
    (he8BadKind : PySem.W.typeIn K (.ref C_BadKind) = some (.type "type"))
    (he9BadKind : PySem.W.hasDictIn K C_BadKind = true)
    (heaBadKind : PySem.W.findIn K (.ref C_BadKind) "__class__" = some (some (.builtin "object.__class__")))
    (hebBadKind : PySem.W.mroIn K C_BadKind (.type "object") = some true)
    (hedBadKind : PySem.W.subIn K (.ref C_BadKind) (.type "ValueError") = some true)
    (heeBadKind : PySem.W.subIn K (.ref C_BadKind) (.ref CW) = some true)
    (hevBadKindone : PySem.W.findIn K (.ref C_BadKind) "one" = some none)
    (hevBadKindother : PySem.W.findIn K (.ref C_BadKind) "other" = some none)
    (heO1 : PySem.W.findIn K (.ref C) "__class__" = some (some (.builtin "object.__class__")))
    (heO4 : PySem.W.mroIn K C (.type "object") = some true)
    (heO5 : PySem.W.selfFirst K C = true)
    (heO6 : PySem.W.findIn K (.ref C) "__ne__" = some (some (.builtin "object.__ne__")))
    (haBadKind___init__ : PySem.W.findIn K (.ref C_BadKind) "__init__" = some (some (.ref fBadKind___init__)))
    (hiBadKind___init__ : PySem.W.isFn K (.ref fBadKind___init__) = true)
    (hlBadKind___init__ : K.lookup fBadKind___init__ = some ⟨ocBadKind___init__, odBadKind___init__, .func (PySem.W.fnOf "__init__" "BadKind.__init__" (defArgs s_BadKind___init__) (defBody s_BadKind___init__) (defScope s_BadKind___init__) .none kVBadKind___init__ dcBadKind___init__ pmBadKind___init__ anBadKind___init__ cdBadKind___init__ ctBadKind___init__), slBadKind___init__⟩)
    (hcBadKind___init__ : PySem.W.codeIn K cdBadKind___init__ "BadKind.__init__" = true)
    (hkBadKind___init__ : PySem.W.keepIn K (.ref fBadKind___init__) = true)
    (hais_integer : PySem.W.nsIn K mainGlobals "is_integer" = some (some (.ref fis_integer)))
    (hlis_integer : K.lookup fis_integer = some ⟨ocis_integer, odis_integer, .func (PySem.W.fnOf "is_integer" "is_integer" (defArgs s_is_integer) (defBody s_is_integer) (defScope s_is_integer) .none kVis_integer dcis_integer pmis_integer anis_integer cdis_integer ctis_integer), slis_integer⟩)
    (hcis_integer : PySem.W.codeIn K cdis_integer "is_integer" = true)
    (hkis_integer : PySem.W.keepIn K (.ref fis_integer) = true)
    (hais_between : PySem.W.nsIn K mainGlobals "is_between" = some (some (.ref fis_between)))
    (hlis_between : K.lookup fis_between = some ⟨ocis_between, odis_between, .func (PySem.W.fnOf "is_between" "is_between" (defArgs s_is_between) (defBody s_is_between) (defScope s_is_between) .none kVis_between dcis_between pmis_between anis_between cdis_between ctis_between), slis_between⟩)
    (hcis_between : PySem.W.codeIn K cdis_between "is_between" = true)
    (hkis_between : PySem.W.keepIn K (.ref fis_between) = true)
    (haKind___init__ : PySem.W.findIn K (.ref C) "__init__" = some (some (.ref fKind___init__)))
    (hiKind___init__ : PySem.W.isFn K (.ref fKind___init__) = true)
    (hlKind___init__ : K.lookup fKind___init__ = some ⟨ocKind___init__, odKind___init__, .func (PySem.W.fnOf "__init__" "Kind.__init__" (defArgs s_Kind___init__) (defBody s_Kind___init__) (defScope s_Kind___init__) .none kVKind___init__ dcKind___init__ pmKind___init__ anKind___init__ cdKind___init__ ctKind___init__), slKind___init__⟩)
    (hcKind___init__ : PySem.W.codeIn K cdKind___init__ "Kind.__init__" = true)
    (hkKind___init__ : PySem.W.keepIn K (.ref fKind___init__) = true)
    (haKind___contains__ : PySem.W.findIn K (.ref C) "__contains__" = some (some (.ref fKind___contains__)))
    (hiKind___contains__ : PySem.W.isFn K (.ref fKind___contains__) = true)
    (hlKind___contains__ : K.lookup fKind___contains__ = some ⟨ocKind___contains__, odKind___contains__, .func (PySem.W.fnOf "__contains__" "Kind.__contains__" (defArgs s_Kind___contains__) (defBody s_Kind___contains__) (defScope s_Kind___contains__) .none kVKind___contains__ dcKind___contains__ pmKind___contains__ anKind___contains__ cdKind___contains__ ctKind___contains__), slKind___contains__⟩)
    (hcKind___contains__ : PySem.W.codeIn K cdKind___contains__ "Kind.__contains__" = true)
    (hkKind___contains__ : PySem.W.keepIn K (.ref fKind___contains__) = true)
    (haKind___eq__ : PySem.W.findIn K (.ref C) "__eq__" = some (some (.ref fKind___eq__)))
    (hiKind___eq__ : PySem.W.isFn K (.ref fKind___eq__) = true)
    (hlKind___eq__ : K.lookup fKind___eq__ = some ⟨ocKind___eq__, odKind___eq__, .func (PySem.W.fnOf "__eq__" "Kind.__eq__" (defArgs s_Kind___eq__) (defBody s_Kind___eq__) (defScope s_Kind___eq__) .none kVKind___eq__ dcKind___eq__ pmKind___eq__ anKind___eq__ cdKind___eq__ ctKind___eq__), slKind___eq__⟩)
    (hcKind___eq__ : PySem.W.codeIn K cdKind___eq__ "Kind.__eq__" = true)
    (hkKind___eq__ : PySem.W.keepIn K (.ref fKind___eq__) = true)
    (haKind___str__ : PySem.W.findIn K (.ref C) "__str__" = some (some (.ref fKind___str__)))
    (hiKind___str__ : PySem.W.isFn K (.ref fKind___str__) = true)
    (hlKind___str__ : K.lookup fKind___str__ = some ⟨ocKind___str__, odKind___str__, .func (PySem.W.fnOf "__str__" "Kind.__str__" (defArgs s_Kind___str__) (defBody s_Kind___str__) (defScope s_Kind___str__) .none kVKind___str__ dcKind___str__ pmKind___str__ anKind___str__ cdKind___str__ ctKind___str__), slKind___str__⟩)
    (hcKind___str__ : PySem.W.codeIn K cdKind___str__ "Kind.__str__" = true)
    (hkKind___str__ : PySem.W.keepIn K (.ref fKind___str__) = true)
    (ha_law_pot_of : PySem.W.nsIn K mainGlobals "_law_pot_of" = some (some (.ref f_law_pot_of)))
    (hl_law_pot_of : K.lookup f_law_pot_of = some ⟨oc_law_pot_of, od_law_pot_of, .func (PySem.W.fnOf "_law_pot_of" "_law_pot_of" (defArgs s__law_pot_of) (defBody s__law_pot_of) (defScope s__law_pot_of) .none kV_law_pot_of dc_law_pot_of pm_law_pot_of an_law_pot_of cd_law_pot_of ct_law_pot_of), sl_law_pot_of⟩)
    (hc_law_pot_of : PySem.W.codeIn K cd_law_pot_of "_law_pot_of" = true)
    (hk_law_pot_of : PySem.W.keepIn K (.ref f_law_pot_of) = true)
    (ha_law_take : PySem.W.nsIn K mainGlobals "_law_take" = some (some (.ref f_law_take)))
    (hl_law_take : K.lookup f_law_take = some ⟨oc_law_take, od_law_take, .func (PySem.W.fnOf "_law_take" "_law_take" (defArgs s__law_take) (defBody s__law_take) (defScope s__law_take) .none kV_law_take dc_law_take pm_law_take an_law_take cd_law_take ct_law_take), sl_law_take⟩)
    (hc_law_take : PySem.W.codeIn K cd_law_take "_law_take" = true)
    (hk_law_take : PySem.W.keepIn K (.ref f_law_take) = true)
    (ha_law_of : PySem.W.nsIn K mainGlobals "_law_of" = some (some (.ref f_law_of)))
    (hl_law_of : K.lookup f_law_of = some ⟨oc_law_of, od_law_of, .func (PySem.W.fnOf "_law_of" "_law_of" (defArgs s__law_of) (defBody s__law_of) (defScope s__law_of) .none kV_law_of dc_law_of pm_law_of an_law_of cd_law_of ct_law_of), sl_law_of⟩)
    (hc_law_of : PySem.W.codeIn K cd_law_of "_law_of" = true)
    (hk_law_of : PySem.W.keepIn K (.ref f_law_of) = true)
    (ha_law_end : PySem.W.nsIn K mainGlobals "_law_end" = some (some (.ref f_law_end)))
    (hl_law_end : K.lookup f_law_end = some ⟨oc_law_end, od_law_end, .func (PySem.W.fnOf "_law_end" "_law_end" (defArgs s__law_end) (defBody s__law_end) (defScope s__law_end) .none kV_law_end dc_law_end pm_law_end an_law_end cd_law_end ct_law_end), sl_law_end⟩)
    (hc_law_end : PySem.W.codeIn K cd_law_end "_law_end" = true)
    (hk_law_end : PySem.W.keepIn K (.ref f_law_end) = true)
    (ha_law_odd : PySem.W.nsIn K mainGlobals "_law_odd" = some (some (.ref f_law_odd)))
    (hl_law_odd : K.lookup f_law_odd = some ⟨oc_law_odd, od_law_odd, .func (PySem.W.fnOf "_law_odd" "_law_odd" (defArgs s__law_odd) (defBody s__law_odd) (defScope s__law_odd) .none kV_law_odd dc_law_odd pm_law_odd an_law_odd cd_law_odd ct_law_odd), sl_law_odd⟩)
    (hc_law_odd : PySem.W.codeIn K cd_law_odd "_law_odd" = true)
    (hk_law_odd : PySem.W.keepIn K (.ref f_law_odd) = true)
    (ha_law_is_number : PySem.W.nsIn K mainGlobals "_law_is_number" = some (some (.ref f_law_is_number)))
    (hl_law_is_number : K.lookup f_law_is_number = some ⟨oc_law_is_number, od_law_is_number, .func (PySem.W.fnOf "_law_is_number" "_law_is_number" (defArgs s__law_is_number) (defBody s__law_is_number) (defScope s__law_is_number) .none kV_law_is_number dc_law_is_number pm_law_is_number an_law_is_number cd_law_is_number ct_law_is_number), sl_law_is_number⟩)
    (hc_law_is_number : PySem.W.codeIn K cd_law_is_number "_law_is_number" = true)
    (hk_law_is_number : PySem.W.keepIn K (.ref f_law_is_number) = true)
    (ha_law_heard : PySem.W.nsIn K mainGlobals "_law_heard" = some (some (.ref f_law_heard)))
    (hl_law_heard : K.lookup f_law_heard = some ⟨oc_law_heard, od_law_heard, .func (PySem.W.fnOf "_law_heard" "_law_heard" (defArgs s__law_heard) (defBody s__law_heard) (defScope s__law_heard) .none kV_law_heard dc_law_heard pm_law_heard an_law_heard cd_law_heard ct_law_heard), sl_law_heard⟩)
    (hc_law_heard : PySem.W.codeIn K cd_law_heard "_law_heard" = true)
    (hk_law_heard : PySem.W.keepIn K (.ref f_law_heard) = true)
    (ha_law_fine : PySem.W.nsIn K mainGlobals "_law_fine" = some (some (.ref f_law_fine)))
    (hl_law_fine : K.lookup f_law_fine = some ⟨oc_law_fine, od_law_fine, .func (PySem.W.fnOf "_law_fine" "_law_fine" (defArgs s__law_fine) (defBody s__law_fine) (defScope s__law_fine) .none kV_law_fine dc_law_fine pm_law_fine an_law_fine cd_law_fine ct_law_fine), sl_law_fine⟩)
    (hc_law_fine : PySem.W.codeIn K cd_law_fine "_law_fine" = true)
    (hk_law_fine : PySem.W.keepIn K (.ref f_law_fine) = true)
    (ha_law_refused : PySem.W.nsIn K mainGlobals "_law_refused" = some (some (.ref f_law_refused)))
    (hl_law_refused : K.lookup f_law_refused = some ⟨oc_law_refused, od_law_refused, .func (PySem.W.fnOf "_law_refused" "_law_refused" (defArgs s__law_refused) (defBody s__law_refused) (defScope s__law_refused) .none kV_law_refused dc_law_refused pm_law_refused an_law_refused cd_law_refused ct_law_refused), sl_law_refused⟩)
    (hc_law_refused : PySem.W.codeIn K cd_law_refused "_law_refused" = true)
    (hk_law_refused : PySem.W.keepIn K (.ref f_law_refused) = true)
    (halaw : PySem.W.nsIn K mainGlobals "law" = some (some (.ref flaw)))
    (hllaw : K.lookup flaw = some ⟨oclaw, odlaw, .func (PySem.W.fnOf "law" "law" (defArgs s_law) (defBody s_law) (defScope s_law) .none kVlaw dclaw pmlaw anlaw cdlaw ctlaw), sllaw⟩)
    (hclaw : PySem.W.codeIn K cdlaw "law" = true)
    (hklaw : PySem.W.keepIn K (.ref flaw) = true)
    (hefBadKind : PySem.W.typeIn K (.ref fBadKind___init__) = some (.type "function"))
    (hzint : PySem.W.nsIn K mainGlobals "int" = some none)
    (hzlen : PySem.W.nsIn K mainGlobals "len" = some none)
    (hzabs : PySem.W.nsIn K mainGlobals "abs" = some none)
    (hzbool : PySem.W.nsIn K mainGlobals "bool" = some none)
    (hztuple : PySem.W.nsIn K mainGlobals "tuple" = some none)
    (hzisinstance : PySem.W.nsIn K mainGlobals "isinstance" = some none)
    (hzrange : PySem.W.nsIn K mainGlobals "range" = some none)
    (hzmax : PySem.W.nsIn K mainGlobals "max" = some none)
    (hzmin : PySem.W.nsIn K mainGlobals "min" = some none)
    (hzall : PySem.W.nsIn K mainGlobals "all" = some none)
    (hzrepr : PySem.W.nsIn K mainGlobals "repr" = some none) :
    ∃ fd : FuncData, (∀ (s : Shared) (v : Value), BindsTo s fd ⟨[v], []⟩ [("_law_script", v)]) ∧ ∀ base : Heap, K.In base → base.Ns mainGlobals mg → FnG l.prog w K mg base CX0 7 fa fd P_law (spLaw K) := by
  have e := hfa.symm.trans (PySem.W.mg_of X G halaw)
  cases e
  have T : Txt mg := ⟨PySem.W.mg_none_of X G hzint, PySem.W.mg_none_of X G hzlen, PySem.W.mg_none_of X G hzabs, PySem.W.mg_none_of X G hzbool, PySem.W.mg_none_of X G hztuple, PySem.W.mg_none_of X G hzisinstance, PySem.W.mg_none_of X G hzrange, PySem.W.mg_none_of X G hzmax, PySem.W.mg_none_of X G hzmin, PySem.W.mg_none_of X G hzall, PySem.W.mg_none_of X G hzrepr⟩
  have KT : KindT K C := ⟨⟨hpg, hhd, hpo, hsa⟩, hnlow, hnhigh, hnsize⟩
  have KO : KindO K C := ⟨⟨KT.cl, heO1, heW4, heW5, heO4, if_pos (beq_self_eq_true _)⟩, heO5, heO6, (by obtain ⟨cd, hc, _⟩ := PySem.W.any_some hhd; rw [hc]; rfl), heOc, heOsNoneType, heOsint, heOsstr, heOstuple⟩
  have gKind := PySem.W.mg_of X G haC
  have ET_BadKind : ErrT2 K mg CW C_BadKind "BadKind" "one" "other" := { ox := ⟨⟨nmBadKind, qBadKind, NBadKind, bsBadKind, _, snBadKind, subBadKind, abBadKind, colBadKind, ddBadKind, m0BadKind, m1BadKind, m2BadKind, m3BadKind, m5BadKind, he1BadKind, rfl⟩, he2BadKind, he7BadKind, he8BadKind, he6BadKind⟩, ek := ⟨by unfold PySem.W.clsIn; rw [he1BadKind]; rfl, he3BadKind, he4BadKind, he7BadKind, heaBadKind, heW4, heW5, hebBadKind, he9BadKind⟩, n1 := hevBadKindone, n2 := hevBadKindother, me := PySem.W.exm_ref heW1 heW2 heW3 heeBadKind, kc := if_pos (beq_self_eq_true _), kv := kit_sub (by decide +kernel) hedBadKind, g := PySem.W.mg_of X G he0BadKind }
  have n_str := PySem.W.mg_none_of X G heStr
  have n_ve := PySem.W.mg_none_of X G heW6
  have g_WidthError := PySem.W.mg_of X G heW0
  have FBadKind___init__ := fun_mk (st := s_BadKind___init__) hlBadKind___init__ hcBadKind___init__ hkBadKind___init__
  have bBadKind___init__ := FBadKind___init__.binds (ps := P_BadKind___init__) fun _ _ _ _ _ _ us hl => match us, hl with | [_, _, _], _ => rfl
  have Fis_integer := fun_mk (st := s_is_integer) hlis_integer hcis_integer hkis_integer
  have bis_integer := Fis_integer.binds (ps := P_is_integer) fun _ _ _ _ _ _ us hl => match us, hl with | [_], _ => rfl
  have Fis_between := fun_mk (st := s_is_between) hlis_between hcis_between hkis_between
  have bis_between := Fis_between.binds (ps := P_is_between) fun _ _ _ _ _ _ us hl => match us, hl with | [_, _, _], _ => rfl
  have FKind___init__ := fun_mk (st := s_Kind___init__) hlKind___init__ hcKind___init__ hkKind___init__
  have bKind___init__ := FKind___init__.binds (ps := P_Kind___init__) fun _ _ _ _ _ _ us hl => match us, hl with | [_, _, _], _ => rfl
  have FKind___contains__ := fun_mk (st := s_Kind___contains__) hlKind___contains__ hcKind___contains__ hkKind___contains__
  have bKind___contains__ := FKind___contains__.binds (ps := P_Kind___contains__) fun _ _ _ _ _ _ us hl => match us, hl with | [_, _], _ => rfl
  have FKind___eq__ := fun_mk (st := s_Kind___eq__) hlKind___eq__ hcKind___eq__ hkKind___eq__
  have bKind___eq__ := FKind___eq__.binds (ps := P_Kind___eq__) fun _ _ _ _ _ _ us hl => match us, hl with | [_, _], _ => rfl
  have FKind___str__ := fun_mk (st := s_Kind___str__) hlKind___str__ hcKind___str__ hkKind___str__
  have bKind___str__ := FKind___str__.binds (ps := P_Kind___str__) fun _ _ _ _ _ _ us hl => match us, hl with | [_], _ => rfl
  have F_law_pot_of := fun_mk (st := s__law_pot_of) hl_law_pot_of hc_law_pot_of hk_law_pot_of
  have b_law_pot_of := F_law_pot_of.binds (ps := P__law_pot_of) fun _ _ _ _ _ _ us hl => match us, hl with | [_, _], _ => rfl
  have F_law_take := fun_mk (st := s__law_take) hl_law_take hc_law_take hk_law_take
  have b_law_take := F_law_take.binds (ps := P__law_take) fun _ _ _ _ _ _ us hl => match us, hl with | [_, _], _ => rfl
  have F_law_of := fun_mk (st := s__law_of) hl_law_of hc_law_of hk_law_of
  have b_law_of := F_law_of.binds (ps := P__law_of) fun _ _ _ _ _ _ us hl => match us, hl with | [_, _], _ => rfl
  have F_law_end := fun_mk (st := s__law_end) hl_law_end hc_law_end hk_law_end
  have b_law_end := F_law_end.binds (ps := P__law_end) fun _ _ _ _ _ _ us hl => match us, hl with | [_], _ => rfl
  have F_law_odd := fun_mk (st := s__law_odd) hl_law_odd hc_law_odd hk_law_odd
  have b_law_odd := F_law_odd.binds (ps := P__law_odd) fun _ _ _ _ _ _ us hl => match us, hl with | [_], _ => rfl
  have F_law_is_number := fun_mk (st := s__law_is_number) hl_law_is_number hc_law_is_number hk_law_is_number
  have b_law_is_number := F_law_is_number.binds (ps := P__law_is_number) fun _ _ _ _ _ _ us hl => match us, hl with | [_], _ => rfl
  have F_law_heard := fun_mk (st := s__law_heard) hl_law_heard hc_law_heard hk_law_heard
  have b_law_heard := F_law_heard.binds (ps := P__law_heard) fun _ _ _ _ _ _ us hl => match us, hl with | [_, _], _ => rfl
  have F_law_fine := fun_mk (st := s__law_fine) hl_law_fine hc_law_fine hk_law_fine
  have b_law_fine := F_law_fine.binds (ps := P__law_fine) fun _ _ _ _ _ _ us hl => match us, hl with | [_], _ => rfl
  have F_law_refused := fun_mk (st := s__law_refused) hl_law_refused hc_law_refused hk_law_refused
  have b_law_refused := F_law_refused.binds (ps := P__law_refused) fun _ _ _ _ _ _ us hl => match us, hl with | [_], _ => rfl
  have Flaw := fun_mk (st := s_law) hllaw hclaw hklaw
  refine ⟨PySem.W.fnOf "law" "law" (defArgs s_law) (defBody s_law) (defScope s_law) .none kVlaw dclaw pmlaw anlaw cdlaw ctlaw, fun s v => .of_eq rfl, fun base _ _ => ?_⟩
  have cis_integer : Cal l.prog w K mg base 1 "is_integer" P_is_integer spIsInt := ⟨fis_integer, _, ok_is_integer Fis_integer T, bis_integer, PySem.W.mg_of X G hais_integer, hkis_integer⟩
  have cEBadKind : CalE l.prog w K mg base C_BadKind P_BadKind___init__ := ⟨fBadKind___init__, _, haBadKind___init__, hefBadKind, ok_BadKind FBadKind___init__ ET_BadKind, bBadKind___init__⟩
  have cKind : CalK l.prog w K mg base C C_BadKind := ⟨fKind___init__, _, ⟨hmk, haKind___init__, hiKind___init__, hkc⟩, ok_KindX FKind___init__ KT ET_BadKind cis_integer cEBadKind, bKind___init__, PySem.W.mg_of X G haC⟩
  have cis_between : Cal l.prog w K mg base 2 "is_between" P_is_between spBtw := ⟨fis_between, _, ok_btw Fis_between cis_integer, bis_between, PySem.W.mg_of X G hais_between, hkis_between⟩
  have cKind___contains__ : CalN l.prog w K mg base (CX0) C 3 "__contains__" P_Kind___contains__ (spHas C) := ⟨fKind___contains__, _, ⟨haKind___contains__, hiKind___contains__, hkKind___contains__⟩, ok_has FKind___contains__ KT cis_between, bKind___contains__⟩
  have cKind___eq__ : CalN l.prog w K mg base (CX0) C 1 "__eq__" P_Kind___eq__ (spEqA K C) := ⟨fKind___eq__, _, ⟨haKind___eq__, hiKind___eq__, hkKind___eq__⟩, ok_eqA FKind___eq__ T KT KO gKind, bKind___eq__⟩
  have cKind___str__ : CalN l.prog w K mg base (CX0) C 1 "__str__" P_Kind___str__ (spStr C) := ⟨fKind___str__, _, ⟨haKind___str__, hiKind___str__, hkKind___str__⟩, ok_str FKind___str__ KT, bKind___str__⟩
  have c_law_take : Cal l.prog w K mg base 1 "_law_take" P__law_take spTake := ⟨f_law_take, _, ok_take F_law_take T, b_law_take, PySem.W.mg_of X G ha_law_take, hk_law_take⟩
  have c_law_of : Cal l.prog w K mg base 2 "_law_of" P__law_of spOf := ⟨f_law_of, _, ok_of F_law_of T c_law_take, b_law_of, PySem.W.mg_of X G ha_law_of, hk_law_of⟩
  have c_law_pot_of : Cal l.prog w K mg base 1 "_law_pot_of" P__law_pot_of (spPotOf K) := ⟨f_law_pot_of, _, ok_pot_of F_law_pot_of T, b_law_pot_of, PySem.W.mg_of X G ha_law_pot_of, hk_law_pot_of⟩
  have c_law_end : Cal l.prog w K mg base 3 "_law_end" P__law_end spEnd := ⟨f_law_end, _, ok_end F_law_end T c_law_take c_law_of, b_law_end, PySem.W.mg_of X G ha_law_end, hk_law_end⟩
  have c_law_odd : Cal l.prog w K mg base 3 "_law_odd" P__law_odd spOdd := ⟨f_law_odd, _, ok_odd F_law_odd T c_law_of, b_law_odd, PySem.W.mg_of X G ha_law_odd, hk_law_odd⟩
  have c_law_is_number : Cal l.prog w K mg base 1 "_law_is_number" P__law_is_number spIsInt := ⟨f_law_is_number, _, ok__law_is_number F_law_is_number T, b_law_is_number, PySem.W.mg_of X G ha_law_is_number, hk_law_is_number⟩
  have c_law_heard : Cal l.prog w K mg base 5 "_law_heard" P__law_heard (spHeard C) := ⟨f_law_heard, _, ok_heard F_law_heard T n_ve KT g_WidthError ET_BadKind cKind, b_law_heard, PySem.W.mg_of X G ha_law_heard, hk_law_heard⟩
  have c_law_fine : CalG l.prog w K mg base 6 "_law_fine" P__law_fine (spRight 9) := ⟨f_law_fine, _, ok_fine F_law_fine T n_str KT KO c_law_end c_law_odd c_law_heard cKind cKind___contains__ cKind___eq__ cKind___str__, b_law_fine, PySem.W.mg_of X G ha_law_fine, hk_law_fine⟩
  have c_law_refused : CalG l.prog w K mg base 6 "_law_refused" P__law_refused (spRight 12) := ⟨f_law_refused, _, ok_refused F_law_refused T c_law_of c_law_end c_law_odd c_law_is_number c_law_heard, b_law_refused, PySem.W.mg_of X G ha_law_refused, hk_law_refused⟩
  exact ok_law Flaw T c_law_pot_of c_law_fine c_law_refused
end Zg

open PySem PySem.W PyProof.Rows in
set_option maxRecDepth 100000 in
set_option maxHeartbeats 0 in
theorem PySem.Challenge.cw_widerkeys_k00_kinds_of_numbers_holds : PySem.Challenge.rw_widerkeys_k00_kinds_of_numbers.Holds := by
  w_on; o_law; k_head; (case hw => w_witness2)
  k_fill
  refine Zg.walkG (l := PySem.Challenge.rw_widerkeys_k00_kinds_of_numbers) (sp := Zg.spLaw) (x := "_law_script") (k := 7) rfl (by decide) rfl ⟨rfl, by decide, by decide⟩ (fun w h Y => PySem.W.kIn_of Y) ?F (fun K H a ns hl hS => ⟨a, ns, rfl, hS, hl, fun _ => rfl⟩)
  case F =>
    intro w mg fa h KX G hmg
    refine' Zg.all_mk KX G hmg ?haC ?hpg ?hhd ?hpo ?hsa ?hmk ?hkc ?hnlow ?hnhigh ?hnsize ?heOc ?heOsNoneType ?heOsint ?heOsstr ?heOstuple ?heStr ?heW0 ?heW1 ?heW2 ?heW3 ?heW4 ?heW5 ?heW6 ?he0BadKind ?he1BadKind ?he2BadKind ?he3BadKind ?he4BadKind ?he6BadKind ?he7BadKind ?he8BadKind ?he9BadKind ?heaBadKind ?hebBadKind ?hedBadKind ?heeBadKind ?hevBadKindone ?hevBadKindother ?heO1 ?heO4 ?heO5 ?heO6 ?haBadKind___init__ ?hiBadKind___init__ ?hlBadKind___init__ ?hcBadKind___init__ ?hkBadKind___init__ ?hais_integer ?hlis_integer ?hcis_integer ?hkis_integer ?hais_between ?hlis_between ?hcis_between ?hkis_between ?haKind___init__ ?hiKind___init__ ?hlKind___init__ ?hcKind___init__ ?hkKind___init__ ?haKind___contains__ ?hiKind___contains__ ?hlKind___contains__ ?hcKind___contains__ ?hkKind___contains__ ?haKind___eq__ ?hiKind___eq__ ?hlKind___eq__ ?hcKind___eq__ ?hkKind___eq__ ?haKind___str__ ?hiKind___str__ ?hlKind___str__ ?hcKind___str__ ?hkKind___str__ ?ha_law_pot_of ?hl_law_pot_of ?hc_law_pot_of ?hk_law_pot_of ?ha_law_take ?hl_law_take ?hc_law_take ?hk_law_take ?ha_law_of ?hl_law_of ?hc_law_of ?hk_law_of ?ha_law_end ?hl_law_end ?hc_law_end ?hk_law_end ?ha_law_odd ?hl_law_odd ?hc_law_odd ?hk_law_odd ?ha_law_is_number ?hl_law_is_number ?hc_law_is_number ?hk_law_is_number ?ha_law_heard ?hl_law_heard ?hc_law_heard ?hk_law_heard ?ha_law_fine ?hl_law_fine ?hc_law_fine ?hk_law_fine ?ha_law_refused ?hl_law_refused ?hc_law_refused ?hk_law_refused ?halaw ?hllaw ?hclaw ?hklaw ?hefBadKind ?hzint ?hzlen ?hzabs ?hzbool ?hztuple ?hzisinstance ?hzrange ?hzmax ?hzmin ?hzall ?hzrepr
    (case haC => k_is)
    (case hpg => k_is)
    (case hhd => k_is)
    (case hpo => k_is)
    (case hsa => k_is)
    (case hmk => k_is)
    (case hkc => k_is)
    (case hnlow => k_is)
    (case hnhigh => k_is)
    (case hnsize => k_is)
    (case heOc => k_is)
    (case heOsNoneType => k_is)
    (case heOsint => k_is)
    (case heOsstr => k_is)
    (case heOstuple => k_is)
    (case heStr => k_is)
    (case heW0 => k_is)
    (case heW1 => k_is)
    (case heW2 => k_is)
    (case heW3 => k_is)
    (case heW4 => k_is)
    (case heW5 => k_is)
    (case heW6 => k_is)
    (case he0BadKind => k_is)
    (case he1BadKind => k_is)
    (case he2BadKind => k_is)
    (case he3BadKind => k_is)
    (case he4BadKind => k_is)
    (case he6BadKind => k_is)
    (case he7BadKind => k_is)
    (case he8BadKind => k_is)
    (case he9BadKind => k_is)
    (case heaBadKind => k_is)
    (case hebBadKind => k_is)
    (case hedBadKind => k_is)
    (case heeBadKind => k_is)
    (case hevBadKindone => k_is)
    (case hevBadKindother => k_is)
    (case heO1 => k_is)
    (case heO4 => k_is)
    (case heO5 => k_is)
    (case heO6 => k_is)
    (case haBadKind___init__ => k_is)
    (case hiBadKind___init__ => k_is)
    (case hlBadKind___init__ => k_is)
    (case hcBadKind___init__ => k_is)
    (case hkBadKind___init__ => k_is)
    (case hais_integer => k_is)
    (case hlis_integer => k_is)
    (case hcis_integer => k_is)
    (case hkis_integer => k_is)
    (case hais_between => k_is)
    (case hlis_between => k_is)
    (case hcis_between => k_is)
    (case hkis_between => k_is)
    (case haKind___init__ => k_is)
    (case hiKind___init__ => k_is)
    (case hlKind___init__ => k_is)
    (case hcKind___init__ => k_is)
    (case hkKind___init__ => k_is)
    (case haKind___contains__ => k_is)
    (case hiKind___contains__ => k_is)
    (case hlKind___contains__ => k_is)
    (case hcKind___contains__ => k_is)
    (case hkKind___contains__ => k_is)
    (case haKind___eq__ => k_is)
    (case hiKind___eq__ => k_is)
    (case hlKind___eq__ => k_is)
    (case hcKind___eq__ => k_is)
    (case hkKind___eq__ => k_is)
    (case haKind___str__ => k_is)
    (case hiKind___str__ => k_is)
    (case hlKind___str__ => k_is)
    (case hcKind___str__ => k_is)
    (case hkKind___str__ => k_is)
    (case ha_law_pot_of => k_is)
    (case hl_law_pot_of => k_is)
    (case hc_law_pot_of => k_is)
    (case hk_law_pot_of => k_is)
    (case ha_law_take => k_is)
    (case hl_law_take => k_is)
    (case hc_law_take => k_is)
    (case hk_law_take => k_is)
    (case ha_law_of => k_is)
    (case hl_law_of => k_is)
    (case hc_law_of => k_is)
    (case hk_law_of => k_is)
    (case ha_law_end => k_is)
    (case hl_law_end => k_is)
    (case hc_law_end => k_is)
    (case hk_law_end => k_is)
    (case ha_law_odd => k_is)
    (case hl_law_odd => k_is)
    (case hc_law_odd => k_is)
    (case hk_law_odd => k_is)
    (case ha_law_is_number => k_is)
    (case hl_law_is_number => k_is)
    (case hc_law_is_number => k_is)
    (case hk_law_is_number => k_is)
    (case ha_law_heard => k_is)
    (case hl_law_heard => k_is)
    (case hc_law_heard => k_is)
    (case hk_law_heard => k_is)
    (case ha_law_fine => k_is)
    (case hl_law_fine => k_is)
    (case hc_law_fine => k_is)
    (case hk_law_fine => k_is)
    (case ha_law_refused => k_is)
    (case hl_law_refused => k_is)
    (case hc_law_refused => k_is)
    (case hk_law_refused => k_is)
    (case halaw => k_is)
    (case hllaw => k_is)
    (case hclaw => k_is)
    (case hklaw => k_is)
    (case hefBadKind => k_is)
    (case hzint => k_is)
    (case hzlen => k_is)
    (case hzabs => k_is)
    (case hzbool => k_is)
    (case hztuple => k_is)
    (case hzisinstance => k_is)
    (case hzrange => k_is)
    (case hzmax => k_is)
    (case hzmin => k_is)
    (case hzall => k_is)
    (case hzrepr => k_is)
#print axioms PySem.Challenge.cw_widerkeys_k00_kinds_of_numbers_holds
