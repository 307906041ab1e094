import PyProof.Rows.All
import Wide.All
import OpenK.AllK
import Wide.FinOn
import PyProof.ReprRoads
import PyProof.ReprLen
import PyProof.FitsInt
import Flt.Len
import HandS.ForMost
import HandS.Wide
import HandS.IsInst
import HandS.SlotsOwn
import HandS.More
import PyProof.InstNe
import HandS.Codes
import HandS.TryOnly
import HandS.Style
import PySem.Challenge.RW_widerkeys_k02_kinds_compared
set_option Elab.async false
set_option linter.all false
set_option maxRecDepth 100000
set_option maxHeartbeats 4000000

namespace Zg
open PySem PySem.Spec PyProof.Rows L2

/-! ### powers -/
def CPowZ (i j : Int) : Prop := 0 ≤ j ∧ (Builtin.Int.intBits i : Int) * j ≤ 2 ^ 27
theorem op_powZ {X : Cx} : OpR X (binaryOp .Pow) (rI CPowZ fun i j => .int (i ^ j.toNat)) :=
  opI fun _ _ _ _ _ _ _ hc q => pow_int hc.1 hc.2 q

/-! ### no repr runs around -/
/-- no repr runs around -/
def Calm (A : Around) : Prop := A.guards = some []
theorem Calm.deeper {A : Around} {env : Env} (h : Calm A) : Calm (A.deeper env) := h

/-- repr(x), x data at any depth -/
def rReprD (K : PySem.W.Frag) : List V → Hp → VK → Prop := fun xs H Q =>
  ∃ (x : V) (d : PyData), xs = [x] ∧ Dp K H x d ∧ d.showable = true ∧ d.hasDict = false ∧
    d.depth ≤ 64 ∧ d.shown.length ≤ sizeLine ∧ (∀ i, x = .int i → i.natAbs.log2 < 1920) ∧ Q (.str d.shown) H
theorem call_reprD {X : Cx} (hg : Calm X.A) (hu : X.A.units + 70 < cLine) : CallR X (.builtin "repr") (rReprD X.K) := by
  intro pins s σ H xs us Q I r h
  obtain ⟨x, d, rfl, hd, hs, hn, hdep, hsz, hi, q⟩ := h
  obtain ⟨u, rfl, rx⟩ := vals1 r
  obtain ⟨as, rd⟩ := Dp.reads I d x u hd rx
  have nod : d.hasDict = true → sysModules ∉ as := fun z => by rw [hn] at z; cases z
  cases hd with
  | non =>
    cases rx
    exact PySem.P.repr_of_none ⟨.str _, H, I.tok _, ⟨_, rfl⟩, q⟩
  | bl b =>
    cases rx
    refine PySem.P.repr_of_bool ⟨.str _, H, I.tok _, ⟨_, rfl⟩, ?_⟩
    cases b <;> exact q
  | int i =>
    obtain ⟨t, rfl⟩ := rx
    exact PySem.P.repr_of_int (hi i rfl) ⟨.str _, H, I.tok _, ⟨_, rfl⟩, q⟩
  | str z =>
    obtain ⟨t, rfl⟩ := rx
    exact PySem.P.repr_of_str ⟨.str _, H, I.tok _, ⟨_, rfl⟩, q⟩ hsz
  | lst h1 h2 =>
    cases rx
    refine repr_of_reads' rd hs nod hg (by omega) (fun _ _ e => e) (fun h' u tk hk => ?_) hsz
    exact ⟨.str _, H, I.kept (t' := tk) hk, ⟨_, rfl⟩, q⟩
  | tup h1 h2 =>
    cases rx
    refine repr_of_reads' rd hs nod hg (by omega) (fun _ _ e => e) (fun h' u tk hk => ?_) hsz
    exact ⟨.str _, H, I.kept (t' := tk) hk, ⟨_, rfl⟩, q⟩

/-! ### defs that are called where no repr runs -/
section
variable {P : Program} {w : World} {K : PySem.W.Frag} {mg : Str → Option Value} {base : Heap} {CX : CXT} {k : Nat} {f : Addr} {fd : FuncData} {ps : List Str} {sp : Sp}
/-- a def keeps its promise wherever it is called with no repr around -/
structure FnG (P : Program) (w : World) (K : PySem.W.Frag) (mg : Str → Option Value) (base : Heap) (CX : CXT)
    (k : Nat) (f : Addr) (fd : FuncData) (ps : List Str) (sp : Sp) : Prop where
  many : ∀ vs H Q E, sp vs H Q E → vs.length = ps.length
  goes : ∀ (A : Around), Calm A → ∀ (fr : List Env) (s : Shared) (H : Hp) (args : Args) (us : List Value) (vs : List V) (Q : VK) (E : XK),
    Room k A → Env0 P w K mg base A fr s H → BindsTo s fd args (ps.zip us) → Vals vs us → sp vs H Q E →
      codeAny (model P w) A (.call (.ref f) args) (CR CX fr P w H s Q E) s
theorem FnG.of (F : FnOk P w K mg base CX k f fd ps sp) : FnG P w K mg base CX k f fd ps sp :=
  ⟨F.len, fun A _ fr s H args us vs Q E r e b v h => F.run A fr s H args us vs Q E r e b v h⟩
theorem FnG.up {j : Nat} (F : FnG P w K mg base CX j f fd ps sp) (h : j ≤ k) : FnG P w K mg base CX k f fd ps sp :=
  ⟨F.many, fun A c fr s H args us vs Q E r => F.goes A c fr s H args us vs Q E (r.mono h)⟩

/-- a def of the text, by its body, with no repr around -/
theorem Fun_okG {x qual : Str} {st : Stmt} {N : List Str} (F : Fun K x qual st f fd) (S : FnScope N ps (defScope st)) (len : ∀ vs H Q E, sp vs H Q E → vs.length = ps.length)
    (hbody : ∀ (cd : Value) (A : Around) (fr : List Env) (s : Shared) (H : Hp) (vs : List V) (Q : VK) (E : XK), Calm A →
      Room k (A.deeper (envOfC qual (defScope st) s.heap.objs.size f cd)) → sp vs H Q E →
        ∃ t, PSs (cxOf CX P w K mg base N qual (defScope st) f cd A fr s H E).nox (defBody st) t ∧ t { nx := fun _ H' => Q .non H', rt := Q } (start N vs) H) :
    FnG P w K mg base CX (k + 1) f fd ps sp := by
  obtain ⟨oc, od, kw, doc, pm, an, cd, ct, osl, rfl, at_f, hcd⟩ := F.ex
  constructor
  · exact len
  intro A calm fr s H args us vs Q E room e0 binds rel hsp
  have hlen := len _ _ _ _ hsp
  have stays : ∀ b o, base.get? b = some o → s.heap.get? b = some o := fun b o e => (e0.bs b o e).1
  refine codeAny_call_function room.depth (e0.mod.kin.keeps stays _ _ at_f) rfl S.co S.gen rfl (PySem.W.codeRec_of (e0.mod.kin.keeps stays) hcd) (binds _ _ _ _ ?_)
  refine wpAny_newFunctionEnv_cells S.kind (fun ⟨n, v⟩ hy => ?_) fun env he s1 inC => ?_
  · cases S.par n (List.of_mem_zip hy).1 with
    | inl z => exact .inl z
    | inr z => exact .inr ⟨z, PySem.W.cellsFrom_some _ _ _ (.inl z)⟩
  subst he
  refine ⟨(e0.mod.nolimit.keeps stays).keeps inC.toInCall.keep, codeAny_func ?_⟩
  obtain ⟨t, ht, hq⟩ := hbody cd A fr s H vs Q E calm (room.deeper _) hsp
  refine wpAny_mono (ht.nox.run [] s1 (start N vs) H _ (inv_start (CX := CX) S room.hd e0 hlen rel inC) hq) (fun fl s' z => ?_) fun _ _ z => z
  match fl, z with
  | .ret _, ⟨v, _, H', J, rv, q⟩ => exact ⟨v, H', J.os, J.bare, J.base, J.hok, rv, q⟩
  | .next, ⟨_, H', J, q⟩ => exact ⟨.non, H', J.os, J.bare, J.base, J.hok, rfl, q⟩
  | .brk, ⟨_, _, _, q⟩ => exact q.elim
  | .cont, ⟨_, _, _, q⟩ => exact q.elim
end

section
variable {X : Cx} {CX : CXT} {k : Nat} {f : Addr} {fd : FuncData} {ps : List Str} {sp : Sp} {E : XK} {x : Str} {p pos : Pos} {e : Expr} {es : List Expr} {t : TA}
/-- f(e, ..) where no repr runs -/
theorem pe_callG (c : Calm X.A) (F : FnG X.prog X.w X.K X.mg X.base CX k f fd ps sp) (hr : Room k X.A) (hg : Gl X x) (hm : X.mg x = some (.ref f)) (hk : PySem.W.keepIn X.K (.ref f) = true)
    (hb : Binds X.K fd ps []) (hx : Passes CX X E) (ha : PA X (e :: es) t) (hdb : (x == ("__debug__" : Str)) = false := by decide)
    (he : starEach (e :: es) X.env = (false, eval e X.env) :: starEach es X.env := by rfl) (hpl : (backTo pos (starEach es X.env)).any (·.1) = false := by rfl) :
    PE X (.Call (.Name x p) (e :: es) [] pos) (tCall sp [] E t) := by
  constructor
  intro pins s σ H Q I h
  refine wpAny_Call_Name_kw (ld_glob I hg hm (PySem.W.callWith_K (h₀ := X.base) I.ok.mod.kin hk (thn (ha.run pos pins s σ H _ I h) fun us s1 z => ?_) he hpl) hdb)
  obtain ⟨vs, H1, J, rel, q⟩ := z
  have q' : sp vs H1 Q E := by rw [← List.append_nil vs]; exact q
  have hl : (us ++ []).length = ps.length := by rw [List.append_nil, ← rel.length]; exact F.many _ _ _ _ q'
  have b := hb s1 us J.kIn hl
  rw [List.append_nil] at b
  refine ⟨J.kIn, wpAny_call (codeAny_mono (F.goes X.A c X.stack s1 H1 ⟨us, []⟩ us vs Q E hr J.env0 b rel q') fun r s2 z => ?_)⟩
  match r, z with
  | .error _, z => exact hx pins σ H1 s1 _ s2 J z
  | .ok (.ret _), z => exact J.after z
  | .ok .next, z => exact z.elim
  | .ok .brk, z => exact z.elim
  | .ok .cont, z => exact z.elim
end

/-! ### the law's own call -/
/-- the script alone is tracked, or nothing -/
def track (a : Addr) (o : HO) : Hp := fun b => if b = a then some o else none
theorem track_at {a : Addr} {o : HO} : track a o a = some o := if_pos rfl
theorem track_off {a b : Addr} {o : HO} (h : b ≠ a) : track a o b = none := if_neg h

theorem lawG {P : Program} {w : World} {K : PySem.W.Frag} {mg mb : Str → Option Value} {k : Nat} {fa a : Addr} {fd : FuncData} {x : Str} {sp : Sp} {s : Shared} {us : List Value} {ns : List Int}
    (kin : K.In s.heap) (gl : s.heap.Ns mainGlobals mg) (bl : s.heap.Ns builtinsNs mb) (bb : ∀ x : Str, x ≠ "__name__" → mb x = bootBuiltins x) (lim : s.heap.NoLimit) (gens : s.gens = #[])
    (ha : s.heap.get? a = some { cls := .type "list", data := .seq us.toArray }) (whole : IntsAre us ns) (line : ns.length ≤ sizeLine) (room : Room k callerA)
    (F : ∀ base : Heap, K.In base → base.Ns mainGlobals mg → FnG P w K mg base CX0 k fa fd [x] sp)
    (bind : ∀ (s : Shared) (u : Value), BindsTo s fd ⟨[u], []⟩ [(x, u)])
    (hsp : ∀ H : Hp, SqL K H a (ns.map V.int) → sp [.ref a] H (fun v _ => v = .bl true) fun _ _ _ => False) :
    codeAny (model P w) callerA (.call (.ref fa) ⟨[.ref a], []⟩) (fun r s' => r = .ok (.ret (.bool true)) ∧ OldK s.heap s'.heap ∧ s'.os = s.os ∧ AllBare s'.gens) s := by
  have rel := vals_ints whole
  have size := whole.length
  -- H: the script, or nothing; what H does not track is in the base
  have go : ∀ H : Hp, SqL K H a (ns.map V.int) → HOk P w H s.heap → (∀ b u, H b = some u → b = a ∧ K.lookup a = none ∧ ∃ o xs, u = .frz o (.lst xs)) →
      codeAny (model P w) callerA (.call (.ref fa) ⟨[.ref a], []⟩) (fun r s' => r = .ok (.ret (.bool true)) ∧ OldK s.heap s'.heap ∧ s'.os = s.os ∧ AllBare s'.gens) s := by
    intro H hS hok only
    have free : ∀ {b : Addr}, b ≠ a → H b = none := fun {b} hb => by
      cases q : H b with
      | none => rfl
      | some u => exact absurd (only b u q).1 hb
    have notDict : ∀ {b : Addr} {o : Obj} {es : Array DictEntry} {n : Nat}, s.heap.get? b = some o → o.data = .dict es n → b ≠ a := fun {b o es n} e d z => by
      subst z
      rw [ha] at e
      have e' := Option.some.inj e
      subst e'
      cases d
    have keepNs : ∀ {b : Addr} {m : Str → Option Value}, s.heap.Ns b m → (hidT s.heap H).Ns b m := fun {b m} z => by
      obtain ⟨o, es, n, e, d, r⟩ := z
      exact ⟨o, es, n, hidT_get e (free (notDict e d)), d, r⟩
    have kinB : K.In (hidT s.heap H) := fun b o e => hidT_get (kin b o e) (by
      cases q : H b with
      | none => rfl
      | some u =>
        obtain ⟨z, no, _⟩ := only b u q
        rw [z, no] at e
        cases e)
    have limB : (hidT s.heap H).NoLimit := by
      obtain ⟨m, h1, h2⟩ := lim
      exact ⟨m, keepNs h1, h2⟩
    have e0 : Env0 P w K mg (hidT s.heap H) callerA [] s H :=
      { frames := rfl, mod := ⟨kinB, keepNs gl, ⟨mb, keepNs bl, bb⟩, limB⟩, bs := fun b o e => of_hidT e, bsz := Nat.le_of_eq (hidT_size _ _), funs := trivial,
        frf := fun b hb => (List.not_mem_nil (show b ∈ ([] : List Addr) from hb)).elim, hok := hok, bare := .of_eq gens }
    refine codeAny_mono ((F _ kinB (keepNs gl)).goes callerA rfl [] s H ⟨[.ref a], []⟩ [.ref a] [.ref a] _ _ room e0 (bind s (.ref a)) (.cons rfl .nil) (hsp H hS)) fun r s' z => ?_
    match r, z with
    | .error _, z => exact False.elim z
    | .ok .next, z => exact False.elim z
    | .ok .brk, z => exact False.elim z
    | .ok .cont, z => exact False.elim z
    | .ok (.ret u), z =>
      obtain ⟨v, H', os, bare, un, hok', rv, q⟩ := z
      have q' : v = .bl true := q
      subst q'
      obtain rfl : u = Value.bool true := rv
      refine ⟨rfl, OldK.of_keep fun b o e => ?_, os, bare⟩
      cases q : H b with
      | none => exact un.keep b o e q (List.not_mem_nil) (List.not_mem_nil)
      | some u =>
        obtain ⟨_, _, ob, xs, eu⟩ := only b u q
        subst eu
        have h1 := (hok b _ q).1
        have h2 := (hok' b _ (un.frzs b ob _ q)).1
        rw [e] at h1
        rw [h2, ← Option.some.inj h1]
  cases hk : K.lookup a with
  | none =>
    refine go (track a (.frz { cls := .type "list", data := .seq us.toArray } (.lst (ns.map V.int)))) (.inl (.inr ⟨_, track_at⟩)) (fun b u z => ?_) fun b u z => ?_
    · by_cases hb : b = a
      · subst hb
        have z' := track_at.symm.trans z
        cases z'
        exact ⟨ha, by rw [List.length_map]; exact line, us, _, rel, ha⟩
      · rw [track_off hb] at z
        cases z
    · by_cases hb : b = a
      · subst hb
        have z' := track_at.symm.trans z
        cases z'
        exact ⟨rfl, hk, _, _, rfl⟩
      · rw [track_off hb] at z
        cases z
  | some o =>
    have e := kin a o hk
    rw [ha] at e
    have e' := Option.some.inj e
    subst e'
    have small : us.toArray.size ≤ sizeLine := by rw [List.size_toArray, size]; exact line
    refine go (fun _ => none) (.inr ⟨_, us.toArray, _, hk, rfl, rfl, rfl, small, by simpa using rel⟩) (fun b u z => ?_) fun b u z => ?_
    · have z' : (none : Option HO) = some u := z
      cases z'
    · have z' : (none : Option HO) = some u := z
      cases z'

/-- what k_head leaves, from the law's promise -/
theorem walkG {l : PySem.W.OpenLaw} {n k : Nat} {q : Program} {loose : List Str} {XP : (Str → Option Value) → Heap → Prop} {YP : World → Heap → Prop} {d : DefRec} {K : Params → PySem.W.Frag} {sp : PySem.W.Frag → Sp} {x : Str}
    (most : l.most = some n) (line : n ≤ sizeLine) (nodef : d.params.defaults = []) (room : Room k callerA) (hY : ∀ (w : World) (h : Heap), YP w h → (K w.params).In h)
    (F : ∀ (w : World) (mg : Str → Option Value) (fa : Addr) (h : Heap), (K w.params).In h → h.Ns mainGlobals mg → mg d.name = some (.ref fa) →
      ∃ fd : FuncData, (∀ (s : Shared) (u : Value), BindsTo s fd ⟨[u], []⟩ [(x, u)]) ∧
        ∀ base : Heap, (K w.params).In base → base.Ns mainGlobals mg → FnG l.prog w (K w.params) mg base CX0 k fa fd [x] (sp (K w.params)))
    (hsp : ∀ (K : PySem.W.Frag) (H : Hp) (a : Addr) (ns : List Int), ns.length ≤ n → SqL K H a (ns.map V.int) → sp K [.ref a] H (fun v _ => v = .bl true) fun _ _ _ => False) :
    PySem.W.WalkO q loose XP YP l.row.toRowW d [] (fun f vs => PySem.call f vs) := by
  refine Att.attach_call most nodef fun w s0 s1 mg mb fa o pm cd doc a vs ns G Y _ _ _ named obj whole few gens => ?_
  have kin := hY w _ Y
  obtain ⟨fd, bind, all⟩ := F w mg fa _ kin G.T.g named
  exact lawG kin G.T.g G.T.b G.T.builtins G.T.nolimit gens obj whole (Nat.le_trans few line) room all bind fun H hS => hsp _ H a ns few hS
section
variable {K : PySem.W.Frag} {σ : L2.St} {H : Hp} {Q : VK} {D : Ends} {v x y : V} {i j : Int} {p q : Addr} {xs : List V} {ta tb tc te : TE} {tt tu : TT} {ts tr : TS}
theorem nn {H : Hp} {a b : Addr} {o : HO} (h' : H b = none) (h : H a = some o) : a ≠ b := ne_of_none h h'
theorem nn' {H : Hp} {a b : Addr} {o : HO} (h' : H b = none) (h : H a = some o) : b ≠ a := (ne_of_none h h').symm
theorem rd_var {n : Nat} (h : σ[n]? = some (some v)) (k : Q v H) : tVar n σ H Q := ⟨v, h, k⟩
theorem rd_c (k : Q v H) : tC v σ H Q := k
theorem rd_op {r : R2} (k : ta σ H fun x H1 => tb σ H1 fun y H2 => r x y H2 Q) : tOp r ta tb σ H Q := k
theorem rd_un {r : V → Hp → VK → Prop} (k : ta σ H fun x H1 => r x H1 Q) : tUn r ta σ H Q := k
theorem rd_I0 {g : Int → Int → V} (k : Q (g i j) H) : rI0 g (.int i) (.int j) H Q := ⟨i, j, rfl, rfl, k⟩
theorem rd_I {C : Int → Int → Prop} {g : Int → Int → V} (c : C i j) (k : Q (g i j) H) : rI C g (.int i) (.int j) H Q := ⟨i, j, rfl, rfl, c, k⟩
theorem rd_U {g : Int → V} (k : Q (g i) H) : rU g (.int i) H Q := ⟨i, rfl, k⟩
theorem rd_eq (s : scal x y = true) (k : Q (.bl (decide (x = y))) H) : rEq x y H Q := ⟨s, k⟩
theorem rd_ne (s : scal x y = true) (k : Q (.bl (!decide (x = y))) H) : rNe x y H Q := ⟨s, k⟩
theorem rd_ixL (h : H p = some (.lst xs)) (e : atI xs i = some v) (k : Q v H) : rIxL K (.ref p) (.int i) H Q := ⟨p, xs, i, v, rfl, rfl, SqL.of h, e, k⟩
theorem rd_ixLs (h : SqL K H p xs) (e : atI xs i = some v) (k : Q v H) : rIxL K (.ref p) (.int i) H Q := ⟨p, xs, i, v, rfl, rfl, h, e, k⟩
theorem rd_ixT (h : H p = some (.tup xs)) (e : atI xs i = some v) (k : Q v H) : rIxT K (.ref p) (.int i) H Q := ⟨p, xs, i, v, rfl, rfl, SqT.of h, e, k⟩
theorem rd_setL {z : V} {n : Nat} {R : Hp → Prop} (h : H p = some (.lst xs)) (e : ixN xs.length i = some n) (k : R (upd H p (.lst (xs.set n z)))) : rSetL (.ref p) (.int i) z H R := ⟨p, xs, i, n, rfl, rfl, h, e, k⟩
theorem rd_sub {to ti : TE} {t : TSet} {R : L2.St → Hp → Prop} (k : to σ H fun o H1 => ti σ H1 fun i H2 => t o i v H2 fun H3 => R σ H3) : gSub to ti t v σ H R := k
theorem rd_test {R : Bool → Hp → Prop} (k : ta σ H fun x H' => ∃ b, x = .bl b ∧ R b H') : tTest ta σ H R := k
theorem rd_tB {R : Bool → Hp → Prop} (k : ta σ H fun x H' => ∃ b, x = .bl b ∧ R b H') : tB ta σ H R := k
theorem rd_bl {b : Bool} {R : Bool → Prop} (k : R b) : ∃ c, V.bl b = .bl c ∧ R c := ⟨b, rfl, k⟩
theorem rd_chain {r r' : R2} (k : ta σ H fun x H1 => tb σ H1 fun y H2 => r x y H2 fun z H3 => ∃ b, z = .bl b ∧ if b = true then tc σ H3 fun u H4 => r' y u H4 Q else Q (.bl false) H3) : tChain r r' ta tb tc σ H Q := k
theorem rd_and {R : Bool → Hp → Prop} (k : tt σ H fun c H1 => if c = true then tu σ H1 R else R false H1) : tAnd tt tu σ H R := k
theorem rd_or {R : Bool → Hp → Prop} (k : tt σ H fun c H1 => if c = true then R true H1 else tu σ H1 R) : tOr tt tu σ H R := k
theorem rd_not {R : Bool → Hp → Prop} (k : tt σ H fun c H1 => R (!c) H1) : tNot tt σ H R := k
theorem rd_andV (k : ta σ H fun x H1 => ∃ c, x = .bl c ∧ if c = true then tb σ H1 Q else Q (.bl false) H1) : tAndV ta tb σ H Q := k
theorem rd_orV (k : ta σ H fun x H1 => ∃ c, x = .bl c ∧ if c = true then Q (.bl true) H1 else tb σ H1 Q) : tOrV ta tb σ H Q := k
theorem rd_notV (k : ta σ H fun x H1 => ∃ c, x = .bl c ∧ Q (.bl (!c)) H1) : tNotV ta σ H Q := k
theorem rd_if (k : tt σ H fun c H1 => if c = true then ta σ H1 Q else tb σ H1 Q) : tIf tt ta tb σ H Q := k
theorem rd_ifS (k : tt σ H fun b H1 => if b = true then ts D σ H1 else tr D σ H1) : tIfS tt ts tr D σ H := k
theorem rd_seq (k : ts { D with nx := tr D } σ H) : tSeq ts tr D σ H := k
theorem rd_next (k : D.nx σ H) : tNext D σ H := k
theorem rd_asg {g : TG} (k : te σ H fun x H1 => g x σ H1 D.nx) : tAsg te g D σ H := k
theorem rd_name {n : Nat} {R : L2.St → Hp → Prop} (k : R (σ.set n (some v)) H) : gName n v σ H R := k
theorem rd_gnil {R : L2.St → Hp → Prop} (k : R σ H) : gNil [] σ H R := ⟨rfl, k⟩
theorem rd_gcons {t : TG} {u : TGs} {R : L2.St → Hp → Prop} (k : t v σ H fun σ' H' => u xs σ' H' R) : gCons t u (v :: xs) σ H R := ⟨v, xs, rfl, k⟩
theorem rd_gtup {n : Nat} {t : TGs} {R : L2.St → Hp → Prop} (h : H p = some (.tup xs)) (e : xs.length = n) (k : t xs σ H R) : gTup K n t (.ref p) σ H R := ⟨p, xs, rfl, SqT.of h, e, k⟩
theorem rd_par {a b : Nat} {tA : TA} (k : tA σ H fun vs H1 => ∃ v w, vs = [v, w] ∧ D.nx ((σ.set a (some v)).set b (some w)) H1) : tPar a b tA D σ H := k
theorem rd_par2 {R : V → V → Prop} (k : R x y) : ∃ v w, [x, y] = [v, w] ∧ R v w := ⟨x, y, rfl, k⟩
theorem rd_drop (k : te σ H fun _ H1 => D.nx σ H1) : tDrop te D σ H := k
theorem rd_ret (k : te σ H D.rt) : tRet te D σ H := k
theorem rd_retN (k : D.rt .non H) : tRetN D σ H := k
theorem rd_nil {R : List V → Hp → Prop} (k : R [] H) : tNil σ H R := k
theorem rd_cons {tl : TA} {R : List V → Hp → Prop} (k : ta σ H fun x H1 => tl σ H1 fun xs H2 => R (x :: xs) H2) : tCons ta tl σ H R := k
theorem rd_tup {tA : TA} (k : tA σ H fun xs H1 => xs.length ≤ sizeLine ∧ ∀ p, H1 p = none → Q (.ref p) (upd H1 p (.tup xs))) : tTup tA σ H Q := k
theorem rd_lst {tA : TA} (k : tA σ H fun xs H1 => xs.length ≤ sizeLine ∧ ∀ p, H1 p = none → Q (.ref p) (upd H1 p (.lst xs))) : tLst tA σ H Q := k
theorem few {n : Nat} (h : n ≤ 1000) : n ≤ sizeLine := Nat.le_of_lt (small1000 h)
theorem rd_new {R : Addr → Prop} (h : xs.length ≤ 1000) (k : ∀ p, H p = none → R p) : xs.length ≤ sizeLine ∧ ∀ p, H p = none → R p := ⟨few h, k⟩
theorem rd_cb {r : List V → Hp → VK → Prop} {tA : TA} (k : tA σ H fun vs H1 => r vs H1 Q) : tCB r tA σ H Q := k
theorem rd_call {sp : Sp} {E : XK} {tA : TA} (k : tA σ H fun vs H1 => sp (vs ++ []) H1 Q E) : tCall sp [] E tA σ H Q := k
theorem rd_make {C : Addr} {sp : Sp} {E : XK} {tA : TA} (k : tA σ H fun vs H1 => ∀ x dx, H1 x = none → H1 dx = none → dx ≠ x →
  sp (.ref x :: (vs ++ [])) (upd (upd H1 dx (.own x)) x (.ins C dx [])) (fun v H2 => v = .non ∧ Q (.ref x) H2) E) : tMake C sp [] E tA σ H Q := k
theorem rd_fld {f : Str} (k : ta σ H fun x H1 => ∃ a C dx fs v, x = .ref a ∧ H1 a = some (.ins C dx fs) ∧ Cls K C ∧ NoAttr K C f ∧ fs.lookup f = some v ∧ Q v H1) : tFld K ta f σ H Q := k
theorem rd_int {R : Int → Prop} {S : Prop} (k : R i) : (∃ j, [V.int i] = [V.int j] ∧ R j) ∨ S := .inl ⟨i, rfl, k⟩
theorem rd_intB {b : Bool} {R : Bool → Prop} {S : Prop} (k : R b) : S ∨ (∃ c, [V.bl b] = [V.bl c] ∧ R c) := .inr ⟨b, rfl, k⟩
theorem rd_one {R : Int → Prop} (k : R i) : ∃ j, [V.int i] = [V.int j] ∧ R j := ⟨i, rfl, k⟩
theorem rd_two {R : Int → Int → Prop} (k : R i j) : ∃ a b, [V.int i, V.int j] = [V.int a, V.int b] ∧ R a b := ⟨i, j, rfl, k⟩
theorem rd_lenL {R : List V → Prop} (h : H p = some (.lst xs)) (k : R xs) : ∃ a ys, [V.ref p] = [V.ref a] ∧ (SqL K H a ys ∨ SqT K H a ys) ∧ R ys := ⟨p, xs, rfl, .inl (SqL.of h), k⟩
theorem rd_lenLs {R : List V → Prop} (h : SqL K H p xs) (k : R xs) : ∃ a ys, [V.ref p] = [V.ref a] ∧ (SqL K H a ys ∨ SqT K H a ys) ∧ R ys := ⟨p, xs, rfl, .inl h, k⟩
theorem rd_lenT {R : List V → Prop} (h : H p = some (.tup xs)) (k : R xs) : ∃ a ys, [V.ref p] = [V.ref a] ∧ (SqL K H a ys ∨ SqT K H a ys) ∧ R ys := ⟨p, xs, rfl, .inr (SqT.of h), k⟩
theorem rd_fldI {C dx a : Addr} {fs : List (Str × V)} {f : Str} (h : H a = some (.ins C dx fs)) (c : Cls K C) (n : NoAttr K C f) (l : fs.lookup f = some v) (k : Q v H) :
    ∃ a' C dx fs v, V.ref a = .ref a' ∧ H a' = some (.ins C dx fs) ∧ Cls K C ∧ NoAttr K C f ∧ fs.lookup f = some v ∧ Q v H := ⟨a, C, dx, fs, v, rfl, h, c, n, l, k⟩
theorem rd_ite {c : Prop} [Decidable c] {A B : Prop} (h1 : c → A) (h2 : ¬ c → B) : if decide c = true then A else B := by
  by_cases h : c
  · rw [if_pos (decide_eq_true h)]
    exact h1 h
  · rw [if_neg (by rw [decide_eq_false h]; exact Bool.false_ne_true)]
    exact h2 h
theorem rd_iteN {c : Prop} [Decidable c] {A B : Prop} (h1 : ¬ c → A) (h2 : c → B) : if (!decide c) = true then A else B := by
  by_cases h : c
  · rw [decide_eq_true h]
    exact iteF (h2 h)
  · rw [decide_eq_false h]
    exact iteT (h1 h)
theorem rd_iteB {b : Bool} {A B : Prop} (h1 : b = true → A) (h2 : b = false → B) : if b = true then A else B := by
  cases b with
  | true => exact iteT (h1 rfl)
  | false => exact iteF (h2 rfl)
end
section
variable {K : PySem.W.Frag} {H : Hp} {Q : VK} {a b c : V} {p : Addr} {xs : List V}
theorem rd_ixL0 (h : H p = some (.lst (a :: xs))) (k : Q a H) : rIxL K (.ref p) (.int 0) H Q := rd_ixL h (atI_nat (j := 0) rfl) k
theorem rd_ixL1 (h : H p = some (.lst (a :: b :: xs))) (k : Q b H) : rIxL K (.ref p) (.int 1) H Q := rd_ixL h (atI_nat (j := 1) rfl) k
theorem rd_ixL2 (h : H p = some (.lst (a :: b :: c :: xs))) (k : Q c H) : rIxL K (.ref p) (.int 2) H Q := rd_ixL h (atI_nat (j := 2) rfl) k
theorem rd_ixT0 (h : H p = some (.tup (a :: xs))) (k : Q a H) : rIxT K (.ref p) (.int 0) H Q := rd_ixT h (atI_nat (j := 0) rfl) k
theorem rd_ixT1 (h : H p = some (.tup (a :: b :: xs))) (k : Q b H) : rIxT K (.ref p) (.int 1) H Q := rd_ixT h (atI_nat (j := 1) rfl) k
theorem rd_setL0 {z : V} {R : Hp → Prop} (h : H p = some (.lst (a :: xs))) (k : R (upd H p (.lst (z :: xs)))) : rSetL (.ref p) (.int 0) z H R := rd_setL (n := 0) h (by simp [ixN]) k
theorem rd_setL2 {z : V} {R : Hp → Prop} (h : H p = some (.lst (a :: b :: c :: xs))) (k : R (upd H p (.lst (a :: b :: z :: xs)))) : rSetL (.ref p) (.int 2) z H R := rd_setL (n := 2) h (by simp [ixN]; omega) k
end
section
variable {K : PySem.W.Frag} {H : Hp} {Q : VK} {i j : Int} {p : Addr} {xs : List V}
/-- an item at an open place within -/
theorem rd_ixLr (h : H p = some (.lst xs)) (h0 : 0 ≤ i) (h1 : i < xs.length) (k : ∀ v, v ∈ xs → Q v H) : rIxL K (.ref p) (.int i) H Q := by
  have hlt : i.toNat < xs.length := by omega
  have e : xs[i.toNat]? = some xs[i.toNat] := List.getElem?_eq_getElem hlt
  exact rd_ixL h (at_of (Int.toNat_of_nonneg h0).symm e) (k _ (List.getElem_mem hlt))
theorem rd_ixLsr (h : SqL K H p xs) (h0 : 0 ≤ i) (h1 : i < xs.length) (k : ∀ v, v ∈ xs → Q v H) : rIxL K (.ref p) (.int i) H Q := by
  have hlt : i.toNat < xs.length := by omega
  have e : xs[i.toNat]? = some xs[i.toNat] := List.getElem?_eq_getElem hlt
  exact rd_ixLs h (at_of (Int.toNat_of_nonneg h0).symm e) (k _ (List.getElem_mem hlt))
/-- % hands on a letter -/
theorem rd_mod (c : 0 < j) (k : ∀ r, r = i % j → 0 ≤ r → r < j → Q (.int r) H) : rI (fun _ j => 0 < j) (fun i j => .int (i % j)) (.int i) (.int j) H Q :=
  rd_I c (k _ rfl (Int.emod_nonneg _ (by omega)) (Int.emod_lt_of_pos _ c))
theorem cmul_l (h1 : -(2 ^ 64) < i) (h2 : i < 2 ^ 64) : CMul i j := .inl ⟨h1, h2⟩
theorem cmul_r (h1 : -(2 ^ 64) < j) (h2 : j < 2 ^ 64) : CMul i j := .inr ⟨h1, h2⟩
theorem cpow (h0 : 0 ≤ j) (h1 : j ≤ 1000000) (h2 : -(2 ^ 64) < i) (h3 : i < 2 ^ 64) : CPow i j := ⟨h0, h1, by omega⟩
theorem cdivw {n : Int} (h0 : 0 < j) (h1 : j < 2 ^ 200) : CDivW n j := wide_div h0 (b := 200) (by omega) (by decide) (by decide)
end
section
variable {K : PySem.W.Frag} {σ : L2.St} {H : Hp} {Q : VK} {D : Ends} {v x y : V} {i j : Int} {a C dx : Addr} {fs : List (Str × V)} {ta te : TE} {f : Str}
theorem rd_sfld (k : te σ H fun y H1 => ta σ H1 fun x H2 => ∃ a C dx fs, x = .ref a ∧ H2 a = some (.ins C dx fs) ∧ Cls K C ∧ NoAttr K C f ∧ fs.length < 1000 ∧ D.nx σ (upd H2 a (.ins C dx (putF f y fs)))) : sFld K ta te f D σ H := k
theorem rd_sfldI {R : Hp → Prop} (h : H a = some (.ins C dx fs)) (c : Cls K C) (n : NoAttr K C f) (l : fs.length < 1000) (k : R (upd H a (.ins C dx (putF f y fs)))) :
    ∃ a' C' dx' fs', V.ref a = .ref a' ∧ H a' = some (.ins C' dx' fs') ∧ Cls K C' ∧ NoAttr K C' f ∧ fs'.length < 1000 ∧ R (upd H a' (.ins C' dx' (putF f y fs'))) := ⟨a, C, dx, fs, rfl, h, c, n, l, k⟩
end
theorem rd_rf {R : Prop} (k : R) : V.non = V.non ∧ R := ⟨rfl, k⟩
theorem rd_bm {K : PySem.W.Frag} {T : String} {r : V → List V → Hp → VK → Prop} {to : TE} {t : TA} {σ : L2.St} {H : Hp} {Q : VK} (k : to σ H fun x H1 => tyV K T x H1 ∧ t σ H1 fun xs H2 => r x xs H2 Q) : tBM K T r to t σ H Q := k
local macro_rules | `(tactic| fail "z hp") => `(tactic| (with_reducible first
  | assumption
  | exact L2.upd_same
  | (refine' (L2.upd_ne ?zn).trans ?zm; (case zn => fail "z ne"); (case zm => fail "z hp"))))
local macro_rules | `(tactic| fail "z ne") => `(tactic| (with_reducible first
  | assumption
  | exact Ne.symm (by assumption)
  | exact Zg.nn (by assumption) (by assumption)
  | exact Zg.nn' (by assumption) (by assumption)
  | (refine' Zg.nn (by assumption) ?zm; (case zm => fail "z hp"))
  | (refine' Zg.nn' (by assumption) ?zm; (case zm => fail "z hp"))))
local macro_rules | `(tactic| fail "z 1") => `(tactic| (with_reducible first
  | refine Zg.rd_var rfl ?_
  | refine Zg.rd_c ?_
  | refine Zg.rd_seq ?_
  | refine Zg.rd_asg ?_
  | refine Zg.rd_name ?_
  | refine Zg.rd_op ?_
  | refine Zg.rd_I0 ?_
  | refine Zg.rd_ret ?_
  | refine Zg.rd_ifS ?_
  | refine Zg.rd_test ?_
  | refine Zg.rd_tB ?_
  | refine Zg.rd_bl ?_
  | refine Zg.rd_un ?_
  | refine Zg.rd_U ?_
  | refine Zg.rd_cons ?_
  | refine Zg.rd_nil ?_
  | refine Zg.rd_sub ?_
  | refine Zg.rd_lst ?_
  | refine Zg.rd_tup ?_
  | refine Zg.rd_cb ?_
  | refine Zg.rd_call ?_
  | refine Zg.rd_make ?_
  | refine Zg.rd_fld ?_
  | refine Zg.rd_chain ?_
  | refine Zg.rd_and ?_
  | refine Zg.rd_or ?_
  | refine Zg.rd_not ?_
  | refine Zg.rd_andV ?_
  | refine Zg.rd_orV ?_
  | refine Zg.rd_notV ?_
  | refine Zg.rd_if ?_
  | refine Zg.rd_next ?_
  | refine Zg.rd_par ?_
  | refine Zg.rd_par2 ?_
  | refine Zg.rd_gnil ?_
  | refine Zg.rd_gcons ?_
  | refine Zg.rd_drop ?_
  | refine Zg.rd_retN ?_
  | refine Zg.rd_eq rfl ?_
  | refine Zg.rd_ne rfl ?_
  | refine Zg.rd_int ?_
  | refine Zg.rd_intB ?_
  | refine Zg.rd_one ?_
  | refine Zg.rd_two ?_
  | refine Zg.rd_sfld ?_
  | refine Zg.rd_bm ?_))
local macro_rules | `(tactic| fail "z side") => `(tactic| (with_reducible first
  | assumption
  | exact Zg.cmul_l (by omega) (by omega)
  | exact Zg.cmul_r (by omega) (by omega)
  | exact Zg.cpow (by omega) (by omega) (by omega) (by omega)
  | exact Zg.cdivw (by omega) (by omega)
  | (show (0 : Int) < _; omega)))
local macro_rules | `(tactic| fail "z 2") => `(tactic| (with_reducible first
  | (refine' Zg.rd_ixL0 ?zh ?_; (case zh => fail "z hp"))
  | (refine' Zg.rd_ixL1 ?zh ?_; (case zh => fail "z hp"))
  | (refine' Zg.rd_ixL2 ?zh ?_; (case zh => fail "z hp"))
  | (refine' Zg.rd_ixT0 ?zh ?_; (case zh => fail "z hp"))
  | (refine' Zg.rd_ixT1 ?zh ?_; (case zh => fail "z hp"))
  | (refine' Zg.rd_I ?zh ?_; (case zh => fail "z side"))
  | (refine' Zg.rd_setL0 ?zh ?_; (case zh => fail "z hp"))
  | (refine' Zg.rd_setL2 ?zh ?_; (case zh => fail "z hp"))
  | (refine' Zg.rd_lenL ?zh ?_; (case zh => fail "z hp"))
  | (refine' Zg.rd_lenT ?zh ?_; (case zh => fail "z hp"))
  | (refine' Zg.rd_new ?zh ?_; (case zh => exact (Nat.le_of_ble_eq_true rfl)))))
local macro_rules | `(tactic| fail "z go") => `(tactic| repeat (first | fail "z 1" | fail "z 2"))
local macro_rules | `(tactic| fail "z run") => `(tactic| repeat (first | fail "z 1" | fail "z 2" | (with_reducible first | refine L2.iteT ?_ | refine L2.iteF ?_ | refine Zg.rd_rf ?_)))
/-! ### own operators of instances -/
section
variable {X : Cx} {CX : CXT} {pins : List (Addr × Obj)} {σ : L2.St} {H : Hp} {s : Shared} {C g : Addr} {fd : FuncData} {ps : List Str} {k : Nat} {sp : Sp} {E : XK}
theorem run_in {A : Around} {Q : VK} {us : List Value} {ws : List V} (F : FnOk X.prog X.w X.K X.mg X.base CX k g fd ps sp) (hr : Room k A) (hb : Binds X.K fd ps []) (e0 : Env0 X.prog X.w X.K X.mg X.base A X.stack s H)
    (hx : Passes CX X E) (I : Inv X pins σ H s) (r : Vals ws us) (h : sp ws H Q E) : wpAny (model X.prog X.w) A (call (.ref g) us) (EP X pins σ Q) X.xe s := by
  have hl : (us ++ []).length = ps.length := by rw [List.append_nil, ← r.length]; exact F.len _ _ _ _ h
  have b := hb s us I.kIn hl
  rw [List.append_nil] at b
  refine wpAny_call (codeAny_mono (F.run A X.stack s H ⟨us, []⟩ us ws Q E hr e0 b r h) fun r s' hq => ?_)
  match r, hq with
  | .error e, z => exact hx pins σ H s e s' I z
  | .ok (.ret _), z => exact I.after z
  | .ok .next, z => exact z.elim
  | .ok .brk, z => exact z.elim
  | .ok .cont, z => exact z.elim
/-- x op y, two instances of the class at C whose def for op is at g -/
def rOwnI (C : Addr) (sp : Sp) (E : XK) : R2 := fun x y H Q => ∃ a dx fs b dy gs, x = .ref a ∧ y = .ref b ∧ H a = some (.ins C dx fs) ∧ H b = some (.ins C dy gs) ∧ sp [x, y] H Q E
theorem op_cmpI {op : CmpOp} (hop : ∀ a b, compareOp op a b = richCompare op a b) (hs : PySem.W.findIn X.K (.ref C) (cmpInfo op).2.1 = some (some (.ref g))) (hf : PySem.W.isFn X.K (.ref g) = true)
    (F : FnOk X.prog X.w X.K X.mg X.base CX k g fd ps sp) (hr : Room k X.A) (hb : Binds X.K fd ps []) (hx : Passes CX X E) : OpR X (compareOp op) (rOwnI C sp E) := by
  intro pins s σ H x y v u Q I rx ry h
  obtain ⟨a, dx, fs, b, dy, gs, rfl, rfl, ha, hb', q⟩ := h
  cases (show v = Value.ref a from rx)
  cases (show u = Value.ref b from ry)
  obtain ⟨mA, O, _⟩ := ins_get I.hok ha
  obtain ⟨od, J, _⟩ := O.look
  obtain ⟨mB, O', _⟩ := ins_get I.hok hb'
  obtain ⟨od', J', _⟩ := O'.look
  obtain ⟨m, hF⟩ := I.fr
  rw [hop]
  refine PySem.W.cmp_K (op := op) (tb := .ref C) hr.units0 hF I.ok.mod.kin J J'.type (by simp [PySem.W.notFirst]) hs hf ?_
  refine wpAny_mono (run_in (us := [.ref a, .ref b]) (ws := [.ref a, .ref b]) F hr hb I.env0 hx I (.cons rfl (.cons rfl .nil)) q) (fun w s' z => ?_) fun _ _ x => x
  obtain ⟨z', H', I', rz, qz⟩ := z
  exact SlX.cmpback rz ⟨z', H', I', rz, qz⟩
theorem op_binI {op : Operator} (hc : PySem.W.selfFirst X.K C = true) (hs : PySem.W.findIn X.K (.ref C) (PySem.dunder op.info.2) = some (some (.ref g))) (hf : PySem.W.isFn X.K (.ref g) = true)
    (F : FnOk X.prog X.w X.K X.mg X.base CX k g fd ps sp) (hr : Room k X.A) (hb : Binds X.K fd ps []) (hx : Passes CX X E) : OpR X (binaryOp op) (rOwnI C sp E) := by
  intro pins s σ H x y v u Q I rx ry h
  obtain ⟨a, dx, fs, b, dy, gs, rfl, rfl, ha, hb', q⟩ := h
  cases (show v = Value.ref a from rx)
  cases (show u = Value.ref b from ry)
  obtain ⟨mA, O, _⟩ := ins_get I.hok ha
  obtain ⟨od, J, _⟩ := O.look
  obtain ⟨mB, O', _⟩ := ins_get I.hok hb'
  obtain ⟨od', J', _⟩ := O'.look
  obtain ⟨m, hF⟩ := I.fr
  refine PySem.W.binop_K hF I.ok.mod.kin J J'.type hc hs hf ?_
  refine wpAny_mono (run_in (us := [.ref a, .ref b]) (ws := [.ref a, .ref b]) F hr hb I.env0 hx I (.cons rfl (.cons rfl .nil)) q) (fun w s' z => ?_) fun _ _ x => x
  obtain ⟨z', H', I', rz, qz⟩ := z
  exact SlX.cmpback rz ⟨z', H', I', rz, qz⟩
end
section
variable {M : Model} {prog : Program} {w : World} {A : Around} {E : Value → Shared → Prop} {s : Shared} {K : PySem.W.Frag} {x C f : Addr} {ox : Obj} {od : Option Obj} {b : Value}
theorem ifBound_ne {args : List Value} {Q : Option Value → Shared → Prop} (X : K.In s.heap) (I : PySem.W.InstAt s.heap x ox C od) (hs : PySem.W.findIn K (.ref C) "__ne__" = some (some (.builtin "object.__ne__")))
    (h : wpAny M A (call (.builtin "object.__ne__") (.ref x :: args)) (fun v => Q (some v)) E s) : wpAny M A (callSpecialIfBound? (.ref x) "__ne__" args) Q E s := by
  simp only [callSpecialIfBound?, bindSpecialIfBound?]
  refine wpAny_holding (wpAny_bind (wpAny_bind (wpAny_bind (I.type.here ((PySem.W.looks_findIn X hs).here ?_)))))
  refine wpAny_bind (wpAny_askSetting (wpAny_ite ?_))
  have fin : wpAny M A (call (.builtin "object.__ne__") ([.ref x] ++ args) >>= fun v => pure (some v)) Q E s := wpAny_bind (wpAny_mono h (fun v s' h' => wpAny_pure h') fun _ _ h' => h')
  split
  · exact wpAny_bind (wpAny_of_eq (F.cmp_object.ne.bind _) (wpAny_pure (by exact fin)))
  · exact wpAny_tryCatch (wpAny_bind (wpAny_of_eq (F.cmp_object.ne.bind _) (wpAny_pure (by exact fin))))
theorem entry_ne {Q : PySem.Fin → Shared → Prop} (hu : A.units < cLine) (X : K.In s.heap) (I : PySem.W.InstAt s.heap x ox C od) (hs : PySem.W.findIn K (.ref C) "__eq__" = some (some (.ref f))) (hf : PySem.W.isFn K (.ref f) = true)
    (h : wpAny (model prog w) A (call (.ref f) [.ref x, b]) (fun v s' => ∃ c, v = .bool c ∧ Q (.done (.ret (.bool (!c)))) s') E s) : wpAny (model prog w) A (Builtin.«object.__ne__» ⟨[.ref x, b], []⟩) Q E s := by
  unfold Builtin.«object.__ne__»
  repeat (first
    | with_reducible refine wpAny_cRoomFor hu ?_
    | (refine wpAny_bind (m := callSpecialIfBound? (.ref x) (Str.ofString "__eq__") [b])
        (PySem.W.ifBound_K X I hs hf (wpAny_mono h (fun r s' hr => by
          obtain ⟨c, rfl, hq⟩ := hr
          repeat (first | exact hq | exact wpAny_pure hq | exact wpAny_truthy_bool hq | (refine wpAny_bind (m := truthy (.bool _)) (wpAny_truthy_bool ?_)) | wp_step)) fun _ _ e => e)))
    | wp_step)
theorem ne_K {L : Addr} {h₀ : Heap} {m : Str → Option Value} {Q : Value → Shared → Prop} (hu : A.units + 1 < cLine) (F0 : PyProof.Rows.Fr h₀ L s.heap m) (X₀ : K.In h₀) (I : PySem.W.InstAt s.heap x ox C od) (hb : PySem.W.Looks (model prog w) s.heap (typeOf b) (.ref C))
    (hm : PySem.W.mroIn K C (.type "object") = some true) (hn : PySem.W.findIn K (.ref C) "__ne__" = some (some (.builtin "object.__ne__"))) (hs : PySem.W.findIn K (.ref C) "__eq__" = some (some (.ref f))) (hf : PySem.W.isFn K (.ref f) = true)
    (h : wpAny (model prog w) A.in1 (call (.ref f) [.ref x, b]) (fun v s' => ∃ c, v = .bool c ∧ Q (.bool (!c)) s') E s) : wpAny (model prog w) A (richCompare .NotEq (.ref x) b) Q E s := by
  have X := X₀.keeps F0.keep
  have one : wpAny (model prog w) A (tryCompare (.ref x) "__ne__" b) (fun r s' => ∃ v, r = some v ∧ Q v s') E s := by
    unfold tryCompare
    refine wpAny_bind (ifBound_ne X I hn (wpAny_call (codeAny_call_builtin F.cmp_object.ne.plain F.cmpEntry_ne (PySem.W.check_slot F.cmpKind_ne F.cmpSplit_ne (I.type.andThen (PySem.W.looks_mroIn X hm)) (F.cmpArgs_ne _ _)
      (entry_ne (A := A.in1) hu X I hs hf (wpAny_mono h (fun v s' hv => ?_) fun _ _ e => e))))))
    obtain ⟨c, rfl, hq⟩ := hv
    first
      | exact ⟨c, rfl, wpAny_pure ⟨_, rfl, hq⟩⟩
      | exact ⟨c, rfl, _, rfl, hq⟩
  simp only [richCompare, cmpInfo_NotEq, oneThing_ref]
  refine wpAny_holding (wpAny_bind (wpAny_cRoomFor (Nat.lt_of_succ_lt hu) ?_))
  refine wpAny_bind (I.type.here (wpAny_bind (hb.here ?_)))
  rw [show (Value.ref C != Value.ref C) = false from by simp]
  simp only [Bool.false_eq_true, if_false]
  refine wpAny_bind (wpAny_pure ?_)
  simp only [Bool.false_eq_true, if_false]
  refine wpAny_bind (wpAny_mono one (fun r s' z => ?_) fun _ _ e => e)
  obtain ⟨v, rfl, hq⟩ := z
  exact wpAny_pure hq
end
section
variable {X : Cx} {CX : CXT} {C g : Addr} {fd : FuncData} {ps : List Str} {k : Nat} {sp : Sp} {E : XK}
/-- x != y by the own == -/
def rNeI (C : Addr) (sp : Sp) (E : XK) : R2 := fun x y H Q => ∃ a dx fs b dy gs, x = .ref a ∧ y = .ref b ∧ H a = some (.ins C dx fs) ∧ H b = some (.ins C dy gs) ∧ sp [x, y] H (fun z H' => ∃ c, z = .bl c ∧ Q (.bl (!c)) H') E
theorem op_neI (hm : PySem.W.mroIn X.K C (.type "object") = some true) (hn : PySem.W.findIn X.K (.ref C) "__ne__" = some (some (.builtin "object.__ne__"))) (hs : PySem.W.findIn X.K (.ref C) "__eq__" = some (some (.ref g))) (hf : PySem.W.isFn X.K (.ref g) = true)
    (F : FnOk X.prog X.w X.K X.mg X.base CX k g fd ps sp) (hr : Room (k + 1) X.A) (hb : Binds X.K fd ps []) (hx : Passes CX X E) (hu : X.A.units + 1 < cLine) : OpR X (compareOp .NotEq) (rNeI C sp E) := by
  intro pins s σ H x y v u Q I rx ry h
  obtain ⟨a, dx, fs, b, dy, gs, rfl, rfl, ha, hb', q⟩ := h
  cases (show v = Value.ref a from rx)
  cases (show u = Value.ref b from ry)
  obtain ⟨mA, O, _⟩ := ins_get I.hok ha
  obtain ⟨od, J, _⟩ := O.look
  obtain ⟨mB, O', _⟩ := ins_get I.hok hb'
  obtain ⟨od', J', _⟩ := O'.look
  obtain ⟨m, hF⟩ := I.fr
  show wpAny _ _ (richCompare .NotEq (.ref a) (.ref b)) _ _ s
  refine ne_K hu hF I.ok.mod.kin J J'.type hm hn hs hf ?_
  refine wpAny_mono (run_in (us := [.ref a, .ref b]) (ws := [.ref a, .ref b]) F hr.in1 hb I.env0.in1 hx I (.cons rfl (.cons rfl .nil)) q) (fun w s' z => ?_) fun _ _ x => x
  obtain ⟨z', H', I', rz, c, ec, qz⟩ := z
  subst ec
  cases (show w = Value.bool c from rz)
  exact ⟨c, rfl, .bl (!c), H', I', rfl, qz⟩
end
def top (i : Nat) : Stmt := PySem.Challenge.pw_widerkeys_k02_kinds_compared.main.body.getD i (.Pass ⟨0, 0, 0, 0⟩)
abbrev s__law_take : Stmt := (top 20)
abbrev N__law_take : List Str := ["_law_pot", "_law_upto", "_law_digit", "_law_prime", "_law_stirred"]
abbrev P__law_take : List Str := ["_law_pot", "_law_upto"]
theorem sc__law_take : FnScope N__law_take P__law_take (defScope s__law_take) := ⟨rfl, rfl, rfl, by decide +kernel, rfl, by decide +kernel, by decide +kernel⟩
abbrev s__law_of : Stmt := (top 21)
abbrev N__law_of : List Str := ["_law_pot", "_law_some"]
abbrev P__law_of : List Str := ["_law_pot", "_law_some"]
theorem sc__law_of : FnScope N__law_of P__law_of (defScope s__law_of) := ⟨rfl, rfl, rfl, by decide +kernel, rfl, by decide +kernel, by decide +kernel⟩
abbrev s__law_pot_of : Stmt := (top 19)
abbrev N__law_pot_of : List Str := ["_law_script", "_law_k", "_law_cell", "_law_own"]
abbrev P__law_pot_of : List Str := ["_law_script", "_law_k"]
theorem sc__law_pot_of : FnScope N__law_pot_of P__law_pot_of (defScope s__law_pot_of) := ⟨rfl, rfl, rfl, by decide +kernel, rfl, by decide +kernel, by decide +kernel⟩

/-- a pot from which n more numbers may be drawn -/
def Pot (H : Hp) (p : Addr) (n : Nat) : Prop := ∃ o s c : Int, H p = some (.lst [.int o, .int s, .int c]) ∧ 0 ≤ o ∧ 0 ≤ s ∧ s < 2305843009213693921 ∧ 0 ≤ c ∧ c + n ≤ 100000
/-- all that was tracked stands, but p -/
def Kp (p : Addr) (H H' : Hp) : Prop := ∀ b o, b ≠ p → H b = some o → H' b = some o
theorem Kp.refl {p : Addr} {H : Hp} : Kp p H H := fun _ _ _ h => h
theorem Kp.trans {p : Addr} {H H1 H2 : Hp} (a : Kp p H H1) (b : Kp p H1 H2) : Kp p H H2 := fun c o n h => b c o n (a c o n h)
theorem Kp.put {p : Addr} {H H1 : Hp} {o : HO} (a : Kp p H H1) : Kp p H (upd H1 p o) := fun c u n h => by
  rw [upd_ne n]
  exact a c u n h
theorem Kp.new {p q : Addr} {H H1 : Hp} {o : HO} (a : Kp p H H1) (hq : H1 q = none) : Kp p H (upd H1 q o) := fun c u n h => by
  have z := a c u n h
  rw [upd_ne (ne_of_none z hq)]
  exact z
theorem same_new {H : Hp} {p : Addr} {o : HO} (h : H p = none) : Same H (upd H p o) := fun b u e => (upd_ne (ne_of_none e h)).trans e
theorem if01 (b : Bool) : (0 : Int) ≤ if b = true then 1 else 0 := by cases b <;> decide
theorem Pot.le {H : Hp} {p : Addr} {m n : Nat} (h : Pot H p n) (l : m ≤ n) : Pot H p m := by
  obtain ⟨o, s, c, a, b, d, e, f, g⟩ := h
  exact ⟨o, s, c, a, b, d, e, f, by omega⟩
theorem Pot.new {H : Hp} {p q : Addr} {n : Nat} {o : HO} (h : Pot H p n) (hq : H q = none) : Pot (upd H q o) p n := by
  obtain ⟨x, s, c, a, b⟩ := h
  exact ⟨x, s, c, (upd_ne (ne_of_none a hq)).trans a, b⟩
theorem Pot.ne {H : Hp} {p q : Addr} {n : Nat} (h : Pot H p n) (hq : H q = none) : p ≠ q := by
  obtain ⟨x, s, c, a, b⟩ := h
  exact ne_of_none a hq
def spTake : Sp := fun vs H Q _ => ∃ (p : Addr) (n : Nat) (u : Int), vs = [.ref p, .int u] ∧ Pot H p (n + 1) ∧ 0 < u ∧ u < 2 ^ 200 ∧
  ∀ (r : Int) (H' : Hp), 0 ≤ r → r < u → Kp p H H' → Pot H' p n → Q (.int r) H'
def spOf : Sp := fun vs H Q _ => ∃ (p a : Addr) (n : Nat) (xs : List V), vs = [.ref p, .ref a] ∧ Pot H p (n + 1) ∧ a ≠ p ∧ H a = some (.lst xs) ∧ 0 < xs.length ∧ xs.length ≤ 1000 ∧
  ∀ (v : V) (H' : Hp), v ∈ xs → Kp p H H' → Pot H' p n → Q v H'
def spPotOf (K : PySem.W.Frag) : Sp := fun vs H Q _ => ∃ (a : Addr) (ns : List Int) (k : Int), vs = [.ref a, .int k] ∧ SqL K H a (ns.map V.int) ∧ ns.length ≤ 1000 ∧ 0 ≤ k ∧ k ≤ 2 ∧
  ∀ (p : Addr) (H' : Hp), H p = none → Same H H' → Pot H' p 100000 → Q (.ref p) H'
/-- a def that stands in the module under its name, with its promise -/
def Cal (P : Program) (w : World) (K : PySem.W.Frag) (mg : Str → Option Value) (base : Heap) (k : Nat) (x : Str) (ps : List Str) (sp : Sp) : Prop :=
  ∃ (f : Addr) (fd : FuncData), FnOk P w K mg base CX0 k f fd ps sp ∧ Binds K fd ps [] ∧ mg x = some (.ref f) ∧ PySem.W.keepIn K (.ref f) = true
def CalG (P : Program) (w : World) (K : PySem.W.Frag) (mg : Str → Option Value) (base : Heap) (k : Nat) (x : Str) (ps : List Str) (sp : Sp) : Prop :=
  ∃ (f : Addr) (fd : FuncData), FnG P w K mg base CX0 k f fd ps sp ∧ Binds K fd ps [] ∧ mg x = some (.ref f) ∧ PySem.W.keepIn K (.ref f) = true
theorem hu70 {k : Nat} {A : Around} (r : Room k A) : A.units + 70 < cLine := by
  have := r.un
  omega
structure Txt (mg : Str → Option Value) : Prop where
  n_int : mg "int" = none
  n_len : mg "len" = none
  n_abs : mg "abs" = none
  n_bool : mg "bool" = none
  n_tuple : mg "tuple" = none
  n_isinstance : mg "isinstance" = none
  n_range : mg "range" = none
  n_max : mg "max" = none
  n_min : mg "min" = none
  n_all : mg "all" = none
  n_repr : mg "repr" = none
section
variable {P : Program} {w : World} {K : PySem.W.Frag} {mg : Str → Option Value} {base : Heap}
theorem ok_take {f : Addr} {fd : FuncData} (F : Fun K "_law_take" "_law_take" s__law_take f fd) (T : Txt mg) : FnOk P w K mg base CX0 1 f fd P__law_take spTake := by
  refine F.ok sc__law_take (fun vs H Q E h => ?_) (fun cdv A outer s H vs Q E hr h => ?_)
  · obtain ⟨p, n, u, rfl, _⟩ := h
    rfl
  · obtain ⟨p, n, u, rfl, ⟨o, z, c, hp, o0, z0, z1, c0, c1⟩, u0, u1, k⟩ := h
    refine ⟨_, (pss_cons (ps_if (pt_cmpR op_gt (pe_ix ix_list (pv 0) pe_int (fun _ _ => rfl)) pe_int (nomark _)) (pss_cons (ps_set (i := 2) sc__law_take.nd rfl (Or.inl rfl) (pe_op op_mod (pe_callTy call_int1 (by rfl) T.n_int (by decide +kernel) (pa_cons (pe_ix ix_list (pv 0) pe_int (fun _ _ => rfl)) pa_nil)) (pv 1)))
      (pss_cons (ps_asg (pe_op op_fdivW (pe_ix ix_list (pv 0) pe_int (fun _ _ => rfl)) (pv 1)) (pg_sub (pv 0) pe_int set_list))
      (pss_one (ps_ret (pv 2))))) pss_nil)
      (pss_cons (ps_asg (pe_op op_add (pe_ix ix_list (pv 0) pe_int (fun _ _ => rfl)) pe_int) (pg_sub (pv 0) pe_int set_list))
      (pss_cons (ps_set (i := 3) sc__law_take.nd rfl (Or.inl rfl) (pe_ix ix_list (pe_lst (pa_cons pe_int (pa_cons pe_int (pa_cons pe_int (pa_cons pe_int (pa_cons pe_int pa_nil)))))) (pe_op op_mod (pe_callTy call_int1 (by rfl) T.n_int (by decide +kernel) (pa_cons (pe_ix ix_list (pv 0) pe_int (fun _ _ => rfl)) pa_nil)) pe_int) (fun _ _ => rfl)))
      (pss_cons (ps_set (i := 4) sc__law_take.nd rfl (Or.inl rfl) (pe_op op_mod (pe_callTy call_int1 (by rfl) T.n_int (by decide +kernel) (pa_cons (pe_op op_pow (pe_op op_add (pe_op op_add (pe_ix ix_list (pv 0) pe_int (fun _ _ => rfl)) (pe_op op_mul (pe_op op_mul pe_int (pe_ix ix_list (pv 0) pe_int (fun _ _ => rfl))) (pe_ix ix_list (pv 0) pe_int (fun _ _ => rfl)))) pe_int) pe_int) pa_nil)) (pv 3)))
      (pss_one (ps_ret (pe_op op_mod (pe_callTy call_int1 (by rfl) T.n_int (by decide +kernel) (pa_cons (pe_op op_fdivW (pe_op op_mul (pv 4) (pe_op op_add (pe_op op_mod (pe_callTy call_int1 (by rfl) T.n_int (by decide +kernel) (pa_cons (pv 4) pa_nil)) pe_int) (pe_op op_mul pe_int (pe_ix ix_list (pv 0) pe_int (fun _ _ => rfl))))) pe_int) pa_nil)) (pv 1)))))))), ?_⟩
    fail "z go"
    refine rd_ite (fun h => ?_) (fun h => ?_)
    · fail "z go"
      exact k _ _ (Int.emod_nonneg _ (by omega)) (Int.emod_lt_of_pos _ u0) Kp.refl.put ⟨_, _, _, upd_same, Int.ediv_nonneg o0 (by omega), z0, z1, c0, by omega⟩
    · fail "z go"
      intro q hq
      have npq : p ≠ q := ne_of_none upd_same hq
      fail "z go"
      refine rd_ixLr upd_same (Int.emod_nonneg _ (by decide)) (Int.emod_lt_of_pos _ (by decide)) fun m hm => ?_
      obtain ⟨m, rfl, m0, m1⟩ : ∃ i : Int, m = .int i ∧ 2147483563 ≤ i ∧ i ≤ 2147483647 := by
        simp only [List.mem_cons, List.not_mem_nil, or_false] at hm
        rcases hm with rfl | rfl | rfl | rfl | rfl <;> exact ⟨_, rfl, by decide, by decide⟩
      have sq0 : 0 ≤ (c + 1) * (c + 1) := Int.mul_nonneg (by omega) (by omega)
      have sq1 : (c + 1) * (c + 1) ≤ 100000 * 100000 := Int.mul_le_mul (by omega) (by omega) (by omega) (by decide)
      have sq2 : 90001 * (c + 1) * (c + 1) = 90001 * ((c + 1) * (c + 1)) := Int.mul_assoc _ _ _
      fail "z go"
      refine k _ _ (Int.emod_nonneg _ (by omega)) (Int.emod_lt_of_pos _ u0) (Kp.refl.put.new hq) ⟨_, _, _, (upd_ne npq).trans upd_same, o0, z0, z1, by omega, by omega⟩
theorem ok_of {f : Addr} {fd : FuncData} (F : Fun K "_law_of" "_law_of" s__law_of f fd) (T : Txt mg) (c_take : Cal P w K mg base 1 "_law_take" P__law_take spTake) :
    FnOk P w K mg base CX0 2 f fd P__law_of spOf := by
  obtain ⟨f_take, fd_take, G__law_take, b__law_take, g__law_take, k__law_take⟩ := c_take
  refine F.ok sc__law_of (fun vs H Q E h => ?_) (fun cdv A outer s H vs Q E hr h => ?_)
  · obtain ⟨p, a, n, xs, rfl, _⟩ := h
    rfl
  · obtain ⟨p, a, n, xs, rfl, hp, nap, ha, l0, l1, k⟩ := h
    refine ⟨_, (pss_one (ps_ret (pe_ix ix_list (pv 1) (pe_call G__law_take (hr.mono (by decide)) rfl g__law_take k__law_take b__law_take .nil pass0 (pa_cons (pv 0) (pa_cons (pe_callB call_len_seq (by rfl) T.n_len (by decide +kernel) (pa_cons (pv 1) pa_nil)) pa_nil))) (fun _ _ => rfl)))), ?_⟩
    fail "z go"
    refine ⟨p, n, _, rfl, hp, by omega, by omega, fun r H' r0 r1 kp pt => ?_⟩
    exact rd_ixLr (kp a _ nap ha) r0 r1 fun v hv => k v H' hv kp pt
theorem ok_pot_of {f : Addr} {fd : FuncData} (F : Fun K "_law_pot_of" "_law_pot_of" s__law_pot_of f fd) (T : Txt mg) : FnOk P w K mg base CX0 1 f fd P__law_pot_of (spPotOf K) := by
  refine F.ok sc__law_pot_of (fun vs H Q E h => ?_) (fun cdv A outer s H vs Q E hr h => ?_)
  · obtain ⟨a, ns, x, rfl, _⟩ := h
    rfl
  · obtain ⟨a, ns, x, rfl, hS, few, x0, x1, k⟩ := h
    refine ⟨_, (pss_cons (ps_set (i := 2) sc__law_pot_of.nd rfl (Or.inl rfl) (pe_ifExp (pt_cmpR op_lt (pv 1) (pe_callB call_len_seq (by rfl) T.n_len (by decide +kernel) (pa_cons (pv 0) pa_nil)) (nomark _)) (pe_ix ix_list (pv 0) (pv 1) (fun _ _ => rfl)) (pe_op op_add (pe_op op_mul pe_int (pv 1)) pe_int)))
      (pss_cons (ps_set (i := 3) sc__law_pot_of.nd rfl (Or.inl rfl) (pe_op op_mul (pe_op op_mod (pe_callTy call_int1 (by rfl) T.n_int (by decide +kernel) (pa_cons (pe_callB call_abs (by rfl) T.n_abs (by decide +kernel) (pa_cons (pv 2) pa_nil)) pa_nil)) (pe_op op_powZ (pe_op op_pow pe_int pe_int) pe_int)) (pe_callTy call_int1 (by rfl) T.n_int (by decide +kernel) (pa_cons (pe_cmpR op_ge (pe_callB call_abs (by rfl) T.n_abs (by decide +kernel) (pa_cons (pv 2) pa_nil)) (pe_op op_pow pe_int pe_int) (nomark _)) pa_nil))))
      (pss_one (ps_ret (pe_lst (pa_cons (pv 3) (pa_cons (pe_op op_mod (pe_callTy call_int1 (by rfl) T.n_int (by decide +kernel) (pa_cons (pe_op op_add (pe_op op_add (pe_op op_mul (pe_op op_mod (pe_callTy call_int1 (by rfl) T.n_int (by decide +kernel) (pa_cons (pv 2) pa_nil)) pe_int) pe_int) (pe_op op_mul (pe_op op_mul pe_int (pv 1)) (pv 1))) pe_int) pa_nil)) pe_int) (pa_cons pe_int pa_nil)))))))), ?_⟩
    fail "z go"
    refine rd_lenLs hS ?_
    fail "z go"
    refine rd_ite (fun h => ?_) (fun h => ?_)
    · fail "z go"
      refine rd_ixLsr hS x0 h fun v hv => ?_
      obtain ⟨c, _, rfl⟩ := List.mem_map.mp hv
      fail "z go"
      refine rd_I (show CPowZ _ _ from ⟨by decide, by decide +kernel⟩) ?_
      fail "z go"
      refine rd_I (by decide +kernel) ?_
      fail "z go"
      intro p hp
      refine k p _ hp (same_new hp) ⟨_, _, _, upd_same, Int.mul_nonneg (Int.emod_nonneg _ (by decide +kernel)) (if01 _), Int.emod_nonneg _ (by decide), Int.emod_lt_of_pos _ (by decide), by decide, by decide⟩
    · fail "z go"
      refine rd_I (show CPowZ _ _ from ⟨by decide, by decide +kernel⟩) ?_
      fail "z go"
      refine rd_I (by decide +kernel) ?_
      fail "z go"
      intro p hp
      refine k p _ hp (same_new hp) ⟨_, _, _, upd_same, Int.mul_nonneg (Int.emod_nonneg _ (by decide +kernel)) (if01 _), Int.emod_nonneg _ (by decide), Int.emod_lt_of_pos _ (by decide), by decide, by decide⟩
/-! ### integers and kinds -/
abbrev s_is_integer : Stmt := (top 8)
abbrev N_is_integer : List Str := ["value"]
abbrev P_is_integer : List Str := ["value"]
theorem sc_is_integer : FnScope N_is_integer P_is_integer (defScope s_is_integer) := ⟨rfl, rfl, rfl, by decide +kernel, rfl, by decide +kernel, by decide +kernel⟩
abbrev s_Kind___init__ : Stmt := (inClass (top 16) 0)
abbrev N_Kind___init__ : List Str := ["self", "low", "high"]
abbrev P_Kind___init__ : List Str := ["self", "low", "high"]
theorem sc_Kind___init__ : FnScope N_Kind___init__ P_Kind___init__ (defScope s_Kind___init__) := ⟨rfl, rfl, rfl, by decide +kernel, rfl, by decide +kernel, by decide +kernel⟩

/-- a plain value: none, a bool, an int, a text, a list, a tuple, a dict -/
inductive Plain (H : Hp) : V → Prop where
  | non : Plain H .non
  | bl (b : Bool) : Plain H (.bl b)
  | int (i : Int) : Plain H (.int i)
  | str (x : Str) : Plain H (.str x)
  | lst {a : Addr} {xs : List V} (e : H a = some (.lst xs)) : Plain H (.ref a)
  | tup {a : Addr} {xs : List V} (e : H a = some (.tup xs)) : Plain H (.ref a)
  | dK {a : Addr} {kvs : List (Key × V)} (e : H a = some (.dK kvs)) : Plain H (.ref a)
def isI : V → Bool
  | .int _ => true
  | _ => false
/-- isinstance of a plain value and a built-in class -/
theorem rd_isi {K : PySem.W.Frag} {H : Hp} {Q : VK} {v : V} {t n : String} {b : Bool} (ty : TyX K H v (.type t)) (e : kitB t n = some b) (k : Q (.bl b) H) : rIsi K [v, .ty n] H Q :=
  ⟨v, .ty n, _, _, b, rfl, .ty n, ty, kit_ty e, k⟩
theorem rd_isiP {K : PySem.W.Frag} {H : Hp} {Q : VK} {v : V} (p : Plain H v) (k1 : ∀ b : Bool, (b = true → isI v = true ∨ ∃ c, v = .bl c) → (isI v = true → b = true) → (∀ c, v = .bl c → b = true) → Q (.bl b) H) : rIsi K [v, .ty "int"] H Q := by
  cases p with
  | non => exact rd_isi (.base .non) (by decide +kernel) (k1 false (fun z => nomatch z) (fun z => nomatch z) fun c z => nomatch z)
  | bl b => exact rd_isi (.base (.bl b)) (by decide +kernel) (k1 true (fun _ => .inr ⟨b, rfl⟩) (fun _ => rfl) fun _ _ => rfl)
  | int i => exact rd_isi (.base (.int i)) (by decide +kernel) (k1 true (fun _ => .inl rfl) (fun _ => rfl) fun _ _ => rfl)
  | str x => exact rd_isi (.base (.str x)) (by decide +kernel) (k1 false (fun z => nomatch z) (fun z => nomatch z) fun c z => nomatch z)
  | lst e => exact rd_isi (.base (.lst e)) (by decide +kernel) (k1 false (fun z => nomatch z) (fun z => nomatch z) fun c z => nomatch z)
  | tup e => exact rd_isi (.base (.tup e)) (by decide +kernel) (k1 false (fun z => nomatch z) (fun z => nomatch z) fun c z => nomatch z)
  | dK e => exact rd_isi (.base (.dK e)) (by decide +kernel) (k1 false (fun z => nomatch z) (fun z => nomatch z) fun c z => nomatch z)
theorem rd_isiB {K : PySem.W.Frag} {H : Hp} {Q : VK} {v : V} (p : Plain H v) (k1 : ∀ b : Bool, (b = true ↔ ∃ c, v = .bl c) → Q (.bl b) H) : rIsi K [v, .ty "bool"] H Q := by
  cases p with
  | non => exact rd_isi (.base .non) (by decide +kernel) (k1 false ⟨fun z => Bool.noConfusion z, fun ⟨c, z⟩ => V.noConfusion z⟩)
  | bl b => exact rd_isi (.base (.bl b)) (by decide +kernel) (k1 true ⟨fun _ => ⟨b, rfl⟩, fun _ => rfl⟩)
  | int i => exact rd_isi (.base (.int i)) (by decide +kernel) (k1 false ⟨fun z => Bool.noConfusion z, fun ⟨c, z⟩ => V.noConfusion z⟩)
  | str x => exact rd_isi (.base (.str x)) (by decide +kernel) (k1 false ⟨fun z => Bool.noConfusion z, fun ⟨c, z⟩ => V.noConfusion z⟩)
  | lst e => exact rd_isi (.base (.lst e)) (by decide +kernel) (k1 false ⟨fun z => Bool.noConfusion z, fun ⟨c, z⟩ => V.noConfusion z⟩)
  | tup e => exact rd_isi (.base (.tup e)) (by decide +kernel) (k1 false ⟨fun z => Bool.noConfusion z, fun ⟨c, z⟩ => V.noConfusion z⟩)
  | dK e => exact rd_isi (.base (.dK e)) (by decide +kernel) (k1 false ⟨fun z => Bool.noConfusion z, fun ⟨c, z⟩ => V.noConfusion z⟩)
def spIsInt : Sp := fun vs H Q _ => ∃ v, vs = [v] ∧ Plain H v ∧ Q (.bl (isI v)) H
theorem ok_is_integer {f : Addr} {fd : FuncData} (F : Fun K "is_integer" "is_integer" s_is_integer f fd) (T : Txt mg) : FnOk P w K mg base CX0 1 f fd P_is_integer spIsInt := by
  refine F.ok sc_is_integer (fun vs H Q E h => ?_) (fun cdv A outer s H vs Q E hr h => ?_)
  · obtain ⟨v, rfl, _⟩ := h
    rfl
  · obtain ⟨v, rfl, p, k⟩ := h
    refine ⟨_, (pss_one (ps_ret (pe_and (pe_callB call_isi (by rfl) T.n_isinstance (by decide +kernel) (pa_cons (pv 0) (pa_cons (pe_bltn (v := .ty "int") (by rfl) T.n_int (by decide +kernel) rfl) pa_nil))) (pe_one (pe_not (pe_callB call_isi (by rfl) T.n_isinstance (by decide +kernel) (pa_cons (pv 0) (pa_cons (pe_bltn (v := .ty "bool") (by rfl) T.n_bool (by decide +kernel) rfl) pa_nil)))))))), ?_⟩
    fail "z go"
    refine rd_isiP p fun b h1 h2 h3 => ?_
    fail "z go"
    refine rd_iteB (fun hb => ?_) (fun hb => ?_)
    · fail "z go"
      refine rd_isiB p fun c hc => ?_
      fail "z go"
      show Q (.bl (!c)) H
      have e : (!c) = isI v := by
        rcases h1 hb with z | z
        · rw [z]
          cases c with
          | false => rfl
          | true =>
            obtain ⟨d, rfl⟩ := hc.mp rfl
            cases z
        · rw [hc.mpr z]
          obtain ⟨d, rfl⟩ := z
          rfl
      rw [e]
      exact k
    · show Q (.bl false) H
      have e : isI v = false := by
        cases q : isI v with
        | false => rfl
        | true =>
          rw [h2 q] at hb
          cases hb
      rw [← e]
      exact k
/-- the fields of a kind -/
def kf (lo hi : Int) : List (Str × V) := putF "size" (.int (hi - lo + 1)) (putF "high" (.int hi) (putF "low" (.int lo) []))
theorem kf_low (lo hi : Int) : (kf lo hi).lookup ("low" : Str) = some (.int lo) := by
  unfold kf
  rw [lookup_putF, if_neg (by decide +kernel), lookup_putF, if_neg (by decide +kernel), lookup_putF, if_pos rfl]
theorem kf_high (lo hi : Int) : (kf lo hi).lookup ("high" : Str) = some (.int hi) := by
  unfold kf
  rw [lookup_putF, if_neg (by decide +kernel), lookup_putF, if_pos rfl]
theorem kf_size (lo hi : Int) : (kf lo hi).lookup ("size" : Str) = some (.int (hi - lo + 1)) := by
  unfold kf
  rw [lookup_putF, if_pos rfl]
structure KindT (K : PySem.W.Frag) (C : Addr) : Prop where
  cl : Cls K C
  n_low : NoAttr K C "low"
  n_high : NoAttr K C "high"
  n_size : NoAttr K C "size"
def IsKind (C : Addr) (H : Hp) (a : Addr) (lo hi : Int) : Prop := ∃ dx, H a = some (.ins C dx (kf lo hi))
theorem IsKind.same {C a : Addr} {H H' : Hp} {lo hi : Int} (h : IsKind C H a lo hi) (s : Same H H') : IsKind C H' a lo hi := by
  obtain ⟨dx, e⟩ := h
  exact ⟨dx, s _ _ e⟩
def spKind (C : Addr) : Sp := fun vs H Q _ => ∃ (p dx : Addr) (lo hi : Int), vs = [.ref p, .int lo, .int hi] ∧ lo ≤ 0 ∧ 0 ≤ hi ∧ H p = some (.ins C dx []) ∧
  ∀ H' : Hp, Kp p H H' → H' p = some (.ins C dx (kf lo hi)) → Q .non H'
def CalK (P : Program) (w : World) (K : PySem.W.Frag) (mg : Str → Option Value) (base : Heap) (C : Addr) : Prop :=
  ∃ (f : Addr) (fd : FuncData), Mk K C f ∧ FnOk P w K mg base CX0 2 f fd P_Kind___init__ (spKind C) ∧ Binds K fd P_Kind___init__ [] ∧ mg "Kind" = some (.ref C)
theorem ok_Kind {f C : Addr} {fd : FuncData} (F : Fun K "__init__" "Kind.__init__" s_Kind___init__ f fd) (KT : KindT K C) (c_is : Cal P w K mg base 1 "is_integer" P_is_integer spIsInt) :
    FnOk P w K mg base CX0 2 f fd P_Kind___init__ (spKind C) := by
  obtain ⟨f_is, fd_is, G_is_integer, b_is_integer, g_is_integer, k_is_integer⟩ := c_is
  refine F.ok sc_Kind___init__ (fun vs H Q E h => ?_) (fun cdv A outer s H vs Q E hr h => ?_)
  · obtain ⟨p, dx, lo, hi, rfl, _⟩ := h
    rfl
  · obtain ⟨p, dx, lo, hi, rfl, h1, h2, hp, k⟩ := h
    refine ⟨_, (pss_cons (ps_if (PW.pt (pw_or (pt_not (pt_val (pe_call G_is_integer (hr.mono (by decide)) rfl g_is_integer k_is_integer b_is_integer .nil pass0 (pa_cons (pv 1) pa_nil)))) (pw_or (pt_not (pt_val (pe_call G_is_integer (hr.mono (by decide)) rfl g_is_integer k_is_integer b_is_integer .nil pass0 (pa_cons (pv 2) pa_nil)))) (pw_or1 (pt_not (pt_chain op_le op_le (pv 1) pe_int (pv 2))))))) (pss_one ps_never) pss_nil)
      (pss_cons (ps_fld (pv 0) (pv 1) rfl)
      (pss_cons (ps_fld (pv 0) (pv 2) rfl)
      (pss_one (ps_fld (pv 0) (pe_op op_add (pe_op op_sub (pv 2) (pv 1)) pe_int) rfl))))), ?_⟩
    fail "z go"
    refine ⟨_, rfl, .int lo, ?_⟩
    fail "z go"
    refine iteF ?_
    fail "z go"
    refine ⟨_, rfl, .int hi, ?_⟩
    fail "z go"
    refine iteF ?_
    fail "z go"
    rw [decide_eq_true h1]
    refine iteT ?_
    fail "z go"
    rw [decide_eq_true h2]
    refine iteF ?_
    fail "z go"
    refine rd_sfldI hp KT.cl KT.n_low (by decide) ?_
    fail "z go"
    have l1 := length_putF "low" (.int lo) []
    refine rd_sfldI upd_same KT.cl KT.n_high (by show _ < 1000; simp only [List.length_nil] at l1; omega) ?_
    fail "z go"
    have l2 := length_putF "high" (.int hi) (putF "low" (.int lo) [])
    refine rd_sfldI upd_same KT.cl KT.n_size (by show _ < 1000; simp only [List.length_nil] at l1; omega) ?_
    exact k _ Kp.refl.put.put.put upd_same
/-- Kind(low, high) where it is called: a new kind, all else as it was -/
theorem rd_Kind {C : Addr} {H : Hp} {E : XK} {lo hi : Int} {R : Addr → Hp → Prop} (h1 : lo ≤ 0) (h2 : 0 ≤ hi) (k : ∀ (a : Addr) (H' : Hp), H a = none → Same H H' → IsKind C H' a lo hi → R a H') :
    ∀ x dx, H x = none → H dx = none → dx ≠ x → spKind C (.ref x :: ([V.int lo, V.int hi] ++ [])) (upd (upd H dx (.own x)) x (.ins C dx [])) (fun v H2 => v = .non ∧ R x H2) E := by
  intro x dx nx nd ne
  refine ⟨x, dx, lo, hi, rfl, h1, h2, upd_same, fun H' kp hx => ⟨rfl, k x H' nx (fun b o e => ?_) ⟨dx, hx⟩⟩⟩
  have n1 : b ≠ x := ne_of_none e nx
  exact kp b o n1 ((upd_ne n1).trans ((upd_ne (ne_of_none e nd)).trans e))
end
/-! ### small data, its text -/
structure Sm (k n : Nat) (d : PyData) : Prop where
  sh : d.showable = true
  nd : d.hasDict = false
  cl : d.canLay0 = true
  ls : d.leavesShort 250 = true
  wt : d.weight ≤ n
  dp : d.depth ≤ k
structure SmAll (k n : Nat) (ds : List PyData) : Prop where
  sh : PyData.showableAll ds = true
  nd : PyData.hasDictAll ds = false
  cl : PyData.canLayAll0 ds = true
  ls : PyData.leavesShortAll 250 ds = true
  wt : PyData.weightAll ds ≤ n
  dp : PyData.depthAll ds ≤ k
theorem sm_none {k : Nat} : Sm k 0 .none := ⟨by simp [PyData.showable], by simp [PyData.hasDict], by simp [PyData.canLay0], by simp [PyData.leavesShort], by simp [PyData.weight], by simp [PyData.depth]⟩
theorem sm_bool {k : Nat} (b : Bool) : Sm k 0 (.bool b) := ⟨by simp [PyData.showable], by simp [PyData.hasDict], by simp [PyData.canLay0], by simp [PyData.leavesShort], by simp [PyData.weight], by simp [PyData.depth]⟩
theorem log_of {i : Int} (h1 : -(2 ^ 200) < i) (h2 : i < 2 ^ 200) : i.natAbs.log2 < 200 := PySem.Flt.log2_lt_of (by decide) (by omega)
theorem sm_int {k : Nat} {i : Int} (h1 : -(2 ^ 200) < i) (h2 : i < 2 ^ 200) : Sm k 201 (.int i) := by
  have l := log_of h1 h2
  have t := int_text_length_le (k := 200) (by decide) l
  refine ⟨by simp only [PyData.showable, decide_eq_true_eq]; omega, by simp [PyData.hasDict], by simp [PyData.canLay0], ?_, ?_, by simp [PyData.depth]⟩
  · simp only [PyData.leavesShort, decide_eq_true_eq]
    show (Str.ofString (toString i)).length ≤ 250
    rw [PySem.ofString_length]
    omega
  · simp only [PyData.weight]
    split <;> omega
theorem sm_nil {k : Nat} : SmAll k 0 [] := ⟨by simp [PyData.showableAll], by simp [PyData.hasDictAll], by simp [PyData.canLayAll0], by simp [PyData.leavesShortAll], by simp [PyData.weightAll], by simp [PyData.depthAll]⟩
theorem sm_cons {k a b : Nat} {d : PyData} {ds : List PyData} (h : Sm k a d) (t : SmAll k b ds) : SmAll k (a + 1 + b) (d :: ds) := by
  refine ⟨by simp [PyData.showableAll, h.sh, t.sh], by simp [PyData.hasDictAll, h.nd, t.nd], by simp [PyData.canLayAll0, h.cl, t.cl], by simp [PyData.leavesShortAll, h.ls, t.ls], ?_, ?_⟩
  · have := h.wt
    have := t.wt
    simp only [PyData.weightAll]
    omega
  · have := h.dp
    have := t.dp
    simp only [PyData.depthAll]
    omega
theorem sm_list {k n : Nat} {ds : List PyData} (t : SmAll k n ds) : Sm (k + 1) n (.list ds) :=
  ⟨by simp [PyData.showable, t.sh], by simp [PyData.hasDict, t.nd], by simp [PyData.canLay0, t.cl], by simp [PyData.leavesShort, t.ls], by simp [PyData.weight, t.wt], by have := t.dp; simp only [PyData.depth]; omega⟩
theorem sm_tup {k n : Nat} {ds : List PyData} (t : SmAll k n ds) : Sm (k + 1) n (.tuple ds) :=
  ⟨by simp [PyData.showable, t.sh], by simp [PyData.hasDict, t.nd], by simp [PyData.canLay0, t.cl], by simp [PyData.leavesShort, t.ls], by simp [PyData.weight, t.wt], by have := t.dp; simp only [PyData.depth]; omega⟩
theorem Sm.text {k n : Nat} {d : PyData} (h : Sm k n d) (hn : n ≤ 50000) : d.shown.length ≤ sizeLine := by
  have e := PyData.shown_le 250 (by decide) d h.ls
  have w := h.wt
  rw [sizeLine_eq]
  omega
theorem Sm.shaped {k n : Nat} {d : PyData} (h : Sm k n d) (hk : k ≤ 60) : SeqAt.shaped d = true := by
  have := h.dp
  unfold SeqAt.shaped
  rw [h.cl, Bool.true_and]
  exact decide_eq_true (by omega)
theorem rd_repr {K : PySem.W.Frag} {H : Hp} {Q : VK} {v : V} {d : PyData} {k n : Nat} (h : Dp K H v d) (s : Sm k n d) (hk : k ≤ 60) (hn : n ≤ 50000) (q : Q (.str d.shown) H) : rReprD K [v] H Q := by
  refine ⟨v, d, rfl, h, s.sh, s.nd, by have := s.dp; omega, s.text hn, fun i e => ?_, q⟩
  subst e
  cases h
  have z := s.sh
  simp only [PyData.showable, decide_eq_true_eq] at z
  exact z
theorem rd_neD {K : PySem.W.Frag} {H : Hp} {Q : VK} {x y : V} {d e : PyData} {k n k' n' : Nat} (h : Dp K H x d) (h' : Dp K H y e) (s : Sm k n d) (s' : Sm k' n' e) (hk : k ≤ 60) (hk' : k' ≤ 60) (q : Q (.bl (!PyData.eqv d e)) H) : rNeD K x y H Q :=
  ⟨d, e, h, h', s.shaped hk, s'.shaped hk', q⟩
theorem rd_eqD {K : PySem.W.Frag} {H : Hp} {Q : VK} {x y : V} {d e : PyData} {k n k' n' : Nat} (h : Dp K H x d) (h' : Dp K H y e) (s : Sm k n d) (s' : Sm k' n' e) (hk : k ≤ 60) (hk' : k' ≤ 60) (q : Q (.bl (PyData.eqv d e)) H) : rEqD K x y H Q :=
  ⟨d, e, h, h', s.shaped hk, s'.shaped hk', q⟩
theorem Sm.up {k n k' n' : Nat} {d : PyData} (h : Sm k n d) (hk : k ≤ k') (hn : n ≤ n') : Sm k' n' d := ⟨h.sh, h.nd, h.cl, h.ls, Nat.le_trans h.wt hn, Nat.le_trans h.dp hk⟩
section
variable {P : Program} {w : World} {K : PySem.W.Frag} {mg : Str → Option Value} {base : Heap}
/-! ### the comparisons of kinds, their meet and join -/
abbrev s_lesser : Stmt := (top 10)
abbrev N_lesser : List Str := ["one", "other"]
abbrev P_lesser : List Str := ["one", "other"]
theorem sc_lesser : FnScope N_lesser P_lesser (defScope s_lesser) := ⟨rfl, rfl, rfl, by decide +kernel, rfl, by decide +kernel, by decide +kernel⟩
abbrev s_greater : Stmt := (top 11)
abbrev N_greater : List Str := ["one", "other"]
abbrev P_greater : List Str := ["one", "other"]
theorem sc_greater : FnScope N_greater P_greater (defScope s_greater) := ⟨rfl, rfl, rfl, by decide +kernel, rfl, by decide +kernel, by decide +kernel⟩
abbrev s_Kind___eq__ : Stmt := (inClass (top 16) 7)
abbrev N_Kind___eq__ : List Str := ["self", "other"]
abbrev P_Kind___eq__ : List Str := ["self", "other"]
theorem sc_Kind___eq__ : FnScope N_Kind___eq__ P_Kind___eq__ (defScope s_Kind___eq__) := ⟨rfl, rfl, rfl, by decide +kernel, rfl, by decide +kernel, by decide +kernel⟩
abbrev s_Kind___le__ : Stmt := (inClass (top 16) 8)
abbrev N_Kind___le__ : List Str := ["self", "other"]
abbrev P_Kind___le__ : List Str := ["self", "other"]
theorem sc_Kind___le__ : FnScope N_Kind___le__ P_Kind___le__ (defScope s_Kind___le__) := ⟨rfl, rfl, rfl, by decide +kernel, rfl, by decide +kernel, by decide +kernel⟩
abbrev s_Kind___lt__ : Stmt := (inClass (top 16) 9)
abbrev N_Kind___lt__ : List Str := ["self", "other"]
abbrev P_Kind___lt__ : List Str := ["self", "other"]
theorem sc_Kind___lt__ : FnScope N_Kind___lt__ P_Kind___lt__ (defScope s_Kind___lt__) := ⟨rfl, rfl, rfl, by decide +kernel, rfl, by decide +kernel, by decide +kernel⟩
abbrev s_Kind___ge__ : Stmt := (inClass (top 16) 10)
abbrev N_Kind___ge__ : List Str := ["self", "other"]
abbrev P_Kind___ge__ : List Str := ["self", "other"]
theorem sc_Kind___ge__ : FnScope N_Kind___ge__ P_Kind___ge__ (defScope s_Kind___ge__) := ⟨rfl, rfl, rfl, by decide +kernel, rfl, by decide +kernel, by decide +kernel⟩
abbrev s_Kind___gt__ : Stmt := (inClass (top 16) 11)
abbrev N_Kind___gt__ : List Str := ["self", "other"]
abbrev P_Kind___gt__ : List Str := ["self", "other"]
theorem sc_Kind___gt__ : FnScope N_Kind___gt__ P_Kind___gt__ (defScope s_Kind___gt__) := ⟨rfl, rfl, rfl, by decide +kernel, rfl, by decide +kernel, by decide +kernel⟩
abbrev s_Kind___and__ : Stmt := (inClass (top 16) 12)
abbrev N_Kind___and__ : List Str := ["self", "other"]
abbrev P_Kind___and__ : List Str := ["self", "other"]
theorem sc_Kind___and__ : FnScope N_Kind___and__ P_Kind___and__ (defScope s_Kind___and__) := ⟨rfl, rfl, rfl, by decide +kernel, rfl, by decide +kernel, by decide +kernel⟩
abbrev s_Kind___or__ : Stmt := (inClass (top 16) 13)
abbrev N_Kind___or__ : List Str := ["self", "other"]
abbrev P_Kind___or__ : List Str := ["self", "other"]
theorem sc_Kind___or__ : FnScope N_Kind___or__ P_Kind___or__ (defScope s_Kind___or__) := ⟨rfl, rfl, rfl, by decide +kernel, rfl, by decide +kernel, by decide +kernel⟩

structure KindO (K : PySem.W.Frag) (C : Addr) : Prop where
  ic : C8.InsC K C
  sf : PySem.W.selfFirst K C = true
  ne : PySem.W.findIn K (.ref C) "__ne__" = some (some (.builtin "object.__ne__"))
theorem lt_units {n : Nat} (h : n + 64 < cLine) : n + 1 < cLine := by omega
theorem rd_isOwn {K : PySem.W.Frag} {H : Hp} {Q : VK} {C a : Addr} {lo hi : Int} (o : KindO K C) (h : IsKind C H a lo hi) (k : Q (.bl true) H) : rIsi K [.ref a, .ref C] H Q := by
  obtain ⟨dx, e⟩ := h
  exact ⟨.ref a, .ref C, _, _, true, rfl, .own C, .base (.ins e o.ic.cl o.ic.ha o.ic.hn o.ic.htk o.ic.hm), o.ic.me, k⟩
theorem rd_own {C a b : Addr} {sp : Sp} {E : XK} {H : Hp} {Q : VK} {lo hi lo2 hi2 : Int} (h : IsKind C H a lo hi) (h2 : IsKind C H b lo2 hi2) (k : sp [.ref a, .ref b] H Q E) : rOwnI C sp E (.ref a) (.ref b) H Q := by
  obtain ⟨dx, e⟩ := h
  obtain ⟨dy, e2⟩ := h2
  exact ⟨a, dx, _, b, dy, _, rfl, rfl, e, e2, k⟩
theorem rd_ownNe {C a b : Addr} {sp : Sp} {E : XK} {H : Hp} {Q : VK} {lo hi lo2 hi2 : Int} (h : IsKind C H a lo hi) (h2 : IsKind C H b lo2 hi2) (k : sp [.ref a, .ref b] H (fun z H' => ∃ c, z = .bl c ∧ Q (.bl (!c)) H') E) : rNeI C sp E (.ref a) (.ref b) H Q := by
  obtain ⟨dx, e⟩ := h
  obtain ⟨dy, e2⟩ := h2
  exact ⟨a, dx, _, b, dy, _, rfl, rfl, e, e2, k⟩
theorem rd_both {c d : Bool} {σ : L2.St} {H : Hp} {Q : VK} {tb : TE} (h : ∀ Q' : VK, Q' (.bl d) H → tb σ H Q') (k : Q (.bl (c && d)) H) : if c = true then tb σ H Q else Q (.bl false) H := by
  cases c with
  | true => exact iteT (h Q k)
  | false => exact iteF k
theorem dec_int {a b : Int} : decide (V.int a = V.int b) = decide (a = b) := by
  by_cases q : a = b
  · rw [q]
    simp
  · rw [decide_eq_false q, decide_eq_false fun z => q (V.int.inj z)]
def CalN (P : Program) (w : World) (K : PySem.W.Frag) (mg : Str → Option Value) (base : Heap) (C : Addr) (k : Nat) (m : Str) (ps : List Str) (sp : Sp) : Prop :=
  ∃ (f : Addr) (fd : FuncData), Meth K C m f ∧ FnOk P w K mg base CX0 k f fd ps sp ∧ Binds K fd ps []
def leB (a b c d : Int) : Bool := decide (c ≤ a) && decide (b ≤ d)
def eqB (a b c d : Int) : Bool := decide (a = c) && decide (b = d)
def spCmp (C : Addr) (R : Int → Int → Int → Int → Bool) : Sp := fun vs H Q _ => ∃ (p q : Addr) (a b c d : Int), vs = [.ref p, .ref q] ∧ IsKind C H p a b ∧ IsKind C H q c d ∧ Q (.bl (R a b c d)) H
def spMin : Sp := fun vs H Q _ => ∃ a b : Int, vs = [.int a, .int b] ∧ Q (.int (if a ≤ b then a else b)) H
def spMax : Sp := fun vs H Q _ => ∃ a b : Int, vs = [.int a, .int b] ∧ Q (.int (if a ≥ b then a else b)) H
theorem ok_lesser {f : Addr} {fd : FuncData} (F : Fun K "lesser" "lesser" s_lesser f fd) : FnOk P w K mg base CX0 1 f fd P_lesser spMin := by
  refine F.ok sc_lesser (fun vs H Q E h => ?_) (fun cdv A outer s H vs Q E hr h => ?_)
  · obtain ⟨a, b, rfl, _⟩ := h
    rfl
  · obtain ⟨a, b, rfl, k⟩ := h
    refine ⟨_, (pss_one (ps_ret (pe_ifExp (pt_cmpR op_le (pv 0) (pv 1) (nomark _)) (pv 0) (pv 1)))), ?_⟩
    fail "z run"
    refine rd_ite (fun c => ?_) (fun c => ?_)
    · fail "z run"
      rw [if_pos c] at k
      exact k
    · fail "z run"
      rw [if_neg c] at k
      exact k
theorem ok_greater {f : Addr} {fd : FuncData} (F : Fun K "greater" "greater" s_greater f fd) : FnOk P w K mg base CX0 1 f fd P_greater spMax := by
  refine F.ok sc_greater (fun vs H Q E h => ?_) (fun cdv A outer s H vs Q E hr h => ?_)
  · obtain ⟨a, b, rfl, _⟩ := h
    rfl
  · obtain ⟨a, b, rfl, k⟩ := h
    refine ⟨_, (pss_one (ps_ret (pe_ifExp (pt_cmpR op_ge (pv 0) (pv 1) (nomark _)) (pv 0) (pv 1)))), ?_⟩
    fail "z run"
    refine rd_ite (fun c => ?_) (fun c => ?_)
    · fail "z run"
      rw [if_pos c] at k
      exact k
    · fail "z run"
      rw [if_neg c] at k
      exact k
theorem ok_eq {f C : Addr} {fd : FuncData} (F : Fun K "__eq__" "Kind.__eq__" s_Kind___eq__ f fd) (T : Txt mg) (KT : KindT K C) (KO : KindO K C) (g_Kind : mg "Kind" = some (.ref C)) : FnOk P w K mg base CX0 1 f fd P_Kind___eq__ (spCmp C eqB) := by
  refine F.ok sc_Kind___eq__ (fun vs H Q E h => ?_) (fun cdv A outer s H vs Q E hr h => ?_)
  · obtain ⟨p, q, a, b, c, d, rfl, _⟩ := h
    rfl
  · obtain ⟨p, q, a, b, c, d, rfl, hp, hq, k⟩ := h
    obtain ⟨dx, ep⟩ := id hp
    obtain ⟨dy, eq⟩ := id hq
    refine ⟨_, (pss_one (ps_ret (pe_and (pe_callB call_isi (by rfl) T.n_isinstance (by decide +kernel) (pa_cons (pv 1) (pa_cons (pe_glob (v := .ref C) rfl g_Kind rfl) pa_nil))) (pe_and (pe_cmpR op_eq (pe_fld (pv 0) rfl) (pe_fld (pv 1) rfl) (nomark _)) (pe_one (pe_cmpR op_eq (pe_fld (pv 0) rfl) (pe_fld (pv 1) rfl) (nomark _))))))), ?_⟩
    fail "z run"
    refine rd_isOwn KO hq ?_
    fail "z run"
    refine ⟨_, _, _, _, _, rfl, ep, KT.cl, KT.n_low, kf_low _ _, ?_⟩
    fail "z run"
    refine ⟨_, _, _, _, _, rfl, eq, KT.cl, KT.n_low, kf_low _ _, ?_⟩
    fail "z run"
    refine rd_both (d := decide (b = d)) (fun Q' k' => ?_) ?_
    · fail "z run"
      refine ⟨_, _, _, _, _, rfl, ep, KT.cl, KT.n_high, kf_high _ _, ?_⟩
      fail "z run"
      refine ⟨_, _, _, _, _, rfl, eq, KT.cl, KT.n_high, kf_high _ _, ?_⟩
      fail "z run"
      rw [dec_int]
      exact k'
    · rw [dec_int]
      exact k
theorem ok_le {f C : Addr} {fd : FuncData} (F : Fun K "__le__" "Kind.__le__" s_Kind___le__ f fd) (T : Txt mg) (KT : KindT K C) (KO : KindO K C) (g_Kind : mg "Kind" = some (.ref C)) : FnOk P w K mg base CX0 1 f fd P_Kind___le__ (spCmp C leB) := by
  refine F.ok sc_Kind___le__ (fun vs H Q E h => ?_) (fun cdv A outer s H vs Q E hr h => ?_)
  · obtain ⟨p, q, a, b, c, d, rfl, _⟩ := h
    rfl
  · obtain ⟨p, q, a, b, c, d, rfl, hp, hq, k⟩ := h
    obtain ⟨dx, ep⟩ := id hp
    obtain ⟨dy, eq⟩ := id hq
    refine ⟨_, (pss_cons (ps_if (pt_not (pt_val (pe_callB call_isi (by rfl) T.n_isinstance (by decide +kernel) (pa_cons (pv 1) (pa_cons (pe_glob (v := .ref C) rfl g_Kind rfl) pa_nil))))) (pss_one ps_never) pss_nil)
      (pss_one (ps_ret (pe_and (pe_cmpR op_le (pe_fld (pv 1) rfl) (pe_fld (pv 0) rfl) (nomark _)) (pe_one (pe_cmpR op_le (pe_fld (pv 0) rfl) (pe_fld (pv 1) rfl) (nomark _))))))), ?_⟩
    fail "z run"
    refine rd_isOwn KO hq ?_
    fail "z run"
    refine iteF ?_
    fail "z run"
    refine ⟨_, _, _, _, _, rfl, eq, KT.cl, KT.n_low, kf_low _ _, ?_⟩
    fail "z run"
    refine ⟨_, _, _, _, _, rfl, ep, KT.cl, KT.n_low, kf_low _ _, ?_⟩
    fail "z run"
    refine rd_both (d := decide (b ≤ d)) (fun Q' k' => ?_) k
    fail "z run"
    refine ⟨_, _, _, _, _, rfl, ep, KT.cl, KT.n_high, kf_high _ _, ?_⟩
    fail "z run"
    refine ⟨_, _, _, _, _, rfl, eq, KT.cl, KT.n_high, kf_high _ _, ?_⟩
    fail "z run"
    exact k'
def ltB (a b c d : Int) : Bool := leB a b c d && !eqB a b c d
theorem ok_lt {f C : Addr} {fd : FuncData} (F : Fun K "__lt__" "Kind.__lt__" s_Kind___lt__ f fd) (T : Txt mg) (KT : KindT K C) (KO : KindO K C) (g_Kind : mg "Kind" = some (.ref C)) (c_le : CalN P w K mg base C 1 "__le__" P_Kind___le__ (spCmp C leB))
    (c_eq : CalN P w K mg base C 1 "__eq__" P_Kind___eq__ (spCmp C eqB)) : FnOk P w K mg base CX0 2 f fd P_Kind___lt__ (spCmp C ltB) := by
  obtain ⟨f_le, fd_le, o___le__, G_Kind___le__, b_Kind___le__⟩ := c_le
  obtain ⟨f_eq, fd_eq, o___eq__, G_Kind___eq__, b_Kind___eq__⟩ := c_eq
  refine F.ok sc_Kind___lt__ (fun vs H Q E h => ?_) (fun cdv A outer s H vs Q E hr h => ?_)
  · obtain ⟨p, q, a, b, c, d, rfl, _⟩ := h
    rfl
  · obtain ⟨p, q, a, b, c, d, rfl, hp, hq, k⟩ := h
    refine ⟨_, (pss_cons (ps_if (pt_not (pt_val (pe_callB call_isi (by rfl) T.n_isinstance (by decide +kernel) (pa_cons (pv 1) (pa_cons (pe_glob (v := .ref C) rfl g_Kind rfl) pa_nil))))) (pss_one ps_never) pss_nil)
      (pss_one (ps_ret (pe_and (pe_cmpR (op_cmpI (fun _ _ => rfl) o___le__.at_ o___le__.fn G_Kind___le__ (hr.mono (by decide)) b_Kind___le__ pass0) (pv 0) (pv 1) (nomark _)) (pe_one (pe_not (pe_cmpR (op_cmpI (fun _ _ => rfl) o___eq__.at_ o___eq__.fn G_Kind___eq__ (hr.mono (by decide)) b_Kind___eq__ pass0) (pv 0) (pv 1) (nomark _)))))))), ?_⟩
    fail "z run"
    refine rd_isOwn KO hq ?_
    fail "z run"
    refine iteF ?_
    fail "z run"
    refine rd_own hp hq ⟨p, q, a, b, c, d, rfl, hp, hq, ?_⟩
    fail "z run"
    refine rd_both (d := !eqB a b c d) (fun Q' k' => ?_) k
    fail "z run"
    refine rd_own hp hq ⟨p, q, a, b, c, d, rfl, hp, hq, ?_⟩
    fail "z run"
    exact k'
def geB (a b c d : Int) : Bool := leB c d a b
def gtB (a b c d : Int) : Bool := ltB c d a b
theorem ok_ge {f C : Addr} {fd : FuncData} (F : Fun K "__ge__" "Kind.__ge__" s_Kind___ge__ f fd) (T : Txt mg) (KT : KindT K C) (KO : KindO K C) (g_Kind : mg "Kind" = some (.ref C)) (c_le : CalN P w K mg base C 1 "__le__" P_Kind___le__ (spCmp C leB)) :
    FnOk P w K mg base CX0 2 f fd P_Kind___ge__ (spCmp C geB) := by
  obtain ⟨f_le, fd_le, o___le__, G_Kind___le__, b_Kind___le__⟩ := c_le
  refine F.ok sc_Kind___ge__ (fun vs H Q E h => ?_) (fun cdv A outer s H vs Q E hr h => ?_)
  · obtain ⟨p, q, a, b, c, d, rfl, _⟩ := h
    rfl
  · obtain ⟨p, q, a, b, c, d, rfl, hp, hq, k⟩ := h
    refine ⟨_, (pss_cons (ps_if (pt_not (pt_val (pe_callB call_isi (by rfl) T.n_isinstance (by decide +kernel) (pa_cons (pv 1) (pa_cons (pe_glob (v := .ref C) rfl g_Kind rfl) pa_nil))))) (pss_one ps_never) pss_nil)
      (pss_one (ps_ret (pe_cmpR (op_cmpI (fun _ _ => rfl) o___le__.at_ o___le__.fn G_Kind___le__ (hr.mono (by decide)) b_Kind___le__ pass0) (pv 1) (pv 0) (nomark _))))), ?_⟩
    fail "z run"
    refine rd_isOwn KO hq ?_
    fail "z run"
    refine iteF ?_
    fail "z run"
    exact rd_own hq hp ⟨q, p, c, d, a, b, rfl, hq, hp, k⟩
theorem ok_gt {f C : Addr} {fd : FuncData} (F : Fun K "__gt__" "Kind.__gt__" s_Kind___gt__ f fd) (T : Txt mg) (KT : KindT K C) (KO : KindO K C) (g_Kind : mg "Kind" = some (.ref C)) (c_lt : CalN P w K mg base C 2 "__lt__" P_Kind___lt__ (spCmp C ltB)) :
    FnOk P w K mg base CX0 3 f fd P_Kind___gt__ (spCmp C gtB) := by
  obtain ⟨f_lt, fd_lt, o___lt__, G_Kind___lt__, b_Kind___lt__⟩ := c_lt
  refine F.ok sc_Kind___gt__ (fun vs H Q E h => ?_) (fun cdv A outer s H vs Q E hr h => ?_)
  · obtain ⟨p, q, a, b, c, d, rfl, _⟩ := h
    rfl
  · obtain ⟨p, q, a, b, c, d, rfl, hp, hq, k⟩ := h
    refine ⟨_, (pss_cons (ps_if (pt_not (pt_val (pe_callB call_isi (by rfl) T.n_isinstance (by decide +kernel) (pa_cons (pv 1) (pa_cons (pe_glob (v := .ref C) rfl g_Kind rfl) pa_nil))))) (pss_one ps_never) pss_nil)
      (pss_one (ps_ret (pe_cmpR (op_cmpI (fun _ _ => rfl) o___lt__.at_ o___lt__.fn G_Kind___lt__ (hr.mono (by decide)) b_Kind___lt__ pass0) (pv 1) (pv 0) (nomark _))))), ?_⟩
    fail "z run"
    refine rd_isOwn KO hq ?_
    fail "z run"
    refine iteF ?_
    fail "z run"
    exact rd_own hq hp ⟨q, p, c, d, a, b, rfl, hq, hp, k⟩
def mn (a b : Int) : Int := if a ≤ b then a else b
def mx (a b : Int) : Int := if a ≥ b then a else b
def spMeet (C : Addr) (f g : Int → Int → Int) : Sp := fun vs H Q _ => ∃ (p q : Addr) (a b c d : Int), vs = [.ref p, .ref q] ∧ IsKind C H p a b ∧ IsKind C H q c d ∧ a ≤ 0 ∧ 0 ≤ b ∧ c ≤ 0 ∧ 0 ≤ d ∧ ∀ r H', Same H H' → IsKind C H' r (f a c) (g b d) → Q (.ref r) H'
theorem ok_and {f C : Addr} {fd : FuncData} (F : Fun K "__and__" "Kind.__and__" s_Kind___and__ f fd) (T : Txt mg) (KT : KindT K C) (KO : KindO K C) (c_kind : CalK P w K mg base C) (c_le : Cal P w K mg base 1 "lesser" P_lesser spMin) (c_gr : Cal P w K mg base 1 "greater" P_greater spMax) :
    FnOk P w K mg base CX0 4 f fd P_Kind___and__ (spMeet C mx mn) := by
  obtain ⟨f_kind, fd_kind, mk_Kind, G_Kind, b_Kind, g_Kind⟩ := c_kind
  obtain ⟨f_le, fd_le, G_lesser, b_lesser, g_lesser, k_lesser⟩ := c_le
  obtain ⟨f_gr, fd_gr, G_greater, b_greater, g_greater, k_greater⟩ := c_gr
  refine F.ok sc_Kind___and__ (fun vs H Q E h => ?_) (fun cdv A outer s H vs Q E hr h => ?_)
  · obtain ⟨p, q, a, b, c, d, rfl, _⟩ := h
    rfl
  · obtain ⟨p, q, a, b, c, d, rfl, hp, hq, h1, h2, h3, h4, k⟩ := h
    obtain ⟨dx, ep⟩ := id hp
    obtain ⟨dy, eq⟩ := id hq
    refine ⟨_, (pss_cons (ps_if (pt_not (pt_val (pe_callB call_isi (by rfl) T.n_isinstance (by decide +kernel) (pa_cons (pv 1) (pa_cons (pe_glob (v := .ref C) rfl g_Kind rfl) pa_nil))))) (pss_one ps_never) pss_nil)
      (pss_one (ps_ret (pe_make mk_Kind G_Kind (hr.mono (by decide)) rfl g_Kind b_Kind .nil pass0 (pa_cons (pe_call G_greater (hr.mono (by decide)) rfl g_greater k_greater b_greater .nil pass0 (pa_cons (pe_fld (pv 0) rfl) (pa_cons (pe_fld (pv 1) rfl) pa_nil))) (pa_cons (pe_call G_lesser (hr.mono (by decide)) rfl g_lesser k_lesser b_lesser .nil pass0 (pa_cons (pe_fld (pv 0) rfl) (pa_cons (pe_fld (pv 1) rfl) pa_nil))) pa_nil)))))), ?_⟩
    fail "z run"
    refine rd_isOwn KO hq ?_
    fail "z run"
    refine iteF ?_
    fail "z run"
    refine ⟨_, _, _, _, _, rfl, ep, KT.cl, KT.n_low, kf_low _ _, ?_⟩
    fail "z run"
    refine ⟨_, _, _, _, _, rfl, eq, KT.cl, KT.n_low, kf_low _ _, ?_⟩
    fail "z run"
    refine ⟨a, c, rfl, ?_⟩
    fail "z run"
    refine ⟨_, _, _, _, _, rfl, ep, KT.cl, KT.n_high, kf_high _ _, ?_⟩
    fail "z run"
    refine ⟨_, _, _, _, _, rfl, eq, KT.cl, KT.n_high, kf_high _ _, ?_⟩
    fail "z run"
    refine ⟨b, d, rfl, ?_⟩
    fail "z run"
    exact rd_Kind (lo := mx a c) (hi := mn b d) (by unfold mx; split <;> omega) (by unfold mn; split <;> omega) fun r H' _ S hk => k r H' S hk
theorem ok_or {f C : Addr} {fd : FuncData} (F : Fun K "__or__" "Kind.__or__" s_Kind___or__ f fd) (T : Txt mg) (KT : KindT K C) (KO : KindO K C) (c_kind : CalK P w K mg base C) (c_le : Cal P w K mg base 1 "lesser" P_lesser spMin) (c_gr : Cal P w K mg base 1 "greater" P_greater spMax) :
    FnOk P w K mg base CX0 4 f fd P_Kind___or__ (spMeet C mn mx) := by
  obtain ⟨f_kind, fd_kind, mk_Kind, G_Kind, b_Kind, g_Kind⟩ := c_kind
  obtain ⟨f_le, fd_le, G_lesser, b_lesser, g_lesser, k_lesser⟩ := c_le
  obtain ⟨f_gr, fd_gr, G_greater, b_greater, g_greater, k_greater⟩ := c_gr
  refine F.ok sc_Kind___or__ (fun vs H Q E h => ?_) (fun cdv A outer s H vs Q E hr h => ?_)
  · obtain ⟨p, q, a, b, c, d, rfl, _⟩ := h
    rfl
  · obtain ⟨p, q, a, b, c, d, rfl, hp, hq, h1, h2, h3, h4, k⟩ := h
    obtain ⟨dx, ep⟩ := id hp
    obtain ⟨dy, eq⟩ := id hq
    refine ⟨_, (pss_cons (ps_if (pt_not (pt_val (pe_callB call_isi (by rfl) T.n_isinstance (by decide +kernel) (pa_cons (pv 1) (pa_cons (pe_glob (v := .ref C) rfl g_Kind rfl) pa_nil))))) (pss_one ps_never) pss_nil)
      (pss_one (ps_ret (pe_make mk_Kind G_Kind (hr.mono (by decide)) rfl g_Kind b_Kind .nil pass0 (pa_cons (pe_call G_lesser (hr.mono (by decide)) rfl g_lesser k_lesser b_lesser .nil pass0 (pa_cons (pe_fld (pv 0) rfl) (pa_cons (pe_fld (pv 1) rfl) pa_nil))) (pa_cons (pe_call G_greater (hr.mono (by decide)) rfl g_greater k_greater b_greater .nil pass0 (pa_cons (pe_fld (pv 0) rfl) (pa_cons (pe_fld (pv 1) rfl) pa_nil))) pa_nil)))))), ?_⟩
    fail "z run"
    refine rd_isOwn KO hq ?_
    fail "z run"
    refine iteF ?_
    fail "z run"
    refine ⟨_, _, _, _, _, rfl, ep, KT.cl, KT.n_low, kf_low _ _, ?_⟩
    fail "z run"
    refine ⟨_, _, _, _, _, rfl, eq, KT.cl, KT.n_low, kf_low _ _, ?_⟩
    fail "z run"
    refine ⟨a, c, rfl, ?_⟩
    fail "z run"
    refine ⟨_, _, _, _, _, rfl, ep, KT.cl, KT.n_high, kf_high _ _, ?_⟩
    fail "z run"
    refine ⟨_, _, _, _, _, rfl, eq, KT.cl, KT.n_high, kf_high _ _, ?_⟩
    fail "z run"
    refine ⟨b, d, rfl, ?_⟩
    fail "z run"
    exact rd_Kind (lo := mn a c) (hi := mx b d) (by unfold mn; split <;> omega) (by unfold mx; split <;> omega) fun r H' _ S hk => k r H' S hk
end
section
variable {K : PySem.W.Frag} {H : Hp} {p : Addr}
theorem rd_for {wi : TI} {g : TG} {tb : TS} {D : Ends} {σ : L2.St} (k : wi σ H fun J H1 => ∃ W : Nat → Nat → L2.St → Hp → Prop, (∃ m, W 0 m σ H1) ∧ ∀ i m σ H, W i m σ H →
  (J.stop i H ∧ D.nx σ H) ∨ (J.go i H ∧ ∃ N : L2.St → Hp → Prop, (∀ σ' H', N σ' H' → ∃ m', m' < m ∧ W (i + 1) m' σ' H') ∧ ∀ x H', J.yld i H x H' → g x σ H' fun σ2 H2 => tb { D with nx := N, ct := N, bk := D.nx } σ2 H2)) : tFor wi g tb D σ H := k
theorem rd_iT {tl : TE} {σ : L2.St} {R : It → Hp → Prop} (k : tl σ H fun x H1 => ∃ a, x = .ref a ∧ (∃ xs, SqT K H1 a xs) ∧ R (Itt K a) H1) : iTup K tl σ H R := k
theorem rd_iL {tl : TE} {σ : L2.St} {R : It → Hp → Prop} (k : tl σ H fun x H1 => ∃ a, x = .ref a ∧ (∃ xs, SqL K H1 a xs) ∧ R (Itl K a) H1) : iList K tl σ H R := k
theorem rd_iTa {xs : List V} {R : Addr → Prop} (h : H p = some (.tup xs)) (k : R p) : ∃ a, V.ref p = .ref a ∧ (∃ xs, SqT K H a xs) ∧ R a := ⟨p, rfl, ⟨xs, SqT.of h⟩, k⟩
theorem rd_iLa {xs : List V} {R : Addr → Prop} (h : H p = some (.lst xs)) (k : R p) : ∃ a, V.ref p = .ref a ∧ (∃ xs, SqL K H a xs) ∧ R a := ⟨p, rfl, ⟨xs, SqL.of h⟩, k⟩
theorem rd_rng2 {tA : TA} {σ : L2.St} {R : It → Hp → Prop} (k : tA σ H fun vs H1 => ∃ i j : Int, vs = [.int i, .int j] ∧ (-(2 ^ 62) ≤ i ∧ i < 2 ^ 62 ∧ -(2 ^ 62) ≤ j ∧ j < 2 ^ 62) ∧ R (Itr i (j - i).toNat) H1) : iRng2 tA σ H R := k
theorem rd_rng1 {tA : TA} {σ : L2.St} {R : It → Hp → Prop} (k : tA σ H fun vs H1 => ∃ j : Int, vs = [.int j] ∧ -(2 ^ 62) ≤ j ∧ j < 2 ^ 62 ∧ R (Itr 0 j.toNat) H1) : iRng1 tA σ H R := k
theorem Pot.same {H H' : Hp} {p : Addr} {n : Nat} (h : Pot H p n) (s : Same H H') : Pot H' p n := by
  obtain ⟨x, z, c, a, b⟩ := h
  exact ⟨x, z, c, s _ _ a, b⟩
theorem rep_snoc {α : Type} (i : Nat) (x : α) : List.replicate i x ++ [x] = List.replicate (i + 1) x := by
  rw [List.replicate_succ']
theorem all_rep (i : Nat) : (List.replicate i true).all id = true := by
  induction i with
  | zero => rfl
  | succ n ih => rw [List.replicate_succ, List.all_cons, ih]; rfl
end
section
variable {P : Program} {w : World} {K : PySem.W.Frag} {mg : Str → Option Value} {base : Heap}
/-! ### k02: kinds drawn, a pair of them compared -/
abbrev s__law_kind : Stmt := (top 22)
abbrev N__law_kind : List Str := ["_law_pot", "_law_near"]
abbrev P__law_kind : List Str := ["_law_pot"]
theorem sc__law_kind : FnScope N__law_kind P__law_kind (defScope s__law_kind) := ⟨rfl, rfl, rfl, by decide +kernel, rfl, by decide +kernel, by decide +kernel⟩
abbrev s__law_pair_right : Stmt := (top 23)
abbrev N__law_pair_right : List Str := ["_law_one", "_law_other", "_law_kind_here", "_law_second", "_law_is_in", "_law_has", "_law_told", "_law_wanted", "_law_both", "_law_either", "_law_ends", "_law_low", "_law_high", "_law_far", "_law_top", "_law_due"]
abbrev P__law_pair_right : List Str := ["_law_one", "_law_other"]
theorem sc__law_pair_right : FnScope N__law_pair_right P__law_pair_right (defScope s__law_pair_right) := ⟨rfl, rfl, rfl, by decide +kernel, rfl, by decide +kernel, by decide +kernel⟩

theorem tup_kp {p t : Addr} {H H' : Hp} {n : Nat} {xs : List V} (h : H t = some (.tup xs)) (hp : Pot H p n) (k : Kp p H H') : H' t = some (.tup xs) := by
  obtain ⟨x, z, c, ep, _⟩ := hp
  exact k _ _ (fun q => by rw [q, ep] at h; cases h) h
def Tk (H : Hp) (t : Addr) (x y : Int) : Prop := H t = some (.tup [.int x, .int y]) ∧ -(2 ^ 90) < x ∧ x ≤ 0 ∧ 0 ≤ y ∧ y < 2 ^ 90
theorem Tk.same {H H' : Hp} {t : Addr} {x y : Int} (h : Tk H t x y) (s : Same H H') : Tk H' t x y := ⟨s _ _ h.1, h.2⟩
theorem Tk.kp {H H' : Hp} {t p : Addr} {x y : Int} {n : Nat} (h : Tk H t x y) (hp : Pot H p n) (k : Kp p H H') : Tk H' t x y := ⟨tup_kp h.1 hp k, h.2⟩
theorem dp_pair {K : PySem.W.Frag} {H : Hp} {t : Addr} {x y : Int} (h : H t = some (.tup [.int x, .int y])) : Dp K H (.ref t) (.tuple [.int x, .int y]) := .tup (SqT.of h) (.cons (.int _) (.cons (.int _) .nil))
theorem sm_pair {x y : Int} (a : -(2 ^ 200) < x) (b : x < 2 ^ 200) (c : -(2 ^ 200) < y) (d : y < 2 ^ 200) : Sm 1 404 (.tuple [.int x, .int y]) := sm_tup (sm_cons (sm_int a b) (sm_cons (sm_int c d) sm_nil))
def spDraw : Sp := fun vs H Q _ => ∃ (p : Addr) (n : Nat), vs = [.ref p] ∧ Pot H p (n + 3) ∧ ∀ (t : Addr) (x y : Int) (H' : Hp), Kp p H H' → Pot H' p n → Tk H' t x y → Q (.ref t) H'
theorem ok_draw {f : Addr} {fd : FuncData} (F : Fun K "_law_kind" "_law_kind" s__law_kind f fd) (T : Txt mg) (c_take : Cal P w K mg base 1 "_law_take" P__law_take spTake) (c_of : Cal P w K mg base 2 "_law_of" P__law_of spOf) :
    FnOk P w K mg base CX0 3 f fd P__law_kind spDraw := by
  obtain ⟨f_take, fd_take, G__law_take, b__law_take, g__law_take, k__law_take⟩ := c_take
  obtain ⟨f_of, fd_of, G__law_of, b__law_of, g__law_of, k__law_of⟩ := c_of
  refine F.ok sc__law_kind (fun vs H Q E h => ?_) (fun cdv A outer s H vs Q E hr h => ?_)
  · obtain ⟨p, n, rfl, _⟩ := h
    rfl
  · obtain ⟨p, n, rfl, hp, k⟩ := h
    refine ⟨_, (pss_cons (ps_set (i := 1) sc__law_kind.nd rfl (Or.inl rfl) (pe_call G__law_of (hr.mono (by decide)) rfl g__law_of k__law_of b__law_of .nil pass0 (pa_cons (pv 0) (pa_cons (pe_lst (pa_cons (pe_tup (pa_cons (pe_un un_neg pe_int) (pa_cons pe_int pa_nil))) (pa_cons (pe_tup (pa_cons (pe_un un_neg pe_int) (pa_cons pe_int pa_nil))) (pa_cons (pe_tup (pa_cons pe_int (pa_cons pe_int pa_nil))) (pa_cons (pe_tup (pa_cons (pe_un un_neg pe_int) (pa_cons pe_int pa_nil))) (pa_cons (pe_tup (pa_cons (pe_un un_neg (pe_op op_pow pe_int pe_int)) (pa_cons (pe_op op_pow pe_int pe_int) pa_nil))) pa_nil)))))) pa_nil))))
      (pss_one (ps_ret (pe_tup (pa_cons (pe_callB (call_min2 rfl) (by rfl) T.n_min (by decide +kernel) (pa_cons pe_int (pa_cons (pe_op op_add (pe_ix ix_tup (pv 1) pe_int (fun _ _ => rfl)) (pe_call G__law_take (hr.mono (by decide)) rfl g__law_take k__law_take b__law_take .nil pass0 (pa_cons (pv 0) (pa_cons pe_int pa_nil)))) pa_nil))) (pa_cons (pe_callB (call_max2 rfl) (by rfl) T.n_max (by decide +kernel) (pa_cons pe_int (pa_cons (pe_op op_sub (pe_op op_add (pe_ix ix_tup (pv 1) pe_int (fun _ _ => rfl)) (pe_call G__law_take (hr.mono (by decide)) rfl g__law_take k__law_take b__law_take .nil pass0 (pa_cons (pv 0) (pa_cons pe_int pa_nil)))) pe_int) pa_nil))) pa_nil)))))), ?_⟩
    fail "z run"
    intro a1 h1
    have p1 := hp.new (o := .tup [.int (-3), .int 3]) h1
    fail "z run"
    intro a2 h2
    have p2 := p1.new (o := .tup [.int (-1), .int 5]) h2
    fail "z run"
    intro a3 h3
    have p3 := p2.new (o := .tup [.int 0, .int 255]) h3
    fail "z run"
    intro a4 h4
    have p4 := p3.new (o := .tup [.int (-128), .int 127]) h4
    fail "z run"
    intro a5 h5
    have p5 := p4.new (o := .tup [.int (-(10 ^ Int.toNat 9)), .int (10 ^ Int.toNat 12)]) h5
    fail "z run"
    intro l hl
    have p6 := p5.new (o := .lst [.ref a1, .ref a2, .ref a3, .ref a4, .ref a5]) hl
    have K0 : Kp p H _ := (((((Kp.refl.new h1).new h2).new h3).new h4).new h5).new (o := .lst [.ref a1, .ref a2, .ref a3, .ref a4, .ref a5]) hl
    have w5 := same_new (o := .lst [.ref a1, .ref a2, .ref a3, .ref a4, .ref a5]) hl
    have w4 := (same_new (o := .tup [.int (-(10 ^ Int.toNat 9)), .int (10 ^ Int.toNat 12)]) h5).trans w5
    have w3 := (same_new (o := .tup [.int (-128), .int 127]) h4).trans w4
    have w2 := (same_new (o := .tup [.int 0, .int 255]) h3).trans w3
    have w1 := (same_new (o := .tup [.int (-1), .int 5]) h2).trans w2
    fail "z run"
    refine ⟨p, l, n + 2, _, rfl, p6, (p5.ne hl).symm, upd_same, by simp, by simp, fun v H1 hv K1 P1 => ?_⟩
    obtain ⟨t, x, y, rfl, ht, b1, b2, b3, b4⟩ : ∃ t x y, v = .ref t ∧ H1 t = some (.tup [.int x, .int y]) ∧ -1000000000 ≤ x ∧ x ≤ 0 ∧ 3 ≤ y ∧ y ≤ 1000000000000 := by
      simp only [List.mem_cons, List.not_mem_nil, or_false] at hv
      rcases hv with rfl | rfl | rfl | rfl | rfl
      · exact ⟨_, _, _, rfl, tup_kp (w1 _ _ upd_same) p6 K1, by decide, by decide, by decide, by decide⟩
      · exact ⟨_, _, _, rfl, tup_kp (w2 _ _ upd_same) p6 K1, by decide, by decide, by decide, by decide⟩
      · exact ⟨_, _, _, rfl, tup_kp (w3 _ _ upd_same) p6 K1, by decide, by decide, by decide, by decide⟩
      · exact ⟨_, _, _, rfl, tup_kp (w4 _ _ upd_same) p6 K1, by decide, by decide, by decide, by decide⟩
      · exact ⟨_, _, _, rfl, tup_kp (w5 _ _ upd_same) p6 K1, by decide, by decide, by decide, by decide⟩
    fail "z run"
    refine ⟨p, n + 1, 3, rfl, P1, by decide, by decide, fun r H2 r0 r1 K2 P2 => ?_⟩
    have ht2 := tup_kp ht P1 K2
    fail "z run"
    refine ⟨p, n, 3, rfl, P2, by decide, by decide, fun u H3 u0 u1 K3 P3 => ?_⟩
    fail "z run"
    intro t' ht'
    exact k t' _ _ _ (((K0.trans K1).trans K2).trans K3 |>.new ht') (P3.new ht') ⟨upd_same, by split <;> omega, by split <;> omega, by split <;> omega, by split <;> omega⟩
def spPair : Sp := fun vs H Q _ => ∃ (t u : Addr) (a b c d : Int), vs = [.ref t, .ref u] ∧ Tk H t a b ∧ Tk H u c d ∧ ∀ H', Same H H' → Q (.bl true) H'
theorem eqB_le (a b c d : Int) : eqB a b c d = (leB a b c d && leB c d a b) := by
  rw [Bool.eq_iff_iff]
  simp only [eqB, leB, Bool.and_eq_true, decide_eq_true_eq]
  omega
theorem ltB_le (a b c d : Int) : ltB a b c d = (leB a b c d && !leB c d a b) := by
  unfold ltB
  rw [eqB_le]
  cases leB a b c d <;> cases leB c d a b <;> rfl
theorem leB_true {a b c d : Int} (h1 : c ≤ a) (h2 : b ≤ d) : leB a b c d = true := by
  simp [leB, h1, h2]
theorem eqB_self (a b : Int) : eqB a b a b = true := by simp [eqB]
theorem mx_comm (a b : Int) : mx a b = mx b a := by
  unfold mx
  split <;> split <;> omega
theorem mn_comm (a b : Int) : mn a b = mn b a := by
  unfold mn
  split <;> split <;> omega
theorem le_mx1 (a c : Int) : a ≤ mx a c := by
  unfold mx
  split <;> omega
theorem le_mx2 (a c : Int) : c ≤ mx a c := by
  unfold mx
  split <;> omega
theorem mn_le1 (a c : Int) : mn a c ≤ a := by
  unfold mn
  split <;> omega
theorem mn_le2 (a c : Int) : mn a c ≤ c := by
  unfold mn
  split <;> omega
theorem mn_ind {P : Int → Prop} {a c : Int} (h : P a) (k : P c) : P (mn a c) := by
  unfold mn
  split
  · exact h
  · exact k
theorem mx_ind {P : Int → Prop} {a c : Int} (h : P a) (k : P c) : P (mx a c) := by
  unfold mx
  split
  · exact h
  · exact k
local macro_rules | `(tactic| fail "z norm") => `(tactic| simp only [List.set_cons_succ, List.set_cons_zero])
set_option maxHeartbeats 0 in
theorem ok_pair {f C : Addr} {fd : FuncData} (F : Fun K "_law_pair_right" "_law_pair_right" s__law_pair_right f fd) (T : Txt mg) (KT : KindT K C) (KO : KindO K C) (c_kind : CalK P w K mg base C) (c_eq : CalN P w K mg base C 1 "__eq__" P_Kind___eq__ (spCmp C eqB))
    (c_le : CalN P w K mg base C 1 "__le__" P_Kind___le__ (spCmp C leB)) (c_lt : CalN P w K mg base C 2 "__lt__" P_Kind___lt__ (spCmp C ltB)) (c_ge : CalN P w K mg base C 2 "__ge__" P_Kind___ge__ (spCmp C geB))
    (c_gt : CalN P w K mg base C 3 "__gt__" P_Kind___gt__ (spCmp C gtB)) (c_and : CalN P w K mg base C 4 "__and__" P_Kind___and__ (spMeet C mx mn)) (c_or : CalN P w K mg base C 4 "__or__" P_Kind___or__ (spMeet C mn mx)) :
    FnG P w K mg base CX0 5 f fd P__law_pair_right spPair := by
  obtain ⟨f_kind, fd_kind, mk_Kind, G_Kind, b_Kind, g_Kind⟩ := c_kind
  obtain ⟨f_eq, fd_eq, o___eq__, G_Kind___eq__, b_Kind___eq__⟩ := c_eq
  obtain ⟨f_le, fd_le, o___le__, G_Kind___le__, b_Kind___le__⟩ := c_le
  obtain ⟨f_lt, fd_lt, o___lt__, G_Kind___lt__, b_Kind___lt__⟩ := c_lt
  obtain ⟨f_ge, fd_ge, o___ge__, G_Kind___ge__, b_Kind___ge__⟩ := c_ge
  obtain ⟨f_gt, fd_gt, o___gt__, G_Kind___gt__, b_Kind___gt__⟩ := c_gt
  obtain ⟨f_and, fd_and, o___and__, G_Kind___and__, b_Kind___and__⟩ := c_and
  obtain ⟨f_or, fd_or, o___or__, G_Kind___or__, b_Kind___or__⟩ := c_or
  refine Fun_okG F sc__law_pair_right (fun vs H Q E h => ?_) (fun cdv A outer s H vs Q E calm hr h => ?_)
  · obtain ⟨t, u, a, b, c, d, rfl, _⟩ := h
    rfl
  · obtain ⟨t, u, a, b, c, d, rfl, ⟨i1, a1, a2, a3, a4⟩, ⟨i2, b1, b2, b3, b4⟩, k⟩ := h
    refine ⟨_, (pss_cons (ps_par (i := 2) (j := 3) rfl sc__law_pair_right.nd rfl rfl (by decide) rfl rfl (pa_cons (pe_make mk_Kind G_Kind (hr.mono (by decide)) rfl g_Kind b_Kind .nil pass0 (pa_cons (pe_ix ix_tup (pv 0) pe_int (fun _ _ => rfl)) (pa_cons (pe_ix ix_tup (pv 0) pe_int (fun _ _ => rfl)) pa_nil))) (pa_cons (pe_make mk_Kind G_Kind (hr.mono (by decide)) rfl g_Kind b_Kind .nil pass0 (pa_cons (pe_ix ix_tup (pv 1) pe_int (fun _ _ => rfl)) (pa_cons (pe_ix ix_tup (pv 1) pe_int (fun _ _ => rfl)) pa_nil))) pa_nil)) (by rfl))
      (pss_cons (ps_set (i := 4) sc__law_pair_right.nd rfl (Or.inl rfl) (pe_and (pe_cmpR op_le (pe_ix ix_tup (pv 1) pe_int (fun _ _ => rfl)) (pe_ix ix_tup (pv 0) pe_int (fun _ _ => rfl)) (nomark _)) (pe_one (pe_cmpR op_le (pe_ix ix_tup (pv 0) pe_int (fun _ _ => rfl)) (pe_ix ix_tup (pv 1) pe_int (fun _ _ => rfl)) (nomark _)))))
      (pss_cons (ps_set (i := 5) sc__law_pair_right.nd rfl (Or.inl rfl) (pe_and (pe_cmpR op_le (pe_ix ix_tup (pv 0) pe_int (fun _ _ => rfl)) (pe_ix ix_tup (pv 1) pe_int (fun _ _ => rfl)) (nomark _)) (pe_one (pe_cmpR op_le (pe_ix ix_tup (pv 1) pe_int (fun _ _ => rfl)) (pe_ix ix_tup (pv 0) pe_int (fun _ _ => rfl)) (nomark _)))))
      (pss_cons (ps_set (i := 6) sc__law_pair_right.nd rfl (Or.inl rfl) (pe_lst (pa_cons (pe_cmpR (op_cmpI (fun _ _ => rfl) o___le__.at_ o___le__.fn G_Kind___le__ (hr.mono (by decide)) b_Kind___le__ pass0) (pv 2) (pv 3) (nomark _)) (pa_cons (pe_cmpR (op_cmpI (fun _ _ => rfl) o___lt__.at_ o___lt__.fn G_Kind___lt__ (hr.mono (by decide)) b_Kind___lt__ pass0) (pv 2) (pv 3) (nomark _)) (pa_cons (pe_cmpR (op_cmpI (fun _ _ => rfl) o___ge__.at_ o___ge__.fn G_Kind___ge__ (hr.mono (by decide)) b_Kind___ge__ pass0) (pv 2) (pv 3) (nomark _)) pa_nil)))))
      (pss_cons (ps_set (i := 6) sc__law_pair_right.nd rfl (Or.inl rfl) (pe_op op_cat (pv 6) (pe_lst (pa_cons (pe_cmpR (op_cmpI (fun _ _ => rfl) o___gt__.at_ o___gt__.fn G_Kind___gt__ (hr.mono (by decide)) b_Kind___gt__ pass0) (pv 2) (pv 3) (nomark _)) (pa_cons (pe_cmpR (op_cmpI (fun _ _ => rfl) o___eq__.at_ o___eq__.fn G_Kind___eq__ (hr.mono (by decide)) b_Kind___eq__ pass0) (pv 2) (pv 3) (nomark _)) (pa_cons (pe_cmpR (op_neI KO.ic.hm KO.ne o___eq__.at_ o___eq__.fn G_Kind___eq__ (hr.mono (by decide)) b_Kind___eq__ pass0 (lt_units hr.units)) (pv 2) (pv 3) (nomark _)) pa_nil))))))
      (pss_cons (ps_set (i := 7) sc__law_pair_right.nd rfl (Or.inl rfl) (pe_lst (pa_cons (pv 4) (pa_cons (pe_and (pv 4) (pe_one (pe_not (pv 5)))) (pa_cons (pv 5) (pa_cons (pe_and (pv 5) (pe_one (pe_not (pv 4)))) (pa_cons (pe_and (pv 4) (pe_one (pv 5))) (pa_cons (pe_not (pe_and (pv 4) (pe_one (pv 5)))) pa_nil))))))))
      (pss_cons (ps_if (pt_cmpR op_ne (pe_callB (call_reprD calm (hu70 hr)) (by rfl) T.n_repr (by decide +kernel) (pa_cons (pv 6) pa_nil)) (pe_callB (call_reprD calm (hu70 hr)) (by rfl) T.n_repr (by decide +kernel) (pa_cons (pv 7) pa_nil)) (nomark _)) (pss_one (ps_ret pe_bl)) pss_nil)
      (pss_cons (ps_par (i := 8) (j := 9) rfl sc__law_pair_right.nd rfl rfl (by decide) rfl rfl (pa_cons (pe_op (op_binI KO.sf o___and__.at_ o___and__.fn G_Kind___and__ (hr.mono (by decide)) b_Kind___and__ pass0) (pv 2) (pv 3)) (pa_cons (pe_op (op_binI KO.sf o___or__.at_ o___or__.fn G_Kind___or__ (hr.mono (by decide)) b_Kind___or__ pass0) (pv 2) (pv 3)) pa_nil)) (by rfl))
      (pss_cons (ps_set (i := 10) sc__law_pair_right.nd rfl (Or.inl rfl) (pe_lst (pa_cons (pe_tup (pa_cons (pe_fld (pv 8) rfl) (pa_cons (pe_fld (pv 8) rfl) pa_nil))) (pa_cons (pe_tup (pa_cons (pe_fld (pv 9) rfl) (pa_cons (pe_fld (pv 9) rfl) pa_nil))) pa_nil))))
      (pss_cons (ps_par (i := 11) (j := 12) rfl sc__law_pair_right.nd rfl rfl (by decide) rfl rfl (pa_cons (pe_callB (call_max2 rfl) (by rfl) T.n_max (by decide +kernel) (pa_cons (pe_callTy call_int1 (by rfl) T.n_int (by decide +kernel) (pa_cons (pe_ix ix_tup (pv 0) pe_int (fun _ _ => rfl)) pa_nil)) (pa_cons (pe_callTy call_int1 (by rfl) T.n_int (by decide +kernel) (pa_cons (pe_ix ix_tup (pv 1) pe_int (fun _ _ => rfl)) pa_nil)) pa_nil))) (pa_cons (pe_callB (call_min2 rfl) (by rfl) T.n_min (by decide +kernel) (pa_cons (pe_callTy call_int1 (by rfl) T.n_int (by decide +kernel) (pa_cons (pe_ix ix_tup (pv 0) pe_int (fun _ _ => rfl)) pa_nil)) (pa_cons (pe_callTy call_int1 (by rfl) T.n_int (by decide +kernel) (pa_cons (pe_ix ix_tup (pv 1) pe_int (fun _ _ => rfl)) pa_nil)) pa_nil))) pa_nil)) (by rfl))
      (pss_cons (ps_par (i := 13) (j := 14) rfl sc__law_pair_right.nd rfl rfl (by decide) rfl rfl (pa_cons (pe_callB (call_min2 rfl) (by rfl) T.n_min (by decide +kernel) (pa_cons (pe_callTy call_int1 (by rfl) T.n_int (by decide +kernel) (pa_cons (pe_ix ix_tup (pv 0) pe_int (fun _ _ => rfl)) pa_nil)) (pa_cons (pe_callTy call_int1 (by rfl) T.n_int (by decide +kernel) (pa_cons (pe_ix ix_tup (pv 1) pe_int (fun _ _ => rfl)) pa_nil)) pa_nil))) (pa_cons (pe_callB (call_max2 rfl) (by rfl) T.n_max (by decide +kernel) (pa_cons (pe_callTy call_int1 (by rfl) T.n_int (by decide +kernel) (pa_cons (pe_ix ix_tup (pv 0) pe_int (fun _ _ => rfl)) pa_nil)) (pa_cons (pe_callTy call_int1 (by rfl) T.n_int (by decide +kernel) (pa_cons (pe_ix ix_tup (pv 1) pe_int (fun _ _ => rfl)) pa_nil)) pa_nil))) pa_nil)) (by rfl))
      (pss_cons (ps_set (i := 15) sc__law_pair_right.nd rfl (Or.inl rfl) (pe_lst (pa_cons (pe_tup (pa_cons (pv 11) (pa_cons (pv 12) pa_nil))) (pa_cons (pe_tup (pa_cons (pv 13) (pa_cons (pv 14) pa_nil))) pa_nil))))
      (pss_cons (ps_if (PW.pt (pw_or (pt_cmpR op_ne (pe_callB (call_reprD calm (hu70 hr)) (by rfl) T.n_repr (by decide +kernel) (pa_cons (pv 10) pa_nil)) (pe_callB (call_reprD calm (hu70 hr)) (by rfl) T.n_repr (by decide +kernel) (pa_cons (pv 15) pa_nil)) (nomark _)) (pw_or (pt_cmpR (op_neI KO.ic.hm KO.ne o___eq__.at_ o___eq__.fn G_Kind___eq__ (hr.mono (by decide)) b_Kind___eq__ pass0 (lt_units hr.units)) (pv 8) (pe_op (op_binI KO.sf o___and__.at_ o___and__.fn G_Kind___and__ (hr.mono (by decide)) b_Kind___and__ pass0) (pv 3) (pv 2)) (nomark _)) (pw_or1 (pt_cmpR (op_neI KO.ic.hm KO.ne o___eq__.at_ o___eq__.fn G_Kind___eq__ (hr.mono (by decide)) b_Kind___eq__ pass0 (lt_units hr.units)) (pv 9) (pe_op (op_binI KO.sf o___or__.at_ o___or__.fn G_Kind___or__ (hr.mono (by decide)) b_Kind___or__ pass0) (pv 3) (pv 2)) (nomark _)))))) (pss_one (ps_ret pe_bl)) pss_nil)
      (pss_cons (ps_if (PW.pt (pw_or (pt_not (pt_cmpR (op_cmpI (fun _ _ => rfl) o___le__.at_ o___le__.fn G_Kind___le__ (hr.mono (by decide)) b_Kind___le__ pass0) (pv 8) (pv 2) (nomark _))) (pw_or (pt_not (pt_cmpR (op_cmpI (fun _ _ => rfl) o___le__.at_ o___le__.fn G_Kind___le__ (hr.mono (by decide)) b_Kind___le__ pass0) (pv 8) (pv 3) (nomark _))) (pw_or (pt_not (pt_cmpR (op_cmpI (fun _ _ => rfl) o___le__.at_ o___le__.fn G_Kind___le__ (hr.mono (by decide)) b_Kind___le__ pass0) (pv 2) (pv 9) (nomark _))) (pw_or1 (pt_not (pt_cmpR (op_cmpI (fun _ _ => rfl) o___le__.at_ o___le__.fn G_Kind___le__ (hr.mono (by decide)) b_Kind___le__ pass0) (pv 3) (pv 9) (nomark _)))))))) (pss_one (ps_ret pe_bl)) pss_nil)
      (pss_one (ps_ret (pe_cmpR op_eq (pe_callB (call_reprD calm (hu70 hr)) (by rfl) T.n_repr (by decide +kernel) (pa_cons (pe_lst (pa_cons (pe_tup (pa_cons (pe_fld (pv 2) rfl) (pa_cons (pe_fld (pv 2) rfl) pa_nil))) (pa_cons (pe_tup (pa_cons (pe_fld (pv 3) rfl) (pa_cons (pe_fld (pv 3) rfl) pa_nil))) pa_nil))) pa_nil)) (pe_callB (call_reprD calm (hu70 hr)) (by rfl) T.n_repr (by decide +kernel) (pa_cons (pe_lst (pa_cons (pv 0) (pa_cons (pv 1) pa_nil))) pa_nil)) (nomark _)))))))))))))))))), ?_⟩
    rw [show L2.start N__law_pair_right [V.ref t, V.ref u] = [some (.ref t), some (.ref u), none, none, none, none, none, none, none, none, none, none, none, none, none, none] from rfl]
    fail "z run"
    refine rd_Kind (lo := a) (hi := b) a2 a3 fun k1 H1 n1 S1 q1 => ?_
    have i1' := S1 _ _ i1
    have i2' := S1 _ _ i2
    fail "z run"
    refine rd_Kind (lo := c) (hi := d) b2 b3 fun k2 H2 n2 S2 q2 => ?_
    have S2' := S1.trans S2
    have q1' := q1.same S2
    have j1 := S2' _ _ i1
    have j2 := S2' _ _ i2
    fail "z run"
    refine rd_both (d := decide (b ≤ d)) (fun Q' k' => ?_) ?_
    · fail "z run"
      exact k'
    obtain ⟨bi, ei⟩ : ∃ e, e = leB a b c d := ⟨_, rfl⟩
    obtain ⟨bh, eh⟩ : ∃ e, e = leB c d a b := ⟨_, rfl⟩
    rw [show (decide (c ≤ a) && decide (b ≤ d)) = bi from ei.symm]
    fail "z run"
    refine rd_both (d := decide (d ≤ b)) (fun Q' k' => ?_) ?_
    · fail "z run"
      exact k'
    rw [show (decide (a ≤ c) && decide (d ≤ b)) = bh from eh.symm]
    try fail "z norm"
    fail "z run"
    refine rd_own q1' q2 ⟨k1, k2, a, b, c, d, rfl, q1', q2, ?_⟩
    rw [← ei]
    fail "z run"
    refine rd_own q1' q2 ⟨k1, k2, a, b, c, d, rfl, q1', q2, ?_⟩
    rw [ltB_le, ← ei, ← eh]
    fail "z run"
    refine rd_own q1' q2 ⟨k1, k2, a, b, c, d, rfl, q1', q2, ?_⟩
    rw [geB, ← eh]
    fail "z run"
    intro l1 h1
    fail "z run"
    refine rd_own (q1'.same (same_new h1)) (q2.same (same_new h1)) ⟨k1, k2, a, b, c, d, rfl, q1'.same (same_new h1), q2.same (same_new h1), ?_⟩
    rw [gtB, ltB_le, ← ei, ← eh]
    fail "z run"
    refine rd_own (q1'.same (same_new h1)) (q2.same (same_new h1)) ⟨k1, k2, a, b, c, d, rfl, q1'.same (same_new h1), q2.same (same_new h1), ?_⟩
    rw [eqB_le, ← ei, ← eh]
    fail "z run"
    refine rd_ownNe (q1'.same (same_new h1)) (q2.same (same_new h1)) ⟨k1, k2, a, b, c, d, rfl, q1'.same (same_new h1), q2.same (same_new h1), _, rfl, ?_⟩
    rw [eqB_le, ← ei, ← eh]
    fail "z run"
    intro l2 h2
    try fail "z norm"
    fail "z run"
    refine ⟨l1, l2, _, _, rfl, rfl, (upd_ne (ne_of_none upd_same h2)).trans upd_same, upd_same, few (by simp), fun l3 h3 => ?_⟩
    fail "z run"
    refine rd_both (d := !bh) (fun Q' k' => ?_) ?_
    · fail "z run"
      exact k'
    fail "z run"
    refine rd_both (d := !bi) (fun Q' k' => ?_) ?_
    · fail "z run"
      exact k'
    fail "z run"
    refine rd_both (d := bh) (fun Q' k' => ?_) ?_
    · fail "z run"
      exact k'
    fail "z run"
    refine rd_both (d := bh) (fun Q' k' => ?_) ?_
    · fail "z run"
      exact k'
    fail "z run"
    intro l4 h4
    have S4 := (((same_new (o := .lst [.bl bi, .bl (bi && !bh), .bl bh]) h1).trans (same_new (o := .lst [.bl (bh && !bi), .bl (bi && bh), .bl (!(bi && bh))]) h2)).trans
      (same_new (o := .lst ([.bl bi, .bl (bi && !bh), .bl bh] ++ [.bl (bh && !bi), .bl (bi && bh), .bl (!(bi && bh))])) h3)).trans (same_new (o := .lst [.bl bi, .bl (bi && !bh), .bl bh, .bl (bh && !bi), .bl (bi && bh), .bl (!(bi && bh))]) h4)
    have r3 : (upd (upd (upd (upd H2 l1 (.lst [.bl bi, .bl (bi && !bh), .bl bh])) l2 (.lst [.bl (bh && !bi), .bl (bi && bh), .bl (!(bi && bh))])) l3 (.lst ([.bl bi, .bl (bi && !bh), .bl bh] ++ [.bl (bh && !bi), .bl (bi && bh), .bl (!(bi && bh))]))) l4
      (.lst [.bl bi, .bl (bi && !bh), .bl bh, .bl (bh && !bi), .bl (bi && bh), .bl (!(bi && bh))])) l3 = some (.lst [.bl bi, .bl (bi && !bh), .bl bh, .bl (bh && !bi), .bl (bi && bh), .bl (!(bi && bh))]) := (upd_ne (ne_of_none upd_same h4)).trans upd_same
    have r4 : (upd (upd (upd (upd H2 l1 (.lst [.bl bi, .bl (bi && !bh), .bl bh])) l2 (.lst [.bl (bh && !bi), .bl (bi && bh), .bl (!(bi && bh))])) l3 (.lst ([.bl bi, .bl (bi && !bh), .bl bh] ++ [.bl (bh && !bi), .bl (bi && bh), .bl (!(bi && bh))]))) l4
      (.lst [.bl bi, .bl (bi && !bh), .bl bh, .bl (bh && !bi), .bl (bi && bh), .bl (!(bi && bh))])) l4 = some (.lst [.bl bi, .bl (bi && !bh), .bl bh, .bl (bh && !bi), .bl (bi && bh), .bl (!(bi && bh))]) := upd_same
    generalize (upd (upd (upd (upd H2 l1 (.lst [.bl bi, .bl (bi && !bh), .bl bh])) l2 (.lst [.bl (bh && !bi), .bl (bi && bh), .bl (!(bi && bh))])) l3 (.lst ([.bl bi, .bl (bi && !bh), .bl bh] ++ [.bl (bh && !bi), .bl (bi && bh), .bl (!(bi && bh))]))) l4
      (.lst [.bl bi, .bl (bi && !bh), .bl bh, .bl (bh && !bi), .bl (bi && bh), .bl (!(bi && bh))])) = H3 at *
    try fail "z norm"
    have S3 := S2'.trans S4
    have q1 := q1'.same S4
    replace q2 := q2.same S4
    fail "z run"
    have sm6 := fun a b c d e f : Bool => sm_list (k := 0) (sm_cons (sm_bool a) (sm_cons (sm_bool b) (sm_cons (sm_bool c) (sm_cons (sm_bool d) (sm_cons (sm_bool e) (sm_cons (sm_bool f) sm_nil))))))
    refine rd_repr (d := .list [.bool bi, .bool (bi && !bh), .bool bh, .bool (bh && !bi), .bool (bi && bh), .bool (!(bi && bh))]) (.lst (SqL.of r3) (.cons (.bl _) (.cons (.bl _) (.cons (.bl _) (.cons (.bl _) (.cons (.bl _) (.cons (.bl _) .nil))))))) (sm6 _ _ _ _ _ _) (by decide) (by decide) ?_
    fail "z run"
    refine rd_repr (d := .list [.bool bi, .bool (bi && !bh), .bool bh, .bool (bh && !bi), .bool (bi && bh), .bool (!(bi && bh))]) (.lst (SqL.of r4) (.cons (.bl _) (.cons (.bl _) (.cons (.bl _) (.cons (.bl _) (.cons (.bl _) (.cons (.bl _) .nil))))))) (sm6 _ _ _ _ _ _) (by decide) (by decide) ?_
    fail "z run"
    refine rd_iteN (fun ne => absurd rfl ne) (fun _ => ?_)
    fail "z run"
    refine rd_own q1 q2 ⟨k1, k2, a, b, c, d, rfl, q1, q2, a2, a3, b2, b3, fun k3 H4 S4 q3 => ?_⟩
    replace q1 := q1.same S4
    replace q2 := q2.same S4
    fail "z run"
    refine rd_own q1 q2 ⟨k1, k2, a, b, c, d, rfl, q1, q2, a2, a3, b2, b3, fun k4 H5 S5 q4 => ?_⟩
    replace q1 := q1.same S5
    replace q2 := q2.same S5
    replace q3 := q3.same S5
    have S5' := (S3.trans S4).trans S5
    try fail "z norm"
    obtain ⟨x1, y1, x2, y2, e1, e2, e3, e4⟩ : ∃ x1 y1 x2 y2, x1 = mx a c ∧ y1 = mn b d ∧ x2 = mn a c ∧ y2 = mx b d := ⟨_, _, _, _, rfl, rfl, rfl, rfl⟩
    rw [← e1, ← e2] at q3
    rw [← e3, ← e4] at q4
    try fail "z norm"
    obtain ⟨dx3, f3⟩ := id q3
    obtain ⟨dx4, f4⟩ := id q4
    fail "z run"
    refine ⟨_, _, _, _, _, rfl, f3, KT.cl, KT.n_low, kf_low _ _, ?_⟩
    fail "z run"
    refine ⟨_, _, _, _, _, rfl, f3, KT.cl, KT.n_high, kf_high _ _, ?_⟩
    fail "z run"
    intro t1 ht1
    have s1 := same_new (o := .tup [.int x1, .int y1]) ht1
    have f4a := s1 _ _ f4
    have u1 : upd H5 t1 (.tup [.int x1, .int y1]) t1 = some (.tup [.int x1, .int y1]) := upd_same
    fail "z run"
    refine ⟨_, _, _, _, _, rfl, f4a, KT.cl, KT.n_low, kf_low _ _, ?_⟩
    fail "z run"
    refine ⟨_, _, _, _, _, rfl, f4a, KT.cl, KT.n_high, kf_high _ _, ?_⟩
    fail "z run"
    intro t2 ht2
    have s2 := s1.trans (same_new (o := .tup [.int x2, .int y2]) ht2)
    replace u1 := same_new (o := .tup [.int x2, .int y2]) ht2 _ _ u1
    have u2 : upd (upd H5 t1 (.tup [.int x1, .int y1])) t2 (.tup [.int x2, .int y2]) t2 = some (.tup [.int x2, .int y2]) := upd_same
    generalize upd (upd H5 t1 (.tup [.int x1, .int y1])) t2 (.tup [.int x2, .int y2]) = H6 at *
    try fail "z norm"
    fail "z run"
    intro l5 h5
    have s3 := s2.trans (same_new (o := .lst [.ref t1, .ref t2]) h5)
    replace u1 := same_new (o := .lst [.ref t1, .ref t2]) h5 _ _ u1
    replace u2 := same_new (o := .lst [.ref t1, .ref t2]) h5 _ _ u2
    have u5 : upd H6 l5 (.lst [.ref t1, .ref t2]) l5 = some (.lst [.ref t1, .ref t2]) := upd_same
    generalize upd H6 l5 (.lst [.ref t1, .ref t2]) = H7 at *
    try fail "z norm"
    have g1 := s3 _ _ (S5' _ _ i1)
    have g2 := s3 _ _ (S5' _ _ i2)
    repeat fail "z 1"
    fail "z 2"
    repeat fail "z 1"
    fail "z 2"
    repeat fail "z 1"
    rw [show (if c > a then c else a) = x1 by rw [e1]; unfold mx; split <;> split <;> omega]
    fail "z 2"
    repeat fail "z 1"
    fail "z 2"
    repeat fail "z 1"
    rw [show (if d < b then d else b) = y1 by rw [e2]; unfold mn; split <;> split <;> omega]
    fail "z 2"
    repeat fail "z 1"
    fail "z 2"
    repeat fail "z 1"
    rw [show (if c < a then c else a) = x2 by rw [e3]; unfold mn; split <;> split <;> omega]
    fail "z 2"
    repeat fail "z 1"
    fail "z 2"
    repeat fail "z 1"
    rw [show (if d > b then d else b) = y2 by rw [e4]; unfold mx; split <;> split <;> omega]
    refine rd_new (Nat.le_of_ble_eq_true rfl) ?_
    intro t3 ht3
    have s4 := s3.trans (same_new (o := .tup [.int x1, .int y1]) ht3)
    have v1 := same_new (o := .tup [.int x1, .int y1]) ht3
    have u3 : upd H7 t3 (.tup [.int x1, .int y1]) t3 = some (.tup [.int x1, .int y1]) := upd_same
    generalize upd H7 t3 (.tup [.int x1, .int y1]) = H8 at *
    try fail "z norm"
    fail "z run"
    intro t4 ht4
    have s5 := s4.trans (same_new (o := .tup [.int x2, .int y2]) ht4)
    have v2 := v1.trans (same_new (o := .tup [.int x2, .int y2]) ht4)
    replace u3 := same_new (o := .tup [.int x2, .int y2]) ht4 _ _ u3
    have u4 : upd H8 t4 (.tup [.int x2, .int y2]) t4 = some (.tup [.int x2, .int y2]) := upd_same
    generalize upd H8 t4 (.tup [.int x2, .int y2]) = H9 at *
    try fail "z norm"
    fail "z run"
    intro l6 h6
    have s6 := s5.trans (same_new (o := .lst [.ref t3, .ref t4]) h6)
    have v3 := v2.trans (same_new (o := .lst [.ref t3, .ref t4]) h6)
    replace u3 := same_new (o := .lst [.ref t3, .ref t4]) h6 _ _ u3
    replace u4 := same_new (o := .lst [.ref t3, .ref t4]) h6 _ _ u4
    have u6 : upd H9 l6 (.lst [.ref t3, .ref t4]) l6 = some (.lst [.ref t3, .ref t4]) := upd_same
    generalize upd H9 l6 (.lst [.ref t3, .ref t4]) = HA at *
    try fail "z norm"
    have c1 : a ≤ x1 := e1 ▸ le_mx1 a c
    have c2 : c ≤ x1 := e1 ▸ le_mx2 a c
    have c3 : y1 ≤ b := e2 ▸ mn_le1 b d
    have c4 : y1 ≤ d := e2 ▸ mn_le2 b d
    have c5 : x2 ≤ a := e3 ▸ mn_le1 a c
    have c6 : x2 ≤ c := e3 ▸ mn_le2 a c
    have c7 : b ≤ y2 := e4 ▸ le_mx1 b d
    have c8 : d ≤ y2 := e4 ▸ le_mx2 b d
    have c9 : -(2 ^ 90) < x2 := e3 ▸ mn_ind (P := fun z => -(2 ^ 90) < z) a1 b1
    have c10 : x1 ≤ 0 := e1 ▸ mx_ind (P := fun z => z ≤ 0) a2 b2
    have c11 : 0 ≤ y1 := e2 ▸ mn_ind (P := fun z => 0 ≤ z) a3 b3
    have c12 : y2 < 2 ^ 90 := e4 ▸ mx_ind (P := fun z => z < 2 ^ 90) a4 b4
    have sm2 := fun (x y z w : Int) (h1 : -(2 ^ 90) < x) (h2 : x ≤ 0) (h3 : 0 ≤ y) (h4 : y < 2 ^ 90) (h5 : -(2 ^ 90) < z) (h6 : z ≤ 0) (h7 : 0 ≤ w) (h8 : w < 2 ^ 90) =>
      sm_list (sm_cons (sm_pair (x := x) (y := y) (by omega) (by omega) (by omega) (by omega)) (sm_cons (sm_pair (x := z) (y := w) (by omega) (by omega) (by omega) (by omega)) sm_nil))
    fail "z run"
    refine rd_repr (d := .list [.tuple [.int x1, .int y1], .tuple [.int x2, .int y2]]) (.lst (SqL.of (v3 _ _ u5)) (.cons (dp_pair (v3 _ _ u1)) (.cons (dp_pair (v3 _ _ u2)) .nil))) (sm2 _ _ _ _ (by omega) (by omega) (by omega) (by omega) (by omega) (by omega) (by omega) (by omega)) (by decide) (by decide) ?_
    fail "z run"
    refine rd_repr (d := .list [.tuple [.int x1, .int y1], .tuple [.int x2, .int y2]]) (.lst (SqL.of u6) (.cons (dp_pair u3) (.cons (dp_pair u4) .nil))) (sm2 _ _ _ _ (by omega) (by omega) (by omega) (by omega) (by omega) (by omega) (by omega) (by omega)) (by decide) (by decide) ?_
    fail "z run"
    refine rd_iteN (fun ne => absurd rfl ne) (fun _ => ?_)
    replace q1 := q1.same s6
    replace q2 := q2.same s6
    replace q3 := q3.same s6
    replace q4 := q4.same s6
    fail "z run"
    refine rd_own q2 q1 ⟨k2, k1, c, d, a, b, rfl, q2, q1, b2, b3, a2, a3, fun k5 HB SB q5 => ?_⟩
    rw [mx_comm c a, mn_comm d b, ← e1, ← e2] at q5
    replace q1 := q1.same SB
    replace q2 := q2.same SB
    replace q3 := q3.same SB
    replace q4 := q4.same SB
    try fail "z norm"
    fail "z run"
    refine rd_ownNe q3 q5 ⟨k3, k5, _, _, _, _, rfl, q3, q5, _, rfl, ?_⟩
    rw [eqB_self]
    fail "z run"
    refine iteF ?_
    fail "z run"
    refine rd_own q2 q1 ⟨k2, k1, c, d, a, b, rfl, q2, q1, b2, b3, a2, a3, fun k6 HC SC q6 => ?_⟩
    rw [mn_comm c a, mx_comm d b, ← e3, ← e4] at q6
    replace q1 := q1.same SC
    replace q2 := q2.same SC
    replace q3 := q3.same SC
    replace q4 := q4.same SC
    try fail "z norm"
    fail "z run"
    refine rd_ownNe q4 q6 ⟨k4, k6, _, _, _, _, rfl, q4, q6, _, rfl, ?_⟩
    rw [eqB_self]
    fail "z run"
    refine iteF ?_
    fail "z run"
    refine rd_own q3 q1 ⟨k3, k1, _, _, _, _, rfl, q3, q1, ?_⟩
    rw [leB_true c1 c3]
    fail "z run"
    refine iteF ?_
    fail "z run"
    refine rd_own q3 q2 ⟨k3, k2, _, _, _, _, rfl, q3, q2, ?_⟩
    rw [leB_true c2 c4]
    fail "z run"
    refine iteF ?_
    fail "z run"
    refine rd_own q1 q4 ⟨k1, k4, _, _, _, _, rfl, q1, q4, ?_⟩
    rw [leB_true c5 c7]
    fail "z run"
    refine iteF ?_
    fail "z run"
    refine rd_own q2 q4 ⟨k2, k4, _, _, _, _, rfl, q2, q4, ?_⟩
    rw [leB_true c6 c8]
    fail "z run"
    refine iteF ?_
    have SC' := ((S5'.trans s6).trans SB).trans SC
    have g1 := SC' _ _ i1
    have g2 := SC' _ _ i2
    obtain ⟨dx1, f1⟩ := id q1
    obtain ⟨dx2, f2⟩ := id q2
    fail "z run"
    refine ⟨_, _, _, _, _, rfl, f1, KT.cl, KT.n_low, kf_low _ _, ?_⟩
    fail "z run"
    refine ⟨_, _, _, _, _, rfl, f1, KT.cl, KT.n_high, kf_high _ _, ?_⟩
    fail "z run"
    intro t7 h7
    have s7 := same_new (o := .tup [.int a, .int b]) h7
    have u7 : upd HC t7 (.tup [.int a, .int b]) t7 = some (.tup [.int a, .int b]) := upd_same
    have f2 := s7 _ _ f2
    generalize upd HC t7 (.tup [.int a, .int b]) = HD at *
    try fail "z norm"
    fail "z run"
    refine ⟨_, _, _, _, _, rfl, f2, KT.cl, KT.n_low, kf_low _ _, ?_⟩
    fail "z run"
    refine ⟨_, _, _, _, _, rfl, f2, KT.cl, KT.n_high, kf_high _ _, ?_⟩
    fail "z run"
    intro t8 h8
    have s8 := s7.trans (same_new (o := .tup [.int c, .int d]) h8)
    replace u7 := same_new (o := .tup [.int c, .int d]) h8 _ _ u7
    have u8 : upd HD t8 (.tup [.int c, .int d]) t8 = some (.tup [.int c, .int d]) := upd_same
    generalize upd HD t8 (.tup [.int c, .int d]) = HE at *
    try fail "z norm"
    fail "z run"
    intro l9 h9
    have s9 := s8.trans (same_new (o := .lst [.ref t7, .ref t8]) h9)
    replace u7 := same_new (o := .lst [.ref t7, .ref t8]) h9 _ _ u7
    replace u8 := same_new (o := .lst [.ref t7, .ref t8]) h9 _ _ u8
    fail "z run"
    refine rd_repr (d := .list [.tuple [.int a, .int b], .tuple [.int c, .int d]]) (.lst (SqL.of upd_same) (.cons (dp_pair u7) (.cons (dp_pair u8) .nil))) (sm2 _ _ _ _ (by omega) (by omega) (by omega) (by omega) (by omega) (by omega) (by omega) (by omega)) (by decide) (by decide) ?_
    fail "z run"
    intro lA hA
    have sA := s9.trans (same_new (o := .lst [.ref t, .ref u]) hA)
    fail "z run"
    refine rd_repr (d := .list [.tuple [.int a, .int b], .tuple [.int c, .int d]]) (.lst (SqL.of upd_same) (.cons (dp_pair (sA _ _ g1)) (.cons (dp_pair (sA _ _ g2)) .nil))) (sm2 _ _ _ _ (by omega) (by omega) (by omega) (by omega) (by omega) (by omega) (by omega) (by omega)) (by decide) (by decide) ?_
    fail "z run"
    rw [decide_eq_true rfl]
    exact k _ (SC'.trans sA)
abbrev s__law_three_right : Stmt := (top 24)
abbrev N__law_three_right : List Str := ["_law_pot", "_law_some", "_law_pair", "_law_one", "_law_other", "_law_third", "_law_turn", "_law_second", "_law_low", "_law_high"]
abbrev P__law_three_right : List Str := ["_law_pot"]
theorem sc__law_three_right : FnScope N__law_three_right P__law_three_right (defScope s__law_three_right) := ⟨rfl, rfl, rfl, by decide +kernel, rfl, by decide +kernel, by decide +kernel⟩

theorem rd_gtupI {K : PySem.W.Frag} {p : Addr} {H : Hp} {n : Nat} {xs : List V} {R : List V → Prop} (h : H p = some (.tup xs)) (e : xs.length = n) (k : R xs) : ∃ a ys, V.ref p = .ref a ∧ SqT K H a ys ∧ ys.length = n ∧ R ys := ⟨p, xs, rfl, SqT.of h, e, k⟩
def spRight (n : Nat) : Sp := fun vs H Q _ => ∃ (p : Addr) (m : Nat), vs = [.ref p] ∧ Pot H p (m + n) ∧ ∀ H', Kp p H H' → Pot H' p m → Q (.bl true) H'
theorem snoc3 {α : Type} {l : List α} (h : l.length = 3) : ∃ a b c, l = [a, b, c] := by
  match l, h with
  | [a, b, c], _ => exact ⟨a, b, c, rfl⟩
local macro_rules | `(tactic| fail "z nif") => `(tactic| repeat (with_reducible first
  | refine Zg.rd_var rfl ?_
  | refine Zg.rd_seq ?_
  | refine Zg.rd_asg ?_
  | refine Zg.rd_name ?_
  | refine Zg.rd_gnil ?_
  | refine Zg.rd_gcons ?_
  | refine Zg.rd_next ?_))
theorem rd_ifNo {tt : TT} {ts tr : TS} {D : Ends} {σ : L2.St} {H : Hp} (h : ∀ R : Bool → Hp → Prop, (∀ H', Same H H' → R false H') → tt σ H R) (k : ∀ H', Same H H' → tr D σ H') : tIfS tt ts tr D σ H :=
  h _ fun H' S => iteF (k H' S)
def KsAre (C : Addr) (H : Hp) : List Addr → List (Int × Int) → Prop
  | [], [] => True
  | k :: ks, p :: ps => IsKind C H k p.1 p.2 ∧ KsAre C H ks ps
  | _, _ => False
theorem KsAre.same {C : Addr} {H H' : Hp} (s : Same H H') : ∀ {ks : List Addr} {ps : List (Int × Int)}, KsAre C H ks ps → KsAre C H' ks ps
  | [], [], _ => trivial
  | _ :: _, _ :: _, h => ⟨h.1.same s, KsAre.same s h.2⟩
theorem KsAre.snoc {C : Addr} {H : Hp} {k : Addr} {x y : Int} (q : IsKind C H k x y) : ∀ {ks : List Addr} {ps : List (Int × Int)}, KsAre C H ks ps → KsAre C H (ks ++ [k]) (ps ++ [(x, y)])
  | [], [], _ => ⟨q, trivial⟩
  | _ :: _, _ :: _, h => ⟨h.1, KsAre.snoc q h.2⟩
theorem KsAre.len {C : Addr} {H : Hp} : ∀ {ks : List Addr} {ps : List (Int × Int)}, KsAre C H ks ps → ks.length = ps.length
  | [], [], _ => rfl
  | _ :: _, _ :: _, h => congrArg (· + 1) (KsAre.len h.2)
theorem Tk.put {H : Hp} {t D : Addr} {x y : Int} {l : List V} {o : HO} (h : Tk H t x y) (hD : H D = some (.lst l)) : Tk (upd H D o) t x y :=
  ⟨(upd_ne (fun e => by have := h.1; rw [e, hD] at this; cases this)).trans h.1, h.2⟩
theorem IsKind.put {C k D : Addr} {H : Hp} {x y : Int} {l : List V} {o : HO} (h : IsKind C H k x y) (hD : H D = some (.lst l)) : IsKind C (upd H D o) k x y := by
  obtain ⟨dx, e⟩ := h
  exact ⟨dx, (upd_ne (fun z => by rw [z, hD] at e; cases e)).trans e⟩
theorem KsAre.put {C D : Addr} {H : Hp} {l : List V} {o : HO} (hD : H D = some (.lst l)) : ∀ {ks : List Addr} {ps : List (Int × Int)}, KsAre C H ks ps → KsAre C (upd H D o) ks ps
  | [], [], _ => trivial
  | _ :: _, _ :: _, h => ⟨h.1.put hD, KsAre.put hD h.2⟩
theorem mxmn (a c e : Int) : mx a (mn c e) = mn (mx a c) (mx a e) := by
  unfold mx mn
  repeat (first | split | omega)
theorem mnmx (a c e : Int) : mn a (mx c e) = mx (mn a c) (mn a e) := by
  unfold mx mn
  repeat (first | split | omega)
theorem leB_and {a b c d : Int} (h : leB a b c d = true) : c ≤ a ∧ b ≤ d := by
  simpa [leB] using h
theorem ok_three {f C : Addr} {fd : FuncData} (F : Fun K "_law_three_right" "_law_three_right" s__law_three_right f fd) (T : Txt mg) (KT : KindT K C) (KO : KindO K C) (c_kind : CalK P w K mg base C) (c_eq : CalN P w K mg base C 1 "__eq__" P_Kind___eq__ (spCmp C eqB))
    (c_le : CalN P w K mg base C 1 "__le__" P_Kind___le__ (spCmp C leB)) (c_ge : CalN P w K mg base C 2 "__ge__" P_Kind___ge__ (spCmp C geB))
    (c_and : CalN P w K mg base C 4 "__and__" P_Kind___and__ (spMeet C mx mn)) (c_or : CalN P w K mg base C 4 "__or__" P_Kind___or__ (spMeet C mn mx))
    (c_draw : Cal P w K mg base 3 "_law_kind" P__law_kind spDraw) (c_pair : CalG P w K mg base 5 "_law_pair_right" P__law_pair_right spPair) :
    FnG P w K mg base CX0 6 f fd P__law_three_right (spRight 9) := by
  obtain ⟨f_kind, fd_kind, mk_Kind, G_Kind, b_Kind, g_Kind⟩ := c_kind
  obtain ⟨f_eq, fd_eq, o___eq__, G_Kind___eq__, b_Kind___eq__⟩ := c_eq
  obtain ⟨f_le, fd_le, o___le__, G_Kind___le__, b_Kind___le__⟩ := c_le
  obtain ⟨f_ge, fd_ge, o___ge__, G_Kind___ge__, b_Kind___ge__⟩ := c_ge
  obtain ⟨f_and, fd_and, o___and__, G_Kind___and__, b_Kind___and__⟩ := c_and
  obtain ⟨f_or, fd_or, o___or__, G_Kind___or__, b_Kind___or__⟩ := c_or
  obtain ⟨f_dr, fd_dr, G__law_kind, b__law_kind, g__law_kind, k__law_kind⟩ := c_draw
  obtain ⟨f_pr, fd_pr, G__law_pair_right, b__law_pair_right, g__law_pair_right, k__law_pair_right⟩ := c_pair
  refine Fun_okG F sc__law_three_right (fun vs H Q E h => ?_) (fun cdv A outer s H vs Q E calm hr h => ?_)
  · obtain ⟨p, n, rfl, _⟩ := h
    rfl
  · obtain ⟨p, n, rfl, hp, k⟩ := h
    refine ⟨_, (pss_cons (ps_setLc (i := 1) (own := [("_law_turn", 6)]) (g := gName 6) (tt := tYes) rfl sc__law_three_right.nd rfl rfl (sw_true rfl rfl rfl (by decide +kernel)) (pi_range1 rfl T.n_range (pa_cons pe_int pa_nil)) (blkOk_by (N := N__law_three_right) (sc := defScope s__law_three_right) (by decide +kernel)) (fun _ _ _ _ _ => (pg_name (i := 6) sc__law_three_right.nd rfl (Or.inl rfl))) (fun _ _ _ _ _ => pts_nil) (fun _ _ _ _ _ => (pe_call G__law_kind (hr.mono (by decide)) rfl g__law_kind k__law_kind b__law_kind .nil pass0 (pa_cons (pv 0) pa_nil))))
      (pss_cons (ps_for PassesOwn.never rfl (pi_list (pv 1)) (pg_name (i := 2) sc__law_three_right.nd rfl (Or.inr rfl)) (pss_one (ps_if (pt_not (pt_val (pe_callB (cr_all rfl) (by rfl) T.n_all (by decide +kernel) (pa_cons (pe_lc (own := [("_law_second", 7)]) (g := gName 7) (tt := tYes) rfl sc__law_three_right.nd (pi_list (pv 1)) (blkOk_by (N := N__law_three_right) (sc := defScope s__law_three_right) (by decide +kernel)) (fun _ _ _ _ _ => (pg_name (i := 7) sc__law_three_right.nd rfl (Or.inl rfl))) (fun _ _ _ _ _ => pts_nil) (fun _ _ _ _ _ => (pe_callG calm G__law_pair_right (hr.mono (by decide)) rfl g__law_pair_right k__law_pair_right b__law_pair_right pass0 (pa_cons (pv 2) (pa_cons (pv 7) pa_nil))))) pa_nil)))) (pss_one (ps_ret pe_bl)) pss_nil)))
      (pss_cons (ps_asg (pe_lc (own := [("_law_low", 8), ("_law_high", 9)]) (g := gTup _ 2 (gCons (gName 8) (gCons (gName 9) gNil))) (tt := tYes) rfl sc__law_three_right.nd (pi_list (pv 1)) (blkOk_by (N := N__law_three_right) (sc := defScope s__law_three_right) (by decide +kernel)) (fun _ _ _ _ _ => (pg_tup rfl (pgs_cons (pg_name (i := 8) sc__law_three_right.nd rfl (Or.inl rfl)) (pgs_cons (pg_name (i := 9) sc__law_three_right.nd rfl (Or.inl rfl)) pgs_nil)))) (fun _ _ _ _ _ => pts_nil) (fun _ _ _ _ _ => (pe_make mk_Kind G_Kind (hr.mono (by decide)) rfl g_Kind b_Kind .nil pass0 (pa_cons (pv 8) (pa_cons (pv 9) pa_nil))))) (pg_lst rfl (pgs_cons (pg_name (i := 3) sc__law_three_right.nd rfl (Or.inl rfl)) (pgs_cons (pg_name (i := 4) sc__law_three_right.nd rfl (Or.inl rfl)) (pgs_cons (pg_name (i := 5) sc__law_three_right.nd rfl (Or.inl rfl)) pgs_nil)))))
      (pss_cons (ps_if (PW.pt (pw_and (pt_cmpR (op_cmpI (fun _ _ => rfl) o___le__.at_ o___le__.fn G_Kind___le__ (hr.mono (by decide)) b_Kind___le__ pass0) (pv 3) (pv 4) (nomark _)) (pw_and (pt_cmpR (op_cmpI (fun _ _ => rfl) o___le__.at_ o___le__.fn G_Kind___le__ (hr.mono (by decide)) b_Kind___le__ pass0) (pv 4) (pv 5) (nomark _)) (pw_and1 (pt_not (pt_cmpR (op_cmpI (fun _ _ => rfl) o___le__.at_ o___le__.fn G_Kind___le__ (hr.mono (by decide)) b_Kind___le__ pass0) (pv 3) (pv 5) (nomark _))))))) (pss_one (ps_ret pe_bl)) pss_nil)
      (pss_cons (ps_if (PW.pt (pw_and (pt_cmpR (op_cmpI (fun _ _ => rfl) o___ge__.at_ o___ge__.fn G_Kind___ge__ (hr.mono (by decide)) b_Kind___ge__ pass0) (pv 5) (pv 3) (nomark _)) (pw_and (pt_cmpR (op_cmpI (fun _ _ => rfl) o___ge__.at_ o___ge__.fn G_Kind___ge__ (hr.mono (by decide)) b_Kind___ge__ pass0) (pv 5) (pv 4) (nomark _)) (pw_and1 (pt_not (pt_cmpR (op_cmpI (fun _ _ => rfl) o___ge__.at_ o___ge__.fn G_Kind___ge__ (hr.mono (by decide)) b_Kind___ge__ pass0) (pv 5) (pe_op (op_binI KO.sf o___or__.at_ o___or__.fn G_Kind___or__ (hr.mono (by decide)) b_Kind___or__ pass0) (pv 3) (pv 4)) (nomark _))))))) (pss_one (ps_ret pe_bl)) pss_nil)
      (pss_cons (ps_if (PW.pt (pw_and (pt_cmpR (op_cmpI (fun _ _ => rfl) o___le__.at_ o___le__.fn G_Kind___le__ (hr.mono (by decide)) b_Kind___le__ pass0) (pv 5) (pv 3) (nomark _)) (pw_and (pt_cmpR (op_cmpI (fun _ _ => rfl) o___le__.at_ o___le__.fn G_Kind___le__ (hr.mono (by decide)) b_Kind___le__ pass0) (pv 5) (pv 4) (nomark _)) (pw_and1 (pt_not (pt_cmpR (op_cmpI (fun _ _ => rfl) o___le__.at_ o___le__.fn G_Kind___le__ (hr.mono (by decide)) b_Kind___le__ pass0) (pv 5) (pe_op (op_binI KO.sf o___and__.at_ o___and__.fn G_Kind___and__ (hr.mono (by decide)) b_Kind___and__ pass0) (pv 3) (pv 4)) (nomark _))))))) (pss_one (ps_ret pe_bl)) pss_nil)
      (pss_one (ps_ret (pe_cmpR (op_cmpI (fun _ _ => rfl) o___eq__.at_ o___eq__.fn G_Kind___eq__ (hr.mono (by decide)) b_Kind___eq__ pass0) (pe_op (op_binI KO.sf o___and__.at_ o___and__.fn G_Kind___and__ (hr.mono (by decide)) b_Kind___and__ pass0) (pv 3) (pe_op (op_binI KO.sf o___or__.at_ o___or__.fn G_Kind___or__ (hr.mono (by decide)) b_Kind___or__ pass0) (pv 4) (pv 5))) (pe_op (op_binI KO.sf o___or__.at_ o___or__.fn G_Kind___or__ (hr.mono (by decide)) b_Kind___or__ pass0) (pe_op (op_binI KO.sf o___and__.at_ o___and__.fn G_Kind___and__ (hr.mono (by decide)) b_Kind___and__ pass0) (pv 3) (pv 4)) (pe_op (op_binI KO.sf o___and__.at_ o___and__.fn G_Kind___and__ (hr.mono (by decide)) b_Kind___and__ pass0) (pv 3) (pv 5))) (nomark _)))))))))), ?_⟩
    fail "z run"
    unfold tLc
    with_reducible refine rd_rng1 ?_
    fail "z run"
    refine ⟨by decide, by decide, fun D hD => lc_range (lo := 0) (n := 3) (fun j H2 => ∃ ts : List Addr, ts.length = j ∧ (∀ t ∈ ts, ∃ x y, Tk H2 t x y) ∧ Kp p H H2 ∧ Pot H2 p (n + 3 * (3 - j)) ∧ H2 D = some (.lst (ts.map V.ref))) ?_ ?_ ?_⟩
    · exact ⟨[], rfl, fun _ h => (List.not_mem_nil h).elim, Kp.refl.new hD, hp.new hD, upd_same⟩
    · rintro j H2 hj ⟨ts, lt, all, K2, P2, hL⟩
      have nDp : D ≠ p := (hp.ne hD).symm
      rw [show n + 3 * (3 - j) = (n + 3 * (3 - (j + 1))) + 3 by omega] at P2
      fail "z run"
      refine ⟨rfl, ?_⟩
      unfold tYes
      refine iteT ?_
      fail "z run"
      refine ⟨p, _, rfl, P2, fun t x y H3 K3 P3 tk => ?_⟩
      have hL3 := K3 _ _ nDp hL
      refine ⟨_, hL3, by rw [List.length_map, lt]; exact Nat.lt_of_lt_of_le hj (few (by decide)), ts ++ [t], by simp [lt], fun u hu => ?_, fun b o nb e => (upd_ne (ne_of_none e hD)).trans (K3 _ _ nb (K2 _ _ nb e)), ?_, ?_⟩
      · rcases List.mem_append.mp hu with hu | hu
        · obtain ⟨x', y', q⟩ := all u hu
          exact ⟨x', y', (q.kp P2 K3).put hL3⟩
        · cases List.mem_singleton.mp hu
          exact ⟨x, y, tk.put hL3⟩
      · obtain ⟨x', y', z', ep, r⟩ := P3
        exact ⟨x', y', z', (upd_ne nDp.symm).trans ep, r⟩
      · rw [List.map_append]
        exact upd_same
    · rintro H2 ⟨ts, lt, all, K2, P2, hL⟩
      obtain ⟨t1, t2, t3, rfl⟩ := snoc3 lt
      obtain ⟨a, b, tk1⟩ := all t1 (by simp)
      obtain ⟨c, d, tk2⟩ := all t2 (by simp)
      obtain ⟨e, g, tk3⟩ := all t3 (by simp)
      have hL' : H2 D = some (.lst [.ref t1, .ref t2, .ref t3]) := hL
      fail "z run"
      with_reducible refine rd_for ?_
      with_reducible refine rd_iL ?_
      fail "z run"
      refine rd_iLa hL' (for_list (K := K) (a := D) (xs := [.ref t1, .ref t2, .ref t3]) (fun i σ H' => ∃ v2, σ = [some (.ref p), some (.ref D), v2, none, none, none, none, none, none, none] ∧ Same H2 H')
        ⟨none, rfl, Same.refl _⟩ (fun i σ H' _ ⟨_, _, s⟩ => SqL.of (s _ _ hL')) ?_ ?_)
      · rintro i x σ H' hx ⟨v2, rfl, s⟩
        obtain ⟨t, x1, y1, rfl, tk⟩ : ∃ t x1 y1, x = .ref t ∧ Tk H2 t x1 y1 := by
          rcases i with _ | _ | _ | i
          · cases hx
            exact ⟨_, _, _, rfl, tk1⟩
          · cases hx
            exact ⟨_, _, _, rfl, tk2⟩
          · cases hx
            exact ⟨_, _, _, rfl, tk3⟩
          · simp at hx
        have hLs := s _ _ hL'
        fail "z run"
        with_reducible refine rd_iL ?_
        fail "z run"
        refine rd_iLa hLs (fun D2 hD2 => lc_list (K := K) (a := D) (xs := [.ref t1, .ref t2, .ref t3]) (fun j H3 => Same H' H3 ∧ H3 D2 = some (.lst (List.replicate j (V.bl true)))) ⟨same_new hD2, upd_same⟩ (fun i H3 _ q => SqL.of (q.1 _ _ hLs)) ?_ ?_)
        · rintro j x2 H3 hx2 ⟨S3, hL3⟩
          obtain ⟨u, x3, y3, rfl, tu⟩ : ∃ t x1 y1, x2 = .ref t ∧ Tk H2 t x1 y1 := by
            rcases j with _ | _ | _ | i
            · cases hx2
              exact ⟨_, _, _, rfl, tk1⟩
            · cases hx2
              exact ⟨_, _, _, rfl, tk2⟩
            · cases hx2
              exact ⟨_, _, _, rfl, tk3⟩
            · simp at hx2
          have hj : j < 3 := (List.getElem?_eq_some_iff.mp hx2).1
          fail "z run"
          refine ⟨rfl, ?_⟩
          unfold tYes
          refine iteT ?_
          fail "z run"
          refine ⟨t, u, x1, y1, x3, y3, rfl, (tk.same s).same S3, (tu.same s).same S3, fun H4 S4 => ?_⟩
          refine ⟨_, S4 _ _ hL3, Nat.lt_of_lt_of_le (by rw [List.length_replicate]; exact hj) (few (by decide)), fun b o e => (upd_ne (ne_of_none e hD2)).trans (S4 _ _ (S3 _ _ e)), ?_⟩
          rw [rep_snoc]
          exact upd_same
        · rintro H3 ⟨S3, hL3⟩
          fail "z run"
          refine ⟨D2, List.replicate 3 true, rfl, SqL.of (by rw [List.map_replicate]; exact hL3), ?_⟩
          rw [all_rep]
          fail "z run"
          exact ⟨_, rfl, s.trans S3⟩
      · rintro σ H' ⟨v2, rfl, s⟩
        have hLs := s _ _ hL'
        fail "z run"
        with_reducible refine rd_iL ?_
        fail "z run"
        refine rd_iLa hLs (fun D3 hD3 => lc_list (K := K) (a := D) (xs := [.ref t1, .ref t2, .ref t3]) (fun j H3 => Same H' H3 ∧ ∃ ks, KsAre C H3 ks ([(a, b), (c, d), (e, g)].take j) ∧ H3 D3 = some (.lst (ks.map V.ref))) ⟨same_new hD3, [], trivial, upd_same⟩ (fun i H3 _ q => SqL.of (q.1 _ _ hLs)) ?_ ?_)
        · rintro j x2 H3 hx2 ⟨S3, ks, ak, hL3⟩
          have hj : j < 3 := (List.getElem?_eq_some_iff.mp hx2).1
          obtain ⟨u, x3, y3, rfl, tu, et⟩ : ∃ t x1 y1, x2 = .ref t ∧ Tk H2 t x1 y1 ∧ [(a, b), (c, d), (e, g)].take (j + 1) = [(a, b), (c, d), (e, g)].take j ++ [(x1, y1)] := by
            rcases j with _ | _ | _ | i
            · cases hx2
              exact ⟨_, _, _, rfl, tk1, rfl⟩
            · cases hx2
              exact ⟨_, _, _, rfl, tk2, rfl⟩
            · cases hx2
              exact ⟨_, _, _, rfl, tk3, rfl⟩
            · simp at hx2
          have tu' := (tu.same s).same S3
          refine rd_gtup tu'.1 rfl ?_
          fail "z run"
          refine ⟨rfl, ?_⟩
          unfold tYes
          refine iteT ?_
          fail "z run"
          refine rd_Kind (lo := x3) (hi := y3) tu'.2.2.1 tu'.2.2.2.1 fun kd H4 nk S4 q4 => ?_
          have nkD : kd ≠ D3 := fun e => by rw [e, hL3] at nk; cases nk
          obtain ⟨dx, f4⟩ := id q4
          have hL4 := S4 _ _ hL3
          have ps : Same H3 H3 := Same.refl _
          refine ⟨_, hL4, by rw [List.length_map, ak.len]; exact Nat.lt_of_le_of_lt (List.length_take_le _ _) (Nat.lt_of_lt_of_le hj (few (by decide))), fun b o e => (upd_ne (ne_of_none e hD3)).trans (S4 _ _ (S3 _ _ e)), ks ++ [kd], ?_, ?_⟩
          · rw [et]
            exact (KsAre.snoc q4 (ak.same S4)).put hL4
          · rw [List.map_append]
            exact upd_same
        · rintro H3 ⟨S3, ks, ak, hL3⟩
          have ak' : KsAre C H3 ks [(a, b), (c, d), (e, g)] := ak
          match ks, ak', hL3 with
          | [k1, k2, k3], ⟨q1, q2, q3, _⟩, hL3 =>
          clear ak'
          obtain ⟨_, a1, a2, a3, a4⟩ := tk1
          obtain ⟨_, b1, b2, b3, b4⟩ := tk2
          obtain ⟨_, e1, e2, e3, e4⟩ := tk3
          refine ⟨D3, [.ref k1, .ref k2, .ref k3], rfl, SqL.of hL3, rfl, ?_⟩
          fail "z nif"
          refine rd_ifNo (fun R r => ?_) fun H4 S4 => ?_
          · fail "z run"
            refine rd_own q1 q2 ⟨k1, k2, a, b, c, d, rfl, q1, q2, ?_⟩
            fail "z run"
            refine rd_iteB (fun h1 => ?_) (fun _ => r _ (Same.refl _))
            fail "z run"
            refine rd_own q2 q3 ⟨k2, k3, c, d, e, g, rfl, q2, q3, ?_⟩
            fail "z run"
            refine rd_iteB (fun h2 => ?_) (fun _ => r _ (Same.refl _))
            fail "z run"
            refine rd_own q1 q3 ⟨k1, k3, a, b, e, g, rfl, q1, q3, ?_⟩
            have := leB_and h1
            have := leB_and h2
            rw [leB_true (by omega) (by omega)]
            fail "z run"
            exact r _ (Same.refl _)
          replace q1 := q1.same S4
          replace q2 := q2.same S4
          replace q3 := q3.same S4
          fail "z nif"
          refine rd_ifNo (fun R r => ?_) fun H5 S5 => ?_
          · fail "z run"
            refine rd_own q3 q1 ⟨k3, k1, e, g, a, b, rfl, q3, q1, ?_⟩
            fail "z run"
            refine rd_iteB (fun h1 => ?_) (fun _ => r _ (Same.refl _))
            fail "z run"
            refine rd_own q3 q2 ⟨k3, k2, e, g, c, d, rfl, q3, q2, ?_⟩
            fail "z run"
            refine rd_iteB (fun h2 => ?_) (fun _ => r _ (Same.refl _))
            fail "z run"
            refine rd_own q1 q2 ⟨k1, k2, a, b, c, d, rfl, q1, q2, a2, a3, b2, b3, fun k4 H6 S6 q4 => ?_⟩
            fail "z run"
            refine rd_own (q3.same S6) q4 ⟨k3, k4, e, g, _, _, rfl, q3.same S6, q4, ?_⟩
            have := leB_and (show leB a b e g = true from h1)
            have := leB_and (show leB c d e g = true from h2)
            rw [show geB e g (mn a c) (mx b d) = true from leB_true (mn_ind (P := fun z => e ≤ z) (by omega) (by omega)) (mx_ind (P := fun z => z ≤ g) (by omega) (by omega))]
            fail "z run"
            exact r _ S6
          replace q1 := q1.same S5
          replace q2 := q2.same S5
          replace q3 := q3.same S5
          fail "z nif"
          refine rd_ifNo (fun R r => ?_) fun H6 S6 => ?_
          · fail "z run"
            refine rd_own q3 q1 ⟨k3, k1, e, g, a, b, rfl, q3, q1, ?_⟩
            fail "z run"
            refine rd_iteB (fun h1 => ?_) (fun _ => r _ (Same.refl _))
            fail "z run"
            refine rd_own q3 q2 ⟨k3, k2, e, g, c, d, rfl, q3, q2, ?_⟩
            fail "z run"
            refine rd_iteB (fun h2 => ?_) (fun _ => r _ (Same.refl _))
            fail "z run"
            refine rd_own q1 q2 ⟨k1, k2, a, b, c, d, rfl, q1, q2, a2, a3, b2, b3, fun k4 H6 S6 q4 => ?_⟩
            fail "z run"
            refine rd_own (q3.same S6) q4 ⟨k3, k4, e, g, _, _, rfl, q3.same S6, q4, ?_⟩
            have := leB_and h1
            have := leB_and h2
            rw [show leB e g (mx a c) (mn b d) = true from leB_true (mx_ind (P := fun z => z ≤ e) (by omega) (by omega)) (mn_ind (P := fun z => g ≤ z) (by omega) (by omega))]
            fail "z run"
            exact r _ S6
          replace q1 := q1.same S6
          replace q2 := q2.same S6
          replace q3 := q3.same S6
          fail "z run"
          refine rd_own q2 q3 ⟨k2, k3, c, d, e, g, rfl, q2, q3, b2, b3, e2, e3, fun k4 H7 S7 q4 => ?_⟩
          replace q1 := q1.same S7
          replace q2 := q2.same S7
          replace q3 := q3.same S7
          fail "z run"
          refine rd_own q1 q4 ⟨k1, k4, a, b, _, _, rfl, q1, q4, a2, a3, mn_ind (P := fun z => z ≤ 0) b2 e2, mx_ind (P := fun z => 0 ≤ z) b3 e3, fun k5 H8 S8 q5 => ?_⟩
          replace q1 := q1.same S8
          replace q2 := q2.same S8
          replace q3 := q3.same S8
          fail "z run"
          refine rd_own q1 q2 ⟨k1, k2, a, b, c, d, rfl, q1, q2, a2, a3, b2, b3, fun k6 H9 S9 q6 => ?_⟩
          replace q1 := q1.same S9
          replace q3 := q3.same S9
          replace q5 := q5.same S9
          fail "z run"
          refine rd_own q1 q3 ⟨k1, k3, a, b, e, g, rfl, q1, q3, a2, a3, e2, e3, fun k7 HA SA q7 => ?_⟩
          replace q5 := q5.same SA
          replace q6 := q6.same SA
          fail "z run"
          refine rd_own q6 q7 ⟨k6, k7, _, _, _, _, rfl, q6, q7, mx_ind (P := fun z => z ≤ 0) a2 b2, mn_ind (P := fun z => 0 ≤ z) a3 b3, mx_ind (P := fun z => z ≤ 0) a2 e2, mn_ind (P := fun z => 0 ≤ z) a3 e3, fun k8 HB SB q8 => ?_⟩
          replace q5 := q5.same SB
          fail "z run"
          refine rd_own q5 q8 ⟨k5, k8, _, _, _, _, rfl, q5, q8, ?_⟩
          rw [mxmn a c e, mnmx b d g, eqB_self]
          have SS := s.trans (S3.trans (S4.trans (S5.trans (S6.trans (S7.trans (S8.trans (S9.trans (SA.trans SB))))))))
          exact k _ (K2.trans fun b o _ e => SS b o e) (P2.same SS)
abbrev s_law : Stmt := (top 25)
abbrev N_law : List Str := ["_law_script", "_law_k", "_law_pot", "_law_turn"]
abbrev P_law : List Str := ["_law_script"]
theorem sc_law : FnScope N_law P_law (defScope s_law) := ⟨rfl, rfl, rfl, by decide +kernel, rfl, by decide +kernel, by decide +kernel⟩

def spLaw (K : PySem.W.Frag) : Sp := fun vs H Q _ => ∃ (a : Addr) (ns : List Int), vs = [.ref a] ∧ SqL K H a (ns.map V.int) ∧ ns.length ≤ 63 ∧ ∀ H', Q (.bl true) H'
theorem sql_kp {K : PySem.W.Frag} {H H1 H2 : Hp} {a p : Addr} {xs : List V} (h : SqL K H a xs) (hp : H p = none) (s : Same H H1) (k : Kp p H1 H2) : SqL K H2 a xs := by
  rcases h with (h | ⟨o, h⟩) | h
  · exact .inl (.inl (k _ _ (ne_of_none h hp) (s _ _ h)))
  · exact .inl (.inr ⟨o, k _ _ (ne_of_none h hp) (s _ _ h)⟩)
  · exact .inr h
theorem ok_law {f : Addr} {fd : FuncData} (F : Fun K "law" "law" s_law f fd) (T : Txt mg) (c_pot : Cal P w K mg base 1 "_law_pot_of" P__law_pot_of (spPotOf K))
    (c_right : CalG P w K mg base 6 "_law_three_right" P__law_three_right (spRight 9)) : FnG P w K mg base CX0 7 f fd P_law (spLaw K) := by
  obtain ⟨f_pot, fd_pot, G__law_pot_of, b__law_pot_of, g__law_pot_of, k__law_pot_of⟩ := c_pot
  obtain ⟨f_right, fd_right, G__law_three_right, b__law_three_right, g__law_three_right, k__law_three_right⟩ := c_right
  refine Fun_okG F sc_law (fun vs H Q E h => ?_) (fun cdv A outer s H vs Q E calm hr h => ?_)
  · obtain ⟨a, ns, rfl, _⟩ := h
    rfl
  · obtain ⟨a, ns, rfl, hS, few, k⟩ := h
    refine ⟨_, (pss_cons (ps_for PassesOwn.never rfl (pi_range1 rfl T.n_range (pa_cons (pe_callB (call_max2 rfl) (by rfl) T.n_max (by decide +kernel) (pa_cons pe_int (pa_cons (pe_callB (call_min2 rfl) (by rfl) T.n_min (by decide +kernel) (pa_cons pe_int (pa_cons (pe_callB call_len_seq (by rfl) T.n_len (by decide +kernel) (pa_cons (pv 0) pa_nil)) pa_nil))) pa_nil))) pa_nil)) (pg_name (i := 1) sc_law.nd rfl (Or.inl rfl)) (pss_cons (ps_set (i := 2) sc_law.nd rfl (Or.inr rfl) (pe_call G__law_pot_of (hr.mono (by decide)) rfl g__law_pot_of k__law_pot_of b__law_pot_of .nil pass0 (pa_cons (pv 0) (pa_cons (pv 1) pa_nil))))
      (pss_one (ps_if (pt_not (pt_val (pe_callB (cr_all rfl) (by rfl) T.n_all (by decide +kernel) (pa_cons (pe_lc (own := [("_law_turn", 3)]) (g := gName 3) (tt := tYes) rfl sc_law.nd (pi_range1 rfl T.n_range (pa_cons pe_int pa_nil)) (blkOk_by (N := N_law) (sc := defScope s_law) (by decide +kernel)) (fun _ _ _ _ _ => (pg_name (i := 3) sc_law.nd rfl (Or.inl rfl))) (fun _ _ _ _ _ => pts_nil) (fun _ _ _ _ _ => (pe_callG calm G__law_three_right (hr.mono (by decide)) rfl g__law_three_right k__law_three_right b__law_three_right pass0 (pa_cons (pv 2) pa_nil)))) pa_nil)))) (pss_one (ps_ret pe_bl)) pss_nil))))
      (pss_one (ps_ret pe_bl))), ?_⟩
    fail "z run"
    with_reducible refine rd_for ?_
    with_reducible refine rd_rng1 ?_
    fail "z run"
    refine rd_lenLs hS ?_
    fail "z run"
    refine ⟨by split <;> (try split) <;> omega, by split <;> (try split) <;> omega, for_range (lo := 0) (fun i σ H' => ∃ v1 v2 v3, σ = [some (.ref a), v1, v2, v3] ∧ SqL K H' a (ns.map V.int)) ⟨none, none, none, rfl, hS⟩ ?_ ?_⟩
    · rintro i σ H' hi ⟨v1, v2, v3, rfl, hS'⟩
      have i2 : i ≤ 2 := by
        split at hi <;> (try split at hi) <;> omega
      fail "z run"
      refine ⟨a, ns, _, rfl, hS', by omega, by omega, by omega, fun p H1 np S1 P1 => ?_⟩
      fail "z run"
      unfold tLc
      with_reducible refine rd_rng1 ?_
      fail "z run"
      refine ⟨by decide, by decide, fun D hD => lc_range (lo := 0) (n := 12) (fun j H2 => Kp p H1 H2 ∧ Pot H2 p (9 * (12 - j)) ∧ H2 D = some (.lst (List.replicate j (V.bl true)))) ?_ ?_ ?_⟩
      · exact ⟨Kp.refl.new hD, (P1.new hD).le (by decide), upd_same⟩
      · rintro j H2 hj ⟨K2, P2, hL⟩
        have nDp : D ≠ p := fun e => by
          obtain ⟨x, y, z, ep, _⟩ := P1
          rw [e, ep] at hD
          cases hD
        have e20 : 9 * (12 - j) = (9 * (12 - (j + 1))) + 9 := by omega
        rw [e20] at P2
        fail "z run"
        refine ⟨rfl, ?_⟩
        unfold tYes
        refine iteT ?_
        fail "z run"
        refine ⟨p, _, rfl, P2, fun H4 K4 P4 => ?_⟩
        have hL4 := K4 _ _ nDp hL
        refine ⟨_, hL4, Nat.lt_of_le_of_lt (by rw [List.length_replicate]; exact Nat.le_of_lt hj) (small1000 (by decide)), fun b o nb e => ?_, ?_, ?_⟩
        · rw [upd_ne (ne_of_none e hD)]
          exact K4 _ _ nb (K2 _ _ nb e)
        · obtain ⟨x, y, z, ep, r⟩ := P4.le (m := 9 * (12 - (j + 1))) (by omega)
          exact ⟨x, y, z, (upd_ne nDp.symm).trans ep, r⟩
        · rw [rep_snoc]
          exact upd_same
      · rintro H2 ⟨K2, P2, hL⟩
        fail "z run"
        refine ⟨D, List.replicate 12 true, rfl, SqL.of (by rw [List.map_replicate]; exact hL), ?_⟩
        rw [all_rep]
        fail "z run"
        refine iteF ?_
        fail "z run"
        exact ⟨_, _, _, rfl, sql_kp hS' np S1 K2⟩
    · rintro σ H' ⟨v1, v2, v3, rfl, hS'⟩
      fail "z run"
      exact k H'
end
theorem all_mk {l : PySem.W.OpenLaw} {w : World} {K : PySem.W.Frag} {h : Heap} {mg : Str → Option Value} {fa : Addr}
    {C : Addr}
    {fis_integer : Addr} {odis_integer anis_integer : Option Addr} {slis_integer : Array (Option Value)} {ocis_integer kVis_integer dcis_integer pmis_integer cdis_integer ctis_integer : Value}
    {flesser : Addr} {odlesser anlesser : Option Addr} {sllesser : Array (Option Value)} {oclesser kVlesser dclesser pmlesser cdlesser ctlesser : Value}
    {fgreater : Addr} {odgreater angreater : Option Addr} {slgreater : Array (Option Value)} {ocgreater kVgreater dcgreater pmgreater cdgreater ctgreater : Value}
    {fKind___init__ : Addr} {odKind___init__ anKind___init__ : Option Addr} {slKind___init__ : Array (Option Value)} {ocKind___init__ kVKind___init__ dcKind___init__ pmKind___init__ cdKind___init__ ctKind___init__ : Value}
    {fKind___eq__ : Addr} {odKind___eq__ anKind___eq__ : Option Addr} {slKind___eq__ : Array (Option Value)} {ocKind___eq__ kVKind___eq__ dcKind___eq__ pmKind___eq__ cdKind___eq__ ctKind___eq__ : Value}
    {fKind___le__ : Addr} {odKind___le__ anKind___le__ : Option Addr} {slKind___le__ : Array (Option Value)} {ocKind___le__ kVKind___le__ dcKind___le__ pmKind___le__ cdKind___le__ ctKind___le__ : Value}
    {fKind___lt__ : Addr} {odKind___lt__ anKind___lt__ : Option Addr} {slKind___lt__ : Array (Option Value)} {ocKind___lt__ kVKind___lt__ dcKind___lt__ pmKind___lt__ cdKind___lt__ ctKind___lt__ : Value}
    {fKind___ge__ : Addr} {odKind___ge__ anKind___ge__ : Option Addr} {slKind___ge__ : Array (Option Value)} {ocKind___ge__ kVKind___ge__ dcKind___ge__ pmKind___ge__ cdKind___ge__ ctKind___ge__ : Value}
    {fKind___gt__ : Addr} {odKind___gt__ anKind___gt__ : Option Addr} {slKind___gt__ : Array (Option Value)} {ocKind___gt__ kVKind___gt__ dcKind___gt__ pmKind___gt__ cdKind___gt__ ctKind___gt__ : Value}
    {fKind___and__ : Addr} {odKind___and__ anKind___and__ : Option Addr} {slKind___and__ : Array (Option Value)} {ocKind___and__ kVKind___and__ dcKind___and__ pmKind___and__ cdKind___and__ ctKind___and__ : Value}
    {fKind___or__ : Addr} {odKind___or__ anKind___or__ : Option Addr} {slKind___or__ : Array (Option Value)} {ocKind___or__ kVKind___or__ dcKind___or__ pmKind___or__ cdKind___or__ ctKind___or__ : Value}
    {f_law_pot_of : Addr} {od_law_pot_of an_law_pot_of : Option Addr} {sl_law_pot_of : Array (Option Value)} {oc_law_pot_of kV_law_pot_of dc_law_pot_of pm_law_pot_of cd_law_pot_of ct_law_pot_of : Value}
    {f_law_take : Addr} {od_law_take an_law_take : Option Addr} {sl_law_take : Array (Option Value)} {oc_law_take kV_law_take dc_law_take pm_law_take cd_law_take ct_law_take : Value}
    {f_law_of : Addr} {od_law_of an_law_of : Option Addr} {sl_law_of : Array (Option Value)} {oc_law_of kV_law_of dc_law_of pm_law_of cd_law_of ct_law_of : Value}
    {f_law_kind : Addr} {od_law_kind an_law_kind : Option Addr} {sl_law_kind : Array (Option Value)} {oc_law_kind kV_law_kind dc_law_kind pm_law_kind cd_law_kind ct_law_kind : Value}
    {f_law_pair_right : Addr} {od_law_pair_right an_law_pair_right : Option Addr} {sl_law_pair_right : Array (Option Value)} {oc_law_pair_right kV_law_pair_right dc_law_pair_right pm_law_pair_right cd_law_pair_right ct_law_pair_right : Value}
    {f_law_three_right : Addr} {od_law_three_right an_law_three_right : Option Addr} {sl_law_three_right : Array (Option Value)} {oc_law_three_right kV_law_three_right dc_law_three_right pm_law_three_right cd_law_three_right ct_law_three_right : Value}
    {flaw : Addr} {odlaw anlaw : Option Addr} {sllaw : Array (Option Value)} {oclaw kVlaw dclaw pmlaw cdlaw ctlaw : Value}
    (X : K.In h) (G : h.Ns mainGlobals mg) (hfa : mg "law" = some (.ref fa))
    (haC : PySem.W.nsIn K mainGlobals "Kind" = some (some (.ref C)))
    (hpg : PySem.W.plainGet K C Str.empty = true)
    (hhd : PySem.W.hasDictIn K C = true)
    (hpo : PySem.W.plainOver K C = true)
    (hsa : PySem.W.findIn K (.ref C) "__setattr__" = some (some (.builtin "object.__setattr__")))
    (hmk : PySem.W.makesIn K C = true)
    (hkc : PySem.W.keepIn K (.ref C) = true)
    (hnlow : PySem.W.findIn K (.ref C) "low" = some none)
    (hnhigh : PySem.W.findIn K (.ref C) "high" = some none)
    (hnsize : PySem.W.findIn K (.ref C) "size" = some none)
    (heO1 : PySem.W.findIn K (.ref C) "__class__" = some (some (.builtin "object.__class__")))
    (heO4 : PySem.W.mroIn K C (.type "object") = some true)
    (heO5 : PySem.W.selfFirst K C = true)
    (heO6 : PySem.W.findIn K (.ref C) "__ne__" = some (some (.builtin "object.__ne__")))
    (heW4 : PySem.W.specialIn K (.builtin "object.__class__") "__get__" = some (some (.builtin "getset_descriptor.__get__")))
    (heW5 : PySem.W.takesIn K (.builtin "object.__class__") = some true)
    (hais_integer : PySem.W.nsIn K mainGlobals "is_integer" = some (some (.ref fis_integer)))
    (hlis_integer : K.lookup fis_integer = some ⟨ocis_integer, odis_integer, .func (PySem.W.fnOf "is_integer" "is_integer" (defArgs s_is_integer) (defBody s_is_integer) (defScope s_is_integer) .none kVis_integer dcis_integer pmis_integer anis_integer cdis_integer ctis_integer), slis_integer⟩)
    (hcis_integer : PySem.W.codeIn K cdis_integer "is_integer" = true)
    (hkis_integer : PySem.W.keepIn K (.ref fis_integer) = true)
    (halesser : PySem.W.nsIn K mainGlobals "lesser" = some (some (.ref flesser)))
    (hllesser : K.lookup flesser = some ⟨oclesser, odlesser, .func (PySem.W.fnOf "lesser" "lesser" (defArgs s_lesser) (defBody s_lesser) (defScope s_lesser) .none kVlesser dclesser pmlesser anlesser cdlesser ctlesser), sllesser⟩)
    (hclesser : PySem.W.codeIn K cdlesser "lesser" = true)
    (hklesser : PySem.W.keepIn K (.ref flesser) = true)
    (hagreater : PySem.W.nsIn K mainGlobals "greater" = some (some (.ref fgreater)))
    (hlgreater : K.lookup fgreater = some ⟨ocgreater, odgreater, .func (PySem.W.fnOf "greater" "greater" (defArgs s_greater) (defBody s_greater) (defScope s_greater) .none kVgreater dcgreater pmgreater angreater cdgreater ctgreater), slgreater⟩)
    (hcgreater : PySem.W.codeIn K cdgreater "greater" = true)
    (hkgreater : PySem.W.keepIn K (.ref fgreater) = true)
    (haKind___init__ : PySem.W.findIn K (.ref C) "__init__" = some (some (.ref fKind___init__)))
    (hiKind___init__ : PySem.W.isFn K (.ref fKind___init__) = true)
    (hlKind___init__ : K.lookup fKind___init__ = some ⟨ocKind___init__, odKind___init__, .func (PySem.W.fnOf "__init__" "Kind.__init__" (defArgs s_Kind___init__) (defBody s_Kind___init__) (defScope s_Kind___init__) .none kVKind___init__ dcKind___init__ pmKind___init__ anKind___init__ cdKind___init__ ctKind___init__), slKind___init__⟩)
    (hcKind___init__ : PySem.W.codeIn K cdKind___init__ "Kind.__init__" = true)
    (hkKind___init__ : PySem.W.keepIn K (.ref fKind___init__) = true)
    (haKind___eq__ : PySem.W.findIn K (.ref C) "__eq__" = some (some (.ref fKind___eq__)))
    (hiKind___eq__ : PySem.W.isFn K (.ref fKind___eq__) = true)
    (hlKind___eq__ : K.lookup fKind___eq__ = some ⟨ocKind___eq__, odKind___eq__, .func (PySem.W.fnOf "__eq__" "Kind.__eq__" (defArgs s_Kind___eq__) (defBody s_Kind___eq__) (defScope s_Kind___eq__) .none kVKind___eq__ dcKind___eq__ pmKind___eq__ anKind___eq__ cdKind___eq__ ctKind___eq__), slKind___eq__⟩)
    (hcKind___eq__ : PySem.W.codeIn K cdKind___eq__ "Kind.__eq__" = true)
    (hkKind___eq__ : PySem.W.keepIn K (.ref fKind___eq__) = true)
    (haKind___le__ : PySem.W.findIn K (.ref C) "__le__" = some (some (.ref fKind___le__)))
    (hiKind___le__ : PySem.W.isFn K (.ref fKind___le__) = true)
    (hlKind___le__ : K.lookup fKind___le__ = some ⟨ocKind___le__, odKind___le__, .func (PySem.W.fnOf "__le__" "Kind.__le__" (defArgs s_Kind___le__) (defBody s_Kind___le__) (defScope s_Kind___le__) .none kVKind___le__ dcKind___le__ pmKind___le__ anKind___le__ cdKind___le__ ctKind___le__), slKind___le__⟩)
    (hcKind___le__ : PySem.W.codeIn K cdKind___le__ "Kind.__le__" = true)
    (hkKind___le__ : PySem.W.keepIn K (.ref fKind___le__) = true)
    (haKind___lt__ : PySem.W.findIn K (.ref C) "__lt__" = some (some (.ref fKind___lt__)))
    (hiKind___lt__ : PySem.W.isFn K (.ref fKind___lt__) = true)
    (hlKind___lt__ : K.lookup fKind___lt__ = some ⟨ocKind___lt__, odKind___lt__, .func (PySem.W.fnOf "__lt__" "Kind.__lt__" (defArgs s_Kind___lt__) (defBody s_Kind___lt__) (defScope s_Kind___lt__) .none kVKind___lt__ dcKind___lt__ pmKind___lt__ anKind___lt__ cdKind___lt__ ctKind___lt__), slKind___lt__⟩)
    (hcKind___lt__ : PySem.W.codeIn K cdKind___lt__ "Kind.__lt__" = true)
    (hkKind___lt__ : PySem.W.keepIn K (.ref fKind___lt__) = true)
    (haKind___ge__ : PySem.W.findIn K (.ref C) "__ge__" = some (some (.ref fKind___ge__)))
    (hiKind___ge__ : PySem.W.isFn K (.ref fKind___ge__) = true)
    (hlKind___ge__ : K.lookup fKind___ge__ = some ⟨ocKind___ge__, odKind___ge__, .func (PySem.W.fnOf "__ge__" "Kind.__ge__" (defArgs s_Kind___ge__) (defBody s_Kind___ge__) (defScope s_Kind___ge__) .none kVKind___ge__ dcKind___ge__ pmKind___ge__ anKind___ge__ cdKind___ge__ ctKind___ge__), slKind___ge__⟩)
    (hcKind___ge__ : PySem.W.codeIn K cdKind___ge__ "Kind.__ge__" = true)
    (hkKind___ge__ : PySem.W.keepIn K (.ref fKind___ge__) = true)
    (haKind___gt__ : PySem.W.findIn K (.ref C) "__gt__" = some (some (.ref fKind___gt__)))
    (hiKind___gt__ : PySem.W.isFn K (.ref fKind___gt__) = true)
    (hlKind___gt__ : K.lookup fKind___gt__ = some ⟨ocKind___gt__, odKind___gt__, .func (PySem.W.fnOf "__gt__" "Kind.__gt__" (defArgs s_Kind___gt__) (defBody s_Kind___gt__) (defScope s_Kind___gt__) .none kVKind___gt__ dcKind___gt__ pmKind___gt__ anKind___gt__ cdKind___gt__ ctKind___gt__), slKind___gt__⟩)
    (hcKind___gt__ : PySem.W.codeIn K cdKind___gt__ "Kind.__gt__" = true)
    (hkKind___gt__ : PySem.W.keepIn K (.ref fKind___gt__) = true)
    (haKind___and__ : PySem.W.findIn K (.ref C) "__and__" = some (some (.ref fKind___and__)))
    (hiKind___and__ : PySem.W.isFn K (.ref fKind___and__) = true)
    (hlKind___and__ : K.lookup fKind___and__ = some ⟨ocKind___and__, odKind___and__, .func (PySem.W.fnOf "__and__" "Kind.__and__" (defArgs s_Kind___and__) (defBody s_Kind___and__) (defScope s_Kind___and__) .none kVKind___and__ dcKind___and__ pmKind___and__ anKind___and__ cdKind___and__ ctKind___and__), slKind___and__⟩)
    (hcKind___and__ : PySem.W.codeIn K cdKind___and__ "Kind.__and__" = true)
    (hkKind___and__ : PySem.W.keepIn K (.ref fKind___and__) = true)
    (haKind___or__ : PySem.W.findIn K (.ref C) "__or__" = some (some (.ref fKind___or__)))
    (hiKind___or__ : PySem.W.isFn K (.ref fKind___or__) = true)
    (hlKind___or__ : K.lookup fKind___or__ = some ⟨ocKind___or__, odKind___or__, .func (PySem.W.fnOf "__or__" "Kind.__or__" (defArgs s_Kind___or__) (defBody s_Kind___or__) (defScope s_Kind___or__) .none kVKind___or__ dcKind___or__ pmKind___or__ anKind___or__ cdKind___or__ ctKind___or__), slKind___or__⟩)
    (hcKind___or__ : PySem.W.codeIn K cdKind___or__ "Kind.__or__" = true)
    (hkKind___or__ : PySem.W.keepIn K (.ref fKind___or__) = true)
    (ha_law_pot_of : PySem.W.nsIn K mainGlobals "_law_pot_of" = some (some (.ref f_law_pot_of)))
    (hl_law_pot_of : K.lookup f_law_pot_of = some ⟨oc_law_pot_of, od_law_pot_of, .func (PySem.W.fnOf "_law_pot_of" "_law_pot_of" (defArgs s__law_pot_of) (defBody s__law_pot_of) (defScope s__law_pot_of) .none kV_law_pot_of dc_law_pot_of pm_law_pot_of an_law_pot_of cd_law_pot_of ct_law_pot_of), sl_law_pot_of⟩)
    (hc_law_pot_of : PySem.W.codeIn K cd_law_pot_of "_law_pot_of" = true)
    (hk_law_pot_of : PySem.W.keepIn K (.ref f_law_pot_of) = true)
    (ha_law_take : PySem.W.nsIn K mainGlobals "_law_take" = some (some (.ref f_law_take)))
    (hl_law_take : K.lookup f_law_take = some ⟨oc_law_take, od_law_take, .func (PySem.W.fnOf "_law_take" "_law_take" (defArgs s__law_take) (defBody s__law_take) (defScope s__law_take) .none kV_law_take dc_law_take pm_law_take an_law_take cd_law_take ct_law_take), sl_law_take⟩)
    (hc_law_take : PySem.W.codeIn K cd_law_take "_law_take" = true)
    (hk_law_take : PySem.W.keepIn K (.ref f_law_take) = true)
    (ha_law_of : PySem.W.nsIn K mainGlobals "_law_of" = some (some (.ref f_law_of)))
    (hl_law_of : K.lookup f_law_of = some ⟨oc_law_of, od_law_of, .func (PySem.W.fnOf "_law_of" "_law_of" (defArgs s__law_of) (defBody s__law_of) (defScope s__law_of) .none kV_law_of dc_law_of pm_law_of an_law_of cd_law_of ct_law_of), sl_law_of⟩)
    (hc_law_of : PySem.W.codeIn K cd_law_of "_law_of" = true)
    (hk_law_of : PySem.W.keepIn K (.ref f_law_of) = true)
    (ha_law_kind : PySem.W.nsIn K mainGlobals "_law_kind" = some (some (.ref f_law_kind)))
    (hl_law_kind : K.lookup f_law_kind = some ⟨oc_law_kind, od_law_kind, .func (PySem.W.fnOf "_law_kind" "_law_kind" (defArgs s__law_kind) (defBody s__law_kind) (defScope s__law_kind) .none kV_law_kind dc_law_kind pm_law_kind an_law_kind cd_law_kind ct_law_kind), sl_law_kind⟩)
    (hc_law_kind : PySem.W.codeIn K cd_law_kind "_law_kind" = true)
    (hk_law_kind : PySem.W.keepIn K (.ref f_law_kind) = true)
    (ha_law_pair_right : PySem.W.nsIn K mainGlobals "_law_pair_right" = some (some (.ref f_law_pair_right)))
    (hl_law_pair_right : K.lookup f_law_pair_right = some ⟨oc_law_pair_right, od_law_pair_right, .func (PySem.W.fnOf "_law_pair_right" "_law_pair_right" (defArgs s__law_pair_right) (defBody s__law_pair_right) (defScope s__law_pair_right) .none kV_law_pair_right dc_law_pair_right pm_law_pair_right an_law_pair_right cd_law_pair_right ct_law_pair_right), sl_law_pair_right⟩)
    (hc_law_pair_right : PySem.W.codeIn K cd_law_pair_right "_law_pair_right" = true)
    (hk_law_pair_right : PySem.W.keepIn K (.ref f_law_pair_right) = true)
    (ha_law_three_right : PySem.W.nsIn K mainGlobals "_law_three_right" = some (some (.ref f_law_three_right)))
    (hl_law_three_right : K.lookup f_law_three_right = some ⟨oc_law_three_right, od_law_three_right, .func (PySem.W.fnOf "_law_three_right" "_law_three_right" (defArgs s__law_three_right) (defBody s__law_three_right) (defScope s__law_three_right) .none kV_law_three_right dc_law_three_right pm_law_three_right an_law_three_right cd_law_three_right ct_law_three_right), sl_law_three_right⟩)
    (hc_law_three_right : PySem.W.codeIn K cd_law_three_right "_law_three_right" = true)
    (hk_law_three_right : PySem.W.keepIn K (.ref f_law_three_right) = true)
    (halaw : PySem.W.nsIn K mainGlobals "law" = some (some (.ref flaw)))
    (hllaw : K.lookup flaw = some ⟨oclaw, odlaw, .func (PySem.W.fnOf "law" "law" (defArgs s_law) (defBody s_law) (defScope s_law) .none kVlaw dclaw pmlaw anlaw cdlaw ctlaw), sllaw⟩)
    (hclaw : PySem.W.codeIn K cdlaw "law" = true)
    (hklaw : PySem.W.keepIn K (.ref flaw) = true)
    (hzint : PySem.W.nsIn K mainGlobals "int" = some none)
    (hzlen : PySem.W.nsIn K mainGlobals "len" = some none)
    (hzabs : PySem.W.nsIn K mainGlobals "abs" = some none)
    (hzbool : PySem.W.nsIn K mainGlobals "bool" = some none)
    (hztuple : PySem.W.nsIn K mainGlobals "tuple" = some none)
    (hzisinstance : PySem.W.nsIn K mainGlobals "isinstance" = some none)
    (hzrange : PySem.W.nsIn K mainGlobals "range" = some none)
    (hzmax : PySem.W.nsIn K mainGlobals "max" = some none)
    (hzmin : PySem.W.nsIn K mainGlobals "min" = some none)
    (hzall : PySem.W.nsIn K mainGlobals "all" = some none)
    (hzrepr : PySem.W.nsIn K mainGlobals "repr" = some none) :
    ∃ fd : FuncData, (∀ (s : Shared) (v : Value), BindsTo s fd ⟨[v], []⟩ [("_law_script", v)]) ∧ ∀ base : Heap, K.In base → base.Ns mainGlobals mg → FnG l.prog w K mg base CX0 7 fa fd P_law (spLaw K) := by
  have e := hfa.symm.trans (PySem.W.mg_of X G halaw)
  cases e
  have T : Txt mg := ⟨PySem.W.mg_none_of X G hzint, PySem.W.mg_none_of X G hzlen, PySem.W.mg_none_of X G hzabs, PySem.W.mg_none_of X G hzbool, PySem.W.mg_none_of X G hztuple, PySem.W.mg_none_of X G hzisinstance, PySem.W.mg_none_of X G hzrange, PySem.W.mg_none_of X G hzmax, PySem.W.mg_none_of X G hzmin, PySem.W.mg_none_of X G hzall, PySem.W.mg_none_of X G hzrepr⟩
  have KT : KindT K C := ⟨⟨hpg, hhd, hpo, hsa⟩, hnlow, hnhigh, hnsize⟩
  have KO : KindO K C := ⟨⟨KT.cl, heO1, heW4, heW5, heO4, if_pos (beq_self_eq_true _)⟩, heO5, heO6⟩
  have gKind := PySem.W.mg_of X G haC
  have Fis_integer := fun_mk (st := s_is_integer) hlis_integer hcis_integer hkis_integer
  have bis_integer := Fis_integer.binds (ps := P_is_integer) fun _ _ _ _ _ _ us hl => match us, hl with | [_], _ => rfl
  have Flesser := fun_mk (st := s_lesser) hllesser hclesser hklesser
  have blesser := Flesser.binds (ps := P_lesser) fun _ _ _ _ _ _ us hl => match us, hl with | [_, _], _ => rfl
  have Fgreater := fun_mk (st := s_greater) hlgreater hcgreater hkgreater
  have bgreater := Fgreater.binds (ps := P_greater) fun _ _ _ _ _ _ us hl => match us, hl with | [_, _], _ => rfl
  have FKind___init__ := fun_mk (st := s_Kind___init__) hlKind___init__ hcKind___init__ hkKind___init__
  have bKind___init__ := FKind___init__.binds (ps := P_Kind___init__) fun _ _ _ _ _ _ us hl => match us, hl with | [_, _, _], _ => rfl
  have FKind___eq__ := fun_mk (st := s_Kind___eq__) hlKind___eq__ hcKind___eq__ hkKind___eq__
  have bKind___eq__ := FKind___eq__.binds (ps := P_Kind___eq__) fun _ _ _ _ _ _ us hl => match us, hl with | [_, _], _ => rfl
  have FKind___le__ := fun_mk (st := s_Kind___le__) hlKind___le__ hcKind___le__ hkKind___le__
  have bKind___le__ := FKind___le__.binds (ps := P_Kind___le__) fun _ _ _ _ _ _ us hl => match us, hl with | [_, _], _ => rfl
  have FKind___lt__ := fun_mk (st := s_Kind___lt__) hlKind___lt__ hcKind___lt__ hkKind___lt__
  have bKind___lt__ := FKind___lt__.binds (ps := P_Kind___lt__) fun _ _ _ _ _ _ us hl => match us, hl with | [_, _], _ => rfl
  have FKind___ge__ := fun_mk (st := s_Kind___ge__) hlKind___ge__ hcKind___ge__ hkKind___ge__
  have bKind___ge__ := FKind___ge__.binds (ps := P_Kind___ge__) fun _ _ _ _ _ _ us hl => match us, hl with | [_, _], _ => rfl
  have FKind___gt__ := fun_mk (st := s_Kind___gt__) hlKind___gt__ hcKind___gt__ hkKind___gt__
  have bKind___gt__ := FKind___gt__.binds (ps := P_Kind___gt__) fun _ _ _ _ _ _ us hl => match us, hl with | [_, _], _ => rfl
  have FKind___and__ := fun_mk (st := s_Kind___and__) hlKind___and__ hcKind___and__ hkKind___and__
  have bKind___and__ := FKind___and__.binds (ps := P_Kind___and__) fun _ _ _ _ _ _ us hl => match us, hl with | [_, _], _ => rfl
  have FKind___or__ := fun_mk (st := s_Kind___or__) hlKind___or__ hcKind___or__ hkKind___or__
  have bKind___or__ := FKind___or__.binds (ps := P_Kind___or__) fun _ _ _ _ _ _ us hl => match us, hl with | [_, _], _ => rfl
  have F_law_pot_of := fun_mk (st := s__law_pot_of) hl_law_pot_of hc_law_pot_of hk_law_pot_of
  have b_law_pot_of := F_law_pot_of.binds (ps := P__law_pot_of) fun _ _ _ _ _ _ us hl => match us, hl with | [_, _], _ => rfl
  have F_law_take := fun_mk (st := s__law_take) hl_law_take hc_law_take hk_law_take
  have b_law_take := F_law_take.binds (ps := P__law_take) fun _ _ _ _ _ _ us hl => match us, hl with | [_, _], _ => rfl
  have F_law_of := fun_mk (st := s__law_of) hl_law_of hc_law_of hk_law_of
  have b_law_of := F_law_of.binds (ps := P__law_of) fun _ _ _ _ _ _ us hl => match us, hl with | [_, _], _ => rfl
  have F_law_kind := fun_mk (st := s__law_kind) hl_law_kind hc_law_kind hk_law_kind
  have b_law_kind := F_law_kind.binds (ps := P__law_kind) fun _ _ _ _ _ _ us hl => match us, hl with | [_], _ => rfl
  have F_law_pair_right := fun_mk (st := s__law_pair_right) hl_law_pair_right hc_law_pair_right hk_law_pair_right
  have b_law_pair_right := F_law_pair_right.binds (ps := P__law_pair_right) fun _ _ _ _ _ _ us hl => match us, hl with | [_, _], _ => rfl
  have F_law_three_right := fun_mk (st := s__law_three_right) hl_law_three_right hc_law_three_right hk_law_three_right
  have b_law_three_right := F_law_three_right.binds (ps := P__law_three_right) fun _ _ _ _ _ _ us hl => match us, hl with | [_], _ => rfl
  have Flaw := fun_mk (st := s_law) hllaw hclaw hklaw
  refine ⟨PySem.W.fnOf "law" "law" (defArgs s_law) (defBody s_law) (defScope s_law) .none kVlaw dclaw pmlaw anlaw cdlaw ctlaw, fun s v => .of_eq rfl, fun base _ _ => ?_⟩
  have cis_integer : Cal l.prog w K mg base 1 "is_integer" P_is_integer spIsInt := ⟨fis_integer, _, ok_is_integer Fis_integer T, bis_integer, PySem.W.mg_of X G hais_integer, hkis_integer⟩
  have cKind : CalK l.prog w K mg base C := ⟨fKind___init__, _, ⟨hmk, haKind___init__, hiKind___init__, hkc⟩, ok_Kind FKind___init__ KT cis_integer, bKind___init__, PySem.W.mg_of X G haC⟩
  have clesser : Cal l.prog w K mg base 1 "lesser" P_lesser spMin := ⟨flesser, _, ok_lesser Flesser, blesser, PySem.W.mg_of X G halesser, hklesser⟩
  have cgreater : Cal l.prog w K mg base 1 "greater" P_greater spMax := ⟨fgreater, _, ok_greater Fgreater, bgreater, PySem.W.mg_of X G hagreater, hkgreater⟩
  have cKind___eq__ : CalN l.prog w K mg base  C 1 "__eq__" P_Kind___eq__ (spCmp C eqB) := ⟨fKind___eq__, _, ⟨haKind___eq__, hiKind___eq__, hkKind___eq__⟩, ok_eq FKind___eq__ T KT KO gKind, bKind___eq__⟩
  have cKind___le__ : CalN l.prog w K mg base  C 1 "__le__" P_Kind___le__ (spCmp C leB) := ⟨fKind___le__, _, ⟨haKind___le__, hiKind___le__, hkKind___le__⟩, ok_le FKind___le__ T KT KO gKind, bKind___le__⟩
  have cKind___lt__ : CalN l.prog w K mg base  C 2 "__lt__" P_Kind___lt__ (spCmp C ltB) := ⟨fKind___lt__, _, ⟨haKind___lt__, hiKind___lt__, hkKind___lt__⟩, ok_lt FKind___lt__ T KT KO gKind cKind___le__ cKind___eq__, bKind___lt__⟩
  have cKind___ge__ : CalN l.prog w K mg base  C 2 "__ge__" P_Kind___ge__ (spCmp C geB) := ⟨fKind___ge__, _, ⟨haKind___ge__, hiKind___ge__, hkKind___ge__⟩, ok_ge FKind___ge__ T KT KO gKind cKind___le__, bKind___ge__⟩
  have cKind___gt__ : CalN l.prog w K mg base  C 3 "__gt__" P_Kind___gt__ (spCmp C gtB) := ⟨fKind___gt__, _, ⟨haKind___gt__, hiKind___gt__, hkKind___gt__⟩, ok_gt FKind___gt__ T KT KO gKind cKind___lt__, bKind___gt__⟩
  have cKind___and__ : CalN l.prog w K mg base  C 4 "__and__" P_Kind___and__ (spMeet C mx mn) := ⟨fKind___and__, _, ⟨haKind___and__, hiKind___and__, hkKind___and__⟩, ok_and FKind___and__ T KT KO cKind clesser cgreater, bKind___and__⟩
  have cKind___or__ : CalN l.prog w K mg base  C 4 "__or__" P_Kind___or__ (spMeet C mn mx) := ⟨fKind___or__, _, ⟨haKind___or__, hiKind___or__, hkKind___or__⟩, ok_or FKind___or__ T KT KO cKind clesser cgreater, bKind___or__⟩
  have c_law_take : Cal l.prog w K mg base 1 "_law_take" P__law_take spTake := ⟨f_law_take, _, ok_take F_law_take T, b_law_take, PySem.W.mg_of X G ha_law_take, hk_law_take⟩
  have c_law_of : Cal l.prog w K mg base 2 "_law_of" P__law_of spOf := ⟨f_law_of, _, ok_of F_law_of T c_law_take, b_law_of, PySem.W.mg_of X G ha_law_of, hk_law_of⟩
  have c_law_pot_of : Cal l.prog w K mg base 1 "_law_pot_of" P__law_pot_of (spPotOf K) := ⟨f_law_pot_of, _, ok_pot_of F_law_pot_of T, b_law_pot_of, PySem.W.mg_of X G ha_law_pot_of, hk_law_pot_of⟩
  have c_law_kind : Cal l.prog w K mg base 3 "_law_kind" P__law_kind spDraw := ⟨f_law_kind, _, ok_draw F_law_kind T c_law_take c_law_of, b_law_kind, PySem.W.mg_of X G ha_law_kind, hk_law_kind⟩
  have c_law_pair_right : CalG l.prog w K mg base 5 "_law_pair_right" P__law_pair_right spPair := ⟨f_law_pair_right, _, ok_pair F_law_pair_right T KT KO cKind cKind___eq__ cKind___le__ cKind___lt__ cKind___ge__ cKind___gt__ cKind___and__ cKind___or__, b_law_pair_right, PySem.W.mg_of X G ha_law_pair_right, hk_law_pair_right⟩
  have c_law_three_right : CalG l.prog w K mg base 6 "_law_three_right" P__law_three_right (spRight 9) := ⟨f_law_three_right, _, ok_three F_law_three_right T KT KO cKind cKind___eq__ cKind___le__ cKind___ge__ cKind___and__ cKind___or__ c_law_kind c_law_pair_right, b_law_three_right, PySem.W.mg_of X G ha_law_three_right, hk_law_three_right⟩
  exact ok_law Flaw T c_law_pot_of c_law_three_right
end Zg

open PySem PySem.W PyProof.Rows in
set_option maxRecDepth 100000 in
set_option maxHeartbeats 0 in
theorem PySem.Challenge.cw_widerkeys_k02_kinds_compared_holds : PySem.Challenge.rw_widerkeys_k02_kinds_compared.Holds := by
  w_on; o_law; k_head; (case hw => w_witness2)
  k_fill
  refine Zg.walkG (l := PySem.Challenge.rw_widerkeys_k02_kinds_compared) (sp := Zg.spLaw) (x := "_law_script") (k := 7) rfl (by decide) rfl ⟨rfl, by decide, by decide⟩ (fun w h Y => PySem.W.kIn_of Y) ?F (fun K H a ns hl hS => ⟨a, ns, rfl, hS, hl, fun _ => rfl⟩)
  case F =>
    intro w mg fa h KX G hmg
    refine' Zg.all_mk KX G hmg ?haC ?hpg ?hhd ?hpo ?hsa ?hmk ?hkc ?hnlow ?hnhigh ?hnsize ?heO1 ?heO4 ?heO5 ?heO6 ?heW4 ?heW5 ?hais_integer ?hlis_integer ?hcis_integer ?hkis_integer ?halesser ?hllesser ?hclesser ?hklesser ?hagreater ?hlgreater ?hcgreater ?hkgreater ?haKind___init__ ?hiKind___init__ ?hlKind___init__ ?hcKind___init__ ?hkKind___init__ ?haKind___eq__ ?hiKind___eq__ ?hlKind___eq__ ?hcKind___eq__ ?hkKind___eq__ ?haKind___le__ ?hiKind___le__ ?hlKind___le__ ?hcKind___le__ ?hkKind___le__ ?haKind___lt__ ?hiKind___lt__ ?hlKind___lt__ ?hcKind___lt__ ?hkKind___lt__ ?haKind___ge__ ?hiKind___ge__ ?hlKind___ge__ ?hcKind___ge__ ?hkKind___ge__ ?haKind___gt__ ?hiKind___gt__ ?hlKind___gt__ ?hcKind___gt__ ?hkKind___gt__ ?haKind___and__ ?hiKind___and__ ?hlKind___and__ ?hcKind___and__ ?hkKind___and__ ?haKind___or__ ?hiKind___or__ ?hlKind___or__ ?hcKind___or__ ?hkKind___or__ ?ha_law_pot_of ?hl_law_pot_of ?hc_law_pot_of ?hk_law_pot_of ?ha_law_take ?hl_law_take ?hc_law_take ?hk_law_take ?ha_law_of ?hl_law_of ?hc_law_of ?hk_law_of ?ha_law_kind ?hl_law_kind ?hc_law_kind ?hk_law_kind ?ha_law_pair_right ?hl_law_pair_right ?hc_law_pair_right ?hk_law_pair_right ?ha_law_three_right ?hl_law_three_right ?hc_law_three_right ?hk_law_three_right ?halaw ?hllaw ?hclaw ?hklaw ?hzint ?hzlen ?hzabs ?hzbool ?hztuple ?hzisinstance ?hzrange ?hzmax ?hzmin ?hzall ?hzrepr
    (case haC => k_is)
    (case hpg => k_is)
    (case hhd => k_is)
    (case hpo => k_is)
    (case hsa => k_is)
    (case hmk => k_is)
    (case hkc => k_is)
    (case hnlow => k_is)
    (case hnhigh => k_is)
    (case hnsize => k_is)
    (case heO1 => k_is)
    (case heO4 => k_is)
    (case heO5 => k_is)
    (case heO6 => k_is)
    (case heW4 => k_is)
    (case heW5 => k_is)
    (case hais_integer => k_is)
    (case hlis_integer => k_is)
    (case hcis_integer => k_is)
    (case hkis_integer => k_is)
    (case halesser => k_is)
    (case hllesser => k_is)
    (case hclesser => k_is)
    (case hklesser => k_is)
    (case hagreater => k_is)
    (case hlgreater => k_is)
    (case hcgreater => k_is)
    (case hkgreater => k_is)
    (case haKind___init__ => k_is)
    (case hiKind___init__ => k_is)
    (case hlKind___init__ => k_is)
    (case hcKind___init__ => k_is)
    (case hkKind___init__ => k_is)
    (case haKind___eq__ => k_is)
    (case hiKind___eq__ => k_is)
    (case hlKind___eq__ => k_is)
    (case hcKind___eq__ => k_is)
    (case hkKind___eq__ => k_is)
    (case haKind___le__ => k_is)
    (case hiKind___le__ => k_is)
    (case hlKind___le__ => k_is)
    (case hcKind___le__ => k_is)
    (case hkKind___le__ => k_is)
    (case haKind___lt__ => k_is)
    (case hiKind___lt__ => k_is)
    (case hlKind___lt__ => k_is)
    (case hcKind___lt__ => k_is)
    (case hkKind___lt__ => k_is)
    (case haKind___ge__ => k_is)
    (case hiKind___ge__ => k_is)
    (case hlKind___ge__ => k_is)
    (case hcKind___ge__ => k_is)
    (case hkKind___ge__ => k_is)
    (case haKind___gt__ => k_is)
    (case hiKind___gt__ => k_is)
    (case hlKind___gt__ => k_is)
    (case hcKind___gt__ => k_is)
    (case hkKind___gt__ => k_is)
    (case haKind___and__ => k_is)
    (case hiKind___and__ => k_is)
    (case hlKind___and__ => k_is)
    (case hcKind___and__ => k_is)
    (case hkKind___and__ => k_is)
    (case haKind___or__ => k_is)
    (case hiKind___or__ => k_is)
    (case hlKind___or__ => k_is)
    (case hcKind___or__ => k_is)
    (case hkKind___or__ => k_is)
    (case ha_law_pot_of => k_is)
    (case hl_law_pot_of => k_is)
    (case hc_law_pot_of => k_is)
    (case hk_law_pot_of => k_is)
    (case ha_law_take => k_is)
    (case hl_law_take => k_is)
    (case hc_law_take => k_is)
    (case hk_law_take => k_is)
    (case ha_law_of => k_is)
    (case hl_law_of => k_is)
    (case hc_law_of => k_is)
    (case hk_law_of => k_is)
    (case ha_law_kind => k_is)
    (case hl_law_kind => k_is)
    (case hc_law_kind => k_is)
    (case hk_law_kind => k_is)
    (case ha_law_pair_right => k_is)
    (case hl_law_pair_right => k_is)
    (case hc_law_pair_right => k_is)
    (case hk_law_pair_right => k_is)
    (case ha_law_three_right => k_is)
    (case hl_law_three_right => k_is)
    (case hc_law_three_right => k_is)
    (case hk_law_three_right => k_is)
    (case halaw => k_is)
    (case hllaw => k_is)
    (case hclaw => k_is)
    (case hklaw => k_is)
    (case hzint => k_is)
    (case hzlen => k_is)
    (case hzabs => k_is)
    (case hzbool => k_is)
    (case hztuple => k_is)
    (case hzisinstance => k_is)
    (case hzrange => k_is)
    (case hzmax => k_is)
    (case hzmin => k_is)
    (case hzall => k_is)
    (case hzrepr => k_is)
#print axioms PySem.Challenge.cw_widerkeys_k02_kinds_compared_holds
