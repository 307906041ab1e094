import PyProof.Rows.All
import Wide.All
import OpenK.AllK
import Wide.FinOn
import PyProof.ReprRoads
import HandS.Base
import HandS.Call
import HandS.List
import HandS.Comp
import HandS.Ends
import HandS.Words
import HandS.TupAny
import HandS.Zip
import HandS.ForMost
import HandS.Wide
import HandS.IsInst
import HandS.Dict
import HandS.Codes
import HandS.Text
import HandS.Style
import HandS.TryOnly
import HandS.FStr
import HandS.StrMore
import HandS.Deep
import KE.DatumMoreOrd
import HandS.TupLe
import HandS.SlotsOwn
import HandS.More
import HandS.TupMul
import HandS.RaiseMore
import KE.GoesMore
import KE.GoesEnum
import HandS.ForExc
import HandS.ExcField
import HandS.ExcInit
import KE.KExcIs
import HandS.ExcIs
import HandS.HeadHook3
import PyProof.InstNe
import HandS.CallLocal
import HandS.DictComp
import HandS.WrittenGet
import OpenK.KMore
import PyProof.Rows.SortStr
import HandS.Head0
import HandS.Head1
import HandS.Head2
import HandS.HeadHook1
import HandS.HeadHook2
import HandS.HeadHook4
import HandS.TryMany
import HandS.Small
import HandS.Sort
import PyProof.ListRange
import KE.KDictPairs
import HandS.Strs
import KE.KRevSl
import PyProof.ReprBulk
import PySem.Challenge.RW_widerkeys_k35_what_is_a_mark
set_option Elab.async false
set_option linter.all false
set_option maxRecDepth 100000
set_option maxHeartbeats 8000000
namespace Zg
open PySem PySem.Spec PyProof.Rows L2
def CPowZ (i j : Int) : Prop := 0 ≤ j ∧ (Builtin.Int.intBits i : Int) * j ≤ 2 ^ 27
theorem op_powZ {X : Cx} : OpR X (binaryOp .Pow) (rI CPowZ fun i j => .int (i ^ j.toNat)) :=
  opI fun _ _ _ _ _ _ _ hc q => pow_int hc.1 hc.2 q
/-- no repr runs around -/
def Calm (A : Around) : Prop := A.guards = some []
theorem Calm.deeper {A : Around} {env : Env} (h : Calm A) : Calm (A.deeper env) := h
/-- repr(x), x data at any depth -/
def rReprD (K : PySem.W.Frag) : List V → Hp → VK → Prop := fun xs H Q =>
  ∃ (x : V) (d : PyData), xs = [x] ∧ Dp K H x d ∧ d.showable = true ∧ d.hasDict = false ∧
    d.depth ≤ 64 ∧ d.shown.length ≤ sizeLine ∧ (∀ i, x = .int i → i.natAbs.log2 < 1920) ∧ Q (.str d.shown) H
theorem call_reprD {X : Cx} (hg : Calm X.A) (hu : X.A.units + 70 < cLine) : CallR X (.builtin "repr") (rReprD X.K) := by
  intro pins s σ H xs us Q I r h
  obtain ⟨x, d, rfl, hd, hs, hn, hdep, hsz, hi, q⟩ := h
  obtain ⟨u, rfl, rx⟩ := vals1 r
  obtain ⟨as, rd⟩ := Dp.reads I d x u hd rx
  have nod : d.hasDict = true → sysModules ∉ as := fun z => by rw [hn] at z; cases z
  cases hd with
  | non =>
    cases rx
    exact PySem.P.repr_of_none ⟨.str _, H, I.tok _, ⟨_, rfl⟩, q⟩
  | bl b =>
    cases rx
    refine PySem.P.repr_of_bool ⟨.str _, H, I.tok _, ⟨_, rfl⟩, ?_⟩
    cases b <;> exact q
  | int i =>
    obtain ⟨t, rfl⟩ := rx
    exact PySem.P.repr_of_int (hi i rfl) ⟨.str _, H, I.tok _, ⟨_, rfl⟩, q⟩
  | str z =>
    obtain ⟨t, rfl⟩ := rx
    exact PySem.P.repr_of_str ⟨.str _, H, I.tok _, ⟨_, rfl⟩, q⟩ hsz
  | lst h1 h2 =>
    cases rx
    refine repr_of_reads' rd hs nod hg (by omega) (fun _ _ e => e) (fun h' u tk hk => ?_) hsz
    exact ⟨.str _, H, I.kept (t' := tk) hk, ⟨_, rfl⟩, q⟩
  | tup h1 h2 =>
    cases rx
    refine repr_of_reads' rd hs nod hg (by omega) (fun _ _ e => e) (fun h' u tk hk => ?_) hsz
    exact ⟨.str _, H, I.kept (t' := tk) hk, ⟨_, rfl⟩, q⟩
section
variable {P : Program} {w : World} {K : PySem.W.Frag} {mg : Str → Option Value} {base : Heap} {CX : CXT} {k : Nat} {f : Addr} {fd : FuncData} {ps : List Str} {sp : Sp}
/-- a def keeps its promise wherever it is called with no repr around -/
structure FnG (P : Program) (w : World) (K : PySem.W.Frag) (mg : Str → Option Value) (base : Heap) (CX : CXT)
    (k : Nat) (f : Addr) (fd : FuncData) (ps : List Str) (sp : Sp) : Prop where
  many : ∀ vs H Q E, sp vs H Q E → vs.length = ps.length
  goes : ∀ (A : Around), Calm A → ∀ (fr : List Env) (s : Shared) (H : Hp) (args : Args) (us : List Value) (vs : List V) (Q : VK) (E : XK),
    Room k A → Env0 P w K mg base A fr s H → BindsTo s fd args (ps.zip us) → Vals vs us → sp vs H Q E →
      codeAny (model P w) A (.call (.ref f) args) (CR CX fr P w H s Q E) s
theorem FnG.of (F : FnOk P w K mg base CX k f fd ps sp) : FnG P w K mg base CX k f fd ps sp :=
  ⟨F.len, fun A _ fr s H args us vs Q E r e b v h => F.run A fr s H args us vs Q E r e b v h⟩
theorem FnG.up {j : Nat} (F : FnG P w K mg base CX j f fd ps sp) (h : j ≤ k) : FnG P w K mg base CX k f fd ps sp :=
  ⟨F.many, fun A c fr s H args us vs Q E r => F.goes A c fr s H args us vs Q E (r.mono h)⟩
/-- a def of the text, by its body, with no repr around -/
theorem Fun_okG {x qual : Str} {st : Stmt} {N : List Str} (F : Fun K x qual st f fd) (S : FnScope N ps (defScope st)) (len : ∀ vs H Q E, sp vs H Q E → vs.length = ps.length)
    (hbody : ∀ (cd : Value) (A : Around) (fr : List Env) (s : Shared) (H : Hp) (vs : List V) (Q : VK) (E : XK), Calm A →
      Room k (A.deeper (envOfC qual (defScope st) s.heap.objs.size f cd)) → sp vs H Q E →
        ∃ t, PSs (cxOf CX P w K mg base N qual (defScope st) f cd A fr s H E).nox (defBody st) t ∧ t { nx := fun _ H' => Q .non H', rt := Q } (start N vs) H) :
    FnG P w K mg base CX (k + 1) f fd ps sp := by
  obtain ⟨oc, od, kw, doc, pm, an, cd, ct, osl, rfl, at_f, hcd⟩ := F.ex
  constructor
  · exact len
  intro A calm fr s H args us vs Q E room e0 binds rel hsp
  have hlen := len _ _ _ _ hsp
  have stays : ∀ b o, base.get? b = some o → s.heap.get? b = some o := fun b o e => (e0.bs b o e).1
  refine codeAny_call_function room.depth (e0.mod.kin.keeps stays _ _ at_f) rfl S.co S.gen rfl (PySem.W.codeRec_of (e0.mod.kin.keeps stays) hcd) (binds _ _ _ _ ?_)
  refine wpAny_newFunctionEnv_cells S.kind (fun ⟨n, v⟩ hy => ?_) fun env he s1 inC => ?_
  · cases S.par n (List.of_mem_zip hy).1 with
    | inl z => exact .inl z
    | inr z => exact .inr ⟨z, PySem.W.cellsFrom_some _ _ _ (.inl z)⟩
  subst he
  refine ⟨(e0.mod.nolimit.keeps stays).keeps inC.toInCall.keep, codeAny_func ?_⟩
  obtain ⟨t, ht, hq⟩ := hbody cd A fr s H vs Q E calm (room.deeper _) hsp
  refine wpAny_mono (ht.nox.run [] s1 (start N vs) H _ (inv_start (CX := CX) S room.hd e0 hlen rel inC) hq) (fun fl s' z => ?_) fun _ _ z => z
  match fl, z with
  | .ret _, ⟨v, _, H', J, rv, q⟩ => exact ⟨v, H', J.os, J.bare, J.base, J.hok, rv, q⟩
  | .next, ⟨_, H', J, q⟩ => exact ⟨.non, H', J.os, J.bare, J.base, J.hok, rfl, q⟩
  | .brk, ⟨_, _, _, q⟩ => exact q.elim
  | .cont, ⟨_, _, _, q⟩ => exact q.elim
end
/-- the script alone is tracked, or nothing -/
def track (a : Addr) (o : HO) : Hp := fun b => if b = a then some o else none
theorem track_at {a : Addr} {o : HO} : track a o a = some o := if_pos rfl
theorem track_off {a b : Addr} {o : HO} (h : b ≠ a) : track a o b = none := if_neg h
theorem lawG {P : Program} {w : World} {K : PySem.W.Frag} {mg mb : Str → Option Value} {k : Nat} {fa a : Addr} {fd : FuncData} {x : Str} {sp : Sp} {s : Shared} {us : List Value} {ns : List Int}
    (kin : K.In s.heap) (gl : s.heap.Ns mainGlobals mg) (bl : s.heap.Ns builtinsNs mb) (bb : ∀ x : Str, x ≠ "__name__" → mb x = bootBuiltins x) (lim : s.heap.NoLimit) (gens : s.gens = #[])
    (ha : s.heap.get? a = some { cls := .type "list", data := .seq us.toArray }) (whole : IntsAre us ns) (line : ns.length ≤ sizeLine) (room : Room k callerA)
    (F : ∀ base : Heap, K.In base → base.Ns mainGlobals mg → FnG P w K mg base CX0 k fa fd [x] sp)
    (bind : ∀ (s : Shared) (u : Value), BindsTo s fd ⟨[u], []⟩ [(x, u)])
    (hsp : ∀ H : Hp, SqL K H a (ns.map V.int) → sp [.ref a] H (fun v _ => v = .bl true) fun _ _ _ => False) :
    codeAny (model P w) callerA (.call (.ref fa) ⟨[.ref a], []⟩) (fun r s' => r = .ok (.ret (.bool true)) ∧ OldK s.heap s'.heap ∧ s'.os = s.os ∧ AllBare s'.gens) s := by
  have rel := vals_ints whole
  have size := whole.length
  -- H: the script, or nothing; what H does not track is in the base
  have go : ∀ H : Hp, SqL K H a (ns.map V.int) → HOk P w H s.heap → (∀ b u, H b = some u → b = a ∧ K.lookup a = none ∧ ∃ o xs, u = .frz o (.lst xs)) →
      codeAny (model P w) callerA (.call (.ref fa) ⟨[.ref a], []⟩) (fun r s' => r = .ok (.ret (.bool true)) ∧ OldK s.heap s'.heap ∧ s'.os = s.os ∧ AllBare s'.gens) s := by
    intro H hS hok only
    have free : ∀ {b : Addr}, b ≠ a → H b = none := fun {b} hb => by
      cases q : H b with
      | none => rfl
      | some u => exact absurd (only b u q).1 hb
    have notDict : ∀ {b : Addr} {o : Obj} {es : Array DictEntry} {n : Nat}, s.heap.get? b = some o → o.data = .dict es n → b ≠ a := fun {b o es n} e d z => by
      subst z
      rw [ha] at e
      have e' := Option.some.inj e
      subst e'
      cases d
    have keepNs : ∀ {b : Addr} {m : Str → Option Value}, s.heap.Ns b m → (hidT s.heap H).Ns b m := fun {b m} z => by
      obtain ⟨o, es, n, e, d, r⟩ := z
      exact ⟨o, es, n, hidT_get e (free (notDict e d)), d, r⟩
    have kinB : K.In (hidT s.heap H) := fun b o e => hidT_get (kin b o e) (by
      cases q : H b with
      | none => rfl
      | some u =>
        obtain ⟨z, no, _⟩ := only b u q
        rw [z, no] at e
        cases e)
    have limB : (hidT s.heap H).NoLimit := by
      obtain ⟨m, h1, h2⟩ := lim
      exact ⟨m, keepNs h1, h2⟩
    have e0 : Env0 P w K mg (hidT s.heap H) callerA [] s H :=
      { frames := rfl, mod := ⟨kinB, keepNs gl, ⟨mb, keepNs bl, bb⟩, limB⟩, bs := fun b o e => of_hidT e, bsz := Nat.le_of_eq (hidT_size _ _), funs := trivial,
        frf := fun b hb => (List.not_mem_nil (show b ∈ ([] : List Addr) from hb)).elim, hok := hok, bare := .of_eq gens }
    refine codeAny_mono ((F _ kinB (keepNs gl)).goes callerA rfl [] s H ⟨[.ref a], []⟩ [.ref a] [.ref a] _ _ room e0 (bind s (.ref a)) (.cons rfl .nil) (hsp H hS)) fun r s' z => ?_
    match r, z with
    | .error _, z => exact False.elim z
    | .ok .next, z => exact False.elim z
    | .ok .brk, z => exact False.elim z
    | .ok .cont, z => exact False.elim z
    | .ok (.ret u), z =>
      obtain ⟨v, H', os, bare, un, hok', rv, q⟩ := z
      have q' : v = .bl true := q
      subst q'
      obtain rfl : u = Value.bool true := rv
      refine ⟨rfl, OldK.of_keep fun b o e => ?_, os, bare⟩
      cases q : H b with
      | none => exact un.keep b o e q (List.not_mem_nil) (List.not_mem_nil)
      | some u =>
        obtain ⟨_, _, ob, xs, eu⟩ := only b u q
        subst eu
        have h1 := (hok b _ q).1
        have h2 := (hok' b _ (un.frzs b ob _ q)).1
        rw [e] at h1
        rw [h2, ← Option.some.inj h1]
  cases hk : K.lookup a with
  | none =>
    refine go (track a (.frz { cls := .type "list", data := .seq us.toArray } (.lst (ns.map V.int)))) (.inl (.inr ⟨_, track_at⟩)) (fun b u z => ?_) fun b u z => ?_
    · by_cases hb : b = a
      · subst hb
        have z' := track_at.symm.trans z
        cases z'
        exact ⟨ha, by rw [List.length_map]; exact line, us, _, rel, ha⟩
      · rw [track_off hb] at z
        cases z
    · by_cases hb : b = a
      · subst hb
        have z' := track_at.symm.trans z
        cases z'
        exact ⟨rfl, hk, _, _, rfl⟩
      · rw [track_off hb] at z
        cases z
  | some o =>
    have e := kin a o hk
    rw [ha] at e
    have e' := Option.some.inj e
    subst e'
    have small : us.toArray.size ≤ sizeLine := by rw [List.size_toArray, size]; exact line
    refine go (fun _ => none) (.inr ⟨_, us.toArray, _, hk, rfl, rfl, rfl, small, by simpa using rel⟩) (fun b u z => ?_) fun b u z => ?_
    · have z' : (none : Option HO) = some u := z
      cases z'
    · have z' : (none : Option HO) = some u := z
      cases z'
end Zg
namespace Zd
open PySem PySem.Spec PyProof.Rows L2
/-- a tuple as an object that is known -/
def PlT (H : Hp) (a : Addr) (vs : List V) : Prop := ∃ o : Obj, H a = some (.frz o (.tup vs)) ∧ o.dict = none
/-- a tuple of the module -/
def TupC (K : PySem.W.Frag) (a : Addr) (vs : List V) : Prop := ∃ (o : Obj) (its : Array Value) (n : Nat), K.lookup a = some o ∧ o.cls = .type "tuple" ∧ o.dict = none ∧ o.data = .seq its n ∧ its.size ≤ sizeLine ∧ Vals vs its.toList
theorem TupC.sq {K : PySem.W.Frag} {a : Addr} {vs : List V} (h : TupC K a vs) (H : Hp) : SqT K H a vs := by
  obtain ⟨o, its, n, h1, h2, _, h3⟩ := h
  exact .inr ⟨o, its, n, h1, h2, h3⟩
/-- the answer is a new tuple -/
def NewT (xs : List V) (H : Hp) (Q : VK) : Prop := ∀ (a : Addr) (o : Obj), H a = none → o.dict = none → Q (.ref a) (upd H a (.frz o (.tup xs)))
section
variable {X : Cx}
theorem lay_tup {pins : List (Addr × Obj)} {σ : L2.St} {H : Hp} {s : Shared} {xs : List V} {its : List Value} {Q : VK} (I : Inv X pins σ H s) (r : Vals xs its) (z : xs.length ≤ sizeLine) (q : NewT xs H Q) :
    EP X pins σ Q (.ref s.heap.objs.size) { s with heap := s.heap.push { cls := .type "tuple", data := .seq its.toArray } } := by
  have g := Heap.get?_push_size s.heap (o := { cls := .type "tuple", data := .seq its.toArray }) rfl
  exact ⟨.ref s.heap.objs.size, _, I.laid (t' := s.toks) (o := .frz { cls := .type "tuple", data := .seq its.toArray } (.tup xs)) (fun b u e => Heap.get?_push_of_some _ e) (Nat.le_refl _) ⟨g, z, its, r, ⟨_, g, rfl, _, rfl⟩⟩, rfl, q _ _ (I.hok.fresh (Nat.le_refl _)) rfl⟩
def tTup (t : TA) : TE := fun σ H Q => t σ H fun xs H1 => xs.length ≤ sizeLine ∧ NewT xs H1 Q
theorem pe_tup {es : List Expr} {t : TA} {pos : Pos} {x1} (h : PA X es t) : PE X (.Tuple es x1 pos) (tTup t) :=
  ⟨fun pins s σ H Q I hq => wpAny_Tuple_spliced (thn (h.run pos pins s σ H _ I hq) fun us s1 ⟨xs, H1, I1, r, z, q⟩ => ⟨by rw [← r.length]; exact z, lay_tup I1 r z q⟩)⟩
theorem call_tuple_of : CallR X (.type "tuple") (fun xs H Q => ∃ p ys, xs = [.ref p] ∧ ((SqL X.K H p ys ∧ NewT ys H Q) ∨ (SqT X.K H p ys ∧ Q (.ref p) H))) := fun pins s σ H xs us Q I r h => by
  obtain ⟨p, ys, rfl, ⟨hq, q⟩ | ⟨hq, q⟩⟩ := h
  · obtain ⟨u, rfl, rx⟩ := vals1 r
    cases rx
    obtain ⟨its, r', pl, hz⟩ := I.list hq
    have hl := r'.length
    refine call_tuple_list pl.isList (fun h' kp => ?_) (by simp only [List.size_toArray] <;> omega)
    exact lay_tup (s := { s with heap := h' }) (I.kept (t' := s.toks) kp) r' hz q
  · exact L2.call_tuple_of pins s σ H _ us Q I r ⟨p, ys, rfl, .inr ⟨hq, q⟩⟩
def rCatA (K : PySem.W.Frag) : R2 := fun x y H Q => ∃ a b xs ys, x = .ref a ∧ y = .ref b ∧ SqT K H a xs ∧ SqT K H b ys ∧ xs.length + ys.length ≤ sizeLine ∧
  (xs = [] → Q (.ref b) H) ∧ (xs ≠ [] → ys = [] → Q (.ref a) H) ∧ (xs ≠ [] → ys ≠ [] → NewT (xs ++ ys) H Q)
theorem op_catA : OpR X (binaryOp .Add) (rCatA X.K) := fun pins s σ H x y v u Q I rx ry h => by
  obtain ⟨a, b, xs, ys, rfl, rfl, ha, hb, hz, q0, q1, q2⟩ := h
  by_cases hx : xs = []
  · exact L2.op_catA pins s σ H _ _ v u Q I rx ry ⟨a, b, xs, ys, rfl, rfl, ha, hb, hz, q0, q1, fun n => absurd hx n⟩
  · cases rx
    cases ry
    obtain ⟨i1, r1, p1, _⟩ := I.tuple ha
    obtain ⟨i2, r2, p2, _⟩ := I.tuple hb
    refine HT.cat_tup p1 p2 (fun z => hx (r1.nil_iff.mp z)) (fun z => ⟨.ref a, H, I, rfl, q1 hx (r2.nil_iff.mp z)⟩) (fun z => ?_) (by rw [← r1.length, ← r2.length]; exact hz)
    exact lay_tup I (r1.append r2) (by rw [List.length_append]; exact hz) (q2 hx fun w => z (r2.nil_iff.mpr w))
def rSlA (K : PySem.W.Frag) : V → Option Int → Option Int → Hp → VK → Prop := fun x lo hi H Q => ∃ a xs, x = .ref a ∧ SqT K H a xs ∧
  (HT.sIx xs.length 0 lo = 0 ∧ HT.sIx xs.length xs.length hi = xs.length → Q (.ref a) H) ∧ (¬ (HT.sIx xs.length 0 lo = 0 ∧ HT.sIx xs.length xs.length hi = xs.length) → NewT (cutV xs lo hi) H Q)
theorem sl_tupA : SlR X (rSlA X.K) := fun pins s σ H x v vl vu lo hi sl Q I rx hs pl pu h => by
  obtain ⟨a, xs, rfl, hx, q1, q2⟩ := h
  by_cases hw : HT.sIx xs.length 0 lo = 0 ∧ HT.sIx xs.length xs.length hi = xs.length
  · exact L2.sl_tupA pins s σ H _ v vl vu lo hi sl Q I rx hs pl pu ⟨a, xs, rfl, hx, q1, fun n => absurd hw n⟩
  · cases rx
    obtain ⟨its, r, ht, hz⟩ := I.tuple hx
    have hl : its.toArray.size = xs.length := by rw [List.size_toArray]; exact r.length.symm
    refine ⟨"tuple", _, PyProof.Rows.slot_tuple_getitem.lookup, ht.typeIs, ?_⟩
    refine HT.getItem_tuple_cut ht hs pl pu (by rw [hl]; exact hw) ?_ (by rw [hl]; exact hz)
    rw [hl]
    exact lay_tup I ((r.drop (HT.sIx xs.length 0 lo)).take (HT.sIx xs.length xs.length hi - HT.sIx xs.length 0 lo)) (Nat.le_trans (cutV_length xs lo hi) hz) (q2 hw)
end
end Zd
namespace Zd
open PySem PySem.Spec PyProof.Rows L2
inductive Dat where
  | non | bl (b : Bool) | int (i : Int) | str (x : Str)
  | tup (ds : List Dat) | lst (ds : List Dat)
  | dic (ks : List Key) (ds : List Dat)
  | obj (c : String) (fs : List Str) (ds : List Dat)
  | loc (n : Nat)
  | ty (n : String) | cls (c : String)
  | scr (ns : List Int)
/-- what is known of the places: the written part, the classes' addresses -/
structure Cz where
  K : PySem.W.Frag
  κ : String → Addr
/-- the places that may be written: shared ones by number, the frame's own ones -/
structure Pl where
  α : List Addr
  ω : List Addr
  γ : List Addr
def Pl.has (p : Pl) (a : Addr) : Prop := a ∈ p.α ∨ a ∈ p.ω ∨ a ∈ p.γ
def LstAt (Z : Cz) (H : Hp) (p : Pl) (a : Addr) (vs : List V) : Prop := H a = some (.lst vs) ∧ ¬ p.has a
def TupAt (Z : Cz) (H : Hp) (p : Pl) (a : Addr) (vs : List V) : Prop := (PlT H a vs ∧ ¬ p.has a) ∨ TupC Z.K a vs
def DicAt (H : Hp) (p : Pl) (a : Addr) (kvs : List (Key × V)) : Prop := H a = some (.dK kvs) ∧ ¬ p.has a
def ObjAt (H : Hp) (p : Pl) (a C : Addr) (fs : List (Str × V)) : Prop := (∃ dx, H a = some (.ins C dx fs)) ∧ ¬ p.has a
mutual
def IsD (Z : Cz) (H : Hp) (p : Pl) (v : V) : Dat → Prop
  | .non => v = .non
  | .bl b => v = .bl b
  | .int i => v = .int i
  | .str x => v = .str x
  | .ty n => v = .ty n
  | .cls c => v = .ref (Z.κ c)
  | .scr ns => ∃ a, v = .ref a ∧ ((Rd H a (.lst (ns.map V.int)) ∧ ¬ p.has a) ∨ ∀ H', SqL Z.K H' a (ns.map V.int))
  | .tup ds => ∃ a vs, v = .ref a ∧ TupAt Z H p a vs ∧ IsDs Z H p vs ds
  | .lst ds => ∃ a vs, v = .ref a ∧ LstAt Z H p a vs ∧ IsDs Z H p vs ds
  | .dic ks ds => ∃ a vs, v = .ref a ∧ DicAt H p a (ks.zip vs) ∧ ks.length = vs.length ∧ IsDs Z H p vs ds
  | .obj c fs ds => ∃ a vs, v = .ref a ∧ ObjAt H p a (Z.κ c) (fs.zip vs) ∧ fs.length = vs.length ∧ IsDs Z H p vs ds
  | .loc n => ∃ a, v = .ref a ∧ p.α[n]? = some a
def IsDs (Z : Cz) (H : Hp) (p : Pl) (vs : List V) : List Dat → Prop
  | [] => vs = []
  | d :: ds => ∃ v r, vs = v :: r ∧ IsD Z H p v d ∧ IsDs Z H p r ds
end
/-- a container whose top may be the frame's own, its items may not -/
def IsW (Z : Cz) (H : Hp) (p : Pl) (v : V) : Dat → Prop
  | .lst ds => ∃ a vs, v = .ref a ∧ (H a = some (.lst vs) ∧ a ∉ p.α ∧ a ∉ p.γ) ∧ IsDs Z H p vs ds
  | .dic ks ds => ∃ a vs, v = .ref a ∧ (H a = some (.dK (ks.zip vs)) ∧ a ∉ p.α ∧ a ∉ p.γ) ∧ ks.length = vs.length ∧ IsDs Z H p vs ds
  | .obj c fs ds => ∃ a vs, v = .ref a ∧ ((∃ dx, H a = some (.ins (Z.κ c) dx (fs.zip vs))) ∧ a ∉ p.α ∧ a ∉ p.γ) ∧ fs.length = vs.length ∧ IsDs Z H p vs ds
  | d => IsD Z H p v d
/-- from here to there: places come, what may not be written stays -/
structure Ext (H : Hp) (p : Pl) (H' : Hp) (p' : Pl) : Prop where
  α : ∃ β, p'.α = p.α ++ β ∧ ∀ b ∈ β, H b = none
  ω : ∃ β, p'.ω = p.ω ++ β ∧ ∀ b ∈ β, H b = none
  γ : p'.γ = p.γ
  k : ∀ a o, H a = some o → a ∉ p.α → a ∉ p.ω → H' a = some o
  t : ∀ a, H a ≠ none → H' a ≠ none
/-- the same of an expression: the own places stay, too -/
structure ExtE (H : Hp) (p : Pl) (H' : Hp) (p' : Pl) : Prop where
  α : ∃ β, p'.α = p.α ++ β ∧ ∀ b ∈ β, H b = none
  ω : p'.ω = p.ω
  γ : p'.γ = p.γ
  k : ∀ a o, H a = some o → a ∉ p.α → H' a = some o
  t : ∀ a, H a ≠ none → H' a ≠ none
theorem ExtE.s {H H' : Hp} {p p' : Pl} (e : ExtE H p H' p') : Ext H p H' p' := ⟨e.α, ⟨[], by rw [e.ω, List.append_nil], by simp⟩, e.γ, fun a o h n _ => e.k a o h n, e.t⟩
theorem ExtE.refl {H : Hp} {p : Pl} : ExtE H p H p := ⟨⟨[], by simp⟩, rfl, rfl, fun _ _ h _ => h, fun _ h => h⟩
theorem Ext.refl {H : Hp} {p : Pl} : Ext H p H p := ExtE.refl.s
theorem Ext.has {H H' : Hp} {p p' : Pl} (e : Ext H p H' p') {a : Addr} {o : HO} (h : H a = some o) (n : ¬ p.has a) : ¬ p'.has a := by
  obtain ⟨β, e1, f1⟩ := e.α
  obtain ⟨γ, e2, f2⟩ := e.ω
  rintro (q | q | q)
  · rw [e1] at q
    rcases List.mem_append.mp q with q | q
    · exact n (.inl q)
    · rw [f1 a q] at h; cases h
  · rw [e2] at q
    rcases List.mem_append.mp q with q | q
    · exact n (.inr (.inl q))
    · rw [f2 a q] at h; cases h
  · rw [e.γ] at q
    exact n (.inr (.inr q))
theorem back_of {H H1 : Hp} (t : ∀ a, H a ≠ none → H1 a ≠ none) {b : Addr} (q : H1 b = none) : H b = none := by
  cases z : H b with
  | none => rfl
  | some o => exact absurd q (t b (by rw [z]; exact nofun))
theorem fresh_app {H H1 : Hp} (t : ∀ a, H a ≠ none → H1 a ≠ none) {α α1 α2 : List Addr} (h : ∃ β, α1 = α ++ β ∧ ∀ b ∈ β, H b = none) (g : ∃ β, α2 = α1 ++ β ∧ ∀ b ∈ β, H1 b = none) : ∃ β, α2 = α ++ β ∧ ∀ b ∈ β, H b = none := by
  obtain ⟨β, e1, f1⟩ := h
  obtain ⟨γ, e2, f2⟩ := g
  refine ⟨β ++ γ, by rw [e2, e1, List.append_assoc], fun b q => ?_⟩
  rcases List.mem_append.mp q with q | q
  · exact f1 b q
  · exact back_of t (f2 b q)
theorem not_fresh {H : Hp} {α α1 : List Addr} (h : ∃ β, α1 = α ++ β ∧ ∀ b ∈ β, H b = none) {a : Addr} {o : HO} (e : H a = some o) (n : a ∉ α) : a ∉ α1 := by
  obtain ⟨β, e1, f1⟩ := h
  intro q
  rw [e1] at q
  rcases List.mem_append.mp q with q | q
  · exact n q
  · rw [f1 a q] at e; cases e
theorem Ext.trans {H H1 H2 : Hp} {p p1 p2 : Pl} (e : Ext H p H1 p1) (f : Ext H1 p1 H2 p2) : Ext H p H2 p2 :=
  ⟨fresh_app e.t e.α f.α, fresh_app e.t e.ω f.ω, f.γ.trans e.γ, fun a o h n m => f.k a o (e.k a o h n m) (not_fresh e.α h n) (not_fresh e.ω h m), fun a h => f.t a (e.t a h)⟩
theorem ExtE.trans {H H1 H2 : Hp} {p p1 p2 : Pl} (e : ExtE H p H1 p1) (f : ExtE H1 p1 H2 p2) : ExtE H p H2 p2 :=
  ⟨fresh_app e.t e.α f.α, f.ω.trans e.ω, f.γ.trans e.γ, fun a o h n => f.k a o (e.k a o h n) (not_fresh e.α h n), fun a h => f.t a (e.t a h)⟩
theorem ExtE.same {H H' : Hp} {p : Pl} (s : Same H H') : ExtE H p H' p :=
  ⟨⟨[], by simp⟩, rfl, rfl, fun b u e _ => s b u e, fun b n => by
    cases q : H b with
    | none => exact absurd q n
    | some o => rw [s b o q]; exact nofun⟩
theorem same_new {H : Hp} {p : Addr} {o : HO} (h : H p = none) : Same H (upd H p o) := fun b u e => (upd_ne (ne_of_none e h)).trans e
theorem ExtE.new {H : Hp} {p : Pl} {a : Addr} {o : HO} (h : H a = none) : ExtE H p (upd H a o) p := .same (same_new h)
theorem Ext.keep {H H' : Hp} {p p' : Pl} (e : Ext H p H' p') {a : Addr} {o : HO} (h : H a = some o) (n : ¬ p.has a) : H' a = some o := e.k a o h (fun q => n (.inl q)) fun q => n (.inr (.inl q))
theorem Rd.ext {H H' : Hp} {p p' : Pl} (e : Ext H p H' p') {a : Addr} {u : HO} (r : Rd H a u) (n : ¬ p.has a) : Rd H' a u ∧ ¬ p'.has a := by
  rcases r with r | ⟨o, r⟩
  · exact ⟨.inl (e.keep r n), e.has r n⟩
  · exact ⟨.inr ⟨o, e.keep r n⟩, e.has r n⟩
section
variable {Z : Cz} {H H' : Hp} {p p' : Pl}
theorem LstAt.ext (e : Ext H p H' p') {a : Addr} {vs : List V} (h : LstAt Z H p a vs) : LstAt Z H' p' a vs := ⟨e.keep h.1 h.2, e.has h.1 h.2⟩
theorem PlT.ext (e : Ext H p H' p') {a : Addr} {vs : List V} (r : PlT H a vs) (n : ¬ p.has a) : PlT H' a vs ∧ ¬ p'.has a := by
  obtain ⟨o, r, d⟩ := r
  exact ⟨⟨o, e.keep r n, d⟩, e.has r n⟩
theorem TupAt.ext (e : Ext H p H' p') {a : Addr} {vs : List V} (h : TupAt Z H p a vs) : TupAt Z H' p' a vs := h.imp (fun q => PlT.ext e q.1 q.2) id
theorem LstAt.sq {a : Addr} {vs : List V} (h : LstAt Z H p a vs) : SqL Z.K H a vs := SqL.of h.1
theorem PlT.rd {a : Addr} {vs : List V} (r : PlT H a vs) : Rd H a (.tup vs) := by
  obtain ⟨o, r, _⟩ := r
  exact .inr ⟨o, r⟩
theorem TupAt.sq {a : Addr} {vs : List V} (h : TupAt Z H p a vs) : SqT Z.K H a vs := h.elim (fun q => .inl q.1.rd) fun q => q.sq H
mutual
theorem IsD.ext (e : Ext H p H' p') : ∀ (d : Dat) {v : V}, IsD Z H p v d → IsD Z H' p' v d
  | .non, _, h => by unfold IsD at h ⊢; exact h
  | .bl b, _, h => by unfold IsD at h ⊢; exact h
  | .int i, _, h => by unfold IsD at h ⊢; exact h
  | .str x, _, h => by unfold IsD at h ⊢; exact h
  | .ty n, _, h => by unfold IsD at h ⊢; exact h
  | .cls c, _, h => by unfold IsD at h ⊢; exact h
  | .scr ns, _, h => by
    unfold IsD at h ⊢
    obtain ⟨a, rfl, h1⟩ := h
    exact ⟨a, rfl, h1.imp (fun q => Rd.ext e q.1 q.2) id⟩
  | .tup ds, _, h => by
    unfold IsD at h ⊢
    obtain ⟨a, vs, rfl, h1, h2⟩ := h
    exact ⟨a, vs, rfl, h1.ext e, IsDs.ext e ds h2⟩
  | .lst ds, _, h => by
    unfold IsD at h ⊢
    obtain ⟨a, vs, rfl, h1, h2⟩ := h
    exact ⟨a, vs, rfl, h1.ext e, IsDs.ext e ds h2⟩
  | .dic ks ds, _, h => by
    unfold IsD at h ⊢
    obtain ⟨a, vs, rfl, h1, hl, h2⟩ := h
    exact ⟨a, vs, rfl, ⟨e.keep h1.1 h1.2, e.has h1.1 h1.2⟩, hl, IsDs.ext e ds h2⟩
  | .obj c fs ds, _, h => by
    unfold IsD at h ⊢
    obtain ⟨a, vs, rfl, ⟨⟨dx, h1⟩, n⟩, hl, h2⟩ := h
    exact ⟨a, vs, rfl, ⟨⟨dx, e.keep h1 n⟩, e.has h1 n⟩, hl, IsDs.ext e ds h2⟩
  | .loc n, _, h => by
    unfold IsD at h ⊢
    obtain ⟨a, rfl, h1⟩ := h
    obtain ⟨β, e1, _⟩ := e.α
    refine ⟨a, rfl, ?_⟩
    rw [e1, List.getElem?_append_left (List.getElem?_eq_some_iff.mp h1).1]
    exact h1
theorem IsDs.ext (e : Ext H p H' p') : ∀ (ds : List Dat) {vs : List V}, IsDs Z H p vs ds → IsDs Z H' p' vs ds
  | [], _, h => by unfold IsDs at h ⊢; exact h
  | d :: ds, _, h => by
    unfold IsDs at h ⊢
    obtain ⟨v, r, rfl, h1, h2⟩ := h
    exact ⟨v, r, rfl, IsD.ext e d h1, IsDs.ext e ds h2⟩
end
theorem isD_non {v : V} : IsD Z H p v .non ↔ v = .non := by unfold IsD; rfl
theorem isD_bl {v : V} {b : Bool} : IsD Z H p v (.bl b) ↔ v = .bl b := by unfold IsD; rfl
theorem isD_int {v : V} {i : Int} : IsD Z H p v (.int i) ↔ v = .int i := by unfold IsD; rfl
theorem isD_str {v : V} {x : Str} : IsD Z H p v (.str x) ↔ v = .str x := by unfold IsD; rfl
theorem isD_ty {v : V} {x : String} : IsD Z H p v (.ty x) ↔ v = .ty x := by unfold IsD; rfl
theorem isD_tup {v : V} {ds : List Dat} : IsD Z H p v (.tup ds) ↔ ∃ a vs, v = .ref a ∧ TupAt Z H p a vs ∧ IsDs Z H p vs ds := by
  constructor <;> (intro h; unfold IsD at *; exact h)
theorem isD_lst {v : V} {ds : List Dat} : IsD Z H p v (.lst ds) ↔ ∃ a vs, v = .ref a ∧ LstAt Z H p a vs ∧ IsDs Z H p vs ds := by
  constructor <;> (intro h; unfold IsD at *; exact h)
theorem isD_dic {v : V} {ks : List Key} {ds : List Dat} : IsD Z H p v (.dic ks ds) ↔ ∃ a vs, v = .ref a ∧ DicAt H p a (ks.zip vs) ∧ ks.length = vs.length ∧ IsDs Z H p vs ds := by
  constructor <;> (intro h; unfold IsD at *; exact h)
theorem isD_obj {v : V} {c : String} {fs : List Str} {ds : List Dat} : IsD Z H p v (.obj c fs ds) ↔ ∃ a vs, v = .ref a ∧ ObjAt H p a (Z.κ c) (fs.zip vs) ∧ fs.length = vs.length ∧ IsDs Z H p vs ds := by
  constructor <;> (intro h; unfold IsD at *; exact h)
theorem isD_loc {v : V} {n : Nat} : IsD Z H p v (.loc n) ↔ ∃ a, v = .ref a ∧ p.α[n]? = some a := by
  constructor <;> (intro h; unfold IsD at *; exact h)
theorem isD_scr {v : V} {ns : List Int} : IsD Z H p v (.scr ns) ↔ ∃ a, v = .ref a ∧ ((Rd H a (.lst (ns.map V.int)) ∧ ¬ p.has a) ∨ ∀ H', SqL Z.K H' a (ns.map V.int)) := by
  constructor <;> (intro h; unfold IsD at *; exact h)
theorem isDs_nil {vs : List V} : IsDs Z H p vs [] ↔ vs = [] := by unfold IsDs; rfl
theorem isDs_cons {vs : List V} {d : Dat} {ds : List Dat} : IsDs Z H p vs (d :: ds) ↔ ∃ v r, vs = v :: r ∧ IsD Z H p v d ∧ IsDs Z H p r ds := by
  rw [IsDs]
theorem IsDs.len : ∀ {ds : List Dat} {vs : List V}, IsDs Z H p vs ds → vs.length = ds.length
  | [], _, h => by rw [isDs_nil.mp h]; rfl
  | d :: ds, _, h => by
    obtain ⟨v, r, rfl, _, h2⟩ := isDs_cons.mp h
    rw [List.length_cons, List.length_cons, IsDs.len h2]
theorem IsDs.get : ∀ {ds : List Dat} {vs : List V} {i : Nat} {d : Dat}, IsDs Z H p vs ds → ds[i]? = some d → ∃ v, vs[i]? = some v ∧ IsD Z H p v d
  | [], _, i, d, _, e => by simp at e
  | c :: ds, _, 0, d, h, e => by
    obtain ⟨v, r, rfl, h1, _⟩ := isDs_cons.mp h
    simp at e
    subst e
    exact ⟨v, rfl, h1⟩
  | c :: ds, _, i + 1, d, h, e => by
    obtain ⟨v, r, rfl, _, h2⟩ := isDs_cons.mp h
    obtain ⟨u, q1, q2⟩ := IsDs.get (i := i) h2 (by simpa using e)
    exact ⟨u, by simpa using q1, q2⟩
theorem IsDs.append : ∀ {ds es : List Dat} {vs ws : List V}, IsDs Z H p vs ds → IsDs Z H p ws es → IsDs Z H p (vs ++ ws) (ds ++ es)
  | [], _, _, _, h, g => by rw [isDs_nil.mp h]; exact g
  | d :: ds, _, _, _, h, g => by
    obtain ⟨v, r, rfl, h1, h2⟩ := isDs_cons.mp h
    exact isDs_cons.mpr ⟨v, _, rfl, h1, IsDs.append h2 g⟩
theorem IsDs.one {v : V} {d : Dat} (h : IsD Z H p v d) : IsDs Z H p [v] [d] := isDs_cons.mpr ⟨v, [], rfl, h, isDs_nil.mpr rfl⟩
theorem IsDs.drop : ∀ {ds : List Dat} {vs : List V} (n : Nat), IsDs Z H p vs ds → IsDs Z H p (vs.drop n) (ds.drop n)
  | _, _, 0, h => h
  | [], _, n + 1, h => by rw [isDs_nil.mp h]; exact isDs_nil.mpr rfl
  | d :: ds, _, n + 1, h => by
    obtain ⟨v, r, rfl, _, h2⟩ := isDs_cons.mp h
    exact IsDs.drop n h2
theorem IsDs.take : ∀ {ds : List Dat} {vs : List V} (n : Nat), IsDs Z H p vs ds → IsDs Z H p (vs.take n) (ds.take n)
  | _, _, 0, _ => isDs_nil.mpr rfl
  | [], _, n + 1, h => by rw [isDs_nil.mp h]; exact isDs_nil.mpr rfl
  | d :: ds, _, n + 1, h => by
    obtain ⟨v, r, rfl, h1, h2⟩ := isDs_cons.mp h
    exact isDs_cons.mpr ⟨v, _, rfl, h1, IsDs.take n h2⟩
theorem IsDs.set : ∀ {ds : List Dat} {vs : List V} {u : V} {e : Dat} (i : Nat), IsDs Z H p vs ds → IsD Z H p u e → IsDs Z H p (vs.set i u) (ds.set i e)
  | [], _, _, _, _, h, _ => by rw [isDs_nil.mp h]; exact isDs_nil.mpr rfl
  | d :: ds, _, u, e, 0, h, g => by
    obtain ⟨v, r, rfl, _, h2⟩ := isDs_cons.mp h
    exact isDs_cons.mpr ⟨u, r, rfl, g, h2⟩
  | d :: ds, _, u, e, i + 1, h, g => by
    obtain ⟨v, r, rfl, h1, h2⟩ := isDs_cons.mp h
    exact isDs_cons.mpr ⟨v, _, rfl, h1, IsDs.set i h2 g⟩
theorem IsDs.rev : ∀ {ds : List Dat} {vs : List V}, IsDs Z H p vs ds → IsDs Z H p vs.reverse ds.reverse
  | [], _, h => by rw [isDs_nil.mp h]; exact isDs_nil.mpr rfl
  | d :: ds, _, h => by
    obtain ⟨v, r, rfl, h1, h2⟩ := isDs_cons.mp h
    rw [List.reverse_cons, List.reverse_cons]
    exact IsDs.append (IsDs.rev h2) (.one h1)
/-- strong is weak -/
theorem IsD.w {v : V} {d : Dat} (h : IsD Z H p v d) : IsW Z H p v d := by
  cases d with
  | lst ds =>
    obtain ⟨a, vs, rfl, h1, h2⟩ := isD_lst.mp h
    exact ⟨a, vs, rfl, ⟨h1.1, fun z => h1.2 (.inl z), fun z => h1.2 (.inr (.inr z))⟩, h2⟩
  | dic ks ds =>
    obtain ⟨a, vs, rfl, h1, hl, h2⟩ := isD_dic.mp h
    exact ⟨a, vs, rfl, ⟨h1.1, fun z => h1.2 (.inl z), fun z => h1.2 (.inr (.inr z))⟩, hl, h2⟩
  | obj c fs ds =>
    obtain ⟨a, vs, rfl, h1, hl, h2⟩ := isD_obj.mp h
    exact ⟨a, vs, rfl, ⟨h1.1, fun z => h1.2 (.inl z), fun z => h1.2 (.inr (.inr z))⟩, hl, h2⟩
  | _ => exact h
end
def IsTop (Z : Cz) (H : Hp) (p : Pl) (a : Addr) : Dat → Prop
  | .lst ds => ∃ vs, H a = some (.lst vs) ∧ IsDs Z H p vs ds
  | .dic ks ds => ∃ vs, H a = some (.dK (ks.zip vs)) ∧ ks.length = vs.length ∧ IsDs Z H p vs ds
  | .obj c fs ds => ∃ dx vs, H a = some (.ins (Z.κ c) dx (fs.zip vs)) ∧ fs.length = vs.length ∧ IsDs Z H p vs ds
  | _ => False
structure IsS (Z : Cz) (H : Hp) (p : Pl) (S : List Dat) : Prop where
  len : p.α.length = S.length
  nd : p.α.Nodup
  dj : ∀ a ∈ p.ω, a ∉ p.α ∧ a ∉ p.γ
  dg : ∀ a ∈ p.γ, a ∉ p.α
  wt : ∀ a, a ∈ p.ω ∨ a ∈ p.γ → H a ≠ none
  at_ : ∀ (n : Nat) (a : Addr) (d : Dat), p.α[n]? = some a → S[n]? = some d → IsTop Z H p a d
theorem IsTop.there {Z : Cz} {H : Hp} {p : Pl} {a : Addr} {d : Dat} (h : IsTop Z H p a d) : H a ≠ none := by
  cases d with
  | lst ds => obtain ⟨vs, e, _⟩ := h; rw [e]; exact nofun
  | dic ks ds => obtain ⟨vs, e, _⟩ := h; rw [e]; exact nofun
  | obj c fs ds => obtain ⟨dx, vs, e, _⟩ := h; rw [e]; exact nofun
  | _ => exact h.elim
theorem IsS.tracked {Z : Cz} {H : Hp} {p : Pl} {S : List Dat} (h : IsS Z H p S) {a : Addr} (q : p.has a) : H a ≠ none := by
  rcases q with q | q
  · obtain ⟨n, hn⟩ := List.getElem?_of_mem q
    have lt := (List.getElem?_eq_some_iff.mp hn).1
    exact (h.at_ n a (S[n]'(h.len ▸ lt)) hn (List.getElem?_eq_getElem (h.len ▸ lt))).there
  · exact h.wt a q
abbrev Env := List (Option Dat)
/-- the slots: O tells the own ones (a place of the frame's alone) -/
structure IsE (Z : Cz) (O : List Nat) (H : Hp) (p : Pl) (σ : L2.St) (ρ : Env) : Prop where
  len : σ.length = ρ.length
  get : ∀ (i : Nat) (d : Dat), i ∉ O → ρ[i]? = some (some d) → ∃ v, σ[i]? = some (some v) ∧ IsD Z H p v d
  own : ∀ (i : Nat) (d : Dat), i ∈ O → ρ[i]? = some (some d) → ∃ a, σ[i]? = some (some (.ref a)) ∧ a ∈ p.ω ∧ IsTop Z H p a d
  dj : ∀ (i j : Nat) (a : Addr), i ∈ O → j ∈ O → i ≠ j → (∃ d, ρ[i]? = some (some d)) → (∃ d, ρ[j]? = some (some d)) → σ[i]? = some (some (.ref a)) → σ[j]? ≠ some (some (.ref a))
theorem IsTop.ext {Z : Cz} {H H' : Hp} {p p' : Pl} (e : Ext H p H' p') {a : Addr} (k : ∀ o, H a = some o → H' a = some o) {d : Dat} (h : IsTop Z H p a d) : IsTop Z H' p' a d := by
  cases d with
  | lst ds => obtain ⟨vs, e1, h1⟩ := h; exact ⟨vs, k _ e1, h1.ext e⟩
  | dic ks ds => obtain ⟨vs, e1, l, h1⟩ := h; exact ⟨vs, k _ e1, l, h1.ext e⟩
  | obj c fs ds => obtain ⟨dx, vs, e1, l, h1⟩ := h; exact ⟨dx, vs, k _ e1, l, h1.ext e⟩
  | _ => exact h.elim
theorem IsE.ext {Z : Cz} {O : List Nat} {H H' : Hp} {p p' : Pl} {σ : L2.St} {ρ : Env} {S : List Dat} (e : ExtE H p H' p') (s : IsS Z H p S) (h : IsE Z O H p σ ρ) : IsE Z O H' p' σ ρ := by
  refine ⟨h.len, fun i d n q => ?_, fun i d n q => ?_, h.dj⟩
  · obtain ⟨v, h1, h2⟩ := h.get i d n q
    exact ⟨v, h1, h2.ext e.s⟩
  · obtain ⟨a, h1, h2, h3⟩ := h.own i d n q
    exact ⟨a, h1, by rw [e.ω]; exact h2, h3.ext e.s fun o z => e.k a o z (s.dj a h2).1⟩
/-- the store stays where its places do -/
theorem IsS.ext {Z : Cz} {H H' : Hp} {p : Pl} {S : List Dat} (sm : Same H H') (s : IsS Z H p S) : IsS Z H' p S :=
  ⟨s.len, s.nd, s.dj, s.dg, fun a q z => s.wt a q (back_of (ExtE.same (p := p) sm).t z), fun n a d h1 h2 => (s.at_ n a d h1 h2).ext (ExtE.same sm).s fun o z => sm a o z⟩
end Zd
namespace Zd
open PySem PySem.Spec PyProof.Rows L2
inductive Out (α : Type) where
  | ok (a : α) (S : List Dat)
  | er (c : String) (fs : List Dat) (S : List Dat)
  | bad
def M (α : Type) : Type := List Dat → Out α
def M.ret {α : Type} (a : α) : M α := fun S => .ok a S
def M.bnd {α β : Type} (m : M α) (f : α → M β) : M β := fun S => match m S with
  | .ok a S' => f a S'
  | .er c fs S' => .er c fs S'
  | .bad => .bad
def M.no {α : Type} : M α := fun _ => .bad
instance : Monad M where
  pure := M.ret
  bind := M.bnd
theorem m_bind {α β : Type} (m : M α) (f : α → M β) (S : List Dat) : (m >>= f) S = match m S with
  | .ok a S' => f a S'
  | .er c fs S' => .er c fs S'
  | .bad => .bad := rfl
instance : LawfulMonad M := LawfulMonad.mk' M (fun m => by funext S; show M.bnd m M.ret S = m S; unfold M.bnd M.ret; cases m S <;> rfl) (fun _ _ => rfl) (fun m f g => by
  funext S
  show M.bnd (M.bnd m f) g S = M.bnd m (fun x => M.bnd (f x) g) S
  unfold M.bnd
  cases m S <;> rfl)
/-- a test of one's own: what is not so is not spoken of -/
def M.need (b : Bool) : M Unit := if b then pure () else M.no
def M.opt {α : Type} : Option α → M α
  | some a => pure a
  | none => M.no
inductive Flow where
  | nx (ρ : Env) | rt (d : Dat) | bk (ρ : Env) | ct (ρ : Env)
abbrev ErW := String → List Dat → List Dat → Hp → List Addr → List Addr → Prop
abbrev XR := Hp → Pl → Hp → Pl → Prop
def Post {α : Type} (Z : Cz) (Er : ErW) (X : XR) (o : Out α) (H : Hp) (p : Pl) (C : α → List Dat → Hp → Pl → Prop) : Prop := match o with
  | .ok a S' => ∀ H' p', X H p H' p' → IsS Z H' p' S' → C a S' H' p'
  | .er c fs S' => ∀ H' p', X H p H' p' → IsS Z H' p' S' → Er c fs S' H' p'.α p'.γ
  | .bad => False
structure XOk (X : XR) : Prop where
  refl : ∀ {H p}, X H p H p
  trans : ∀ {H p H1 p1 H2 p2}, X H p H1 p1 → X H1 p1 H2 p2 → X H p H2 p2
  of : ∀ {H p H' p'}, ExtE H p H' p' → X H p H' p'
  s : ∀ {H p H' p'}, X H p H' p' → Ext H p H' p'
theorem xE : XOk ExtE := ⟨ExtE.refl, fun a b => a.trans b, id, ExtE.s⟩
theorem xS : XOk Ext := ⟨Ext.refl, fun a b => a.trans b, ExtE.s, id⟩
section
variable {Z : Cz} {Er : ErW} {X : XR} {α β : Type} {o : Out α} {H : Hp} {p : Pl} {S : List Dat}
theorem Post.bnd (x : XOk X) {m : M α} {f : α → M β} {C : β → List Dat → Hp → Pl → Prop} (h : Post Z Er X ((m >>= f) S) H p C) : Post Z Er X (m S) H p fun a S' H' p' => Post Z Er X (f a S') H' p' C := by
  rw [m_bind] at h
  cases q : m S with
  | ok a S' =>
    rw [q] at h
    show ∀ H' p', X H p H' p' → IsS Z H' p' S' → Post Z Er X (f a S') H' p' C
    intro H' p' e s
    have h : Post Z Er X (f a S') H p C := h
    unfold Post at h ⊢
    cases q2 : f a S' with
    | ok b S2 => rw [q2] at h; exact fun H2 p2 e2 s2 => h H2 p2 (x.trans e e2) s2
    | er c fs S2 => rw [q2] at h; exact fun H2 p2 e2 s2 => h H2 p2 (x.trans e e2) s2
    | bad => rw [q2] at h; exact h
  | er c fs S' =>
    rw [q] at h
    exact h
  | bad =>
    rw [q] at h
    exact h
/-- the same, from the same place -/
theorem Post.bndK {m : M α} {f : α → M β} {C : β → List Dat → Hp → Pl → Prop} (h : Post Z Er X ((m >>= f) S) H p C) : Post Z Er X (m S) H p fun a S' _ _ => Post Z Er X (f a S') H p C := by
  rw [m_bind] at h
  cases q : m S with
  | ok a S' => rw [q] at h; exact fun _ _ _ _ => h
  | er c fs S' => rw [q] at h; exact h
  | bad => rw [q] at h; exact h
theorem Post.mono {C D : α → List Dat → Hp → Pl → Prop} (h : Post Z Er X o H p C) (k : ∀ a S' H' p', X H p H' p' → IsS Z H' p' S' → C a S' H' p' → D a S' H' p') : Post Z Er X o H p D := by
  unfold Post at h ⊢
  cases o with
  | ok a S' => exact fun H' p' e s => k a S' H' p' e s (h H' p' e s)
  | er c fs S' => exact h
  | bad => exact h
theorem Post.pure {a : α} {C : α → List Dat → Hp → Pl → Prop} (x : XOk X) (h : Post Z Er X ((Pure.pure a : M α) S) H p C) (s : IsS Z H p S) : C a S H p := h H p x.refl s
theorem Post.of {C : α → List Dat → Hp → Pl → Prop} (x : XOk X) (h : Post Z Er X o H p C) : Post Z Er ExtE o H p C := by
  unfold Post at h ⊢
  cases o with
  | ok a S' => exact fun H' p' e s => h H' p' (x.of e) s
  | er c fs S' => exact fun H' p' e s => h H' p' (x.of e) s
  | bad => exact h
theorem Post.need {b : Bool} {m : M α} {C : α → List Dat → Hp → Pl → Prop} (h : Post Z Er X ((M.need b >>= fun _ => m) S) H p C) : b = true ∧ Post Z Er X (m S) H p C := by
  cases b with
  | true => exact ⟨rfl, h⟩
  | false => exact (show False from h).elim
theorem Post.opt {a : Option β} {f : β → M α} {C : α → List Dat → Hp → Pl → Prop} (h : Post Z Er X ((M.opt a >>= f) S) H p C) : ∃ b, a = some b ∧ Post Z Er X (f b S) H p C := by
  cases a with
  | some b => exact ⟨b, rfl, h⟩
  | none => exact (show False from h).elim
end
def J (Z : Cz) (Er : ErW) (O : List Nat) {α β : Type} (Rel : Hp → Pl → β → α → Prop) (te : L2.St → Hp → (β → Hp → Prop) → Prop) (m : Env → M α) : Prop :=
  ∀ (σ : L2.St) (H : Hp) (p : Pl) (ρ : Env) (S : List Dat) (Q : β → Hp → Prop), IsE Z O H p σ ρ → IsS Z H p S → Post Z Er ExtE (m ρ S) H p (fun a _ H' p' => ∀ b, Rel H' p' b a → Q b H') → te σ H Q
abbrev JD (Z : Cz) (Er : ErW) (O : List Nat) (te : TE) (m : Env → M Dat) : Prop := J Z Er O (IsD Z) te m
abbrev JW (Z : Cz) (Er : ErW) (O : List Nat) (te : TE) (m : Env → M Dat) : Prop := J Z Er O (IsW Z) te m
abbrev JB (Z : Cz) (Er : ErW) (O : List Nat) (tt : TT) (m : Env → M Bool) : Prop := J Z Er O (fun _ _ b c => b = c) tt m
abbrev JA (Z : Cz) (Er : ErW) (O : List Nat) (ta : TA) (m : Env → M (List Dat)) : Prop := J Z Er O (IsDs Z) ta m
abbrev JO (Z : Cz) (Er : ErW) (O : List Nat) (to : TO) (m : Env → M (Option Int)) : Prop := J Z Er O (fun _ _ b c => b = c) to m
/-- a new list, dict, that nobody has -/
def JF (Z : Cz) (Er : ErW) (O : List Nat) (te : TE) (m : Env → M Dat) : Prop :=
  ∀ (σ : L2.St) (H : Hp) (p : Pl) (ρ : Env) (S : List Dat) (Q : V → Hp → Prop), IsE Z O H p σ ρ → IsS Z H p S → Post Z Er ExtE (m ρ S) H p (fun d S' H' p' => ∀ a, H a = none → H' a ≠ none → ¬ p'.has a → IsS Z H' ⟨p'.α, p'.ω ++ [a], p'.γ⟩ S' → IsTop Z H' ⟨p'.α, p'.ω ++ [a], p'.γ⟩ a d → Q (.ref a) H') → te σ H Q
/-- two-place, one-place operations on values -/
def JR (Z : Cz) (A1 A2 A3 : Hp → Pl → V → Dat → Prop) (r : L2.R2) (f : Dat → Dat → M Dat) : Prop :=
  ∀ (x y : V) (d e : Dat) (Er : ErW) (H : Hp) (p : Pl) (S : List Dat) (Q : VK), A1 H p x d → A2 H p y e → IsS Z H p S → Post Z Er ExtE (f d e S) H p (fun a _ H' p' => ∀ v, A3 H' p' v a → Q v H') → r x y H Q
def JU (Z : Cz) (A1 A3 : Hp → Pl → V → Dat → Prop) (r : V → Hp → VK → Prop) (f : Dat → M Dat) : Prop :=
  ∀ (x : V) (d : Dat) (Er : ErW) (H : Hp) (p : Pl) (S : List Dat) (Q : VK), A1 H p x d → IsS Z H p S → Post Z Er ExtE (f d S) H p (fun a _ H' p' => ∀ v, A3 H' p' v a → Q v H') → r x H Q
def JC (Z : Cz) (A1 : Hp → Pl → List V → List Dat → Prop) (A3 : Hp → Pl → V → Dat → Prop) (r : List V → Hp → VK → Prop) (f : List Dat → M Dat) : Prop :=
  ∀ (x : List V) (d : List Dat) (Er : ErW) (H : Hp) (p : Pl) (S : List Dat) (Q : VK), A1 H p x d → IsS Z H p S → Post Z Er ExtE (f d S) H p (fun a _ H' p' => ∀ v, A3 H' p' v a → Q v H') → r x H Q
section
variable {Z : Cz} {Er : ErW} {O : List Nat} {te ta tb tc : TE} {tt tu : TT} {m m1 m2 m3 : Env → M Dat} {mb mc : Env → M Bool}
theorem JD.w (h : JD Z Er O te m) : JW Z Er O te m := fun σ H p ρ S Q hE hS q => h σ H p ρ S Q hE hS (q.mono fun _ _ _ _ _ _ k v hv => k v hv.w)
def xVar (i : Nat) (ρ : Env) : M Dat := match ρ[i]? with
  | some (some d) => pure d
  | _ => M.no
theorem j_var {i : Nat} (n : i ∉ O) : JD Z Er O (tVar i) (xVar i) := fun σ H p ρ S Q hE hS q => by
  unfold xVar at q
  match e : ρ[i]?, q with
  | some (some d), q =>
    obtain ⟨v, h1, h2⟩ := hE.get i d n e
    exact ⟨v, h1, q.pure xE hS v h2⟩
  | some none, q => exact (show False from q).elim
  | none, q => exact (show False from q).elim
def xC (d : Dat) (_ : Env) : M Dat := pure d
theorem j_c {v : V} {d : Dat} (h : ∀ H p, IsD Z H p v d) : JD Z Er O (tC v) (xC d) := fun σ H p ρ S Q hE hS q => q.pure xE hS v (h H p)
theorem j_int {i : Int} : JD Z Er O (tC (.int i)) (xC (.int i)) := j_c fun _ _ => isD_int.mpr rfl
theorem j_str {i : Str} : JD Z Er O (tC (.str i)) (xC (.str i)) := j_c fun _ _ => isD_str.mpr rfl
theorem j_bl {i : Bool} : JD Z Er O (tC (.bl i)) (xC (.bl i)) := j_c fun _ _ => isD_bl.mpr rfl
theorem j_non : JD Z Er O (tC .non) (xC .non) := j_c fun _ _ => isD_non.mpr rfl
theorem j_ty {i : String} : JD Z Er O (tC (.ty i)) (xC (.ty i)) := j_c fun _ _ => isD_ty.mpr rfl
def xOp (f : Dat → Dat → M Dat) (a b : Env → M Dat) (ρ : Env) : M Dat := a ρ >>= fun x => b ρ >>= fun y => f x y
structure Up (Z : Cz) (R : Hp → Pl → V → Dat → Prop) : Prop where
  up : ∀ {H p H' p' v d S}, ExtE H p H' p' → IsS Z H p S → R H p v d → R H' p' v d
theorem upD : Up Z (IsD Z) := ⟨fun e _ h => h.ext e.s⟩
theorem upW : Up Z (IsW Z) := ⟨fun {H p H' p' v d S} e s h => by
  cases d with
  | lst ds =>
    obtain ⟨a, vs, rfl, ⟨r, n1, n2⟩, h2⟩ := h
    exact ⟨a, vs, rfl, ⟨e.k _ _ r n1, not_fresh e.α r n1, by rw [e.γ]; exact n2⟩, h2.ext e.s⟩
  | dic ks ds =>
    obtain ⟨a, vs, rfl, ⟨r, n1, n2⟩, l, h2⟩ := h
    exact ⟨a, vs, rfl, ⟨e.k _ _ r n1, not_fresh e.α r n1, by rw [e.γ]; exact n2⟩, l, h2.ext e.s⟩
  | obj c fs ds =>
    obtain ⟨a, vs, rfl, ⟨⟨dx, r⟩, n1, n2⟩, l, h2⟩ := h
    exact ⟨a, vs, rfl, ⟨⟨dx, e.k _ _ r n1⟩, not_fresh e.α r n1, by rw [e.γ]; exact n2⟩, l, h2.ext e.s⟩
  | non => exact IsD.ext e.s _ h
  | bl b => exact IsD.ext e.s _ h
  | int i => exact IsD.ext e.s _ h
  | str x => exact IsD.ext e.s _ h
  | tup ds => exact IsD.ext e.s _ h
  | loc n => exact IsD.ext e.s _ h
  | ty n => exact IsD.ext e.s _ h
  | cls n => exact IsD.ext e.s _ h
  | scr n => exact IsD.ext e.s _ h⟩
variable {A1 A2 A3 : Hp → Pl → V → Dat → Prop} {r : L2.R2} {f : Dat → Dat → M Dat}
theorem j_op (u : Up Z A1) (hr : JR Z A1 A2 A3 r f) (ha : J Z Er O A1 ta m1) (hb : J Z Er O A2 tb m2) : J Z Er O A3 (tOp r ta tb) (xOp f m1 m2) := fun σ H p ρ S Q hE hS q =>
  ha σ H p ρ S _ hE hS ((q.bnd xE).mono fun d S1 H1 p1 e1 s1 q1 v hv => hb σ H1 p1 ρ S1 _ (hE.ext e1 hS) s1 ((q1.bnd xE).mono fun e S2 H2 p2 e2 s2 q2 w hw => hr v w d e Er H2 p2 S2 _ (u.up e2 s1 hv) hw s2 q2))
def xUn (f : Dat → M Dat) (a : Env → M Dat) (ρ : Env) : M Dat := a ρ >>= f
theorem j_un {r : V → Hp → VK → Prop} {f : Dat → M Dat} (hr : JU Z A1 A3 r f) (ha : J Z Er O A1 ta m1) : J Z Er O A3 (tUn r ta) (xUn f m1) := fun σ H p ρ S Q hE hS q =>
  ha σ H p ρ S _ hE hS ((q.bnd xE).mono fun d S1 H1 p1 e1 s1 q1 v hv => hr v d Er H1 p1 S1 _ hv s1 q1)
def dB : Dat → Option Bool
  | .bl b => some b
  | _ => none
theorem dB_some {d : Dat} {b : Bool} (h : dB d = some b) : d = .bl b := by
  cases d <;> first | (cases h; rfl) | cases h
def bTest (a : Env → M Dat) (ρ : Env) : M Bool := a ρ >>= fun x => M.opt (dB x)
theorem opt_pure {α : Type} {a : Option α} {S : List Dat} {H : Hp} {p : Pl} {X : XR} {C : α → List Dat → Hp → Pl → Prop} (x : XOk X) (h : Post Z Er X (M.opt a S) H p C) (s : IsS Z H p S) : ∃ b, a = some b ∧ C b S H p := by
  cases a with
  | some b => exact ⟨b, rfl, h H p x.refl s⟩
  | none => exact (show False from h).elim
theorem jb_test (ha : JD Z Er O ta m1) : JB Z Er O (tTest ta) (bTest m1) := fun σ H p ρ S Q hE hS q =>
  ha σ H p ρ S _ hE hS ((q.bnd xE).mono fun d S1 H1 p1 e1 s1 q1 v hv => by
    obtain ⟨b, e, k⟩ := opt_pure xE q1 s1
    rw [dB_some e] at hv
    exact ⟨b, isD_bl.mp hv, k b rfl⟩)
theorem jb_B (ha : JD Z Er O ta m1) : JB Z Er O (tB ta) (bTest m1) := jb_test ha
def bOr (a b : Env → M Bool) (ρ : Env) : M Bool := a ρ >>= fun x => if x = true then pure true else b ρ
def bNot (a : Env → M Bool) (ρ : Env) : M Bool := a ρ >>= fun x => pure (!x)
theorem jb_or (ha : JB Z Er O tt mb) (hb : JB Z Er O tu mc) : JB Z Er O (tOr tt tu) (bOr mb mc) := fun σ H p ρ S Q hE hS q =>
  ha σ H p ρ S _ hE hS ((q.bnd xE).mono fun d S1 H1 p1 e1 s1 q1 v hv => by
    subst hv
    cases v with
    | false => exact hb σ H1 p1 ρ S1 Q (hE.ext e1 hS) s1 q1
    | true => exact Post.pure xE q1 s1 true rfl)
theorem jb_not (ha : JB Z Er O tt mb) : JB Z Er O (tNot tt) (bNot mb) := fun σ H p ρ S Q hE hS q =>
  ha σ H p ρ S _ hE hS ((q.bnd xE).mono fun d S1 H1 p1 e1 s1 q1 v hv => by
    subst hv
    exact Post.pure xE q1 s1 _ rfl)
def bYes (_ : Env) : M Bool := pure true
theorem jb_yes : JB Z Er O tYes bYes := fun σ H p ρ S Q hE hS q => q.pure xE hS true rfl
def xAnd (a b : Env → M Dat) (ρ : Env) : M Dat := bTest a ρ >>= fun x => if x = true then b ρ else pure (.bl false)
def xOr (a b : Env → M Dat) (ρ : Env) : M Dat := bTest a ρ >>= fun x => if x = true then pure (.bl true) else b ρ
def xNot (a : Env → M Dat) (ρ : Env) : M Dat := bTest a ρ >>= fun x => pure (.bl (!x))
theorem j_andV (ha : JD Z Er O ta m1) (hb : JD Z Er O tb m2) : JD Z Er O (tAndV ta tb) (xAnd m1 m2) := fun σ H p ρ S Q hE hS q =>
  jb_test ha σ H p ρ S (fun b H1 => if b = true then tb σ H1 Q else Q (.bl false) H1) hE hS ((q.bnd xE).mono fun d S1 H1 p1 e1 s1 q1 v hv => by
    subst hv
    cases v with
    | true => exact hb σ H1 p1 ρ S1 Q (hE.ext e1 hS) s1 q1
    | false => exact Post.pure xE q1 s1 _ (isD_bl.mpr rfl))
theorem j_orV (ha : JD Z Er O ta m1) (hb : JD Z Er O tb m2) : JD Z Er O (tOrV ta tb) (xOr m1 m2) := fun σ H p ρ S Q hE hS q =>
  jb_test ha σ H p ρ S (fun b H1 => if b = true then Q (.bl true) H1 else tb σ H1 Q) hE hS ((q.bnd xE).mono fun d S1 H1 p1 e1 s1 q1 v hv => by
    subst hv
    cases v with
    | false => exact hb σ H1 p1 ρ S1 Q (hE.ext e1 hS) s1 q1
    | true => exact Post.pure xE q1 s1 _ (isD_bl.mpr rfl))
theorem j_notV (ha : JD Z Er O ta m1) : JD Z Er O (tNotV ta) (xNot m1) := fun σ H p ρ S Q hE hS q =>
  jb_test ha σ H p ρ S (fun b H1 => Q (.bl (!b)) H1) hE hS ((q.bnd xE).mono fun d S1 H1 p1 e1 s1 q1 v hv => by
    subst hv
    exact Post.pure xE q1 s1 _ (isD_bl.mpr rfl))
def xIf (c : Env → M Bool) (a b : Env → M Dat) (ρ : Env) : M Dat := c ρ >>= fun x => if x = true then a ρ else b ρ
theorem j_if (hc : JB Z Er O tt mb) (ha : J Z Er O A3 ta m1) (hb : J Z Er O A3 tb m2) : J Z Er O A3 (tIf tt ta tb) (xIf mb m1 m2) := fun σ H p ρ S Q hE hS q =>
  hc σ H p ρ S _ hE hS ((q.bnd xE).mono fun d S1 H1 p1 e1 s1 q1 v hv => by
    subst hv
    cases v with
    | true => exact ha σ H1 p1 ρ S1 Q (hE.ext e1 hS) s1 q1
    | false => exact hb σ H1 p1 ρ S1 Q (hE.ext e1 hS) s1 q1)
/-- a op b op c -/
def xChain (f g : Dat → Dat → M Dat) (a b c : Env → M Dat) (ρ : Env) : M Dat := a ρ >>= fun x => b ρ >>= fun y => (f x y >>= fun z => M.opt (dB z)) >>= fun k => if k = true then c ρ >>= fun u => g y u else pure (.bl false)
theorem j_chain {r r' : L2.R2} {f g : Dat → Dat → M Dat} (hr : JR Z (IsD Z) (IsD Z) (IsD Z) r f) (hr' : JR Z (IsD Z) (IsD Z) (IsD Z) r' g) (ha : JD Z Er O ta m1) (hb : JD Z Er O tb m2) (hc : JD Z Er O tc m3) : JD Z Er O (tChain r r' ta tb tc) (xChain f g m1 m2 m3) := fun σ H p ρ S Q hE hS q =>
  ha σ H p ρ S _ hE hS ((q.bnd xE).mono fun d S1 H1 p1 e1 s1 q1 v hv => hb σ H1 p1 ρ S1 _ (hE.ext e1 hS) s1 ((q1.bnd xE).mono fun e S2 H2 p2 e2 s2 q2 w hw =>
    hr v w d e Er H2 p2 S2 _ (hv.ext e2.s) hw s2 (((q2.bnd xE).bnd xE).mono fun z S3 H3 p3 e3 s3 q3 zv hz => by
      obtain ⟨b, e, k⟩ := opt_pure xE q3 s3
      rw [dB_some e] at hz
      refine ⟨b, isD_bl.mp hz, ?_⟩
      cases b with
      | true =>
        have k : Post Z Er ExtE ((m3 ρ >>= fun u => g _ u) S3) H3 p3 _ := k
        exact hc σ H3 p3 ρ S3 _ (((hE.ext e1 hS).ext e2 s1).ext e3 s2) s3 ((k.bnd xE).mono fun u S4 H4 p4 e4 s4 q4 uv hu => hr' w uv _ _ Er H4 p4 S4 _ (hw.ext (e3.trans e4).s) hu s4 q4)
      | false => exact Post.pure xE k s3 _ (isD_bl.mpr rfl))))
def xNil (_ : Env) : M (List Dat) := pure []
def xCons (a : Env → M Dat) (l : Env → M (List Dat)) (ρ : Env) : M (List Dat) := a ρ >>= fun x => l ρ >>= fun xs => pure (x :: xs)
variable {tl : TA} {ml : Env → M (List Dat)}
theorem ja_nil : JA Z Er O tNil xNil := fun σ H p ρ S Q hE hS q => q.pure xE hS [] (isDs_nil.mpr rfl)
theorem ja_cons (ha : JD Z Er O ta m1) (hl : JA Z Er O tl ml) : JA Z Er O (tCons ta tl) (xCons m1 ml) := fun σ H p ρ S Q hE hS q =>
  ha σ H p ρ S _ hE hS ((q.bnd xE).mono fun d S1 H1 p1 e1 s1 q1 v hv => hl σ H1 p1 ρ S1 _ (hE.ext e1 hS) s1 ((q1.bnd xE).mono fun ds S2 H2 p2 e2 s2 q2 vs hvs => q2.pure xE s2 (v :: vs) (isDs_cons.mpr ⟨v, vs, rfl, hv.ext e2.s, hvs⟩)))
/-- the first one a container that may be the frame's own -/
def IsWs (Z : Cz) (H : Hp) (p : Pl) (vs : List V) : List Dat → Prop
  | [] => vs = []
  | d :: ds => ∃ v r, vs = v :: r ∧ IsW Z H p v d ∧ IsDs Z H p r ds
theorem ja_consW (ha : JW Z Er O ta m1) (hl : JA Z Er O tl ml) : J Z Er O (IsWs Z) (tCons ta tl) (xCons m1 ml) := fun σ H p ρ S Q hE hS q =>
  ha σ H p ρ S _ hE hS ((q.bnd xE).mono fun d S1 H1 p1 e1 s1 q1 v hv => hl σ H1 p1 ρ S1 _ (hE.ext e1 hS) s1 ((q1.bnd xE).mono fun ds S2 H2 p2 e2 s2 q2 vs hvs => q2.pure xE s2 (v :: vs) ⟨v, vs, rfl, upW.up e2 s1 hv, hvs⟩))
theorem no_has {H : Hp} {p : Pl} {S : List Dat} (s : IsS Z H p S) {a : Addr} (h : H a = none) : ¬ p.has a := fun q => s.tracked q h
theorem new_tup {H : Hp} {p : Pl} {S : List Dat} (s : IsS Z H p S) {a : Addr} {vs : List V} {ds : List Dat} (na : H a = none) {o : Obj} (nd : o.dict = none) (h : IsDs Z H p vs ds) : IsD Z (upd H a (.frz o (.tup vs))) p (.ref a) (.tup ds) :=
  isD_tup.mpr ⟨a, vs, rfl, .inl ⟨⟨o, upd_same, nd⟩, no_has s na⟩, h.ext (ExtE.new na).s⟩
theorem new_lst {H : Hp} {p : Pl} {S : List Dat} (s : IsS Z H p S) {a : Addr} {vs : List V} {ds : List Dat} (na : H a = none) (h : IsDs Z H p vs ds) : IsD Z (upd H a (.lst vs)) p (.ref a) (.lst ds) :=
  isD_lst.mpr ⟨a, vs, rfl, ⟨upd_same, no_has s na⟩, h.ext (ExtE.new na).s⟩
/-- a step of the heap that lays one new object -/
theorem Post.at_new {α : Type} {a : α} {H : Hp} {p : Pl} {S : List Dat} {C : α → List Dat → Hp → Pl → Prop} (q : Post Z Er ExtE ((Pure.pure a : M α) S) H p C) (s : IsS Z H p S) {x : Addr} {o : HO} (nx : H x = none) : C a S (upd H x o) p :=
  q _ _ (ExtE.new nx) (s.ext (same_new nx))
def xTup (l : Env → M (List Dat)) (ρ : Env) : M Dat := l ρ >>= fun ds => M.need (decide (ds.length ≤ 1000)) >>= fun _ => pure (.tup ds)
def xLst (l : Env → M (List Dat)) (ρ : Env) : M Dat := l ρ >>= fun ds => M.need (decide (ds.length ≤ 1000)) >>= fun _ => pure (.lst ds)
theorem few {n : Nat} (h : n ≤ 1000) : n ≤ sizeLine := Nat.le_of_lt (small1000 h)
theorem j_tup (hl : JA Z Er O tl ml) : JD Z Er O (tTup tl) (xTup ml) := fun σ H p ρ S Q hE hS q =>
  hl σ H p ρ S _ hE hS ((q.bnd xE).mono fun ds S1 H1 p1 e1 s1 q1 vs hv => by
    obtain ⟨c, q2⟩ := q1.need
    exact ⟨few (by rw [hv.len]; exact of_decide_eq_true c), fun a o na nd => q2.at_new s1 na _ (new_tup s1 na nd hv)⟩)
theorem j_lst (hl : JA Z Er O tl ml) : JD Z Er O (tLst tl) (xLst ml) := fun σ H p ρ S Q hE hS q =>
  hl σ H p ρ S _ hE hS ((q.bnd xE).mono fun ds S1 H1 p1 e1 s1 q1 vs hv => by
    obtain ⟨c, q2⟩ := q1.need
    exact ⟨few (by rw [hv.len]; exact of_decide_eq_true c), fun a na => q2.at_new s1 na _ (new_lst s1 na hv)⟩)
def xCB (f : List Dat → M Dat) (l : Env → M (List Dat)) (ρ : Env) : M Dat := l ρ >>= f
theorem j_cb {rc : List V → Hp → VK → Prop} {f : List Dat → M Dat} {RA : Hp → Pl → List V → List Dat → Prop} (hr : JC Z RA A3 rc f) (hl : J Z Er O RA tl ml) : J Z Er O A3 (tCB rc tl) (xCB f ml) := fun σ H p ρ S Q hE hS q =>
  hl σ H p ρ S _ hE hS ((q.bnd xE).mono fun ds S1 H1 p1 e1 s1 q1 vs hv => hr vs ds Er H1 p1 S1 _ hv s1 q1)
end
end Zd
namespace Zd
open PySem PySem.Spec PyProof.Rows L2
def JG (Z : Cz) (O : List Nat) (g : TG) (m : Env → Dat → Option Env) (vs : Option (List Nat)) : Prop :=
  ∀ (v : V) (σ : L2.St) (H : Hp) (p : Pl) (ρ : Env) (d : Dat) (R : L2.St → Hp → Prop), IsE Z O H p σ ρ → IsD Z H p v d → (∃ ρ', m ρ d = some ρ' ∧ ∀ σ', IsE Z O H p σ' ρ' → (∀ w, vs = some w → L2.wipe σ' w = L2.wipe σ w) → R σ' H) → g v σ H R
def JGs (Z : Cz) (O : List Nat) (g : TGs) (m : Env → List Dat → Option Env) (vs : Option (List Nat)) : Prop :=
  ∀ (v : List V) (σ : L2.St) (H : Hp) (p : Pl) (ρ : Env) (d : List Dat) (R : L2.St → Hp → Prop), IsE Z O H p σ ρ → IsDs Z H p v d → (∃ ρ', m ρ d = some ρ' ∧ ∀ σ', IsE Z O H p σ' ρ' → (∀ w, vs = some w → L2.wipe σ' w = L2.wipe σ w) → R σ' H) → g v σ H R
theorem IsE.set {Z : Cz} {O : List Nat} {H : Hp} {p : Pl} {σ : L2.St} {ρ : Env} (h : IsE Z O H p σ ρ) {i : Nat} {v : V} {d : Dat} (n : i ∉ O) (hv : IsD Z H p v d) : IsE Z O H p (σ.set i (some v)) (ρ.set i (some d)) := by
  refine ⟨by rw [List.length_set, List.length_set]; exact h.len, fun j e nj q => ?_, fun j e oj q => ?_, fun j k a oj ok ne hj hk q => ?_⟩
  · by_cases c : i = j
    · subst c
      rw [List.getElem?_set_self' ] at q ⊢
      cases z : ρ[i]? with
      | none => rw [z] at q; cases q
      | some w =>
        rw [z] at q
        cases q
        have lt := (List.getElem?_eq_some_iff.mp z).1
        rw [List.getElem?_eq_getElem (by rw [h.len]; exact lt)]
        exact ⟨v, rfl, hv⟩
    · rw [List.getElem?_set_ne c] at q ⊢
      exact h.get j e nj q
  · have c : i ≠ j := fun z => n (z ▸ oj)
    rw [List.getElem?_set_ne c] at q ⊢
    exact h.own j e oj q
  · have c1 : i ≠ j := fun z => n (z ▸ oj)
    have c2 : i ≠ k := fun z => n (z ▸ ok)
    rw [List.getElem?_set_ne c1] at hj q
    rw [List.getElem?_set_ne c2] at hk ⊢
    exact h.dj j k a oj ok ne hj hk q
theorem IsE.unset {Z : Cz} {O : List Nat} {H : Hp} {p : Pl} {σ : L2.St} {ρ : Env} (h : IsE Z O H p σ ρ) {i : Nat} : IsE Z O H p (σ.set i none) (ρ.set i none) := by
  have step : ∀ (j : Nat) (e : Dat), (ρ.set i none)[j]? = some (some e) → i ≠ j ∧ ρ[j]? = some (some e) := fun j e q => by
    by_cases c : i = j
    · subst c
      rw [List.getElem?_set_self'] at q
      cases z : ρ[i]? with
      | none => rw [z] at q; cases q
      | some w => rw [z] at q; cases q
    · rw [List.getElem?_set_ne c] at q
      exact ⟨c, q⟩
  refine ⟨by rw [List.length_set, List.length_set]; exact h.len, fun j e nj q => ?_, fun j e oj q => ?_, fun j k a oj ok ne hj hk q => ?_⟩
  · obtain ⟨c, z⟩ := step j e q
    rw [List.getElem?_set_ne c]
    exact h.get j e nj z
  · obtain ⟨c, z⟩ := step j e q
    rw [List.getElem?_set_ne c]
    exact h.own j e oj z
  · obtain ⟨d1, hj⟩ := hj
    obtain ⟨d2, hk⟩ := hk
    obtain ⟨c1, z1⟩ := step j d1 hj
    obtain ⟨c2, z2⟩ := step k d2 hk
    rw [List.getElem?_set_ne c1] at q
    rw [List.getElem?_set_ne c2]
    exact h.dj j k a oj ok ne ⟨d1, z1⟩ ⟨d2, z2⟩ q
def wipeE (ρ : Env) : List Nat → Env
  | [] => ρ
  | v :: vs => (wipeE ρ vs).set v none
theorem IsE.wipe {Z : Cz} {O : List Nat} {H : Hp} {p : Pl} {σ : L2.St} {ρ : Env} (h : IsE Z O H p σ ρ) : ∀ vs : List Nat, IsE Z O H p (L2.wipe σ vs) (wipeE ρ vs)
  | [] => h
  | v :: vs => (IsE.wipe h vs).unset
theorem wipe_set {i : Nat} {x : Option V} : ∀ {vs : List Nat} {σ : L2.St}, i ∈ vs → L2.wipe (σ.set i x) vs = L2.wipe σ vs
  | [], _, h => by cases h
  | v :: vs, σ, h => by
    by_cases c : i ∈ vs
    · unfold L2.wipe
      rw [wipe_set c]
    · have e : i = v := (List.mem_cons.mp h).resolve_right c
      subst e
      have comm : ∀ (ws : List Nat), i ∉ ws → L2.wipe (σ.set i x) ws = (L2.wipe σ ws).set i x := fun ws => by
        induction ws with
        | nil => intro _; rfl
        | cons w ws ih =>
          intro n
          unfold L2.wipe
          rw [ih fun z => n (List.mem_cons_of_mem _ z), List.set_comm _ _ fun z => n (by rw [z]; exact List.mem_cons_self)]
      unfold L2.wipe
      rw [comm vs c, List.set_set]
theorem wipe_put {σ : L2.St} : ∀ {vs : List Nat} {i : Nat}, i ∈ vs → (L2.wipe σ vs).set i none = L2.wipe σ vs
  | [], _, h => by cases h
  | v :: vs, i, h => by
    unfold L2.wipe
    by_cases c : v = i
    · subst c
      rw [List.set_set]
    · rw [List.set_comm _ _ c, wipe_put ((List.mem_cons.mp h).resolve_left fun z => c z.symm)]
theorem wipe_sub {σ : L2.St} {vs : List Nat} : ∀ ws : List Nat, (∀ w ∈ ws, w ∈ vs) → L2.wipe (L2.wipe σ vs) ws = L2.wipe σ vs
  | [], _ => rfl
  | w :: ws, h => by
    show (L2.wipe (L2.wipe σ vs) ws).set w none = L2.wipe σ vs
    rw [wipe_sub ws fun x m => h x (List.mem_cons_of_mem _ m), wipe_put (h w List.mem_cons_self)]
theorem wipe_wipe (σ : L2.St) (vs : List Nat) : L2.wipe (L2.wipe σ vs) vs = L2.wipe σ vs := wipe_sub vs fun _ h => h
def gN (i : Nat) (ρ : Env) (d : Dat) : Option Env := some (ρ.set i (some d))
def gT (n : Nat) (t : Env → List Dat → Option Env) (ρ : Env) (d : Dat) : Option Env := match d with
  | .tup ds => if ds.length = n then t ρ ds else none
  | _ => none
def gNl (ρ : Env) (ds : List Dat) : Option Env := match ds with
  | [] => some ρ
  | _ => none
def gCo (t : Env → Dat → Option Env) (u : Env → List Dat → Option Env) (ρ : Env) (ds : List Dat) : Option Env := match ds with
  | d :: r => (t ρ d).bind fun ρ' => u ρ' r
  | [] => none
section
variable {Z : Cz} {Er : ErW} {O : List Nat} {vs : Option (List Nat)} {te ta tb tc : TE} {tt tu : TT} {m m1 m2 m3 : Env → M Dat} {mb mc : Env → M Bool} {tl : TA} {ml : Env → M (List Dat)}
theorem jg_name {i : Nat} (n : i ∉ O) (hi : ∀ w, vs = some w → i ∈ w) : JG Z O (gName i) (gN i) vs := fun v σ H p ρ d R hE hv h => by
  obtain ⟨ρ', e, k⟩ := h
  cases e
  exact k _ (hE.set n hv) fun w e => wipe_set (hi w e)
theorem jg_nil : JGs Z O gNil gNl vs := fun v σ H p ρ d R hE hv h => by
  obtain ⟨ρ', e, k⟩ := h
  cases d with
  | nil =>
    cases e
    exact ⟨isDs_nil.mp hv, k _ hE fun _ _ => rfl⟩
  | cons _ _ => cases e
theorem jg_cons {t : TG} {u : TGs} {a : Env → Dat → Option Env} {b : Env → List Dat → Option Env} (h1 : JG Z O t a vs) (h2 : JGs Z O u b vs) : JGs Z O (gCons t u) (gCo a b) vs := fun v σ H p ρ d R hE hv h => by
  obtain ⟨ρ', e, k⟩ := h
  cases d with
  | nil => cases e
  | cons d r =>
    obtain ⟨x, xs, rfl, hx, hxs⟩ := isDs_cons.mp hv
    have e : (a ρ d).bind (fun ρ' => b ρ' r) = some ρ' := e
    cases q : a ρ d with
    | none => rw [q] at e; cases e
    | some ρ1 =>
      rw [q] at e
      exact ⟨x, xs, rfl, h1 x σ H p ρ d _ hE hx ⟨ρ1, q, fun σ1 hE1 w1 => h2 xs σ1 H p ρ1 r _ hE1 hxs ⟨ρ', e, fun σ2 hE2 w2 => k σ2 hE2 fun w ew => (w2 w ew).trans (w1 w ew)⟩⟩⟩
theorem jg_tup {n : Nat} {t : TGs} {u : Env → List Dat → Option Env} (h1 : JGs Z O t u vs) : JG Z O (gTup Z.K n t) (gT n u) vs := fun v σ H p ρ d R hE hv h => by
  obtain ⟨ρ', e, k⟩ := h
  cases d with
  | tup ds =>
    obtain ⟨a, xs, rfl, ha, hx⟩ := isD_tup.mp hv
    have e : (if ds.length = n then u ρ ds else none) = some ρ' := e
    by_cases c : ds.length = n
    · rw [if_pos c] at e
      exact ⟨a, xs, rfl, ha.sq, hx.len.trans c, h1 xs σ H p ρ ds R hE hx ⟨ρ', e, k⟩⟩
    · rw [if_neg c] at e
      cases e
  | _ => cases e
def FlowOk (Z : Cz) (O : List Nat) (D : Ends) (f : Flow) (H : Hp) (p : Pl) : Prop := match f with
  | .nx ρ => ∀ σ, IsE Z O H p σ ρ → D.nx σ H
  | .rt d => ∀ v, IsW Z H p v d → D.rt v H
  | .bk ρ => ∀ σ, IsE Z O H p σ ρ → D.bk σ H
  | .ct ρ => ∀ σ, IsE Z O H p σ ρ → D.ct σ H
def JS (Z : Cz) (Er : ErW) (O : List Nat) (ts : TS) (m : Env → M Flow) : Prop :=
  ∀ (σ : L2.St) (H : Hp) (p : Pl) (ρ : Env) (S : List Dat) (D : Ends), IsE Z O H p σ ρ → IsS Z H p S → Post Z Er Ext (m ρ S) H p (fun f _ H' p' => FlowOk Z O D f H' p') → ts D σ H
/-- behind an expression -/
theorem Post.bndE {α β : Type} {S : List Dat} {H : Hp} {p : Pl} {m : M α} {f : α → M β} {C : β → List Dat → Hp → Pl → Prop} (h : Post Z Er Ext ((m >>= f) S) H p C) : Post Z Er ExtE (m S) H p fun a S' H' p' => Post Z Er Ext (f a S') H' p' C := (h.bnd xS).of xS
def sNx (ρ : Env) : M Flow := pure (.nx ρ)
def sSeq (a b : Env → M Flow) (ρ : Env) : M Flow := a ρ >>= fun f => match f with
  | .nx ρ' => b ρ'
  | g => pure g
variable {ts tr : TS} {ms mr : Env → M Flow}
theorem js_next : JS Z Er O tNext sNx := fun σ H p ρ S D hE hS q => q.pure xS hS σ hE
theorem js_seq (h1 : JS Z Er O ts ms) (h2 : JS Z Er O tr mr) : JS Z Er O (tSeq ts tr) (sSeq ms mr) := fun σ H p ρ S D hE hS q =>
  h1 σ H p ρ S _ hE hS ((q.bnd xS).mono fun f S1 H1 p1 e1 s1 q1 => by
    cases f with
    | nx ρ1 => exact fun σ1 hE1 => h2 σ1 H1 p1 ρ1 S1 D hE1 s1 q1
    | rt d => exact Post.pure xS q1 s1
    | bk ρ1 => exact Post.pure xS q1 s1
    | ct ρ1 => exact Post.pure xS q1 s1)
def sAsg (a : Env → M Dat) (g : Env → Dat → Option Env) (ρ : Env) : M Flow := a ρ >>= fun d => M.opt (g ρ d) >>= fun ρ' => pure (.nx ρ')
theorem js_asg {g : TG} {gm : Env → Dat → Option Env} (ha : JD Z Er O ta m1) (hg : JG Z O g gm none) : JS Z Er O (tAsg ta g) (sAsg m1 gm) := fun σ H p ρ S D hE hS q =>
  ha σ H p ρ S _ hE hS (q.bndE.mono fun d S1 H1 p1 e1 s1 q1 v hv => by
    obtain ⟨ρ1, e, q2⟩ := q1.opt
    exact hg v σ H1 p1 ρ d _ (hE.ext e1 hS) hv ⟨ρ1, e, fun σ' hE' _ => q2.pure xS s1 σ' hE'⟩)
def sRet (a : Env → M Dat) (ρ : Env) : M Flow := a ρ >>= fun d => pure (.rt d)
theorem js_ret (ha : JW Z Er O ta m1) : JS Z Er O (tRet ta) (sRet m1) := fun σ H p ρ S D hE hS q =>
  ha σ H p ρ S _ hE hS (q.bndE.mono fun d S1 H1 p1 e1 s1 q1 v hv => q1.pure xS s1 v hv)
def sIf (c : Env → M Bool) (a b : Env → M Flow) (ρ : Env) : M Flow := c ρ >>= fun x => if x = true then a ρ else b ρ
theorem js_if (hc : JB Z Er O tt mb) (h1 : JS Z Er O ts ms) (h2 : JS Z Er O tr mr) : JS Z Er O (tIfS tt ts tr) (sIf mb ms mr) := fun σ H p ρ S D hE hS q =>
  hc σ H p ρ S _ hE hS (q.bndE.mono fun b S1 H1 p1 e1 s1 q1 c hc => by
    subst hc
    cases c with
    | true => exact h1 σ H1 p1 ρ S1 D (hE.ext e1 hS) s1 q1
    | false => exact h2 σ H1 p1 ρ S1 D (hE.ext e1 hS) s1 q1)
def sNo (_ : Env) : M Flow := M.no
theorem js_never : JS Z Er O tNever sNo := fun σ H p ρ S D hE hS q => (show False from q)
def sPar (i j : Nat) (l : Env → M (List Dat)) (ρ : Env) : M Flow := l ρ >>= fun ds => match ds with
  | [a, b] => pure (.nx ((ρ.set i (some a)).set j (some b)))
  | _ => M.no
theorem js_par {i j : Nat} (ni : i ∉ O) (nj : j ∉ O) (hl : JA Z Er O tl ml) : JS Z Er O (tPar i j tl) (sPar i j ml) := fun σ H p ρ S D hE hS q =>
  hl σ H p ρ S _ hE hS (q.bndE.mono fun ds S1 H1 p1 e1 s1 q1 vs hv => by
    match ds, hv, q1 with
    | [a, b], hv, q1 =>
      obtain ⟨x, r, rfl, hx, hr⟩ := isDs_cons.mp hv
      obtain ⟨y, r2, rfl, hy, hr2⟩ := isDs_cons.mp hr
      rw [isDs_nil.mp hr2]
      exact ⟨x, y, rfl, q1.pure xS s1 _ (((hE.ext e1 hS).set ni hx).set nj hy)⟩
    | [], _, q1 => exact (show False from q1).elim
    | [_], _, q1 => exact (show False from q1).elim
    | _ :: _ :: _ :: _, _, q1 => exact (show False from q1).elim)
def sPar3 (i j k : Nat) (l : Env → M (List Dat)) (ρ : Env) : M Flow := l ρ >>= fun ds => match ds with
  | [a, b, c] => pure (.nx (((ρ.set i (some a)).set j (some b)).set k (some c)))
  | _ => M.no
/-- from (H0, p0) on, along X, the walk J gives the items ds, one after another -/
def Walks (Z : Cz) (X : XR) (Jt : It) (ds : List Dat) (H0 : Hp) (p0 : Pl) : Prop := ∀ H p S (i : Nat), X H0 p0 H p → IsS Z H p S →
  (i < ds.length → Jt.go i H ∧ ∀ x H', Jt.yld i H x H' → Same H H' ∧ ∃ d, ds[i]? = some d ∧ IsD Z H' p x d) ∧ (ds.length = i → Jt.stop i H)
def JI (Z : Cz) (Er : ErW) (O : List Nat) (X : XR) (wi : TI) (m : Env → M (List Dat)) : Prop :=
  ∀ (σ : L2.St) (H : Hp) (p : Pl) (ρ : Env) (S : List Dat) (R : It → Hp → Prop), IsE Z O H p σ ρ → IsS Z H p S → Post Z Er ExtE (m ρ S) H p (fun ds _ H' p' => ∀ Jt, Walks Z X Jt ds H' p' → R Jt H') → wi σ H R
def dLst : Dat → Option (List Dat)
  | .lst ds => some ds
  | _ => none
def dTup : Dat → Option (List Dat)
  | .tup ds => some ds
  | _ => none
theorem dLst_some {d : Dat} {ds : List Dat} (h : dLst d = some ds) : d = .lst ds := by
  cases d <;> first | (cases h; rfl) | cases h
theorem dTup_some {d : Dat} {ds : List Dat} (h : dTup d = some ds) : d = .tup ds := by
  cases d <;> first | (cases h; rfl) | cases h
def iLst (a : Env → M Dat) (ρ : Env) : M (List Dat) := a ρ >>= fun d => M.opt (dLst d)
def iTp (a : Env → M Dat) (ρ : Env) : M (List Dat) := a ρ >>= fun d => M.opt (dTup d)
theorem walks_list {X : XR} (x : XOk X) {H : Hp} {p : Pl} {a : Addr} {xs : List V} {ds : List Dat} (h : LstAt Z H p a xs) (hd : IsDs Z H p xs ds) : Walks Z X (Itl Z.K a) ds H p := fun H1 p1 S1 i e s => by
  have h1 := (h.ext (x.s e)).sq
  have hd1 := hd.ext (x.s e)
  refine ⟨fun lt => ?_, fun le => ⟨xs, h1, by rw [hd.len]; exact Nat.le_of_eq le⟩⟩
  have hi := List.getElem?_eq_getElem lt
  obtain ⟨v, g1, g2⟩ := hd1.get hi
  refine ⟨⟨xs, v, h1, g1⟩, fun y H' ⟨eq, k⟩ => ?_⟩
  subst eq
  have := k xs h1
  rw [g1] at this
  cases this
  exact ⟨Same.refl _, _, hi, g2⟩
theorem walks_tup {X : XR} (x : XOk X) {H : Hp} {p : Pl} {a : Addr} {xs : List V} {ds : List Dat} (h : TupAt Z H p a xs) (hd : IsDs Z H p xs ds) : Walks Z X (Itt Z.K a) ds H p := fun H1 p1 S1 i e s => by
  have h1 := (h.ext (x.s e)).sq
  have hd1 := hd.ext (x.s e)
  refine ⟨fun lt => ?_, fun le => ⟨xs, h1, by rw [hd.len]; exact Nat.le_of_eq le⟩⟩
  have hi := List.getElem?_eq_getElem lt
  obtain ⟨v, g1, g2⟩ := hd1.get hi
  refine ⟨⟨xs, v, h1, g1⟩, fun y H' ⟨eq, k⟩ => ?_⟩
  subst eq
  have := k xs h1
  rw [g1] at this
  cases this
  exact ⟨Same.refl _, _, hi, g2⟩
theorem ji_list {X : XR} (x : XOk X) (ha : JD Z Er O ta m1) : JI Z Er O X (iList Z.K ta) (iLst m1) := fun σ H p ρ S R hE hS q =>
  ha σ H p ρ S _ hE hS ((q.bnd xE).mono fun d S1 H1 p1 e1 s1 q1 v hv => by
    obtain ⟨ds, e, k⟩ := opt_pure xE q1 s1
    rw [dLst_some e] at hv
    obtain ⟨a, xs, rfl, h1, h2⟩ := isD_lst.mp hv
    exact ⟨a, rfl, ⟨xs, h1.sq⟩, k _ (walks_list x h1 h2)⟩)
theorem ji_tup {X : XR} (x : XOk X) (ha : JD Z Er O ta m1) : JI Z Er O X (iTup Z.K ta) (iTp m1) := fun σ H p ρ S R hE hS q =>
  ha σ H p ρ S _ hE hS ((q.bnd xE).mono fun d S1 H1 p1 e1 s1 q1 v hv => by
    obtain ⟨ds, e, k⟩ := opt_pure xE q1 s1
    rw [dTup_some e] at hv
    obtain ⟨a, xs, rfl, h1, h2⟩ := isD_tup.mp hv
    exact ⟨a, rfl, ⟨xs, h1.sq⟩, k _ (walks_tup x h1 h2)⟩)
/-- lo, lo + 1, .. -/
def intsD (lo : Int) (n : Nat) : List Dat := (List.range n).map fun (k : Nat) => Dat.int (lo + k)
theorem walks_rng {X : XR} {H : Hp} {p : Pl} {lo : Int} {n : Nat} : Walks Z X (Itr lo n) (intsD lo n) H p := fun H1 p1 S1 i e s => by
  unfold intsD
  rw [List.length_map, List.length_range]
  refine ⟨fun lt => ⟨lt, fun y H' ⟨eq, k⟩ => ?_⟩, fun le => Nat.le_of_eq le⟩
  subst eq k
  refine ⟨Same.refl _, _, ?_, isD_int.mpr rfl⟩
  rw [List.getElem?_map, List.getElem?_range lt]
  rfl
theorem ji_rng1 {X : XR} (hl : JA Z Er O tl ml) : JI Z Er O X (iRng1 tl) (fun ρ => ml ρ >>= fun ds => match ds with
    | [.int j] => M.need (decide (-(2 ^ 62) ≤ j ∧ j < 2 ^ 62)) >>= fun _ => pure (intsD 0 j.toNat)
    | _ => M.no) := fun σ H p ρ S R hE hS q =>
  hl σ H p ρ S _ hE hS ((q.bnd xE).mono fun ds S1 H1 p1 e1 s1 q1 vs hv => by
    split at q1
    · rename_i j
      obtain ⟨c, q2⟩ := q1.need
      obtain ⟨x, r, rfl, hx, hr⟩ := isDs_cons.mp hv
      rw [isDs_nil.mp hr, isD_int.mp hx]
      have c := of_decide_eq_true c
      exact ⟨j, rfl, c.1, c.2, q2.pure xE s1 _ walks_rng⟩
    · exact (show False from q1).elim)
def forD (g : Env → Dat → Option Env) (b : Env → M Flow) : List Dat → Env → M Flow
  | [], ρ => pure (.nx ρ)
  | d :: ds, ρ => M.opt (g ρ d) >>= fun ρ1 => b ρ1 >>= fun f => match f with
    | .nx ρ2 => forD g b ds ρ2
    | .ct ρ2 => forD g b ds ρ2
    | .bk ρ2 => pure (.nx ρ2)
    | .rt d => pure (.rt d)
def sFor (it : Env → M (List Dat)) (g : Env → Dat → Option Env) (b : Env → M Flow) (ρ : Env) : M Flow := it ρ >>= fun ds => forD g b ds ρ
theorem drop_cons {α : Type} {l : List α} {i : Nat} (h : i < l.length) : l.drop i = l[i] :: l.drop (i + 1) := List.drop_eq_getElem_cons h
theorem js_for {wi : TI} {it : Env → M (List Dat)} {g : TG} {gm : Env → Dat → Option Env} (hi : JI Z Er O Ext wi it) (hg : JG Z O g gm none) (hb : JS Z Er O ts ms) : JS Z Er O (tFor wi g ts) (sFor it gm ms) := fun σ H p ρ S D hE hS q =>
  hi σ H p ρ S _ hE hS (q.bndE.mono fun ds S1 H1 p1 e1 s1 q1 Jt hJ => by
    refine ⟨fun i n σ' H' => n = ds.length - i ∧ i ≤ ds.length ∧ ∃ p' ρ' S', Ext H1 p1 H' p' ∧ IsE Z O H' p' σ' ρ' ∧ IsS Z H' p' S' ∧ Post Z Er Ext (forD gm ms (ds.drop i) ρ' S') H' p' (fun f _ H' p' => FlowOk Z O D f H' p'),
      ⟨_, rfl, Nat.zero_le _, p1, ρ, S1, Ext.refl, hE.ext e1 hS, s1, q1⟩, ?_⟩
    rintro i n σ' H' ⟨rfl, le, p', ρ', S', ex, hE', hS', q'⟩
    by_cases lt : i < ds.length
    · have W := (hJ H' p' S' i ex hS').1 lt
      refine .inr ⟨W.1, fun σ2 H2 => ∃ p2 ρ2 S2, Ext H1 p1 H2 p2 ∧ IsE Z O H2 p2 σ2 ρ2 ∧ IsS Z H2 p2 S2 ∧ Post Z Er Ext (forD gm ms (ds.drop (i + 1)) ρ2 S2) H2 p2 (fun f _ H' p' => FlowOk Z O D f H' p'),
        fun σ2 H2 ⟨p2, ρ2, S2, a, b, c, d⟩ => ⟨_, by omega, rfl, lt, p2, ρ2, S2, a, b, c, d⟩, fun x Hx y => ?_⟩
      obtain ⟨sm, d, ed, hd⟩ := W.2 x Hx y
      have ed' : ds[i] = d := by
        rw [List.getElem?_eq_getElem lt] at ed
        exact Option.some.inj ed
      rw [drop_cons lt, ed'] at q'
      have eN : ExtE H' p' Hx p' := ExtE.same sm
      have q2 : Post Z Er Ext (forD gm ms (d :: ds.drop (i + 1)) ρ' S') Hx p' (fun f _ H' p' => FlowOk Z O D f H' p') := by
        unfold Post at q' ⊢
        cases z : forD gm ms (d :: ds.drop (i + 1)) ρ' S' with
        | ok a S2 => rw [z] at q'; exact fun H3 p3 e3 s3 => q' H3 p3 (eN.s.trans e3) s3
        | er a b S2 => rw [z] at q'; exact fun H3 p3 e3 s3 => q' H3 p3 (eN.s.trans e3) s3
        | bad => rw [z] at q'; exact q'
      obtain ⟨ρ1, e, q3⟩ := q2.opt
      refine hg x σ' Hx p' ρ' d _ (hE'.ext eN hS') hd ⟨ρ1, e, fun σ1 hE1 _ => hb σ1 Hx p' ρ1 S' _ hE1 (hS'.ext sm) ((q3.bnd xS).mono fun f S2 H2 p2 e2 s2 q4 => ?_)⟩
      have exx := (ex.trans eN.s).trans e2
      cases f with
      | nx ρ2 => exact fun σ2 hE2 => ⟨p2, ρ2, S2, exx, hE2, s2, q4⟩
      | ct ρ2 => exact fun σ2 hE2 => ⟨p2, ρ2, S2, exx, hE2, s2, q4⟩
      | bk ρ2 => exact fun σ2 hE2 => Post.pure xS q4 s2 σ2 hE2
      | rt d2 => exact fun v hv => Post.pure xS q4 s2 v hv
    · have e : i = ds.length := by omega
      subst e
      rw [List.drop_length] at q'
      exact .inl ⟨(hJ H' p' S' _ ex hS').2 rfl, Post.pure xS q' hS' σ' hE'⟩)
def compD (g : Env → Dat → Option Env) (c : Env → M Bool) (e : Env → M Dat) (ρ : Env) : List Dat → M (List Dat)
  | [] => pure []
  | d :: ds => M.opt (g ρ d) >>= fun ρ1 => c ρ1 >>= fun b => if b = true then e ρ1 >>= fun x => compD g c e ρ ds >>= fun xs => pure (x :: xs) else compD g c e ρ ds
def xLc (it : Env → M (List Dat)) (g : Env → Dat → Option Env) (c : Env → M Bool) (e : Env → M Dat) (vs : List Nat) (ρ : Env) : M Dat :=
  it ρ >>= fun ds => M.need (decide (ds.length ≤ 100000)) >>= fun _ => compD g c e (wipeE ρ vs) ds >>= fun es => pure (.lst es)
theorem Post.up {α : Type} {o : Out α} {H : Hp} {p : Pl} {C : α → List Dat → Hp → Pl → Prop} {X : XR} (x : XOk X) (q : Post Z Er X o H p C) {H' : Hp} {p' : Pl} (e : X H p H' p') : Post Z Er X o H' p' C := by
  unfold Post at q ⊢
  cases o with
  | ok a S2 => exact fun H3 p3 e3 s3 => q H3 p3 (x.trans e e3) s3
  | er a b S2 => exact fun H3 p3 e3 s3 => q H3 p3 (x.trans e e3) s3
  | bad => exact q
/-- as in an expression, but for new own places -/
structure ExtC (H : Hp) (p : Pl) (H' : Hp) (p' : Pl) : Prop where
  α : ∃ β, p'.α = p.α ++ β ∧ ∀ b ∈ β, H b = none
  ω : ∃ β, p'.ω = p.ω ++ β ∧ ∀ b ∈ β, H b = none
  γ : p'.γ = p.γ
  k : ∀ a o, H a = some o → a ∉ p.α → H' a = some o
  t : ∀ a, H a ≠ none → H' a ≠ none
theorem ExtC.s {H H' : Hp} {p p' : Pl} (e : ExtC H p H' p') : Ext H p H' p' := ⟨e.α, e.ω, e.γ, fun a o h n _ => e.k a o h n, e.t⟩
theorem ExtE.c {H H' : Hp} {p p' : Pl} (e : ExtE H p H' p') : ExtC H p H' p' := ⟨e.α, ⟨[], by rw [e.ω, List.append_nil], by simp⟩, e.γ, e.k, e.t⟩
theorem xCo : XOk ExtC := ⟨ExtE.refl.c, fun e f => ⟨fresh_app e.t e.α f.α, fresh_app e.t e.ω f.ω, f.γ.trans e.γ, fun a o h n => f.k a o (e.k a o h n) (not_fresh e.α h n), fun a h => f.t a (e.t a h)⟩, ExtE.c, ExtC.s⟩
mutual
theorem IsD.mv {H : Hp} {p p' : Pl} (e : ∀ (n : Nat) (x : Addr), p.α[n]? = some x → p'.α[n]? = some x) (l : ∀ a, p'.has a → p.has a) : ∀ (d : Dat) {v : V}, IsD Z H p v d → IsD Z H p' v d
  | .non, _, h => by unfold IsD at h ⊢; exact h
  | .bl b, _, h => by unfold IsD at h ⊢; exact h
  | .int i, _, h => by unfold IsD at h ⊢; exact h
  | .str x, _, h => by unfold IsD at h ⊢; exact h
  | .ty n, _, h => by unfold IsD at h ⊢; exact h
  | .cls c, _, h => by unfold IsD at h ⊢; exact h
  | .scr ns, _, h => by
    obtain ⟨a, rfl, h1⟩ := isD_scr.mp h
    exact isD_scr.mpr ⟨a, rfl, h1.imp (fun q => ⟨q.1, fun z => q.2 (l a z)⟩) id⟩
  | .tup ds, _, h => by
    obtain ⟨a, vs, rfl, h1, h2⟩ := isD_tup.mp h
    exact isD_tup.mpr ⟨a, vs, rfl, h1.imp (fun q => ⟨q.1, fun z => q.2 (l a z)⟩) id, IsDs.mv e l ds h2⟩
  | .lst ds, _, h => by
    obtain ⟨a, vs, rfl, h1, h2⟩ := isD_lst.mp h
    exact isD_lst.mpr ⟨a, vs, rfl, ⟨h1.1, fun z => h1.2 (l a z)⟩, IsDs.mv e l ds h2⟩
  | .dic ks ds, _, h => by
    obtain ⟨a, vs, rfl, h1, hl, h2⟩ := isD_dic.mp h
    exact isD_dic.mpr ⟨a, vs, rfl, ⟨h1.1, fun z => h1.2 (l a z)⟩, hl, IsDs.mv e l ds h2⟩
  | .obj c fs ds, _, h => by
    obtain ⟨a, vs, rfl, h1, hl, h2⟩ := isD_obj.mp h
    exact isD_obj.mpr ⟨a, vs, rfl, ⟨h1.1, fun z => h1.2 (l a z)⟩, hl, IsDs.mv e l ds h2⟩
  | .loc n, _, h => by
    obtain ⟨a, rfl, h1⟩ := isD_loc.mp h
    exact isD_loc.mpr ⟨a, rfl, e _ _ h1⟩
theorem IsDs.mv {H : Hp} {p p' : Pl} (e : ∀ (n : Nat) (x : Addr), p.α[n]? = some x → p'.α[n]? = some x) (l : ∀ a, p'.has a → p.has a) : ∀ (ds : List Dat) {vs : List V}, IsDs Z H p vs ds → IsDs Z H p' vs ds
  | [], _, h => isDs_nil.mpr (isDs_nil.mp h)
  | d :: ds, _, h => by
    obtain ⟨v, r, rfl, h1, h2⟩ := isDs_cons.mp h
    exact isDs_cons.mpr ⟨v, r, rfl, IsD.mv e l d h1, IsDs.mv e l ds h2⟩
end
theorem IsD.less {H : Hp} {p p' : Pl} (e : p'.α = p.α) (l : ∀ a, p'.has a → p.has a) (d : Dat) {v : V} (h : IsD Z H p v d) : IsD Z H p' v d := IsD.mv (fun _ _ q => by rw [e]; exact q) l d h
theorem IsDs.less {H : Hp} {p p' : Pl} (e : p'.α = p.α) (l : ∀ a, p'.has a → p.has a) (ds : List Dat) {vs : List V} (h : IsDs Z H p vs ds) : IsDs Z H p' vs ds := IsDs.mv (fun _ _ q => by rw [e]; exact q) l ds h
theorem IsTop.mv {H : Hp} {p p' : Pl} (e : ∀ (n : Nat) (x : Addr), p.α[n]? = some x → p'.α[n]? = some x) (l : ∀ a, p'.has a → p.has a) {a : Addr} {d : Dat} (h : IsTop Z H p a d) : IsTop Z H p' a d := by
  cases d with
  | lst ds => obtain ⟨vs, e1, h1⟩ := h; exact ⟨vs, e1, IsDs.mv e l _ h1⟩
  | dic ks ds => obtain ⟨vs, e1, n, h1⟩ := h; exact ⟨vs, e1, n, IsDs.mv e l _ h1⟩
  | obj c fs ds => obtain ⟨dx, vs, e1, n, h1⟩ := h; exact ⟨dx, vs, e1, n, IsDs.mv e l _ h1⟩
  | _ => exact h.elim
theorem IsTop.less {H : Hp} {p p' : Pl} (e : p'.α = p.α) (l : ∀ a, p'.has a → p.has a) {a : Addr} {d : Dat} (h : IsTop Z H p a d) : IsTop Z H p' a d := by
  cases d with
  | lst ds => obtain ⟨vs, e1, h1⟩ := h; exact ⟨vs, e1, IsDs.less e l _ h1⟩
  | dic ks ds => obtain ⟨vs, e1, n, h1⟩ := h; exact ⟨vs, e1, n, IsDs.less e l _ h1⟩
  | obj c fs ds => obtain ⟨dx, vs, e1, n, h1⟩ := h; exact ⟨dx, vs, e1, n, IsDs.less e l _ h1⟩
  | _ => exact h.elim
/-- fewer own places -/
theorem IsS.less {H : Hp} {p : Pl} {S : List Dat} (s : IsS Z H p S) {ω : List Addr} (l : ∀ a ∈ ω, a ∈ p.ω) : IsS Z H ⟨p.α, ω, p.γ⟩ S :=
  have l2 : ∀ a, (⟨p.α, ω, p.γ⟩ : Pl).has a → p.has a := fun a h => h.imp id fun h => h.imp (l a) id
  ⟨s.len, s.nd, fun a h => s.dj a (l a h), s.dg, fun a h => s.wt a (h.imp (l a) id), fun n a d h1 h2 => IsTop.less (p := p) (p' := ⟨p.α, ω, p.γ⟩) rfl l2 (s.at_ n a d h1 h2)⟩
/-- a new own place -/
theorem ExtC.plus {H H1 : Hp} {p : Pl} {D : Addr} {α' : List Addr} (e : ExtE H p H1 ⟨α', p.ω, p.γ⟩) (nD : H D = none) : ExtC H p H1 ⟨α', p.ω ++ [D], p.γ⟩ :=
  ⟨e.α, ⟨[D], rfl, fun b h => by rw [List.mem_singleton.mp h]; exact nD⟩, rfl, e.k, e.t⟩
theorem Post.plus {α : Type} {o : Out α} {H : Hp} {p : Pl} {C : α → List Dat → Hp → Pl → Prop} (q : Post Z Er ExtE o H p C) {D : Addr} : Post Z Er ExtE o H ⟨p.α, p.ω ++ [D], p.γ⟩ (fun a S' H' p' => C a S' H' ⟨p'.α, p.ω, p'.γ⟩) := by
  have key : ∀ H' p' S', ExtE H ⟨p.α, p.ω ++ [D], p.γ⟩ H' p' → IsS Z H' p' S' → ExtE H p H' ⟨p'.α, p.ω, p'.γ⟩ ∧ IsS Z H' ⟨p'.α, p.ω, p'.γ⟩ S' := fun H' p' S' e s =>
    ⟨⟨e.α, rfl, e.γ, e.k, e.t⟩, s.less fun a h => by rw [e.ω]; exact List.mem_append_left _ h⟩
  unfold Post at q ⊢
  cases o with
  | ok a S2 => exact fun H' p' e s => q H' ⟨p'.α, p.ω, p'.γ⟩ (key H' p' S2 e s).1 (key H' p' S2 e s).2
  | er a b S2 => exact fun H' p' e s => q H' ⟨p'.α, p.ω, p'.γ⟩ (key H' p' S2 e s).1 (key H' p' S2 e s).2
  | bad => exact q
/-- the own place D is written, which no slot has -/
theorem IsE.put {H : Hp} {p : Pl} {σ : L2.St} {ρ : Env} (h : IsE Z O H p σ ρ) {D : Addr} {o : HO} (hD : D ∈ p.ω) (n : ∀ i ∈ O, σ[i]? ≠ some (some (.ref D))) : IsE Z O (L2.upd H D o) p σ ρ := by
  have e : Ext H p (L2.upd H D o) p := ⟨⟨[], by simp⟩, ⟨[], by simp⟩, rfl, fun a u e n1 n2 => by rw [upd_ne fun z => n2 (by rw [z]; exact hD)]; exact e, fun a na => by
    by_cases c : a = D
    · rw [c, upd_same]; exact nofun
    · rw [upd_ne c]; exact na⟩
  refine ⟨h.len, fun i d ni q => ?_, fun i d oi q => ?_, h.dj⟩
  · obtain ⟨v, h1, h2⟩ := h.get i d ni q
    exact ⟨v, h1, h2.ext e⟩
  · obtain ⟨a, h1, h2, h3⟩ := h.own i d oi q
    exact ⟨a, h1, h2, h3.ext e fun u z => by rw [upd_ne fun c => n i oi (by rw [← c]; exact h1)]; exact z⟩
theorem IsS.put {H : Hp} {p : Pl} {S : List Dat} (s : IsS Z H p S) {D : Addr} {o : HO} (hD : D ∈ p.ω) : IsS Z (L2.upd H D o) p S := by
  have e : Ext H p (L2.upd H D o) p := ⟨⟨[], by simp⟩, ⟨[], by simp⟩, rfl, fun a u e n1 n2 => by rw [upd_ne fun z => n2 (by rw [z]; exact hD)]; exact e, fun a na => by
    by_cases c : a = D
    · rw [c, upd_same]; exact nofun
    · rw [upd_ne c]; exact na⟩
  exact ⟨s.len, s.nd, s.dj, s.dg, fun a h => e.t a (s.wt a h), fun n a d h1 h2 => (s.at_ n a d h1 h2).ext e fun u z => by rw [upd_ne fun c => (s.dj D hD).1 (by rw [← c]; exact List.mem_of_getElem? h1)]; exact z⟩
theorem ext_put {H : Hp} {p : Pl} {D : Addr} {o : HO} (hD : D ∈ p.ω) : Ext H p (L2.upd H D o) p := ⟨⟨[], by simp⟩, ⟨[], by simp⟩, rfl, fun a u e n1 n2 => by rw [upd_ne fun z => n2 (by rw [z]; exact hD)]; exact e, fun a na => by
    by_cases c : a = D
    · rw [c, upd_same]; exact nofun
    · rw [upd_ne c]; exact na⟩
/-- a new own place comes into being -/
theorem own_new {H : Hp} {p : Pl} {S : List Dat} {σ : L2.St} {ρ : Env} (hE : IsE Z O H p σ ρ) (hS : IsS Z H p S) {D : Addr} {o : HO} (nD : H D = none) : IsE Z O (L2.upd H D o) ⟨p.α, p.ω ++ [D], p.γ⟩ σ ρ ∧ IsS Z (L2.upd H D o) ⟨p.α, p.ω ++ [D], p.γ⟩ S := by
  have e : Ext H p (L2.upd H D o) ⟨p.α, p.ω ++ [D], p.γ⟩ := (ExtC.plus (ExtE.new nD) nD).s
  have hD := no_has hS nD
  refine ⟨⟨hE.len, fun i d ni q => ?_, fun i d oi q => ?_, hE.dj⟩, ⟨hS.len, hS.nd, fun a h => ?_, hS.dg, fun a h => ?_, fun n a d h1 h2 => ?_⟩⟩
  · obtain ⟨v, h1, h2⟩ := hE.get i d ni q
    exact ⟨v, h1, h2.ext e⟩
  · obtain ⟨a, h1, h2, h3⟩ := hE.own i d oi q
    exact ⟨a, h1, List.mem_append_left _ h2, h3.ext e fun u z => (upd_ne (ne_of_none z nD)).trans z⟩
  · rcases List.mem_append.mp h with h | h
    · exact hS.dj a h
    · rw [List.mem_singleton.mp h]
      exact ⟨fun z => hD (.inl z), fun z => hD (.inr (.inr z))⟩
  · rcases h with h | h
    · rcases List.mem_append.mp h with h | h
      · exact e.t a (hS.wt a (.inl h))
      · rw [List.mem_singleton.mp h, upd_same]
        exact nofun
    · exact e.t a (hS.wt a (.inr h))
  · exact (hS.at_ n a d h1 h2).ext e fun u z => (upd_ne (ne_of_none z nD)).trans z
theorem jf_lc {wi : TI} {it : Env → M (List Dat)} {g : TG} {gm : Env → Dat → Option Env} {vs : List Nat} (hi : JI Z Er O ExtC wi it) (hg : JG Z O g gm (some vs)) (hc : JB Z Er O tt mb) (he : JD Z Er O te m) : JF Z Er O (tLc wi g tt te vs) (xLc it gm mb m vs) := fun σ H p ρ S Q hE hS q =>
  hi σ H p ρ S _ hE hS ((q.bnd xE).mono fun ds S1 H1 p1 e1 s1 q1 Jt hJ => by
    obtain ⟨few, q2⟩ := q1.need
    have few : ds.length ≤ 100000 := of_decide_eq_true few
    have sz := sizeLine_eq
    intro D nD
    have hE1 := hE.ext e1 hS
    have noD : ∀ i ∈ O, σ[i]? ≠ some (some (.ref D)) ∨ ρ[i]? = none ∨ ρ[i]? = some none := fun i oi => by
      cases z : ρ[i]? with
      | none => exact .inr (.inl rfl)
      | some w =>
        cases w with
        | none => exact .inr (.inr rfl)
        | some d =>
          left
          obtain ⟨a, h1, h2, h3⟩ := hE1.own i d oi z
          rw [h1]
          intro c
          cases c
          exact s1.wt D (.inl h2) nD
    refine ⟨fun i n H' => n = ds.length - i ∧ i ≤ ds.length ∧ ∃ α' S' acc es, IsE Z O H' ⟨α', p1.ω ++ [D], p1.γ⟩ σ ρ ∧ IsS Z H' ⟨α', p1.ω ++ [D], p1.γ⟩ S' ∧ H' D = some (.lst acc) ∧ acc.length ≤ i ∧ IsDs Z H' ⟨α', p1.ω ++ [D], p1.γ⟩ acc es ∧ ExtE H1 p1 H' ⟨α', p1.ω, p1.γ⟩ ∧
        Post Z Er ExtE (compD gm mb m (wipeE ρ vs) (ds.drop i) S') H1 p1 (fun xs S'' H'' p'' => ∀ ws, H'' D = some (.lst ws) → ¬ p''.has D → IsS Z H'' ⟨p''.α, p''.ω ++ [D], p''.γ⟩ S'' → IsDs Z H'' ⟨p''.α, p''.ω ++ [D], p''.γ⟩ ws (es ++ xs) → Q (.ref D) H''), ?_, ?_⟩
    · obtain ⟨hE2, hS2⟩ := own_new (o := .lst []) hE1 s1 nD
      refine ⟨_, rfl, Nat.zero_le _, p1.α, S1, [], [], hE2, hS2, upd_same, Nat.le_refl _, isDs_nil.mpr rfl, ExtE.new nD, ?_⟩
      refine (q2.bnd xE).mono fun xs S'' H'' p'' e s q ws hD nh hs hws => ?_
      exact q.pure xE s D (back_of e1.t nD) (by rw [hD]; exact nofun) nh hs ⟨ws, hD, hws⟩
    · rintro i n H' ⟨rfl, le, α', S', acc, es, hE', hS', hD, la, hacc, ex, q'⟩
      have mD : D ∈ p1.ω ++ [D] := List.mem_append_right _ (List.mem_singleton.mpr rfl)
      have exC : ExtC H1 p1 H' ⟨α', p1.ω ++ [D], p1.γ⟩ := ExtC.plus ex nD
      by_cases lt : i < ds.length
      · have W := (hJ H' _ S' i exC hS').1 lt
        refine .inr ⟨W.1, fun H2 => ∃ α' S' acc es, IsE Z O H2 ⟨α', p1.ω ++ [D], p1.γ⟩ σ ρ ∧ IsS Z H2 ⟨α', p1.ω ++ [D], p1.γ⟩ S' ∧ H2 D = some (.lst acc) ∧ acc.length ≤ i + 1 ∧ IsDs Z H2 ⟨α', p1.ω ++ [D], p1.γ⟩ acc es ∧ ExtE H1 p1 H2 ⟨α', p1.ω, p1.γ⟩ ∧
            Post Z Er ExtE (compD gm mb m (wipeE ρ vs) (ds.drop (i + 1)) S') H1 p1 (fun xs S'' H'' p'' => ∀ ws, H'' D = some (.lst ws) → ¬ p''.has D → IsS Z H'' ⟨p''.α, p''.ω ++ [D], p''.γ⟩ S'' → IsDs Z H'' ⟨p''.α, p''.ω ++ [D], p''.γ⟩ ws (es ++ xs) → Q (.ref D) H''),
          fun H2 ⟨a, b, c, d, r⟩ => ⟨_, by omega, rfl, lt, a, b, c, d, r⟩, fun x Hx y => ?_⟩
        obtain ⟨sm, d, ed, hd⟩ := W.2 x Hx y
        have ed' : ds[i] = d := by
          rw [List.getElem?_eq_getElem lt] at ed
          exact Option.some.inj ed
        rw [drop_cons lt, ed'] at q'
        have eN : ∀ p, ExtE H' p Hx p := fun p => ExtE.same sm
        obtain ⟨ρ1, e, q3⟩ := q'.opt
        have hEx := hE'.ext (eN _) hS'
        refine hg x _ Hx _ _ d _ (hEx.wipe vs) hd ⟨ρ1, e, fun σ1 hE1' wi => ⟨(wi vs rfl).trans (wipe_wipe σ vs), ?_⟩⟩
        refine hc σ1 Hx _ ρ1 S' _ hE1' (hS'.ext sm) ((q3.bndK.up xE (ex.trans (eN _))).plus.mono fun b S2 H2 p2 e2 s2 q4 c hcb => ?_)
        subst hcb
        have ex2 : ExtE H1 p1 H2 ⟨p2.α, p1.ω, p1.γ⟩ := by
          have z := (ex.trans (eN _))
          refine z.trans ⟨e2.α, rfl, rfl, e2.k, e2.t⟩
        have ep2 : p2 = ⟨p2.α, p1.ω ++ [D], p1.γ⟩ := by
          have h1 := e2.ω
          have h2 := e2.γ
          cases p2
          cases h1
          cases h2
          rfl
        have nDα : D ∉ p2.α := (s2.dj D (by rw [e2.ω]; exact mD)).1
        have eH2 : ExtE H' ⟨α', p1.ω ++ [D], p1.γ⟩ H2 p2 := (eN _).trans e2
        have hE2 : IsE Z O H2 p2 σ ρ := hE'.ext eH2 hS'
        have hD2 : H2 D = some (.lst acc) := eH2.k D _ hD (hS'.dj D mD).1
        have hacc2 := hacc.ext eH2.s
        cases c with
        | true =>
          show te σ1 H2 _
          have q5 : Post Z Er ExtE ((m ρ1 >>= fun x => compD gm mb m (wipeE ρ vs) (ds.drop (i + 1)) >>= fun xs => pure (x :: xs)) S2) H1 p1 _ := q4
          have q6 := (q5.bndK.up xE ex2).plus (D := D)
          have e23 : (⟨p2.α, p1.ω ++ [D], p1.γ⟩ : Pl) = p2 := by rw [ep2]
          rw [e23] at q6
          refine he σ1 H2 p2 ρ1 S2 _ (hE1'.ext e2 (hS'.ext sm)) s2 (q6.mono fun x3 S3 H3 p3 e3 s3 q7 v hv => ?_)
          have ep3 : p3 = ⟨p3.α, p1.ω ++ [D], p1.γ⟩ := by
            have h1 := e3.ω
            have h2 := e3.γ
            rw [ep2] at h1 h2
            cases p3
            cases h1
            cases h2
            rfl
          have mD3 : D ∈ p3.ω := by rw [ep3]; exact mD
          have hD3 : H3 D = some (.lst acc) := e3.k D _ hD2 nDα
          have hacc3 := hacc2.ext e3.s
          have hE3 := hE2.ext e3 s2
          have noO : ∀ (i : Nat) (d : Dat), i ∈ O → ρ[i]? = some (some d) → σ[i]? ≠ some (some (.ref D)) := fun i d oi z => by
            rcases noD i oi with h | h | h
            · exact h
            · rw [h] at z; cases z
            · rw [h] at z; cases z
          have ePut : Ext H3 p3 (L2.upd H3 D (.lst (acc ++ [v]))) p3 := ext_put mD3
          refine ⟨acc, hD3, by omega, p3.α, S3, acc ++ [v], es ++ [x3], ?_, ?_, upd_same, by rw [List.length_append, List.length_singleton]; omega, ?_, ?_, ?_⟩
          · rw [← ep3]
            refine ⟨hE3.len, fun j d nj z => ?_, fun j d oj z => ?_, hE3.dj⟩
            · obtain ⟨v, h1, h2⟩ := hE3.get j d nj z
              exact ⟨v, h1, h2.ext ePut⟩
            · obtain ⟨a, h1, h2, h3⟩ := hE3.own j d oj z
              exact ⟨a, h1, h2, h3.ext ePut fun u zz => by rw [upd_ne fun c => noO j d oj z (by rw [← c]; exact h1)]; exact zz⟩
          · rw [← ep3]
            exact s3.put mD3
          · rw [← ep3]
            exact (hacc3.append (.one hv)).ext ePut
          · have z : ExtE H1 p1 H3 ⟨p3.α, p1.ω, p1.γ⟩ := ex2.trans ⟨e3.α, rfl, rfl, e3.k, e3.t⟩
            exact ⟨z.α, rfl, rfl, fun a o h n => by rw [upd_ne (ne_of_none h nD)]; exact z.k a o h n, fun a n => by rw [upd_ne fun c => n (by rw [c]; exact nD)]; exact z.t a n⟩
          · refine q7.bndK.mono fun xs S'' H'' p'' e s q ws hDw nh hs hws => ?_
            refine q H'' p'' e s ws hDw nh hs ?_
            rw [List.append_assoc] at hws
            exact hws
        | false =>
          have q5 : Post Z Er ExtE (compD gm mb m (wipeE ρ vs) (ds.drop (i + 1)) S2) H1 p1 _ := q4
          exact ⟨p2.α, S2, acc, es, by rw [← ep2]; exact hE2, by rw [← ep2]; exact s2, hD2, by omega, by rw [← ep2]; exact hacc2, ex2, q5⟩
      · have e : i = ds.length := by omega
        subst e
        rw [List.drop_length] at q'
        refine .inl ⟨(hJ H' _ S' _ exC hS').2 rfl, ?_⟩
        have hS3 := hS'.less (ω := p1.ω) fun a h => List.mem_append_left _ h
        have nh : ¬ (⟨α', p1.ω, p1.γ⟩ : Pl).has D := by
          rintro (h | h | h)
          · exact (hS'.dj D mD).1 h
          · exact s1.wt D (.inl h) nD
          · exact s1.wt D (.inr h) nD
        refine q' H' _ ex hS3 acc hD nh hS' ?_
        rw [List.append_nil]
        exact hacc)
theorem IsDs.unplus {H : Hp} {p : Pl} {a : Addr} {vs : List V} {ds : List Dat} (h : IsDs Z H ⟨p.α, p.ω ++ [a], p.γ⟩ vs ds) : IsDs Z H p vs ds :=
  have l2 : ∀ b, p.has b → (⟨p.α, p.ω ++ [a], p.γ⟩ : Pl).has b := fun b h => h.imp id fun h => h.imp (List.mem_append_left _) id
  IsDs.less (p := ⟨p.α, p.ω ++ [a], p.γ⟩) (p' := p) rfl l2 _ h
theorem IsTop.isD {H : Hp} {p : Pl} {a : Addr} {d : Dat} (nh : ¬ p.has a) (h : IsTop Z H ⟨p.α, p.ω ++ [a], p.γ⟩ a d) : IsD Z H p (.ref a) d := by
  cases d with
  | lst ds => obtain ⟨vs, e1, h1⟩ := h; exact isD_lst.mpr ⟨a, vs, rfl, ⟨e1, nh⟩, h1.unplus⟩
  | dic ks ds => obtain ⟨vs, e1, n, h1⟩ := h; exact isD_dic.mpr ⟨a, vs, rfl, ⟨e1, nh⟩, n, h1.unplus⟩
  | obj c fs ds => obtain ⟨dx, vs, e1, n, h1⟩ := h; exact isD_obj.mpr ⟨a, vs, rfl, ⟨⟨dx, e1⟩, nh⟩, n, h1.unplus⟩
  | _ => exact h.elim
theorem JF.d (h : JF Z Er O te m) : JD Z Er O te m := fun σ H p ρ S Q hE hS q => h σ H p ρ S Q hE hS (q.mono fun d S' H' p' _ _ k a _ _ nh _ t => k _ (t.isD nh))
theorem j_lc {wi : TI} {it : Env → M (List Dat)} {g : TG} {gm : Env → Dat → Option Env} {vs : List Nat} (hi : JI Z Er O ExtC wi it) (hg : JG Z O g gm (some vs)) (hc : JB Z Er O tt mb) (he : JD Z Er O te m) : JD Z Er O (tLc wi g tt te vs) (xLc it gm mb m vs) := (jf_lc hi hg hc he).d
theorem jf_lst (hl : JA Z Er O tl ml) : JF Z Er O (tLst tl) (xLst ml) := fun σ H p ρ S Q hE hS q =>
  hl σ H p ρ S _ hE hS ((q.bnd xE).mono fun ds S1 H1 p1 e1 s1 q1 vs hv => by
    obtain ⟨c, q2⟩ := q1.need
    refine ⟨few (by rw [hv.len]; exact of_decide_eq_true c), fun a na => q2.at_new s1 na a (back_of e1.t na) (by rw [upd_same]; exact nofun) (no_has s1 na) (own_new (hE.ext e1 hS) s1 na).2 ⟨vs, upd_same, ?_⟩⟩
    exact hv.ext (ExtC.plus (ExtE.new na) na).s)
def xDic0 (_ : Env) : M Dat := pure (.dic [] [])
theorem jf_dic0 : JF Z Er O tDNewK xDic0 := fun σ H p ρ S Q hE hS q a na => q.at_new hS na a na (by rw [upd_same]; exact nofun) (no_has hS na) (own_new hE hS na).2 ⟨[], upd_same, rfl, isDs_nil.mpr rfl⟩
end
end Zd
namespace Zd
open PySem PySem.Spec PyProof.Rows L2
mutual
def toPy : Dat → Option PyData
  | .non => some .none
  | .bl b => some (.bool b)
  | .int i => some (.int i)
  | .str x => some (.str x)
  | .tup ds => (toPys ds).map .tuple
  | .lst ds => (toPys ds).map .list
  | _ => none
def toPys : List Dat → Option (List PyData)
  | [] => some []
  | d :: ds => (toPy d).bind fun x => (toPys ds).map (x :: ·)
end
section
variable {Z : Cz} {H : Hp} {p : Pl}
theorem toPys_cons {d : Dat} {ds : List Dat} {ys : List PyData} (h : toPys (d :: ds) = some ys) : ∃ x xs, toPy d = some x ∧ toPys ds = some xs ∧ ys = x :: xs := by
  rw [toPys] at h
  cases e : toPy d with
  | none => rw [e] at h; cases h
  | some x =>
    cases e2 : toPys ds with
    | none => rw [e, e2] at h; cases h
    | some xs => rw [e, e2] at h; cases h; exact ⟨x, xs, rfl, rfl, rfl⟩
mutual
theorem IsD.dp : ∀ (d : Dat) {v : V} {y : PyData}, IsD Z H p v d → toPy d = some y → Dp Z.K H v y
  | .non, _, _, h, e => by rw [toPy] at e; cases e; rw [isD_non.mp h]; exact .non
  | .bl b, _, _, h, e => by rw [toPy] at e; cases e; rw [isD_bl.mp h]; exact .bl b
  | .int i, _, _, h, e => by rw [toPy] at e; cases e; rw [isD_int.mp h]; exact .int i
  | .str x, _, _, h, e => by rw [toPy] at e; cases e; rw [isD_str.mp h]; exact .str x
  | .tup ds, _, y, h, e => by
    obtain ⟨a, vs, rfl, h1, h2⟩ := isD_tup.mp h
    rw [toPy] at e
    cases e2 : toPys ds with
    | none => rw [e2] at e; cases e
    | some ys => rw [e2] at e; cases e; exact .tup h1.sq (IsDs.dp ds h2 e2)
  | .lst ds, _, y, h, e => by
    obtain ⟨a, vs, rfl, h1, h2⟩ := isD_lst.mp h
    rw [toPy] at e
    cases e2 : toPys ds with
    | none => rw [e2] at e; cases e
    | some ys => rw [e2] at e; cases e; exact .lst h1.sq (IsDs.dp ds h2 e2)
  | .dic _ _, _, _, _, e => by rw [toPy] at e <;> first | cases e | nofun
  | .obj _ _ _, _, _, _, e => by rw [toPy] at e <;> first | cases e | nofun
  | .loc _, _, _, _, e => by rw [toPy] at e <;> first | cases e | nofun
  | .ty _, _, _, _, e => by rw [toPy] at e <;> first | cases e | nofun
  | .cls _, _, _, _, e => by rw [toPy] at e <;> first | cases e | nofun
  | .scr _, _, _, _, e => by rw [toPy] at e <;> first | cases e | nofun
theorem IsDs.dp : ∀ (ds : List Dat) {vs : List V} {ys : List PyData}, IsDs Z H p vs ds → toPys ds = some ys → DpAll Z.K H vs ys
  | [], _, _, h, e => by rw [toPys] at e; cases e; rw [isDs_nil.mp h]; exact .nil
  | d :: ds, _, _, h, e => by
    obtain ⟨v, r, rfl, h1, h2⟩ := isDs_cons.mp h
    obtain ⟨x, xs, e1, e2, rfl⟩ := toPys_cons e
    exact .cons (IsD.dp d h1 e1) (IsDs.dp ds h2 e2)
end
theorem IsW.dp {v : V} {d : Dat} {y : PyData} (h : IsW Z H p v d) (e : toPy d = some y) : Dp Z.K H v y := by
  cases d with
  | lst ds =>
    obtain ⟨a, vs, rfl, h1, h2⟩ := h
    rw [toPy] at e
    cases e2 : toPys ds with
    | none => rw [e2] at e; cases e
    | some ys => rw [e2] at e; cases e; exact .lst (SqL.of h1.1) (IsDs.dp ds h2 e2)
  | dic _ _ => rw [toPy] at e <;> first | cases e | nofun
  | obj _ _ _ => rw [toPy] at e <;> first | cases e | nofun
  | non => exact IsD.dp _ h e
  | bl b => exact IsD.dp _ h e
  | int i => exact IsD.dp _ h e
  | str x => exact IsD.dp _ h e
  | tup ds => exact IsD.dp _ h e
  | loc n => exact IsD.dp _ h e
  | ty n => exact IsD.dp _ h e
  | cls n => exact IsD.dp _ h e
  | scr n => exact IsD.dp _ h e
end
section
variable {Z : Cz} {Er : ErW} {O : List Nat}
/-- of two ints, of one -/
def dI (C : Int → Int → Bool) (G : Int → Int → Dat) (d e : Dat) : M Dat := match d, e with
  | .int i, .int j => M.need (C i j) >>= fun _ => pure (G i j)
  | _, _ => M.no
def dI0 (G : Int → Int → Dat) (d e : Dat) : M Dat := match d, e with
  | .int i, .int j => pure (G i j)
  | _, _ => M.no
theorem bad_no {α : Type} {S : List Dat} {H : Hp} {p : Pl} {X : XR} {C : α → List Dat → Hp → Pl → Prop} (h : Post Z Er X ((M.no : M α) S) H p C) : False := h
theorem jr_I0 {g : Int → Int → V} {G : Int → Int → Dat} (h : ∀ i j H p, IsD Z H p (g i j) (G i j)) : JR Z (IsD Z) (IsD Z) (IsD Z) (rI0 g) (dI0 G) := fun x y d e Er H p S Q hx hy s q => by
  unfold dI0 at q
  split at q
  · exact ⟨_, _, isD_int.mp hx, isD_int.mp hy, q.pure xE s _ (h _ _ H p)⟩
  · exact (bad_no q).elim
theorem jr_I {C : Int → Int → Prop} {B : Int → Int → Bool} {g : Int → Int → V} {G : Int → Int → Dat} (hB : ∀ i j, B i j = true → C i j) (h : ∀ i j H p, IsD Z H p (g i j) (G i j)) : JR Z (IsD Z) (IsD Z) (IsD Z) (rI C g) (dI B G) := fun x y d e Er H p S Q hx hy s q => by
  unfold dI at q
  split at q
  · obtain ⟨c, q⟩ := q.need
    exact ⟨_, _, isD_int.mp hx, isD_int.mp hy, hB _ _ c, q.pure xE s _ (h _ _ H p)⟩
  · exact (bad_no q).elim
def dAdd := dI0 fun i j => .int (i + j)
def dSub := dI0 fun i j => .int (i - j)
def bMul (i j : Int) : Bool := (decide (-(2 ^ 64) < i) && decide (i < 2 ^ 64)) || (decide (-(2 ^ 64) < j) && decide (j < 2 ^ 64))
def dMul := dI bMul fun i j => .int (i * j)
def dMod := dI (fun _ j => decide (0 < j)) fun i j => .int (i % j)
def dDiv := dI (fun _ j => decide (0 < j) && decide (j < 2 ^ 200)) fun i j => .int (i / j)
def bPow (i j : Int) : Bool := decide (0 ≤ j) && decide (j ≤ 1000000) && decide (i.natAbs < 2 ^ 64)
def dPow := dI bPow fun i j => .int (i ^ j.toNat)
def bPowZ (i j : Int) : Bool := decide (0 ≤ j) && decide ((Builtin.Int.intBits i : Int) * j ≤ 2 ^ 27)
def dPowZ := dI bPowZ fun i j => .int (i ^ j.toNat)
def dLt := dI0 fun i j => .bl (decide (i < j))
def dLe := dI0 fun i j => .bl (decide (i ≤ j))
def dGt := dI0 fun i j => .bl (decide (j < i))
def dGe := dI0 fun i j => .bl (decide (j ≤ i))
abbrev JRD (Z : Cz) (r : L2.R2) (f : Dat → Dat → M Dat) : Prop := JR Z (IsD Z) (IsD Z) (IsD Z) r f
theorem r_add : JRD Z (rI0 fun i j => .int (i + j)) dAdd := jr_I0 fun _ _ _ _ => isD_int.mpr rfl
theorem r_sub : JRD Z (rI0 fun i j => .int (i - j)) dSub := jr_I0 fun _ _ _ _ => isD_int.mpr rfl
theorem r_lt : JRD Z (rI0 fun i j => .bl (decide (i < j))) dLt := jr_I0 fun _ _ _ _ => isD_bl.mpr rfl
theorem r_le : JRD Z (rI0 fun i j => .bl (decide (i ≤ j))) dLe := jr_I0 fun _ _ _ _ => isD_bl.mpr rfl
theorem r_gt : JRD Z (rI0 fun i j => .bl (decide (j < i))) dGt := jr_I0 fun _ _ _ _ => isD_bl.mpr rfl
theorem r_ge : JRD Z (rI0 fun i j => .bl (decide (j ≤ i))) dGe := jr_I0 fun _ _ _ _ => isD_bl.mpr rfl
theorem r_mul : JRD Z (rI CMul fun i j => .int (i * j)) dMul := jr_I (fun i j h => by
  unfold bMul at h
  simp only [Bool.or_eq_true, Bool.and_eq_true, decide_eq_true_eq] at h
  exact h) fun _ _ _ _ => isD_int.mpr rfl
theorem r_mod : JRD Z (rI (fun _ j => 0 < j) fun i j => .int (i % j)) dMod := jr_I (fun i j h => of_decide_eq_true h) fun _ _ _ _ => isD_int.mpr rfl
theorem r_div : JRD Z (rI CDivW fun i j => .int (i / j)) dDiv := jr_I (fun i j h => by
  simp only [Bool.and_eq_true, decide_eq_true_eq] at h
  exact wide_div h.1 (b := 200) (by omega) (by decide) (by decide)) fun _ _ _ _ => isD_int.mpr rfl
theorem r_pow : JRD Z (rI CPow fun i j => .int (i ^ j.toNat)) dPow := jr_I (fun i j h => by
  unfold bPow at h
  simp only [Bool.and_eq_true, decide_eq_true_eq] at h
  exact ⟨h.1.1, h.1.2, h.2⟩) fun _ _ _ _ => isD_int.mpr rfl
theorem r_powZ : JRD Z (rI Zg.CPowZ fun i j => .int (i ^ j.toNat)) dPowZ := jr_I (fun i j h => by
  unfold bPowZ at h
  simp only [Bool.and_eq_true, decide_eq_true_eq] at h
  exact ⟨h.1, h.2⟩) fun _ _ _ _ => isD_int.mpr rfl
def dNeg (d : Dat) : M Dat := match d with
  | .int i => pure (.int (-i))
  | _ => M.no
theorem u_neg : JU Z (IsD Z) (IsD Z) (rU fun i => .int (-i)) dNeg := fun x d Er H p S Q hx s q => by
  unfold dNeg at q
  split at q
  · exact ⟨_, isD_int.mp hx, q.pure xE s _ (isD_int.mpr rfl)⟩
  · exact (bad_no q).elim
def vS : Dat → Option V
  | .non => some .non
  | .bl b => some (.bl b)
  | .int i => some (.int i)
  | .str x => some (.str x)
  | _ => none
theorem vS_is {H : Hp} {p : Pl} {v x : V} {d : Dat} (h : IsD Z H p v d) (e : vS d = some x) : v = x := by
  cases d with
  | non => cases e; exact isD_non.mp h
  | bl b => cases e; exact isD_bl.mp h
  | int i => cases e; exact isD_int.mp h
  | str z => cases e; exact isD_str.mp h
  | _ => cases e
def dEq (d e : Dat) : M Dat := M.opt (vS d) >>= fun x => M.opt (vS e) >>= fun y => M.need (scal x y) >>= fun _ => pure (.bl (decide (x = y)))
def dNe (d e : Dat) : M Dat := M.opt (vS d) >>= fun x => M.opt (vS e) >>= fun y => M.need (scal x y) >>= fun _ => pure (.bl (!decide (x = y)))
theorem r_eq : JRD Z rEq dEq := fun x y d e Er H p S Q hx hy s q => by
  obtain ⟨v, e1, q⟩ := q.opt
  obtain ⟨w, e2, q⟩ := q.opt
  obtain ⟨c, q⟩ := q.need
  rw [vS_is hx e1, vS_is hy e2]
  exact ⟨c, q.pure xE s _ (isD_bl.mpr rfl)⟩
theorem r_ne : JRD Z rNe dNe := fun x y d e Er H p S Q hx hy s q => by
  obtain ⟨v, e1, q⟩ := q.opt
  obtain ⟨w, e2, q⟩ := q.opt
  obtain ⟨c, q⟩ := q.need
  rw [vS_is hx e1, vS_is hy e2]
  exact ⟨c, q.pure xE s _ (isD_bl.mpr rfl)⟩
def isNon : Dat → Bool
  | .non => true
  | _ => false
def shp (y : PyData) : Bool := SeqAt.shaped y
def rLtD (K : PySem.W.Frag) : L2.R2 := fun x y H Q => ∃ d e, Dp K H x d ∧ Dp K H y e ∧ PySem.W.alike d e = true ∧ d ≠ .none ∧ d.depth ≤ 64 ∧ Q (.bl (PySem.W.dataLt d e)) H
theorem op_ltD {X : Cx} {K : PySem.W.Frag} (hu : X.A.units + 64 < cLine) (h : X.K = K := by rfl) : OpR X (compareOp .Lt) (rLtD K) := by
  subst h
  intro pins s σ H x y v u Q I rx ry h
  obtain ⟨d, e, hd, he, al, nn, sd, q⟩ := h
  obtain ⟨as, r1⟩ := Dp.reads I d x v hd rx
  obtain ⟨bs, r2⟩ := Dp.reads I e y u he ry
  refine PySem.W.lt_data r1 r2 al nn ?_ ⟨.bl _, H, I, rfl, q⟩
  have h2 : min d.depth e.depth ≤ d.depth := Nat.min_le_left _ _
  omega
def isNone : PyData → Bool
  | .none => true
  | _ => false
def dLtD (d e : Dat) : M Dat := M.opt (toPy d) >>= fun x => M.opt (toPy e) >>= fun y => M.need (PySem.W.alike x y && !isNone x && decide (x.depth ≤ 64)) >>= fun _ => pure (.bl (PySem.W.dataLt x y))
theorem r_ltD : JRD Z (rLtD Z.K) dLtD := fun x y d e Er H p S Q hx hy s q => by
  obtain ⟨v, e1, q⟩ := q.opt
  obtain ⟨w, e2, q⟩ := q.opt
  obtain ⟨c, q⟩ := q.need
  simp only [Bool.and_eq_true, decide_eq_true_eq, Bool.not_eq_true'] at c
  refine ⟨v, w, hx.dp _ e1, hy.dp _ e2, c.1.1, fun z => ?_, c.2, q.pure xE s _ (isD_bl.mpr rfl)⟩
  rw [z] at c
  exact absurd c.1.2 (by decide)
def rInDD (K : PySem.W.Frag) (neg : Bool) : L2.R2 := fun x y H Q => ∃ d ds, Dp K H x d ∧ (Dp K H y (.tuple ds) ∨ Dp K H y (.list ds)) ∧ SeqAt.shaped d = true ∧ SeqAt.shaped (.tuple ds) = true ∧ Q (.bl (neg != ds.any fun z => PyData.eqv z d)) H
theorem op_inDD {X : Cx} {K : PySem.W.Frag} (hu : X.A.units + 70 < cLine) (h : X.K = K := by rfl) : OpR X (compareOp .In) (rInDD K false) := by
  subst h
  intro pins s σ H x y v u Q I rx ry h
  obtain ⟨d, ds, hd, he, sd, se, q⟩ := h
  obtain ⟨as, r1⟩ := Dp.reads I d x v hd rx
  rw [Bool.false_bne] at q
  rcases he with he | he
  · obtain ⟨bs, r2⟩ := Dp.reads I (.tuple ds) y u he ry
    exact SeqAt.in_tuple_reads r2 r1 (SeqAt.canLay_of_shaped se) (SeqAt.canLay_of_shaped sd) (room_in_shaped sd (by omega)) ⟨.bl _, H, I, rfl, q⟩
  · obtain ⟨bs, r2⟩ := Dp.reads I (.list ds) y u he ry
    exact SeqAt.in_list_reads r2 r1 (SeqAt.canLay_of_shaped se) (SeqAt.canLay_of_shaped sd) (room_in_shaped sd (by omega)) ⟨.bl _, H, I, rfl, q⟩
def itemsOf : Dat → Option (List Dat)
  | .tup ds => some ds
  | .lst ds => some ds
  | _ => none
def dIn (neg : Bool) (d e : Dat) : M Dat := M.opt (toPy d) >>= fun x => M.opt ((itemsOf e).bind toPys) >>= fun ys => M.need (shp x && shp (.tuple ys)) >>= fun _ => pure (.bl (neg != ys.any fun z => PyData.eqv z x))
theorem r_in {neg : Bool} : JR Z (IsD Z) (IsW Z) (IsD Z) (rInDD Z.K neg) (dIn neg) := fun x y d e Er H p S Q hx hy s q => by
  obtain ⟨v, e1, q⟩ := q.opt
  obtain ⟨ws, e2, q⟩ := q.opt
  obtain ⟨c, q⟩ := q.need
  rw [Bool.and_eq_true] at c
  refine ⟨v, ws, hx.dp _ e1, ?_, c.1, c.2, q.pure xE s _ (isD_bl.mpr rfl)⟩
  cases e with
  | tup ds =>
    left
    refine hy.dp ?_
    rw [toPy]
    have e2 : toPys ds = some ws := e2
    rw [e2]; rfl
  | lst ds =>
    right
    refine hy.dp ?_
    rw [toPy]
    have e2 : toPys ds = some ws := e2
    rw [e2]; rfl
  | _ => cases e2
def dCatT (d e : Dat) : M Dat := match d, e with
  | .tup xs, .tup ys => M.need (decide (xs.length + ys.length ≤ 100000)) >>= fun _ => pure (.tup (xs ++ ys))
  | _, _ => M.no
theorem lim {n : Nat} (h : n ≤ 100000) : n ≤ sizeLine := by have := sizeLine_eq; omega
theorem r_catT : JRD Z (rCatA Z.K) dCatT := fun x y d e Er H p S Q hx hy s q => by
  unfold dCatT at q
  split at q
  · rename_i xs ys
    obtain ⟨c, q⟩ := q.need
    have c := of_decide_eq_true c
    obtain ⟨a, vs, rfl, h1, h2⟩ := isD_tup.mp hx
    obtain ⟨b, ws, rfl, g1, g2⟩ := isD_tup.mp hy
    refine ⟨a, b, vs, ws, rfl, rfl, h1.sq, g1.sq, lim (by rw [h2.len, g2.len]; exact c), fun z => ?_, fun z z2 => ?_, fun _ _ t o nt nd => ?_⟩
    · have e : xs = [] := List.length_eq_zero_iff.mp (by rw [← h2.len, z]; rfl)
      subst e
      exact q.pure xE s _ hy
    · have e : ys = [] := List.length_eq_zero_iff.mp (by rw [← g2.len, z2]; rfl)
      subst e
      have q := q.pure xE s
      rw [List.append_nil] at q
      exact q _ hx
    · exact q.at_new s nt _ (new_tup s nt nd (h2.append g2))
  · exact (bad_no q).elim
def dCatL (d e : Dat) : M Dat := match d, e with
  | .lst xs, .lst ys => M.need (decide (xs.length + ys.length ≤ 100000)) >>= fun _ => pure (.lst (xs ++ ys))
  | _, _ => M.no
theorem r_catL : JR Z (IsW Z) (IsW Z) (IsD Z) rCat dCatL := fun x y d e Er H p S Q hx hy s q => by
  unfold dCatL at q
  split at q
  · obtain ⟨c, q⟩ := q.need
    have c := of_decide_eq_true c
    obtain ⟨a, vs, rfl, h1, h2⟩ := hx
    obtain ⟨b, ws, rfl, g1, g2⟩ := hy
    exact ⟨a, b, vs, ws, rfl, rfl, h1.1, g1.1, lim (by rw [h2.len, g2.len]; exact c), fun t nt => q.at_new s nt _ (new_lst s nt (h2.append g2))⟩
  · exact (bad_no q).elim
theorem IsDs.rep {H : Hp} {p : Pl} {vs : List V} {ds : List Dat} (h : IsDs Z H p vs ds) : ∀ n : Nat, IsDs Z H p (List.replicate n vs).flatten (List.replicate n ds).flatten
  | 0 => isDs_nil.mpr rfl
  | n + 1 => by
    rw [List.replicate_succ, List.replicate_succ, List.flatten_cons, List.flatten_cons]
    exact h.append (IsDs.rep h n)
def dRepL (d e : Dat) : M Dat := match d, e with
  | .lst xs, .int k => M.need (decide (-(2 ^ 63) ≤ k) && decide (k < 2 ^ 63) && decide (xs.length * k.toNat ≤ 100000)) >>= fun _ => pure (.lst (List.replicate k.toNat xs).flatten)
  | _, _ => M.no
theorem r_repL : JRD Z rRep dRepL := fun x y d e Er H p S Q hx hy s q => by
  unfold dRepL at q
  split at q
  · obtain ⟨c, q⟩ := q.need
    simp only [Bool.and_eq_true, decide_eq_true_eq] at c
    obtain ⟨a, vs, rfl, h1, h2⟩ := isD_lst.mp hx
    exact ⟨a, _, vs, rfl, isD_int.mp hy, h1.1, c.1.1, c.1.2, lim (by rw [h2.len]; exact c.2), fun t nt => q.at_new s nt _ (new_lst s nt (h2.rep _))⟩
  · exact (bad_no q).elim
def dLtS (d e : Dat) : M Dat := match d, e with
  | .str x, .str y => pure (.bl (decide (x.cps.toList < y.cps.toList)))
  | _, _ => M.no
theorem r_ltS : JRD Z (fun x y H Q => ∃ i j, x = .str i ∧ y = .str j ∧ Q (.bl (decide (i.cps.toList < j.cps.toList))) H) dLtS := fun x y d e Er H p S Q hx hy s q => by
  unfold dLtS at q
  split at q
  · exact ⟨_, _, isD_str.mp hx, isD_str.mp hy, q.pure xE s _ (isD_bl.mpr rfl)⟩
  · exact (bad_no q).elim
theorem atI_rel {H : Hp} {p : Pl} {vs : List V} {ds : List Dat} {i : Int} {d : Dat} (h : IsDs Z H p vs ds) (e : atI ds i = some d) : ∃ v, atI vs i = some v ∧ IsD Z H p v d := by
  unfold atI at e ⊢
  rw [h.len]
  cases q : ixN ds.length i with
  | none => rw [q] at e; cases e
  | some j =>
    rw [q] at e
    exact h.get e
def dIxL (d e : Dat) : M Dat := match d, e with
  | .lst xs, .int i => M.opt (atI xs i)
  | _, _ => M.no
def dIxT (d e : Dat) : M Dat := match d, e with
  | .tup xs, .int i => M.opt (atI xs i)
  | _, _ => M.no
theorem r_ixT : JRD Z (rIxT Z.K) dIxT := fun x y d e Er H p S Q hx hy s q => by
  unfold dIxT at q
  split at q
  · obtain ⟨c, e, q⟩ := opt_pure xE q s
    obtain ⟨a, vs, rfl, h1, h2⟩ := isD_tup.mp hx
    obtain ⟨v, e1, e2⟩ := atI_rel h2 e
    exact ⟨a, vs, _, v, rfl, isD_int.mp hy, h1.sq, e1, q v e2⟩
  · exact (bad_no q).elim
theorem r_ixL : JR Z (IsW Z) (IsD Z) (IsD Z) (rIxL Z.K) dIxL := fun x y d e Er H p S Q hx hy s q => by
  unfold dIxL at q
  split at q
  · obtain ⟨c, e, q⟩ := opt_pure xE q s
    obtain ⟨a, vs, rfl, h1, h2⟩ := hx
    obtain ⟨v, e1, e2⟩ := atI_rel h2 e
    exact ⟨a, vs, _, v, rfl, isD_int.mp hy, SqL.of h1.1, e1, q v e2⟩
  · exact (bad_no q).elim
/-- a sign of the script -/
def dIxSc (d e : Dat) : M Dat := match d, e with
  | .scr xs, .int i => M.opt (atI xs i) >>= fun n => pure (.int n)
  | _, _ => M.no
theorem r_ixSc : JRD Z (rIxL Z.K) dIxSc := fun x y d e Er H p S Q hx hy s q => by
  unfold dIxSc at q
  split at q
  · rename_i xs i
    obtain ⟨n, e, q⟩ := q.opt
    obtain ⟨a, rfl, h1⟩ := isD_scr.mp hx
    have e1 : atI (xs.map V.int) i = some (.int n) := by
      unfold atI at e ⊢
      rw [List.length_map]
      cases z : ixN xs.length i with
      | none => rw [z] at e; cases e
      | some j =>
        rw [z] at e
        have e : xs[j]? = some n := e
        show (xs.map V.int)[j]? = some (.int n)
        rw [List.getElem?_map, e]
        rfl
    exact ⟨a, _, _, _, rfl, isD_int.mp hy, h1.elim (fun z => .inl z.1) fun z => z H, e1, q.pure xE s _ (isD_int.mpr rfl)⟩
  · exact (bad_no q).elim
/-- an item of a shared list -/
def dIxLo (d e : Dat) : M Dat := match d, e with
  | .loc n, .int i => fun S => match S[n]? with
    | some (.lst xs) => M.opt (atI xs i) S
    | _ => .bad
  | _, _ => M.no
theorem r_ixLo : JRD Z (rIxL Z.K) dIxLo := fun x y d e Er H p S Q hx hy s q => by
  cases d with
  | loc n =>
    cases e with
    | int i =>
      obtain ⟨a, rfl, ha⟩ := isD_loc.mp hx
      have q : Post Z Er ExtE (match S[n]? with | some (.lst xs) => M.opt (atI xs i) S | _ => .bad) H p _ := q
      split at q
      · rename_i xs ex
        obtain ⟨c, e, q⟩ := opt_pure xE q s
        obtain ⟨vs, h1, h2⟩ := s.at_ n a _ ha ex
        obtain ⟨v, e1, e2⟩ := atI_rel h2 e
        exact ⟨a, vs, _, v, rfl, isD_int.mp hy, SqL.of h1, e1, q v e2⟩
      · exact q.elim
    | _ => exact (bad_no (S := S) q).elim
  | _ => exact (bad_no (S := S) q).elim
def cutD (xs : List Dat) (lo hi : Option Int) : List Dat := (xs.drop (HT.sIx xs.length 0 lo)).take (HT.sIx xs.length xs.length hi - HT.sIx xs.length 0 lo)
theorem IsDs.cut {H : Hp} {p : Pl} {vs : List V} {ds : List Dat} (h : IsDs Z H p vs ds) (lo hi : Option Int) : IsDs Z H p (cutV vs lo hi) (cutD ds lo hi) := by
  unfold cutV cutD
  rw [h.len]
  exact (h.drop _).take _
def jSl (f : Dat → Option Int → Option Int → M Dat) (a : Env → M Dat) (l u : Env → M (Option Int)) (ρ : Env) : M Dat := a ρ >>= fun x => l ρ >>= fun lo => u ρ >>= fun hi => f x lo hi
def dCutT (d : Dat) (lo hi : Option Int) : M Dat := match d with
  | .tup xs => pure (.tup (cutD xs lo hi))
  | _ => M.no
def dCutL (d : Dat) (lo hi : Option Int) : M Dat := match d with
  | .lst xs => pure (.lst (cutD xs lo hi))
  | _ => M.no
def oNone (_ : Env) : M (Option Int) := pure none
def oSome (a : Env → M Dat) (ρ : Env) : M (Option Int) := a ρ >>= fun x => match x with
  | .int i => pure (some i)
  | _ => M.no
variable {te ta tb : TE} {tl th : TO} {m m1 m2 : Env → M Dat} {ml mh : Env → M (Option Int)}
theorem jo_none : JO Z Er O tNoPart oNone := fun σ H p ρ S Q hE hS q => q.pure xE hS none rfl
theorem jo_some (h : JD Z Er O te m) : JO Z Er O (tPart te) (oSome m) := fun σ H p ρ S Q hE hS q =>
  h σ H p ρ S _ hE hS ((q.bnd xE).mono fun d S1 H1 p1 e1 s1 q1 v hv => by
    cases d with
    | int i => exact ⟨i, isD_int.mp hv, q1.pure xE s1 _ rfl⟩
    | _ => exact (bad_no q1).elim)
theorem j_slT (h : JD Z Er O te m) (hl : JO Z Er O tl ml) (hh : JO Z Er O th mh) : JD Z Er O (tSl (rSlA Z.K) te tl th) (jSl dCutT m ml mh) := fun σ H p ρ S Q hE hS q =>
  h σ H p ρ S _ hE hS ((q.bnd xE).mono fun d S1 H1 p1 e1 s1 q1 v hv => hl σ H1 p1 ρ S1 _ (hE.ext e1 hS) s1 ((q1.bnd xE).mono fun lo S2 H2 p2 e2 s2 q2 lo' elo => hh σ H2 p2 ρ S2 _ ((hE.ext e1 hS).ext e2 s1) s2 ((q2.bnd xE).mono fun hi S3 H3 p3 e3 s3 q3 hi' ehi => by
    subst elo ehi
    have hv3 := hv.ext (e2.trans e3).s
    unfold dCutT at q3
    split at q3
    · rename_i xs
      obtain ⟨a, vs, rfl, h1, h2⟩ := isD_tup.mp hv3
      refine ⟨a, vs, rfl, h1.sq, fun wh => ?_, fun _ t o nt nd => q3.at_new s3 nt _ (new_tup s3 nt nd (h2.cut _ _))⟩
      have e : cutD xs lo' hi' = xs := by
        rw [h2.len] at wh
        unfold cutD
        rw [wh.1, wh.2, List.drop_zero, Nat.sub_zero, List.take_length]
      have q3 := q3.pure xE s3
      rw [e] at q3
      exact q3 _ hv3
    · exact (bad_no q3).elim)))
theorem j_slL (h : JW Z Er O te m) (hl : JO Z Er O tl ml) (hh : JO Z Er O th mh) : JD Z Er O (tSl (rSlL Z.K) te tl th) (jSl dCutL m ml mh) := fun σ H p ρ S Q hE hS q =>
  h σ H p ρ S _ hE hS ((q.bnd xE).mono fun d S1 H1 p1 e1 s1 q1 v hv => hl σ H1 p1 ρ S1 _ (hE.ext e1 hS) s1 ((q1.bnd xE).mono fun lo S2 H2 p2 e2 s2 q2 lo' elo => hh σ H2 p2 ρ S2 _ ((hE.ext e1 hS).ext e2 s1) s2 ((q2.bnd xE).mono fun hi S3 H3 p3 e3 s3 q3 hi' ehi => by
    subst elo ehi
    have hv3 := upW.up (e2.trans e3) s1 hv
    unfold dCutL at q3
    split at q3
    · rename_i xs
      obtain ⟨a, vs, rfl, h1, h2⟩ := hv3
      exact ⟨a, vs, rfl, SqL.of h1.1, fun t nt => q3.at_new s3 nt _ (new_lst s3 nt (h2.cut _ _))⟩
    · exact (bad_no q3).elim)))
def dLen (ds : List Dat) : M Dat := match ds with
  | [.lst xs] => pure (.int xs.length)
  | [.tup xs] => pure (.int xs.length)
  | [.scr xs] => pure (.int xs.length)
  | _ => M.no
abbrev JCW (Z : Cz) (r : List V → Hp → VK → Prop) (f : List Dat → M Dat) : Prop := JC Z (IsWs Z) (IsD Z) r f
theorem isWs_one {H : Hp} {p : Pl} {vs : List V} {d : Dat} (h : IsWs Z H p vs [d]) : ∃ v, vs = [v] ∧ IsW Z H p v d := by
  obtain ⟨v, r, rfl, h1, h2⟩ := h
  rw [isDs_nil.mp h2]
  exact ⟨v, rfl, h1⟩
theorem isDs_two {H : Hp} {p : Pl} {vs : List V} {d e : Dat} (h : IsDs Z H p vs [d, e]) : ∃ v w, vs = [v, w] ∧ IsD Z H p v d ∧ IsD Z H p w e := by
  obtain ⟨v, r, rfl, h1, h2⟩ := isDs_cons.mp h
  obtain ⟨w, r, rfl, h3, h4⟩ := isDs_cons.mp h2
  rw [isDs_nil.mp h4]
  exact ⟨v, w, rfl, h1, h3⟩
theorem isDs_one {H : Hp} {p : Pl} {vs : List V} {d : Dat} (h : IsDs Z H p vs [d]) : ∃ v, vs = [v] ∧ IsD Z H p v d := by
  obtain ⟨v, r, rfl, h1, h2⟩ := isDs_cons.mp h
  rw [isDs_nil.mp h2]
  exact ⟨v, rfl, h1⟩
theorem c_len : JCW Z (fun xs H Q => ∃ p ys, xs = [.ref p] ∧ (SqL Z.K H p ys ∨ SqT Z.K H p ys) ∧ Q (.int ys.length) H) dLen := fun x d Er H p S Q hx s q => by
  unfold dLen at q
  split at q
  · obtain ⟨v, rfl, hv⟩ := isWs_one hx
    obtain ⟨a, vs, rfl, h1, h2⟩ := hv
    refine ⟨a, vs, rfl, .inl (SqL.of h1.1), ?_⟩
    rw [h2.len]
    exact q.pure xE s _ (isD_int.mpr rfl)
  · obtain ⟨v, rfl, hv⟩ := isWs_one hx
    obtain ⟨a, vs, rfl, h1, h2⟩ := isD_tup.mp hv
    refine ⟨a, vs, rfl, .inr h1.sq, ?_⟩
    rw [h2.len]
    exact q.pure xE s _ (isD_int.mpr rfl)
  · obtain ⟨v, rfl, hv⟩ := isWs_one hx
    obtain ⟨a, rfl, h1⟩ := isD_scr.mp hv
    refine ⟨a, _, rfl, .inl (h1.elim (fun z => .inl z.1) fun z => z H), ?_⟩
    rw [List.length_map]
    exact q.pure xE s _ (isD_int.mpr rfl)
  · exact (bad_no q).elim
def dLenS (ds : List Dat) : M Dat := match ds with
  | [.str x] => M.need (decide (x.length ≤ 100000)) >>= fun _ => pure (.int x.length)
  | _ => M.no
theorem c_lenS : JC Z (IsDs Z) (IsD Z) (fun xs H Q => ∃ z, xs = [.str z] ∧ z.length ≤ sizeLine ∧ Q (.int z.length) H) dLenS := fun x d Er H p S Q hx s q => by
  unfold dLenS at q
  split at q
  · obtain ⟨c, q⟩ := q.need
    obtain ⟨v, rfl, hv⟩ := isDs_one hx
    exact ⟨_, by rw [isD_str.mp hv], lim (of_decide_eq_true c), q.pure xE s _ (isD_int.mpr rfl)⟩
  · exact (bad_no q).elim
def dMax (ds : List Dat) : M Dat := match ds with
  | [.int i, .int j] => pure (.int (if j > i then j else i))
  | _ => M.no
def dMin (ds : List Dat) : M Dat := match ds with
  | [.int i, .int j] => pure (.int (if j < i then j else i))
  | _ => M.no
def dAbs (ds : List Dat) : M Dat := match ds with
  | [.int i] => pure (.int (if i < 0 then -i else i))
  | _ => M.no
def dInt (ds : List Dat) : M Dat := match ds with
  | [.int i] => pure (.int i)
  | [.bl b] => pure (.int (if b then 1 else 0))
  | _ => M.no
theorem c_max : JC Z (IsDs Z) (IsD Z) (fun xs H Q => ∃ i j, xs = [.int i, .int j] ∧ Q (.int (if j > i then j else i)) H) dMax := fun x d Er H p S Q hx s q => by
  unfold dMax at q
  split at q
  · obtain ⟨v, w, rfl, h1, h2⟩ := isDs_two hx
    exact ⟨_, _, by rw [isD_int.mp h1, isD_int.mp h2], q.pure xE s _ (isD_int.mpr rfl)⟩
  · exact (bad_no q).elim
theorem c_min : JC Z (IsDs Z) (IsD Z) (fun xs H Q => ∃ i j, xs = [.int i, .int j] ∧ Q (.int (if j < i then j else i)) H) dMin := fun x d Er H p S Q hx s q => by
  unfold dMin at q
  split at q
  · obtain ⟨v, w, rfl, h1, h2⟩ := isDs_two hx
    exact ⟨_, _, by rw [isD_int.mp h1, isD_int.mp h2], q.pure xE s _ (isD_int.mpr rfl)⟩
  · exact (bad_no q).elim
theorem c_abs : JC Z (IsDs Z) (IsD Z) (fun xs H Q => ∃ i, xs = [.int i] ∧ Q (.int (if i < 0 then -i else i)) H) dAbs := fun x d Er H p S Q hx s q => by
  unfold dAbs at q
  split at q
  · obtain ⟨v, rfl, h1⟩ := isDs_one hx
    exact ⟨_, by rw [isD_int.mp h1], q.pure xE s _ (isD_int.mpr rfl)⟩
  · exact (bad_no q).elim
theorem c_int : JC Z (IsDs Z) (IsD Z) (fun xs H Q => (∃ i, xs = [.int i] ∧ Q (.int i) H) ∨ ∃ k, xs = [.bl k] ∧ Q (.int (if k then 1 else 0)) H) dInt := fun x d Er H p S Q hx s q => by
  unfold dInt at q
  split at q
  · obtain ⟨v, rfl, h1⟩ := isDs_one hx
    exact .inl ⟨_, by rw [isD_int.mp h1], q.pure xE s _ (isD_int.mpr rfl)⟩
  · obtain ⟨v, rfl, h1⟩ := isDs_one hx
    exact .inr ⟨_, by rw [isD_bl.mp h1], q.pure xE s _ (isD_int.mpr rfl)⟩
  · exact (bad_no q).elim
/-- all, any of a list of truths -/
def blsOf : List Dat → Option (List Bool)
  | [] => some []
  | .bl b :: r => (blsOf r).map (b :: ·)
  | _ => none
theorem blsOf_is {H : Hp} {p : Pl} : ∀ {ds : List Dat} {vs : List V} {bs : List Bool}, IsDs Z H p vs ds → blsOf ds = some bs → vs = bs.map V.bl
  | [], _, _, h, e => by cases e; exact isDs_nil.mp h
  | d :: ds, _, bs, h, e => by
    obtain ⟨v, r, rfl, h1, h2⟩ := isDs_cons.mp h
    cases d with
    | bl b =>
      unfold blsOf at e
      cases z : blsOf ds with
      | none => rw [z] at e; cases e
      | some cs =>
        rw [z] at e
        cases e
        rw [isD_bl.mp h1, blsOf_is h2 z]
        rfl
    | _ => cases e
def dAll (ds : List Dat) : M Dat := match ds with
  | [.lst xs] => M.opt (blsOf xs) >>= fun bs => pure (.bl (bs.all id))
  | _ => M.no
def dAny (ds : List Dat) : M Dat := match ds with
  | [.lst xs] => M.opt (blsOf xs) >>= fun bs => pure (.bl (bs.any id))
  | _ => M.no
theorem c_all : JCW Z (rAll Z.K) dAll := fun x d Er H p S Q hx s q => by
  unfold dAll at q
  split at q
  · obtain ⟨bs, e, q⟩ := q.opt
    obtain ⟨v, rfl, hv⟩ := isWs_one hx
    obtain ⟨a, vs, rfl, h1, h2⟩ := hv
    exact ⟨a, bs, rfl, by rw [← blsOf_is h2 e]; exact SqL.of h1.1, q.pure xE s _ (isD_bl.mpr rfl)⟩
  · exact (bad_no q).elim
theorem c_any : JCW Z (rAny Z.K) dAny := fun x d Er H p S Q hx s q => by
  unfold dAny at q
  split at q
  · obtain ⟨bs, e, q⟩ := q.opt
    obtain ⟨v, rfl, hv⟩ := isWs_one hx
    obtain ⟨a, vs, rfl, h1, h2⟩ := hv
    exact ⟨a, bs, rfl, by rw [← blsOf_is h2 e]; exact SqL.of h1.1, q.pure xE s _ (isD_bl.mpr rfl)⟩
  · exact (bad_no q).elim
def dTuple (ds : List Dat) : M Dat := match ds with
  | [.lst xs] => pure (.tup xs)
  | [.tup xs] => pure (.tup xs)
  | _ => M.no
theorem c_tuple : JCW Z (fun xs H Q => ∃ p ys, xs = [.ref p] ∧ ((SqL Z.K H p ys ∧ NewT ys H Q) ∨ (SqT Z.K H p ys ∧ Q (.ref p) H))) dTuple := fun x d Er H p S Q hx s q => by
  unfold dTuple at q
  split at q
  · obtain ⟨v, rfl, hv⟩ := isWs_one hx
    obtain ⟨a, vs, rfl, h1, h2⟩ := hv
    exact ⟨a, vs, rfl, .inl ⟨SqL.of h1.1, fun t o nt nd => q.at_new s nt _ (new_tup s nt nd h2)⟩⟩
  · obtain ⟨v, rfl, hv⟩ := isWs_one hx
    obtain ⟨a, vs, rfl, h1, h2⟩ := isD_tup.mp hv
    exact ⟨a, vs, rfl, .inr ⟨h1.sq, q.pure xE s _ hv⟩⟩
  · exact (bad_no q).elim
def dList (ds : List Dat) : M Dat := match ds with
  | [.lst xs] => pure (.lst xs)
  | [.tup xs] => pure (.lst xs)
  | _ => M.no
theorem c_list : JCW Z (fun xs H Q => ∃ p ys, xs = [.ref p] ∧ (SqL Z.K H p ys ∨ SqT Z.K H p ys) ∧ ∀ l, H l = none → Q (.ref l) (L2.upd H l (.lst ys))) dList := fun x d Er H p S Q hx s q => by
  unfold dList at q
  split at q
  · obtain ⟨v, rfl, hv⟩ := isWs_one hx
    obtain ⟨a, vs, rfl, h1, h2⟩ := hv
    exact ⟨a, vs, rfl, .inl (SqL.of h1.1), fun t nt => q.at_new s nt _ (new_lst s nt h2)⟩
  · obtain ⟨v, rfl, hv⟩ := isWs_one hx
    obtain ⟨a, vs, rfl, h1, h2⟩ := isD_tup.mp hv
    exact ⟨a, vs, rfl, .inr h1.sq, fun t nt => q.at_new s nt _ (new_lst s nt h2)⟩
  · exact (bad_no q).elim
/-- isinstance of one built-in class -/
def tyN : Dat → Option String
  | .non => some "NoneType"
  | .bl _ => some "bool"
  | .int _ => some "int"
  | .str _ => some "str"
  | .tup _ => some "tuple"
  | .lst _ => some "list"
  | .dic _ _ => some "dict"
  | _ => none
def dIsi (ds : List Dat) : M Dat := match ds with
  | [d, .ty n] => M.opt ((tyN d).bind fun t => kitB t n) >>= fun b => pure (.bl b)
  | _ => M.no
theorem tyx_of {H : Hp} {p : Pl} {v : V} {d : Dat} {t : String} (h : IsW Z H p v d) (e : tyN d = some t) : TyX Z.K H v (.type t) := by
  cases d with
  | non => cases e; have h : IsD Z H p v .non := h; rw [isD_non.mp h]; exact .base .non
  | bl b => cases e; have h : IsD Z H p v (.bl b) := h; rw [isD_bl.mp h]; exact .base (.bl b)
  | int i => cases e; have h : IsD Z H p v (.int i) := h; rw [isD_int.mp h]; exact .base (.int i)
  | str x => cases e; have h : IsD Z H p v (.str x) := h; rw [isD_str.mp h]; exact .base (.str x)
  | tup ds =>
    cases e
    have h : IsD Z H p v (.tup ds) := h
    obtain ⟨a, vs, rfl, h1, h2⟩ := isD_tup.mp h
    rcases h1.sq (Z := Z) with (h1 | ⟨o, h1⟩) | ⟨o, its, n, h1, h2, _⟩
    · exact .base (.tup h1)
    · exact .fTuple h1
    · exact .kTuple h1 h2
  | lst ds =>
    cases e
    obtain ⟨a, vs, rfl, h1, h2⟩ := h
    exact .base (.lst h1.1)
  | dic ks ds =>
    cases e
    obtain ⟨a, vs, rfl, h1, _⟩ := h
    exact .base (.dK h1.1)
  | _ => cases e
theorem c_isi : JCW Z (rIsi Z.K) dIsi := fun x d Er H p S Q hx s q => by
  unfold dIsi at q
  split at q
  · rename_i d n
    obtain ⟨b, e, q⟩ := q.opt
    cases et : tyN d with
    | none => rw [et] at e; cases e
    | some t =>
      rw [et] at e
      have e : kitB t n = some b := e
      obtain ⟨v, r, rfl, h1, h2⟩ := hx
      obtain ⟨w, rfl, hw⟩ := isDs_one h2
      rw [isD_ty.mp hw]
      exact ⟨v, .ty n, _, _, b, rfl, .ty n, tyx_of h1 et, kit_ty e, q.pure xE s _ (isD_bl.mpr rfl)⟩
  · exact (bad_no q).elim
/-- repr -/
def okShow (y : PyData) : Bool := y.showable && !y.hasDict && decide (y.depth ≤ 64) && decide (y.shown.length ≤ sizeLine) && (match y with | .int i => decide (i.natAbs.log2 < 1920) | _ => true)
end
end Zd
namespace Zd
open PySem PySem.Spec PyProof.Rows L2
/-- what is raised: an error of the class c, its fields ns with the values ds -/
def ErOf (Z : Cz) (E : XK) : ErW := fun c fs _ H α γ => ∀ ns ds, fs = [.obj c ns ds] → ∀ (d : Addr) (H' : Hp) (vs : List V), H d = none → Same H H' → H' d = some (.xd (ns.zip vs)) → ns.length = vs.length → IsDs Z H' ⟨α, [], γ⟩ vs ds → E (.ref (Z.κ c)) (some d) H'
def spD (Z : Cz) (n : Nat) (F : List Dat → M Dat) : Sp := fun vs H Q E => vs.length = n ∧ ∃ (p : Pl) (ds : List Dat) (S : List Dat), p.ω = [] ∧ IsDs Z H p vs ds ∧ IsS Z H p S ∧
  Post Z (ErOf Z E) ExtE (F ds S) H p (fun d _ H' p' => ∀ v, IsD Z H' p' v d → Q v H')
def startE (N : Nat) (ds : List Dat) : Env := ds.map some ++ List.replicate (N - ds.length) none
def outF : Flow → M Dat
  | .rt d => pure d
  | .nx _ => pure .non
  | _ => M.no
def runD (N : Nat) (b : Env → M Flow) (ds : List Dat) : M Dat := b (startE N ds) >>= outF
section
variable {Z : Cz} {Er : ErW} {O : List Nat} {te ta tb : TE} {ts : TS} {tl : TA} {m m1 m2 : Env → M Dat} {ml : Env → M (List Dat)} {ms : Env → M Flow}
theorem IsDs.start {H : Hp} {p : Pl} : ∀ {ds : List Dat} {vs : List V} {i : Nat} {d : Dat} {k l : Nat}, IsDs Z H p vs ds → (ds.map some ++ List.replicate k none)[i]? = some (some d) → i < ds.length ∧ ∃ v, (vs.map some ++ List.replicate l none)[i]? = some (some v) ∧ IsD Z H p v d := by
  intro ds vs i d k l h e
  have hl := h.len
  by_cases c : i < ds.length
  · rw [List.getElem?_append_left (by rw [List.length_map]; exact c), List.getElem?_map] at e
    cases q : ds[i]? with
    | none => rw [q] at e; cases e
    | some x =>
      rw [q] at e
      cases e
      obtain ⟨v, h1, h2⟩ := h.get q
      refine ⟨c, v, ?_, h2⟩
      rw [List.getElem?_append_left (by rw [List.length_map, hl]; exact c), List.getElem?_map, h1]
      rfl
  · rw [List.getElem?_append_right (by rw [List.length_map]; omega)] at e
    rw [List.getElem?_replicate] at e
    split at e <;> cases e
theorem isE_start {H : Hp} {p : Pl} {N : List Str} {ds : List Dat} {vs : List V} (h : IsDs Z H p vs ds) (hO : ∀ i ∈ O, ds.length ≤ i) : IsE Z O H p (L2.start N vs) (startE N.length ds) := by
  have hl := h.len
  refine ⟨?_, fun i d _ q => (h.start q).2, fun i d oi q => ?_, fun i j a oi oj ne hi hj q => ?_⟩
  · unfold L2.start startE
    rw [List.length_append, List.length_append, List.length_map, List.length_map, List.length_replicate, List.length_replicate, hl]
  · have z := (IsDs.start (l := 0) h q).1
    have := hO i oi
    omega
  · obtain ⟨d, hi⟩ := hi
    have z := (IsDs.start (l := 0) h hi).1
    have := hO i oi
    omega
theorem IsW.exit {H : Hp} {p : Pl} {S : List Dat} (s : IsS Z H p S) {v : V} {d : Dat} (h : IsW Z H p v d) : IsD Z H ⟨p.α, [], p.γ⟩ v d := by
  have l2 : ∀ b, (⟨p.α, [], p.γ⟩ : Pl).has b → p.has b := fun b h => h.imp id fun h => .inr (h.resolve_left List.not_mem_nil)
  have k : ∀ (ds : List Dat) {vs : List V}, IsDs Z H p vs ds → IsDs Z H ⟨p.α, [], p.γ⟩ vs ds := fun ds _ h => IsDs.less (p := p) (p' := ⟨p.α, [], p.γ⟩) rfl l2 _ h
  have nh : ∀ {a : Addr}, a ∉ p.α → a ∉ p.γ → ¬ (⟨p.α, [], p.γ⟩ : Pl).has a := fun h1 h2 h => h.elim h1 fun h => h.elim List.not_mem_nil h2
  cases d with
  | lst ds => obtain ⟨a, vs, rfl, ⟨h1, n1, n2⟩, h2⟩ := h; exact isD_lst.mpr ⟨a, vs, rfl, ⟨h1, nh n1 n2⟩, k _ h2⟩
  | dic ks ds => obtain ⟨a, vs, rfl, ⟨h1, n1, n2⟩, hl, h2⟩ := h; exact isD_dic.mpr ⟨a, vs, rfl, ⟨h1, nh n1 n2⟩, hl, k _ h2⟩
  | obj c fs ds => obtain ⟨a, vs, rfl, ⟨h1, n1, n2⟩, hl, h2⟩ := h; exact isD_obj.mpr ⟨a, vs, rfl, ⟨h1, nh n1 n2⟩, hl, k _ h2⟩
  | non => exact IsD.less (p := p) (p' := ⟨p.α, [], p.γ⟩) rfl l2 _ h
  | bl b => exact IsD.less (p := p) (p' := ⟨p.α, [], p.γ⟩) rfl l2 _ h
  | int i => exact IsD.less (p := p) (p' := ⟨p.α, [], p.γ⟩) rfl l2 _ h
  | str x => exact IsD.less (p := p) (p' := ⟨p.α, [], p.γ⟩) rfl l2 _ h
  | tup ds => exact IsD.less (p := p) (p' := ⟨p.α, [], p.γ⟩) rfl l2 _ h
  | loc n => exact IsD.less (p := p) (p' := ⟨p.α, [], p.γ⟩) rfl l2 _ h
  | ty n => exact IsD.less (p := p) (p' := ⟨p.α, [], p.γ⟩) rfl l2 _ h
  | cls n => exact IsD.less (p := p) (p' := ⟨p.α, [], p.γ⟩) rfl l2 _ h
  | scr n => exact IsD.less (p := p) (p' := ⟨p.α, [], p.γ⟩) rfl l2 _ h
/-- from the entry (H0, p0) to a frame's end -/
theorem Post.exit {α : Type} {o : Out α} {H0 H : Hp} {p0 p : Pl} {C : α → List Dat → Hp → Pl → Prop} (q : Post Z Er ExtE o H0 p0 C) (h0 : p0.ω = []) (e0 : Ext H0 p0 H p) : Post Z Er Ext o H p (fun a S' H' p' => C a S' H' ⟨p'.α, [], p'.γ⟩) := by
  have key : ∀ H' p' S', Ext H p H' p' → IsS Z H' p' S' → ExtE H0 p0 H' ⟨p'.α, [], p'.γ⟩ ∧ IsS Z H' ⟨p'.α, [], p'.γ⟩ S' := fun H' p' S' e s => by
    have e2 := e0.trans e
    refine ⟨⟨e2.α, h0.symm, e2.γ, fun a o h n => e2.k a o h n (by rw [h0]; exact List.not_mem_nil), e2.t⟩, s.less fun a h => absurd h List.not_mem_nil⟩
  unfold Post at q ⊢
  cases o with
  | ok a S2 => exact fun H' p' e s => q H' ⟨p'.α, [], p'.γ⟩ (key H' p' S2 e s).1 (key H' p' S2 e s).2
  | er a b S2 => exact fun H' p' e s => q H' ⟨p'.α, [], p'.γ⟩ (key H' p' S2 e s).1 (key H' p' S2 e s).2
  | bad => exact q
/-- THE RULE: a body's reading from what it does with trees -/
theorem ok_body {N : List Str} {n : Nat} {vs : List V} {H : Hp} {Q : VK} {E : XK} (hj : JS Z (ErOf Z E) O ts ms) (hO : ∀ i ∈ O, n ≤ i) (h : spD Z n (runD N.length ms) vs H Q E) : ts { nx := fun _ H' => Q .non H', rt := Q } (L2.start N vs) H := by
  obtain ⟨hl, p, ds, S, h0, hd, hS, q⟩ := h
  refine hj (L2.start N vs) H p (startE N.length ds) S _ (isE_start hd fun i oi => by rw [← hd.len, hl]; exact hO i oi) hS ?_
  have q2 := (q.exit h0 Ext.refl).bnd xS
  refine q2.mono fun f S' H' p' e s q3 => ?_
  cases f with
  | rt d => exact fun v hv => Post.pure xS q3 s v (hv.exit s)
  | nx ρ => exact fun σ hσ => Post.pure xS q3 s .non (isD_non.mpr rfl)
  | bk ρ => exact (bad_no (S := S') q3).elim
  | ct ρ => exact (bad_no (S := S') q3).elim
/-- what is raised is not spoken of -/
def calm {α : Type} (m : M α) : M α := fun S => match m S with
  | .ok a S' => .ok a S'
  | _ => .bad
theorem Post.never {α : Type} {o : Out α} {H : Hp} {p : Pl} {X : XR} {C : α → List Dat → Hp → Pl → Prop} (q : Post Z (fun _ _ _ _ _ _ => False) X o H p C) (Er' : ErW) : Post Z Er' X o H p C := by
  unfold Post at q ⊢
  cases o with
  | ok a S' => exact q
  | er c fs S' => exact fun H' p' e s => (q H' p' e s).elim
  | bad => exact q
theorem Post.calm {α : Type} {m : M α} {S : List Dat} {H : Hp} {p : Pl} {X : XR} {C : α → List Dat → Hp → Pl → Prop} (q : Post Z Er X (Zd.calm m S) H p C) (Er' : ErW) : Post Z Er' X (m S) H p C := by
  unfold Zd.calm at q
  cases z : m S with
  | ok a S' => rw [z] at q; exact q
  | er c fs S' => rw [z] at q; exact q.elim
  | bad => rw [z] at q; exact q.elim
def xCall (F : List Dat → M Dat) (l : Env → M (List Dat)) (ρ : Env) : M Dat := l ρ >>= fun ds => calm (F ds)
/-- the callee may not touch the caller's own places -/
def Pl.shut (p : Pl) : Pl := ⟨p.α, [], p.γ ++ p.ω⟩
theorem shut_has {p : Pl} {a : Addr} : p.shut.has a ↔ p.has a := by
  unfold Pl.shut Pl.has
  constructor
  · rintro (h | h | h)
    · exact .inl h
    · exact absurd h List.not_mem_nil
    · exact .inr ((List.mem_append.mp h).symm)
  · rintro (h | h | h)
    · exact .inl h
    · exact .inr (.inr (List.mem_append_right _ h))
    · exact .inr (.inr (List.mem_append_left _ h))
theorem IsS.shut {H : Hp} {p : Pl} {S : List Dat} (s : IsS Z H p S) : IsS Z H p.shut S :=
  ⟨s.len, s.nd, fun a h => absurd h List.not_mem_nil, fun a h => (List.mem_append.mp h).elim (s.dg a) fun h => (s.dj a h).1, fun a h => s.wt a (h.elim (fun h => absurd h List.not_mem_nil) fun h => (List.mem_append.mp h).symm),
    fun n a d h1 h2 => IsTop.less (p := p) (p' := p.shut) rfl (fun a h => shut_has.mp h) (s.at_ n a d h1 h2)⟩
theorem Post.shut {α : Type} {o : Out α} {H : Hp} {p : Pl} {C : α → List Dat → Hp → Pl → Prop} (hS : ∀ a ∈ p.ω, a ∉ p.γ) (nd : ∀ a ∈ p.ω, H a ≠ none) (q : Post Z Er ExtE o H p C) (hEr : ∀ c fs S H α γ, Er c fs S H α γ → False) :
    Post Z Er ExtE o H p.shut (fun a S' H' p' => C a S' H' ⟨p'.α, p.ω, p.γ⟩) := by
  have key : ∀ H' p' S', ExtE H p.shut H' p' → IsS Z H' p' S' → ExtE H p H' ⟨p'.α, p.ω, p.γ⟩ ∧ IsS Z H' ⟨p'.α, p.ω, p.γ⟩ S' := fun H' p' S' e s => by
    have eg : p'.γ = p.γ ++ p.ω := e.γ
    have ew : p'.ω = [] := e.ω
    refine ⟨⟨e.α, rfl, rfl, e.k, e.t⟩, ⟨s.len, s.nd, fun a h => ⟨s.dg a (by rw [eg]; exact List.mem_append_right _ h), hS a h⟩, fun a h => s.dg a (by rw [eg]; exact List.mem_append_left _ h), fun a h => s.wt a (.inr (by rw [eg]; exact h.elim (List.mem_append_right _) (List.mem_append_left _))), fun n a d h1 h2 => IsTop.less (p := p') (p' := ⟨p'.α, p.ω, p.γ⟩) rfl (fun b hb => ?_) (s.at_ n a d h1 h2)⟩⟩
    rcases hb with hb | hb | hb
    · exact .inl hb
    · exact .inr (.inr (by rw [eg]; exact List.mem_append_right _ hb))
    · exact .inr (.inr (by rw [eg]; exact List.mem_append_left _ hb))
  unfold Post at q ⊢
  cases o with
  | ok a S2 => exact fun H' p' e s => q H' ⟨p'.α, p.ω, p.γ⟩ (key H' p' S2 e s).1 (key H' p' S2 e s).2
  | er a b S2 => exact fun H' p' e s => (hEr _ _ _ _ _ _ (q H' ⟨p'.α, p.ω, p.γ⟩ (key H' p' S2 e s).1 (key H' p' S2 e s).2)).elim
  | bad => exact q
theorem IsDs.shut {H : Hp} {p : Pl} {vs : List V} {ds : List Dat} (h : IsDs Z H p vs ds) : IsDs Z H p.shut vs ds := IsDs.less (p := p) (p' := p.shut) rfl (fun a h => shut_has.mp h) _ h
theorem IsD.unshut {H : Hp} {p p' : Pl} (eg : p'.γ = p.γ ++ p.ω) (ew : p'.ω = []) {v : V} {d : Dat} (h : IsD Z H p' v d) : IsD Z H ⟨p'.α, p.ω, p.γ⟩ v d := IsD.less (p := p') (p' := ⟨p'.α, p.ω, p.γ⟩) rfl (fun b hb => by
    rcases hb with hb | hb | hb
    · exact .inl hb
    · exact .inr (.inr (by rw [eg]; exact List.mem_append_right _ hb))
    · exact .inr (.inr (by rw [eg]; exact List.mem_append_left _ hb))) _ h
/-- what a call asks of its promise -/
theorem call_sp {F : List Dat → M Dat} {n : Nat} {H : Hp} {p : Pl} {S : List Dat} {vs : List V} {ds : List Dat} {Q : VK} {E : XK} (hn : vs.length = n) (hd : IsDs Z H p vs ds) (hS : IsS Z H p S) (q : Post Z Er ExtE (calm (F ds) S) H p (fun d _ H' p' => ∀ v, IsD Z H' p' v d → Q v H')) : spD Z n F vs H Q E := by
  refine ⟨hn, p.shut, ds, S, rfl, hd.shut, hS.shut, ?_⟩
  have z := (q.calm (fun _ _ _ _ _ _ => False)).shut (fun a h => (hS.dj a h).2) (fun a h => hS.wt a (.inl h)) (fun _ _ _ _ _ _ h => h)
  exact (z.mono fun d S' H' p' e s k v hv => k v (hv.unshut e.γ e.ω)).never (ErOf Z E)
theorem len_nil {ρ : Env} {S ds S' : List Dat} (h : xNil ρ S = .ok ds S') : ds.length = 0 := by cases h; rfl
theorem len_cons {a : Env → M Dat} {l : Env → M (List Dat)} {n : Nat} (hl : ∀ ρ S ds S', l ρ S = .ok ds S' → ds.length = n) : ∀ ρ S ds S', xCons a l ρ S = .ok ds S' → ds.length = n + 1 := fun ρ S ds S' h => by
  unfold xCons at h
  rw [m_bind] at h
  cases z : a ρ S with
  | ok x S1 =>
    rw [z] at h
    simp only [m_bind] at h
    cases z2 : l ρ S1 with
    | ok xs S3 =>
      rw [z2] at h
      cases h
      exact congrArg (· + 1) (hl ρ S1 xs _ z2)
    | er c fs S2 => rw [z2] at h; cases h
    | bad => rw [z2] at h; cases h
  | er c fs S1 => rw [z] at h; cases h
  | bad => rw [z] at h; cases h
def lkD (f : Str) : List Str → List Dat → Option Dat
  | g :: gs, d :: ds => if f == g then some d else lkD f gs ds
  | _, _ => none
def putN (f : Str) : List Str → List Str
  | [] => [f]
  | g :: gs => if g = f then g :: gs else g :: putN f gs
def putV (f : Str) (x : Dat) : List Str → List Dat → List Dat
  | [], _ => [x]
  | g :: gs, d :: ds => if g = f then x :: ds else d :: putV f x gs ds
  | _ :: _, [] => []
theorem lk_rel {H : Hp} {p : Pl} {f : Str} : ∀ {gs : List Str} {ds : List Dat} {vs : List V} {d : Dat}, IsDs Z H p vs ds → lkD f gs ds = some d → ∃ v, (gs.zip vs).lookup f = some v ∧ IsD Z H p v d
  | [], ds, _, d, _, e => by cases ds <;> cases e
  | g :: gs, [], _, d, h, e => by cases e
  | g :: gs, c :: ds, _, d, h, e => by
    obtain ⟨v, r, rfl, h1, h2⟩ := isDs_cons.mp h
    unfold lkD at e
    rw [List.zip_cons_cons, List.lookup_cons]
    cases q : f == g with
    | true =>
      rw [q, if_pos rfl] at e
      cases e
      exact ⟨v, rfl, h1⟩
    | false =>
      rw [q] at e
      exact lk_rel h2 e
theorem put_rel {H : Hp} {p : Pl} {f : Str} {x : Dat} {y : V} (hx : IsD Z H p y x) : ∀ {gs : List Str} {ds : List Dat} {vs : List V}, gs.length = vs.length → IsDs Z H p vs ds → ∃ ws, putF f y (gs.zip vs) = (putN f gs).zip ws ∧ (putN f gs).length = ws.length ∧ IsDs Z H p ws (putV f x gs ds)
  | [], ds, vs, hl, h => by
    have e : vs = [] := List.length_eq_zero_iff.mp hl.symm
    subst e
    exact ⟨[y], rfl, rfl, .one hx⟩
  | g :: gs, [], vs, hl, h => by rw [isDs_nil.mp h] at hl; cases hl
  | g :: gs, c :: ds, _, hl, h => by
    obtain ⟨v, r, rfl, h1, h2⟩ := isDs_cons.mp h
    unfold putN putV
    rw [List.zip_cons_cons]
    unfold putF
    by_cases c : g = f
    · rw [if_pos c, if_pos c, if_pos c]
      exact ⟨y :: r, rfl, hl, isDs_cons.mpr ⟨y, r, rfl, hx, h2⟩⟩
    · rw [if_neg c, if_neg c, if_neg c]
      obtain ⟨ws, e1, e2, e3⟩ := put_rel (f := f) hx (gs := gs) (ds := ds) (vs := r) (Nat.succ.inj hl) h2
      exact ⟨v :: ws, by rw [List.zip_cons_cons, e1], by rw [List.length_cons, List.length_cons, e2], isDs_cons.mpr ⟨v, ws, rfl, h1, e3⟩⟩
/-- the attributes of the class c -/
structure ClsT (Z : Cz) (c : String) (fs : List Str) : Prop where
  cl : Cls Z.K (Z.κ c)
  no : ∀ f ∈ fs, NoAttr Z.K (Z.κ c) f
def locAt (ρ : Env) (i : Nat) : Option Nat := match ρ[i]? with
  | some (some (.loc n)) => some n
  | _ => none
theorem locAt_is {ρ : Env} {i : Nat} {n : Nat} (h : locAt ρ i = some n) : ρ[i]? = some (some (.loc n)) := by
  unfold locAt at h
  split at h
  · cases h; assumption
  · cases h
def one {α : Type} : List α → Option α
  | [d] => some d
  | _ => none
theorem one_is {α : Type} {ds : List α} {d : α} (h : one ds = some d) : ds = [d] := by
  unfold one at h
  split at h
  · cases h; rfl
  · cases h
def dInt1 : Dat → Option Int
  | .int i => some i
  | _ => none
theorem dInt1_is {d : Dat} {i : Int} (h : dInt1 d = some i) : d = .int i := by
  cases d <;> first | (cases h; rfl) | cases h
theorem loc_put {H : Hp} {p : Pl} {S : List Dat} (s : IsS Z H p S) {n : Nat} {a : Addr} {o : HO} {d : Dat} (ha : p.α[n]? = some a) (ht : IsTop Z (L2.upd H a o) p a d) : ExtE H p (L2.upd H a o) p ∧ IsS Z (L2.upd H a o) p (S.set n d) := by
  have ma : a ∈ p.α := List.mem_of_getElem? ha
  have e : ExtE H p (L2.upd H a o) p := ⟨⟨[], by simp⟩, rfl, rfl, fun b u h n => by rw [upd_ne fun z => n (by rw [z]; exact ma)]; exact h, fun b h => by
    by_cases c : b = a
    · rw [c, upd_same]; exact nofun
    · rw [upd_ne c]; exact h⟩
  refine ⟨e, ⟨by rw [List.length_set]; exact s.len, s.nd, s.dj, s.dg, fun b h => e.t b (s.wt b h), fun k b x h1 h2 => ?_⟩⟩
  by_cases c : n = k
  · subst c
    rw [ha] at h1
    cases h1
    rw [List.getElem?_set_self (by rw [← s.len]; exact (List.getElem?_eq_some_iff.mp ha).1)] at h2
    cases h2
    exact ht
  · rw [List.getElem?_set_ne c] at h2
    refine (s.at_ k b x h1 h2).ext e.s fun u z => ?_
    rw [upd_ne fun q => c ?_]
    · exact z
    · subst q
      have l1 := (List.getElem?_eq_some_iff.mp ha)
      have l2 := (List.getElem?_eq_some_iff.mp h1)
      obtain ⟨i1, g1⟩ := l1
      obtain ⟨i2, g2⟩ := l2
      exact (List.getElem_inj s.nd).mp (g1.trans g2.symm)
/-- x[i] = e, x a shared list in slot j -/
def setLo (n : Nat) (k : Int) (x : Dat) (ρ : Env) : M Flow := fun S => match S[n]? with
  | some (.lst xs) => match ixN xs.length k with
    | some q => .ok (.nx ρ) (S.set n (.lst (xs.set q x)))
    | none => .bad
  | _ => .bad
def sSetLo (j : Nat) (b a : Env → M Dat) (ρ : Env) : M Flow := a ρ >>= fun x => M.opt (locAt ρ j) >>= fun n => b ρ >>= fun i => M.opt (dInt1 i) >>= fun k => setLo n k x ρ
theorem js_setLo {j : Nat} (nj : j ∉ O) (hb : JD Z Er O tb m2) (ha : JD Z Er O ta m1) : JS Z Er O (tAsg ta (gSub (tVar j) tb rSetL)) (sSetLo j m2 m1) := fun σ H p ρ S D hE hS q =>
  ha σ H p ρ S _ hE hS (q.bndE.mono fun d S1 H1 p1 e1 s1 q1 v hv => by
    have hE1 := hE.ext e1 hS
    obtain ⟨n, eo, q1⟩ := Post.opt q1
    have eρ := locAt_is eo
    obtain ⟨u, h1, h2⟩ := hE1.get j _ nj eρ
    refine ⟨u, h1, ?_⟩
    refine hb σ H1 p1 ρ S1 _ hE1 s1 (q1.bndE.mono fun i S2 H2 p2 e2 s2 q2 w hw => ?_)
    obtain ⟨k, ek, q2⟩ := Post.opt q2
    rw [dInt1_is ek] at hw
    obtain ⟨a, rfl, hα⟩ := isD_loc.mp (h2.ext e2.s)
    cases eS : S2[n]? with
    | none => unfold setLo at q2; rw [eS] at q2; exact q2.elim
    | some dd =>
      cases dd with
      | lst xs =>
        cases ey : ixN xs.length k with
        | none => unfold setLo at q2; rw [eS] at q2; simp only [ey] at q2; exact q2.elim
        | some y =>
          have q3 : Post Z Er Ext (.ok (Flow.nx ρ) (S2.set n (.lst (xs.set y d)))) H2 p2 (fun f x H' p' => FlowOk Z O D f H' p') := by
            unfold setLo at q2; rw [eS] at q2; simp only [ey] at q2; exact q2
          obtain ⟨vs, g1, g2⟩ := s2.at_ n a _ hα eS
          refine ⟨a, vs, k, y, rfl, isD_int.mp hw, g1, by rw [g2.len]; exact ey, ?_⟩
          have ma : a ∈ p2.α := List.mem_of_getElem? hα
          have eX : Ext H2 p2 (L2.upd H2 a (.lst (vs.set y v))) p2 := ⟨⟨[], by simp⟩, ⟨[], by simp⟩, rfl, fun b u h n _ => by rw [upd_ne fun z => n (by rw [z]; exact ma)]; exact h, fun b h => by
              by_cases c : b = a
              · rw [c, upd_same]; exact nofun
              · rw [upd_ne c]; exact h⟩
          obtain ⟨e3, s3⟩ := loc_put (o := .lst (vs.set y v)) (d := .lst (xs.set y d)) s2 hα ⟨vs.set y v, upd_same, (g2.set y (hv.ext e2.s)).ext eX⟩
          exact q3 _ _ e3.s s3 σ ((hE1.ext e2 s1).ext e3 s2)
      | _ => unfold setLo at q2; rw [eS] at q2; exact q2.elim)
/-- a new list that is given back to be shared -/
def sRetLo (a : Env → M Dat) (ρ : Env) : M Flow := a ρ >>= fun d => fun S => .ok (.rt (.loc S.length)) (S ++ [d])
theorem js_retLo (h : JF Z Er O ta m) : JS Z Er O (tRet ta) (sRetLo m) := fun σ H p ρ S D hE hS q =>
  h σ H p ρ S _ hE hS ((q.bndK.of xS).mono fun d S1 H1 p1 e1 s1 q1 a na na1 nh hs ht => by
    have q2 : ∀ H' p', Ext H p H' p' → IsS Z H' p' (S1 ++ [d]) → FlowOk Z O D (.rt (.loc S1.length)) H' p' := q1
    have l2 : ∀ b, (⟨p1.α ++ [a], p1.ω, p1.γ⟩ : Pl).has b → (⟨p1.α, p1.ω ++ [a], p1.γ⟩ : Pl).has b := fun b h => by
      rcases h with h | h | h
      · rcases List.mem_append.mp h with h | h
        · exact .inl h
        · exact .inr (.inl (List.mem_append_right _ h))
      · exact .inr (.inl (List.mem_append_left _ h))
      · exact .inr (.inr h)
    have na1 : a ∉ p1.α := fun z => nh (.inl z)
    have ma : a ∈ p1.ω ++ [a] := List.mem_append_right _ (List.mem_singleton.mpr rfl)
    have hα : (p1.α ++ [a])[S1.length]? = some a := by rw [← hs.len]; simp
    refine q2 H1 ⟨p1.α ++ [a], p1.ω, p1.γ⟩ ⟨?_, ⟨[], by rw [List.append_nil]; exact e1.ω, by simp⟩, e1.γ, fun b u z n _ => e1.k b u z n, e1.t⟩ ⟨?_, ?_, fun b h => ⟨fun z => ?_, (hs.dj b (List.mem_append_left _ h)).2⟩, fun b h z => ?_, fun b h => hs.wt b (h.imp (List.mem_append_left _) id), fun n b x h1 h2 => ?_⟩ (.ref a) ?_
    · obtain ⟨β, g1, g2⟩ := e1.α
      refine ⟨β ++ [a], by rw [g1, List.append_assoc], fun b h => ?_⟩
      rcases List.mem_append.mp h with h | h
      · exact g2 b h
      · rw [List.mem_singleton.mp h]; exact na
    · rw [List.length_append, List.length_append, hs.len]; rfl
    · exact List.nodup_append.mpr ⟨hs.nd, by simp, fun b h c h2 e => na1 (by rw [← List.mem_singleton.mp h2, ← e]; exact h)⟩
    · rcases List.mem_append.mp z with z | z
      · exact (hs.dj b (List.mem_append_left _ h)).1 z
      · exact nh (.inr (.inl (by rw [← List.mem_singleton.mp z]; exact h)))
    · rcases List.mem_append.mp z with z | z
      · exact hs.dg b h z
      · exact nh (.inr (.inr (by rw [← List.mem_singleton.mp z]; exact h)))
    · have mv : ∀ (n : Nat) (x : Addr), p1.α[n]? = some x → (p1.α ++ [a])[n]? = some x := fun n x h => by
        rw [List.getElem?_append_left (List.getElem?_eq_some_iff.mp h).1]; exact h
      by_cases c : n < S1.length
      · rw [List.getElem?_append_left c] at h2
        rw [List.getElem?_append_left (by rw [hs.len]; exact c)] at h1
        exact IsTop.mv (p := ⟨p1.α, p1.ω ++ [a], p1.γ⟩) (p' := ⟨p1.α ++ [a], p1.ω, p1.γ⟩) mv l2 (hs.at_ n b x h1 h2)
      · have lt := (List.getElem?_eq_some_iff.mp h2).1
        rw [List.length_append, List.length_singleton] at lt
        have e : n = S1.length := by omega
        subst e
        rw [hα] at h1
        cases h1
        rw [List.getElem?_append_right (Nat.le_refl _), Nat.sub_self] at h2
        cases h2
        exact IsTop.mv (p := ⟨p1.α, p1.ω ++ [a], p1.γ⟩) (p' := ⟨p1.α ++ [a], p1.ω, p1.γ⟩) mv l2 ht
    · exact (isD_loc (Z := Z) (H := H1) (p := ⟨p1.α ++ [a], p1.ω, p1.γ⟩)).mpr ⟨a, rfl, hα⟩)
end
end Zd
namespace Zd
open PySem PySem.Spec PyProof.Rows L2
section
variable {Z : Cz} {Er : ErW} {O : List Nat} {te ta tb : TE} {ts : TS} {tl : TA} {m m1 m2 : Env → M Dat} {ml : Env → M (List Dat)} {ms : Env → M Flow}
theorem push_loc {H : Hp} {p : Pl} {S : List Dat} {x dx C : Addr} (s : IsS Z H p S) (nx : H x = none) (nd : H dx = none) (ne : dx ≠ x) (c : String) (hC : C = Z.κ c) :
    ExtE H p (L2.upd (L2.upd H dx (.own x)) x (.ins C dx [])) ⟨p.α ++ [x], p.ω, p.γ⟩ ∧ IsS Z (L2.upd (L2.upd H dx (.own x)) x (.ins C dx [])) ⟨p.α ++ [x], p.ω, p.γ⟩ (S ++ [.obj c [] []]) := by
  subst hC
  have hx := no_has s nx
  have k : ∀ a o, H a = some o → L2.upd (L2.upd H dx (.own x)) x (.ins (Z.κ c) dx []) a = some o := fun a o h => by
    rw [upd_ne (ne_of_none h nx), upd_ne (ne_of_none h nd)]; exact h
  have t : ∀ a, H a ≠ none → L2.upd (L2.upd H dx (.own x)) x (.ins (Z.κ c) dx []) a ≠ none := fun a h => by
    cases z : H a with
    | none => exact absurd z h
    | some o => rw [k a o z]; exact nofun
  have e : ExtE H p (L2.upd (L2.upd H dx (.own x)) x (.ins (Z.κ c) dx [])) ⟨p.α ++ [x], p.ω, p.γ⟩ := ⟨⟨[x], rfl, fun b h => by rw [List.mem_singleton.mp h]; exact nx⟩, rfl, rfl, fun a o h _ => k a o h, t⟩
  refine ⟨e, ⟨by rw [List.length_append, List.length_append, s.len]; rfl, List.nodup_append.mpr ⟨s.nd, by simp, fun b h c h2 e => hx (.inl (by rw [← List.mem_singleton.mp h2, ← e]; exact h))⟩, fun b h => ⟨fun z => ?_, (s.dj b h).2⟩, fun b h z => ?_, fun b h => t b (s.wt b h), fun n b d h1 h2 => ?_⟩⟩
  · rcases List.mem_append.mp z with z | z
    · exact (s.dj b h).1 z
    · exact hx (.inr (.inl (by rw [← List.mem_singleton.mp z]; exact h)))
  · rcases List.mem_append.mp z with z | z
    · exact s.dg b h z
    · exact hx (.inr (.inr (by rw [← List.mem_singleton.mp z]; exact h)))
  · by_cases q : n < S.length
    · rw [List.getElem?_append_left q] at h2
      have h1 : (p.α ++ [x])[n]? = some b := h1
      rw [List.getElem?_append_left (by rw [s.len]; exact q)] at h1
      exact (s.at_ n b d h1 h2).ext e.s fun o z => k b o z
    · have lt := (List.getElem?_eq_some_iff.mp h2).1
      rw [List.length_append, List.length_singleton] at lt
      have en : n = S.length := by omega
      subst en
      have h1 : (p.α ++ [x])[S.length]? = some b := h1
      rw [← s.len] at h1
      simp only [List.getElem?_append_right (Nat.le_refl _), Nat.sub_self] at h1 h2
      cases h1
      cases h2
      exact ⟨dx, [], upd_same, rfl, isDs_nil.mpr rfl⟩
def newObj (c : String) : M Dat := fun S => .ok (.loc S.length) (S ++ [.obj c [] []])
/-- C(..): __init__ at a new shared place -/
def mkNew (c : String) (F : List Dat → M Dat) (ds : List Dat) : M Dat := newObj c >>= fun o => calm (F (o :: ds)) >>= fun r => M.need (isNon r) >>= fun _ => pure o
theorem isNon_is {d : Dat} (h : isNon d = true) : d = .non := by cases d <;> first | rfl | cases h
def getO (S : List Dat) (n : Nat) : Option (String × List Str × List Dat) := match S[n]? with
  | some (.obj c fs ds) => some (c, fs, ds)
  | _ => none
theorem getO_is {S : List Dat} {n : Nat} {c : String} {fs : List Str} {ds : List Dat} (h : getO S n = some (c, fs, ds)) : S[n]? = some (.obj c fs ds) := by
  unfold getO at h
  split at h
  · cases h; assumption
  · cases h
/-- self.f = e, self a shared place -/
def setF (n : Nat) (c : String) (f : Str) (x : Dat) (ρ : Env) : M Flow := fun S => (M.opt (getO S n) >>= fun o => M.need (decide (o.1 = c) && decide (o.2.1.length < 1000)) >>= fun _ => fun S => .ok (.nx ρ) (S.set n (.obj o.1 (putN f o.2.1) (putV f x o.2.1 o.2.2)))) S
def dLoc : Dat → Option Nat
  | .loc n => some n
  | _ => none
theorem dLoc_is {d : Dat} {n : Nat} (h : dLoc d = some n) : d = .loc n := by
  cases d <;> first | (cases h; rfl) | cases h
def sSetFL (c : String) (f : Str) (o a : Env → M Dat) (ρ : Env) : M Flow := a ρ >>= fun x => o ρ >>= fun y => M.opt (dLoc y) >>= fun n => setF n c f x ρ
theorem loc_ext {H : Hp} {p : Pl} {a : Addr} {o : HO} (ma : a ∈ p.α) : Ext H p (L2.upd H a o) p := ⟨⟨[], by simp⟩, ⟨[], by simp⟩, rfl, fun b u h n _ => by rw [upd_ne fun z => n (by rw [z]; exact ma)]; exact h, fun b h => by
  by_cases c : b = a
  · rw [c, upd_same]; exact nofun
  · rw [upd_ne c]; exact h⟩
theorem js_setFL {c : String} {f : Str} {fs : List Str} (T : ClsT Z c fs) (hf : f ∈ fs) (ho : JD Z Er O ta m1) (h : JD Z Er O te m) : JS Z Er O (sFld Z.K ta te f) (sSetFL c f m1 m) := fun σ H p ρ S D hE hS q =>
  h σ H p ρ S _ hE hS (q.bndE.mono fun d S1 H1 p1 e1 s1 q1 v hv => ho σ H1 p1 ρ S1 _ (hE.ext e1 hS) s1 (q1.bndE.mono fun o S2 H2 p2 e2 s2 q2 w hw => by
    obtain ⟨n, en, q2⟩ := Post.opt q2
    rw [dLoc_is en] at hw
    obtain ⟨a, rfl, ha⟩ := isD_loc.mp hw
    have q3 : Post Z Er Ext ((M.opt (getO S2 n) >>= fun o => M.need (decide (o.1 = c) && decide (o.2.1.length < 1000)) >>= fun _ => fun S => .ok (Flow.nx ρ) (S.set n (.obj o.1 (putN f o.2.1) (putV f d o.2.1 o.2.2)))) S2) H2 p2 _ := q2
    obtain ⟨⟨c', gs, ds⟩, eo, q3⟩ := Post.opt q3
    obtain ⟨ec, q4⟩ := Post.need q3
    simp only [Bool.and_eq_true, decide_eq_true_eq] at ec
    obtain ⟨ec, few⟩ := ec
    subst ec
    obtain ⟨dx, vs, g1, hl, g2⟩ := s2.at_ n a _ ha (getO_is eo)
    refine ⟨a, _, dx, _, rfl, g1, T.cl, T.no f hf, by rw [List.length_zip, ← hl, Nat.min_self]; exact few, ?_⟩
    obtain ⟨ws, k1, k2, k3⟩ := put_rel (f := f) (hv.ext e2.s) hl g2
    rw [k1]
    obtain ⟨e3, s3⟩ := loc_put (o := .ins (Z.κ c') dx ((putN f gs).zip ws)) (d := .obj c' (putN f gs) (putV f d gs ds)) s2 ha ⟨dx, ws, upd_same, k2, k3.ext (loc_ext (List.mem_of_getElem? ha))⟩
    exact q4 _ _ e3.s s3 σ (((hE.ext e1 hS).ext e2 s1).ext e3 s2)))
def rOwnI (C : Addr) (sp : Sp) (E : XK) : L2.R2 := fun x y H Q => ∃ a dx fs b dy gs, x = .ref a ∧ y = .ref b ∧ H a = some (.ins C dx fs) ∧ H b = some (.ins C dy gs) ∧ sp [x, y] H Q E
/-- isinstance(x, c), x an instance of the class c -/
structure InsT (Z : Cz) (c : String) : Prop where
  cl : Cls Z.K (Z.κ c)
  ha : PySem.W.findIn Z.K (.ref (Z.κ c)) "__class__" = some (some (.builtin "object.__class__"))
  hn : PySem.W.specialIn Z.K (.builtin "object.__class__") "__get__" = some (some (.builtin "getset_descriptor.__get__"))
  htk : PySem.W.takesIn Z.K (.builtin "object.__class__") = some true
  hm : PySem.W.mroIn Z.K (Z.κ c) (.type "object") = some true
  me : PySem.W.kitOne Z.K (.ref (Z.κ c)) (.ref (Z.κ c)) = some true
def sT : Dat → Option Str
  | .str x => some x
  | _ => none
theorem sT_is {d : Dat} {x : Str} (h : sT d = some x) : d = .str x := by cases d <;> first | (cases h; rfl) | cases h
def dM0' (f : Str → Bool) (d : Dat) : M Dat := M.opt (sT d) >>= fun x => pure (.bl (f x))
theorem j_m0 {r : V → List V → Hp → VK → Prop} {f : Str → Bool} (hr : ∀ x H (Q : VK), Q (.bl (f x)) H → r (.str x) [] H Q) (h : JD Z Er O ta m) : JD Z Er O (tM0 r ta) (xUn (dM0' f) m) := fun σ H p ρ S Q hE hS q =>
  h σ H p ρ S _ hE hS ((q.bnd xE).mono fun d S1 H1 p1 e1 s1 q1 v hv => by
    obtain ⟨x, ex, q1⟩ := Post.opt q1
    rw [sT_is ex] at hv
    rw [isD_str.mp hv]
    exact ⟨⟨x, rfl⟩, hr x H1 Q (q1.pure xE s1 _ (isD_bl.mpr rfl))⟩)
/-- d[k] of a dict -/
def lkK (k : Key) : List Key → List Dat → Option Dat
  | g :: gs, d :: ds => if decide (g = k) = true then some d else lkK k gs ds
  | _, _ => none
def keyD : Dat → Option Key
  | .int i => some (.inl i)
  | .str x => some (.inr x)
  | _ => none
theorem lkK_rel {H : Hp} {p : Pl} {k : Key} : ∀ {gs : List Key} {ds : List Dat} {vs : List V} {d : Dat}, IsDs Z H p vs ds → lkK k gs ds = some d → ∃ v, valV (gs.zip vs) k = some v ∧ IsD Z H p v d
  | [], ds, _, d, _, e => by cases ds <;> cases e
  | g :: gs, [], _, d, h, e => by cases e
  | g :: gs, c :: ds, _, d, h, e => by
    obtain ⟨v, r, rfl, h1, h2⟩ := isDs_cons.mp h
    unfold lkK at e
    rw [List.zip_cons_cons]
    by_cases q : g = k
    · rw [if_pos (decide_eq_true q)] at e
      cases e
      exact ⟨v, valV_pos q, h1⟩
    · rw [if_neg (by rw [decide_eq_false q]; exact Bool.false_ne_true)] at e
      obtain ⟨w, e1, e2⟩ := lkK_rel h2 e
      refine ⟨w, ?_, e2⟩
      unfold valV at e1 ⊢
      rw [List.find?_cons, show decide (((g, v) : Key × V).1 = k) = false from decide_eq_false q]
      exact e1
theorem lkK_none {k : Key} : ∀ {gs : List Key} {ds : List Dat} {vs : List V}, gs.length = vs.length → vs.length = ds.length → lkK k gs ds = none → valV (gs.zip vs) k = none
  | [], _, _, _, _, _ => rfl
  | g :: gs, [], vs, h1, h2, _ => by rw [h2] at h1; cases h1
  | g :: gs, c :: ds, [], h1, h2, _ => by cases h1
  | g :: gs, c :: ds, v :: vs, h1, h2, e => by
    unfold lkK at e
    by_cases q : g = k
    · rw [if_pos (decide_eq_true q)] at e; cases e
    · rw [if_neg (by rw [decide_eq_false q]; exact Bool.false_ne_true)] at e
      have := lkK_none (k := k) (Nat.succ.inj h1) (Nat.succ.inj h2) e
      unfold valV at this ⊢
      rw [List.zip_cons_cons, List.find?_cons, show decide (((g, v) : Key × V).1 = k) = false from decide_eq_false q]
      exact this
theorem keyD_is {H : Hp} {p : Pl} {v : V} {d : Dat} {k : Key} (h : IsD Z H p v d) (e : keyD d = some k) : v = kV k := by
  cases d with
  | int i => cases e; exact isD_int.mp h
  | str x => cases e; exact isD_str.mp h
  | _ => cases e
def dDGet (d e : Dat) : M Dat := match d with
  | .dic ks ds => M.opt (keyD e) >>= fun k => M.opt (lkK k ks ds)
  | _ => M.no
def xDGet (a b : Env → M Dat) (ρ : Env) : M Dat := a ρ >>= fun x => b ρ >>= fun y => dDGet x y
theorem j_dget (ha : JW Z Er O ta m1) (hb : JD Z Er O tb m2) : JD Z Er O (tDGet ta tb) (xDGet m1 m2) := fun σ H p ρ S Q hE hS q =>
  ha σ H p ρ S _ hE hS ((q.bnd xE).mono fun d S1 H1 p1 e1 s1 q1 v hv => hb σ H1 p1 ρ S1 _ (hE.ext e1 hS) s1 ((q1.bnd xE).mono fun e S2 H2 p2 e2 s2 q2 w hw => by
    cases d with
    | dic ks ds =>
      obtain ⟨k, ek, q2⟩ := Post.opt q2
      obtain ⟨x, ex, kk⟩ := opt_pure xE q2 s2
      obtain ⟨a, vs, rfl, h1, hl, h2⟩ := upW.up e2 s1 hv
      obtain ⟨u, g1, g2⟩ := lkK_rel h2 ex
      exact ⟨a, u, rfl, .inl ⟨_, k, .inl h1.1, keyD_is hw ek, g1.symm⟩, kk u g2⟩
    | _ => exact (bad_no (S := S2) q2).elim))
def dDIn (neg : Bool) (e d : Dat) : M Dat := match d with
  | .dic ks ds => M.opt (keyD e) >>= fun k => pure (.bl (neg != (lkK k ks ds).isSome))
  | _ => M.no
def xDIn (neg : Bool) (a b : Env → M Dat) (ρ : Env) : M Dat := a ρ >>= fun x => b ρ >>= fun y => dDIn neg x y
theorem dget_of {H : Hp} {p : Pl} {ks : List Key} {ds : List Dat} {v w : V} {e : Dat} {k : Key} (hv : IsW Z H p v (.dic ks ds)) (hw : IsD Z H p w e) (ek : keyD e = some k) : ∃ a o, v = .ref a ∧ DGet H a w o ∧ o.isSome = (lkK k ks ds).isSome := by
  obtain ⟨a, vs, rfl, h1, hl, h2⟩ := hv
  refine ⟨a, _, rfl, .inl ⟨_, k, .inl h1.1, keyD_is hw ek, rfl⟩, ?_⟩
  cases z : lkK k ks ds with
  | none => rw [lkK_none hl h2.len z]; rfl
  | some d => obtain ⟨u, g1, _⟩ := lkK_rel h2 z; rw [g1]; rfl
theorem j_dnotin (hb : JD Z Er O tb m2) (ha : JW Z Er O ta m1) : JD Z Er O (tDNotIn tb ta) (xDIn true m2 m1) := fun σ H p ρ S Q hE hS q =>
  hb σ H p ρ S _ hE hS ((q.bnd xE).mono fun e S1 H1 p1 e1 s1 q1 w hw => ha σ H1 p1 ρ S1 _ (hE.ext e1 hS) s1 ((q1.bnd xE).mono fun d S2 H2 p2 e2 s2 q2 v hv => by
    cases d with
    | dic ks ds =>
      obtain ⟨k, ek, q2⟩ := Post.opt q2
      obtain ⟨a, o, rfl, g1, g2⟩ := dget_of hv (hw.ext e2.s) ek
      refine ⟨a, o, rfl, g1, ?_⟩
      rw [g2]
      have z := q2.pure xE s2
      rw [Bool.true_bne] at z
      exact z _ (isD_bl.mpr rfl)
    | _ => exact (bad_no (S := S2) q2).elim))
/-- zip(a, b): two lists, two tuples -/
def zipD (xs ys : List Dat) : List Dat := (xs.zip ys).map fun q => .tup [q.1, q.2]
theorem zip_len {xs ys : List Dat} : (zipD xs ys).length = min xs.length ys.length := by unfold zipD; rw [List.length_map, List.length_zip]
theorem zip_at {xs ys : List Dat} {i : Nat} (h1 : i < xs.length) (h2 : i < ys.length) : (zipD xs ys)[i]? = some (.tup [xs[i], ys[i]]) := by
  unfold zipD
  rw [List.getElem?_map, List.getElem?_zip_eq_some (z := (xs[i], ys[i])) |>.mpr ⟨List.getElem?_eq_getElem h1, List.getElem?_eq_getElem h2⟩]
  rfl
/-- a dict display -/
def xPairs : List ((Env → M Dat) × (Env → M Dat)) → Env → M (List (Dat × Dat))
  | [], _ => pure []
  | (a, b) :: r, ρ => a ρ >>= fun x => b ρ >>= fun y => xPairs r ρ >>= fun l => pure ((x, y) :: l)
def keysD : List (Dat × Dat) → Option (List Key)
  | [] => some []
  | (a, _) :: r => (keyD a).bind fun k => (keysD r).map (k :: ·)
def noDup : List Key → Bool
  | [] => true
  | k :: r => !r.any (fun g => decide (g = k)) && noDup r
def xDisp (l : List ((Env → M Dat) × (Env → M Dat))) (ρ : Env) : M Dat := xPairs l ρ >>= fun ps => M.opt (keysD ps) >>= fun ks => M.need (noDup ks && decide (ks.length ≤ 15)) >>= fun _ => pure (.dic ks (ps.map (·.2)))
end
end Zd
namespace Zd
open PySem PySem.Spec PyProof.Rows L2
inductive Src where
  | li (a : Addr) | tu (a : Addr) | tx (x : Str)
def Src.v : Src → V
  | .li a => .ref a
  | .tu a => .ref a
  | .tx x => .str x
def Src.has (K : PySem.W.Frag) (H : Hp) (i : Nat) (v : V) : Src → Prop
  | .li a => ∃ xs, SqL K H a xs ∧ xs[i]? = some v
  | .tu a => ∃ xs, SqT K H a xs ∧ xs[i]? = some v
  | .tx x => ∃ c, x.cps[i]? = some c ∧ v = .str ⟨#[c]⟩
def Src.len (K : PySem.W.Frag) (H : Hp) (n : Nat) : Src → Prop
  | .li a => ∃ xs, SqL K H a xs ∧ xs.length = n
  | .tu a => ∃ xs, SqT K H a xs ∧ xs.length = n
  | .tx x => x.cps.size = n
def Src.fp (it : Addr) : Src → List Addr
  | .li a => [it, a]
  | .tu a => [it, a]
  | .tx _ => [it]
def Src.off (c : Addr) : Src → Prop
  | .li a => a ≠ c
  | .tu a => a ≠ c
  | .tx _ => True
/-- its iterator at the place i -/
def Src.itr (it : Addr) (i : Nat) (h : Heap) : Src → Prop
  | .li a => h.IsListIter it a i
  | .tu a => h.IsTupleIter it a i
  | .tx x => ∃ t, h.IsStrIter it (strIterType x) x t i
theorem Src.itr_keep {it : Addr} {i : Nat} {h h' : Heap} : ∀ {s : Src}, s.itr it i h → (∀ o, h.get? it = some o → h'.get? it = some o) → s.itr it i h'
  | .li a, q, k => Heap.IsListIter.at q k
  | .tu a, q, k => Heap.IsTupleIter.at q k
  | .tx x, ⟨t, o, e, c, d⟩, k => ⟨t, o, k o e, c, d⟩
theorem Src.itr_obj {it : Addr} {i : Nat} {h : Heap} : ∀ {s : Src}, s.itr it i h → ∃ o, h.get? it = some o ∧ ∀ v, o.data ≠ .cell v
  | .li a, ⟨o, e, c, d⟩ => ⟨o, e, fun v q => by rw [d] at q; cases q⟩
  | .tu a, ⟨o, e, c, d⟩ => ⟨o, e, fun v q => by rw [d] at q; cases q⟩
  | .tx x, ⟨t, o, e, c, d⟩ => ⟨o, e, fun v q => by rw [d] at q; cases q⟩
theorem Src.mem {it : Addr} : ∀ {s : Src}, it ∈ s.fp it
  | .li a => List.mem_cons_self
  | .tu a => List.mem_cons_self
  | .tx x => List.mem_cons_self
theorem Src.nofp {it c : Addr} : ∀ {s : Src}, c ≠ it → s.off c → c ∉ s.fp it
  | .li a, h, k, m => by
    rcases List.mem_cons.mp m with e | e
    · exact h e
    · exact k (List.mem_singleton.mp e).symm
  | .tu a, h, k, m => by
    rcases List.mem_cons.mp m with e | e
    · exact h e
    · exact k (List.mem_singleton.mp e).symm
  | .tx x, h, k, m => h (List.mem_singleton.mp m)
/-- what it draws, as things stand -/
structure Src.Dr (P : Program) (w : World) (A : Around) (K : PySem.W.Frag) (H : Hp) (s : Src) (it : Addr) (i : Nat) (h : Heap) (n : Nat) : Prop where
  dr : ∃ (Pv : Nat → Value → Prop) (St : Nat → Heap → Prop), Draws P w A it (s.fp it) n Pv St ∧ St i h ∧ (∀ u, Pv i u → ∃ x, RelV x u ∧ s.has K H i x) ∧ ∀ j h', St j h' → s.itr it j h'
theorem Src.dr {X : Cx} {pins : List (Addr × Obj)} {σ : L2.St} {H : Hp} {sh : Shared} (I : Inv X pins σ H sh) (hc : X.calm = true) {it : Addr} {i n : Nat} : ∀ {s : Src}, s.len X.K H n → s.itr it i sh.heap → s.off it → Src.Dr X.prog X.w X.A.in1 X.K H s it i sh.heap n
  | .li a, ⟨xs, hq, hl⟩, st, ho => by
    obtain ⟨its, rv, p, hz⟩ := I.list hq
    have e : its.toArray.size = n := by rw [List.size_toArray, ← rv.length, hl]
    subst e
    refine ⟨_, _, Draws.list (A := X.A.in1) (I.ok.hd hc) it a ho its.toArray, ⟨st, p.isList⟩, fun u hu => ?_, fun j h' st' => st'.1⟩
    have hu : its[i]? = some u := by simpa using hu
    have lt : i < xs.length := by rw [rv.length]; exact (List.getElem?_eq_some_iff.mp hu).1
    obtain ⟨u', h1, h2⟩ := rv.get (List.getElem?_eq_getElem lt)
    rw [hu] at h1
    cases h1
    exact ⟨_, h2, xs, hq, List.getElem?_eq_getElem lt⟩
  | .tu a, ⟨xs, hq, hl⟩, st, ho => by
    obtain ⟨its, rv, p, hz⟩ := I.tuple hq
    have e : its.toArray.size = n := by rw [List.size_toArray, ← rv.length, hl]
    subst e
    refine ⟨_, _, Draws.tuple (A := X.A.in1) (I.ok.hd hc) it a ho its.toArray, ⟨st, p⟩, fun u hu => ?_, fun j h' st' => st'.1⟩
    have hu : its[i]? = some u := by simpa using hu
    have lt : i < xs.length := by rw [rv.length]; exact (List.getElem?_eq_some_iff.mp hu).1
    obtain ⟨u', h1, h2⟩ := rv.get (List.getElem?_eq_getElem lt)
    rw [hu] at h1
    cases h1
    exact ⟨_, h2, xs, hq, List.getElem?_eq_getElem lt⟩
  | .tx x, hl, ⟨t, st⟩, ho => by
    have e : x.cps.size = n := hl
    subst e
    refine ⟨_, _, Draws.text (A := X.A.in1) (I.ok.hd hc) it x t, st, fun u hu => ?_, fun j h' st' => ⟨t, st'⟩⟩
    obtain ⟨c, v, h1, h2⟩ := hu
    exact ⟨.str ⟨#[c]⟩, ⟨v, h2⟩, c, h1, rfl⟩
theorem Src.inj {X : Cx} {pins : List (Addr × Obj)} {σ : L2.St} {H : Hp} {sh : Shared} (I : Inv X pins σ H sh) {i : Nat} {x y : V} : ∀ {s : Src}, s.has X.K H i x → s.has X.K H i y → x = y
  | .li a, ⟨xs, h1, h2⟩, ⟨ys, k1, k2⟩ => by
    rw [I.list_inj h1 k1, k2] at h2
    exact (Option.some.inj h2).symm
  | .tu a, ⟨xs, h1, h2⟩, ⟨ys, k1, k2⟩ => by
    rw [I.tuple_inj h1 k1, k2] at h2
    exact (Option.some.inj h2).symm
  | .tx x, ⟨c, h1, h2⟩, ⟨d, k1, k2⟩ => by
    rw [h1] at k1
    cases k1
    rw [h2, k2]
def ItzG (K : PySem.W.Frag) (s1 s2 : Src) : It :=
  ⟨fun i H => ∃ n1 n2, s1.len K H n1 ∧ s2.len K H n2 ∧ i < n1 ∧ i < n2,
    fun i H v H' => ∃ T o x y, v = .ref T ∧ H T = none ∧ o.dict = none ∧ H' = upd H T (.frz o (.tup [x, y])) ∧ (∀ z, s1.has K H i z → x = z) ∧ ∀ z, s2.has K H i z → y = z,
    fun i H => ∃ n1 n2, s1.len K H n1 ∧ s2.len K H n2 ∧ i ≤ n1 ∧ i ≤ n2 ∧ (i = n1 ∨ i = n2)⟩
structure SepG (s1 s2 : Src) (z TI TO i1 i2 : Addr) : Prop where
  TIz : TI ≠ z
  TOz : TO ≠ z
  i1z : i1 ≠ z
  i2z : i2 ≠ z
  TITO : TI ≠ TO
  TIi1 : TI ≠ i1
  TIi2 : TI ≠ i2
  TOi1 : TO ≠ i1
  TOi2 : TO ≠ i2
  i12 : i1 ≠ i2
  a1 : ∀ c, c = z ∨ c = TO ∨ c = i1 ∨ c = i2 → s1.off c
  a2 : ∀ c, c = z ∨ c = TO ∨ c = i1 ∨ c = i2 → s2.off c
theorem SepG.sep {s1 s2 : Src} {z TI TO i1 i2 : Addr} (D : SepG s1 s2 z TI TO i1 i2) : ZipSep2 z TI TO i1 i2 (s1.fp i1) (s2.fp i2) :=
  { TIz := D.TIz, TOz := D.TOz, TITO := D.TITO, TIi1 := D.TIi1, mem1 := Src.mem, zf1 := Src.nofp (Ne.symm D.i1z) (D.a1 _ (.inl rfl)), Tf1 := Src.nofp D.TOi1 (D.a1 _ (.inr (.inl rfl))),
    TIi2 := D.TIi2, mem2 := Src.mem, zf2 := Src.nofp (Ne.symm D.i2z) (D.a2 _ (.inl rfl)), Tf2 := Src.nofp D.TOi2 (D.a2 _ (.inr (.inl rfl))),
    sep1_2 := Src.nofp D.i12 (D.a2 _ (.inr (.inr (.inl rfl)))), sep2_1 := Src.nofp (Ne.symm D.i12) (D.a1 _ (.inr (.inr (.inr rfl)))) }
theorem turn_zipG {P : Program} {w : World} {K : PySem.W.Frag} {elts : List Expr} {kk : Nat} {tpos : Pos} {s1 s2 : Src} {z TI TO i1 i2 : Addr} (D : SepG s1 s2 z TI TO i1 i2) :
    Turn P w K (.Tuple elts kk tpos) (ItzG K s1 s2) [z, TI, TO, i1, i2] z (fun i h => IsZip h z TI TO .none ∧ IsTupOf2 h TI (.ref i1) (.ref i2) ∧ (∃ x y, IsTupOf2 h TO x y) ∧ s1.itr i1 i h ∧ s2.itr i2 i h) where
  mem := by simp
  obj := fun i h ⟨hz, hTI, ⟨x, y, hTO⟩, h1, h2⟩ c hc => by
    have five : c = z ∨ c = TI ∨ c = TO ∨ c = i1 ∨ c = i2 := by simpa using hc
    rcases five with rfl | rfl | rfl | rfl | rfl
    · exact ⟨_, hz, nofun⟩
    · exact ⟨_, hTI, nofun⟩
    · exact ⟨_, hTO, nofun⟩
    · exact Src.itr_obj h1
    · exact Src.itr_obj h2
  keep := fun i h h' ⟨hz, hTI, ⟨x, y, hTO⟩, h1, h2⟩ k => ⟨k z (by simp) _ hz, k TI (by simp) _ hTI, ⟨x, y, k TO (by simp) _ hTO⟩, Src.itr_keep h1 fun o q => k i1 (by simp) o q, Src.itr_keep h2 fun o q => k i2 (by simp) o q⟩
  item := by
    rintro X rfl rfl rfl hc i pins s σ H E I hf ⟨hz, hTI, ⟨a1, a2, hTO⟩, h1, h2⟩ ⟨n1, n2, l1, l2, lt1, lt2⟩
    obtain ⟨P1, St1, D1, t1, g1, f1⟩ := (Src.dr I hc l1 h1 (D.a1 _ (.inr (.inr (.inl rfl))))).dr
    obtain ⟨P2, St2, D2, t2, g2, f2⟩ := (Src.dr I hc l2 h2 (D.a2 _ (.inr (.inr (.inr rfl))))).dr
    refine wpAny_pyNext_zipD2_item D.sep D1 D2 hz hTI hTO t1 t2 lt1 lt2 fun u1 u2 h' tk p1 p2 z' TO' q1 q2 hT hsz hk => ⟨_, rfl, wpAny_letOwnedTupleGo_zip (s := { s with heap := h', toks := tk }) z' fun h'' z'' sb => ?_⟩
    obtain ⟨x, rx, hx⟩ := g1 u1 p1
    obtain ⟨y, ry, hy⟩ := g2 u2 p2
    have ne : ∀ {c o}, s.heap.get? c = some o → s.heap.objs.size ≠ c := fun e => Nat.ne_of_gt (Heap.lt_size e)
    have sb' : ∀ c, c ≠ z → h''.get? c = h'.get? c := fun c n => sb.2 c n
    have hT2 : h''.get? s.heap.objs.size = some { cls := .type "tuple", data := .seq #[u1, u2] } := (sb' _ (ne hz)).trans hT
    have new : ObjOk X.prog X.w (upd H s.heap.objs.size (.frz { cls := .type "tuple", data := .seq #[u1, u2] } (.tup [x, y]))) h'' s.heap.objs.size (.frz { cls := .type "tuple", data := .seq #[u1, u2] } (.tup [x, y])) := ⟨hT2, show 2 ≤ sizeLine by decide, [u1, u2], .cons rx (.cons ry .nil), ⟨_, hT2, rfl, _, rfl⟩⟩
    have lt : ∀ c ∈ [z, TI, TO, i1, i2], c ≠ s.heap.objs.size := fun c hc' => by
      have five : c = z ∨ c = TI ∨ c = TO ∨ c = i1 ∨ c = i2 := by simpa using hc'
      rcases five with rfl | rfl | rfl | rfl | rfl
      · exact (ne hz).symm
      · exact (ne hTI).symm
      · exact (ne hTO).symm
      · obtain ⟨o, e, _⟩ := Src.itr_obj h1; exact (ne e).symm
      · obtain ⟨o, e, _⟩ := Src.itr_obj h2; exact (ne e).symm
    refine ⟨.ref s.heap.objs.size, _, I.turnedNew (t' := tk) (ch := [z, TI, TO, i1, i2]) (fun c o hb q => (sb' c fun e => hb (by simp [e])).trans (hk c o (fun e => hb (by simp [e])) (fun e => hb (by simp [e])) (fun e => hb (by simp [e])) (fun e => hb (by simp [e])) q)) hf (Nat.le_refl _) new, rfl,
      ⟨_, _, x, y, rfl, I.hok.fresh (Nat.le_refl _), rfl, rfl, fun _ q => Src.inj I hx q, fun _ q => Src.inj I hy q⟩, ⟨z'', (sb' _ D.TIz).trans (hk _ _ D.TIz D.TITO D.TIi1 D.TIi2 hTI), ⟨u1, u2, (sb' _ D.TOz).trans TO'⟩, Src.itr_keep (f1 _ _ q1) fun o q => (sb' _ D.i1z).trans q, Src.itr_keep (f2 _ _ q2) fun o q => (sb' _ D.i2z).trans q⟩, fun c hc' => ?_⟩
    rw [upd_ne (lt c hc')]
    exact (hf c hc').1
  done := by
    rintro X rfl rfl rfl hc i pins s σ H E I hf ⟨hz, hTI, ⟨a1, a2, hTO⟩, h1, h2⟩ ⟨n1, n2, l1, l2, lt1, lt2, en⟩
    obtain ⟨P1, St1, D1, t1, g1, f1⟩ := (Src.dr I hc l1 h1 (D.a1 _ (.inr (.inr (.inl rfl))))).dr
    obtain ⟨P2, St2, D2, t2, g2, f2⟩ := (Src.dr I hc l2 h2 (D.a2 _ (.inr (.inr (.inr rfl))))).dr
    exact wpAny_pyNext_zipD2_end D.sep D1 D2 hz hTI hTO t1 t2 lt1 lt2 en fun h' tk hk => ⟨rfl, I.turnedL (t' := tk) (ch := [z, TI, TO, i1, i2]) (fun c o hb q =>
      hk c o (fun e => hb (by simp [e])) (fun e => hb (by simp [e])) (fun e => hb (by simp [e])) (fun e => hb (by simp [e])) q) hf⟩
  self := fun A i s Q E st h => wpAny_pyIter_zip st.1 h
/-- it begins -/
theorem Src.begins {X : Cx} {pins : List (Addr × Obj)} {σ : L2.St} {H : Hp} {sh : Shared} (I : Inv X pins σ H sh) {u : Value} {n : Nat} : ∀ {s : Src}, s.len X.K H n → RelV s.v u →
    ∃ (o : Obj) (Hb : Heap → Prop), Begins u o Hb ∧ Hb sh.heap ∧ (∀ h' it, h'.get? it = some o → s.itr it 0 h') ∧ ∀ c, sh.heap.objs.size ≤ c → s.off c
  | .li a, ⟨xs, hq, _⟩, r => by
    obtain ⟨its, rv, p, hz⟩ := I.list hq
    cases (show u = Value.ref a from r)
    refine ⟨_, _, begins_list a its.toArray, p.isList, fun h' it e => ⟨_, e, rfl, rfl⟩, fun c le e => ?_⟩
    obtain ⟨o, h1, _⟩ := p.isList
    rw [← e] at le
    exact absurd (Heap.lt_size h1) (Nat.not_lt.mpr le)
  | .tu a, ⟨xs, hq, _⟩, r => by
    obtain ⟨its, rv, p, hz⟩ := I.tuple hq
    cases (show u = Value.ref a from r)
    refine ⟨_, _, begins_tuple a its.toArray, p, fun h' it e => ⟨_, e, rfl, rfl⟩, fun c le e => ?_⟩
    obtain ⟨o, h1, _⟩ := id p
    rw [← e] at le
    exact absurd (Heap.lt_size h1) (Nat.not_lt.mpr le)
  | .tx x, _, r => by
    obtain ⟨t, rfl⟩ := (show ∃ t, u = Value.str x t from r)
    exact ⟨_, _, begins_text x t, trivial, fun h' it e => ⟨t, _, e, rfl, rfl⟩, fun _ _ => trivial⟩
def iZipG (K : PySem.W.Frag) (ta : TA) : TI := fun σ H R => ta σ H fun vs H1 => ∃ (s1 s2 : Src) (n1 n2 : Nat), vs = [s1.v, s2.v] ∧ s1.len K H1 n1 ∧ s2.len K H1 n2 ∧ R (ItzG K s1 s2) H1
theorem pi_zipG {X : Cx} {e e2 : Expr} {ta : TA} {p pos tpos : Pos} {elts : List Expr} {kk : Nat} (hg : Gl X "zip") (hm : X.mg "zip" = none) (ha : PA X [e, e2] ta)
    (hs : starEach [e, e2] X.env = (false, eval e X.env) :: starEach [e2] X.env := by rfl) (hpl : (backTo pos (starEach [e2] X.env)).any (·.1) = false := by rfl) :
    PI X (.Tuple elts kk tpos) (.Call (.Name "zip" p) [e, e2] [] pos) (iZipG X.K ta) := by
  refine ⟨fun pins s σ H R I h => Call_ (ld_blt I hg hm PyProof.Rows.boot_zip (PyProof.Rows.callWith_type1 (thn (ha.run pos pins s σ H _ I h) fun us s1 ⟨vs, H1, I1, r1, s1', s2', n1, n2, ex, l1, l2, q⟩ => ?_) hs hpl))⟩
  subst ex
  cases r1 with
  | cons ra rr =>
    cases rr with
    | cons rb rr =>
      cases rr
      obtain ⟨o1, Hb1, B1, hb1, f1, g1⟩ := Src.begins I1 l1 ra
      obtain ⟨o2, Hb2, B2, hb2, f2, g2⟩ := Src.begins I1 l2 rb
      have le : ∀ k, s1.heap.objs.size ≤ s1.heap.objs.size + k := fun k => Nat.le_add_right _ k
      refine zip_begins2 B1 B2 hb1 hb2 fun h' hz hTI hTO h1 h2 hsz hk => wpAny_pyIter_zip hz ?_
      have D : SepG s1' s2' (s1.heap.objs.size + 4) (s1.heap.objs.size + 2) (s1.heap.objs.size + 3) s1.heap.objs.size (s1.heap.objs.size + 1) :=
        ⟨show (s1.heap.objs.size + 2 : Nat) ≠ s1.heap.objs.size + 4 by omega, show (s1.heap.objs.size + 3 : Nat) ≠ s1.heap.objs.size + 4 by omega, show (s1.heap.objs.size : Nat) ≠ s1.heap.objs.size + 4 by omega, show (s1.heap.objs.size + 1 : Nat) ≠ s1.heap.objs.size + 4 by omega,
          show (s1.heap.objs.size + 2 : Nat) ≠ s1.heap.objs.size + 3 by omega, show (s1.heap.objs.size + 2 : Nat) ≠ s1.heap.objs.size by omega, show (s1.heap.objs.size + 2 : Nat) ≠ s1.heap.objs.size + 1 by omega, show (s1.heap.objs.size + 3 : Nat) ≠ s1.heap.objs.size by omega, show (s1.heap.objs.size + 3 : Nat) ≠ s1.heap.objs.size + 1 by omega, show (s1.heap.objs.size : Nat) ≠ s1.heap.objs.size + 1 by omega,
          fun c hc => g1 c (by rcases hc with rfl | rfl | rfl | rfl <;> first | exact le _ | exact Nat.le_refl _), fun c hc => g2 c (by rcases hc with rfl | rfl | rfl | rfl <;> first | exact le _ | exact Nat.le_refl _)⟩
      refine ⟨_, [s1.heap.objs.size + 4, s1.heap.objs.size + 2, s1.heap.objs.size + 3, s1.heap.objs.size, s1.heap.objs.size + 1], _, _, H1, rfl, I1.kept (t' := s1.toks) hk, turn_zipG D, ⟨hz, hTI, ⟨_, _, hTO⟩, f1 _ _ h1, f2 _ _ h2⟩, fun c hc => ?_, q⟩
      have lec : s1.heap.objs.size ≤ c := by
        have five : c = s1.heap.objs.size + 4 ∨ c = s1.heap.objs.size + 2 ∨ c = s1.heap.objs.size + 3 ∨ c = s1.heap.objs.size ∨ c = s1.heap.objs.size + 1 := by simpa using hc
        rcases five with rfl | rfl | rfl | rfl | rfl <;> first | exact le _ | exact Nat.le_refl _
      exact I1.fpOk lec (I1.hok.fresh lec)
end Zd
namespace Zd
open PySem PySem.Spec PyProof.Rows L2
section
variable {Z : Cz} {Er : ErW} {O : List Nat} {vs : Option (List Nat)} {te ta tb tc : TE} {tt tu : TT} {m m1 m2 m3 : Env → M Dat} {mb mc : Env → M Bool} {tl : TA} {ml : Env → M (List Dat)}
def signs (x : Str) : List Dat := x.cps.toList.map fun c => .str ⟨#[c]⟩
def itemsG : Dat → Option (List Dat)
  | .lst ds => some ds
  | .tup ds => some ds
  | .str x => some (signs x)
  | _ => none
def Src.Of (Z : Cz) (H : Hp) (p : Pl) (s : Src) (ds : List Dat) : Prop := s.len Z.K H ds.length ∧ ∀ i d, ds[i]? = some d → ∃ x, s.has Z.K H i x ∧ IsD Z H p x d
theorem src_of {H : Hp} {p : Pl} {v : V} {d : Dat} {ds : List Dat} (h : IsD Z H p v d) (e : itemsG d = some ds) : ∃ s : Src, v = s.v ∧ ∀ H' p', Ext H p H' p' → s.Of Z H' p' ds := by
  cases d with
  | lst xs =>
    cases e
    obtain ⟨a, us, rfl, h1, h2⟩ := isD_lst.mp h
    refine ⟨.li a, rfl, fun H' p' ex => ⟨⟨us, (h1.ext ex).sq, h2.len⟩, fun i d hi => ?_⟩⟩
    obtain ⟨x, g1, g2⟩ := (h2.ext ex).get hi
    exact ⟨x, ⟨us, (h1.ext ex).sq, g1⟩, g2⟩
  | tup xs =>
    cases e
    obtain ⟨a, us, rfl, h1, h2⟩ := isD_tup.mp h
    refine ⟨.tu a, rfl, fun H' p' ex => ⟨⟨us, (h1.ext ex).sq, h2.len⟩, fun i d hi => ?_⟩⟩
    obtain ⟨x, g1, g2⟩ := (h2.ext ex).get hi
    exact ⟨x, ⟨us, (h1.ext ex).sq, g1⟩, g2⟩
  | str x =>
    cases e
    refine ⟨.tx x, isD_str.mp h, fun H' p' ex => ⟨by show x.cps.size = (signs x).length; unfold signs; rw [List.length_map, Array.length_toList], fun i d hi => ?_⟩⟩
    unfold signs at hi
    rw [List.getElem?_map, Array.getElem?_toList] at hi
    cases q : x.cps[i]? with
    | none => rw [q] at hi; cases hi
    | some c => rw [q] at hi; cases hi; exact ⟨_, ⟨c, q, rfl⟩, isD_str.mpr rfl⟩
  | _ => cases e
theorem walks_zipG {X : XR} (x : XOk X) {H : Hp} {p : Pl} {s1 s2 : Src} {xs ys : List Dat} (h1 : ∀ H' p', Ext H p H' p' → s1.Of Z H' p' xs) (h2 : ∀ H' p', Ext H p H' p' → s2.Of Z H' p' ys) : Walks Z X (ItzG Z.K s1 s2) (zipD xs ys) H p := fun H1 p1 S1 i e s => by
  obtain ⟨l1, g1⟩ := h1 H1 p1 (x.s e)
  obtain ⟨l2, g2⟩ := h2 H1 p1 (x.s e)
  rw [zip_len]
  refine ⟨fun lt => ?_, fun le => ⟨_, _, l1, l2, by omega, by omega, by omega⟩⟩
  have i1 : i < xs.length := by omega
  have i2 : i < ys.length := by omega
  obtain ⟨u, a1, b1⟩ := g1 i _ (List.getElem?_eq_getElem i1)
  obtain ⟨w, a2, b2⟩ := g2 i _ (List.getElem?_eq_getElem i2)
  refine ⟨⟨_, _, l1, l2, i1, i2⟩, fun y H' ⟨t, o, v', w', ev, nt, nd, eH, f1, f2⟩ => ?_⟩
  subst ev eH
  cases f1 u a1
  cases f2 w a2
  exact ⟨same_new nt, _, zip_at i1 i2, new_tup s nt nd (isDs_cons.mpr ⟨_, _, rfl, b1, .one b2⟩)⟩
def iZipM (l : Env → M (List Dat)) (ρ : Env) : M (List Dat) := l ρ >>= fun ds => match ds with
  | [a, b] => M.opt (itemsG a) >>= fun xs => M.opt (itemsG b) >>= fun ys => pure (zipD xs ys)
  | _ => M.no
theorem ji_zipG {X : XR} (x : XOk X) (hl : JA Z Er O tl ml) : JI Z Er O X (iZipG Z.K tl) (iZipM ml) := fun σ H p ρ S R hE hS q =>
  hl σ H p ρ S _ hE hS ((q.bnd xE).mono fun ds S1 H1 p1 e1 s1 q1 vs hv => by
    split at q1
    · obtain ⟨v, w, rfl, h1, h2⟩ := isDs_two hv
      obtain ⟨xs, ex, q1⟩ := Post.opt q1
      obtain ⟨ys, ey, q1⟩ := Post.opt q1
      obtain ⟨a, rfl, k1⟩ := src_of h1 ex
      obtain ⟨b, rfl, k2⟩ := src_of h2 ey
      exact ⟨a, b, _, _, rfl, (k1 H1 p1 Ext.refl).1, (k2 H1 p1 Ext.refl).1, q1.pure xE s1 _ (walks_zipG x k1 k2)⟩
    · exact (bad_no (S := S1) q1).elim)
end
end Zd
namespace Zd
open PySem PySem.Spec PyProof.Rows L2
section
variable {Z : Cz} {Er : ErW} {O : List Nat} {vs : Option (List Nat)} {te ta tb tc : TE} {tt tu : TT} {m m1 m2 m3 : Env → M Dat} {mb mc : Env → M Bool} {tl : TA} {ml : Env → M (List Dat)} {ts tr : TS} {ms mr : Env → M Flow}
def strsD : List Dat → Option (List Str)
  | [] => some []
  | .str x :: r => (strsD r).map (x :: ·)
  | _ => none
theorem strsD_is {H : Hp} {p : Pl} : ∀ {ds : List Dat} {vs : List V} {xs : List Str}, IsDs Z H p vs ds → strsD ds = some xs → vs = xs.map V.str
  | [], _, _, h, e => by cases e; exact isDs_nil.mp h
  | d :: ds, _, bs, h, e => by
    obtain ⟨v, r, rfl, h1, h2⟩ := isDs_cons.mp h
    cases d with
    | str b =>
      unfold strsD at e
      cases z : strsD ds with
      | none => rw [z] at e; cases e
      | some cs =>
        rw [z] at e
        cases e
        rw [isD_str.mp h1, strsD_is h2 z]
        rfl
    | _ => cases e
def IsPs (Z : Cz) (H : Hp) (p : Pl) (vs : List (V × V)) (ps : List (Dat × Dat)) : Prop := IsDs Z H p (vs.map (·.1)) (ps.map (·.1)) ∧ IsDs Z H p (vs.map (·.2)) (ps.map (·.2))
inductive JPs (Z : Cz) (Er : ErW) (O : List Nat) : List (TE × TE) → List ((Env → M Dat) × (Env → M Dat)) → Prop where
  | nil : JPs Z Er O [] []
  | cons {t u : TE} {m n : Env → M Dat} {ts : List (TE × TE)} {ms : List ((Env → M Dat) × (Env → M Dat))} (h : JD Z Er O t m) (g : JD Z Er O u n) (r : JPs Z Er O ts ms) : JPs Z Er O ((t, u) :: ts) ((m, n) :: ms)
theorem jps_run {ts : List (TE × TE)} {ms : List ((Env → M Dat) × (Env → M Dat))} (h : JPs Z Er O ts ms) : ∀ (σ : L2.St) (H : Hp) (p : Pl) (ρ : Env) (S : List Dat) (Q : List (V × V) → Hp → Prop), IsE Z O H p σ ρ → IsS Z H p S → Post Z Er ExtE (xPairs ms ρ S) H p (fun ps _ H' p' => ∀ vs, IsPs Z H' p' vs ps → Q vs H') → tPairs ts σ H Q := by
  induction h with
  | nil => exact fun σ H p ρ S Q hE hS q => q.pure xE hS [] ⟨isDs_nil.mpr rfl, isDs_nil.mpr rfl⟩
  | cons h g r ih => exact fun σ H p ρ S Q hE hS q => h σ H p ρ S _ hE hS ((q.bnd xE).mono fun d S1 H1 p1 e1 s1 q1 v hv => g σ H1 p1 ρ S1 _ (hE.ext e1 hS) s1 ((q1.bnd xE).mono fun e S2 H2 p2 e2 s2 q2 w hw =>
      ih σ H2 p2 ρ S2 _ ((hE.ext e1 hS).ext e2 s1) s2 ((q2.bnd xE).mono fun l S3 H3 p3 e3 s3 q3 vs ⟨k1, k2⟩ => q3.pure xE s3 ((v, w) :: vs) ⟨isDs_cons.mpr ⟨v, _, rfl, hv.ext (e2.trans e3).s, k1⟩, isDs_cons.mpr ⟨w, _, rfl, hw.ext e3.s, k2⟩⟩)))
theorem keys_is {H : Hp} {p : Pl} : ∀ {ps : List (Dat × Dat)} {vs : List (V × V)} {ks : List Key}, IsPs Z H p vs ps → keysD ps = some ks → vs = (ks.zip (vs.map (·.2))).map (fun kv => (kV kv.1, kv.2)) ∧ ks.length = vs.length
  | [], vs, _, ⟨h, _⟩, e => by
    cases e
    cases vs with
    | nil => exact ⟨rfl, rfl⟩
    | cons _ _ => exact absurd (isDs_nil.mp h) nofun
  | (a, b) :: ps, vs, ks, ⟨h1, h2⟩, e => by
    cases vs with
    | nil => obtain ⟨_, _, z, _⟩ := isDs_cons.mp h1; cases z
    | cons v vs =>
      obtain ⟨x, r, z, g1, g2⟩ := isDs_cons.mp h1
      obtain ⟨y, r', z', g1', g2'⟩ := isDs_cons.mp h2
      cases z
      cases z'
      unfold keysD at e
      cases ek : keyD a with
      | none => rw [ek] at e; cases e
      | some k =>
        cases er : keysD ps with
        | none => rw [ek, er] at e; cases e
        | some kr =>
          rw [ek, er] at e
          cases e
          obtain ⟨q1, q2⟩ := keys_is (ps := ps) ⟨g2, g2'⟩ er
          refine ⟨?_, congrArg (· + 1) q2⟩
          rw [List.map_cons, List.zip_cons_cons, List.map_cons, ← q1, ← keyD_is g1 ek]
theorem val_no {k : Key} : ∀ {ks : List Key} {vs : List V}, ks.any (fun g => decide (g = k)) = false → valV (ks.zip vs) k = none
  | [], _, _ => rfl
  | g :: ks, [], _ => rfl
  | g :: ks, v :: vs, h => by
    rw [List.any_cons, Bool.or_eq_false_iff] at h
    rw [List.zip_cons_cons, valV_neg (of_decide_eq_false h.1), val_no h.2]
theorem nd_app {ks ms : List Key} {k : Key} : noDup (ks ++ k :: ms) = true → ks.any (fun g => decide (g = k)) = false ∧ noDup ((ks ++ [k]) ++ ms) = true := by
  intro h
  refine ⟨?_, by rw [List.append_assoc]; exact h⟩
  induction ks with
  | nil => rfl
  | cons g ks ih =>
    rw [List.cons_append] at h
    unfold noDup at h
    rw [Bool.and_eq_true, Bool.not_eq_true', List.any_append, Bool.or_eq_false_iff, List.any_cons, Bool.or_eq_false_iff] at h
    rw [List.any_cons, Bool.or_eq_false_iff]
    refine ⟨decide_eq_false fun e => of_decide_eq_false h.1.2.1 e.symm, ih h.2⟩
theorem merge_new : ∀ {ms ks : List Key} {us vs : List V}, noDup (ks ++ ms) = true → ks.length = vs.length → ms.length = us.length → mergeK (ks.zip vs) (ms.zip us) = (ks ++ ms).zip (vs ++ us)
  | [], ks, us, vs, _, h1, h2 => by
    have e : us = [] := List.length_eq_zero_iff.mp h2.symm
    subst e
    rw [List.append_nil, List.append_nil]
    rfl
  | k :: ms, ks, [], vs, _, h1, h2 => by cases h2
  | k :: ms, ks, u :: us, vs, h, h1, h2 => by
    obtain ⟨n1, n2⟩ := nd_app h
    rw [List.zip_cons_cons]
    show mergeK (putK (ks.zip vs) k u) (ms.zip us) = _
    rw [putK_new u (val_no n1)]
    have e : ks.zip vs ++ [(k, u)] = (ks ++ [k]).zip (vs ++ [u]) := by rw [List.zip_append h1]; rfl
    rw [e, merge_new n2 (by simp [h1]) (Nat.succ.inj h2), List.append_assoc, List.append_assoc]
    rfl
theorem jf_disp {trs : List (TE × TE)} {ms : List ((Env → M Dat) × (Env → M Dat))} (h : JPs Z Er O trs ms) : JF Z Er O (tDisp trs) (xDisp ms) := fun σ H p ρ S Q hE hS q D nD => by
  obtain ⟨hE2, hS2⟩ := own_new (o := .dK []) hE hS nD
  have eN : ExtE H p (upd H D (.dK [])) p := ExtE.new nD
  refine jps_run h σ _ _ ρ S _ hE2 hS2 ((q.bndK.up xE eN).plus.mono fun ps S1 H1 p1 e1 s1 q1 vs hv => ?_)
  have mD : D ∈ p.ω ++ [D] := List.mem_append_right _ (List.mem_singleton.mpr rfl)
  have hD : H1 D = some (.dK []) := e1.k D _ upd_same (hS2.dj D mD).1
  obtain ⟨ks, ek, q1⟩ := Post.opt q1
  obtain ⟨c, q1⟩ := Post.need q1
  rw [Bool.and_eq_true, decide_eq_true_eq] at c
  obtain ⟨k1, k2⟩ := keys_is hv ek
  refine ⟨hD, ks.zip (vs.map (·.2)), k1, by rw [List.length_zip]; exact Nat.le_trans (Nat.min_le_left _ _) c.2, ?_⟩
  have mk : mergeK [] (ks.zip (vs.map (·.2))) = ks.zip (vs.map (·.2)) := by
    have := merge_new (ks := []) (vs := []) (ms := ks) (us := vs.map (·.2)) c.1 rfl (by rw [List.length_map]; exact k2)
    exact this
  rw [mk]
  have mD1 : D ∈ p1.ω := by rw [e1.ω]; exact mD
  have ePut : Ext H1 p1 (L2.upd H1 D (.dK (ks.zip (vs.map (·.2))))) p1 := ext_put mD1
  have sPut := s1.put (o := .dK (ks.zip (vs.map (·.2)))) mD1
  have ep : p1 = ⟨p1.α, p.ω ++ [D], p.γ⟩ := by
    have h1 := e1.ω
    have h2 := e1.γ
    cases p1
    cases h1
    cases h2
    rfl
  have nh : ¬ (⟨p1.α, p.ω, p.γ⟩ : Pl).has D := by
    rintro (h | h | h)
    · exact (s1.dj D mD1).1 h
    · exact hS.wt D (.inl h) nD
    · exact hS.wt D (.inr h) nD
  have ex : ExtE H p (L2.upd H1 D (.dK (ks.zip (vs.map (·.2))))) ⟨p1.α, p.ω, p.γ⟩ := by
    have z : ExtE H p H1 ⟨p1.α, p.ω, p.γ⟩ := eN.trans ⟨e1.α, rfl, rfl, e1.k, e1.t⟩
    exact ⟨z.α, rfl, rfl, fun a o h n => by rw [upd_ne (ne_of_none h nD)]; exact z.k a o h n, fun a n => by rw [upd_ne fun c => n (by rw [c]; exact nD)]; exact z.t a n⟩
  have sL : IsS Z (L2.upd H1 D (.dK (ks.zip (vs.map (·.2))))) ⟨p1.α, p.ω, p1.γ⟩ S1 := (sPut.less (ω := p.ω) fun a h => by rw [e1.ω]; exact List.mem_append_left _ h)
  have eg : p1.γ = p.γ := e1.γ
  rw [eg] at sL
  refine q1 _ _ ex sL D nD (by rw [upd_same]; exact nofun) nh (by rw [← ep]; exact sPut) ?_
  rw [← ep]
  exact ⟨_, upd_same, by rw [List.length_map]; exact k2, hv.2.ext ePut⟩
theorem j_disp {trs : List (TE × TE)} {ms : List ((Env → M Dat) × (Env → M Dat))} (h : JPs Z Er O trs ms) : JD Z Er O (tDisp trs) (xDisp ms) := (jf_disp h).d
end
end Zd
namespace Zd
open PySem PySem.Spec PyProof.Rows L2
open AutoSeq1 (wpAny_loadPart')
/-- its == says: not mine -/
def Mute (A : Around) (id : String) (s : Shared) (a b : Value) : Prop := ∀ (prog : Program) (w : World) (E : Value → Shared → Prop) (Q : Value → Shared → Prop), Q .notImplemented s → wpAny (model prog w) A (call (.builtin id) [a, b]) Q E s
/-- what is no float is asked so -/
def Plainly (A : Around) (s : Shared) (a b : Value) : Prop := ∀ (prog : Program) (w : World) (E : Value → Shared → Prop) (Q : Bool → Shared → Prop), wpAny (model prog w) A (richCompare .Eq a b) (fun v s' => wpAny (model prog w) A (truthOfDropped v) Q E s') E s → wpAny (model prog w) A (eqBool a b) Q E s
theorem eqAt_mute {s : Shared} {A : Around} {a b : Value} {T U i j : String} (pl : Plainly A s a b) (ha : s.TypeIs a T) (hb : s.TypeIs b U) (hTU : (Value.type T != Value.type U) = true) (hs : isSubtype (.type U) (.type T) = pure false) (h1 : Slot T (cmpInfo .Eq).2.1 i) (h2 : Slot U (cmpInfo .Eq).2.2 j)
    (m1 : Mute A i s a b) (m2 : Mute A j s b a) (sm : ∀ (prog : Program) (w : World) (E : Value → Shared → Prop) (Q : Bool → Shared → Prop), Q false s → wpAny (model prog w) A (isSame a b) Q E s) (hu : A.units < cLine) : SeqAt.EqAt A s a b false := fun prog w E Q q =>
  pl prog w E Q (SeqAt.rc_eq_decline_or (k := false) ha hb hTU hs h1 h2 (fun Q' q' => m1 prog w E Q' q') (fun Q' q' => m2 prog w E Q' q') (fun Q' q' => sm prog w E Q' q') (.inr hu) (wpAny_truthy_bool q))
/-- a dict lies there -/
def DAt (s : Shared) (d : Addr) : Prop := ∃ (dd : Option Addr) (es : Array DictEntry) (ep : Nat) (sl : Array (Option Value)), s.heap.get? d = some { cls := .type "dict", dict := dd, data := .dict es ep, slots := sl }
theorem DAt.ty {s : Shared} {d : Addr} (h : DAt s d) : s.TypeIs (.ref d) "dict" := let ⟨_, _, _, _, e⟩ := h; ⟨_, e, rfl⟩
theorem dict_mute {s : Shared} {A : Around} {d : Addr} {b : Value} {T : String} (hd : DAt s d) (hb : s.TypeIs b T) (hs : isSubtype (.type T) (.type "dict") = pure false) : Mute A "dict.__eq__" s (.ref d) b := fun prog w E Q q => by
  refine wpAny_call_entry PySem.F.slot_dict_eq hd.ty PySem.F.entry_dict_eq ?_ (PySem.F.args_dict_eq_2 _ _)
  change wpAny _ _ (Builtin.Dict.dictSlotArgs "__eq__" ⟨[.ref d, b], []⟩ >>= _) _ _ s
  refine wpAny_bind ?_
  unfold Builtin.Dict.dictSlotArgs
  refine wpAny_bind (wpAny_notOrdered_dict hd.ty ?_)
  change wpAny _ _ (pure (Value.ref d, b)) _ _ s
  refine wpAny_pure (wpAny_bind (wpAny_isInstance hb hs ?_))
  simp only [Bool.not_false, if_true]
  refine wpAny_bind (wpAny_rule ?_)
  exact wpAny_pure (by exact ⟨_, rfl, q⟩)
section
variable {d : Addr} {dd : Option Addr} {es : Array DictEntry} {ep : Nat} {sl : Array (Option Value)}
abbrev No (d : Addr) (dd : Option Addr) (es : Array DictEntry) (ep : Nat) (sl : Array (Option Value)) : PySem.Spec := fun _ R s => s.heap.get? d = some { cls := .type "dict", dict := dd, data := .dict es ep, slots := sl } ∧ R (.ok (.ret .notImplemented)) s
theorem no_non : Meets (Builtin.«NoneType.__eq__» ⟨[.none, .ref d], []⟩) (No d dd es ep sl) := .of_wp fun prog w A R s ⟨hl, h⟩ => by
  obtain ⟨hp, g, dr, tk, os⟩ := s
  wp_walk using wpAny_loadPart' hl, wpAny_load hl
  exact ⟨_, rfl, h⟩
theorem no_bl (b : Bool) : Meets (Builtin.«int.__eq__» ⟨[.bool b, .ref d], []⟩) (No d dd es ep sl) := .of_wp fun prog w A R s ⟨hl, h⟩ => by
  obtain ⟨hp, g, dr, tk, os⟩ := s
  wp_walk using wpAny_loadPart' hl, wpAny_load hl
  exact ⟨_, rfl, h⟩
theorem no_int (b : Int) (u : Tok) : Meets (Builtin.«int.__eq__» ⟨[.int b u, .ref d], []⟩) (No d dd es ep sl) := .of_wp fun prog w A R s ⟨hl, h⟩ => by
  obtain ⟨hp, g, dr, tk, os⟩ := s
  wp_walk using wpAny_loadPart' hl, wpAny_load hl
  exact ⟨_, rfl, h⟩
theorem no_str (b : Str) (u : Tok) : Meets (Builtin.«str.__eq__» ⟨[.str b u, .ref d], []⟩) (No d dd es ep sl) := .of_wp fun prog w A R s ⟨hl, h⟩ => by
  obtain ⟨hp, g, dr, tk, os⟩ := s
  wp_walk using wpAny_loadPart' hl, wpAny_load hl
  exact ⟨_, rfl, h⟩
theorem no_lst (l : Addr) (items : Array Value) (n : Nat) (d2 : Option Addr) (s2 : Array (Option Value)) : Meets (Builtin.«list.__eq__» ⟨[.ref l, .ref d], []⟩) (fun A R s => s.heap.get? l = some { cls := .type "list", dict := d2, data := .seq items n, slots := s2 } ∧ No d dd es ep sl A R s) := .of_wp fun prog w A R s ⟨hl, hd, h⟩ => by
  obtain ⟨hp, g, dr, tk, os⟩ := s
  have f1 := F.sub_dict_list
  wp_walk using wpAny_loadPart' hl, wpAny_load hl, wpAny_loadPart' hd, wpAny_load hd
  exact ⟨_, rfl, h⟩
theorem no_tup (l : Addr) (items : Array Value) (n : Nat) (d2 : Option Addr) (s2 : Array (Option Value)) : Meets (Builtin.«tuple.__eq__» ⟨[.ref l, .ref d], []⟩) (fun A R s => s.heap.get? l = some { cls := .type "tuple", dict := d2, data := .seq items n, slots := s2 } ∧ No d dd es ep sl A R s) := .of_wp fun prog w A R s ⟨hl, hd, h⟩ => by
  obtain ⟨hp, g, dr, tk, os⟩ := s
  have f1 := F.sub_dict_tuple
  wp_walk using wpAny_loadPart' hl, wpAny_load hl, wpAny_loadPart' hd, wpAny_load hd
  exact ⟨_, rfl, h⟩
end
end Zd
namespace Zd
open PySem PySem.Spec PyProof.Rows L2
inductive KD (s : Shared) : Value → Nat → Prop
  | non : KD s .none 0
  | bl (b : Bool) : KD s (.bool b) 1
  | int (i : Int) (t : Tok) : KD s (.int i t) 2
  | str (x : Str) (t : Tok) : KD s (.str x t) 3
  | lst {a : Addr} {its : Array Value} (h : s.heap.IsList a its) : KD s (.ref a) 4
  | tup {a : Addr} {its : Array Value} (h : s.heap.IsTuple a its) : KD s (.ref a) 5
  | dic {a : Addr} (h : DAt s a) : KD s (.ref a) 6
section
variable {s : Shared} {A : Around} {d : Addr} (hd : DAt s d) (hu : A.units < cLine)
include hd hu
theorem ea_non_d : SeqAt.EqAt A s .none (.ref d) false := by
  obtain ⟨dd, es, ep, sl, e⟩ := id hd
  exact eqAt_mute (by (intro prog w E Q q; unfold eqBool; refine wpAny_holding (wpAny_ite_split (fun hab => absurd (eq_of_beq hab) nofun) fun _ => wpAny_bind q))) rfl hd.ty (by decide) F.sub_dict_NoneType F.slot_NoneType_eq F.slot_dict_eq_refl (fun _ _ _ _ q => call_meets F.slot_NoneType_eq rfl F.entry_NoneType_eq (F.args_NoneType_eq_2 _ _) no_non ⟨e, q⟩) (dict_mute hd rfl F.sub_NoneType_dict) (fun _ _ _ _ q => wpAny_of_eq (rfl : isSame .none (.ref d) = pure false) q) hu
theorem ea_d_non : SeqAt.EqAt A s (.ref d) .none false := by
  obtain ⟨dd, es, ep, sl, e⟩ := id hd
  exact eqAt_mute (by (intro prog w E Q q; unfold eqBool; refine wpAny_holding (wpAny_ite_split (fun hab => absurd (eq_of_beq hab) nofun) fun _ => wpAny_bind q))) hd.ty rfl (by decide) F.sub_NoneType_dict F.slot_dict_eq F.slot_NoneType_eq_refl (dict_mute hd rfl F.sub_NoneType_dict) (fun _ _ _ _ q => call_meets F.slot_NoneType_eq_refl rfl F.entry_NoneType_eq (F.args_NoneType_eq_2 _ _) no_non ⟨e, q⟩) (fun _ _ _ _ q => wpAny_of_eq (rfl : isSame (.ref d) .none = pure false) q) hu
theorem ea_bl_d (b : Bool) : SeqAt.EqAt A s (.bool b) (.ref d) false := by
  obtain ⟨dd, es, ep, sl, e⟩ := id hd
  exact eqAt_mute (by (intro prog w E Q q; unfold eqBool; refine wpAny_holding (wpAny_ite_split (fun hab => absurd (eq_of_beq hab) nofun) fun _ => wpAny_bind q))) rfl hd.ty (by decide) F.sub_dict_bool F.slot_bool_eq F.slot_dict_eq_refl (fun _ _ _ _ q => call_meets F.slot_bool_eq rfl F.entry_int_eq (F.args_int_eq_2 _ _) (no_bl b) ⟨e, q⟩) (dict_mute hd rfl F.sub_bool_dict) (fun _ _ _ _ q => wpAny_of_eq (rfl : isSame (.bool b) (.ref d) = pure false) q) hu
theorem ea_d_bl (b : Bool) : SeqAt.EqAt A s (.ref d) (.bool b) false := by
  obtain ⟨dd, es, ep, sl, e⟩ := id hd
  exact eqAt_mute (by (intro prog w E Q q; unfold eqBool; refine wpAny_holding (wpAny_ite_split (fun hab => absurd (eq_of_beq hab) nofun) fun _ => wpAny_bind q))) hd.ty rfl (by decide) F.sub_bool_dict F.slot_dict_eq F.slot_bool_eq_refl (dict_mute hd rfl F.sub_bool_dict) (fun _ _ _ _ q => call_meets F.slot_bool_eq_refl rfl F.entry_int_eq (F.args_int_eq_2 _ _) (no_bl b) ⟨e, q⟩) (fun _ _ _ _ q => wpAny_of_eq (rfl : isSame (.ref d) (.bool b) = pure false) q) hu
theorem ea_int_d (b : Int) (t : Tok) : SeqAt.EqAt A s (.int b t) (.ref d) false := by
  obtain ⟨dd, es, ep, sl, e⟩ := id hd
  exact eqAt_mute (by (intro prog w E Q q; unfold eqBool; refine wpAny_holding (wpAny_ite_split (fun hab => absurd (eq_of_beq hab) nofun) fun _ => wpAny_bind q))) (typeIs_int s b t) hd.ty (by decide) F.sub_dict_int F.slot_int_eq F.slot_dict_eq_refl (fun _ _ _ _ q => call_meets F.slot_int_eq (typeIs_int s b t) F.entry_int_eq (F.args_int_eq_2 _ _) (no_int b t) ⟨e, q⟩) (dict_mute hd (typeIs_int s b t) F.sub_int_dict) (fun _ _ _ _ q => wpAny_of_eq (rfl : isSame (.int b t) (.ref d) = pure false) q) hu
theorem ea_d_int (b : Int) (t : Tok) : SeqAt.EqAt A s (.ref d) (.int b t) false := by
  obtain ⟨dd, es, ep, sl, e⟩ := id hd
  exact eqAt_mute (by (intro prog w E Q q; unfold eqBool; refine wpAny_holding (wpAny_ite_split (fun hab => absurd (eq_of_beq hab) nofun) fun _ => wpAny_bind q))) hd.ty (typeIs_int s b t) (by decide) F.sub_int_dict F.slot_dict_eq F.slot_int_eq_refl (dict_mute hd (typeIs_int s b t) F.sub_int_dict) (fun _ _ _ _ q => call_meets F.slot_int_eq_refl (typeIs_int s b t) F.entry_int_eq (F.args_int_eq_2 _ _) (no_int b t) ⟨e, q⟩) (fun _ _ _ _ q => wpAny_of_eq (rfl : isSame (.ref d) (.int b t) = pure false) q) hu
theorem ea_str_d (b : Str) (t : Tok) : SeqAt.EqAt A s (.str b t) (.ref d) false := by
  obtain ⟨dd, es, ep, sl, e⟩ := id hd
  exact eqAt_mute (by (intro prog w E Q q; unfold eqBool; refine wpAny_holding (wpAny_ite_split (fun hab => absurd (eq_of_beq hab) nofun) fun _ => wpAny_bind q))) (typeIs_str s b t) hd.ty (by decide) F.sub_dict_str F.slot_str_eq F.slot_dict_eq_refl (fun _ _ _ _ q => call_meets F.slot_str_eq (typeIs_str s b t) F.entry_str_eq (F.args_str_eq_2 _ _) (no_str b t) ⟨e, q⟩) (dict_mute hd (typeIs_str s b t) F.sub_str_dict) (fun _ _ _ _ q => wpAny_of_eq (rfl : isSame (.str b t) (.ref d) = pure false) q) hu
theorem ea_d_str (b : Str) (t : Tok) : SeqAt.EqAt A s (.ref d) (.str b t) false := by
  obtain ⟨dd, es, ep, sl, e⟩ := id hd
  exact eqAt_mute (by (intro prog w E Q q; unfold eqBool; refine wpAny_holding (wpAny_ite_split (fun hab => absurd (eq_of_beq hab) nofun) fun _ => wpAny_bind q))) hd.ty (typeIs_str s b t) (by decide) F.sub_str_dict F.slot_dict_eq F.slot_str_eq_refl (dict_mute hd (typeIs_str s b t) F.sub_str_dict) (fun _ _ _ _ q => call_meets F.slot_str_eq_refl (typeIs_str s b t) F.entry_str_eq (F.args_str_eq_2 _ _) (no_str b t) ⟨e, q⟩) (fun _ _ _ _ q => wpAny_of_eq (rfl : isSame (.ref d) (.str b t) = pure false) q) hu
theorem ea_lst_d {l : Addr} {its : Array Value} (hl : s.heap.IsList l its) : SeqAt.EqAt A s (.ref l) (.ref d) false := by
  obtain ⟨dd, es, ep, sl, e⟩ := id hd
  obtain ⟨⟨cls, d2, data, s2⟩, ho, hc, n, hdt⟩ := hl
  cases hc
  cases hdt
  have ne : l ≠ d := fun z => by rw [z, e] at ho; exact absurd (congrArg Obj.cls (Option.some.inj ho)) (by simp)
  refine eqAt_mute (fun prog w E Q q => ?_) (⟨_, ho, rfl⟩ : s.TypeIs (.ref l) "list") hd.ty (by decide) F.sub_dict_list F.slot_list_eq F.slot_dict_eq_refl (fun _ _ _ _ q => call_meets F.slot_list_eq ⟨_, ho, rfl⟩ F.entry_list_eq (F.args_list_eq_2 _ _) (no_lst l its n d2 s2) ⟨ho, e, q⟩) (dict_mute hd ⟨_, ho, rfl⟩ F.sub_list_dict) (fun _ _ _ _ q => SeqAt.wpAny_isSame_ref_other' ne ho e (by simp) q) hu
  unfold eqBool
  exact wpAny_holding (wpAny_ite_split (fun hab => absurd (by injection eq_of_beq hab) ne) fun _ => wpAny_bind q)
theorem ea_d_lst {l : Addr} {its : Array Value} (hl : s.heap.IsList l its) : SeqAt.EqAt A s (.ref d) (.ref l) false := by
  obtain ⟨dd, es, ep, sl, e⟩ := id hd
  obtain ⟨⟨cls, d2, data, s2⟩, ho, hc, n, hdt⟩ := hl
  cases hc
  cases hdt
  have ne : d ≠ l := fun z => by rw [← z, e] at ho; exact absurd (congrArg Obj.cls (Option.some.inj ho)) (by simp)
  refine eqAt_mute (fun prog w E Q q => ?_) hd.ty (⟨_, ho, rfl⟩ : s.TypeIs (.ref l) "list") (by decide) F.sub_list_dict F.slot_dict_eq F.slot_list_eq_refl (dict_mute hd ⟨_, ho, rfl⟩ F.sub_list_dict) (fun _ _ _ _ q => call_meets F.slot_list_eq_refl ⟨_, ho, rfl⟩ F.entry_list_eq (F.args_list_eq_2 _ _) (no_lst l its n d2 s2) ⟨ho, e, q⟩) (fun _ _ _ _ q => SeqAt.wpAny_isSame_ref_other' ne e ho (by simp) q) hu
  unfold eqBool
  exact wpAny_holding (wpAny_ite_split (fun hab => absurd (by injection eq_of_beq hab) ne) fun _ => wpAny_bind q)
theorem ea_tup_d {l : Addr} {its : Array Value} (hl : s.heap.IsTuple l its) : SeqAt.EqAt A s (.ref l) (.ref d) false := by
  obtain ⟨dd, es, ep, sl, e⟩ := id hd
  obtain ⟨⟨cls, d2, data, s2⟩, ho, hc, n, hdt⟩ := hl
  cases hc
  cases hdt
  have ne : l ≠ d := fun z => by rw [z, e] at ho; exact absurd (congrArg Obj.cls (Option.some.inj ho)) (by simp)
  refine eqAt_mute (fun prog w E Q q => ?_) (⟨_, ho, rfl⟩ : s.TypeIs (.ref l) "tuple") hd.ty (by decide) F.sub_dict_tuple F.slot_tuple_eq F.slot_dict_eq_refl (fun _ _ _ _ q => call_meets F.slot_tuple_eq ⟨_, ho, rfl⟩ F.entry_tuple_eq (F.args_tuple_eq_2 _ _) (no_tup l its n d2 s2) ⟨ho, e, q⟩) (dict_mute hd ⟨_, ho, rfl⟩ F.sub_tuple_dict) (fun _ _ _ _ q => SeqAt.wpAny_isSame_ref_other' ne ho e (by simp) q) hu
  unfold eqBool
  exact wpAny_holding (wpAny_ite_split (fun hab => absurd (by injection eq_of_beq hab) ne) fun _ => wpAny_bind q)
theorem ea_d_tup {l : Addr} {its : Array Value} (hl : s.heap.IsTuple l its) : SeqAt.EqAt A s (.ref d) (.ref l) false := by
  obtain ⟨dd, es, ep, sl, e⟩ := id hd
  obtain ⟨⟨cls, d2, data, s2⟩, ho, hc, n, hdt⟩ := hl
  cases hc
  cases hdt
  have ne : d ≠ l := fun z => by rw [← z, e] at ho; exact absurd (congrArg Obj.cls (Option.some.inj ho)) (by simp)
  refine eqAt_mute (fun prog w E Q q => ?_) hd.ty (⟨_, ho, rfl⟩ : s.TypeIs (.ref l) "tuple") (by decide) F.sub_tuple_dict F.slot_dict_eq F.slot_tuple_eq_refl (dict_mute hd ⟨_, ho, rfl⟩ F.sub_tuple_dict) (fun _ _ _ _ q => call_meets F.slot_tuple_eq_refl ⟨_, ho, rfl⟩ F.entry_tuple_eq (F.args_tuple_eq_2 _ _) (no_tup l its n d2 s2) ⟨ho, e, q⟩) (fun prog w E Q q => ?_) hu
  · unfold eqBool
    exact wpAny_holding (wpAny_ite_split (fun hab => absurd (by injection eq_of_beq hab) ne) fun _ => wpAny_bind q)
  · exact PySem.wpAny_isSame_ref_other ne e ho (by simp) q
end
theorem ea_kinds {s : Shared} {A : Around} (hu : A.units < cLine) {v u : Value} {i j : Nat} (h1 : KD s v i) (h2 : KD s u j) (ne : i ≠ j) (nb : ¬ (i = 1 ∧ j = 2)) (nb' : ¬ (i = 2 ∧ j = 1)) : SeqAt.EqAt A s v u false :=
  match h1, h2 with
  | .non, .non => absurd rfl ne
  | .non, .bl b2 => SeqAt.EqAt.none_bool b2
  | .non, .int b2 t2 => SeqAt.EqAt.none_int b2 t2
  | .non, .str b2 t2 => SeqAt.EqAt.none_str b2 t2
  | .non, .lst q2 => SeqAt.EqAt.none_list q2 hu
  | .non, .tup q2 => SeqAt.EqAt.none_tuple q2 hu
  | .non, .dic q2 => ea_non_d q2 hu 
  | .bl b1, .non => SeqAt.EqAt.bool_none b1
  | .bl b1, .bl b2 => absurd rfl ne
  | .bl b1, .int b2 t2 => absurd ⟨rfl, rfl⟩ nb
  | .bl b1, .str b2 t2 => SeqAt.EqAt.bool_str b1 b2 t2
  | .bl b1, .lst q2 => SeqAt.EqAt.bool_list b1 q2 hu
  | .bl b1, .tup q2 => SeqAt.EqAt.bool_tuple b1 q2 hu
  | .bl b1, .dic q2 => ea_bl_d q2 hu b1
  | .int b1 t1, .non => SeqAt.EqAt.int_none b1 t1
  | .int b1 t1, .bl b2 => absurd ⟨rfl, rfl⟩ nb'
  | .int b1 t1, .int b2 t2 => absurd rfl ne
  | .int b1 t1, .str b2 t2 => SeqAt.EqAt.int_str b1 t1 b2 t2
  | .int b1 t1, .lst q2 => SeqAt.EqAt.int_list b1 t1 q2 hu
  | .int b1 t1, .tup q2 => SeqAt.EqAt.int_tuple b1 t1 q2 hu
  | .int b1 t1, .dic q2 => ea_int_d q2 hu b1 t1
  | .str b1 t1, .non => SeqAt.EqAt.str_none b1 t1
  | .str b1 t1, .bl b2 => SeqAt.EqAt.str_bool b1 t1 b2
  | .str b1 t1, .int b2 t2 => SeqAt.EqAt.str_int b1 t1 b2 t2
  | .str b1 t1, .str b2 t2 => absurd rfl ne
  | .str b1 t1, .lst q2 => SeqAt.EqAt.str_list b1 t1 q2 hu
  | .str b1 t1, .tup q2 => SeqAt.EqAt.str_tuple b1 t1 q2 hu
  | .str b1 t1, .dic q2 => ea_str_d q2 hu b1 t1
  | .lst q1, .non => SeqAt.EqAt.list_none q1 hu
  | .lst q1, .bl b2 => SeqAt.EqAt.list_bool b2 q1 hu
  | .lst q1, .int b2 t2 => SeqAt.EqAt.list_int b2 t2 q1 hu
  | .lst q1, .str b2 t2 => SeqAt.EqAt.list_str b2 t2 q1 hu
  | .lst q1, .lst q2 => absurd rfl ne
  | .lst q1, .tup q2 => SeqAt.EqAt.list_tuple q1 q2 hu
  | .lst q1, .dic q2 => ea_lst_d q2 hu q1
  | .tup q1, .non => SeqAt.EqAt.tuple_none q1 hu
  | .tup q1, .bl b2 => SeqAt.EqAt.tuple_bool b2 q1 hu
  | .tup q1, .int b2 t2 => SeqAt.EqAt.tuple_int b2 t2 q1 hu
  | .tup q1, .str b2 t2 => SeqAt.EqAt.tuple_str b2 t2 q1 hu
  | .tup q1, .lst q2 => SeqAt.EqAt.tuple_list q1 q2 hu
  | .tup q1, .tup q2 => absurd rfl ne
  | .tup q1, .dic q2 => ea_tup_d q2 hu q1
  | .dic q1, .non => ea_d_non q1 hu 
  | .dic q1, .bl b2 => ea_d_bl q1 hu b2
  | .dic q1, .int b2 t2 => ea_d_int q1 hu b2 t2
  | .dic q1, .str b2 t2 => ea_d_str q1 hu b2 t2
  | .dic q1, .lst q2 => ea_d_lst q1 hu q2
  | .dic q1, .tup q2 => ea_d_tup q1 hu q2
  | .dic q1, .dic q2 => absurd rfl ne
def kdT : Dat → Option Nat
  | .non => some 0
  | .bl _ => some 1
  | .int _ => some 2
  | .str _ => some 3
  | .lst _ => some 4
  | .tup _ => some 5
  | .dic _ _ => some 6
  | _ => none
section
variable {X : Cx} {pins : List (Addr × Obj)} {σ : L2.St} {H : Hp} {s : Shared} {Z : Cz} {p : Pl}
theorem kd_of (I : Inv X pins σ H s) (hK : X.K = Z.K) {d : Dat} {i : Nat} {x : V} {v : Value} (h : IsD Z H p x d) (e : kdT d = some i) (r : RelV x v) : KD s v i := by
  cases d with
  | non => cases e; rw [isD_non.mp h] at r; cases r; exact .non
  | bl b => cases e; rw [isD_bl.mp h] at r; cases r; exact .bl b
  | int b => cases e; rw [isD_int.mp h] at r; obtain ⟨t, rfl⟩ := r; exact .int b t
  | str b => cases e; rw [isD_str.mp h] at r; obtain ⟨t, rfl⟩ := r; exact .str b t
  | lst ds =>
    cases e
    obtain ⟨a, vs, rfl, h1, _⟩ := isD_lst.mp h
    cases (show v = Value.ref a from r)
    have h1 := h1.sq
    rw [← hK] at h1
    obtain ⟨its, _, q, _⟩ := I.list h1
    exact .lst q.isList
  | tup ds =>
    cases e
    obtain ⟨a, vs, rfl, h1, _⟩ := isD_tup.mp h
    cases (show v = Value.ref a from r)
    have h1 := h1.sq
    rw [← hK] at h1
    obtain ⟨its, _, q, _⟩ := I.tuple h1
    exact .tup q
  | dic ks ds =>
    cases e
    obtain ⟨a, vs, rfl, h1, _⟩ := isD_dic.mp h
    cases (show v = Value.ref a from r)
    obtain ⟨_, _, ws, _, o, es, ep, ho, hx, hdt, _⟩ := dk_of I.hok h1.1
    refine .dic ?_
    obtain ⟨cls, dd, data, sl⟩ := o
    have hc : cls = .type "dict" := hx.1
    cases hc
    cases hdt
    exact ⟨dd, es, ep, sl, ho⟩
  | _ => cases e
end
end Zd
namespace Zd
open PySem PySem.Spec PyProof.Rows L2
/-- x in texts -/
def isS (w : Dat) (xs : List Str) : Bool := match w with
  | .str y => xs.any fun z => z == y
  | _ => false
def rInS (Z : Cz) (neg : Bool) : R2 := fun x y H Q => ∃ (p : Pl) (a : Addr) (d : Dat) (i : Nat) (xs : List Str), y = .ref a ∧ (SqT Z.K H a (xs.map V.str) ∨ SqL Z.K H a (xs.map V.str)) ∧ IsD Z H p x d ∧ kdT d = some i ∧ Q (.bl (neg != isS d xs)) H
def tokS (y : Value) (d : Dat) : Bool := match y, d with
  | .str z _, .str w => z == w
  | _, _ => false
theorem any_tok {d : Dat} : ∀ {xs : List Str} {us : List Value}, Vals (xs.map V.str) us → us.toArray.any (fun y => tokS y d) = isS d xs := by
  intro xs us r
  rw [List.any_toArray]
  induction xs generalizing us with
  | nil => cases r; cases d <;> rfl
  | cons x xs ih =>
    cases r with
    | cons h t =>
      obtain ⟨k, rfl⟩ := h
      rw [List.any_cons, ih t]
      cases d <;> first | rfl | simp [isS, tokS]
theorem tok_at {X : Cx} {pins : List (Addr × Obj)} {σ : L2.St} {H : Hp} {s : Shared} {Z : Cz} {p : Pl} (I : Inv X pins σ H s) (hK : X.K = Z.K) {A : Around} (hu : A.units < cLine) {d : Dat} {i : Nat} {x : V} {v : Value} (hx : IsD Z H p x d) (hi : kdT d = some i) (rx : RelV x v) {z : Str} {t : Tok} : SeqAt.EqAt A s (.str z t) v (tokS (.str z t) d) := by
  have k := kd_of I hK hx hi rx
  cases d with
  | str w =>
    have e1 := isD_str.mp hx
    subst e1
    obtain ⟨t2, rfl⟩ := rx
    exact .str_str z t w t2
  | _ => first | (cases hi; done) | (cases hi; exact ea_kinds hu (.str z t) k (by decide) (by decide) (by decide))
theorem op_inS {X : Cx} {Z : Cz} {neg : Bool} (hu : X.A.units + 70 < cLine) (hK : X.K = Z.K) : OpR X (compareOp (if neg then .NotIn else .In)) (rInS Z neg) := by
  intro pins s σ H x y v u Q I rx ry ⟨p, a, d, i, xs, ey, hy, hx, hi, k⟩
  subst ey
  cases (show u = Value.ref a from ry)
  have at_ : ∀ {us : List Value}, Vals (xs.map V.str) us → ∀ y, y ∈ us.toArray → SeqAt.EqAt X.A.in1 s y v (tokS y d) := fun {us} r y hm => by
    have hm : y ∈ us := by simpa using hm
    obtain ⟨j, lt, rfl⟩ := List.getElem_of_mem hm
    have lx : j < xs.length := by have := r.length; rw [List.length_map] at this; omega
    obtain ⟨w, g1, g2⟩ := r.get (i := j) (x := .str xs[j]) (by simp [lx])
    rw [List.getElem?_eq_getElem lt] at g1
    cases g1
    obtain ⟨t, e⟩ := (show ∃ t, us[j] = Value.str xs[j] t from g2)
    rw [e]
    exact tok_at I hK (by show X.A.units + 1 < cLine; omega) hx hi rx
  rcases hy with hy | hy
  · rw [← hK] at hy
    obtain ⟨its, rv, pt, _⟩ := I.tuple hy
    cases neg with
    | false =>
      refine SeqAt.in_tupleAt (fun y => tokS y d) pt (at_ rv) ?_
      rw [any_tok rv]
      rw [Bool.false_bne] at k
      exact ⟨.bl _, H, I, rfl, k⟩
    | true =>
      refine SeqAt.notIn_tupleAt (fun y => tokS y d) pt (at_ rv) ?_
      rw [any_tok rv]
      rw [Bool.true_bne] at k
      exact ⟨.bl _, H, I, rfl, k⟩
  · rw [← hK] at hy
    obtain ⟨its, rv, pt, _⟩ := I.list hy
    cases neg with
    | false =>
      refine SeqAt.in_listAt (fun y => tokS y d) pt.isList (at_ rv) ?_
      rw [any_tok rv]
      rw [Bool.false_bne] at k
      exact ⟨.bl _, H, I, rfl, k⟩
    | true =>
      refine SeqAt.notIn_listAt (fun y => tokS y d) pt.isList (at_ rv) ?_
      rw [any_tok rv]
      rw [Bool.true_bne] at k
      exact ⟨.bl _, H, I, rfl, k⟩
def dInS (neg : Bool) (d e : Dat) : M Dat := M.opt (kdT d) >>= fun _ => M.opt ((itemsOf e).bind strsD) >>= fun xs => pure (.bl (neg != isS d xs))
theorem r_inS {Z : Cz} {neg : Bool} : JR Z (IsD Z) (IsW Z) (IsD Z) (rInS Z neg) (dInS neg) := fun x y d e Er H p S Q hx hy s q => by
  obtain ⟨i, ei, q1⟩ := q.opt
  obtain ⟨xs, ex, q2⟩ := q1.opt
  clear q q1
  cases e with
  | tup ds =>
    have hy : IsD Z H p y (.tup ds) := hy
    obtain ⟨a, vs, rfl, h1, h2⟩ := isD_tup.mp hy
    have h1 := h1.sq
    rw [strsD_is h2 ex] at h1
    exact ⟨p, a, d, i, xs, rfl, .inl h1, hx, ei, q2.pure xE s _ (isD_bl.mpr rfl)⟩
  | lst ds =>
    obtain ⟨a, vs, rfl, h1, h2⟩ := hy
    have h1 := SqL.of (K := Z.K) h1.1
    rw [strsD_is h2 ex] at h1
    exact ⟨p, a, d, i, xs, rfl, .inr h1, hx, ei, q2.pure xE s _ (isD_bl.mpr rfl)⟩
  | _ => cases ex
end Zd
namespace Zd
open PySem PySem.Spec PyProof.Rows L2
mutual
def toPyD : Dat → Option PyData
  | .non => some .none
  | .bl b => some (.bool b)
  | .int i => some (.int i)
  | .str x => some (.str x)
  | .tup ds => (toPysD ds).map .tuple
  | .dic ks _ => if ks.isEmpty then some (.dict []) else none
  | _ => none
def toPysD : List Dat → Option (List PyData)
  | [] => some []
  | d :: ds => (toPyD d).bind fun x => (toPysD ds).map (x :: ·)
end
section
variable {X : Cx} {pins : List (Addr × Obj)} {σ : L2.St} {H : Hp} {s : Shared} {Z : Cz} {p : Pl}
theorem d0_reads {a : Addr} (I : Inv X pins σ H s) (ea : H a = some (.dK [])) : ∃ as, Reads s.heap (.ref a) (.dict []) as ∧ sysModules ∉ as := by
  obtain ⟨_, nsm, vs, hkv, o, es, ep, ho, ⟨hc, _, _⟩, hdat, _, hp, _⟩ := (I.hok a _ ea : ObjOk X.prog X.w H s.heap a (.dK []))
  cases hkv
  have e0 : es.toList = [] := by
    generalize es.toList = l at hp
    cases hp
    rfl
  refine ⟨_, Reads.dict (as := []) (bs := []) ho hc hdat (by rw [e0]; exact .nil) (by rw [e0]; exact .nil), fun hm => ?_⟩
  rw [List.append_nil, List.mem_singleton] at hm
  rw [← hm] at nsm
  simp at nsm
mutual
theorem IsD.readsD (I : Inv X pins σ H s) (hK : X.K = Z.K) : ∀ (d : Dat) {v : V} {y : PyData} {u : Value}, IsD Z H p v d → toPyD d = some y → RelV v u → ∃ as, Reads s.heap u y as ∧ sysModules ∉ as
  | .non, _, _, _, h, e, r => by rw [toPyD] at e; cases e; rw [isD_non.mp h] at r; cases r; exact ⟨_, .none, List.not_mem_nil⟩
  | .bl b, _, _, _, h, e, r => by rw [toPyD] at e; cases e; rw [isD_bl.mp h] at r; cases r; exact ⟨_, .bool b, List.not_mem_nil⟩
  | .int i, _, _, _, h, e, r => by rw [toPyD] at e; cases e; rw [isD_int.mp h] at r; obtain ⟨t, rfl⟩ := r; exact ⟨_, .int i t, List.not_mem_nil⟩
  | .str x, _, _, _, h, e, r => by rw [toPyD] at e; cases e; rw [isD_str.mp h] at r; obtain ⟨t, rfl⟩ := r; exact ⟨_, .str x t, List.not_mem_nil⟩
  | .tup ds, _, y, u, h, e, r => by
    obtain ⟨a, vs, rfl, h1, h2⟩ := isD_tup.mp h
    cases (show u = Value.ref a from r)
    rw [toPyD] at e
    cases e2 : toPysD ds with
    | none => rw [e2] at e; cases e
    | some ys =>
      rw [e2] at e
      cases e
      have h1 := h1.sq
      rw [← hK] at h1
      obtain ⟨its, rv, ⟨o, eo, co, n, dn⟩, _⟩ := I.tuple h1
      obtain ⟨as, q, no⟩ := IsDs.readsD I hK ds h2 e2 rv
      exact ⟨_, .tuple eo co dn q, no⟩
  | .dic ks ds, _, _, u, h, e, r => by
    obtain ⟨a, vs, rfl, h1, hl, h2⟩ := isD_dic.mp h
    cases (show u = Value.ref a from r)
    rw [toPyD] at e
    cases ks with
    | nil => cases e; exact d0_reads I h1.1
    | cons _ _ => cases e
  | .lst _, _, _, _, _, e, _ => by rw [toPyD] at e <;> first | cases e | nofun
  | .obj _ _ _, _, _, _, _, e, _ => by rw [toPyD] at e <;> first | cases e | nofun
  | .loc _, _, _, _, _, e, _ => by rw [toPyD] at e <;> first | cases e | nofun
  | .ty _, _, _, _, _, e, _ => by rw [toPyD] at e <;> first | cases e | nofun
  | .cls _, _, _, _, _, e, _ => by rw [toPyD] at e <;> first | cases e | nofun
  | .scr _, _, _, _, _, e, _ => by rw [toPyD] at e <;> first | cases e | nofun
theorem IsDs.readsD (I : Inv X pins σ H s) (hK : X.K = Z.K) : ∀ (ds : List Dat) {vs : List V} {ys : List PyData} {us : List Value}, IsDs Z H p vs ds → toPysD ds = some ys → Vals vs us → ∃ as, ReadsAll s.heap us ys as ∧ sysModules ∉ as
  | [], _, _, _, h, e, r => by rw [toPysD] at e; cases e; rw [isDs_nil.mp h] at r; cases r; exact ⟨_, .nil, List.not_mem_nil⟩
  | d :: ds, _, ys, _, h, e, r => by
    obtain ⟨v, vr, rfl, h1, h2⟩ := isDs_cons.mp h
    rw [toPysD] at e
    cases e1 : toPyD d with
    | none => rw [e1] at e; cases e
    | some x =>
      cases e2 : toPysD ds with
      | none => rw [e1, e2] at e; cases e
      | some xs =>
        rw [e1, e2] at e
        cases e
        cases r with
        | cons r1 r2 =>
          obtain ⟨as, q1, n1⟩ := IsD.readsD I hK d h1 e1 r1
          obtain ⟨bs, q2, n2⟩ := IsDs.readsD I hK ds h2 e2 r2
          exact ⟨_, .cons q1 q2, fun hm => (List.mem_append.mp hm).elim n1 n2⟩
end
end
def okShowD (y : PyData) : Bool := y.showable && decide (y.depth ≤ 64) && decide (y.shown.length ≤ sizeLine)
def isRf : Dat → Bool
  | .tup _ => true
  | .dic _ _ => true
  | _ => false
theorem rf_is {H : Hp} {Z : Cz} {p : Pl} {d : Dat} {x : V} (h : IsD Z H p x d) (r : isRf d = true) : ∃ a, x = .ref a := by
  cases d with
  | tup _ => obtain ⟨a, _, e, _⟩ := isD_tup.mp h; exact ⟨a, e⟩
  | dic _ _ => obtain ⟨a, _, e, _⟩ := isD_dic.mp h; exact ⟨a, e⟩
  | _ => cases r
def rRepr2 (Z : Cz) : List V → Hp → VK → Prop := fun xs H Q => Zg.rReprD Z.K xs H Q ∨ ∃ (p : Pl) (d : Dat) (x : V) (y : PyData), xs = [x] ∧ IsD Z H p x d ∧ isRf d = true ∧ toPyD d = some y ∧ okShowD y = true ∧ Q (.str y.shown) H
theorem call_repr2 {X : Cx} {Z : Cz} (hg : Zg.Calm X.A) (hu : X.A.units + 70 < cLine) (hK : X.K = Z.K) : CallR X (.builtin "repr") (rRepr2 Z) := by
  intro pins s σ H xs us Q I r h
  rcases h with h | ⟨p, d, x, y, rfl, hx, rf, e, ok, q⟩
  · rw [← hK] at h
    exact Zg.call_reprD hg hu pins s σ H xs us Q I r h
  · unfold okShowD at ok
    simp only [Bool.and_eq_true, decide_eq_true_eq] at ok
    obtain ⟨u, rfl, rx⟩ := vals1 r
    obtain ⟨a, rfl⟩ := rf_is hx rf
    obtain ⟨as, rd, no⟩ := IsD.readsD I hK d hx e rx
    cases (show u = Value.ref a from rx)
    exact repr_of_reads' rd ok.1.1 (fun _ => no) hg (by omega) (fun _ _ e => e) (fun h' u tk hk => ⟨.str _, H, I.kept (t' := tk) hk, ⟨_, rfl⟩, q⟩) ok.2
def dRepr2 (ds : List Dat) : M Dat := match ds with
  | [d] => match toPy d with
    | some y => M.need (okShow y) >>= fun _ => pure (.str y.shown)
    | none => M.need (isRf d) >>= fun _ => M.opt (toPyD d) >>= fun y => M.need (okShowD y) >>= fun _ => pure (.str y.shown)
  | _ => M.no
theorem c_repr2 {Z : Cz} : JC Z (IsDs Z) (IsD Z) (rRepr2 Z) dRepr2 := fun x ds Er H p S Q hx s q => by
  match ds, hx, q with
  | [d], hx, q =>
    obtain ⟨v, rfl, hv⟩ := isDs_one hx
    cases e : toPy d with
    | some y =>
      have q : Post Z Er ExtE ((M.need (okShow y) >>= fun _ => pure (Dat.str y.shown)) S) H p (fun a _ H' p' => ∀ v, IsD Z H' p' v a → Q v H') := by
        unfold dRepr2 at q
        simp only [e] at q
        exact q
      obtain ⟨c, q⟩ := q.need
      unfold okShow at c
      simp only [Bool.and_eq_true, decide_eq_true_eq, Bool.not_eq_true'] at c
      refine .inl ⟨v, y, rfl, hv.dp _ e, c.1.1.1.1, c.1.1.1.2, c.1.1.2, c.1.2, fun i z => ?_, q.pure xE s _ (isD_str.mpr rfl)⟩
      subst z
      have hd := hv.dp _ e
      cases hd
      have c2 := c.2
      simp only [decide_eq_true_eq] at c2
      exact c2
    | none =>
      have q : Post Z Er ExtE ((M.need (isRf d) >>= fun _ => M.opt (toPyD d) >>= fun y => M.need (okShowD y) >>= fun _ => pure (Dat.str y.shown)) S) H p (fun a _ H' p' => ∀ v, IsD Z H' p' v a → Q v H') := by
        unfold dRepr2 at q
        simp only [e] at q
        exact q
      obtain ⟨c, q⟩ := q.need
      obtain ⟨y, ey, q⟩ := q.opt
      obtain ⟨c2, q⟩ := q.need
      exact .inr ⟨p, d, v, y, rfl, hv, c, ey, c2, q.pure xE s _ (isD_str.mpr rfl)⟩
  | [], _, q => exact (bad_no (S := S) q).elim
  | _ :: _ :: _, _, q => exact (bad_no (S := S) q).elim
end Zd
namespace Zd
open PySem PySem.Spec PyProof.Rows L2 Zg
theorem nin {i : Nat} : i ∉ ([] : List Nat) := List.not_mem_nil
theorem lt_units {n : Nat} (h : n + 64 < cLine) : n + 1 < cLine := by omega
theorem hu70 {k : Nat} {A : Around} (r : Room k A) : A.units + 70 < cLine := by
  have := r.un
  omega
def Cal (P : Program) (w : World) (K : PySem.W.Frag) (mg : Str → Option Value) (base : Heap) (k : Nat) (x : Str) (ps : List Str) (sp : Sp) : Prop :=
  ∃ (f : Addr) (fd : FuncData), FnOk P w K mg base CX0 k f fd ps sp ∧ Binds K fd ps [] ∧ mg x = some (.ref f) ∧ PySem.W.keepIn K (.ref f) = true
/-- builtins whose names the module leaves alone -/
structure TxD (mg : Str → Option Value) : Prop where
  n_int : mg "int" = none
  n_len : mg "len" = none
  n_abs : mg "abs" = none
  n_bool : mg "bool" = none
  n_tuple : mg "tuple" = none
  n_isinstance : mg "isinstance" = none
  n_range : mg "range" = none
  n_max : mg "max" = none
  n_min : mg "min" = none
  n_all : mg "all" = none
  n_repr : mg "repr" = none
  n_str : mg "str" = none
  n_any : mg "any" = none
  n_list : mg "list" = none
  n_zip : mg "zip" = none
  n_enumerate : mg "enumerate" = none
def strsT (xs : List Str) : Dat := .tup (xs.map .str)
theorem strs_of {Z : Cz} {H : Hp} {p : Pl} : ∀ {xs : List Str}, IsDs Z H p (xs.map V.str) (xs.map Dat.str)
  | [] => isDs_nil.mpr rfl
  | x :: xs => isDs_cons.mpr ⟨_, _, rfl, isD_str.mpr rfl, strs_of⟩
/-- a module's tuple of texts -/
structure GTup (K : PySem.W.Frag) (mg : Str → Option Value) (nm : Str) (a : Addr) (xs : List Str) : Prop where
  g : mg nm = some (.ref a)
  sq : TupC K a (xs.map V.str)
theorem GTup.isD {K : PySem.W.Frag} {mg : Str → Option Value} {nm : Str} {a : Addr} {xs : List Str} (h : GTup K mg nm a xs) {κ : String → Addr} (H : Hp) (p : Pl) : IsD ⟨K, κ⟩ H p (.ref a) (strsT xs) := isD_tup.mpr ⟨a, _, rfl, .inr h.sq, strs_of⟩
def strsOf : List Value → Option (List Str)
  | [] => some []
  | .str x _ :: r => (strsOf r).map (x :: ·)
  | _ :: _ => none
theorem vals_strsOf : ∀ {us : List Value} {xs : List Str}, strsOf us = some xs → Vals (xs.map V.str) us
  | [], xs, h => by cases h; exact .nil
  | u :: r, xs, h => by
    cases u with
    | str x t =>
      unfold strsOf at h
      cases q : strsOf r with
      | none => rw [q] at h; cases h
      | some ys => rw [q] at h; cases h; exact .cons ⟨t, rfl⟩ (vals_strsOf q)
    | _ => cases h
/-- the texts of a written tuple -/
def tupW (K : PySem.W.Frag) (a : Addr) : Option (List Str) := match K.lookup a with
  | some ⟨.type c, none, .seq its _, _⟩ => if decide (c = "tuple") = true then strsOf its.toList else none
  | _ => none
theorem tupW_sq {K : PySem.W.Frag} {a : Addr} {xs : List Str} (h : tupW K a = some xs) (l : xs.length ≤ 100) : TupC K a (xs.map V.str) := by
  unfold tupW at h
  split at h
  · rename_i c its n sl hl
    by_cases hc : c = "tuple"
    · rw [if_pos (decide_eq_true hc)] at h
      subst hc
      refine ⟨_, its, n, hl, rfl, rfl, rfl, ?_, vals_strsOf h⟩
      have z := (vals_strsOf h).length
      rw [List.length_map] at z
      have : its.size = its.toList.length := by simp
      have sz := sizeLine_eq
      omega
    · rw [if_neg (by rw [decide_eq_true_eq]; exact hc)] at h
      cases h
  · cases h
section
variable {Z : Cz} {Er : ErW} {O : List Nat} {vs : Option (List Nat)} {te ta tb tc : TE} {tt tu : TT} {m m1 m2 m3 : Env → M Dat} {mb mc : Env → M Bool} {tl : TA} {ml : Env → M (List Dat)} {ts tr : TS} {ms mr : Env → M Flow}
def iRg1 (l : Env → M (List Dat)) (ρ : Env) : M (List Dat) := l ρ >>= fun ds => match ds with
  | [.int j] => M.need (decide (-(2 ^ 62) ≤ j ∧ j < 2 ^ 62)) >>= fun _ => pure (intsD 0 j.toNat)
  | _ => M.no
theorem ji_rg1 {X : XR} (hl : JA Z Er O tl ml) : JI Z Er O X (iRng1 tl) (iRg1 ml) := ji_rng1 hl
end
theorem m0_isascii {x : Str} {H : Hp} {Q : VK} (h : Q (.bl (Txt.isascii x)) H) : ∃ a, V.str x = .str a ∧ ([] : List V) = [] ∧ True ∧ Q (.bl (Txt.isascii a)) H := ⟨x, rfl, rfl, trivial, h⟩
theorem m0_isalpha {x : Str} {H : Hp} {Q : VK} (h : Q (.bl (Txt.isalpha x)) H) : ∃ a, V.str x = .str a ∧ ([] : List V) = [] ∧ True ∧ Q (.bl (Txt.isalpha a)) H := ⟨x, rfl, rfl, trivial, h⟩
theorem m0_islower {x : Str} {H : Hp} {Q : VK} (h : Q (.bl (Txt.islower x)) H) : ∃ a, V.str x = .str a ∧ ([] : List V) = [] ∧ True ∧ Q (.bl (Txt.islower a)) H := ⟨x, rfl, rfl, trivial, h⟩
end Zd
namespace Zg
open PySem PySem.Spec PyProof.Rows L2
section
variable {X : Cx} {pins : List (Addr × Obj)} {σ : L2.St} {H : Hp} {s : Shared}
/-- what is kept behind: the context with the error pinned -/
abbrev kept (X : Cx) (a : Addr) (oe : Obj) (pn : List (Addr × Obj)) : Cx := X.tr ((a, oe) :: pn) X.xe
end
end Zg
namespace Zd
open PySem PySem.Spec PyProof.Rows L2
mutual
def noLoc : Dat → Bool
  | .loc _ => false
  | .tup ds => noLocs ds
  | .lst ds => noLocs ds
  | .dic _ ds => noLocs ds
  | .obj _ _ ds => noLocs ds
  | _ => true
def noLocs : List Dat → Bool
  | [] => true
  | d :: ds => noLoc d && noLocs ds
end
def frzs (f : Dat → Option Dat) : List Dat → Option (List Dat)
  | [] => some []
  | d :: ds => match f d with
    | some e => match frzs f ds with
      | some es => some (e :: es)
      | none => none
    | none => none
def frz (S : List Dat) : Nat → Dat → Option Dat
  | 0, _ => none
  | n + 1, d => match d with
    | .loc k => match S[k]? with
      | some t => frz S n t
      | none => none
    | .tup ds => match frzs (frz S n) ds with
      | some es => some (.tup es)
      | none => none
    | .lst ds => match frzs (frz S n) ds with
      | some es => some (.lst es)
      | none => none
    | .dic ks ds => match frzs (frz S n) ds with
      | some es => some (.dic ks es)
      | none => none
    | .obj c fs ds => match frzs (frz S n) ds with
      | some es => some (.obj c fs es)
      | none => none
    | .non => some .non
    | .bl b => some (.bl b)
    | .int i => some (.int i)
    | .str x => some (.str x)
    | .ty x => some (.ty x)
    | .cls x => some (.cls x)
    | .scr x => some (.scr x)
section
variable {Z : Cz} {H : Hp} {p pc : Pl} {S : List Dat}
mutual
theorem IsD.still (hs : ∀ a, pc.has a → p.has a) : ∀ (d : Dat) {v : V}, noLoc d = true → IsD Z H p v d → IsD Z H pc v d
  | .non, _, _, h => isD_non.mpr (isD_non.mp h)
  | .bl b, _, _, h => isD_bl.mpr (isD_bl.mp h)
  | .int i, _, _, h => isD_int.mpr (isD_int.mp h)
  | .str x, _, _, h => isD_str.mpr (isD_str.mp h)
  | .ty n, _, _, h => isD_ty.mpr (isD_ty.mp h)
  | .cls c, _, _, h => by unfold IsD at h ⊢; exact h
  | .scr ns, _, _, h => by
    obtain ⟨a, e, h⟩ := isD_scr.mp h
    exact isD_scr.mpr ⟨a, e, h.imp (fun q => ⟨q.1, fun z => q.2 (hs a z)⟩) id⟩
  | .tup ds, _, n, h => by
    obtain ⟨a, vs, e, h1, h2⟩ := isD_tup.mp h
    exact isD_tup.mpr ⟨a, vs, e, h1.imp (fun q => ⟨q.1, fun z => q.2 (hs a z)⟩) id, IsDs.still hs ds (by rw [noLoc] at n; exact n) h2⟩
  | .lst ds, _, n, h => by
    obtain ⟨a, vs, e, h1, h2⟩ := isD_lst.mp h
    exact isD_lst.mpr ⟨a, vs, e, ⟨h1.1, fun z => h1.2 (hs a z)⟩, IsDs.still hs ds (by rw [noLoc] at n; exact n) h2⟩
  | .dic ks ds, _, n, h => by
    obtain ⟨a, vs, e, h1, hl, h2⟩ := isD_dic.mp h
    exact isD_dic.mpr ⟨a, vs, e, ⟨h1.1, fun z => h1.2 (hs a z)⟩, hl, IsDs.still hs ds (by rw [noLoc] at n; exact n) h2⟩
  | .obj c fs ds, _, n, h => by
    obtain ⟨a, vs, e, h1, hl, h2⟩ := isD_obj.mp h
    exact isD_obj.mpr ⟨a, vs, e, ⟨h1.1, fun z => h1.2 (hs a z)⟩, hl, IsDs.still hs ds (by rw [noLoc] at n; exact n) h2⟩
  | .loc k, _, n, h => by cases n
theorem IsDs.still (hs : ∀ a, pc.has a → p.has a) : ∀ (ds : List Dat) {vs : List V}, noLocs ds = true → IsDs Z H p vs ds → IsDs Z H pc vs ds
  | [], _, _, h => isDs_nil.mpr (isDs_nil.mp h)
  | d :: ds, _, n, h => by
    obtain ⟨v, r, e, h1, h2⟩ := isDs_cons.mp h
    rw [noLocs, Bool.and_eq_true] at n
    exact isDs_cons.mpr ⟨v, r, e, IsD.still hs d n.1 h1, IsDs.still hs ds n.2 h2⟩
end
theorem frzs_is {f : Dat → Option Dat} (hf : ∀ d e v, f d = some e → IsD Z H p v d → IsD Z H pc v e) : ∀ (ds : List Dat) {es : List Dat} {vs : List V}, frzs f ds = some es → IsDs Z H p vs ds → IsDs Z H pc vs es
  | [], _, _, e, h => by cases e; exact isDs_nil.mpr (isDs_nil.mp h)
  | d :: ds, _, _, e, h => by
    obtain ⟨v, r, ev, h1, h2⟩ := isDs_cons.mp h
    unfold frzs at e
    split at e
    · rename_i e1 q1
      split at e
      · rename_i es1 q2
        cases e
        exact isDs_cons.mpr ⟨v, r, ev, hf _ _ _ q1 h1, frzs_is hf ds q2 h2⟩
      · cases e
    · cases e
theorem frz_is (s : IsS Z H p S) (hs : ∀ a, pc.has a → p.has a ∧ a ∉ p.α) : ∀ (n : Nat) (d e : Dat) (v : V), frz S n d = some e → (IsD Z H p v d → IsD Z H pc v e) ∧ (∀ a, v = .ref a → ¬ pc.has a → IsTop Z H p a d → IsD Z H pc v e)
  | 0, _, _, _, h => by cases h
  | n + 1, d, e, v, h => by
    have ih := frz_is s hs n
    have its : ∀ (ds : List Dat) (es : List Dat) (vs : List V), frzs (frz S n) ds = some es → IsDs Z H p vs ds → IsDs Z H pc vs es := fun ds es vs h k => frzs_is (fun d e v h k => (ih d e v h).1 k) ds h k
    have nh : ∀ a, ¬ p.has a → ¬ pc.has a := fun a h z => h (hs a z).1
    cases d with
    | loc k =>
      unfold frz at h
      refine ⟨fun g => ?_, fun a _ _ g => g.elim⟩
      obtain ⟨a, ev, ha⟩ := isD_loc.mp g
      dsimp only at h
      split at h
      · rename_i t et
        exact (ih t e v h).2 a ev (fun z => (hs a z).2 (List.mem_of_getElem? ha)) (s.at_ k a t ha et)
      · cases h
    | tup ds =>
      unfold frz at h
      dsimp only at h
      split at h
      · rename_i es ee
        cases h
        refine ⟨fun g => ?_, fun a _ _ g => g.elim⟩
        obtain ⟨a, vs, ev, h1, h2⟩ := isD_tup.mp g
        exact isD_tup.mpr ⟨a, vs, ev, h1.imp (fun q => ⟨q.1, nh a q.2⟩) id, its _ _ _ ee h2⟩
      · cases h
    | lst ds =>
      unfold frz at h
      dsimp only at h
      split at h
      · rename_i es ee
        cases h
        refine ⟨fun g => ?_, fun a ev na g => ?_⟩
        · obtain ⟨a, vs, ev, h1, h2⟩ := isD_lst.mp g
          exact isD_lst.mpr ⟨a, vs, ev, ⟨h1.1, nh a h1.2⟩, its _ _ _ ee h2⟩
        · obtain ⟨vs, h1, h2⟩ := g
          exact isD_lst.mpr ⟨a, vs, ev, ⟨h1, na⟩, its _ _ _ ee h2⟩
      · cases h
    | dic ks ds =>
      unfold frz at h
      dsimp only at h
      split at h
      · rename_i es ee
        cases h
        refine ⟨fun g => ?_, fun a ev na g => ?_⟩
        · obtain ⟨a, vs, ev, h1, hl, h2⟩ := isD_dic.mp g
          exact isD_dic.mpr ⟨a, vs, ev, ⟨h1.1, nh a h1.2⟩, hl, its _ _ _ ee h2⟩
        · obtain ⟨vs, h1, hl, h2⟩ := g
          exact isD_dic.mpr ⟨a, vs, ev, ⟨h1, na⟩, hl, its _ _ _ ee h2⟩
      · cases h
    | obj c fs ds =>
      unfold frz at h
      dsimp only at h
      split at h
      · rename_i es ee
        cases h
        refine ⟨fun g => ?_, fun a ev na g => ?_⟩
        · obtain ⟨a, vs, ev, h1, hl, h2⟩ := isD_obj.mp g
          exact isD_obj.mpr ⟨a, vs, ev, ⟨h1.1, nh a h1.2⟩, hl, its _ _ _ ee h2⟩
        · obtain ⟨dx, vs, h1, hl, h2⟩ := g
          exact isD_obj.mpr ⟨a, vs, ev, ⟨⟨dx, h1⟩, na⟩, hl, its _ _ _ ee h2⟩
      · cases h
    | non => cases h; exact ⟨fun g => isD_non.mpr (isD_non.mp g), fun a _ _ g => g.elim⟩
    | bl b => cases h; exact ⟨fun g => isD_bl.mpr (isD_bl.mp g), fun a _ _ g => g.elim⟩
    | int i => cases h; exact ⟨fun g => isD_int.mpr (isD_int.mp g), fun a _ _ g => g.elim⟩
    | str x => cases h; exact ⟨fun g => isD_str.mpr (isD_str.mp g), fun a _ _ g => g.elim⟩
    | ty x => cases h; exact ⟨fun g => isD_ty.mpr (isD_ty.mp g), fun a _ _ g => g.elim⟩
    | cls x => cases h; exact ⟨fun g => by unfold IsD at g ⊢; exact g, fun a _ _ g => g.elim⟩
    | scr x =>
      cases h
      refine ⟨fun g => ?_, fun a _ _ g => g.elim⟩
      obtain ⟨a, e, h⟩ := isD_scr.mp g
      exact isD_scr.mpr ⟨a, e, h.imp (fun q => ⟨q.1, nh a q.2⟩) id⟩
end
/-- a call in an empty store -/
def callF (F : List Dat → M Dat) (ds : List Dat) : M Dat := fun S => match noLocs ds with
  | true => match F ds [] with
    | .ok d S' => match frz S' 40 d with
      | some e => .ok e S
      | none => .bad
    | .er c fs S' => match frzs (frz S' 40) fs with
      | some es => .er c es S
      | none => .bad
    | .bad => .bad
  | false => .bad
/-- a def that is called in some way -/
def Via (Z : Cz) (n : Nat) (F G : List Dat → M Dat) : Prop := ∀ (Er : ErW) (H : Hp) (p : Pl) (S : List Dat) (vs : List V) (ds : List Dat) (Q : VK) (E : XK), vs.length = n → IsDs Z H p vs ds → IsS Z H p S →
  Post Z Er ExtE (calm (G ds) S) H p (fun d _ H' p' => ∀ v, IsD Z H' p' v d → Q v H') → spD Z n F vs H Q E
section
variable {Z : Cz} {Er : ErW} {O : List Nat} {te ta tb : TE} {ts : TS} {tl : TA} {m m1 m2 : Env → M Dat} {ml : Env → M (List Dat)} {ms : Env → M Flow}
theorem via_id {n : Nat} {F : List Dat → M Dat} : Via Z n F F := fun _ _ _ _ _ _ _ _ hn hd hS q => call_sp hn hd hS q
abbrev allP (p : Pl) : Pl := ⟨[], [], p.γ ++ p.ω ++ p.α⟩
theorem allP_has {p : Pl} {a : Addr} : (allP p).has a ↔ p.has a := by
  unfold Pl.has
  constructor
  · rintro (h | h | h)
    · cases h
    · cases h
    · rcases List.mem_append.mp h with h | h
      · rcases List.mem_append.mp h with h | h
        · exact .inr (.inr h)
        · exact .inr (.inl h)
      · exact .inl h
  · rintro (h | h | h)
    · exact .inr (.inr (List.mem_append_right _ h))
    · exact .inr (.inr (List.mem_append_left _ (List.mem_append_right _ h)))
    · exact .inr (.inr (List.mem_append_left _ (List.mem_append_left _ h)))
theorem allP_s {H : Hp} {p : Pl} {S : List Dat} (s : IsS Z H p S) : IsS Z H (allP p) [] :=
  ⟨rfl, List.nodup_nil, nofun, nofun, fun a h => s.tracked (allP_has.mp (.inr h)), fun n a d h _ => by simp at h⟩
/-- behind a call in an empty store all stands as it stood -/
theorem allP_back {H H' : Hp} {p p' : Pl} {S S' : List Dat} (s : IsS Z H p S) (e : ExtE H (allP p) H' p') (s' : IsS Z H' p' S') : Same H H' ∧ ∀ a, p.has a → p'.has a ∧ a ∉ p'.α := by
  refine ⟨fun b u h => e.k b u h List.not_mem_nil, fun a h => ?_⟩
  have g : a ∈ p'.γ := by
    rw [e.γ]
    rcases allP_has.mpr h with h | h | h
    · cases h
    · cases h
    · exact h
  exact ⟨.inr (.inr g), s'.dg a g⟩
theorem via_F {n : Nat} {F : List Dat → M Dat} : Via Z n F (callF F) := fun Er H p S vs ds Q E hn hd hS q => by
  unfold calm callF at q
  cases nl : noLocs ds with
  | false => rw [nl] at q; exact q.elim
  | true =>
    rw [nl] at q
    refine ⟨hn, allP p, ds, [], rfl, IsDs.still (fun a h => allP_has.mp h) ds nl hd, allP_s hS, ?_⟩
    cases eF : F ds [] with
    | bad => rw [eF] at q; exact q.elim
    | er c fs S' =>
      rw [eF] at q
      dsimp only at q
      split at q
      · rename_i z; split at z <;> cases z
      · exact q.elim
    | ok d S' =>
      rw [eF] at q
      dsimp only at q
      cases ez : frz S' 40 d with
      | none => rw [ez] at q; exact q.elim
      | some e =>
        rw [ez] at q
        intro H' p' ee s v hv
        obtain ⟨sm, hs⟩ := allP_back hS ee s
        exact q H' p (ExtE.same sm) (hS.ext sm) v ((frz_is s hs 40 d e v ez).1 hv)
theorem j_callV {F G : List Dat → M Dat} {n : Nat} {E : XK} (V : Via Z n F G) (hl : JA Z Er O tl ml) (hn : ∀ ρ S ds S', ml ρ S = .ok ds S' → ds.length = n) : JD Z Er O (tCall (spD Z n F) [] E tl) (xCall G ml) := fun σ H p ρ S Q hE hS q => by
  refine hl σ H p ρ S _ hE hS ?_
  have q2 := q.bnd xE
  unfold Post at q2 ⊢
  cases z : ml ρ S with
  | ok ds S1 =>
    rw [z] at q2
    intro H1 p1 e1 s1 vs hv
    have hlen := hn ρ S ds S1 z
    show spD Z n F (vs ++ []) H1 Q E
    rw [List.append_nil]
    exact V Er H1 p1 S1 vs ds Q E (hv.len.trans hlen) hv s1 (q2 H1 p1 e1 s1)
  | er c fs S1 => rw [z] at q2; exact q2
  | bad => rw [z] at q2; exact q2
def insD (S : List Dat) : Dat → Option (String × List Str)
  | .obj c fs _ => some (c, fs)
  | .loc n => match S[n]? with
    | some (.obj c fs _) => some (c, fs)
    | _ => none
  | _ => none
theorem ins_is {H : Hp} {p : Pl} {S : List Dat} {v : V} {d : Dat} {c : String} {fs : List Str} (s : IsS Z H p S) (hv : IsD Z H p v d) (e : insD S d = some (c, fs)) : ∃ a dx vs, v = .ref a ∧ H a = some (.ins (Z.κ c) dx (fs.zip vs)) := by
  unfold insD at e
  split at e
  · cases e
    obtain ⟨a, vs, rfl, ⟨⟨dx, h1⟩, _⟩, _, _⟩ := isD_obj.mp hv
    exact ⟨a, dx, vs, rfl, h1⟩
  · split at e
    · rename_i et
      cases e
      obtain ⟨a, rfl, ha⟩ := isD_loc.mp hv
      obtain ⟨dx, vs, h1, _, _⟩ := s.at_ _ a _ ha et
      exact ⟨a, dx, vs, rfl, h1⟩
    · cases e
  · cases e
/-- C(..) in some way -/
def MkVia (Z : Cz) (c : String) (n : Nat) (F G : List Dat → M Dat) : Prop := ∀ (Er : ErW) (H : Hp) (p : Pl) (S : List Dat) (vs : List V) (ds : List Dat) (Q : VK) (E : XK), vs.length = n → IsDs Z H p vs ds → IsS Z H p S →
  Post Z Er ExtE (calm (G ds) S) H p (fun d _ H' p' => ∀ v, IsD Z H' p' v d → Q v H') → ∀ x dx, H x = none → H dx = none → dx ≠ x → spD Z (n + 1) F (.ref x :: vs) (L2.upd (L2.upd H dx (.own x)) x (.ins (Z.κ c) dx [])) (fun v H2 => v = .non ∧ Q (.ref x) H2) E
theorem mk_id {c : String} {n : Nat} {F : List Dat → M Dat} : MkVia Z c n F (mkNew c F) := fun Er H p S vs ds Q E hn hd hS q x dx nx nd ne => by
  obtain ⟨e2, s2⟩ := push_loc hS nx nd ne c rfl
  have q3 := q.calm Er
  have q4 : Post Z Er ExtE ((calm (F (.loc S.length :: ds)) >>= fun r => M.need (isNon r) >>= fun _ => pure (Dat.loc S.length)) (S ++ [.obj c [] []])) H p _ := q3
  have q5 := (q4.up xE e2).bnd xE
  have hx : IsD Z (L2.upd (L2.upd H dx (.own x)) x (.ins (Z.κ c) dx [])) ⟨p.α ++ [x], p.ω, p.γ⟩ (.ref x) (.loc S.length) := (isD_loc (Z := Z)).mpr ⟨x, rfl, by rw [← hS.len]; simp⟩
  refine call_sp (S := S ++ [.obj c [] []]) (ds := .loc S.length :: ds) (by rw [List.length_cons, hn]) (isDs_cons.mpr ⟨.ref x, vs, rfl, hx, hd.ext e2.s⟩) s2 (q5.mono fun d S3 H3 p3 e3 s3 q6 v hv3 => ?_)
  obtain ⟨cn, q7⟩ := q6.need
  rw [isNon_is cn] at hv3
  exact ⟨isD_non.mp hv3, q7.pure xE s3 (.ref x) (hx.ext e3.s)⟩
theorem mk_F {c : String} {n : Nat} {F : List Dat → M Dat} : MkVia Z c n F (callF (mkNew c F)) := fun Er H p S vs ds Q E hn hd hS q x dx nx nd ne => by
  unfold calm callF at q
  cases nl : noLocs ds with
  | false => rw [nl] at q; exact q.elim
  | true =>
    rw [nl] at q
    refine mk_id (fun _ _ _ _ _ _ => False) H (allP p) [] vs ds Q E hn (IsDs.still (fun a h => allP_has.mp h) ds nl hd) (allP_s hS) ?_ x dx nx nd ne
    unfold calm
    cases eF : mkNew c F ds [] with
    | bad => rw [eF] at q; exact q.elim
    | er c fs S' =>
      rw [eF] at q
      dsimp only at q
      split at q
      · rename_i z; split at z <;> cases z
      · exact q.elim
    | ok d S' =>
      rw [eF] at q
      dsimp only at q
      cases ez : frz S' 40 d with
      | none => rw [ez] at q; exact q.elim
      | some e =>
        rw [ez] at q
        intro H' p' ee s v hv
        obtain ⟨sm, hs⟩ := allP_back hS ee s
        exact q H' p (ExtE.same sm) (hS.ext sm) v ((frz_is s hs 40 d e v ez).1 hv)
theorem j_makeV {c : String} {F G : List Dat → M Dat} {n : Nat} {E : XK} (V : MkVia Z c n F G) (hl : JA Z Er O tl ml) (hn : ∀ ρ S ds S', ml ρ S = .ok ds S' → ds.length = n) : JD Z Er O (tMake (Z.κ c) (spD Z (n + 1) F) [] E tl) (xCall G ml) := fun σ H p ρ S Q hE hS q => by
  refine hl σ H p ρ S _ hE hS ?_
  have q2 := q.bnd xE
  unfold Post at q2 ⊢
  cases z : ml ρ S with
  | ok ds S1 =>
    rw [z] at q2
    intro H1 p1 e1 s1 vs hv x dx nx nd ne
    have hlen := hn ρ S ds S1 z
    rw [List.append_nil]
    exact V Er H1 p1 S1 vs ds Q E (hv.len.trans hlen) hv s1 (q2 H1 p1 e1 s1) x dx nx nd ne
  | er c fs S1 => rw [z] at q2; exact q2
  | bad => rw [z] at q2; exact q2
/-- x op y, both instances of the class -/
def dOwn2 (c : String) (G : List Dat → M Dat) (d e : Dat) : M Dat := fun S => match insD S d, insD S e with
  | some (c1, _), some (c2, _) => match decide (c1 = c) && decide (c2 = c) with
    | true => calm (G [d, e]) S
    | false => .bad
  | _, _ => .bad
theorem r_own2 {c : String} {F G : List Dat → M Dat} {E : XK} (V : Via Z 2 F G) : JRD Z (rOwnI (Z.κ c) (spD Z 2 F) E) (dOwn2 c G) := fun x y d e Er H p S Q hx hy s q => by
  unfold dOwn2 at q
  cases e1 : insD S d with
  | none => simp only [e1] at q; exact q.elim
  | some o1 =>
    cases e2 : insD S e with
    | none => simp only [e1, e2] at q; exact q.elim
    | some o2 =>
      obtain ⟨c1, f1⟩ := o1
      obtain ⟨c2, f2⟩ := o2
      simp only [e1, e2] at q
      cases eb : decide (c1 = c) && decide (c2 = c) with
      | false => rw [eb] at q; exact q.elim
      | true =>
        rw [eb] at q
        rw [Bool.and_eq_true, decide_eq_true_eq, decide_eq_true_eq] at eb
        obtain ⟨k1, k2⟩ := eb
        subst k1 k2
        obtain ⟨a, dx, vs, rfl, ha⟩ := ins_is s hx e1
        obtain ⟨b, dy, ws, rfl, hb⟩ := ins_is s hy e2
        exact ⟨a, dx, _, b, dy, _, rfl, rfl, ha, hb, V Er H p S _ [d, e] Q E rfl (isDs_cons.mpr ⟨_, _, rfl, hx, .one hy⟩) s q⟩
/-- isinstance(x, C), x an instance of C -/
def dIsiI (c : String) (ds : List Dat) : M Dat := fun S => match ds with
  | [d, .cls c'] => match insD S d with
    | some (c1, _) => match decide (c' = c) && decide (c1 = c) with
      | true => .ok (.bl true) S
      | false => .bad
    | none => .bad
  | _ => .bad
theorem c_isiI {c : String} (T : InsT Z c) : JC Z (IsDs Z) (IsD Z) (rIsi Z.K) (dIsiI c) := fun x d Er H p S Q hx s q => by
  unfold dIsiI at q
  split at q
  · rename_i d c'
    cases ei : insD S d with
    | none => simp only [ei] at q; exact q.elim
    | some o =>
      obtain ⟨c1, fs⟩ := o
      simp only [ei] at q
      cases eb : decide (c' = c) && decide (c1 = c) with
      | false => rw [eb] at q; exact q.elim
      | true =>
        rw [eb] at q
        rw [Bool.and_eq_true, decide_eq_true_eq, decide_eq_true_eq] at eb
        obtain ⟨ec, e1⟩ := eb
        subst e1
        obtain ⟨v, w, rfl, h1, h2⟩ := isDs_two hx
        rw [ec] at h2
        obtain ⟨a, dx, vs, rfl, ha⟩ := ins_is s h1 ei
        have hw : w = .ref (Z.κ c1) := by unfold IsD at h2; exact h2
        subst hw
        exact ⟨.ref a, .ref (Z.κ c1), _, _, true, rfl, .own _, .base (.ins ha T.cl T.ha T.hn T.htk T.hm), T.me, q H p xE.refl s _ (isD_bl.mpr rfl)⟩
  · exact q.elim
/-- a field, of a place or not -/
def dFldI (c : String) (f : Str) (d : Dat) : M Dat := fun S => match d with
  | .obj c' fs ds => match decide (c' = c) with
    | true => match lkD f fs ds with
      | some x => .ok x S
      | none => .bad
    | false => .bad
  | .loc n => match S[n]? with
    | some (.obj c' fs ds) => match decide (c' = c) with
      | true => match lkD f fs ds with
        | some x => .ok x S
        | none => .bad
      | false => .bad
    | _ => .bad
  | _ => .bad
theorem j_fldI {c : String} {f : Str} {fs : List Str} (T : ClsT Z c fs) (hf : f ∈ fs) (h : JD Z Er O ta m) : JD Z Er O (tFld Z.K ta f) (xUn (dFldI c f) m) := fun σ H p ρ S Q hE hS q =>
  h σ H p ρ S _ hE hS ((q.bnd xE).mono fun d S1 H1 p1 e1 s1 q1 v hv => by
    have key : ∀ (a dx : Addr) (c' : String) (gs : List Str) (ds : List Dat) (vs : List V), v = .ref a → H1 a = some (.ins (Z.κ c') dx (gs.zip vs)) → IsDs Z H1 p1 vs ds →
        Post Z Er ExtE (match decide (c' = c) with | true => (match lkD f gs ds with | some x => .ok x S1 | none => .bad) | false => .bad) H1 p1 (fun a _ H' p' => ∀ b, IsD Z H' p' b a → Q b H') → ∃ a C dx fs w, v = .ref a ∧ H1 a = some (.ins C dx fs) ∧ Cls Z.K C ∧ NoAttr Z.K C f ∧ fs.lookup f = some w ∧ Q w H1 := fun a dx c' gs ds vs ev ha hds z => by
      cases eb : decide (c' = c) with
      | false => rw [eb] at z; exact z.elim
      | true =>
        rw [eb] at z
        dsimp only at z
        have ec := of_decide_eq_true eb
        rw [ec] at ha
        cases el : lkD f gs ds with
        | none => rw [el] at z; exact z.elim
        | some x =>
          rw [el] at z
          obtain ⟨w, g1, g2⟩ := lk_rel hds el
          exact ⟨a, _, dx, _, w, ev, ha, T.cl, T.no f hf, g1, z H1 p1 xE.refl s1 w g2⟩
    unfold dFldI at q1
    cases d with
    | obj c' gs ds =>
      obtain ⟨a, vs, ev, ⟨⟨dx, ha⟩, _⟩, _, hds⟩ := isD_obj.mp hv
      exact key a dx c' gs ds vs ev ha hds q1
    | loc n =>
      dsimp only at q1
      split at q1
      · rename_i c' gs ds et
        obtain ⟨a, ev, ha⟩ := isD_loc.mp hv
        obtain ⟨dx, vs, h1, _, hds⟩ := s1.at_ n a _ ha et
        exact key a dx c' gs ds vs ev h1 hds q1
      · exact q1.elim
    | _ => exact q1.elim)
end
end Zd
namespace Zd
open PySem PySem.Spec PyProof.Rows L2
def putKN (k : Key) (ks : List Key) : List Key := if (ks.any fun g => decide (g = k)) = true then ks else ks ++ [k]
def setKV (k : Key) (x : Dat) : List Key → List Dat → List Dat
  | g :: gs, d :: ds => (if g = k then x else d) :: setKV k x gs ds
  | _, _ => []
def putKV (k : Key) (x : Dat) (ks : List Key) (ds : List Dat) : List Dat := if (ks.any fun g => decide (g = k)) = true then setKV k x ks ds else ds ++ [x]
section
variable {Z : Cz} {Er : ErW} {O : List Nat} {te ta tb tc : TE} {ts : TS} {tl : TA} {tt : TT} {m m1 m2 m3 : Env → M Dat} {mb : Env → M Bool} {ml : Env → M (List Dat)} {ms : Env → M Flow}
theorem any_zip {k : Key} : ∀ {ks : List Key} {vs : List V}, ks.length = vs.length → ((ks.zip vs).any fun kv => decide (kv.1 = k)) = ks.any fun g => decide (g = k)
  | [], _, _ => rfl
  | g :: gs, v :: vs, h => by
    rw [List.zip_cons_cons, List.any_cons, List.any_cons, any_zip (Nat.succ.inj h)]
theorem setKV_rel {H : Hp} {p : Pl} {k : Key} {x : Dat} {y : V} (hx : IsD Z H p y x) : ∀ {ks : List Key} {ds : List Dat} {vs : List V}, ks.length = vs.length → IsDs Z H p vs ds → ∃ ws, ((ks.zip vs).map fun kv => if kv.1 = k then (kv.1, y) else kv) = ks.zip ws ∧ ks.length = ws.length ∧ IsDs Z H p ws (setKV k x ks ds)
  | [], ds, vs, hl, h => by
    have e : vs = [] := List.length_eq_zero_iff.mp hl.symm
    subst e
    exact ⟨[], rfl, rfl, by cases ds <;> exact isDs_nil.mpr rfl⟩
  | g :: gs, [], vs, hl, h => by rw [isDs_nil.mp h] at hl; cases hl
  | g :: gs, c :: ds, _, hl, h => by
    obtain ⟨v, r, rfl, h1, h2⟩ := isDs_cons.mp h
    obtain ⟨ws, e1, e2, e3⟩ := setKV_rel (k := k) hx (Nat.succ.inj hl) h2
    by_cases q : g = k
    · refine ⟨y :: ws, ?_, by rw [List.length_cons, List.length_cons, e2], ?_⟩
      · rw [List.zip_cons_cons, List.map_cons, e1, List.zip_cons_cons]
        dsimp only
        rw [if_pos q]
      · unfold setKV
        rw [if_pos q]
        exact isDs_cons.mpr ⟨y, ws, rfl, hx, e3⟩
    · refine ⟨v :: ws, ?_, by rw [List.length_cons, List.length_cons, e2], ?_⟩
      · rw [List.zip_cons_cons, List.map_cons, e1, List.zip_cons_cons]
        dsimp only
        rw [if_neg q]
      · unfold setKV
        rw [if_neg q]
        exact isDs_cons.mpr ⟨v, ws, rfl, h1, e3⟩
theorem putK_rel {H : Hp} {p : Pl} {k : Key} {x : Dat} {y : V} (hx : IsD Z H p y x) {ks : List Key} {ds : List Dat} {vs : List V} (hl : ks.length = vs.length) (h : IsDs Z H p vs ds) : ∃ ws, putK (ks.zip vs) k y = (putKN k ks).zip ws ∧ (putKN k ks).length = ws.length ∧ IsDs Z H p ws (putKV k x ks ds) := by
  unfold putK putKN putKV
  rw [any_zip hl]
  by_cases c : (ks.any fun g => decide (g = k)) = true
  · rw [if_pos c, if_pos c, if_pos c]
    exact setKV_rel hx hl h
  · rw [if_neg c, if_neg c, if_neg c]
    refine ⟨vs ++ [y], ?_, by rw [List.length_append, List.length_append, hl]; rfl, h.append (.one hx)⟩
    rw [List.zip_append hl]
    rfl
/-- a new object becomes a place -/
def xNewLo (a : Env → M Dat) (ρ : Env) : M Dat := a ρ >>= fun d => fun S => .ok (.loc S.length) (S ++ [d])
theorem j_newLo (h : JF Z Er O ta m) : JD Z Er O ta (xNewLo m) := fun σ H p ρ S Q hE hS q =>
  h σ H p ρ S _ hE hS (q.bndK.mono fun d S1 H1 p1 e1 s1 q1 a na na1 nh hs ht => by
    have q2 : ∀ H' p', ExtE H p H' p' → IsS Z H' p' (S1 ++ [d]) → ∀ b, IsD Z H' p' b (.loc S1.length) → Q b H' := q1
    have l2 : ∀ b, (⟨p1.α ++ [a], p1.ω, p1.γ⟩ : Pl).has b → (⟨p1.α, p1.ω ++ [a], p1.γ⟩ : Pl).has b := fun b h => by
      rcases h with h | h | h
      · rcases List.mem_append.mp h with h | h
        · exact .inl h
        · exact .inr (.inl (List.mem_append_right _ h))
      · exact .inr (.inl (List.mem_append_left _ h))
      · exact .inr (.inr h)
    have na1 : a ∉ p1.α := fun z => nh (.inl z)
    have hα : (p1.α ++ [a])[S1.length]? = some a := by rw [← hs.len]; simp
    refine q2 H1 ⟨p1.α ++ [a], p1.ω, p1.γ⟩ ⟨?_, e1.ω, e1.γ, fun b u z n => e1.k b u z n, e1.t⟩ ⟨?_, ?_, fun b h => ⟨fun z => ?_, (hs.dj b (List.mem_append_left _ h)).2⟩, fun b h z => ?_, fun b h => hs.wt b (h.imp (List.mem_append_left _) id), fun n b x h1 h2 => ?_⟩ (.ref a) ?_
    · obtain ⟨β, g1, g2⟩ := e1.α
      refine ⟨β ++ [a], by rw [g1, List.append_assoc], fun b h => ?_⟩
      rcases List.mem_append.mp h with h | h
      · exact g2 b h
      · rw [List.mem_singleton.mp h]; exact na
    · rw [List.length_append, List.length_append, hs.len]; rfl
    · exact List.nodup_append.mpr ⟨hs.nd, by simp, fun b h c h2 e => na1 (by rw [← List.mem_singleton.mp h2, ← e]; exact h)⟩
    · rcases List.mem_append.mp z with z | z
      · exact (hs.dj b (List.mem_append_left _ h)).1 z
      · exact nh (.inr (.inl (by rw [← List.mem_singleton.mp z]; exact h)))
    · rcases List.mem_append.mp z with z | z
      · exact hs.dg b h z
      · exact nh (.inr (.inr (by rw [← List.mem_singleton.mp z]; exact h)))
    · have mv : ∀ (n : Nat) (x : Addr), p1.α[n]? = some x → (p1.α ++ [a])[n]? = some x := fun n x h => by
        rw [List.getElem?_append_left (List.getElem?_eq_some_iff.mp h).1]; exact h
      by_cases c : n < S1.length
      · rw [List.getElem?_append_left c] at h2
        rw [List.getElem?_append_left (by rw [hs.len]; exact c)] at h1
        exact IsTop.mv (p := ⟨p1.α, p1.ω ++ [a], p1.γ⟩) (p' := ⟨p1.α ++ [a], p1.ω, p1.γ⟩) mv l2 (hs.at_ n b x h1 h2)
      · have lt := (List.getElem?_eq_some_iff.mp h2).1
        rw [List.length_append, List.length_singleton] at lt
        have e : n = S1.length := by omega
        subst e
        rw [hα] at h1
        cases h1
        rw [List.getElem?_append_right (Nat.le_refl _), Nat.sub_self] at h2
        cases h2
        exact IsTop.mv (p := ⟨p1.α, p1.ω ++ [a], p1.γ⟩) (p' := ⟨p1.α ++ [a], p1.ω, p1.γ⟩) mv l2 ht
    · exact (isD_loc (Z := Z) (H := H1) (p := ⟨p1.α ++ [a], p1.ω, p1.γ⟩)).mpr ⟨a, rfl, hα⟩)
/-- x.append(e), x a place -/
def isLst (S : List Dat) (n : Nat) : Bool := match S[n]? with
  | some (.lst _) => true
  | _ => false
def needL (n : Nat) : M Unit := fun S => match isLst S n with
  | true => .ok () S
  | false => .bad
end
end Zd
namespace Zd
open PySem PySem.Spec PyProof.Rows L2
section
variable {Z : Cz} {Er : ErW} {O : List Nat} {te ta tb tc : TE} {ts : TS} {tl tk : TA} {tt : TT} {m m1 m2 m3 : Env → M Dat} {mb : Env → M Bool} {ml mk : Env → M (List Dat)} {ms : Env → M Flow}
def dIsB (neg : Bool) (d e : Dat) : M Dat := match d, e with
  | .bl a, .bl b => pure (.bl (neg != decide (a = b)))
  | _, _ => M.no
end
section
variable {X : Cx} {CX : CXT} {pins : List (Addr × Obj)} {σ : L2.St} {H : Hp} {s : Shared} {C g f : Addr} {fd : FuncData} {ps ks : List Str} {k : Nat} {sp : Sp} {E : XK} {x : Str} {p pos : Pos} {e : Expr} {es : List Expr} {kws : List Keyword} {t tk : TA}
theorem run_in {A : Around} {Q : VK} {us : List Value} {ws : List V} (F : FnOk X.prog X.w X.K X.mg X.base CX k g fd ps sp) (hr : Room k A) (hb : Binds X.K fd ps []) (e0 : Env0 X.prog X.w X.K X.mg X.base A X.stack s H)
    (hx : Passes CX X E) (I : Inv X pins σ H s) (r : Vals ws us) (h : sp ws H Q E) : wpAny (model X.prog X.w) A (call (.ref g) us) (EP X pins σ Q) X.xe s := by
  have hl : (us ++ []).length = ps.length := by rw [List.append_nil, ← r.length]; exact F.len _ _ _ _ h
  have b := hb s us I.kIn hl
  rw [List.append_nil] at b
  refine wpAny_call (codeAny_mono (F.run A X.stack s H ⟨us, []⟩ us ws Q E hr e0 b r h) fun r s' hq => ?_)
  match r, hq with
  | .error e, z => exact hx pins σ H s e s' I z
  | .ok (.ret _), z => exact I.after z
  | .ok .next, z => exact z.elim
  | .ok .brk, z => exact z.elim
  | .ok .cont, z => exact z.elim
theorem op_cmpI {op : CmpOp} (hop : ∀ a b, compareOp op a b = richCompare op a b) (hs : PySem.W.findIn X.K (.ref C) (cmpInfo op).2.1 = some (some (.ref g))) (hf : PySem.W.isFn X.K (.ref g) = true)
    (F : FnOk X.prog X.w X.K X.mg X.base CX k g fd ps sp) (hr : Room k X.A) (hb : Binds X.K fd ps []) (hx : Passes CX X E) : OpR X (compareOp op) (rOwnI C sp E) := by
  intro pins s σ H x y v u Q I rx ry h
  obtain ⟨a, dx, fs, b, dy, gs, rfl, rfl, ha, hb', q⟩ := h
  cases (show v = Value.ref a from rx)
  cases (show u = Value.ref b from ry)
  obtain ⟨mA, O, _⟩ := ins_get I.hok ha
  obtain ⟨od, J, _⟩ := O.look
  obtain ⟨mB, O', _⟩ := ins_get I.hok hb'
  obtain ⟨od', J', _⟩ := O'.look
  obtain ⟨m, hF⟩ := I.fr
  rw [hop]
  refine PySem.W.cmp_K (op := op) (tb := .ref C) hr.units0 hF I.ok.mod.kin J J'.type (by simp [PySem.W.notFirst]) hs hf ?_
  refine wpAny_mono (run_in (us := [.ref a, .ref b]) (ws := [.ref a, .ref b]) F hr hb I.env0 hx I (.cons rfl (.cons rfl .nil)) q) (fun w s' z => ?_) fun _ _ x => x
  obtain ⟨z', H', I', rz, qz⟩ := z
  exact SlX.cmpback rz ⟨z', H', I', rz, qz⟩
end
end Zd
namespace Zd
open PySem PySem.Spec PyProof.Rows L2 Zg
def MeI (P : Program) (w : World) (K : PySem.W.Frag) (mg : Str → Option Value) (base : Heap) (Z : Cz) (k : Nat) (c : String) (m : Str) (ps : List Str) (sp : Sp) : Prop :=
  ∃ (f : Addr) (fd : FuncData), Meth K (Z.κ c) m f ∧ FnOk P w K mg base CX0 k f fd ps sp ∧ Binds K fd ps []
def MkI (P : Program) (w : World) (K : PySem.W.Frag) (mg : Str → Option Value) (base : Heap) (Z : Cz) (k : Nat) (c : String) (x : Str) (ps : List Str) (sp : Sp) : Prop :=
  ∃ (f : Addr) (fd : FuncData), Mk K (Z.κ c) f ∧ FnOk P w K mg base CX0 k f fd ps sp ∧ Binds K fd ps [] ∧ mg x = some (.ref (Z.κ c))
/-- a class: its fields, its name -/
structure ClsI (K : PySem.W.Frag) (mg : Str → Option Value) (Z : Cz) (c : String) (x : Str) (fs : List Str) : Prop where
  t : ClsT Z c fs
  i : InsT Z c
  g : mg x = some (.ref (Z.κ c))
structure TxD2 (mg : Str → Option Value) : Prop extends TxD mg where
  n_dict : mg "dict" = none
section
variable {Z : Cz} {Er : ErW} {O : List Nat}
theorem j_cls {c : String} : JD Z Er O (tC (.ref (Z.κ c))) (xC (.cls c)) := j_c fun _ _ => by unfold IsD; rfl
end
end Zd
namespace Zd
open PySem PySem.Spec PyProof.Rows L2 Zg
section
variable {Z : Cz} {Er : ErW} {O : List Nat} {te ta tb tc td : TE} {ts : TS} {tl tk : TA} {tt : TT} {m m1 m2 m3 m4 : Env → M Dat} {mb : Env → M Bool} {ml mk : Env → M (List Dat)} {ms : Env → M Flow}
def pairsD : List Dat → Option (List (Key × Dat))
  | [] => some []
  | .tup [k, x] :: r => (keyD k).bind fun g => (pairsD r).map ((g, x) :: ·)
  | _ :: _ => none
def mergeD : List Key → List Dat → List (Key × Dat) → List Key × List Dat
  | ks, ds, [] => (ks, ds)
  | ks, ds, (k, x) :: r => mergeD (putKN k ks) (putKV k x ks ds) r
theorem merge_rel {H : Hp} {p : Pl} : ∀ {ps : List (Key × Dat)} {qs : List (Key × V)} {ks : List Key} {ds : List Dat} {vs : List V}, ks.length = vs.length → IsDs Z H p vs ds → qs.map (·.1) = ps.map (·.1) → IsDs Z H p (qs.map (·.2)) (ps.map (·.2)) →
    ∃ ws, mergeK (ks.zip vs) qs = (mergeD ks ds ps).1.zip ws ∧ (mergeD ks ds ps).1.length = ws.length ∧ IsDs Z H p ws (mergeD ks ds ps).2
  | [], qs, ks, ds, vs, hl, h, e, _ => by
    have : qs = [] := List.map_eq_nil_iff.mp e
    subst this
    exact ⟨vs, rfl, hl, h⟩
  | (k, x) :: ps, [], _, _, _, _, _, e, _ => by cases e
  | (k, x) :: ps, (k', y) :: qs, ks, ds, vs, hl, h, e, g => by
    rw [List.map_cons, List.map_cons] at e
    injection e with e1 e2
    have e1 : k' = k := e1
    subst e1
    rw [List.map_cons, List.map_cons] at g
    obtain ⟨v, r, e3, g1, g2⟩ := isDs_cons.mp g
    injection e3 with e3 e4
    subst e3 e4
    obtain ⟨ws, k1, k2, k3⟩ := putK_rel (k := k') g1 hl h
    obtain ⟨us, l1, l2, l3⟩ := merge_rel k2 k3 e2 g2
    refine ⟨us, ?_, l2, l3⟩
    show mergeK (putK (ks.zip vs) k' y) qs = _
    rw [k1]
    exact l1
theorem pairs_rel {H : Hp} {p : Pl} : ∀ {xs : List Dat} {vs : List V} {ps : List (Key × Dat)}, pairsD xs = some ps → IsDs Z H p vs xs → ∃ (as : List Addr) (qs : List (Key × V)), vs = as.map V.ref ∧ Paired (fun a kv => SqT Z.K H a [kV kv.1, kv.2]) as qs ∧ qs.map (·.1) = ps.map (·.1) ∧ IsDs Z H p (qs.map (·.2)) (ps.map (·.2))
  | [], _, _, e, h => by cases e; exact ⟨[], [], isDs_nil.mp h, .nil, rfl, isDs_nil.mpr rfl⟩
  | d :: r, _, _, e, h => by
    obtain ⟨v, ws, rfl, h1, h2⟩ := isDs_cons.mp h
    unfold pairsD at e
    split at e
    · rename_i heq; cases heq
    · rename_i k x r' heq
      injection heq with e1 e2
      subst e1 e2
      cases ek : keyD k with
      | none => rw [ek] at e; cases e
      | some g =>
        rw [ek] at e
        cases er : pairsD r with
        | none => rw [er] at e; cases e
        | some qs0 =>
          rw [er] at e
          cases e
          obtain ⟨as, qs, e1, e2, e3, e4⟩ := pairs_rel er h2
          obtain ⟨a, us, rfl, g1, g2⟩ := isD_tup.mp h1
          obtain ⟨u, w, rfl, g3, g4⟩ := isDs_two g2
          rw [keyD_is g3 ek] at g1
          refine ⟨a :: as, (g, w) :: qs, by rw [e1]; rfl, .cons g1.sq e2, ?_, ?_⟩
          · rw [List.map_cons, List.map_cons, e3]
          · exact isDs_cons.mpr ⟨w, _, rfl, g4, e4⟩
    · cases e
end
end Zd
namespace Zd
open PySem PySem.Spec PyProof.Rows L2 Zg
/-- a def of the hook without defaults, bare -/
theorem rawD {K : PySem.W.Frag} {x qual : Str} {st : Stmt} {kws : List (Str × V)} {f : Addr} (h : ∃ fd, FunD K x qual (defArgs st) (defBody st) (defScope st) [] kws f fd) :
    ∃ (oc : Value) (od : Option Addr) (kV doc pm : Value) (an : Option Addr) (cdv ct : Value) (osl : Array (Option Value)),
      K.lookup f = some ⟨oc, od, .func (PySem.W.fnOf x qual (defArgs st) (defBody st) (defScope st) .none kV doc pm an cdv ct), osl⟩ ∧ PySem.W.codeIn K cdv qual = true ∧ PySem.W.keepIn K (.ref f) = true := by
  obtain ⟨fd, F⟩ := h
  obtain ⟨oc, od, dV, kV, doc, pm, an, cdv, ct, osl, e, l, c, hd, _⟩ := F.ex
  rcases hd with ⟨_, e2⟩ | ⟨e2, _⟩
  · subst e2
    subst e
    exact ⟨oc, od, kV, doc, pm, an, cdv, ct, osl, l, c, F.kp⟩
  · exact absurd rfl e2
/-- a module's whole number -/
def numB (K : PySem.W.Frag) (x : Str) (i : Int) : Bool := match PySem.W.nsIn K mainGlobals x with
  | some (some (.int j _)) => decide (j = i)
  | _ => false
theorem numB_ok {K : PySem.W.Frag} {x : Str} {i : Int} (h : numB K x i = true) : ∃ t, PySem.W.nsIn K mainGlobals x = some (some (.int i t)) := by
  unfold numB at h
  split at h
  · rename_i j t e
    rw [← of_decide_eq_true h]
    exact ⟨t, e⟩
  · cases h
abbrev AlL : Type := He.AlT × Bool
def obsL (as : List Addr) (fn : List He.DefD) (ts : List He.Tab) (ex : PySem.W.Frag → Bool) (g : Addr → Option Obj) : AlL := (He.obsT [] fn ts (He.frG g as), ex (He.frG g as))
def hookL (as : List Addr) (fn : List He.DefD) (ts : List He.Tab) (ex : PySem.W.Frag → Bool) : PySem.W.Hook where
  α := AlL
  obs := fun s => obsL as fn ts ex s.heap.get?
  val := fun w => (He.valT fn ts w, true)
  says := fun w h => ∃ K : PySem.W.Frag, K.In h ∧ He.SaysT [] fn ts w K ∧ ex K = true
  of := fun _ _ e => ⟨_, He.frG_in, congrArg (fun z : AlL => z.1) e, congrArg (fun z : AlL => z.2) e⟩
  keeps := fun _ _ _ ⟨K, hK, c⟩ k => ⟨K, PySem.W.Frag.In.keeps hK k, c⟩
theorem obsL_eq {as : List Addr} {fn : List He.DefD} {ts : List He.Tab} {ex : PySem.W.Frag → Bool} {g : Addr → Option Obj} {s : Shared} (h : ∀ a, g a = s.heap.get? a) : obsL as fn ts ex g = (hookL as fn ts ex).obs s := by
  have e : g = s.heap.get? := funext h
  rw [e] <;> rfl
/-- a law's end over a head by facts, the law's own run calm -/
theorem walkGE {l : PySem.W.OpenLaw} {n k : Nat} {q : Program} {loose : List Str} {XP : (Str → Option Value) → Heap → Prop} {YP : World → Heap → Prop} {d : DefRec} {sp : PySem.W.Frag → Sp} {x : Str}
    (most : l.most = some n) (line : n ≤ sizeLine) (nodef : d.params.defaults = []) (room : Room k callerA)
    (F : ∀ (w : World) (mg : Str → Option Value) (fa : Addr) (h : Heap), YP w h → h.Ns mainGlobals mg → mg d.name = some (.ref fa) →
      ∃ (K : PySem.W.Frag) (fd : FuncData), K.In h ∧ (∀ (s : Shared) (u : Value), BindsTo s fd ⟨[u], []⟩ [(x, u)]) ∧
        ∀ base : Heap, K.In base → base.Ns mainGlobals mg → FnG l.prog w K mg base CX0 k fa fd [x] (sp K))
    (hsp : ∀ (K : PySem.W.Frag) (H : Hp) (a : Addr) (ns : List Int), ns.length ≤ n → SqL K H a (ns.map V.int) → sp K [.ref a] H (fun v _ => v = .bl true) fun _ _ _ => False) :
    PySem.W.WalkO q loose XP YP l.row.toRowW d [] (fun f vs => PySem.call f vs) := by
  refine Att.attach_call most nodef fun w s0 s1 mg mb fa o pm cd doc a vs ns G Y _ _ _ named obj whole few gens => ?_
  obtain ⟨K, fd, kin, bind, all⟩ := F w mg fa _ Y G.T.g named
  exact lawG kin G.T.g G.T.b G.T.builtins G.T.nolimit gens obj whole (Nat.le_trans few line) room all bind fun H hS => hsp _ H a ns few hS
end Zd
namespace Zd
open PySem PySem.Spec PyProof.Rows L2 Zg
def extLo (n : Nat) (d : Dat) (ρ : Env) : M Flow := fun S => match S[n]? with
  | some (.lst xs) => match d with
    | .lst ys => match decide (xs.length + ys.length ≤ 100000) with
      | true => .ok (.nx ρ) (S.set n (.lst (xs ++ ys)))
      | false => .bad
    | _ => .bad
  | _ => .bad
def sExtLo (o : Env → M Dat) (l : Env → M (List Dat)) (ρ : Env) : M Flow := o ρ >>= fun y => M.opt (dLoc y) >>= fun n => needL n >>= fun _ => l ρ >>= fun ds => M.opt (one ds) >>= fun d => extLo n d ρ
section
variable {Z : Cz} {Er : ErW} {O : List Nat} {ta : TE} {tl : TA} {m : Env → M Dat} {ml : Env → M (List Dat)}
theorem js_extLo (ho : JD Z Er O ta m) (hl : JA Z Er O tl ml) : JS Z Er O (tDrop (tBM Z.K "list" rExtend ta tl)) (sExtLo m ml) := fun σ H p ρ S D hE hS q =>
  ho σ H p ρ S _ hE hS (q.bndE.mono fun o S1 H1 p1 e1 s1 q1 v hv => by
    obtain ⟨n, en, q1⟩ := Post.opt q1
    rw [dLoc_is en] at hv
    obtain ⟨a, rfl, ha⟩ := isD_loc.mp hv
    have hE1 := hE.ext e1 hS
    have nl : ∀ b, isLst S1 n = b → needL n S1 = (match b with | true => .ok () S1 | false => .bad) := fun b e => by unfold needL; rw [e] <;> (cases b <;> rfl)
    rw [m_bind] at q1
    cases ei : isLst S1 n with
    | false => rw [nl _ ei] at q1; exact q1.elim
    | true =>
      rw [nl _ ei] at q1
      have q2 : Post Z Er Ext ((ml ρ >>= fun ds => M.opt (one ds) >>= fun d => extLo n d ρ) S1) H1 p1 (fun f _ H' p' => FlowOk Z O D f H' p') := q1
      have ty : ∃ vs, H1 a = some (.lst vs) := by
        unfold isLst at ei
        split at ei
        · rename_i xs et
          obtain ⟨vs, h1, _⟩ := s1.at_ n a _ ha et
          exact ⟨vs, h1⟩
        · cases ei
      obtain ⟨vs0, h0⟩ := ty
      refine ⟨.inl ⟨rfl, _, SqL.of h0⟩, hl σ H1 p1 ρ S1 _ hE1 s1 (q2.bndE.mono fun ds S2 H2 p2 e2 s2 q3 ws hws => ?_)⟩
      obtain ⟨d, e1d, q3⟩ := Post.opt q3
      rw [one_is e1d] at hws
      obtain ⟨w, rfl, hw⟩ := isDs_one hws
      have hα : p2.α[n]? = some a := by
        obtain ⟨β, g1, _⟩ := e2.α
        rw [g1, List.getElem?_append_left (List.getElem?_eq_some_iff.mp ha).1]
        exact ha
      unfold extLo at q3
      split at q3
      · rename_i xs et
        split at q3
        · rename_i ys
          cases eb : decide (xs.length + ys.length ≤ 100000) with
          | false => rw [eb] at q3; exact q3.elim
          | true =>
            rw [eb] at q3
            have c := of_decide_eq_true eb
            obtain ⟨vs, g1, g2⟩ := s2.at_ n a _ hα et
            obtain ⟨b, us, ew, k1, k2⟩ := isD_lst.mp hw
            subst ew
            have sz := sizeLine_eq
            refine ⟨a, b, vs, us, rfl, rfl, g1, k1.1, by rw [g2.len, k2.len]; omega, ?_⟩
            obtain ⟨e3, s3⟩ := loc_put (o := .lst (vs ++ us)) (d := .lst (xs ++ ys)) s2 hα ⟨vs ++ us, upd_same, (g2.append k2).ext (loc_ext (List.mem_of_getElem? hα))⟩
            exact q3 _ _ e3.s s3 σ ((hE1.ext e2 s1).ext e3 s2)
        · exact q3.elim
      · exact q3.elim)
end
end Zd
namespace Zd
open PySem PySem.Spec PyProof.Rows L2 Zg
mutual
def lowL (n : Nat) : Dat → Bool
  | .loc k => decide (k < n)
  | .tup ds => lowLs n ds
  | .lst ds => lowLs n ds
  | .dic _ ds => lowLs n ds
  | .obj _ _ ds => lowLs n ds
  | _ => true
def lowLs (n : Nat) : List Dat → Bool
  | [] => true
  | d :: ds => lowL n d && lowLs n ds
end
def frzN (S : List Dat) (m : Nat) : Nat → Dat → Option Dat
  | 0, _ => none
  | n + 1, d => match d with
    | .loc k => match decide (m ≤ k) with
      | true => match S[k]? with
        | some t => frzN S m n t
        | none => none
      | false => none
    | .tup ds => match frzs (frzN S m n) ds with
      | some es => some (.tup es)
      | none => none
    | .lst ds => match frzs (frzN S m n) ds with
      | some es => some (.lst es)
      | none => none
    | .dic ks ds => match frzs (frzN S m n) ds with
      | some es => some (.dic ks es)
      | none => none
    | .obj c fs ds => match frzs (frzN S m n) ds with
      | some es => some (.obj c fs es)
      | none => none
    | .non => some .non
    | .bl b => some (.bl b)
    | .int i => some (.int i)
    | .str x => some (.str x)
    | .ty x => some (.ty x)
    | .cls x => some (.cls x)
    | .scr x => some (.scr x)
section
variable {Z : Cz} {H : Hp} {p pc : Pl} {S : List Dat}
mutual
theorem IsD.low {n : Nat} (hα : ∀ (k : Nat) (a : Addr), k < n → p.α[k]? = some a → pc.α[k]? = some a) (hs : ∀ a, pc.has a → p.has a) : ∀ (d : Dat) {v : V}, lowL n d = true → IsD Z H p v d → IsD Z H pc v d
  | .non, _, _, h => isD_non.mpr (isD_non.mp h)
  | .bl b, _, _, h => isD_bl.mpr (isD_bl.mp h)
  | .int i, _, _, h => isD_int.mpr (isD_int.mp h)
  | .str x, _, _, h => isD_str.mpr (isD_str.mp h)
  | .ty n, _, _, h => isD_ty.mpr (isD_ty.mp h)
  | .cls c, _, _, h => by unfold IsD at h ⊢; exact h
  | .scr ns, _, _, h => by
    obtain ⟨a, e, h⟩ := isD_scr.mp h
    exact isD_scr.mpr ⟨a, e, h.imp (fun q => ⟨q.1, fun z => q.2 (hs a z)⟩) id⟩
  | .tup ds, _, n, h => by
    obtain ⟨a, vs, e, h1, h2⟩ := isD_tup.mp h
    exact isD_tup.mpr ⟨a, vs, e, h1.imp (fun q => ⟨q.1, fun z => q.2 (hs a z)⟩) id, IsDs.low hα hs ds (by rw [lowL] at n; exact n) h2⟩
  | .lst ds, _, n, h => by
    obtain ⟨a, vs, e, h1, h2⟩ := isD_lst.mp h
    exact isD_lst.mpr ⟨a, vs, e, ⟨h1.1, fun z => h1.2 (hs a z)⟩, IsDs.low hα hs ds (by rw [lowL] at n; exact n) h2⟩
  | .dic ks ds, _, n, h => by
    obtain ⟨a, vs, e, h1, hl, h2⟩ := isD_dic.mp h
    exact isD_dic.mpr ⟨a, vs, e, ⟨h1.1, fun z => h1.2 (hs a z)⟩, hl, IsDs.low hα hs ds (by rw [lowL] at n; exact n) h2⟩
  | .obj c fs ds, _, n, h => by
    obtain ⟨a, vs, e, h1, hl, h2⟩ := isD_obj.mp h
    exact isD_obj.mpr ⟨a, vs, e, ⟨h1.1, fun z => h1.2 (hs a z)⟩, hl, IsDs.low hα hs ds (by rw [lowL] at n; exact n) h2⟩
  | .loc k, _, n, h => by
    obtain ⟨a, e, g⟩ := isD_loc.mp h
    exact isD_loc.mpr ⟨a, e, hα k a (by rw [lowL] at n; exact of_decide_eq_true n) g⟩
theorem IsDs.low {n : Nat} (hα : ∀ (k : Nat) (a : Addr), k < n → p.α[k]? = some a → pc.α[k]? = some a) (hs : ∀ a, pc.has a → p.has a) : ∀ (ds : List Dat) {vs : List V}, lowLs n ds = true → IsDs Z H p vs ds → IsDs Z H pc vs ds
  | [], _, _, h => isDs_nil.mpr (isDs_nil.mp h)
  | d :: ds, _, n, h => by
    obtain ⟨v, r, e, h1, h2⟩ := isDs_cons.mp h
    rw [lowLs, Bool.and_eq_true] at n
    exact isDs_cons.mpr ⟨v, r, e, IsD.low hα hs d n.1 h1, IsDs.low hα hs ds n.2 h2⟩
end
theorem frzN_is {m : Nat} (s : IsS Z H p S) (hs : ∀ a, pc.has a → p.has a) (hn : ∀ (k : Nat) (a : Addr), m ≤ k → p.α[k]? = some a → ¬ pc.has a) : ∀ (n : Nat) (d e : Dat) (v : V), frzN S m n d = some e → (IsD Z H p v d → IsD Z H pc v e) ∧ (∀ a, v = .ref a → ¬ pc.has a → IsTop Z H p a d → IsD Z H pc v e)
  | 0, _, _, _, h => by cases h
  | n + 1, d, e, v, h => by
    have ih := frzN_is s hs hn n
    have its : ∀ (ds : List Dat) (es : List Dat) (vs : List V), frzs (frzN S m n) ds = some es → IsDs Z H p vs ds → IsDs Z H pc vs es := fun ds es vs h k => frzs_is (fun d e v h k => (ih d e v h).1 k) ds h k
    have nh : ∀ a, ¬ p.has a → ¬ pc.has a := fun a h z => h (hs a z)
    cases d with
    | loc k =>
      unfold frzN at h
      refine ⟨fun g => ?_, fun a _ _ g => g.elim⟩
      obtain ⟨a, ev, ha⟩ := isD_loc.mp g
      dsimp only at h
      cases em : decide (m ≤ k) with
      | false => rw [em] at h; cases h
      | true =>
        rw [em] at h
        dsimp only at h
        split at h
        · rename_i t et
          exact (ih t e v h).2 a ev (hn k a (of_decide_eq_true em) ha) (s.at_ k a t ha et)
        · cases h
    | tup ds =>
      unfold frzN at h
      dsimp only at h
      split at h
      · rename_i es ee
        cases h
        refine ⟨fun g => ?_, fun a _ _ g => g.elim⟩
        obtain ⟨a, vs, ev, h1, h2⟩ := isD_tup.mp g
        exact isD_tup.mpr ⟨a, vs, ev, h1.imp (fun q => ⟨q.1, nh a q.2⟩) id, its _ _ _ ee h2⟩
      · cases h
    | lst ds =>
      unfold frzN at h
      dsimp only at h
      split at h
      · rename_i es ee
        cases h
        refine ⟨fun g => ?_, fun a ev na g => ?_⟩
        · obtain ⟨a, vs, ev, h1, h2⟩ := isD_lst.mp g
          exact isD_lst.mpr ⟨a, vs, ev, ⟨h1.1, nh a h1.2⟩, its _ _ _ ee h2⟩
        · obtain ⟨vs, h1, h2⟩ := g
          exact isD_lst.mpr ⟨a, vs, ev, ⟨h1, na⟩, its _ _ _ ee h2⟩
      · cases h
    | dic ks ds =>
      unfold frzN at h
      dsimp only at h
      split at h
      · rename_i es ee
        cases h
        refine ⟨fun g => ?_, fun a ev na g => ?_⟩
        · obtain ⟨a, vs, ev, h1, hl, h2⟩ := isD_dic.mp g
          exact isD_dic.mpr ⟨a, vs, ev, ⟨h1.1, nh a h1.2⟩, hl, its _ _ _ ee h2⟩
        · obtain ⟨vs, h1, hl, h2⟩ := g
          exact isD_dic.mpr ⟨a, vs, ev, ⟨h1, na⟩, hl, its _ _ _ ee h2⟩
      · cases h
    | obj c fs ds =>
      unfold frzN at h
      dsimp only at h
      split at h
      · rename_i es ee
        cases h
        refine ⟨fun g => ?_, fun a ev na g => ?_⟩
        · obtain ⟨a, vs, ev, h1, hl, h2⟩ := isD_obj.mp g
          exact isD_obj.mpr ⟨a, vs, ev, ⟨h1.1, nh a h1.2⟩, hl, its _ _ _ ee h2⟩
        · obtain ⟨dx, vs, h1, hl, h2⟩ := g
          exact isD_obj.mpr ⟨a, vs, ev, ⟨⟨dx, h1⟩, na⟩, hl, its _ _ _ ee h2⟩
      · cases h
    | non => cases h; exact ⟨fun g => isD_non.mpr (isD_non.mp g), fun a _ _ g => g.elim⟩
    | bl b => cases h; exact ⟨fun g => isD_bl.mpr (isD_bl.mp g), fun a _ _ g => g.elim⟩
    | int i => cases h; exact ⟨fun g => isD_int.mpr (isD_int.mp g), fun a _ _ g => g.elim⟩
    | str x => cases h; exact ⟨fun g => isD_str.mpr (isD_str.mp g), fun a _ _ g => g.elim⟩
    | ty x => cases h; exact ⟨fun g => isD_ty.mpr (isD_ty.mp g), fun a _ _ g => g.elim⟩
    | cls x => cases h; exact ⟨fun g => by unfold IsD at g ⊢; exact g, fun a _ _ g => g.elim⟩
    | scr x =>
      cases h
      refine ⟨fun g => ?_, fun a _ _ g => g.elim⟩
      obtain ⟨a, e, h⟩ := isD_scr.mp g
      exact isD_scr.mpr ⟨a, e, h.imp (fun q => ⟨q.1, nh a q.2⟩) id⟩
theorem IsTop.low {n : Nat} (hα : ∀ (k : Nat) (a : Addr), k < n → p.α[k]? = some a → pc.α[k]? = some a) (hs : ∀ a, pc.has a → p.has a) {a : Addr} {d : Dat} (l : lowL n d = true) (h : IsTop Z H p a d) : IsTop Z H pc a d := by
  cases d with
  | lst ds => obtain ⟨vs, e, k⟩ := h; exact ⟨vs, e, IsDs.low hα hs ds (by rw [lowL] at l; exact l) k⟩
  | dic ks ds => obtain ⟨vs, e, g, k⟩ := h; exact ⟨vs, e, g, IsDs.low hα hs ds (by rw [lowL] at l; exact l) k⟩
  | obj c fs ds => obtain ⟨dx, vs, e, g, k⟩ := h; exact ⟨dx, vs, e, g, IsDs.low hα hs ds (by rw [lowL] at l; exact l) k⟩
  | _ => exact h.elim
end
theorem lowLs_at {n k : Nat} {d : Dat} : ∀ {ds : List Dat}, lowLs n ds = true → ds[k]? = some d → lowL n d = true := by
  intro ds
  induction ds generalizing k with
  | nil => intro _ h; cases h
  | cons x r ih =>
    intro h e
    rw [lowLs, Bool.and_eq_true] at h
    cases k with
    | zero => cases e; exact h.1
    | succ k => exact ih h.2 e
def callP (F : List Dat → M Dat) (ds : List Dat) : M Dat := fun S => match F ds S with
  | .ok d S' => match decide (S.length ≤ S'.length) && lowLs S.length (S'.take S.length) with
    | true => match frzN S' S.length 40 d with
      | some e => .ok e (S'.take S.length)
      | none => .bad
    | false => .bad
  | _ => .bad
theorem via_P {Z : Cz} {n : Nat} {F : List Dat → M Dat} : Via Z n F (callP F) := fun Er H p S vs ds Q E hn hd hS q => by
  refine call_sp (Er := Er) hn hd hS ?_
  unfold calm callP at q
  unfold calm
  cases eF : F ds S with
  | bad => rw [eF] at q; exact q.elim
  | er c fs S' => rw [eF] at q; exact q.elim
  | ok d S' =>
    rw [eF] at q
    dsimp only at q
    cases eb : (decide (S.length ≤ S'.length) && lowLs S.length (S'.take S.length)) with
    | false => rw [eb] at q; exact q.elim
    | true =>
      rw [eb] at q
      dsimp only at q
      rw [Bool.and_eq_true, decide_eq_true_eq] at eb
      obtain ⟨le, low⟩ := eb
      cases ez : frzN S' S.length 40 d with
      | none => rw [ez] at q; exact q.elim
      | some e =>
        rw [ez] at q
        intro H' p' ee s v hv
        obtain ⟨β, eα, fβ⟩ := ee.α
        have lα : p.α.length = S.length := hS.len
        have hα : ∀ (k : Nat) (a : Addr), k < S.length → p'.α[k]? = some a → p.α[k]? = some a := fun k a lk h => by
          rw [eα, List.getElem?_append_left (by omega)] at h
          exact h
        have hs : ∀ a, p.has a → p'.has a := fun a h => by
          rcases h with h | h | h
          · exact .inl (by rw [eα]; exact List.mem_append_left _ h)
          · exact .inr (.inl (by rw [ee.ω]; exact h))
          · exact .inr (.inr (by rw [ee.γ]; exact h))
        have hnew : ∀ (k : Nat) (a : Addr), S.length ≤ k → p'.α[k]? = some a → ¬ p.has a := fun k a lk h z => by
          rw [eα, List.getElem?_append_right (by omega)] at h
          exact hS.tracked z (fβ a (List.mem_of_getElem? h))
        have isS : IsS Z H' p (S'.take S.length) := by
          refine ⟨by rw [List.length_take]; omega, hS.nd, hS.dj, hS.dg, fun a h => ee.t a (hS.wt a h), fun k a d0 h1 h2 => ?_⟩
          have lk : k < S.length := by have := (List.getElem?_eq_some_iff.mp h1).1; omega
          have h3 : S'[k]? = some d0 := by
            rw [List.getElem?_take] at h2
            rw [if_pos lk] at h2
            exact h2
          have h4 : p'.α[k]? = some a := by
            rw [eα, List.getElem?_append_left (by omega)]
            exact h1
          exact IsTop.low (n := S.length) hα hs (lowLs_at low h2) (s.at_ k a d0 h4 h3)
        have ext : ExtE H p H' p := ⟨⟨[], by simp⟩, rfl, rfl, ee.k, ee.t⟩
        exact q H' p ext isS v ((frzN_is s hs hnew 40 d e v ez).1 hv)
end Zd
namespace Zd
open PySem PySem.Spec PyProof.Rows L2 Zg
section
variable {X : Cx} {pins : List (Addr × Obj)} {σ : L2.St} {H : Hp} {s : Shared}
theorem plain_seq (I : Inv X pins σ H s) {a : Addr} {xs : List V} (h : PlT H a xs ∨ TupC X.K a xs) : ∃ its : List Value, Vals xs its ∧ xs.length ≤ sizeLine ∧ PlainSeq "tuple" s.heap a its.toArray := by
  rcases h with ⟨o, h, d⟩ | ⟨o, its, n, hl, hc, hd, hdat, hz, r⟩
  · obtain ⟨g, z, its, r, o', g', c, n, e⟩ := I.hok a _ h
    rw [g] at g'
    cases g'
    exact ⟨its, r, z, o, n, g, c, d, e⟩
  · exact ⟨its.toList, r, by rw [r.length]; simpa using hz, o, n, I.kIn _ _ hl, hc, hd, by simpa using hdat⟩
theorem pairsV (I : Inv X pins σ H s) : ∀ {ps : List Addr} {kvs : List (Key × V)}, Paired (fun p kv => SqT X.K H p [kV kv.1, kv.2]) ps kvs →
    ∃ (prs : List (Key × Value)) (vv : List (Value × Value)), KV kvs prs ∧ prs.length = ps.length ∧ vv.length = ps.length ∧ ∀ (j : Nat) (k v : Value), vv[j]? = some (k, v) → ∃ b, ps[j]? = some b ∧ IsTup s.heap b #[k, v] ∧ ∃ q, prs[j]? = some (q, v) ∧ keyIs q k = true
  | _, _, .nil => ⟨[], [], .nil, rfl, rfl, fun j k v e => by simp at e⟩
  | _, _, .cons (a := p) (b := kv) h t => by
    obtain ⟨prs, vv, r, l1, l2, f⟩ := pairsV I t
    obtain ⟨its, rv, ht, _⟩ := I.tuple h
    obtain ⟨u, y, rfl, ru, ry⟩ := vals2 rv
    refine ⟨(kv.1, y) :: prs, (u, y) :: vv, .cons ⟨rfl, ry⟩ r, by rw [List.length_cons, List.length_cons, l1], by rw [List.length_cons, List.length_cons, l2], fun j k v e => ?_⟩
    cases j with
    | zero =>
      cases Option.some.inj e
      exact ⟨p, rfl, ht, kv.1, rfl, kV_is (P := X.prog) (w := X.w) ru⟩
    | succ j => exact f j k v e
theorem call_dictT (hcalm : X.calm = true) : CallR X (.type "dict") (fun xs H Q => ∃ (a : Addr) (ps : List Addr) (kvs : List (Key × V)), xs = [.ref a] ∧ (PlT H a (ps.map V.ref) ∨ TupC X.K a (ps.map V.ref)) ∧ Paired (fun p kv => SqT X.K H p [kV kv.1, kv.2]) ps kvs ∧
    ∀ p, H p = none → Q (.ref p) (upd H p (.dK (mergeK [] kvs)))) := fun pins s σ H xs us Q I r h => by
  obtain ⟨a, ps, kvs, rfl, hq, hp, q⟩ := h
  obtain ⟨u, rfl, rx⟩ := vals1 r
  cases rx
  obtain ⟨its, rv, hz, pl⟩ := plain_seq I hq
  have ei := refs_at rv
  subst ei
  obtain ⟨prs, vv, rel, l1, l2, f⟩ := pairsV I hp
  rw [List.length_map] at hz
  have pi : PairItems s.heap (ps.map Value.ref).toArray (fun j => (ps[j]?).getD 0) vv := ⟨by simp [l2], fun j k v e => by
    obtain ⟨b, e1, e2, _⟩ := f j k v e
    dsimp only
    rw [e1]
    exact ⟨by simp [e1], .inl e2⟩⟩
  refine PySem.call_dict_pairs (knd := mixKind X.prog X.w) (kvs := prs) (PairArg.tuple a (ps.map Value.ref).toArray (fun j => (ps[j]?).getD 0) vv) (I.ok.hd hcalm) ⟨pl, pi⟩ ⟨by rw [l1, l2], fun i key v e => ?_⟩ (by rw [l2]; exact hz) fun h' tk hd' k => ?_
  · obtain ⟨b, e1, e2, q', e3, e4⟩ := f i key v e
    exact ⟨q', e3, e4⟩
  · have hm : (s.heap.objs.size == sysModules) = false := beq_eq_false_iff_ne.mpr (Nat.ne_of_gt I.big)
    have hlen : (mergeK [] kvs).length ≤ sizeLine := by
      refine Nat.le_trans (length_mergeK kvs []) ?_
      rw [List.length_nil, Nat.zero_add, rel.length, l1]
      exact hz
    exact ⟨.ref s.heap.objs.size, _, I.laid (t' := tk) (o := .dK (mergeK [] kvs)) (fun b o e => k b o nofun e) (Nat.le_refl _) ⟨hlen, hm, merged [] prs, KV.merge rel .nil, hd'⟩, rfl, q _ (I.hok.fresh (Nat.le_refl _))⟩
end
section
variable {Z : Cz} {Er : ErW} {O : List Nat}
def dDictT (ds : List Dat) : M Dat := match ds with
  | [.tup xs] => M.opt (pairsD xs) >>= fun ps => pure (.dic (mergeD [] [] ps).1 (mergeD [] [] ps).2)
  | _ => M.no
theorem c_dictT : JC Z (IsDs Z) (IsD Z) (fun xs H Q => ∃ (a : Addr) (ps : List Addr) (kvs : List (Key × V)), xs = [.ref a] ∧ (PlT H a (ps.map V.ref) ∨ TupC Z.K a (ps.map V.ref)) ∧ Paired (fun p kv => SqT Z.K H p [kV kv.1, kv.2]) ps kvs ∧ ∀ p, H p = none → Q (.ref p) (L2.upd H p (.dK (mergeK [] kvs)))) dDictT := fun x d Er H p S Q hx s q => by
  unfold dDictT at q
  split at q
  · obtain ⟨ps, ep, q⟩ := q.opt
    obtain ⟨v, rfl, hv⟩ := isDs_one hx
    obtain ⟨a, vs, rfl, h1, h2⟩ := isD_tup.mp hv
    obtain ⟨as, qs, e1, e2, e3, e4⟩ := pairs_rel ep h2
    rw [e1] at h1
    refine ⟨a, as, qs, rfl, h1.imp (fun z => z.1) id, e2, fun l nl => ?_⟩
    obtain ⟨ws, k1, k2, k3⟩ := merge_rel (ks := []) (ds := []) (vs := []) rfl (isDs_nil.mpr rfl) e3 e4
    have k1 : mergeK [] qs = (mergeD [] [] ps).1.zip ws := k1
    rw [k1]
    refine q.at_new s nl _ (isD_dic.mpr ⟨l, ws, rfl, ⟨upd_same, ?_⟩, k2, k3.ext (ExtE.new nl).s⟩)
    exact no_has s nl
  · exact (bad_no (S := S) q).elim
end
end Zd
namespace Zd
open PySem PySem.Spec PyProof.Rows L2
theorem mul_self (l : Addr) (vs : Array Value) (n : Nat) (dd : Option Addr) (sl : Array (Option Value)) (u : Tok) :
    Meets (Builtin.«tuple.__mul__» ⟨[.ref l, .int 1 u], []⟩) (fun _ R s => s.heap.get? l = some { cls := .type "tuple", dict := dd, data := .seq vs n, slots := sl } ∧ R (.ok (.ret (.ref l))) s) := .of_wp fun prog w A R s h => by
  obtain ⟨hp, g, d, tk, os⟩ := s
  obtain ⟨hl, h⟩ := h
  have k0 : (decide ((1 : Int) < -(2 ^ 63)) || decide ((1 : Int) ≥ 2 ^ 63)) = false := by decide
  have k1 : (vs.isEmpty || (1 : Int) == 1) = true := by rw [show ((1 : Int) == 1) = true from rfl, Bool.or_true]
  wp_walk using wpAny_loadPart' hl
  repeat (first
    | (refine wpAny_ite_false (decide_eq_false (by rw [k0]; exact nofun)) ?_; wp_walk using wpAny_loadPart' hl)
    | (refine wpAny_ite_true (decide_eq_true k1) ?_; wp_walk using wpAny_loadPart' hl))
  exact ⟨_, rfl, h⟩
def rRepA (K : PySem.W.Frag) : R2 := fun x y H Q => ∃ a n vs, x = .ref a ∧ y = .int n ∧ SqT K H a vs ∧ vs ≠ [] ∧ 1 ≤ n ∧ n ≤ 1000 ∧ vs.length ≤ 1000 ∧ (n = 1 → Q (.ref a) H) ∧ (2 ≤ n → NewT (List.replicate n.toNat vs).flatten H Q)
section
variable {X : Cx}
theorem op_repA : OpR X (binaryOp .Mult) (rRepA X.K) := fun pins s σ H x y v u Q I rx ry h => by
  obtain ⟨a, n, vs, rfl, rfl, hT, ne, n1, n2, lv, q1, q2⟩ := h
  cases rx
  obtain ⟨t, rfl⟩ := ry
  obtain ⟨its, r, ⟨⟨cl, dd, dat, sl⟩, ho, hc, m, hd⟩, hs⟩ := I.tuple hT
  simp only at hc hd
  subst hc
  subst hd
  have len : its.length = vs.length := r.length.symm
  have ni : its ≠ [] := fun z => ne (by
    rw [z] at len
    exact List.eq_nil_of_length_eq_zero len.symm)
  have em : its.toArray.isEmpty = false := by
    cases its with
    | nil => exact absurd rfl ni
    | cons _ _ => rfl
  have sz : its.toArray.size = vs.length := by rw [List.size_toArray, len]
  refine wpAny_binaryOp_repeat_ref (U := "int") (T := "tuple") (by decide) ⟨_, ho, rfl⟩ (fun s2 => typeIs_int s2 n t) noFill_tuple_mul F.fills_int_mul
    F.slot_int_rmul repeat_tuple F.slot_int_index.lookup (call_meets F.slot_int_rmul (typeIs_int s n t) F.entry_int_rmul
      (F.args_int_rmul_2 _ _) (int_rmul_tuple n t a its.toArray m dd sl) ⟨ho, rfl, ⟨_, ho, rfl⟩, ?_⟩)
  by_cases e1 : n = 1
  · subst e1
    refine (call_meets F.slot_tuple_mul ⟨_, ho, rfl⟩ F.entry_tuple_mul (F.args_tuple_mul_2 _ _)
      (mul_self a its.toArray m dd sl t) ⟨ho, ?_⟩)
    exact ⟨.ref a, H, I, rfl, q1 rfl⟩
  · have g2 : 2 ≤ n := by omega
    have prod : ((its.toArray.size : Nat) : Int) * n ≤ 1000000 := by
      rw [sz]
      have z : ((vs.length : Nat) : Int) * n ≤ 1000 * n := Int.mul_le_mul_of_nonneg_right (by omega) (by omega)
      omega
    have big : (List.replicate n.toNat its).flatten.length ≤ sizeLine := by
      rw [PyProof.Rows.lm_len_rep_flat, len]
      have z : n.toNat * vs.length ≤ 1000 * 1000 := Nat.mul_le_mul (by omega) lv
      have := sizeLine_eq
      omega
    have b0 : (decide (n < -(2 ^ 63)) || decide (n ≥ 2 ^ 63)) = false := by rw [decide_eq_false (by omega), decide_eq_false (by omega)]; rfl
    have b1 : (its.toArray.isEmpty || n == 1) = false := by rw [em, Bool.false_or, beq_eq_false_iff_ne]; exact e1
    have b2 : (decide (n ≤ 0) || its.toArray.isEmpty) = false := by rw [em, Bool.or_false, decide_eq_false (by omega)]
    have b4 : Builtin.Tuple.tupleTooMany (((its.toArray.size : Nat) : Int) * n) = false := by
      unfold Builtin.Tuple.tupleTooMany
      have := sizeLine_eq
      exact decide_eq_false (by omega)
    refine (call_meets F.slot_tuple_mul ⟨_, ho, rfl⟩ F.entry_tuple_mul (F.args_tuple_mul_2 _ _)
      (tuple_mulW a its.toArray m dd sl n t b0 b1 b2 (by omega) b4 (by rw [size_rep, List.size_toArray]; exact big)) ⟨ho, ?_⟩)
    rw [size_rep]
    exact lay_tup I (r.rep n.toNat) (by
      rw [PyProof.Rows.lm_len_rep_flat]
      have z : n.toNat * vs.length ≤ 1000 * 1000 := Nat.mul_le_mul (by omega) lv
      have := sizeLine_eq
      omega) (q2 g2)
end
end Zd
namespace Zd
open PySem PySem.Spec PyProof.Rows L2
mutual
def dBeq : Dat → Dat → Bool
  | .non, .non => true
  | .bl a, .bl b => decide (a = b)
  | .int a, .int b => decide (a = b)
  | .str a, .str b => decide (a = b)
  | .tup a, .tup b => dsBeq a b
  | .lst a, .lst b => dsBeq a b
  | .dic k a, .dic l b => decide (k = l) && dsBeq a b
  | .obj c f a, .obj d g b => (decide (c = d) && decide (f = g)) && dsBeq a b
  | .loc a, .loc b => decide (a = b)
  | .ty a, .ty b => decide (a = b)
  | .cls a, .cls b => decide (a = b)
  | .scr a, .scr b => decide (a = b)
  | _, _ => false
def dsBeq : List Dat → List Dat → Bool
  | [], [] => true
  | d :: ds, e :: es => dBeq d e && dsBeq ds es
  | _, _ => false
end
mutual
theorem dBeq_eq : ∀ (d e : Dat), dBeq d e = true → d = e
  | .non, e, h => by cases e <;> first | rfl | (simp [dBeq] at h)
  | .bl a, e, h => by cases e <;> first | (simp [dBeq] at h; rw [h]; done) | (simp [dBeq] at h)
  | .int a, e, h => by cases e <;> first | (simp [dBeq] at h; rw [h]; done) | (simp [dBeq] at h)
  | .str a, e, h => by cases e <;> first | (simp [dBeq] at h; rw [h]; done) | (simp [dBeq] at h)
  | .tup a, e, h => by
    cases e with
    | tup b => rw [dBeq] at h; rw [dsBeq_eq a b h]
    | _ => simp [dBeq] at h
  | .lst a, e, h => by
    cases e with
    | lst b => rw [dBeq] at h; rw [dsBeq_eq a b h]
    | _ => simp [dBeq] at h
  | .dic k a, e, h => by
    cases e with
    | dic l b =>
      rw [dBeq, Bool.and_eq_true, decide_eq_true_eq] at h
      rw [h.1, dsBeq_eq a b h.2]
    | _ => simp [dBeq] at h
  | .obj c f a, e, h => by
    cases e with
    | obj d g b =>
      rw [dBeq, Bool.and_eq_true, Bool.and_eq_true, decide_eq_true_eq, decide_eq_true_eq] at h
      rw [h.1.1, h.1.2, dsBeq_eq a b h.2]
    | _ => simp [dBeq] at h
  | .loc a, e, h => by cases e <;> first | (simp [dBeq] at h; rw [h]; done) | (simp [dBeq] at h)
  | .ty a, e, h => by cases e <;> first | (simp [dBeq] at h; rw [h]; done) | (simp [dBeq] at h)
  | .cls a, e, h => by cases e <;> first | (simp [dBeq] at h; rw [h]; done) | (simp [dBeq] at h)
  | .scr a, e, h => by cases e <;> first | (simp [dBeq] at h; rw [h]; done) | (simp [dBeq] at h)
theorem dsBeq_eq : ∀ (ds es : List Dat), dsBeq ds es = true → ds = es
  | [], es, h => by
    cases es with
    | nil => rfl
    | cons _ _ => simp [dsBeq] at h
  | d :: ds, es, h => by
    cases es with
    | nil => simp [dsBeq] at h
    | cons e es =>
      rw [dsBeq, Bool.and_eq_true] at h
      rw [dBeq_eq d e h.1, dsBeq_eq ds es h.2]
end
mutual
theorem dBeq_refl : ∀ (d : Dat), dBeq d d = true
  | .non => rfl
  | .bl a => by simp [dBeq]
  | .int a => by simp [dBeq]
  | .str a => by simp [dBeq]
  | .tup a => by rw [dBeq]; exact dsBeq_refl a
  | .lst a => by rw [dBeq]; exact dsBeq_refl a
  | .dic k a => by rw [dBeq, dsBeq_refl a]; simp
  | .obj c f a => by rw [dBeq, dsBeq_refl a]; simp
  | .loc a => by simp [dBeq]
  | .ty a => by simp [dBeq]
  | .cls a => by simp [dBeq]
  | .scr a => by simp [dBeq]
theorem dsBeq_refl : ∀ (ds : List Dat), dsBeq ds ds = true
  | [] => rfl
  | d :: ds => by rw [dsBeq, dBeq_refl d, dsBeq_refl ds]; rfl
end
def chkLo (n : Nat) (ds : List Dat) : M Unit := fun S => match S[n]? with
  | some e => match dBeq e (.lst ds) with
    | true => .ok () S
    | false => .bad
  | none => .bad
def lstLo (n : Nat) : M (List Dat) := fun S => match S[n]? with
  | some (.lst ds) => .ok ds S
  | _ => .bad
section
variable {Z : Cz} {Er : ErW} {O : List Nat} {te ta tb tc : TE} {ts : TS} {tl : TA} {tt : TT} {m m1 m2 m3 : Env → M Dat} {mb : Env → M Bool} {ml : Env → M (List Dat)} {ms : Env → M Flow}
theorem chk_cases {n : Nat} {ds : List Dat} {S : List Dat} : (chkLo n ds S = .ok () S ∧ S[n]? = some (.lst ds)) ∨ chkLo n ds S = .bad := by
  unfold chkLo
  cases e : S[n]? with
  | none => exact .inr rfl
  | some x =>
    dsimp only
    cases b : dBeq x (.lst ds) with
    | false => exact .inr rfl
    | true => exact .inl ⟨rfl, by rw [dBeq_eq _ _ b]⟩
theorem lst_cases {n : Nat} {S : List Dat} : (∃ ds, lstLo n S = .ok ds S ∧ S[n]? = some (.lst ds)) ∨ lstLo n S = .bad := by
  unfold lstLo
  cases e : S[n]? with
  | none => exact .inr rfl
  | some x =>
    cases x with
    | lst ds => exact .inl ⟨ds, rfl, rfl⟩
    | _ => exact .inr rfl
end
end Zd
namespace Zd
open PySem PySem.Spec PyProof.Rows L2
theorem filterMap_same {α β : Type} {f g : α → Option β} : ∀ {l : List α}, (∀ x, x ∈ l → f x = g x) → l.filterMap f = l.filterMap g
  | [], _ => rfl
  | x :: l, h => by
    have ih := filterMap_same fun y m => h y (List.mem_cons_of_mem _ m)
    rw [List.filterMap_cons, List.filterMap_cons, h x List.mem_cons_self, ih]
theorem tuple_mul0 (l : Addr) (vs : Array Value) (n : Nat) (dd : Option Addr) (sl : Array (Option Value)) (x : Int) (u : Tok) (c0 : (decide (x < -(2 ^ 63)) || decide (x ≥ 2 ^ 63)) = false) (c1 : (vs.isEmpty || x == 1) = false) (c2 : (decide (x ≤ 0) || vs.isEmpty) = true) :
    Meets (Builtin.«tuple.__mul__» ⟨[.ref l, .int x u], []⟩) (fun _ R s => s.heap.get? l = some { cls := .type "tuple", dict := dd, data := .seq vs n, slots := sl } ∧
      R (.ok (.ret (Value.ref s.heap.objs.size))) { s with heap := s.heap.push { cls := Value.type "tuple", data := Data.seq #[] }, toks := s.toks }) :=
  .of_wp fun prog w A R s h => by
    obtain ⟨hp, g, d, tk, os⟩ := s
    obtain ⟨hl, h⟩ := h
    have f1 := AutoSeq1.idx_int
    wp_walk using wpAny_loadPart' hl
    repeat (first
      | (refine wpAny_ite_false (decide_eq_false (by rw [c0]; exact Bool.false_ne_true)) ?_; wp_walk using wpAny_loadPart' hl)
      | (refine wpAny_ite_false (decide_eq_false (by rw [c1]; exact Bool.false_ne_true)) ?_; wp_walk using wpAny_loadPart' hl)
      | (refine wpAny_ite_true (decide_eq_true c2) ?_; wp_walk using wpAny_loadPart' hl))
    exact ⟨_, rfl, h⟩
def rRepB (K : PySem.W.Frag) : R2 := fun x y H Q => ∃ a n vs, x = .ref a ∧ y = .int n ∧ SqT K H a vs ∧ vs ≠ [] ∧ -1000 ≤ n ∧ n ≤ 1000 ∧ vs.length ≤ 1000 ∧ (n = 1 → Q (.ref a) H) ∧ (n ≤ 0 → NewT [] H Q) ∧ (2 ≤ n → NewT (List.replicate n.toNat vs).flatten H Q)
section
variable {X : Cx}
theorem op_repB : OpR X (binaryOp .Mult) (rRepB X.K) := fun pins s σ H x y v u Q I rx ry h => by
  obtain ⟨a, n, vs, rfl, rfl, hT, ne, n0, n2, lv, q1, q0, q2⟩ := h
  by_cases n1 : 1 ≤ n
  · exact op_repA pins s σ H _ _ v u Q I rx ry ⟨a, n, vs, rfl, rfl, hT, ne, n1, n2, lv, q1, q2⟩
  · cases rx
    obtain ⟨t, rfl⟩ := ry
    obtain ⟨its, r, ⟨⟨cl, dd, dat, sl⟩, ho, hc, m, hd⟩, hs⟩ := I.tuple hT
    simp only at hc hd
    subst hc
    subst hd
    have len : its.length = vs.length := r.length.symm
    have ni : its ≠ [] := fun z => ne (by
      rw [z] at len
      exact List.eq_nil_of_length_eq_zero len.symm)
    have em : its.toArray.isEmpty = false := by
      cases its with
      | nil => exact absurd rfl ni
      | cons _ _ => rfl
    have b0 : (decide (n < -(2 ^ 63)) || decide (n ≥ 2 ^ 63)) = false := by rw [decide_eq_false (by omega), decide_eq_false (by omega)]; rfl
    have b1 : (its.toArray.isEmpty || n == 1) = false := by rw [em, Bool.false_or, beq_eq_false_iff_ne]; omega
    have b2 : (decide (n ≤ 0) || its.toArray.isEmpty) = true := by rw [decide_eq_true (by omega)]; rfl
    refine wpAny_binaryOp_repeat_ref (U := "int") (T := "tuple") (by decide) ⟨_, ho, rfl⟩ (fun s2 => typeIs_int s2 n t) noFill_tuple_mul F.fills_int_mul
      F.slot_int_rmul repeat_tuple F.slot_int_index.lookup (call_meets F.slot_int_rmul (typeIs_int s n t) F.entry_int_rmul
        (F.args_int_rmul_2 _ _) (int_rmul_tuple n t a its.toArray m dd sl) ⟨ho, rfl, ⟨_, ho, rfl⟩, ?_⟩)
    refine (call_meets F.slot_tuple_mul ⟨_, ho, rfl⟩ F.entry_tuple_mul (F.args_tuple_mul_2 _ _)
      (tuple_mul0 a its.toArray m dd sl n t b0 b1 b2) ⟨ho, ?_⟩)
    exact lay_tup I (xs := []) (its := []) .nil (Nat.zero_le _) (q0 (by omega))
end
def dRepB (d e : Dat) : M Dat := match d, e with
  | .tup xs, .int n => M.need (decide (-1000 ≤ n ∧ n ≤ 1000) && (decide (xs.length ≤ 1000) && !xs.isEmpty)) >>= fun _ => pure (.tup (List.replicate n.toNat xs).flatten)
  | _, _ => M.no
theorem r_repB {Z : Cz} : JRD Z (rRepB Z.K) dRepB := fun x y d e Er H p S Q hx hy s q => by
  unfold dRepB at q
  split at q
  · rename_i xs n
    obtain ⟨c, q⟩ := q.need
    simp only [Bool.and_eq_true, decide_eq_true_eq, Bool.not_eq_true'] at c
    obtain ⟨a, vs, rfl, h1, h2⟩ := isD_tup.mp hx
    refine ⟨a, n, vs, rfl, isD_int.mp hy, h1.sq, fun z => ?_, c.1.1, c.1.2, by rw [h2.len]; exact c.2.1, fun n1 => ?_, fun n0 t o nt nd => ?_, fun _ t o nt nd => q.at_new s nt _ (new_tup s nt nd (h2.rep _))⟩
    · subst z
      have := h2.len
      cases xs with
      | nil => cases c.2.2
      | cons _ _ => cases this
    · subst n1
      have e : (List.replicate (1 : Int).toNat xs).flatten = xs := by
        show (List.replicate 1 xs).flatten = xs
        rw [List.replicate_succ, List.replicate_zero, List.flatten_cons, List.flatten_nil, List.append_nil]
      rw [e] at q
      exact q.pure xE s _ hx
    · have e : (List.replicate n.toNat xs).flatten = [] := by
        rw [show n.toNat = 0 by omega]
        rfl
      rw [e] at q
      exact q.at_new s nt _ (new_tup s nt nd (isDs_nil.mpr rfl))
  · exact (bad_no q).elim
theorem hu64 {k : Nat} {A : Around} (r : Room k A) : A.units + 64 < cLine := by
  have := hu70 r
  omega
theorem r_isB2 {Z : Cz} : JRD Z (fun x y H Q => ∃ a b, x = .bl a ∧ y = .bl b ∧ Q (.bl (!decide (a = b))) H) (dIsB true) := fun x y d e Er H p S Q hx hy s q => by
  unfold dIsB at q
  split at q
  · rename_i a b
    have e : (true != decide (a = b)) = !decide (a = b) := Bool.true_bne _
    rw [e] at q
    exact ⟨_, _, isD_bl.mp hx, isD_bl.mp hy, q.pure xE s _ (isD_bl.mpr rfl)⟩
  · exact (bad_no (S := S) q).elim
section
variable {prog : Program} {w : World} {A : Around} {E : Value → Shared → Prop} {s : Shared}
theorem adjust_rev (n : Nat) : Builtin.Slice.sliceAdjust none none (-1) (n : Int) = ((n : Int) - 1, -1) := by
  unfold Builtin.Slice.sliceAdjust
  simp
theorem places_rev (n : Nat) : Builtin.Slice.slicePlaces ((n : Int) - 1) (-1) (-1) = n := by
  unfold Builtin.Slice.slicePlaces
  simp
  omega
theorem sliceApplied_rev {sl : Addr} {vl vu vs : Value} {n : Nat} {Q : Int × Int × Nat → Shared → Prop} (hs : s.heap.IsSliceOf sl vl vu vs) (pl : IsPart vl none) (pu : IsPart vu none) (ps : IsPart vs (some (-1)))
    (h : Q ((n : Int) - 1, -1, n) s) : wpAny (model prog w) A (Builtin.Slice.sliceApplied (.ref sl) (pure (n : Int))) Q E s := by
  obtain ⟨os, hos, hcs, hds⟩ := id hs
  unfold Builtin.Slice.sliceApplied Builtin.Slice.sliceFields
  refine wpAny_bind (wpAny_bind (wpAny_field hos hds (x := vl) rfl (wpAny_bind (wpAny_field hos hds (x := vu) rfl (wpAny_bind (wpAny_field hos hds (x := vs) rfl (wpAny_pure ?_)))))))
  refine wpAny_bind (HT.slicePart_ ps ?_)
  show wpAny _ _ (if ((-1 : Int) == 0) = true then _ else _) _ _ s
  rw [if_neg (by decide)]
  refine wpAny_bind (HT.slicePart_ pl (wpAny_bind (HT.slicePart_ pu (wpAny_bind (wpAny_pure ?_)))))
  show wpAny _ _ (match Builtin.Slice.sliceAdjust none none (-1) (n : Int) with | (lo, hi) => pure (lo, (-1 : Int), Builtin.Slice.slicePlaces lo hi (-1))) _ _ s
  rw [adjust_rev n]
  show wpAny _ _ (pure ((n : Int) - 1, (-1 : Int), Builtin.Slice.slicePlaces ((n : Int) - 1) (-1) (-1))) _ _ s
  rw [places_rev]
  exact wpAny_pure h
theorem pick_rev (xs : Array Value) : ((List.range xs.size).filterMap fun (k : Nat) => xs[((xs.size : Int) - 1 + (k : Int) * (-1)).toNat]?).toArray = xs.toList.reverse.toArray := by
  have h1 : (List.range xs.size).filterMap (fun (k : Nat) => xs[((xs.size : Int) - 1 + (k : Int) * (-1)).toNat]?) = ((List.range xs.size).map fun k => xs.size - 1 - k).filterMap (xs[·]?) := by
    rw [List.filterMap_map]
    refine filterMap_same fun k hk => ?_
    have hk := List.mem_range.mp hk
    show xs[((xs.size : Int) - 1 + (k : Int) * (-1)).toNat]? = xs[xs.size - 1 - k]?
    rw [show ((xs.size : Int) - 1 + (k : Int) * (-1)).toNat = xs.size - 1 - k by omega]
  rw [h1, PySem.W.krv_range]
  rw [List.filterMap_reverse, PySem.W.krv_all]
theorem getItem_tuple_rev {t sl : Addr} {items : Array Value} {vl vu vs : Value} {Q : Value → Shared → Prop} (ht : IsTup s.heap t items) (hs : s.heap.IsSliceOf sl vl vu vs) (pl : IsPart vl none) (pu : IsPart vu none) (ps : IsPart vs (some (-1)))
    (h : Q (.ref s.heap.objs.size) { s with heap := s.heap.push { cls := .type "tuple", data := .seq items.toList.reverse.toArray } })
    (hsz : items.size ≤ sizeLine) : wpAny (model prog w) A (getItem (.ref t) (.ref sl)) Q E s := by
  have htake : sizeOk (.seq items.toList.reverse.toArray) := by
    show items.toList.reverse.toArray.size ≤ sizeLine
    rw [List.size_toArray, List.length_reverse, Array.length_toList]
    exact hsz
  obtain ⟨os, hos, hcs, hds⟩ := id hs
  have hTs : s.TypeIs (.ref sl) "slice" := ⟨os, hos, hcs⟩
  unfold getItem
  try with_reducible refine wpAny_holding ?_
  first | refine wpAny_bind (wpAny_pure ?_) | skip
  refine wpAny_bind (wpAny_sequenceKey ht.typeIs (by decide) ?_)
  refine wpAny_bind (wpAny_callSpecial?_slot (name := Str.ofString "__getitem__") ht.typeIs PyProof.Rows.slot_tuple_getitem
    (wpAny_call_entry PyProof.Rows.slot_tuple_getitem ht.typeIs entry_tuple_getitem ?_ (args_tuple_getitem _ _)))
  show wpAny _ _ (Builtin.Tuple.tupleItemsOf (.ref t) >>= _) _ _ s
  refine wpAny_bind (PyProof.Rows.tupleItemsOf_ ht ?_)
  refine wpAny_bind (wpAny_typeOf hTs ?_)
  rw [if_pos (by decide)]
  refine wpAny_bind (sliceApplied_rev (n := items.size) hs pl pu ps ?_)
  have hno : ¬ ((((items.size : Int) - 1) == 0 && (-1 : Int) == 1 && items.size == items.size) = true) := by
    intro q
    rw [Bool.and_eq_true, Bool.and_eq_true] at q
    exact absurd q.1.2 (by decide)
  show wpAny _ _ (if (((items.size : Int) - 1) == 0 && (-1 : Int) == 1 && items.size == items.size) = true then _ else _) _ _ s
  rw [if_neg hno, pick_rev]
  first
    | exact wpAny_bind (m := Builtin.Tuple.tupleExact _) (wpAny_newObj_type (wpAny_pure ⟨_, rfl, wpAny_pure h⟩) htake)
    | exact wpAny_bind (m := Builtin.Tuple.tupleExact _) (wpAny_newObj_type (wpAny_bind (wpAny_pure (wpAny_pure ⟨_, rfl, wpAny_pure h⟩))) htake)
    | exact wpAny_bind (wpAny_bind (m := Builtin.Tuple.tupleExact _) (wpAny_newObj_type (wpAny_pure (wpAny_pure ⟨_, rfl, wpAny_pure h⟩)) htake))
    | exact wpAny_bind (wpAny_bind (m := Builtin.Tuple.tupleExact _) (wpAny_newObj_type (wpAny_pure ⟨_, rfl, wpAny_pure h⟩) htake))
end
def tRevT (K : PySem.W.Frag) (te : TE) : TE := fun σ H Q => te σ H fun x H1 => ∃ a xs, x = .ref a ∧ SqT K H1 a xs ∧ NewT xs.reverse H1 Q
section
variable {X : Cx}
theorem pe_revT {e : Expr} {te : TE} {k : Nat} {p1 p2 p3 pos : Pos} (he : PE X e te) : PE X (.Subscript e (.Slice none none (some (.UnaryOp .USub (.Constant (.int 1) k p1) p2)) p3) pos) (tRevT X.K te) := by
  refine ⟨fun pins s σ H Q I h => ?_⟩
  refine Subscript_ (thn (he.run pins s σ H _ I h) fun v s1 ⟨x, H1, I1, r1, q1⟩ => ?_)
  obtain ⟨a, xs, ex, hx, q⟩ := q1
  subst ex
  cases r1
  have hst : PO X (some (.UnaryOp .USub (.Constant (.int 1) k p1) p2)) (tPart (tUn (rU fun i => .int (-i)) (tC (.int 1)))) := po_some (pe_un un_neg pe_int)
  refine wpAny_Slice (thn (po_none.run pins s1 σ H1 (fun o H2 => o = none ∧ H2 = H1) I1 ⟨rfl, rfl⟩) fun vl s2 ⟨l, H2, I2, pl, el, e2⟩ => ?_)
  subst el e2
  refine thn (po_none.run pins s2 σ H2 (fun o H3 => o = none ∧ H3 = H2) I2 ⟨rfl, rfl⟩) fun vu s3 ⟨u, H3, I3, pu, eu, e3⟩ => ?_
  subst eu e3
  refine thn (hst.run pins s3 σ H3 (fun o H4 => o = some (-1) ∧ H4 = H3) I3 ⟨1, rfl, -1, rfl, rfl, rfl⟩) fun vs s4 ⟨o, H4, I4, ps, eo, e4⟩ => ?_
  subst eo e4
  have I5 : Inv X pins σ H4 { s4 with heap := s4.heap.push { cls := .type "slice", data := .fields #[vl, vu, vs] } } := I4.kept (t' := s4.toks) fun b ob q => Heap.get?_push_of_some _ q
  obtain ⟨its, r, ht, hz⟩ := I5.tuple hx
  have hlen : its.toArray.size = xs.length := by rw [List.size_toArray]; exact r.length.symm
  show wpAny (model X.prog X.w) X.A (subscriptTail e (.Slice none none (some (.UnaryOp .USub (.Constant (.int 1) k p1) p2)) p3) (.ref a) (.ref s4.heap.objs.size)) (EP X pins σ Q) X.xe { s4 with heap := s4.heap.push { cls := .type "slice", data := .fields #[vl, vu, vs] } }
  refine tail_any (ops := [.ref a, .ref s4.heap.objs.size]) ht.typeIs (PyProof.Rows.slot_tuple_getitem.lookup) ?_ (by with_unfolding_all rfl)
  refine getItem_tuple_rev ht (Heap.IsSliceOf.new _ vl vu vs) pl pu ps ?_ (by rw [hlen]; exact hz)
  exact lay_tup I5 r.reverse (by rw [List.length_reverse]; exact hz) q
end
def dRevT (d : Dat) : M Dat := match d with
  | .tup xs => pure (.tup xs.reverse)
  | _ => M.no
section
variable {Z : Cz} {Er : ErW} {O : List Nat} {te : TE} {m : Env → M Dat}
theorem j_revT (h : JD Z Er O te m) : JD Z Er O (tRevT Z.K te) (xUn dRevT m) := fun σ H p ρ S Q hE hS q =>
  h σ H p ρ S _ hE hS ((q.bnd xE).mono fun d S1 H1 p1 e1 s1 q1 v hv => by
    unfold dRevT at q1
    split at q1
    · rename_i xs
      obtain ⟨a, vs, rfl, h1, h2⟩ := isD_tup.mp hv
      exact ⟨a, vs, rfl, h1.sq, fun t o nt nd => q1.at_new s1 nt _ (new_tup s1 nt nd h2.rev)⟩
    · exact (bad_no q1).elim)
end
def forLo (n : Nat) (all : List Dat) (g : Env → Dat → Option Env) (b : Env → M Flow) : List Dat → Env → M Flow
  | [], ρ => chkLo n all >>= fun _ => pure (.nx ρ)
  | d :: ds, ρ => chkLo n all >>= fun _ => M.opt (g ρ d) >>= fun ρ1 => b ρ1 >>= fun f => match f with
    | .nx ρ2 => forLo n all g b ds ρ2
    | .ct ρ2 => forLo n all g b ds ρ2
    | .bk ρ2 => pure (.nx ρ2)
    | .rt d => pure (.rt d)
def sForLo (a : Env → M Dat) (g : Env → Dat → Option Env) (b : Env → M Flow) (ρ : Env) : M Flow := a ρ >>= fun d => M.opt (dLoc d) >>= fun n => lstLo n >>= fun ds => forLo n ds g b ds ρ
section
variable {Z : Cz} {Er : ErW} {O : List Nat} {te ta tb tc : TE} {ts : TS} {tl : TA} {tt : TT} {m m1 m2 m3 : Env → M Dat} {mb : Env → M Bool} {ml : Env → M (List Dat)} {ms : Env → M Flow}
theorem chk_postX {α : Type} {R : XR} {n : Nat} {ds : List Dat} {f : Unit → M α} {S : List Dat} {H : Hp} {p : Pl} {C : α → List Dat → Hp → Pl → Prop} (q : Post Z Er R ((chkLo n ds >>= f) S) H p C) : S[n]? = some (.lst ds) ∧ Post Z Er R (f () S) H p C := by
  rw [m_bind] at q
  rcases chk_cases (n := n) (ds := ds) (S := S) with ⟨h, e⟩ | h
  · rw [h] at q
    exact ⟨e, q⟩
  · rw [h] at q
    exact (show False from q).elim
theorem lst_postX {α : Type} {R : XR} {n : Nat} {f : List Dat → M α} {S : List Dat} {H : Hp} {p : Pl} {C : α → List Dat → Hp → Pl → Prop} (q : Post Z Er R ((lstLo n >>= f) S) H p C) : ∃ ds, S[n]? = some (.lst ds) ∧ Post Z Er R (f ds S) H p C := by
  rw [m_bind] at q
  rcases lst_cases (n := n) (S := S) with ⟨ds, h, e⟩ | h
  · rw [h] at q
    exact ⟨ds, e, q⟩
  · rw [h] at q
    exact (show False from q).elim
theorem js_forLo {g : TG} {gm : Env → Dat → Option Env} (ha : JD Z Er O ta m1) (hg : JG Z O g gm none) (hb : JS Z Er O ts ms) : JS Z Er O (tFor (iList Z.K ta) g ts) (sForLo m1 gm ms) := fun σ H p ρ S D hE hS q =>
  ha σ H p ρ S _ hE hS (q.bndE.mono fun d0 S1 H1 p1 e1 s1 q1 v hv => by
    obtain ⟨nn, en, q1⟩ := Post.opt q1
    rw [dLoc_is en] at hv
    obtain ⟨a, rfl, hα⟩ := isD_loc.mp hv
    obtain ⟨ds, et, q1⟩ := lst_postX q1
    obtain ⟨us, hus, _⟩ := s1.at_ nn a _ hα et
    refine ⟨a, rfl, ⟨us, SqL.of hus⟩, ?_⟩
    have hJ : ∀ (H' : Hp) (p' : Pl) (S' : List Dat) (i : Nat), (∃ β, p'.α = p1.α ++ β ∧ ∀ b ∈ β, H1 b = none) → IsS Z H' p' S' → S'[nn]? = some (.lst ds) →
        (i < ds.length → (Itl Z.K a).go i H' ∧ ∀ x Hx, (Itl Z.K a).yld i H' x Hx → Same H' Hx ∧ ∃ d, ds[i]? = some d ∧ IsD Z Hx p' x d) ∧ (ds.length = i → (Itl Z.K a).stop i H') := fun H' p' S' i pa s eS => by
      obtain ⟨β, eb, _⟩ := pa
      have hα2 : p'.α[nn]? = some a := by rw [eb, List.getElem?_append_left (List.getElem?_eq_some_iff.mp hα).1]; exact hα
      obtain ⟨xs, h1, h2⟩ := s.at_ nn a _ hα2 eS
      have h1 : SqL Z.K H' a xs := SqL.of h1
      refine ⟨fun lt => ?_, fun le => ⟨xs, h1, by rw [h2.len]; exact Nat.le_of_eq le⟩⟩
      have hi := List.getElem?_eq_getElem lt
      obtain ⟨v, g1, g2⟩ := h2.get hi
      refine ⟨⟨xs, v, h1, g1⟩, fun y Hx ⟨eq, k⟩ => ?_⟩
      subst eq
      have := k xs h1
      rw [g1] at this
      cases this
      exact ⟨Same.refl _, _, hi, g2⟩
    refine ⟨fun i n σ' H' => n = ds.length - i ∧ i ≤ ds.length ∧ ∃ p' ρ' S', Ext H1 p1 H' p' ∧ IsE Z O H' p' σ' ρ' ∧ IsS Z H' p' S' ∧ Post Z Er Ext (forLo nn ds gm ms (ds.drop i) ρ' S') H' p' (fun f _ H' p' => FlowOk Z O D f H' p'),
      ⟨_, rfl, Nat.zero_le _, p1, ρ, S1, Ext.refl, hE.ext e1 hS, s1, q1⟩, ?_⟩
    rintro i n σ' H' ⟨rfl, le, p', ρ', S', ex, hE', hS', q'⟩
    by_cases lt : i < ds.length
    · have qc := q'
      rw [drop_cons lt] at qc
      obtain ⟨eS, _⟩ := chk_postX qc
      have W := (hJ H' p' S' i ex.α hS' eS).1 lt
      refine .inr ⟨W.1, fun σ2 H2 => ∃ p2 ρ2 S2, Ext H1 p1 H2 p2 ∧ IsE Z O H2 p2 σ2 ρ2 ∧ IsS Z H2 p2 S2 ∧ Post Z Er Ext (forLo nn ds gm ms (ds.drop (i + 1)) ρ2 S2) H2 p2 (fun f _ H' p' => FlowOk Z O D f H' p'),
        fun σ2 H2 ⟨p2, ρ2, S2, a, b, c, d⟩ => ⟨_, by omega, rfl, lt, p2, ρ2, S2, a, b, c, d⟩, fun x Hx y => ?_⟩
      obtain ⟨sm, d, ed, hd⟩ := W.2 x Hx y
      have ed' : ds[i] = d := by
        rw [List.getElem?_eq_getElem lt] at ed
        exact Option.some.inj ed
      rw [drop_cons lt, ed'] at q'
      have q' := (chk_postX q').2
      have eN : ExtE H' p' Hx p' := ExtE.same sm
      have q2 := Post.up xS q' eN.s
      obtain ⟨ρ1, e, q3⟩ := q2.opt
      refine hg x σ' Hx p' ρ' d _ (hE'.ext eN hS') hd ⟨ρ1, e, fun σ1 hE1 _ => hb σ1 Hx p' ρ1 S' _ hE1 (hS'.ext sm) ((q3.bnd xS).mono fun f S2 H2 p2 e2 s2 q4 => ?_)⟩
      have exx := (ex.trans eN.s).trans e2
      cases f with
      | nx ρ2 => exact fun σ2 hE2 => ⟨p2, ρ2, S2, exx, hE2, s2, q4⟩
      | ct ρ2 => exact fun σ2 hE2 => ⟨p2, ρ2, S2, exx, hE2, s2, q4⟩
      | bk ρ2 => exact fun σ2 hE2 => Post.pure xS q4 s2 σ2 hE2
      | rt d2 => exact fun v hv => Post.pure xS q4 s2 v hv
    · have e : i = ds.length := by omega
      subst e
      rw [List.drop_length] at q'
      obtain ⟨eS, q'⟩ := chk_postX q'
      exact .inl ⟨(hJ H' p' S' _ ex.α hS' eS).2 rfl, Post.pure xS q' hS' σ' hE'⟩)
end
end Zd
namespace Zd
open PySem PySem.Spec PyProof.Rows L2 Zg
def top (i : Nat) : Stmt := PySem.Challenge.pw_widerkeys_k35_what_is_a_mark.main.body.getD i (.Pass ⟨0, 0, 0, 0⟩)
abbrev s_is_integer : Stmt := (top 5)
abbrev N_is_integer : List Str := ["value"]
abbrev P_is_integer : List Str := ["value"]
theorem sc_is_integer : FnScope N_is_integer P_is_integer (defScope s_is_integer) := ⟨rfl, rfl, rfl, by decide +kernel, rfl, by decide +kernel, by decide +kernel⟩
abbrev s_is_between : Stmt := (top 6)
abbrev N_is_between : List Str := ["value", "low", "high"]
abbrev P_is_between : List Str := ["value", "low", "high"]
theorem sc_is_between : FnScope N_is_between P_is_between (defScope s_is_between) := ⟨rfl, rfl, rfl, by decide +kernel, rfl, by decide +kernel, by decide +kernel⟩
abbrev s_is_name : Stmt := (top 14)
abbrev N_is_name : List Str := ["value"]
abbrev P_is_name : List Str := ["value"]
theorem sc_is_name : FnScope N_is_name P_is_name (defScope s_is_name) := ⟨rfl, rfl, rfl, by decide +kernel, rfl, by decide +kernel, by decide +kernel⟩
abbrev s_is_tuple_of : Stmt := (top 15)
abbrev N_is_tuple_of : List Str := ["value", "least", "most"]
abbrev P_is_tuple_of : List Str := ["value", "least", "most"]
theorem sc_is_tuple_of : FnScope N_is_tuple_of P_is_tuple_of (defScope s_is_tuple_of) := ⟨rfl, rfl, rfl, by decide +kernel, rfl, by decide +kernel, by decide +kernel⟩
abbrev s_is_ascending : Stmt := (top 16)
abbrev N_is_ascending : List Str := ["items", "one", "other"]
abbrev P_is_ascending : List Str := ["items"]
theorem sc_is_ascending : FnScope N_is_ascending P_is_ascending (defScope s_is_ascending) := ⟨rfl, rfl, rfl, by decide +kernel, rfl, by decide +kernel, by decide +kernel⟩
abbrev s_is_count : Stmt := (top 17)
abbrev N_is_count : List Str := ["value"]
abbrev P_is_count : List Str := ["value"]
theorem sc_is_count : FnScope N_is_count P_is_count (defScope s_is_count) := ⟨rfl, rfl, rfl, by decide +kernel, rfl, by decide +kernel, by decide +kernel⟩
abbrev s_editions_of : Stmt := (top 1)
abbrev N_editions_of : List Str := ["world", "program", "name", "editions"]
abbrev P_editions_of : List Str := ["world", "program"]
theorem sc_editions_of : FnScope N_editions_of P_editions_of (defScope s_editions_of) := ⟨rfl, rfl, rfl, by decide +kernel, rfl, by decide +kernel, by decide +kernel⟩
abbrev s_Kind___init__ : Stmt := (inClass (top 28) 0)
abbrev N_Kind___init__ : List Str := ["self", "low", "high"]
abbrev P_Kind___init__ : List Str := ["self", "low", "high"]
theorem sc_Kind___init__ : FnScope N_Kind___init__ P_Kind___init__ (defScope s_Kind___init__) := ⟨rfl, rfl, rfl, by decide +kernel, rfl, by decide +kernel, by decide +kernel⟩
abbrev s_Kind___le__ : Stmt := (inClass (top 28) 8)
abbrev N_Kind___le__ : List Str := ["self", "other"]
abbrev P_Kind___le__ : List Str := ["self", "other"]
theorem sc_Kind___le__ : FnScope N_Kind___le__ P_Kind___le__ (defScope s_Kind___le__) := ⟨rfl, rfl, rfl, by decide +kernel, rfl, by decide +kernel, by decide +kernel⟩
abbrev s_Kind___eq__ : Stmt := (inClass (top 28) 7)
abbrev N_Kind___eq__ : List Str := ["self", "other"]
abbrev P_Kind___eq__ : List Str := ["self", "other"]
theorem sc_Kind___eq__ : FnScope N_Kind___eq__ P_Kind___eq__ (defScope s_Kind___eq__) := ⟨rfl, rfl, rfl, by decide +kernel, rfl, by decide +kernel, by decide +kernel⟩
abbrev s_Kind___lt__ : Stmt := (inClass (top 28) 9)
abbrev N_Kind___lt__ : List Str := ["self", "other"]
abbrev P_Kind___lt__ : List Str := ["self", "other"]
theorem sc_Kind___lt__ : FnScope N_Kind___lt__ P_Kind___lt__ (defScope s_Kind___lt__) := ⟨rfl, rfl, rfl, by decide +kernel, rfl, by decide +kernel, by decide +kernel⟩
abbrev s__are_kinds : Stmt := (top 39)
abbrev N__are_kinds : List Str := ["narrow", "wide"]
abbrev P__are_kinds : List Str := ["narrow", "wide"]
theorem sc__are_kinds : FnScope N__are_kinds P__are_kinds (defScope s__are_kinds) := ⟨rfl, rfl, rfl, by decide +kernel, rfl, by decide +kernel, by decide +kernel⟩
abbrev s__are_columns : Stmt := (top 40)
abbrev N__are_columns : List Str := ["columns", "column"]
abbrev P__are_columns : List Str := ["columns"]
theorem sc__are_columns : FnScope N__are_columns P__are_columns (defScope s__are_columns) := ⟨rfl, rfl, rfl, by decide +kernel, rfl, by decide +kernel, by decide +kernel⟩
abbrev s__are_rows : Stmt := (top 44)
abbrev N__are_rows : List Str := ["columns", "value", "many", "row"]
abbrev P__are_rows : List Str := ["columns", "value", "many"]
theorem sc__are_rows : FnScope N__are_rows P__are_rows (defScope s__are_rows) := ⟨rfl, rfl, rfl, by decide +kernel, rfl, by decide +kernel, by decide +kernel⟩
abbrev s__is_read : Stmt := (top 45)
abbrev N__is_read : List Str := ["row", "_", "side", "deeds", "deed"]
abbrev P__is_read : List Str := ["row"]
theorem sc__is_read : FnScope N__is_read P__is_read (defScope s__is_read) := ⟨rfl, rfl, rfl, by decide +kernel, rfl, by decide +kernel, by decide +kernel⟩
abbrev s__is_write : Stmt := (top 46)
abbrev N__is_write : List Str := ["sources", "row", "column", "how", "rule", "source", "pace"]
abbrev P__is_write : List Str := ["sources", "row"]
theorem sc__is_write : FnScope N__is_write P__is_write (defScope s__is_write) := ⟨rfl, rfl, rfl, by decide +kernel, rfl, by decide +kernel, by decide +kernel⟩
abbrev s__is_edition : Stmt := (top 43)
abbrev N__is_edition : List Str := ["columns", "value", "sight", "reads", "writes", "sources", "row"]
abbrev P__is_edition : List Str := ["columns", "value"]
theorem sc__is_edition : FnScope N__is_edition P__is_edition (defScope s__is_edition) := ⟨rfl, rfl, rfl, by decide +kernel, rfl, by decide +kernel, by decide +kernel⟩
abbrev s__is_first_edition : Stmt := (top 47)
abbrev N__is_first_edition : List Str := ["edition", "_", "reads", "writes", "row"]
abbrev P__is_first_edition : List Str := ["edition"]
theorem sc__is_first_edition : FnScope N__is_first_edition P__is_first_edition (defScope s__is_first_edition) := ⟨rfl, rfl, rfl, by decide +kernel, rfl, by decide +kernel, by decide +kernel⟩
abbrev s__is_program : Stmt := (top 42)
abbrev N__is_program : List Str := ["columns", "value", "name", "editions", "edition"]
abbrev P__is_program : List Str := ["columns", "value"]
theorem sc__is_program : FnScope N__is_program P__is_program (defScope s__is_program) := ⟨rfl, rfl, rfl, by decide +kernel, rfl, by decide +kernel, by decide +kernel⟩
abbrev s__many_in_two_events : Stmt := (top 48)
abbrev N__many_in_two_events : List Str := ["programs", "many", "_", "editions", "writes", "row"]
abbrev P__many_in_two_events : List Str := ["programs"]
theorem sc__many_in_two_events : FnScope N__many_in_two_events P__many_in_two_events (defScope s__many_in_two_events) := ⟨rfl, rfl, rfl, by decide +kernel, rfl, by decide +kernel, by decide +kernel⟩
abbrev s__are_programs : Stmt := (top 41)
abbrev N__are_programs : List Str := ["columns", "programs", "program", "name", "_"]
abbrev P__are_programs : List Str := ["columns", "programs"]
theorem sc__are_programs : FnScope N__are_programs P__are_programs (defScope s__are_programs) := ⟨rfl, rfl, rfl, by decide +kernel, rfl, by decide +kernel, by decide +kernel⟩
abbrev s_World___init__ : Stmt := (inClass (top 38) 0)
abbrev N_World___init__ : List Str := ["self", "narrow", "wide", "columns", "programs", "fits"]
abbrev P_World___init__ : List Str := ["self", "narrow", "wide", "columns", "programs"]
theorem sc_World___init__ : FnScope N_World___init__ P_World___init__ (defScope s_World___init__) := ⟨rfl, rfl, rfl, by decide +kernel, rfl, by decide +kernel, by decide +kernel⟩
abbrev s__law_pot_of : Stmt := (top 61)
abbrev N__law_pot_of : List Str := ["_law_script", "_law_k", "_law_cell", "_law_own"]
abbrev P__law_pot_of : List Str := ["_law_script", "_law_k"]
theorem sc__law_pot_of : FnScope N__law_pot_of P__law_pot_of (defScope s__law_pot_of) := ⟨rfl, rfl, rfl, by decide +kernel, rfl, by decide +kernel, by decide +kernel⟩
abbrev s__law_take : Stmt := (top 62)
abbrev N__law_take : List Str := ["_law_pot", "_law_upto", "_law_digit", "_law_prime", "_law_mixed"]
abbrev P__law_take : List Str := ["_law_pot", "_law_upto"]
theorem sc__law_take : FnScope N__law_take P__law_take (defScope s__law_take) := ⟨rfl, rfl, rfl, by decide +kernel, rfl, by decide +kernel, by decide +kernel⟩
abbrev s__law_of : Stmt := (top 63)
abbrev N__law_of : List Str := ["_law_pot", "_law_some"]
abbrev P__law_of : List Str := ["_law_pot", "_law_some"]
theorem sc__law_of : FnScope N__law_of P__law_of (defScope s__law_of) := ⟨rfl, rfl, rfl, by decide +kernel, rfl, by decide +kernel, by decide +kernel⟩
abbrev s_edition_of : Stmt := (top 2)
abbrev N_edition_of : List Str := ["world", "program", "number"]
abbrev P_edition_of : List Str := ["world", "program", "number"]
theorem sc_edition_of : FnScope N_edition_of P_edition_of (defScope s_edition_of) := ⟨rfl, rfl, rfl, by decide +kernel, rfl, by decide +kernel, by decide +kernel⟩
abbrev s__is_late : Stmt := (top 58)
abbrev N__is_late : List Str := ["world", "value", "program", "number", "word", "_", "writes", "row"]
abbrev P__is_late : List Str := ["world", "value"]
theorem sc__is_late : FnScope N__is_late P__is_late (defScope s__is_late) := ⟨rfl, rfl, rfl, by decide +kernel, rfl, by decide +kernel, by decide +kernel⟩
abbrev s__are_late : Stmt := (top 57)
abbrev N__are_late : List Str := ["world", "value", "late"]
abbrev P__are_late : List Str := ["world", "value"]
theorem sc__are_late : FnScope N__are_late P__are_late (defScope s__are_late) := ⟨rfl, rfl, rfl, by decide +kernel, rfl, by decide +kernel, by decide +kernel⟩
abbrev s__is_top : Stmt := (top 56)
abbrev N__is_top : List Str := ["world", "meant", "top"]
abbrev P__is_top : List Str := ["world", "meant", "top"]
theorem sc__is_top : FnScope N__is_top P__is_top (defScope s__is_top) := ⟨rfl, rfl, rfl, by decide +kernel, rfl, by decide +kernel, by decide +kernel⟩
abbrev s_is_mark : Stmt := (top 55)
abbrev N_is_mark : List Str := ["world", "value", "meant", "top", "narrow", "wide", "late", "visit", "_", "word"]
abbrev P_is_mark : List Str := ["world", "value"]
theorem sc_is_mark : FnScope N_is_mark P_is_mark (defScope s_is_mark) := ⟨rfl, rfl, rfl, by decide +kernel, rfl, by decide +kernel, by decide +kernel⟩
abbrev s__law_in_order : Stmt := (top 60)
abbrev N__law_in_order : List Str := ["_law_things", "_law_found", "_law_thing", "_law_at", "_law_one"]
abbrev P__law_in_order : List Str := ["_law_things"]
theorem sc__law_in_order : FnScope N__law_in_order P__law_in_order (defScope s__law_in_order) := ⟨rfl, rfl, rfl, by decide +kernel, rfl, by decide +kernel, by decide +kernel⟩
abbrev s__law_made : Stmt := (top 64)
abbrev N__law_made : List Str := ["_law_world", "_law_narrow", "_law_wide"]
abbrev P__law_made : List Str := ["_law_world"]
theorem sc__law_made : FnScope N__law_made P__law_made (defScope s__law_made) := ⟨rfl, rfl, rfl, by decide +kernel, rfl, by decide +kernel, by decide +kernel⟩
abbrev s__law_late_world : Stmt := (top 65)
abbrev N__law_late_world : List Str := ["_law_pot", "_law_narrow", "_law_wide", "_law_elder", "_law_some", "_law_programs", "_law_how"]
abbrev P__law_late_world : List Str := ["_law_pot"]
theorem sc__law_late_world : FnScope N__law_late_world P__law_late_world (defScope s__law_late_world) := ⟨rfl, rfl, rfl, by decide +kernel, rfl, by decide +kernel, by decide +kernel⟩
abbrev s__law_any_mark : Stmt := (top 66)
abbrev N__law_any_mark : List Str := ["_law_pot", "_law_world", "_law_lates", "_law_meant", "_law_low", "_law_high", "_law_most", "_law_top", "_law_words", "_law_kept", "_law_one", "_law_narrow", "_law_wide", "_law_visit", "_law_word"]
abbrev P__law_any_mark : List Str := ["_law_pot", "_law_world", "_law_lates"]
theorem sc__law_any_mark : FnScope N__law_any_mark P__law_any_mark (defScope s__law_any_mark) := ⟨rfl, rfl, rfl, by decide +kernel, rfl, by decide +kernel, by decide +kernel⟩
abbrev s__law_is_own_late : Stmt := (top 67)
abbrev N__law_is_own_late : List Str := ["_law_world", "_law_meant", "_law_value", "_law_name", "_law_number", "_law_word", "_law_books", "_law_row"]
abbrev P__law_is_own_late : List Str := ["_law_world", "_law_meant", "_law_value"]
theorem sc__law_is_own_late : FnScope N__law_is_own_late P__law_is_own_late (defScope s__law_is_own_late) := ⟨rfl, rfl, rfl, by decide +kernel, rfl, by decide +kernel, by decide +kernel⟩
abbrev s__law_is_own_mark : Stmt := (top 68)
abbrev N__law_is_own_mark : List Str := ["_law_world", "_law_value", "_law_meant", "_law_top", "_law_narrow", "_law_wide", "_law_late", "_law_visit", "_law_low", "_law_high", "_law_words", "_law_one", "_law_other", "_law_at"]
abbrev P__law_is_own_mark : List Str := ["_law_world", "_law_value"]
theorem sc__law_is_own_mark : FnScope N__law_is_own_mark P__law_is_own_mark (defScope s__law_is_own_mark) := ⟨rfl, rfl, rfl, by decide +kernel, rfl, by decide +kernel, by decide +kernel⟩
abbrev s__law_bent : Stmt := (top 69)
abbrev N__law_bent : List Str := ["_law_pot", "_law_world", "_law_lates", "_law_mark", "_law_spot", "_law_low", "_law_high", "_law_most", "_law_name", "_law_number", "_law_some", "_law_late", "_law_lots", "_law_tops", "_law_parts", "_law_found", "_law_word"]
abbrev P__law_bent : List Str := ["_law_pot", "_law_world", "_law_lates", "_law_mark"]
theorem sc__law_bent : FnScope N__law_bent P__law_bent (defScope s__law_bent) := ⟨rfl, rfl, rfl, by decide +kernel, rfl, by decide +kernel, by decide +kernel⟩
abbrev s_law : Stmt := (top 70)
abbrev N_law : List Str := ["_law_script", "_law_k", "_law_pot", "_law_world", "_law_lates", "_law_made_here", "_law_turn", "_law_mark", "_law_thing", "_law_kept", "_law_odd"]
abbrev P_law : List Str := ["_law_script"]
theorem sc_law : FnScope N_law P_law (defScope s_law) := ⟨rfl, rfl, rfl, by decide +kernel, rfl, by decide +kernel, by decide +kernel⟩
end Zd
namespace Zd
open PySem PySem.Spec PyProof.Rows L2 Zg
def dd0 : He.DefD := ⟨("editions_of", none), "editions_of", "editions_of", defArgs s_editions_of, defBody s_editions_of, defScope s_editions_of, [], []⟩
def dd1 : He.DefD := ⟨("edition_of", none), "edition_of", "edition_of", defArgs s_edition_of, defBody s_edition_of, defScope s_edition_of, [], []⟩
def dd2 : He.DefD := ⟨("is_integer", none), "is_integer", "is_integer", defArgs s_is_integer, defBody s_is_integer, defScope s_is_integer, [], []⟩
def dd3 : He.DefD := ⟨("is_between", none), "is_between", "is_between", defArgs s_is_between, defBody s_is_between, defScope s_is_between, [], []⟩
def dd4 : He.DefD := ⟨("is_name", none), "is_name", "is_name", defArgs s_is_name, defBody s_is_name, defScope s_is_name, [], []⟩
def dd5 : He.DefD := ⟨("is_tuple_of", none), "is_tuple_of", "is_tuple_of", defArgs s_is_tuple_of, defBody s_is_tuple_of, defScope s_is_tuple_of, [], []⟩
def dd6 : He.DefD := ⟨("is_ascending", none), "is_ascending", "is_ascending", defArgs s_is_ascending, defBody s_is_ascending, defScope s_is_ascending, [], []⟩
def dd7 : He.DefD := ⟨("is_count", none), "is_count", "is_count", defArgs s_is_count, defBody s_is_count, defScope s_is_count, [], []⟩
def dd8 : He.DefD := ⟨("Kind", some "__init__"), "__init__", "Kind.__init__", defArgs s_Kind___init__, defBody s_Kind___init__, defScope s_Kind___init__, [], []⟩
def dd9 : He.DefD := ⟨("Kind", some "__eq__"), "__eq__", "Kind.__eq__", defArgs s_Kind___eq__, defBody s_Kind___eq__, defScope s_Kind___eq__, [], []⟩
def dd10 : He.DefD := ⟨("Kind", some "__le__"), "__le__", "Kind.__le__", defArgs s_Kind___le__, defBody s_Kind___le__, defScope s_Kind___le__, [], []⟩
def dd11 : He.DefD := ⟨("Kind", some "__lt__"), "__lt__", "Kind.__lt__", defArgs s_Kind___lt__, defBody s_Kind___lt__, defScope s_Kind___lt__, [], []⟩
def dd12 : He.DefD := ⟨("World", some "__init__"), "__init__", "World.__init__", defArgs s_World___init__, defBody s_World___init__, defScope s_World___init__, [], []⟩
def dd13 : He.DefD := ⟨("_are_kinds", none), "_are_kinds", "_are_kinds", defArgs s__are_kinds, defBody s__are_kinds, defScope s__are_kinds, [], []⟩
def dd14 : He.DefD := ⟨("_are_columns", none), "_are_columns", "_are_columns", defArgs s__are_columns, defBody s__are_columns, defScope s__are_columns, [], []⟩
def dd15 : He.DefD := ⟨("_are_programs", none), "_are_programs", "_are_programs", defArgs s__are_programs, defBody s__are_programs, defScope s__are_programs, [], []⟩
def dd16 : He.DefD := ⟨("_is_program", none), "_is_program", "_is_program", defArgs s__is_program, defBody s__is_program, defScope s__is_program, [], []⟩
def dd17 : He.DefD := ⟨("_is_edition", none), "_is_edition", "_is_edition", defArgs s__is_edition, defBody s__is_edition, defScope s__is_edition, [], []⟩
def dd18 : He.DefD := ⟨("_are_rows", none), "_are_rows", "_are_rows", defArgs s__are_rows, defBody s__are_rows, defScope s__are_rows, [], []⟩
def dd19 : He.DefD := ⟨("_is_read", none), "_is_read", "_is_read", defArgs s__is_read, defBody s__is_read, defScope s__is_read, [], []⟩
def dd20 : He.DefD := ⟨("_is_write", none), "_is_write", "_is_write", defArgs s__is_write, defBody s__is_write, defScope s__is_write, [], []⟩
def dd21 : He.DefD := ⟨("_is_first_edition", none), "_is_first_edition", "_is_first_edition", defArgs s__is_first_edition, defBody s__is_first_edition, defScope s__is_first_edition, [], []⟩
def dd22 : He.DefD := ⟨("_many_in_two_events", none), "_many_in_two_events", "_many_in_two_events", defArgs s__many_in_two_events, defBody s__many_in_two_events, defScope s__many_in_two_events, [], []⟩
def dd23 : He.DefD := ⟨("is_mark", none), "is_mark", "is_mark", defArgs s_is_mark, defBody s_is_mark, defScope s_is_mark, [], []⟩
def dd24 : He.DefD := ⟨("_is_top", none), "_is_top", "_is_top", defArgs s__is_top, defBody s__is_top, defScope s__is_top, [], []⟩
def dd25 : He.DefD := ⟨("_are_late", none), "_are_late", "_are_late", defArgs s__are_late, defBody s__are_late, defScope s__are_late, [], []⟩
def dd26 : He.DefD := ⟨("_is_late", none), "_is_late", "_is_late", defArgs s__is_late, defBody s__is_late, defScope s__is_late, [], []⟩
def dd27 : He.DefD := ⟨("_law_in_order", none), "_law_in_order", "_law_in_order", defArgs s__law_in_order, defBody s__law_in_order, defScope s__law_in_order, [], []⟩
def dd28 : He.DefD := ⟨("_law_pot_of", none), "_law_pot_of", "_law_pot_of", defArgs s__law_pot_of, defBody s__law_pot_of, defScope s__law_pot_of, [], []⟩
def dd29 : He.DefD := ⟨("_law_take", none), "_law_take", "_law_take", defArgs s__law_take, defBody s__law_take, defScope s__law_take, [], []⟩
def dd30 : He.DefD := ⟨("_law_of", none), "_law_of", "_law_of", defArgs s__law_of, defBody s__law_of, defScope s__law_of, [], []⟩
def dd31 : He.DefD := ⟨("_law_made", none), "_law_made", "_law_made", defArgs s__law_made, defBody s__law_made, defScope s__law_made, [], []⟩
def dd32 : He.DefD := ⟨("_law_late_world", none), "_law_late_world", "_law_late_world", defArgs s__law_late_world, defBody s__law_late_world, defScope s__law_late_world, [], []⟩
def dd33 : He.DefD := ⟨("_law_any_mark", none), "_law_any_mark", "_law_any_mark", defArgs s__law_any_mark, defBody s__law_any_mark, defScope s__law_any_mark, [], []⟩
def dd34 : He.DefD := ⟨("_law_is_own_late", none), "_law_is_own_late", "_law_is_own_late", defArgs s__law_is_own_late, defBody s__law_is_own_late, defScope s__law_is_own_late, [], []⟩
def dd35 : He.DefD := ⟨("_law_is_own_mark", none), "_law_is_own_mark", "_law_is_own_mark", defArgs s__law_is_own_mark, defBody s__law_is_own_mark, defScope s__law_is_own_mark, [], []⟩
def dd36 : He.DefD := ⟨("_law_bent", none), "_law_bent", "_law_bent", defArgs s__law_bent, defBody s__law_bent, defScope s__law_bent, [], []⟩
def dd37 : He.DefD := ⟨("law", none), "law", "law", defArgs s_law, defBody s_law, defScope s_law, [], []⟩
def fnl0 : List He.DefD := [dd0, dd1, dd2, dd3, dd4, dd5, dd6, dd7, dd8, dd9, dd10, dd11, dd12, dd13, dd14, dd15, dd16, dd17, dd18, dd19, dd20, dd21, dd22, dd23, dd24, dd25, dd26, dd27, dd28, dd29, dd30, dd31, dd32, dd33, dd34, dd35, dd36, dd37]
def fnl : List He.DefD := fnl0
def tsl : List He.Tab := []
def exl0 (K : PySem.W.Frag) : Bool := decide (PySem.W.nsIn K mainGlobals "World" = some (some (.ref (He.ga K "World")))) && (PySem.W.plainGet K (He.ga K "World") Str.empty && (PySem.W.hasDictIn K (He.ga K "World") && (PySem.W.plainOver K (He.ga K "World") && (decide (PySem.W.findIn K (.ref (He.ga K "World")) "__setattr__" = some (some (.builtin "object.__setattr__"))) && (PySem.W.makesIn K (He.ga K "World") && (PySem.W.keepIn K (.ref (He.ga K "World")) && (decide (PySem.W.findIn K (.ref (He.ga K "World")) "__class__" = some (some (.builtin "object.__class__"))) && (decide (PySem.W.mroIn K (He.ga K "World") (.type "object") = some true) && (decide (PySem.W.findIn K (.ref (He.ga K "World")) "narrow" = some none) && (decide (PySem.W.findIn K (.ref (He.ga K "World")) "wide" = some none) && (decide (PySem.W.findIn K (.ref (He.ga K "World")) "columns" = some none) && (decide (PySem.W.findIn K (.ref (He.ga K "World")) "programs" = some none) && (decide (PySem.W.nsIn K mainGlobals "Kind" = some (some (.ref (He.ga K "Kind")))) && (PySem.W.plainGet K (He.ga K "Kind") Str.empty && (PySem.W.hasDictIn K (He.ga K "Kind") && (PySem.W.plainOver K (He.ga K "Kind") && (decide (PySem.W.findIn K (.ref (He.ga K "Kind")) "__setattr__" = some (some (.builtin "object.__setattr__"))) && (PySem.W.makesIn K (He.ga K "Kind") && (PySem.W.keepIn K (.ref (He.ga K "Kind")))))))))))))))))))))
def exl1 (K : PySem.W.Frag) : Bool := decide (PySem.W.findIn K (.ref (He.ga K "Kind")) "__class__" = some (some (.builtin "object.__class__"))) && (decide (PySem.W.mroIn K (He.ga K "Kind") (.type "object") = some true) && (decide (PySem.W.findIn K (.ref (He.ga K "Kind")) "low" = some none) && (decide (PySem.W.findIn K (.ref (He.ga K "Kind")) "high" = some none) && (decide (PySem.W.findIn K (.ref (He.ga K "Kind")) "size" = some none) && (numB K "MOST_LETTERS" 8 && (numB K "LEAST_NARROW" 16 && (numB K "MOST_PACE" 99 && (numB K "MOST_IN_TWO_EVENTS" 2 && (decide (PySem.W.nsIn K mainGlobals "SIDES" = some (some (.ref (He.ga K "SIDES")))) && (decide (tupW K (He.ga K "SIDES") = some (["narrow", "wide"] : List Str)) && (decide (PySem.W.nsIn K mainGlobals "RULES" = some (some (.ref (He.ga K "RULES")))) && (decide (tupW K (He.ga K "RULES") = some (["cut", "empty", "refuse"] : List Str)) && (decide (PySem.W.nsIn K mainGlobals "DEEDS" = some (some (.ref (He.ga K "DEEDS")))) && (decide (tupW K (He.ga K "DEEDS") = some (["match", "order", "show"] : List Str)) && (decide (PySem.W.nsIn K mainGlobals "READ_SIDES" = some (some (.ref (He.ga K "READ_SIDES")))) && (decide (tupW K (He.ga K "READ_SIDES") = some (["narrow", "wide", "either"] : List Str)) && (decide (PySem.W.nsIn K mainGlobals "HOWS" = some (some (.ref (He.ga K "HOWS")))) && (decide (tupW K (He.ga K "HOWS") = some (["narrow", "wide", "both", "narrow first", "wide first"] : List Str)) && (decide (PySem.W.nsIn K mainGlobals "IN_TWO_EVENTS" = some (some (.ref (He.ga K "IN_TWO_EVENTS")))))))))))))))))))))))
def exl2 (K : PySem.W.Frag) : Bool := decide (tupW K (He.ga K "IN_TWO_EVENTS") = some (["narrow first", "wide first"] : List Str)) && (decide (PySem.W.nsIn K mainGlobals "MEANT" = some (some (.ref (He.ga K "MEANT")))) && (decide (tupW K (He.ga K "MEANT") = some (["small", "great"] : List Str)) && (decide (PySem.W.nsIn K mainGlobals "NARROW_WORDS" = some (some (.ref (He.ga K "NARROW_WORDS")))) && (decide (tupW K (He.ga K "NARROW_WORDS") = some (["none", "same", "cut", "old"] : List Str)) && (decide (PySem.W.nsIn K mainGlobals "WIDE_WORDS" = some (some (.ref (He.ga K "WIDE_WORDS")))) && (decide (tupW K (He.ga K "WIDE_WORDS") = some (["none", "same", "cut", "old", "far"] : List Str)) && (decide (PySem.W.nsIn K mainGlobals "LATE_WORDS" = some (some (.ref (He.ga K "LATE_WORDS")))) && (decide (tupW K (He.ga K "LATE_WORDS") = some (["same", "cut", "old", "far"] : List Str)) && (decide (PySem.W.nsIn K mainGlobals "VISITS" = some (some (.ref (He.ga K "VISITS")))) && (decide (tupW K (He.ga K "VISITS") = some (["ahead", "seen", ""] : List Str)) && (decide (PySem.W.nsIn K mainGlobals "dict" = some none) && (decide (PySem.W.specialIn K (.builtin "object.__class__") "__get__" = some (some (.builtin "getset_descriptor.__get__"))) && (decide (PySem.W.takesIn K (.builtin "object.__class__") = some true) && (decide (PySem.W.nsIn K mainGlobals "editions_of" = some (some (.ref (He.ga K "editions_of")))) && (decide (PySem.W.nsIn K mainGlobals "edition_of" = some (some (.ref (He.ga K "edition_of")))) && (decide (PySem.W.nsIn K mainGlobals "is_integer" = some (some (.ref (He.ga K "is_integer")))) && (decide (PySem.W.nsIn K mainGlobals "is_between" = some (some (.ref (He.ga K "is_between")))) && (decide (PySem.W.nsIn K mainGlobals "is_name" = some (some (.ref (He.ga K "is_name")))) && (decide (PySem.W.nsIn K mainGlobals "is_tuple_of" = some (some (.ref (He.ga K "is_tuple_of")))))))))))))))))))))))
def exl3 (K : PySem.W.Frag) : Bool := decide (PySem.W.nsIn K mainGlobals "is_ascending" = some (some (.ref (He.ga K "is_ascending")))) && (decide (PySem.W.nsIn K mainGlobals "is_count" = some (some (.ref (He.ga K "is_count")))) && (decide (PySem.W.findIn K (.ref (He.ga K "Kind")) "__init__" = some (some (.ref (He.ma K (He.ga K "Kind") "__init__")))) && (PySem.W.isFn K (.ref (He.ma K (He.ga K "Kind") "__init__")) && (decide (PySem.W.findIn K (.ref (He.ga K "Kind")) "__eq__" = some (some (.ref (He.ma K (He.ga K "Kind") "__eq__")))) && (PySem.W.isFn K (.ref (He.ma K (He.ga K "Kind") "__eq__")) && (decide (PySem.W.findIn K (.ref (He.ga K "Kind")) "__le__" = some (some (.ref (He.ma K (He.ga K "Kind") "__le__")))) && (PySem.W.isFn K (.ref (He.ma K (He.ga K "Kind") "__le__")) && (decide (PySem.W.findIn K (.ref (He.ga K "Kind")) "__lt__" = some (some (.ref (He.ma K (He.ga K "Kind") "__lt__")))) && (PySem.W.isFn K (.ref (He.ma K (He.ga K "Kind") "__lt__")) && (decide (PySem.W.findIn K (.ref (He.ga K "World")) "__init__" = some (some (.ref (He.ma K (He.ga K "World") "__init__")))) && (PySem.W.isFn K (.ref (He.ma K (He.ga K "World") "__init__")) && (decide (PySem.W.nsIn K mainGlobals "_are_kinds" = some (some (.ref (He.ga K "_are_kinds")))) && (decide (PySem.W.nsIn K mainGlobals "_are_columns" = some (some (.ref (He.ga K "_are_columns")))) && (decide (PySem.W.nsIn K mainGlobals "_are_programs" = some (some (.ref (He.ga K "_are_programs")))) && (decide (PySem.W.nsIn K mainGlobals "_is_program" = some (some (.ref (He.ga K "_is_program")))) && (decide (PySem.W.nsIn K mainGlobals "_is_edition" = some (some (.ref (He.ga K "_is_edition")))) && (decide (PySem.W.nsIn K mainGlobals "_are_rows" = some (some (.ref (He.ga K "_are_rows")))) && (decide (PySem.W.nsIn K mainGlobals "_is_read" = some (some (.ref (He.ga K "_is_read")))) && (decide (PySem.W.nsIn K mainGlobals "_is_write" = some (some (.ref (He.ga K "_is_write")))))))))))))))))))))))
def exl4 (K : PySem.W.Frag) : Bool := decide (PySem.W.nsIn K mainGlobals "_is_first_edition" = some (some (.ref (He.ga K "_is_first_edition")))) && (decide (PySem.W.nsIn K mainGlobals "_many_in_two_events" = some (some (.ref (He.ga K "_many_in_two_events")))) && (decide (PySem.W.nsIn K mainGlobals "is_mark" = some (some (.ref (He.ga K "is_mark")))) && (decide (PySem.W.nsIn K mainGlobals "_is_top" = some (some (.ref (He.ga K "_is_top")))) && (decide (PySem.W.nsIn K mainGlobals "_are_late" = some (some (.ref (He.ga K "_are_late")))) && (decide (PySem.W.nsIn K mainGlobals "_is_late" = some (some (.ref (He.ga K "_is_late")))) && (decide (PySem.W.nsIn K mainGlobals "_law_in_order" = some (some (.ref (He.ga K "_law_in_order")))) && (decide (PySem.W.nsIn K mainGlobals "_law_pot_of" = some (some (.ref (He.ga K "_law_pot_of")))) && (decide (PySem.W.nsIn K mainGlobals "_law_take" = some (some (.ref (He.ga K "_law_take")))) && (decide (PySem.W.nsIn K mainGlobals "_law_of" = some (some (.ref (He.ga K "_law_of")))) && (decide (PySem.W.nsIn K mainGlobals "_law_made" = some (some (.ref (He.ga K "_law_made")))) && (decide (PySem.W.nsIn K mainGlobals "_law_late_world" = some (some (.ref (He.ga K "_law_late_world")))) && (decide (PySem.W.nsIn K mainGlobals "_law_any_mark" = some (some (.ref (He.ga K "_law_any_mark")))) && (decide (PySem.W.nsIn K mainGlobals "_law_is_own_late" = some (some (.ref (He.ga K "_law_is_own_late")))) && (decide (PySem.W.nsIn K mainGlobals "_law_is_own_mark" = some (some (.ref (He.ga K "_law_is_own_mark")))) && (decide (PySem.W.nsIn K mainGlobals "_law_bent" = some (some (.ref (He.ga K "_law_bent")))) && (decide (PySem.W.nsIn K mainGlobals "law" = some (some (.ref (He.ga K "law")))) && (decide (PySem.W.nsIn K mainGlobals "int" = some none) && (decide (PySem.W.nsIn K mainGlobals "len" = some none) && (decide (PySem.W.nsIn K mainGlobals "abs" = some none))))))))))))))))))))
def exl5 (K : PySem.W.Frag) : Bool := decide (PySem.W.nsIn K mainGlobals "bool" = some none) && (decide (PySem.W.nsIn K mainGlobals "tuple" = some none) && (decide (PySem.W.nsIn K mainGlobals "isinstance" = some none) && (decide (PySem.W.nsIn K mainGlobals "range" = some none) && (decide (PySem.W.nsIn K mainGlobals "max" = some none) && (decide (PySem.W.nsIn K mainGlobals "min" = some none) && (decide (PySem.W.nsIn K mainGlobals "all" = some none) && (decide (PySem.W.nsIn K mainGlobals "repr" = some none) && (decide (PySem.W.nsIn K mainGlobals "str" = some none) && (decide (PySem.W.nsIn K mainGlobals "any" = some none) && (decide (PySem.W.nsIn K mainGlobals "list" = some none) && (decide (PySem.W.nsIn K mainGlobals "zip" = some none) && (decide (PySem.W.nsIn K mainGlobals "enumerate" = some none)))))))))))))
def exl (K : PySem.W.Frag) : Bool := exl0 K && (exl1 K && (exl2 K && (exl3 K && (exl4 K && (exl5 K)))))
theorem exg0 {K : PySem.W.Frag} (h : exl K = true) : exl0 K = true := (He.ba h).1
theorem ex_0 {K : PySem.W.Frag} (h : exl K = true) : (decide (PySem.W.nsIn K mainGlobals "World" = some (some (.ref (He.ga K "World"))))) = true := (He.ba (exg0 h)).1
theorem ex_1 {K : PySem.W.Frag} (h : exl K = true) : (PySem.W.plainGet K (He.ga K "World") Str.empty) = true := (He.ba (He.ba (exg0 h)).2).1
theorem ex_2 {K : PySem.W.Frag} (h : exl K = true) : (PySem.W.hasDictIn K (He.ga K "World")) = true := (He.ba (He.ba (He.ba (exg0 h)).2).2).1
theorem ex_3 {K : PySem.W.Frag} (h : exl K = true) : (PySem.W.plainOver K (He.ga K "World")) = true := (He.ba (He.ba (He.ba (He.ba (exg0 h)).2).2).2).1
theorem ex_4 {K : PySem.W.Frag} (h : exl K = true) : (decide (PySem.W.findIn K (.ref (He.ga K "World")) "__setattr__" = some (some (.builtin "object.__setattr__")))) = true := (He.ba (He.ba (He.ba (He.ba (He.ba (exg0 h)).2).2).2).2).1
theorem ex_5 {K : PySem.W.Frag} (h : exl K = true) : (PySem.W.makesIn K (He.ga K "World")) = true := (He.ba (He.ba (He.ba (He.ba (He.ba (He.ba (exg0 h)).2).2).2).2).2).1
theorem ex_6 {K : PySem.W.Frag} (h : exl K = true) : (PySem.W.keepIn K (.ref (He.ga K "World"))) = true := (He.ba (He.ba (He.ba (He.ba (He.ba (He.ba (He.ba (exg0 h)).2).2).2).2).2).2).1
theorem ex_7 {K : PySem.W.Frag} (h : exl K = true) : (decide (PySem.W.findIn K (.ref (He.ga K "World")) "__class__" = some (some (.builtin "object.__class__")))) = true := (He.ba (He.ba (He.ba (He.ba (He.ba (He.ba (He.ba (He.ba (exg0 h)).2).2).2).2).2).2).2).1
theorem ex_8 {K : PySem.W.Frag} (h : exl K = true) : (decide (PySem.W.mroIn K (He.ga K "World") (.type "object") = some true)) = true := (He.ba (He.ba (He.ba (He.ba (He.ba (He.ba (He.ba (He.ba (He.ba (exg0 h)).2).2).2).2).2).2).2).2).1
theorem ex_9 {K : PySem.W.Frag} (h : exl K = true) : (decide (PySem.W.findIn K (.ref (He.ga K "World")) "narrow" = some none)) = true := (He.ba (He.ba (He.ba (He.ba (He.ba (He.ba (He.ba (He.ba (He.ba (He.ba (exg0 h)).2).2).2).2).2).2).2).2).2).1
theorem ex_10 {K : PySem.W.Frag} (h : exl K = true) : (decide (PySem.W.findIn K (.ref (He.ga K "World")) "wide" = some none)) = true := (He.ba (He.ba (He.ba (He.ba (He.ba (He.ba (He.ba (He.ba (He.ba (He.ba (He.ba (exg0 h)).2).2).2).2).2).2).2).2).2).2).1
theorem ex_11 {K : PySem.W.Frag} (h : exl K = true) : (decide (PySem.W.findIn K (.ref (He.ga K "World")) "columns" = some none)) = true := (He.ba (He.ba (He.ba (He.ba (He.ba (He.ba (He.ba (He.ba (He.ba (He.ba (He.ba (He.ba (exg0 h)).2).2).2).2).2).2).2).2).2).2).2).1
theorem ex_12 {K : PySem.W.Frag} (h : exl K = true) : (decide (PySem.W.findIn K (.ref (He.ga K "World")) "programs" = some none)) = true := (He.ba (He.ba (He.ba (He.ba (He.ba (He.ba (He.ba (He.ba (He.ba (He.ba (He.ba (He.ba (He.ba (exg0 h)).2).2).2).2).2).2).2).2).2).2).2).2).1
theorem ex_13 {K : PySem.W.Frag} (h : exl K = true) : (decide (PySem.W.nsIn K mainGlobals "Kind" = some (some (.ref (He.ga K "Kind"))))) = true := (He.ba (He.ba (He.ba (He.ba (He.ba (He.ba (He.ba (He.ba (He.ba (He.ba (He.ba (He.ba (He.ba (He.ba (exg0 h)).2).2).2).2).2).2).2).2).2).2).2).2).2).1
theorem ex_14 {K : PySem.W.Frag} (h : exl K = true) : (PySem.W.plainGet K (He.ga K "Kind") Str.empty) = true := (He.ba (He.ba (He.ba (He.ba (He.ba (He.ba (He.ba (He.ba (He.ba (He.ba (He.ba (He.ba (He.ba (He.ba (He.ba (exg0 h)).2).2).2).2).2).2).2).2).2).2).2).2).2).2).1
theorem ex_15 {K : PySem.W.Frag} (h : exl K = true) : (PySem.W.hasDictIn K (He.ga K "Kind")) = true := (He.ba (He.ba (He.ba (He.ba (He.ba (He.ba (He.ba (He.ba (He.ba (He.ba (He.ba (He.ba (He.ba (He.ba (He.ba (He.ba (exg0 h)).2).2).2).2).2).2).2).2).2).2).2).2).2).2).2).1
theorem ex_16 {K : PySem.W.Frag} (h : exl K = true) : (PySem.W.plainOver K (He.ga K "Kind")) = true := (He.ba (He.ba (He.ba (He.ba (He.ba (He.ba (He.ba (He.ba (He.ba (He.ba (He.ba (He.ba (He.ba (He.ba (He.ba (He.ba (He.ba (exg0 h)).2).2).2).2).2).2).2).2).2).2).2).2).2).2).2).2).1
theorem ex_17 {K : PySem.W.Frag} (h : exl K = true) : (decide (PySem.W.findIn K (.ref (He.ga K "Kind")) "__setattr__" = some (some (.builtin "object.__setattr__")))) = true := (He.ba (He.ba (He.ba (He.ba (He.ba (He.ba (He.ba (He.ba (He.ba (He.ba (He.ba (He.ba (He.ba (He.ba (He.ba (He.ba (He.ba (He.ba (exg0 h)).2).2).2).2).2).2).2).2).2).2).2).2).2).2).2).2).2).1
theorem ex_18 {K : PySem.W.Frag} (h : exl K = true) : (PySem.W.makesIn K (He.ga K "Kind")) = true := (He.ba (He.ba (He.ba (He.ba (He.ba (He.ba (He.ba (He.ba (He.ba (He.ba (He.ba (He.ba (He.ba (He.ba (He.ba (He.ba (He.ba (He.ba (He.ba (exg0 h)).2).2).2).2).2).2).2).2).2).2).2).2).2).2).2).2).2).2).1
theorem ex_19 {K : PySem.W.Frag} (h : exl K = true) : (PySem.W.keepIn K (.ref (He.ga K "Kind"))) = true := (He.ba (He.ba (He.ba (He.ba (He.ba (He.ba (He.ba (He.ba (He.ba (He.ba (He.ba (He.ba (He.ba (He.ba (He.ba (He.ba (He.ba (He.ba (He.ba (exg0 h)).2).2).2).2).2).2).2).2).2).2).2).2).2).2).2).2).2).2).2
theorem exg1 {K : PySem.W.Frag} (h : exl K = true) : exl1 K = true := (He.ba (He.ba h).2).1
theorem ex_20 {K : PySem.W.Frag} (h : exl K = true) : (decide (PySem.W.findIn K (.ref (He.ga K "Kind")) "__class__" = some (some (.builtin "object.__class__")))) = true := (He.ba (exg1 h)).1
theorem ex_21 {K : PySem.W.Frag} (h : exl K = true) : (decide (PySem.W.mroIn K (He.ga K "Kind") (.type "object") = some true)) = true := (He.ba (He.ba (exg1 h)).2).1
theorem ex_22 {K : PySem.W.Frag} (h : exl K = true) : (decide (PySem.W.findIn K (.ref (He.ga K "Kind")) "low" = some none)) = true := (He.ba (He.ba (He.ba (exg1 h)).2).2).1
theorem ex_23 {K : PySem.W.Frag} (h : exl K = true) : (decide (PySem.W.findIn K (.ref (He.ga K "Kind")) "high" = some none)) = true := (He.ba (He.ba (He.ba (He.ba (exg1 h)).2).2).2).1
theorem ex_24 {K : PySem.W.Frag} (h : exl K = true) : (decide (PySem.W.findIn K (.ref (He.ga K "Kind")) "size" = some none)) = true := (He.ba (He.ba (He.ba (He.ba (He.ba (exg1 h)).2).2).2).2).1
theorem ex_25 {K : PySem.W.Frag} (h : exl K = true) : (numB K "MOST_LETTERS" 8) = true := (He.ba (He.ba (He.ba (He.ba (He.ba (He.ba (exg1 h)).2).2).2).2).2).1
theorem ex_26 {K : PySem.W.Frag} (h : exl K = true) : (numB K "LEAST_NARROW" 16) = true := (He.ba (He.ba (He.ba (He.ba (He.ba (He.ba (He.ba (exg1 h)).2).2).2).2).2).2).1
theorem ex_27 {K : PySem.W.Frag} (h : exl K = true) : (numB K "MOST_PACE" 99) = true := (He.ba (He.ba (He.ba (He.ba (He.ba (He.ba (He.ba (He.ba (exg1 h)).2).2).2).2).2).2).2).1
theorem ex_28 {K : PySem.W.Frag} (h : exl K = true) : (numB K "MOST_IN_TWO_EVENTS" 2) = true := (He.ba (He.ba (He.ba (He.ba (He.ba (He.ba (He.ba (He.ba (He.ba (exg1 h)).2).2).2).2).2).2).2).2).1
theorem ex_29 {K : PySem.W.Frag} (h : exl K = true) : (decide (PySem.W.nsIn K mainGlobals "SIDES" = some (some (.ref (He.ga K "SIDES"))))) = true := (He.ba (He.ba (He.ba (He.ba (He.ba (He.ba (He.ba (He.ba (He.ba (He.ba (exg1 h)).2).2).2).2).2).2).2).2).2).1
theorem ex_30 {K : PySem.W.Frag} (h : exl K = true) : (decide (tupW K (He.ga K "SIDES") = some (["narrow", "wide"] : List Str))) = true := (He.ba (He.ba (He.ba (He.ba (He.ba (He.ba (He.ba (He.ba (He.ba (He.ba (He.ba (exg1 h)).2).2).2).2).2).2).2).2).2).2).1
theorem ex_31 {K : PySem.W.Frag} (h : exl K = true) : (decide (PySem.W.nsIn K mainGlobals "RULES" = some (some (.ref (He.ga K "RULES"))))) = true := (He.ba (He.ba (He.ba (He.ba (He.ba (He.ba (He.ba (He.ba (He.ba (He.ba (He.ba (He.ba (exg1 h)).2).2).2).2).2).2).2).2).2).2).2).1
theorem ex_32 {K : PySem.W.Frag} (h : exl K = true) : (decide (tupW K (He.ga K "RULES") = some (["cut", "empty", "refuse"] : List Str))) = true := (He.ba (He.ba (He.ba (He.ba (He.ba (He.ba (He.ba (He.ba (He.ba (He.ba (He.ba (He.ba (He.ba (exg1 h)).2).2).2).2).2).2).2).2).2).2).2).2).1
theorem ex_33 {K : PySem.W.Frag} (h : exl K = true) : (decide (PySem.W.nsIn K mainGlobals "DEEDS" = some (some (.ref (He.ga K "DEEDS"))))) = true := (He.ba (He.ba (He.ba (He.ba (He.ba (He.ba (He.ba (He.ba (He.ba (He.ba (He.ba (He.ba (He.ba (He.ba (exg1 h)).2).2).2).2).2).2).2).2).2).2).2).2).2).1
theorem ex_34 {K : PySem.W.Frag} (h : exl K = true) : (decide (tupW K (He.ga K "DEEDS") = some (["match", "order", "show"] : List Str))) = true := (He.ba (He.ba (He.ba (He.ba (He.ba (He.ba (He.ba (He.ba (He.ba (He.ba (He.ba (He.ba (He.ba (He.ba (He.ba (exg1 h)).2).2).2).2).2).2).2).2).2).2).2).2).2).2).1
theorem ex_35 {K : PySem.W.Frag} (h : exl K = true) : (decide (PySem.W.nsIn K mainGlobals "READ_SIDES" = some (some (.ref (He.ga K "READ_SIDES"))))) = true := (He.ba (He.ba (He.ba (He.ba (He.ba (He.ba (He.ba (He.ba (He.ba (He.ba (He.ba (He.ba (He.ba (He.ba (He.ba (He.ba (exg1 h)).2).2).2).2).2).2).2).2).2).2).2).2).2).2).2).1
theorem ex_36 {K : PySem.W.Frag} (h : exl K = true) : (decide (tupW K (He.ga K "READ_SIDES") = some (["narrow", "wide", "either"] : List Str))) = true := (He.ba (He.ba (He.ba (He.ba (He.ba (He.ba (He.ba (He.ba (He.ba (He.ba (He.ba (He.ba (He.ba (He.ba (He.ba (He.ba (He.ba (exg1 h)).2).2).2).2).2).2).2).2).2).2).2).2).2).2).2).2).1
theorem ex_37 {K : PySem.W.Frag} (h : exl K = true) : (decide (PySem.W.nsIn K mainGlobals "HOWS" = some (some (.ref (He.ga K "HOWS"))))) = true := (He.ba (He.ba (He.ba (He.ba (He.ba (He.ba (He.ba (He.ba (He.ba (He.ba (He.ba (He.ba (He.ba (He.ba (He.ba (He.ba (He.ba (He.ba (exg1 h)).2).2).2).2).2).2).2).2).2).2).2).2).2).2).2).2).2).1
theorem ex_38 {K : PySem.W.Frag} (h : exl K = true) : (decide (tupW K (He.ga K "HOWS") = some (["narrow", "wide", "both", "narrow first", "wide first"] : List Str))) = true := (He.ba (He.ba (He.ba (He.ba (He.ba (He.ba (He.ba (He.ba (He.ba (He.ba (He.ba (He.ba (He.ba (He.ba (He.ba (He.ba (He.ba (He.ba (He.ba (exg1 h)).2).2).2).2).2).2).2).2).2).2).2).2).2).2).2).2).2).2).1
theorem ex_39 {K : PySem.W.Frag} (h : exl K = true) : (decide (PySem.W.nsIn K mainGlobals "IN_TWO_EVENTS" = some (some (.ref (He.ga K "IN_TWO_EVENTS"))))) = true := (He.ba (He.ba (He.ba (He.ba (He.ba (He.ba (He.ba (He.ba (He.ba (He.ba (He.ba (He.ba (He.ba (He.ba (He.ba (He.ba (He.ba (He.ba (He.ba (exg1 h)).2).2).2).2).2).2).2).2).2).2).2).2).2).2).2).2).2).2).2
theorem exg2 {K : PySem.W.Frag} (h : exl K = true) : exl2 K = true := (He.ba (He.ba (He.ba h).2).2).1
theorem ex_40 {K : PySem.W.Frag} (h : exl K = true) : (decide (tupW K (He.ga K "IN_TWO_EVENTS") = some (["narrow first", "wide first"] : List Str))) = true := (He.ba (exg2 h)).1
theorem ex_41 {K : PySem.W.Frag} (h : exl K = true) : (decide (PySem.W.nsIn K mainGlobals "MEANT" = some (some (.ref (He.ga K "MEANT"))))) = true := (He.ba (He.ba (exg2 h)).2).1
theorem ex_42 {K : PySem.W.Frag} (h : exl K = true) : (decide (tupW K (He.ga K "MEANT") = some (["small", "great"] : List Str))) = true := (He.ba (He.ba (He.ba (exg2 h)).2).2).1
theorem ex_43 {K : PySem.W.Frag} (h : exl K = true) : (decide (PySem.W.nsIn K mainGlobals "NARROW_WORDS" = some (some (.ref (He.ga K "NARROW_WORDS"))))) = true := (He.ba (He.ba (He.ba (He.ba (exg2 h)).2).2).2).1
theorem ex_44 {K : PySem.W.Frag} (h : exl K = true) : (decide (tupW K (He.ga K "NARROW_WORDS") = some (["none", "same", "cut", "old"] : List Str))) = true := (He.ba (He.ba (He.ba (He.ba (He.ba (exg2 h)).2).2).2).2).1
theorem ex_45 {K : PySem.W.Frag} (h : exl K = true) : (decide (PySem.W.nsIn K mainGlobals "WIDE_WORDS" = some (some (.ref (He.ga K "WIDE_WORDS"))))) = true := (He.ba (He.ba (He.ba (He.ba (He.ba (He.ba (exg2 h)).2).2).2).2).2).1
theorem ex_46 {K : PySem.W.Frag} (h : exl K = true) : (decide (tupW K (He.ga K "WIDE_WORDS") = some (["none", "same", "cut", "old", "far"] : List Str))) = true := (He.ba (He.ba (He.ba (He.ba (He.ba (He.ba (He.ba (exg2 h)).2).2).2).2).2).2).1
theorem ex_47 {K : PySem.W.Frag} (h : exl K = true) : (decide (PySem.W.nsIn K mainGlobals "LATE_WORDS" = some (some (.ref (He.ga K "LATE_WORDS"))))) = true := (He.ba (He.ba (He.ba (He.ba (He.ba (He.ba (He.ba (He.ba (exg2 h)).2).2).2).2).2).2).2).1
theorem ex_48 {K : PySem.W.Frag} (h : exl K = true) : (decide (tupW K (He.ga K "LATE_WORDS") = some (["same", "cut", "old", "far"] : List Str))) = true := (He.ba (He.ba (He.ba (He.ba (He.ba (He.ba (He.ba (He.ba (He.ba (exg2 h)).2).2).2).2).2).2).2).2).1
theorem ex_49 {K : PySem.W.Frag} (h : exl K = true) : (decide (PySem.W.nsIn K mainGlobals "VISITS" = some (some (.ref (He.ga K "VISITS"))))) = true := (He.ba (He.ba (He.ba (He.ba (He.ba (He.ba (He.ba (He.ba (He.ba (He.ba (exg2 h)).2).2).2).2).2).2).2).2).2).1
theorem ex_50 {K : PySem.W.Frag} (h : exl K = true) : (decide (tupW K (He.ga K "VISITS") = some (["ahead", "seen", ""] : List Str))) = true := (He.ba (He.ba (He.ba (He.ba (He.ba (He.ba (He.ba (He.ba (He.ba (He.ba (He.ba (exg2 h)).2).2).2).2).2).2).2).2).2).2).1
theorem ex_51 {K : PySem.W.Frag} (h : exl K = true) : (decide (PySem.W.nsIn K mainGlobals "dict" = some none)) = true := (He.ba (He.ba (He.ba (He.ba (He.ba (He.ba (He.ba (He.ba (He.ba (He.ba (He.ba (He.ba (exg2 h)).2).2).2).2).2).2).2).2).2).2).2).1
theorem ex_52 {K : PySem.W.Frag} (h : exl K = true) : (decide (PySem.W.specialIn K (.builtin "object.__class__") "__get__" = some (some (.builtin "getset_descriptor.__get__")))) = true := (He.ba (He.ba (He.ba (He.ba (He.ba (He.ba (He.ba (He.ba (He.ba (He.ba (He.ba (He.ba (He.ba (exg2 h)).2).2).2).2).2).2).2).2).2).2).2).2).1
theorem ex_53 {K : PySem.W.Frag} (h : exl K = true) : (decide (PySem.W.takesIn K (.builtin "object.__class__") = some true)) = true := (He.ba (He.ba (He.ba (He.ba (He.ba (He.ba (He.ba (He.ba (He.ba (He.ba (He.ba (He.ba (He.ba (He.ba (exg2 h)).2).2).2).2).2).2).2).2).2).2).2).2).2).1
theorem ex_54 {K : PySem.W.Frag} (h : exl K = true) : (decide (PySem.W.nsIn K mainGlobals "editions_of" = some (some (.ref (He.ga K "editions_of"))))) = true := (He.ba (He.ba (He.ba (He.ba (He.ba (He.ba (He.ba (He.ba (He.ba (He.ba (He.ba (He.ba (He.ba (He.ba (He.ba (exg2 h)).2).2).2).2).2).2).2).2).2).2).2).2).2).2).1
theorem ex_55 {K : PySem.W.Frag} (h : exl K = true) : (decide (PySem.W.nsIn K mainGlobals "edition_of" = some (some (.ref (He.ga K "edition_of"))))) = true := (He.ba (He.ba (He.ba (He.ba (He.ba (He.ba (He.ba (He.ba (He.ba (He.ba (He.ba (He.ba (He.ba (He.ba (He.ba (He.ba (exg2 h)).2).2).2).2).2).2).2).2).2).2).2).2).2).2).2).1
theorem ex_56 {K : PySem.W.Frag} (h : exl K = true) : (decide (PySem.W.nsIn K mainGlobals "is_integer" = some (some (.ref (He.ga K "is_integer"))))) = true := (He.ba (He.ba (He.ba (He.ba (He.ba (He.ba (He.ba (He.ba (He.ba (He.ba (He.ba (He.ba (He.ba (He.ba (He.ba (He.ba (He.ba (exg2 h)).2).2).2).2).2).2).2).2).2).2).2).2).2).2).2).2).1
theorem ex_57 {K : PySem.W.Frag} (h : exl K = true) : (decide (PySem.W.nsIn K mainGlobals "is_between" = some (some (.ref (He.ga K "is_between"))))) = true := (He.ba (He.ba (He.ba (He.ba (He.ba (He.ba (He.ba (He.ba (He.ba (He.ba (He.ba (He.ba (He.ba (He.ba (He.ba (He.ba (He.ba (He.ba (exg2 h)).2).2).2).2).2).2).2).2).2).2).2).2).2).2).2).2).2).1
theorem ex_58 {K : PySem.W.Frag} (h : exl K = true) : (decide (PySem.W.nsIn K mainGlobals "is_name" = some (some (.ref (He.ga K "is_name"))))) = true := (He.ba (He.ba (He.ba (He.ba (He.ba (He.ba (He.ba (He.ba (He.ba (He.ba (He.ba (He.ba (He.ba (He.ba (He.ba (He.ba (He.ba (He.ba (He.ba (exg2 h)).2).2).2).2).2).2).2).2).2).2).2).2).2).2).2).2).2).2).1
theorem ex_59 {K : PySem.W.Frag} (h : exl K = true) : (decide (PySem.W.nsIn K mainGlobals "is_tuple_of" = some (some (.ref (He.ga K "is_tuple_of"))))) = true := (He.ba (He.ba (He.ba (He.ba (He.ba (He.ba (He.ba (He.ba (He.ba (He.ba (He.ba (He.ba (He.ba (He.ba (He.ba (He.ba (He.ba (He.ba (He.ba (exg2 h)).2).2).2).2).2).2).2).2).2).2).2).2).2).2).2).2).2).2).2
theorem exg3 {K : PySem.W.Frag} (h : exl K = true) : exl3 K = true := (He.ba (He.ba (He.ba (He.ba h).2).2).2).1
theorem ex_60 {K : PySem.W.Frag} (h : exl K = true) : (decide (PySem.W.nsIn K mainGlobals "is_ascending" = some (some (.ref (He.ga K "is_ascending"))))) = true := (He.ba (exg3 h)).1
theorem ex_61 {K : PySem.W.Frag} (h : exl K = true) : (decide (PySem.W.nsIn K mainGlobals "is_count" = some (some (.ref (He.ga K "is_count"))))) = true := (He.ba (He.ba (exg3 h)).2).1
theorem ex_62 {K : PySem.W.Frag} (h : exl K = true) : (decide (PySem.W.findIn K (.ref (He.ga K "Kind")) "__init__" = some (some (.ref (He.ma K (He.ga K "Kind") "__init__"))))) = true := (He.ba (He.ba (He.ba (exg3 h)).2).2).1
theorem ex_63 {K : PySem.W.Frag} (h : exl K = true) : (PySem.W.isFn K (.ref (He.ma K (He.ga K "Kind") "__init__"))) = true := (He.ba (He.ba (He.ba (He.ba (exg3 h)).2).2).2).1
theorem ex_64 {K : PySem.W.Frag} (h : exl K = true) : (decide (PySem.W.findIn K (.ref (He.ga K "Kind")) "__eq__" = some (some (.ref (He.ma K (He.ga K "Kind") "__eq__"))))) = true := (He.ba (He.ba (He.ba (He.ba (He.ba (exg3 h)).2).2).2).2).1
theorem ex_65 {K : PySem.W.Frag} (h : exl K = true) : (PySem.W.isFn K (.ref (He.ma K (He.ga K "Kind") "__eq__"))) = true := (He.ba (He.ba (He.ba (He.ba (He.ba (He.ba (exg3 h)).2).2).2).2).2).1
theorem ex_66 {K : PySem.W.Frag} (h : exl K = true) : (decide (PySem.W.findIn K (.ref (He.ga K "Kind")) "__le__" = some (some (.ref (He.ma K (He.ga K "Kind") "__le__"))))) = true := (He.ba (He.ba (He.ba (He.ba (He.ba (He.ba (He.ba (exg3 h)).2).2).2).2).2).2).1
theorem ex_67 {K : PySem.W.Frag} (h : exl K = true) : (PySem.W.isFn K (.ref (He.ma K (He.ga K "Kind") "__le__"))) = true := (He.ba (He.ba (He.ba (He.ba (He.ba (He.ba (He.ba (He.ba (exg3 h)).2).2).2).2).2).2).2).1
theorem ex_68 {K : PySem.W.Frag} (h : exl K = true) : (decide (PySem.W.findIn K (.ref (He.ga K "Kind")) "__lt__" = some (some (.ref (He.ma K (He.ga K "Kind") "__lt__"))))) = true := (He.ba (He.ba (He.ba (He.ba (He.ba (He.ba (He.ba (He.ba (He.ba (exg3 h)).2).2).2).2).2).2).2).2).1
theorem ex_69 {K : PySem.W.Frag} (h : exl K = true) : (PySem.W.isFn K (.ref (He.ma K (He.ga K "Kind") "__lt__"))) = true := (He.ba (He.ba (He.ba (He.ba (He.ba (He.ba (He.ba (He.ba (He.ba (He.ba (exg3 h)).2).2).2).2).2).2).2).2).2).1
theorem ex_70 {K : PySem.W.Frag} (h : exl K = true) : (decide (PySem.W.findIn K (.ref (He.ga K "World")) "__init__" = some (some (.ref (He.ma K (He.ga K "World") "__init__"))))) = true := (He.ba (He.ba (He.ba (He.ba (He.ba (He.ba (He.ba (He.ba (He.ba (He.ba (He.ba (exg3 h)).2).2).2).2).2).2).2).2).2).2).1
theorem ex_71 {K : PySem.W.Frag} (h : exl K = true) : (PySem.W.isFn K (.ref (He.ma K (He.ga K "World") "__init__"))) = true := (He.ba (He.ba (He.ba (He.ba (He.ba (He.ba (He.ba (He.ba (He.ba (He.ba (He.ba (He.ba (exg3 h)).2).2).2).2).2).2).2).2).2).2).2).1
theorem ex_72 {K : PySem.W.Frag} (h : exl K = true) : (decide (PySem.W.nsIn K mainGlobals "_are_kinds" = some (some (.ref (He.ga K "_are_kinds"))))) = true := (He.ba (He.ba (He.ba (He.ba (He.ba (He.ba (He.ba (He.ba (He.ba (He.ba (He.ba (He.ba (He.ba (exg3 h)).2).2).2).2).2).2).2).2).2).2).2).2).1
theorem ex_73 {K : PySem.W.Frag} (h : exl K = true) : (decide (PySem.W.nsIn K mainGlobals "_are_columns" = some (some (.ref (He.ga K "_are_columns"))))) = true := (He.ba (He.ba (He.ba (He.ba (He.ba (He.ba (He.ba (He.ba (He.ba (He.ba (He.ba (He.ba (He.ba (He.ba (exg3 h)).2).2).2).2).2).2).2).2).2).2).2).2).2).1
theorem ex_74 {K : PySem.W.Frag} (h : exl K = true) : (decide (PySem.W.nsIn K mainGlobals "_are_programs" = some (some (.ref (He.ga K "_are_programs"))))) = true := (He.ba (He.ba (He.ba (He.ba (He.ba (He.ba (He.ba (He.ba (He.ba (He.ba (He.ba (He.ba (He.ba (He.ba (He.ba (exg3 h)).2).2).2).2).2).2).2).2).2).2).2).2).2).2).1
theorem ex_75 {K : PySem.W.Frag} (h : exl K = true) : (decide (PySem.W.nsIn K mainGlobals "_is_program" = some (some (.ref (He.ga K "_is_program"))))) = true := (He.ba (He.ba (He.ba (He.ba (He.ba (He.ba (He.ba (He.ba (He.ba (He.ba (He.ba (He.ba (He.ba (He.ba (He.ba (He.ba (exg3 h)).2).2).2).2).2).2).2).2).2).2).2).2).2).2).2).1
theorem ex_76 {K : PySem.W.Frag} (h : exl K = true) : (decide (PySem.W.nsIn K mainGlobals "_is_edition" = some (some (.ref (He.ga K "_is_edition"))))) = true := (He.ba (He.ba (He.ba (He.ba (He.ba (He.ba (He.ba (He.ba (He.ba (He.ba (He.ba (He.ba (He.ba (He.ba (He.ba (He.ba (He.ba (exg3 h)).2).2).2).2).2).2).2).2).2).2).2).2).2).2).2).2).1
theorem ex_77 {K : PySem.W.Frag} (h : exl K = true) : (decide (PySem.W.nsIn K mainGlobals "_are_rows" = some (some (.ref (He.ga K "_are_rows"))))) = true := (He.ba (He.ba (He.ba (He.ba (He.ba (He.ba (He.ba (He.ba (He.ba (He.ba (He.ba (He.ba (He.ba (He.ba (He.ba (He.ba (He.ba (He.ba (exg3 h)).2).2).2).2).2).2).2).2).2).2).2).2).2).2).2).2).2).1
theorem ex_78 {K : PySem.W.Frag} (h : exl K = true) : (decide (PySem.W.nsIn K mainGlobals "_is_read" = some (some (.ref (He.ga K "_is_read"))))) = true := (He.ba (He.ba (He.ba (He.ba (He.ba (He.ba (He.ba (He.ba (He.ba (He.ba (He.ba (He.ba (He.ba (He.ba (He.ba (He.ba (He.ba (He.ba (He.ba (exg3 h)).2).2).2).2).2).2).2).2).2).2).2).2).2).2).2).2).2).2).1
theorem ex_79 {K : PySem.W.Frag} (h : exl K = true) : (decide (PySem.W.nsIn K mainGlobals "_is_write" = some (some (.ref (He.ga K "_is_write"))))) = true := (He.ba (He.ba (He.ba (He.ba (He.ba (He.ba (He.ba (He.ba (He.ba (He.ba (He.ba (He.ba (He.ba (He.ba (He.ba (He.ba (He.ba (He.ba (He.ba (exg3 h)).2).2).2).2).2).2).2).2).2).2).2).2).2).2).2).2).2).2).2
theorem exg4 {K : PySem.W.Frag} (h : exl K = true) : exl4 K = true := (He.ba (He.ba (He.ba (He.ba (He.ba h).2).2).2).2).1
theorem ex_80 {K : PySem.W.Frag} (h : exl K = true) : (decide (PySem.W.nsIn K mainGlobals "_is_first_edition" = some (some (.ref (He.ga K "_is_first_edition"))))) = true := (He.ba (exg4 h)).1
theorem ex_81 {K : PySem.W.Frag} (h : exl K = true) : (decide (PySem.W.nsIn K mainGlobals "_many_in_two_events" = some (some (.ref (He.ga K "_many_in_two_events"))))) = true := (He.ba (He.ba (exg4 h)).2).1
theorem ex_82 {K : PySem.W.Frag} (h : exl K = true) : (decide (PySem.W.nsIn K mainGlobals "is_mark" = some (some (.ref (He.ga K "is_mark"))))) = true := (He.ba (He.ba (He.ba (exg4 h)).2).2).1
theorem ex_83 {K : PySem.W.Frag} (h : exl K = true) : (decide (PySem.W.nsIn K mainGlobals "_is_top" = some (some (.ref (He.ga K "_is_top"))))) = true := (He.ba (He.ba (He.ba (He.ba (exg4 h)).2).2).2).1
theorem ex_84 {K : PySem.W.Frag} (h : exl K = true) : (decide (PySem.W.nsIn K mainGlobals "_are_late" = some (some (.ref (He.ga K "_are_late"))))) = true := (He.ba (He.ba (He.ba (He.ba (He.ba (exg4 h)).2).2).2).2).1
theorem ex_85 {K : PySem.W.Frag} (h : exl K = true) : (decide (PySem.W.nsIn K mainGlobals "_is_late" = some (some (.ref (He.ga K "_is_late"))))) = true := (He.ba (He.ba (He.ba (He.ba (He.ba (He.ba (exg4 h)).2).2).2).2).2).1
theorem ex_86 {K : PySem.W.Frag} (h : exl K = true) : (decide (PySem.W.nsIn K mainGlobals "_law_in_order" = some (some (.ref (He.ga K "_law_in_order"))))) = true := (He.ba (He.ba (He.ba (He.ba (He.ba (He.ba (He.ba (exg4 h)).2).2).2).2).2).2).1
theorem ex_87 {K : PySem.W.Frag} (h : exl K = true) : (decide (PySem.W.nsIn K mainGlobals "_law_pot_of" = some (some (.ref (He.ga K "_law_pot_of"))))) = true := (He.ba (He.ba (He.ba (He.ba (He.ba (He.ba (He.ba (He.ba (exg4 h)).2).2).2).2).2).2).2).1
theorem ex_88 {K : PySem.W.Frag} (h : exl K = true) : (decide (PySem.W.nsIn K mainGlobals "_law_take" = some (some (.ref (He.ga K "_law_take"))))) = true := (He.ba (He.ba (He.ba (He.ba (He.ba (He.ba (He.ba (He.ba (He.ba (exg4 h)).2).2).2).2).2).2).2).2).1
theorem ex_89 {K : PySem.W.Frag} (h : exl K = true) : (decide (PySem.W.nsIn K mainGlobals "_law_of" = some (some (.ref (He.ga K "_law_of"))))) = true := (He.ba (He.ba (He.ba (He.ba (He.ba (He.ba (He.ba (He.ba (He.ba (He.ba (exg4 h)).2).2).2).2).2).2).2).2).2).1
theorem ex_90 {K : PySem.W.Frag} (h : exl K = true) : (decide (PySem.W.nsIn K mainGlobals "_law_made" = some (some (.ref (He.ga K "_law_made"))))) = true := (He.ba (He.ba (He.ba (He.ba (He.ba (He.ba (He.ba (He.ba (He.ba (He.ba (He.ba (exg4 h)).2).2).2).2).2).2).2).2).2).2).1
theorem ex_91 {K : PySem.W.Frag} (h : exl K = true) : (decide (PySem.W.nsIn K mainGlobals "_law_late_world" = some (some (.ref (He.ga K "_law_late_world"))))) = true := (He.ba (He.ba (He.ba (He.ba (He.ba (He.ba (He.ba (He.ba (He.ba (He.ba (He.ba (He.ba (exg4 h)).2).2).2).2).2).2).2).2).2).2).2).1
theorem ex_92 {K : PySem.W.Frag} (h : exl K = true) : (decide (PySem.W.nsIn K mainGlobals "_law_any_mark" = some (some (.ref (He.ga K "_law_any_mark"))))) = true := (He.ba (He.ba (He.ba (He.ba (He.ba (He.ba (He.ba (He.ba (He.ba (He.ba (He.ba (He.ba (He.ba (exg4 h)).2).2).2).2).2).2).2).2).2).2).2).2).1
theorem ex_93 {K : PySem.W.Frag} (h : exl K = true) : (decide (PySem.W.nsIn K mainGlobals "_law_is_own_late" = some (some (.ref (He.ga K "_law_is_own_late"))))) = true := (He.ba (He.ba (He.ba (He.ba (He.ba (He.ba (He.ba (He.ba (He.ba (He.ba (He.ba (He.ba (He.ba (He.ba (exg4 h)).2).2).2).2).2).2).2).2).2).2).2).2).2).1
theorem ex_94 {K : PySem.W.Frag} (h : exl K = true) : (decide (PySem.W.nsIn K mainGlobals "_law_is_own_mark" = some (some (.ref (He.ga K "_law_is_own_mark"))))) = true := (He.ba (He.ba (He.ba (He.ba (He.ba (He.ba (He.ba (He.ba (He.ba (He.ba (He.ba (He.ba (He.ba (He.ba (He.ba (exg4 h)).2).2).2).2).2).2).2).2).2).2).2).2).2).2).1
theorem ex_95 {K : PySem.W.Frag} (h : exl K = true) : (decide (PySem.W.nsIn K mainGlobals "_law_bent" = some (some (.ref (He.ga K "_law_bent"))))) = true := (He.ba (He.ba (He.ba (He.ba (He.ba (He.ba (He.ba (He.ba (He.ba (He.ba (He.ba (He.ba (He.ba (He.ba (He.ba (He.ba (exg4 h)).2).2).2).2).2).2).2).2).2).2).2).2).2).2).2).1
theorem ex_96 {K : PySem.W.Frag} (h : exl K = true) : (decide (PySem.W.nsIn K mainGlobals "law" = some (some (.ref (He.ga K "law"))))) = true := (He.ba (He.ba (He.ba (He.ba (He.ba (He.ba (He.ba (He.ba (He.ba (He.ba (He.ba (He.ba (He.ba (He.ba (He.ba (He.ba (He.ba (exg4 h)).2).2).2).2).2).2).2).2).2).2).2).2).2).2).2).2).1
theorem ex_97 {K : PySem.W.Frag} (h : exl K = true) : (decide (PySem.W.nsIn K mainGlobals "int" = some none)) = true := (He.ba (He.ba (He.ba (He.ba (He.ba (He.ba (He.ba (He.ba (He.ba (He.ba (He.ba (He.ba (He.ba (He.ba (He.ba (He.ba (He.ba (He.ba (exg4 h)).2).2).2).2).2).2).2).2).2).2).2).2).2).2).2).2).2).1
theorem ex_98 {K : PySem.W.Frag} (h : exl K = true) : (decide (PySem.W.nsIn K mainGlobals "len" = some none)) = true := (He.ba (He.ba (He.ba (He.ba (He.ba (He.ba (He.ba (He.ba (He.ba (He.ba (He.ba (He.ba (He.ba (He.ba (He.ba (He.ba (He.ba (He.ba (He.ba (exg4 h)).2).2).2).2).2).2).2).2).2).2).2).2).2).2).2).2).2).2).1
theorem ex_99 {K : PySem.W.Frag} (h : exl K = true) : (decide (PySem.W.nsIn K mainGlobals "abs" = some none)) = true := (He.ba (He.ba (He.ba (He.ba (He.ba (He.ba (He.ba (He.ba (He.ba (He.ba (He.ba (He.ba (He.ba (He.ba (He.ba (He.ba (He.ba (He.ba (He.ba (exg4 h)).2).2).2).2).2).2).2).2).2).2).2).2).2).2).2).2).2).2).2
theorem exg5 {K : PySem.W.Frag} (h : exl K = true) : exl5 K = true := (He.ba (He.ba (He.ba (He.ba (He.ba h).2).2).2).2).2
theorem ex_100 {K : PySem.W.Frag} (h : exl K = true) : (decide (PySem.W.nsIn K mainGlobals "bool" = some none)) = true := (He.ba (exg5 h)).1
theorem ex_101 {K : PySem.W.Frag} (h : exl K = true) : (decide (PySem.W.nsIn K mainGlobals "tuple" = some none)) = true := (He.ba (He.ba (exg5 h)).2).1
theorem ex_102 {K : PySem.W.Frag} (h : exl K = true) : (decide (PySem.W.nsIn K mainGlobals "isinstance" = some none)) = true := (He.ba (He.ba (He.ba (exg5 h)).2).2).1
theorem ex_103 {K : PySem.W.Frag} (h : exl K = true) : (decide (PySem.W.nsIn K mainGlobals "range" = some none)) = true := (He.ba (He.ba (He.ba (He.ba (exg5 h)).2).2).2).1
theorem ex_104 {K : PySem.W.Frag} (h : exl K = true) : (decide (PySem.W.nsIn K mainGlobals "max" = some none)) = true := (He.ba (He.ba (He.ba (He.ba (He.ba (exg5 h)).2).2).2).2).1
theorem ex_105 {K : PySem.W.Frag} (h : exl K = true) : (decide (PySem.W.nsIn K mainGlobals "min" = some none)) = true := (He.ba (He.ba (He.ba (He.ba (He.ba (He.ba (exg5 h)).2).2).2).2).2).1
theorem ex_106 {K : PySem.W.Frag} (h : exl K = true) : (decide (PySem.W.nsIn K mainGlobals "all" = some none)) = true := (He.ba (He.ba (He.ba (He.ba (He.ba (He.ba (He.ba (exg5 h)).2).2).2).2).2).2).1
theorem ex_107 {K : PySem.W.Frag} (h : exl K = true) : (decide (PySem.W.nsIn K mainGlobals "repr" = some none)) = true := (He.ba (He.ba (He.ba (He.ba (He.ba (He.ba (He.ba (He.ba (exg5 h)).2).2).2).2).2).2).2).1
theorem ex_108 {K : PySem.W.Frag} (h : exl K = true) : (decide (PySem.W.nsIn K mainGlobals "str" = some none)) = true := (He.ba (He.ba (He.ba (He.ba (He.ba (He.ba (He.ba (He.ba (He.ba (exg5 h)).2).2).2).2).2).2).2).2).1
theorem ex_109 {K : PySem.W.Frag} (h : exl K = true) : (decide (PySem.W.nsIn K mainGlobals "any" = some none)) = true := (He.ba (He.ba (He.ba (He.ba (He.ba (He.ba (He.ba (He.ba (He.ba (He.ba (exg5 h)).2).2).2).2).2).2).2).2).2).1
theorem ex_110 {K : PySem.W.Frag} (h : exl K = true) : (decide (PySem.W.nsIn K mainGlobals "list" = some none)) = true := (He.ba (He.ba (He.ba (He.ba (He.ba (He.ba (He.ba (He.ba (He.ba (He.ba (He.ba (exg5 h)).2).2).2).2).2).2).2).2).2).2).1
theorem ex_111 {K : PySem.W.Frag} (h : exl K = true) : (decide (PySem.W.nsIn K mainGlobals "zip" = some none)) = true := (He.ba (He.ba (He.ba (He.ba (He.ba (He.ba (He.ba (He.ba (He.ba (He.ba (He.ba (He.ba (exg5 h)).2).2).2).2).2).2).2).2).2).2).2).1
theorem ex_112 {K : PySem.W.Frag} (h : exl K = true) : (decide (PySem.W.nsIn K mainGlobals "enumerate" = some none)) = true := (He.ba (He.ba (He.ba (He.ba (He.ba (He.ba (He.ba (He.ba (He.ba (He.ba (He.ba (He.ba (exg5 h)).2).2).2).2).2).2).2).2).2).2).2).2
def lo0 : List Str := [("editions_of" : Str), ("edition_of" : Str), ("MOST_FIGURES" : Str), ("is_integer" : Str), ("is_between" : Str), ("lesser" : Str), ("greater" : Str), ("read_integer" : Str), ("SIDES" : Str), ("RULES" : Str), ("MOST_LETTERS" : Str), ("is_name" : Str), ("is_tuple_of" : Str), ("is_ascending" : Str), ("is_count" : Str), ("WidthError" : Str), ("BadKind" : Str), ("BadNumber" : Str), ("BadBits" : Str), ("BadText" : Str), ("BadWorld" : Str), ("MOST_BITS" : Str), ("MOST_DIGITS" : Str), ("Kind" : Str), ("_power_of_ten" : Str)]
def lo1 : List Str := [("LEAST_NARROW" : Str), ("MOST_PACE" : Str), ("MOST_IN_TWO_EVENTS" : Str), ("DEEDS" : Str), ("READ_SIDES" : Str), ("HOWS" : Str), ("IN_TWO_EVENTS" : Str), ("World" : Str), ("_are_kinds" : Str), ("_are_columns" : Str), ("_are_programs" : Str), ("_is_program" : Str), ("_is_edition" : Str), ("_are_rows" : Str), ("_is_read" : Str), ("_is_write" : Str), ("_is_first_edition" : Str), ("_many_in_two_events" : Str), ("MEANT" : Str), ("NARROW_WORDS" : Str), ("WIDE_WORDS" : Str), ("LATE_WORDS" : Str), ("VISITS" : Str), ("is_mark" : Str), ("_is_top" : Str)]
def lo2 : List Str := [("_are_late" : Str), ("_is_late" : Str), ("_law_in_order" : Str), ("_law_pot_of" : Str), ("_law_take" : Str), ("_law_of" : Str), ("_law_made" : Str), ("_law_late_world" : Str), ("_law_any_mark" : Str), ("_law_is_own_late" : Str), ("_law_is_own_mark" : Str), ("_law_bent" : Str)]
def los : List Str := lo0 ++ lo1 ++ lo2
abbrev R : PySem.W.OpenRow := PySem.W.OpenLaw.row PySem.Challenge.rw_widerkeys_k35_what_is_a_mark
def asl0 : List Addr := [3, 21, 28, 35, 42, 64, 65, 72, 79, 84, 91, 326, 338, 339, 340, 341, 365, 376, 381, 386, 391, 396, 401, 406, 413, 418, 423, 424, 425, 426]
def asl1 : List Addr := [427, 428, 433, 440, 445, 450, 455, 462, 469, 476, 483, 488, 493, 498, 503, 508, 515, 20, 27, 34, 41, 71, 78, 83, 90, 325, 364, 375, 380, 385]
def asl2 : List Addr := [390, 395, 400, 405, 412, 417, 422, 432, 439, 444, 449, 454, 461, 468, 475, 482, 487, 492, 497, 502, 507, 514, 213, 274, 281, 288, 355, 212, 273, 280]
def asl3 : List Addr := [287, 354]
def asl : List Addr := asl0 ++ asl1 ++ asl2 ++ asl3
abbrev hk : PySem.W.Hook := hookL asl fnl tsl exl
def ob (s : PySem.W.SharedT) : AlL := obsL asl fnl tsl exl (HandSHeadRun.getT s)
theorem ob_eq (s : PySem.W.SharedT) : ob s = hk.obs s.abs := obsL_eq (HandSHeadRun.getT_eq s)
noncomputable def EndE (w : World) (os : OsState) : Option PySem.W.SharedT := HandSHeadRun.endF (HandSHeadRun.stepQ (HandSHeadRun.denQ HandSHeadRun.tabQ) R.prog w) 12000 R.prog w os
noncomputable def fA (w : World) (s : PySem.W.SharedT) := (HandSHeadRun.looksF R.prog (PySem.W.boot_heap w.params) s.abs, HandSHeadRun.seenQ (PySem.W.view R.prog [70]) los (PySem.importedModules R.prog.main.body) (fun s => PySem.W.xlAt (PySem.W.view R.prog [70]) [] s && PySem.W.recOk R.records s) s.abs)
def fE (s : PySem.W.SharedT) : Bool := exl (He.frG (HandSHeadRun.getT s) asl)
def fO (s : PySem.W.SharedT) := He.obsT [] fnl tsl (He.frG (HandSHeadRun.getT s) asl)
abbrev PA (w : World) : Prop := ∀ os : OsState, Option.map (fA w) (EndE w os) = some (true, PySem.W.openGood (PySem.W.view R.prog [70]) los)
abbrev PE_ (w : World) : Prop := ∀ os : OsState, Option.map fE (EndE w os) = some true
abbrev PO (w : World) : Prop := ∀ os : OsState, Option.map fO (EndE w os) = some (He.valT fnl tsl w)
theorem runAF (w : World) : PA (w.withFollow "special-get-raises" false) := by
  intro os
  kernel_rfl
theorem runAT (w : World) : PA (w.withFollow "special-get-raises" true) := by
  intro os
  kernel_rfl
theorem runEF (w : World) : PE_ (w.withFollow "special-get-raises" false) := by
  intro os
  kernel_rfl
theorem runET (w : World) : PE_ (w.withFollow "special-get-raises" true) := by
  intro os
  kernel_rfl
theorem runOF (w : World) : PO (w.withFollow "special-get-raises" false) := by
  intro os
  kernel_rfl
theorem runOT (w : World) : PO (w.withFollow "special-get-raises" true) := by
  intro os
  kernel_rfl
theorem run3 {α β γ σ : Type} {e : Option σ} {f : σ → α × β} {g : σ → γ} {h : σ → Bool} {x : α} {y : β} {v : γ} (a : Option.map f e = some (x, y)) (d : Option.map h e = some true) (o : Option.map g e = some v) : Option.map (fun s => ((f s).1, (f s).2, (g s, h s))) e = some (x, y, (v, true)) := by
  cases e with
  | none => cases a
  | some s =>
    have a : f s = (x, y) := Option.some.inj a
    have d : h s = true := Option.some.inj d
    have o : g s = v := Option.some.inj o
    show some ((f s).1, (f s).2, (g s, h s)) = _
    rw [a, d, o]
theorem x2 (s : PySem.W.SharedT) : ob s = (fO s, fE s) := rfl
theorem x3 (w : World) : hk.val w = (He.valT fnl tsl w, true) := rfl
theorem x4 (w : World) (s : PySem.W.SharedT) : (HandSHeadRun.looksF R.prog (PySem.W.boot_heap w.params) s.abs, HandSHeadRun.seenQ (PySem.W.view R.prog [70]) los (PySem.importedModules R.prog.main.body) (fun s => PySem.W.xlAt (PySem.W.view R.prog [70]) [] s && PySem.W.recOk R.records s) s.abs, ob s) = ((fA w s).1, (fA w s).2, (fO s, fE s)) := by
  rw [x2]
  rfl
theorem run (w : World) : HandSHeadRun.RunEq R (PySem.W.view R.prog [70]) hk ob 12000 los w := by
  intro os
  have z := run3 (PySem.W.byRow2 "special-get-raises" (P := PA) runAF runAT w os) (PySem.W.byRow2 "special-get-raises" (P := PE_) runEF runET w os) (PySem.W.byRow2 "special-get-raises" (P := PO) runOF runOT w os)
  rw [← x3] at z
  have f : (fun s => ((fA w s).1, (fA w s).2, (fO s, fE s))) = fun s => (HandSHeadRun.looksF R.prog (PySem.W.boot_heap w.params) s.abs, HandSHeadRun.seenQ (PySem.W.view R.prog [70]) los (PySem.importedModules R.prog.main.body) (fun s => PySem.W.xlAt (PySem.W.view R.prog [70]) [] s && PySem.W.recOk R.records s) s.abs, ob s) := funext fun s => (x4 w s).symm
  rw [f] at z
  unfold EndE at z
  exact z
end Zd
namespace Zd
open PySem PySem.Spec PyProof.Rows L2 Zg
structure TxN (mg : Str → Option Value) (n_MOST_LETTERS : Tok) (n_LEAST_NARROW : Tok) (n_MOST_PACE : Tok) (n_MOST_IN_TWO_EVENTS : Tok) : Prop where
  g_MOST_LETTERS : mg "MOST_LETTERS" = some (.int 8 n_MOST_LETTERS)
  g_LEAST_NARROW : mg "LEAST_NARROW" = some (.int 16 n_LEAST_NARROW)
  g_MOST_PACE : mg "MOST_PACE" = some (.int 99 n_MOST_PACE)
  g_MOST_IN_TWO_EVENTS : mg "MOST_IN_TWO_EVENTS" = some (.int 2 n_MOST_IN_TWO_EVENTS)
def L_is_integer : List Dat → M Dat := runD N_is_integer.length (sRet (xAnd (xCB dIsi (xCons (xVar 0) (xCons (xC (.ty "int")) xNil))) (xNot (xCB dIsi (xCons (xVar 0) (xCons (xC (.ty "bool")) xNil))))))
def L_is_between : List Dat → M Dat := runD N_is_between.length (sRet (xAnd (xCall L_is_integer (xCons (xVar 0) xNil)) (xChain dLe dLe (xVar 1) (xVar 0) (xVar 2))))
def L_is_name : List Dat → M Dat := runD N_is_name.length (sSeq (sIf (bOr (bNot (bTest (xCB dIsi (xCons (xVar 0) (xCons (xC (.ty "str")) xNil))))) (bTest (xOp dGt (xCB dLenS (xCons (xVar 0) xNil)) (xC (.int 8))))) (sRet (xC (.bl false))) sNx)
    (sRet (xAnd (xUn (dM0' Txt.isascii) (xVar 0)) (xAnd (xUn (dM0' Txt.isalpha) (xVar 0)) (xUn (dM0' Txt.islower) (xVar 0))))))
def L_is_tuple_of : List Dat → M Dat := runD N_is_tuple_of.length (sRet (xAnd (xCB dIsi (xCons (xVar 0) (xCons (xC (.ty "tuple")) xNil))) (xChain dLe dLe (xVar 1) (xCB dLen (xCons (xVar 0) xNil)) (xVar 2))))
def L_is_ascending : List Dat → M Dat := runD N_is_ascending.length (sRet (xCB dAll (xCons (xLc (iZipM (xCons (xVar 0) (xCons (jSl dCutL (xVar 0) (oSome (xC (.int 1))) oNone) xNil))) (gT 2 (gCo (gN 1) (gCo (gN 2) gNl))) bYes (xOp dLtS (xVar 1) (xVar 2)) [1, 2]) xNil)))
def L_is_ascendingT : List Dat → M Dat := runD N_is_ascending.length (sRet (xCB dAll (xCons (xLc (iZipM (xCons (xVar 0) (xCons (jSl dCutT (xVar 0) (oSome (xC (.int 1))) oNone) xNil))) (gT 2 (gCo (gN 1) (gCo (gN 2) gNl))) bYes (xOp dLtS (xVar 1) (xVar 2)) [1, 2]) xNil)))
def L_is_count : List Dat → M Dat := runD N_is_count.length (sRet (xAnd (xCall L_is_integer (xCons (xVar 0) xNil)) (xOp dGe (xVar 0) (xC (.int 0)))))
def L_editions_of : List Dat → M Dat := runD N_editions_of.length (sSeq (sFor (iTp (xUn (dFldI "World" "programs") (xVar 0))) (gT 2 (gCo (gN 2) (gCo (gN 3) gNl))) (sIf (bTest (xOp dEq (xVar 2) (xVar 1))) (sRet (xVar 3)) sNx))
    (sRet (xTup xNil)))
def L_Kind___init__ : List Dat → M Dat := runD N_Kind___init__.length (sSeq (sIf (bOr (bNot (bTest (xCall L_is_integer (xCons (xVar 1) xNil)))) (bOr (bNot (bTest (xCall L_is_integer (xCons (xVar 2) xNil)))) (bNot (bTest (xChain dLe dLe (xVar 1) (xC (.int 0)) (xVar 2)))))) sNo sNx)
    (sSeq (sSetFL "Kind" "low" (xVar 0) (xVar 1))
    (sSeq (sSetFL "Kind" "high" (xVar 0) (xVar 2))
    (sSetFL "Kind" "size" (xVar 0) (xOp dAdd (xOp dSub (xVar 2) (xVar 1)) (xC (.int 1)))))))
def L_Kind___le__ : List Dat → M Dat := runD N_Kind___le__.length (sSeq (sIf (bNot (bTest (xCB (dIsiI "Kind") (xCons (xVar 1) (xCons (xC (.cls "Kind")) xNil))))) sNo sNx)
    (sRet (xAnd (xOp dLe (xUn (dFldI "Kind" "low") (xVar 1)) (xUn (dFldI "Kind" "low") (xVar 0))) (xOp dLe (xUn (dFldI "Kind" "high") (xVar 0)) (xUn (dFldI "Kind" "high") (xVar 1))))))
def L_Kind___eq__ : List Dat → M Dat := runD N_Kind___eq__.length (sRet (xAnd (xCB (dIsiI "Kind") (xCons (xVar 1) (xCons (xC (.cls "Kind")) xNil))) (xAnd (xOp dEq (xUn (dFldI "Kind" "low") (xVar 0)) (xUn (dFldI "Kind" "low") (xVar 1))) (xOp dEq (xUn (dFldI "Kind" "high") (xVar 0)) (xUn (dFldI "Kind" "high") (xVar 1))))))
def L_Kind___lt__ : List Dat → M Dat := runD N_Kind___lt__.length (sSeq (sIf (bNot (bTest (xCB (dIsiI "Kind") (xCons (xVar 1) (xCons (xC (.cls "Kind")) xNil))))) sNo sNx)
    (sRet (xAnd (xOp (dOwn2 "Kind" L_Kind___le__) (xVar 0) (xVar 1)) (xNot (xOp (dOwn2 "Kind" L_Kind___eq__) (xVar 0) (xVar 1))))))
def L__are_kinds : List Dat → M Dat := runD N__are_kinds.length (sSeq (sIf (bOr (bNot (bTest (xCB (dIsiI "Kind") (xCons (xVar 0) (xCons (xC (.cls "Kind")) xNil))))) (bNot (bTest (xCB (dIsiI "Kind") (xCons (xVar 1) (xCons (xC (.cls "Kind")) xNil)))))) (sRet (xC (.bl false))) sNx)
    (sRet (xAnd (xOp (dOwn2 "Kind" L_Kind___lt__) (xVar 0) (xVar 1)) (xOp dGe (xUn (dFldI "Kind" "size") (xVar 0)) (xC (.int 16))))))
def L__are_columns : List Dat → M Dat := runD N__are_columns.length (sSeq (sIf (bOr (bNot (bTest (xCall L_is_tuple_of (xCons (xVar 0) (xCons (xC (.int 1)) (xCons (xC (.int 3)) xNil)))))) (bNot (bTest (xCB dAll (xCons (xLc (iTp (xVar 0)) (gN 1) bYes (xCall L_is_name (xCons (xVar 1) xNil)) [1]) xNil))))) (sRet (xC (.bl false))) sNx)
    (sRet (xCall L_is_ascendingT (xCons (xVar 0) xNil))))
def L__are_rows : List Dat → M Dat := runD N__are_rows.length (sSeq (sIf (bNot (bTest (xCB dIsi (xCons (xVar 1) (xCons (xC (.ty "tuple")) xNil))))) (sRet (xC (.bl false))) sNx)
    (sSeq (sFor (iTp (xVar 1)) (gN 3) (sIf (bOr (bNot (bTest (xCall L_is_tuple_of (xCons (xVar 3) (xCons (xVar 2) (xCons (xVar 2) xNil)))))) (bTest (xOp (dInS true) (xOp dIxT (xVar 3) (xC (.int 0))) (xVar 0)))) (sRet (xC (.bl false))) sNx))
    (sRet (xCall L_is_ascending (xCons (xLc (iTp (xVar 1)) (gN 3) bYes (xOp dIxT (xVar 3) (xC (.int 0))) [3]) xNil)))))
def L__is_read : List Dat → M Dat := runD N__is_read.length (sSeq (sAsg (xVar 0) (gT 3 (gCo (gN 1) (gCo (gN 2) (gCo (gN 3) gNl)))))
    (sSeq (sIf (bOr (bTest (xOp (dInS true) (xVar 2) (xC (strsT ["narrow", "wide", "either"])))) (bNot (bTest (xCB dIsi (xCons (xVar 3) (xCons (xC (.ty "tuple")) xNil)))))) (sRet (xC (.bl false))) sNx)
    (sRet (xAnd (xCB dAll (xCons (xLc (iTp (xVar 3)) (gN 4) bYes (xOp (dInS false) (xVar 4) (xC (strsT ["match", "order", "show"]))) [4]) xNil)) (xCall L_is_ascendingT (xCons (xVar 3) xNil))))))
def L__is_write : List Dat → M Dat := runD N__is_write.length (sSeq (sAsg (xVar 1) (gT 5 (gCo (gN 2) (gCo (gN 3) (gCo (gN 4) (gCo (gN 5) (gCo (gN 6) gNl)))))))
    (sSeq (sIf (bOr (bTest (xOp (dInS true) (xVar 3) (xC (strsT ["narrow", "wide", "both", "narrow first", "wide first"])))) (bOr (bTest (xOp (dInS true) (xVar 4) (xC (strsT ["cut", "empty", "refuse"])))) (bNot (bTest (xCall L_is_between (xCons (xVar 6) (xCons (xC (.int 0)) (xCons (xC (.int 99)) xNil)))))))) (sRet (xC (.bl false))) sNx)
    (sRet (xOr (xOp dEq (xVar 5) (xC (.str ""))) (xAnd (xOp (dInS false) (xVar 5) (xVar 0)) (xOp dNe (xVar 5) (xVar 2)))))))
def L__is_edition : List Dat → M Dat := runD N__is_edition.length (sSeq (sIf (bNot (bTest (xCall L_is_tuple_of (xCons (xVar 1) (xCons (xC (.int 3)) (xCons (xC (.int 3)) xNil)))))) (sRet (xC (.bl false))) sNx)
    (sSeq (sAsg (xVar 1) (gT 3 (gCo (gN 2) (gCo (gN 3) (gCo (gN 4) gNl)))))
    (sSeq (sIf (bOr (bTest (xOp (dInS true) (xVar 2) (xC (strsT ["narrow", "wide"])))) (bOr (bNot (bTest (xCall L__are_rows (xCons (xVar 0) (xCons (xVar 3) (xCons (xC (.int 3)) xNil)))))) (bNot (bTest (xCall L__are_rows (xCons (xVar 0) (xCons (xVar 4) (xCons (xC (.int 5)) xNil)))))))) (sRet (xC (.bl false))) sNx)
    (sSeq (sIf (bNot (bTest (xCB dAll (xCons (xLc (iTp (xVar 3)) (gN 6) bYes (xCall L__is_read (xCons (xVar 6) xNil)) [6]) xNil)))) (sRet (xC (.bl false))) sNx)
    (sSeq (sAsg (xLc (iTp (xVar 3)) (gN 6) bYes (xOp dIxT (xVar 6) (xC (.int 0))) [6]) (gN 5))
    (sRet (xCB dAll (xCons (xLc (iTp (xVar 4)) (gN 6) bYes (xCall L__is_write (xCons (xVar 5) (xCons (xVar 6) xNil))) [6]) xNil))))))))
def L__is_first_edition : List Dat → M Dat := runD N__is_first_edition.length (sSeq (sAsg (xVar 0) (gT 3 (gCo (gN 1) (gCo (gN 2) (gCo (gN 3) gNl)))))
    (sSeq (sIf (bNot (bTest (xCB dAll (xCons (xLc (iTp (xVar 2)) (gN 4) bYes (xOp (dInS false) (xOp dIxT (xVar 4) (xC (.int 1))) (xTup (xCons (xC (.str "narrow")) (xCons (xC (.str "either")) xNil)))) [4]) xNil)))) (sRet (xC (.bl false))) sNx)
    (sRet (xCB dAll (xCons (xLc (iTp (xVar 3)) (gN 4) bYes (xOp dEq (xOp dIxT (xVar 4) (xC (.int 1))) (xC (.str "narrow"))) [4]) xNil)))))
def L__is_program : List Dat → M Dat := runD N__is_program.length (sSeq (sIf (bNot (bTest (xCall L_is_tuple_of (xCons (xVar 1) (xCons (xC (.int 2)) (xCons (xC (.int 2)) xNil)))))) (sRet (xC (.bl false))) sNx)
    (sSeq (sAsg (xVar 1) (gT 2 (gCo (gN 2) (gCo (gN 3) gNl))))
    (sSeq (sIf (bOr (bNot (bTest (xCall L_is_name (xCons (xVar 2) xNil)))) (bNot (bTest (xCall L_is_tuple_of (xCons (xVar 3) (xCons (xC (.int 1)) (xCons (xC (.int 3)) xNil))))))) (sRet (xC (.bl false))) sNx)
    (sSeq (sIf (bNot (bTest (xCB dAll (xCons (xLc (iTp (xVar 3)) (gN 4) bYes (xCall L__is_edition (xCons (xVar 0) (xCons (xVar 4) xNil))) [4]) xNil)))) (sRet (xC (.bl false))) sNx)
    (sRet (xCall L__is_first_edition (xCons (xOp dIxT (xVar 3) (xC (.int 0))) xNil)))))))
def L__many_in_two_events : List Dat → M Dat := runD N__many_in_two_events.length (sSeq (sAsg (xC (.int 0)) (gN 1))
    (sSeq (sFor (iTp (xVar 0)) (gT 2 (gCo (gN 2) (gCo (gN 3) gNl))) (sFor (iTp (xVar 3)) (gT 3 (gCo (gN 2) (gCo (gN 2) (gCo (gN 4) gNl)))) (sAsg (xOp dAdd (xVar 1) (xCB dLen (xCons (xLc (iTp (xVar 4)) (gN 5) (bTest (xOp (dInS false) (xOp dIxT (xVar 5) (xC (.int 1))) (xC (strsT ["narrow first", "wide first"])))) (xVar 5) [5]) xNil))) (gN 1))))
    (sRet (xVar 1))))
def L__are_programs : List Dat → M Dat := runD N__are_programs.length (sSeq (sIf (bNot (bTest (xCall L_is_tuple_of (xCons (xVar 1) (xCons (xC (.int 1)) (xCons (xC (.int 3)) xNil)))))) (sRet (xC (.bl false))) sNx)
    (sSeq (sIf (bNot (bTest (xCB dAll (xCons (xLc (iTp (xVar 1)) (gN 2) bYes (xCall L__is_program (xCons (xVar 0) (xCons (xVar 2) xNil))) [2]) xNil)))) (sRet (xC (.bl false))) sNx)
    (sSeq (sIf (bNot (bTest (xCall L_is_ascending (xCons (xLc (iTp (xVar 1)) (gT 2 (gCo (gN 3) (gCo (gN 4) gNl))) bYes (xVar 3) [3, 4]) xNil)))) (sRet (xC (.bl false))) sNx)
    (sRet (xOp dLe (xCall L__many_in_two_events (xCons (xVar 1) xNil)) (xC (.int 2)))))))
def L_World___init__ : List Dat → M Dat := runD N_World___init__.length (sSeq (sAsg (xAnd (xCall L__are_kinds (xCons (xVar 1) (xCons (xVar 2) xNil))) (xAnd (xCall L__are_columns (xCons (xVar 3) xNil)) (xCall L__are_programs (xCons (xVar 3) (xCons (xVar 4) xNil))))) (gN 5))
    (sSeq (sIf (bNot (bTest (xVar 5))) sNo sNx)
    (sSeq (sSetFL "World" "narrow" (xVar 0) (xVar 1))
    (sSeq (sSetFL "World" "wide" (xVar 0) (xVar 2))
    (sSeq (sSetFL "World" "columns" (xVar 0) (xVar 3))
    (sSetFL "World" "programs" (xVar 0) (xVar 4)))))))
def L__law_pot_of : List Dat → M Dat := runD N__law_pot_of.length (sSeq (sAsg (xIf (bTest (xOp dLt (xVar 1) (xCB dLen (xCons (xVar 0) xNil)))) (xOp dIxSc (xVar 0) (xVar 1)) (xOp dAdd (xOp dMul (xC (.int 53)) (xVar 1)) (xC (.int 29)))) (gN 2))
    (sSeq (sAsg (xOp dMul (xOp dMod (xCB dInt (xCons (xCB dAbs (xCons (xVar 2) xNil)) xNil)) (xOp dPowZ (xOp dPow (xC (.int 10)) (xC (.int 60))) (xC (.int 5)))) (xCB dInt (xCons (xOp dGe (xCB dAbs (xCons (xVar 2) xNil)) (xOp dPow (xC (.int 10)) (xC (.int 18)))) xNil))) (gN 3))
    (sRetLo (xLst (xCons (xVar 3) (xCons (xOp dMod (xOp dAdd (xOp dAdd (xOp dMul (xOp dMod (xCB dInt (xCons (xVar 2) xNil)) (xC (.int 2305843009213693951))) (xC (.int 74093))) (xOp dMul (xOp dMul (xC (.int 7013)) (xVar 1)) (xVar 1))) (xC (.int 41))) (xC (.int 2305843009213693921))) (xCons (xC (.int 0)) xNil)))))))
def L__law_take : List Dat → M Dat := runD N__law_take.length (sSeq (sIf (bTest (xOp dGt (xOp dIxLo (xVar 0) (xC (.int 0))) (xC (.int 0)))) (sSeq (sAsg (xOp dMod (xCB dInt (xCons (xOp dIxLo (xVar 0) (xC (.int 0))) xNil)) (xVar 1)) (gN 2))
    (sSeq (sSetLo 0 (xC (.int 0)) (xOp dDiv (xOp dIxLo (xVar 0) (xC (.int 0))) (xVar 1)))
    (sRet (xVar 2)))) sNx)
    (sSeq (sSetLo 0 (xC (.int 2)) (xOp dAdd (xOp dIxLo (xVar 0) (xC (.int 2))) (xC (.int 1))))
    (sSeq (sAsg (xOp dIxL (xLst (xCons (xC (.int 2147483647)) (xCons (xC (.int 2147483629)) (xCons (xC (.int 2147483587)) (xCons (xC (.int 2147483579)) (xCons (xC (.int 2147483563)) xNil)))))) (xOp dMod (xCB dInt (xCons (xOp dIxLo (xVar 0) (xC (.int 2))) xNil)) (xC (.int 5)))) (gN 3))
    (sSeq (sAsg (xOp dMod (xOp dPow (xCB dInt (xCons (xOp dAdd (xOp dAdd (xOp dIxLo (xVar 0) (xC (.int 1))) (xOp dMul (xOp dMul (xC (.int 60089)) (xOp dIxLo (xVar 0) (xC (.int 2)))) (xOp dIxLo (xVar 0) (xC (.int 2))))) (xC (.int 61))) xNil)) (xC (.int 3))) (xVar 3)) (gN 4))
    (sSeq (sAsg (xOp dMod (xCB dInt (xCons (xOp dMul (xVar 4) (xOp dAdd (xOp dMod (xCB dInt (xCons (xVar 4) xNil)) (xC (.int 10061))) (xOp dMul (xC (.int 97)) (xOp dIxLo (xVar 0) (xC (.int 2)))))) xNil)) (xC (.int 2305843009213693951))) (gN 4))
    (sRet (xOp dMod (xOp dDiv (xVar 4) (xC (.int 103))) (xVar 1))))))))
def L__law_of : List Dat → M Dat := runD N__law_of.length (sRet (xOp dIxL (xVar 1) (xCall L__law_take (xCons (xVar 0) (xCons (xCB dLen (xCons (xVar 1) xNil)) xNil)))))
def L_is_ascendingD : List Dat → M Dat := runD N_is_ascending.length (sRet (xCB dAll (xCons (xLc (iZipM (xCons (xVar 0) (xCons (jSl dCutT (xVar 0) (oSome (xC (.int 1))) oNone) xNil))) (gT 2 (gCo (gN 1) (gCo (gN 2) gNl))) bYes (xOp dLtD (xVar 1) (xVar 2)) [1, 2]) xNil)))
def L_edition_of : List Dat → M Dat := runD N_edition_of.length (sRet (xOp dIxT (xCall L_editions_of (xCons (xVar 0) (xCons (xVar 1) xNil))) (xVar 2)))
def L__is_late : List Dat → M Dat := runD N__is_late.length (sSeq (sIf (bNot (bTest (xCall L_is_tuple_of (xCons (xVar 1) (xCons (xC (.int 3)) (xCons (xC (.int 3)) xNil)))))) (sRet (xC (.bl false))) sNx)
    (sSeq (sAsg (xVar 1) (gT 3 (gCo (gN 2) (gCo (gN 3) (gCo (gN 4) gNl)))))
    (sSeq (sIf (bOr (bTest (xOp (dInS true) (xVar 4) (xC (strsT ["same", "cut", "old", "far"])))) (bOr (bNot (bTest (xCall L_is_count (xCons (xVar 3) xNil)))) (bTest (xOp dGe (xVar 3) (xCB dLen (xCons (xCall L_editions_of (xCons (xVar 0) (xCons (xVar 2) xNil))) xNil)))))) (sRet (xC (.bl false))) sNx)
    (sSeq (sAsg (xCall L_edition_of (xCons (xVar 0) (xCons (xVar 2) (xCons (xVar 3) xNil)))) (gT 3 (gCo (gN 5) (gCo (gN 5) (gCo (gN 6) gNl)))))
    (sRet (xCB dAny (xCons (xLc (iTp (xVar 6)) (gN 7) bYes (xOp (dInS false) (xOp dIxT (xVar 7) (xC (.int 1))) (xC (strsT ["narrow first", "wide first"]))) [7]) xNil)))))))
def L__are_late : List Dat → M Dat := runD N__are_late.length (sSeq (sIf (bOr (bNot (bTest (xCB dIsi (xCons (xVar 1) (xCons (xC (.ty "tuple")) xNil))))) (bNot (bTest (xCB dAll (xCons (xLc (iTp (xVar 1)) (gN 2) bYes (xCall L__is_late (xCons (xVar 0) (xCons (xVar 2) xNil))) [2]) xNil))))) (sRet (xC (.bl false))) sNx)
    (sRet (xCall L_is_ascendingD (xCons (xVar 1) xNil))))
def L__is_top : List Dat → M Dat := runD N__is_top.length (sSeq (sIf (bTest (xOp dEq (xVar 1) (xC (.str "small")))) (sRet (xCall L_is_between (xCons (xVar 2) (xCons (xUn (dFldI "Kind" "low") (xUn (dFldI "World" "narrow") (xVar 0))) (xCons (xUn (dFldI "Kind" "high") (xUn (dFldI "World" "narrow") (xVar 0))) xNil))))) sNx)
    (sRet (xCall L_is_between (xCons (xVar 2) (xCons (xOp dAdd (xUn (dFldI "Kind" "high") (xUn (dFldI "World" "narrow") (xVar 0))) (xC (.int 1))) (xCons (xUn (dFldI "Kind" "high") (xUn (dFldI "World" "wide") (xVar 0))) xNil))))))
def L_is_mark : List Dat → M Dat := runD N_is_mark.length (sSeq (sIf (bNot (bTest (xCall L_is_tuple_of (xCons (xVar 1) (xCons (xC (.int 6)) (xCons (xC (.int 6)) xNil)))))) (sRet (xC (.bl false))) sNx)
    (sSeq (sAsg (xVar 1) (gT 6 (gCo (gN 2) (gCo (gN 3) (gCo (gN 4) (gCo (gN 5) (gCo (gN 6) (gCo (gN 7) gNl))))))))
    (sSeq (sIf (bOr (bTest (xOp (dInS true) (xVar 2) (xC (strsT ["small", "great"])))) (bOr (bTest (xOp (dInS true) (xVar 4) (xC (strsT ["none", "same", "cut", "old"])))) (bOr (bTest (xOp (dInS true) (xVar 5) (xC (strsT ["none", "same", "cut", "old", "far"])))) (bTest (xOp (dInS true) (xVar 7) (xC (strsT ["ahead", "seen", ""]))))))) (sRet (xC (.bl false))) sNx)
    (sSeq (sIf (bOr (bNot (bTest (xCall L__is_top (xCons (xVar 0) (xCons (xVar 2) (xCons (xVar 3) xNil)))))) (bNot (bTest (xCall L__are_late (xCons (xVar 0) (xCons (xVar 6) xNil)))))) (sRet (xC (.bl false))) sNx)
    (sSeq (sIf (bTest (xOp dEq (xVar 2) (xC (.str "great")))) (sRet (xOp dNe (xVar 4) (xC (.str "same")))) sNx)
    (sRet (xAnd (xOp (dInS true) (xC (.str "cut")) (xTup (xCons (xVar 4) (xCons (xVar 5) xNil)))) (xOp (dInS true) (xC (.str "cut")) (xLc (iTp (xVar 6)) (gT 3 (gCo (gN 8) (gCo (gN 8) (gCo (gN 9) gNl)))) bYes (xVar 9) [8, 9])))))))))
def L__law_in_order : List Dat → M Dat := runD N__law_in_order.length (sSeq (sAsg (xLst xNil) (gN 1))
    (sSeq (sForLo (xVar 0) (gN 2) (sSeq (sAsg (xCB dLen (xCons (xLc (iLst (xVar 1)) (gN 4) (bTest (xOp dLtD (xVar 4) (xVar 2))) (xVar 4) [4]) xNil)) (gN 3))
    (sAsg (xIf (bTest (xOp (dIn false) (xVar 2) (xVar 1))) (xVar 1) (xOp dCatL (xOp dCatL (jSl dCutL (xVar 1) oNone (oSome (xVar 3))) (xLst (xCons (xVar 2) xNil))) (jSl dCutL (xVar 1) (oSome (xVar 3)) oNone))) (gN 1))))
    (sRet (xVar 1))))
def L__law_made : List Dat → M Dat := runD N__law_made.length (sSeq (sPar 1 2 (xCons (xDGet (xVar 0) (xC (.str "narrow"))) (xCons (xDGet (xVar 0) (xC (.str "wide"))) xNil)))
    (sRet (xCall (callF (mkNew "World" L_World___init__)) (xCons (xCall (callF (mkNew "Kind" L_Kind___init__)) (xCons (xOp dIxT (xVar 1) (xC (.int 0))) (xCons (xOp dIxT (xVar 1) (xC (.int 1))) xNil))) (xCons (xCall (callF (mkNew "Kind" L_Kind___init__)) (xCons (xOp dIxT (xVar 2) (xC (.int 0))) (xCons (xOp dIxT (xVar 2) (xC (.int 1))) xNil))) (xCons (xDGet (xVar 0) (xC (.str "columns"))) (xCons (xDGet (xVar 0) (xC (.str "programs"))) xNil)))))))
def L__law_late_world : List Dat → M Dat := runD N__law_late_world.length (sSeq (sAsg (xCall L__law_of (xCons (xVar 0) (xCons (xLst (xCons (xTup (xCons (xTup (xCons (xC (.int 0)) (xCons (xC (.int 15)) xNil))) (xCons (xTup (xCons (xC (.int 0)) (xCons (xC (.int 99)) xNil))) xNil))) (xCons (xTup (xCons (xTup (xCons (xC (.int 0)) (xCons (xC (.int 255)) xNil))) (xCons (xTup (xCons (xC (.int 0)) (xCons (xC (.int 65535)) xNil))) xNil))) (xCons (xTup (xCons (xTup (xCons (xUn dNeg (xC (.int 8))) (xCons (xC (.int 20)) xNil))) (xCons (xTup (xCons (xUn dNeg (xC (.int 9))) (xCons (xC (.int 400)) xNil))) xNil))) xNil)))) xNil))) (gT 2 (gCo (gN 1) (gCo (gN 2) gNl))))
    (sSeq (sAsg (xTup (xCons (xC (.str "narrow")) (xCons (xTup (xCons (xTup (xCons (xC (.str "id")) (xCons (xC (.str "narrow")) (xCons (xTup xNil) xNil)))) xNil)) (xCons (xTup (xCons (xTup (xCons (xC (.str "id")) (xCons (xC (.str "narrow")) (xCons (xC (.str "cut")) (xCons (xC (.str "")) (xCons (xC (.int 1)) xNil)))))) xNil)) xNil)))) (gN 3))
    (sSeq (sAsg (xLc (iTp (xTup (xCons (xC (.str "narrow first")) (xCons (xC (.str "wide first")) xNil)))) (gN 6) bYes (xTup (xCons (xC (.str "narrow")) (xCons (xTup (xCons (xTup (xCons (xC (.str "id")) (xCons (xC (.str "narrow")) (xCons (xTup xNil) xNil)))) xNil)) (xCons (xTup (xCons (xTup (xCons (xC (.str "id")) (xCons (xVar 6) (xCons (xC (.str "cut")) (xCons (xC (.str "")) (xCons (xC (.int 2)) xNil)))))) xNil)) xNil)))) [6]) (gN 4))
    (sSeq (sIf (bTest (xOp dEq (xCall L__law_take (xCons (xVar 0) (xCons (xC (.int 2)) xNil))) (xC (.int 0)))) (sSeq (sAsg (xTup (xCons (xTup (xCons (xC (.str "desk")) (xCons (xTup (xCons (xVar 3) (xCons (xOp dIxL (xVar 4) (xC (.int 0))) xNil))) xNil))) (xCons (xTup (xCons (xC (.str "shop")) (xCons (xTup (xCons (xVar 3) (xCons (xVar 3) (xCons (xOp dIxL (xVar 4) (xC (.int 1))) xNil)))) xNil))) xNil))) (gN 5))
    (sRet (xTup (xCons (xDisp [((xC (.str "narrow")), (xVar 1)), ((xC (.str "wide")), (xVar 2)), ((xC (.str "columns")), (xTup (xCons (xC (.str "id")) xNil))), ((xC (.str "programs")), (xVar 5))]) (xCons (xLst (xCons (xTup (xCons (xC (.str "desk")) (xCons (xC (.int 1)) xNil))) (xCons (xTup (xCons (xC (.str "shop")) (xCons (xC (.int 2)) xNil))) xNil))) xNil))))) sNx)
    (sSeq (sAsg (xTup (xCons (xTup (xCons (xC (.str "shop")) (xCons (xTup (xCons (xVar 3) (xCons (xOp dIxL (xVar 4) (xC (.int 0))) (xCons (xOp dIxL (xVar 4) (xC (.int 1))) xNil)))) xNil))) xNil)) (gN 5))
    (sRet (xTup (xCons (xDisp [((xC (.str "narrow")), (xVar 1)), ((xC (.str "wide")), (xVar 2)), ((xC (.str "columns")), (xTup (xCons (xC (.str "id")) xNil))), ((xC (.str "programs")), (xVar 5))]) (xCons (xLst (xCons (xTup (xCons (xC (.str "shop")) (xCons (xC (.int 1)) xNil))) (xCons (xTup (xCons (xC (.str "shop")) (xCons (xC (.int 2)) xNil))) xNil))) xNil)))))))))
def L__law_any_mark : List Dat → M Dat := runD N__law_any_mark.length (sSeq (sAsg (xTup (xCons (xCall L__law_of (xCons (xVar 0) (xCons (xLst (xCons (xC (.str "small")) (xCons (xC (.str "great")) xNil))) xNil))) (xCons (xDGet (xVar 1) (xC (.str "narrow"))) (xCons (xOp dIxT (xDGet (xVar 1) (xC (.str "wide"))) (xC (.int 1))) xNil)))) (gT 3 (gCo (gN 3) (gCo (gT 2 (gCo (gN 4) (gCo (gN 5) gNl))) (gCo (gN 6) gNl)))))
    (sSeq (sAsg (xIf (bTest (xOp dEq (xVar 3) (xC (.str "small")))) (xCall L__law_of (xCons (xVar 0) (xCons (xLst (xCons (xVar 4) (xCons (xVar 5) (xCons (xOp dAdd (xVar 4) (xC (.int 7))) xNil)))) xNil))) (xCall L__law_of (xCons (xVar 0) (xCons (xLst (xCons (xOp dAdd (xVar 5) (xC (.int 1))) (xCons (xVar 6) (xCons (xOp dAdd (xVar 5) (xC (.int 20))) xNil)))) xNil)))) (gN 7))
    (sSeq (sAsg (xOp dCatL (xLst (xCons (xC (.str "same")) (xCons (xC (.str "old")) (xCons (xC (.str "far")) xNil)))) (xOp dRepL (xLst (xCons (xC (.str "cut")) xNil)) (xCB dInt (xCons (xOp dEq (xVar 3) (xC (.str "great"))) xNil)))) (gN 8))
    (sSeq (sAsg (xNewLo (xLst xNil)) (gN 9))
    (sSeq (sFor (iLst (xVar 2)) (gN 10) (sExtLo (xVar 9) (xCons (xLc (iLst (xVar 8)) (gN 14) (bTest (xOp dEq (xCall L__law_take (xCons (xVar 0) (xCons (xC (.int 3)) xNil))) (xC (.int 0)))) (xOp dCatT (xVar 10) (xTup (xCons (xVar 14) xNil))) [14]) xNil)))
    (sSeq (sAsg (xCall L__law_of (xCons (xVar 0) (xCons (xLst (xCons (xC (.str "none")) (xCons (xC (.str "old")) (xCons (xIf (bTest (xOp dEq (xVar 3) (xC (.str "small")))) (xC (.str "same")) (xC (.str "cut"))) xNil)))) xNil))) (gN 11))
    (sSeq (sPar 12 13 (xCons (xCall L__law_of (xCons (xVar 0) (xCons (xOp dCatL (xLst (xCons (xC (.str "none")) xNil)) (xVar 8)) xNil))) (xCons (xCall L__law_of (xCons (xVar 0) (xCons (xLst (xCons (xC (.str "")) (xCons (xC (.str "ahead")) (xCons (xC (.str "seen")) xNil)))) xNil))) xNil)))
    (sRet (xTup (xCons (xVar 3) (xCons (xVar 7) (xCons (xVar 11) (xCons (xVar 12) (xCons (xCB dTuple (xCons (xCall L__law_in_order (xCons (xVar 9) xNil)) xNil)) (xCons (xVar 13) xNil)))))))))))))))
def L__law_is_own_late : List Dat → M Dat := runD N__law_is_own_late.length (sSeq (sIf (bOr (bNot (bTest (xCB dIsi (xCons (xVar 2) (xCons (xC (.ty "tuple")) xNil))))) (bOr (bTest (xOp dNe (xCB dLen (xCons (xVar 2) xNil)) (xC (.int 3)))) (bNot (bTest (xCB dIsi (xCons (xOp dIxT (xVar 2) (xC (.int 0))) (xCons (xC (.ty "str")) xNil))))))) (sRet (xC (.bl false))) sNx)
    (sSeq (sAsg (xVar 2) (gT 3 (gCo (gN 3) (gCo (gN 4) (gCo (gN 5) gNl)))))
    (sSeq (sAsg (xCB dDictT (xCons (xDGet (xVar 0) (xC (.str "programs"))) xNil)) (gN 6))
    (sSeq (sIf (bOr (bTest (xDIn true (xVar 3) (xVar 6))) (bOr (bNot (bTest (xCB dIsi (xCons (xVar 4) (xCons (xC (.ty "int")) xNil))))) (bOr (bTest (xCB dIsi (xCons (xVar 4) (xCons (xC (.ty "bool")) xNil)))) (bNot (bTest (xCB dIsi (xCons (xVar 5) (xCons (xC (.ty "str")) xNil)))))))) (sRet (xC (.bl false))) sNx)
    (sSeq (sIf (bOr (bNot (bTest (xChain dLe dLt (xC (.int 0)) (xVar 4) (xCB dLen (xCons (xDGet (xVar 6) (xVar 3)) xNil))))) (bTest (xOp (dInS true) (xVar 5) (xOp dCatT (xTup (xCons (xC (.str "same")) (xCons (xC (.str "old")) (xCons (xC (.str "far")) xNil)))) (xOp dRepB (xTup (xCons (xC (.str "cut")) xNil)) (xCB dInt (xCons (xOp dEq (xVar 1) (xC (.str "great"))) xNil))))))) (sRet (xC (.bl false))) sNx)
    (sRet (xCB dAny (xCons (xLc (iTp (xOp dIxT (xOp dIxT (xDGet (xVar 6) (xVar 3)) (xVar 4)) (xC (.int 2)))) (gN 7) bYes (xOp (dInS false) (xOp dIxT (xVar 7) (xC (.int 1))) (xTup (xCons (xC (.str "narrow first")) (xCons (xC (.str "wide first")) xNil)))) [7]) xNil))))))))
def L__law_is_own_mark : List Dat → M Dat := runD N__law_is_own_mark.length (sSeq (sIf (bOr (bNot (bTest (xCB dIsi (xCons (xVar 1) (xCons (xC (.ty "tuple")) xNil))))) (bOr (bTest (xOp dNe (xCB dLen (xCons (xVar 1) xNil)) (xC (.int 6)))) (bNot (bTest (xCB dAll (xCons (xLc (iTp (xTup (xCons (xC (.int 0)) (xCons (xC (.int 2)) (xCons (xC (.int 3)) (xCons (xC (.int 5)) xNil)))))) (gN 13) bYes (xCB dIsi (xCons (xOp dIxT (xVar 1) (xVar 13)) (xCons (xC (.ty "str")) xNil))) [13]) xNil)))))) (sRet (xC (.bl false))) sNx)
    (sSeq (sAsg (xVar 1) (gT 6 (gCo (gN 2) (gCo (gN 3) (gCo (gN 4) (gCo (gN 5) (gCo (gN 6) (gCo (gN 7) gNl))))))))
    (sSeq (sIf (bOr (bTest (xOp (dInS true) (xVar 2) (xTup (xCons (xC (.str "small")) (xCons (xC (.str "great")) xNil))))) (bTest (xOp (dInS true) (xVar 7) (xTup (xCons (xC (.str "")) (xCons (xC (.str "ahead")) (xCons (xC (.str "seen")) xNil))))))) (sRet (xC (.bl false))) sNx)
    (sSeq (sIf (bOr (bNot (bTest (xCB dIsi (xCons (xVar 3) (xCons (xC (.ty "int")) xNil))))) (bOr (bTest (xCB dIsi (xCons (xVar 3) (xCons (xC (.ty "bool")) xNil)))) (bNot (bTest (xCB dIsi (xCons (xVar 6) (xCons (xC (.ty "tuple")) xNil))))))) (sRet (xC (.bl false))) sNx)
    (sSeq (sAsg (xIf (bTest (xOp dEq (xVar 2) (xC (.str "small")))) (xDGet (xVar 0) (xC (.str "narrow"))) (xTup (xCons (xOp dAdd (xOp dIxT (xDGet (xVar 0) (xC (.str "narrow"))) (xC (.int 1))) (xC (.int 1))) (xCons (xOp dIxT (xDGet (xVar 0) (xC (.str "wide"))) (xC (.int 1))) xNil)))) (gT 2 (gCo (gN 8) (gCo (gN 9) gNl))))
    (sSeq (sIf (bOr (bNot (bTest (xChain dLe dLe (xVar 8) (xVar 3) (xVar 9)))) (bNot (bTest (xCB dAll (xCons (xLc (iTp (xVar 6)) (gN 11) bYes (xCall L__law_is_own_late (xCons (xVar 0) (xCons (xVar 2) (xCons (xVar 11) xNil)))) [11]) xNil))))) (sRet (xC (.bl false))) sNx)
    (sSeq (sIf (bNot (bTest (xCB dAll (xCons (xLc (iZipM (xCons (xVar 6) (xCons (jSl dCutT (xVar 6) (oSome (xC (.int 1))) oNone) xNil))) (gT 2 (gCo (gN 11) (gCo (gN 12) gNl))) bYes (xOp dLtD (xVar 11) (xVar 12)) [11, 12]) xNil)))) (sRet (xC (.bl false))) sNx)
    (sSeq (sAsg (xIf (bTest (xOp dEq (xVar 2) (xC (.str "small")))) (xTup (xCons (xC (.str "none")) (xCons (xC (.str "same")) (xCons (xC (.str "old")) xNil)))) (xTup (xCons (xC (.str "none")) (xCons (xC (.str "cut")) (xCons (xC (.str "old")) xNil))))) (gN 10))
    (sRet (xAnd (xOp (dInS false) (xVar 4) (xVar 10)) (xOp (dInS false) (xVar 5) (xOp dCatT (xTup (xCons (xC (.str "none")) (xCons (xC (.str "same")) (xCons (xC (.str "old")) (xCons (xC (.str "far")) xNil))))) (xOp dRepB (xTup (xCons (xC (.str "cut")) xNil)) (xCB dInt (xCons (xOp dEq (xVar 2) (xC (.str "great"))) xNil)))))))))))))))
def L__law_bent : List Dat → M Dat := runD N__law_bent.length (sSeq (sAsg (xTup (xCons (xCall L__law_take (xCons (xVar 0) (xCons (xC (.int 6)) xNil))) (xCons (xDGet (xVar 1) (xC (.str "narrow"))) (xCons (xOp dIxT (xDGet (xVar 1) (xC (.str "wide"))) (xC (.int 1))) xNil)))) (gT 3 (gCo (gN 4) (gCo (gT 2 (gCo (gN 5) (gCo (gN 6) gNl))) (gCo (gN 7) gNl)))))
    (sSeq (sAsg (xCall L__law_of (xCons (xVar 0) (xCons (xVar 2) xNil))) (gT 2 (gCo (gN 8) (gCo (gN 9) gNl))))
    (sSeq (sAsg (xOp dCatL (xLc (iTp (xTup (xCons (xC (.str "none")) (xCons (xC (.str "cut")) (xCons (xC (.str "far")) (xCons (xC (.str "old")) (xCons (xC .non) xNil))))))) (gN 16) bYes (xTup (xCons (xVar 8) (xCons (xVar 9) (xCons (xVar 16) xNil)))) [16]) (xLst (xCons (xTup (xCons (xVar 8) (xCons (xVar 9) xNil))) xNil))) (gN 10))
    (sSeq (sAsg (xOp dCatL (xVar 10) (xLst (xCons (xLst (xCons (xVar 8) (xCons (xVar 9) (xCons (xC (.str "old")) xNil)))) (xCons (xTup (xCons (xVar 8) (xCons (xC (.int 0)) (xCons (xC (.str "old")) xNil)))) (xCons (xTup (xCons (xVar 8) (xCons (xC (.int 9)) (xCons (xC (.str "old")) xNil)))) (xCons (xTup (xCons (xC (.str "zz")) (xCons (xC (.int 1)) (xCons (xC (.str "old")) xNil)))) (xCons (xTup (xCons (xVar 8) (xCons (xC (.bl true)) (xCons (xC (.str "old")) xNil)))) xNil))))))) (gN 10))
    (sSeq (sAsg (xCall L__law_of (xCons (xVar 0) (xCons (xVar 10) xNil))) (gN 11))
    (sSeq (sAsg (xLst (xCons (xTup (xCons (xVar 11) xNil)) (xCons (xOp dCatT (xOp dIxT (xVar 3) (xC (.int 4))) (xTup (xCons (xVar 11) xNil))) (xCons (xUn dRevT (xOp dIxT (xVar 3) (xC (.int 4)))) (xCons (xOp dCatT (xOp dIxT (xVar 3) (xC (.int 4))) (jSl dCutT (xOp dIxT (xVar 3) (xC (.int 4))) oNone (oSome (xC (.int 1))))) (xCons (xCB dList (xCons (xOp dIxT (xVar 3) (xC (.int 4))) xNil)) (xCons (xC .non) (xCons (xTup (xCons (xVar 11) (xCons (xVar 11) xNil))) (xCons (xTup xNil) xNil))))))))) (gN 12))
    (sSeq (sAsg (xLst (xCons (xVar 5) (xCons (xOp dSub (xVar 5) (xC (.int 1))) (xCons (xVar 6) (xCons (xOp dAdd (xVar 6) (xC (.int 1))) (xCons (xVar 7) (xCons (xOp dAdd (xVar 7) (xC (.int 1))) (xCons (xC (.bl true)) (xCons (xC .non) (xCons (xC (.str "1")) (xCons (xC (.int 3)) xNil))))))))))) (gN 13))
    (sSeq (sAsg (xLst (xCons (xLst (xCons (xC (.str "small")) (xCons (xC (.str "great")) (xCons (xC (.str "none")) (xCons (xC .non) (xCons (xC (.bl true)) xNil)))))) (xCons (xVar 13) (xCons (xLst (xCons (xC (.str "none")) (xCons (xC (.str "same")) (xCons (xC (.str "cut")) (xCons (xC (.str "old")) (xCons (xC (.str "far")) (xCons (xC (.str "")) (xCons (xC .non) xNil)))))))) xNil)))) (gN 14))
    (sSeq (sAsg (xOp dCatL (xVar 14) (xLst (xCons (xLst (xCons (xC (.str "none")) (xCons (xC (.str "same")) (xCons (xC (.str "cut")) (xCons (xC (.str "old")) (xCons (xC (.str "far")) (xCons (xC (.str "ahead")) (xCons (xC (.int 0)) xNil)))))))) (xCons (xVar 12) (xCons (xLst (xCons (xC (.str "")) (xCons (xC (.str "ahead")) (xCons (xC (.str "seen")) (xCons (xC (.str "none")) (xCons (xC .non) (xCons (xC (.int 0)) xNil))))))) xNil))))) (gN 14))
    (sSeq (sAsg (xOp dCatT (xOp dCatT (jSl dCutT (xVar 3) oNone (oSome (xVar 4))) (xTup (xCons (xCall L__law_of (xCons (xVar 0) (xCons (xOp dIxL (xVar 14) (xVar 4)) xNil))) xNil))) (jSl dCutT (xVar 3) (oSome (xOp dAdd (xVar 4) (xC (.int 1)))) oNone)) (gN 15))
    (sRet (xCall L__law_of (xCons (xVar 0) (xCons (xLst (xCons (xVar 15) (xCons (xVar 15) (xCons (xVar 15) (xCons (xVar 15) (xCons (xCB dList (xCons (xVar 3) xNil)) (xCons (jSl dCutT (xVar 3) oNone (oSome (xC (.int 5)))) (xCons (xOp dCatT (xVar 3) (xTup (xCons (xC (.str "")) xNil))) (xCons (xTup (xCons (xVar 3) xNil)) (xCons (xC .non) (xCons (xC (.str "small")) xNil))))))))))) xNil))))))))))))))
def L_law : List Dat → M Dat := runD N_law.length (sSeq (sFor (iRg1 (xCons (xCB dMax (xCons (xC (.int 1)) (xCons (xCB dMin (xCons (xC (.int 3)) (xCons (xCB dLen (xCons (xVar 0) xNil)) xNil))) xNil))) xNil)) (gN 1) (sSeq (sAsg (xCall L__law_pot_of (xCons (xVar 0) (xCons (xVar 1) xNil))) (gN 2))
    (sSeq (sAsg (xCall L__law_late_world (xCons (xVar 2) xNil)) (gT 2 (gCo (gN 3) (gCo (gN 4) gNl))))
    (sSeq (sAsg (xCall (callF L__law_made) (xCons (xVar 3) xNil)) (gN 5))
    (sSeq (sFor (iRg1 (xCons (xC (.int 12)) xNil)) (gN 6) (sSeq (sAsg (xCall (callP L__law_any_mark) (xCons (xVar 2) (xCons (xVar 3) (xCons (xVar 4) xNil)))) (gN 7))
    (sSeq (sIf (bOr (bTest (xOp (dIsB true) (xCall (callF L_is_mark) (xCons (xVar 5) (xCons (xVar 7) xNil))) (xC (.bl true)))) (bNot (bTest (xCall (callF L__law_is_own_mark) (xCons (xVar 3) (xCons (xVar 7) xNil)))))) (sRet (xC (.bl false))) sNx)
    (sSeq (sAsg (xCall L__law_bent (xCons (xVar 2) (xCons (xVar 3) (xCons (xVar 4) (xCons (xVar 7) xNil))))) (gN 8))
    (sSeq (sAsg (xCB dRepr2 (xCons (xVar 8) xNil)) (gN 9))
    (sIf (bOr (bTest (xOp dNe (xCB dRepr2 (xCons (xCall (callF L_is_mark) (xCons (xVar 5) (xCons (xVar 8) xNil))) xNil)) (xCB dRepr2 (xCons (xCall (callF L__law_is_own_mark) (xCons (xVar 3) (xCons (xVar 8) xNil))) xNil)))) (bTest (xOp dNe (xCB dRepr2 (xCons (xVar 8) xNil)) (xVar 9)))) (sRet (xC (.bl false))) sNx))))))
    (sSeq (sAsg (xCall L__law_of (xCons (xVar 2) (xCons (xLst (xCons (xC .non) (xCons (xC (.bl true)) (xCons (xC (.int 0)) (xCons (xTup xNil) (xCons (xLst xNil) (xCons xDic0 (xCons (xDisp [((xC (.str "a")), (xC (.int 1)))]) (xCons (xTup (xCons (xTup xNil) (xCons (xTup xNil) (xCons (xTup xNil) (xCons (xTup xNil) (xCons (xTup xNil) (xCons (xTup xNil) xNil))))))) (xCons (xOp dRepB (xTup (xCons (xLst xNil) xNil)) (xC (.int 6))) (xCons (xC (.str "marked")) xNil))))))))))) xNil))) (gN 10))
    (sIf (bTest (xOp (dIsB true) (xCall (callF L_is_mark) (xCons (xVar 5) (xCons (xVar 10) xNil))) (xC (.bl false)))) (sRet (xC (.bl false))) sNx)))))))
    (sRet (xC (.bl true))))
end Zd
namespace Zd
open PySem PySem.Spec PyProof.Rows L2 Zg
section
variable {P : Program} {w : World} {K : PySem.W.Frag} {mg : Str → Option Value} {base : Heap} {κ : String → Addr} {CW : Addr} {n_MOST_LETTERS n_LEAST_NARROW n_MOST_PACE n_MOST_IN_TWO_EVENTS : Tok} {a_SIDES a_RULES a_DEEDS a_READ_SIDES a_HOWS a_IN_TWO_EVENTS a_MEANT a_NARROW_WORDS a_WIDE_WORDS a_LATE_WORDS a_VISITS : Addr}
theorem ok_is_integer {f : Addr} {fd : FuncData} (F : Fun K "is_integer" "is_integer" s_is_integer f fd) (T : TxD2 mg) : FnOk P w K mg base CX0 1 f fd P_is_integer (spD ⟨K, κ⟩ 1 L_is_integer) := by
  exact F.ok sc_is_integer (fun vs H Q E h => h.1) (fun cdv A outer s H vs Q E hr h => ⟨_, (pss_one (ps_ret (pe_and (pe_callB call_isi (by rfl) T.n_isinstance (by decide +kernel) (pa_cons (pv 0) (pa_cons (pe_bltn (v := .ty "int") (by rfl) T.n_int (by decide +kernel) rfl) pa_nil))) (pe_one (pe_not (pe_callB call_isi (by rfl) T.n_isinstance (by decide +kernel) (pa_cons (pv 0) (pa_cons (pe_bltn (v := .ty "bool") (by rfl) T.n_bool (by decide +kernel) rfl) pa_nil)))))))), ok_body (Z := ⟨K, κ⟩) (O := []) (js_ret (JD.w (j_andV (j_cb c_isi (ja_consW (JD.w (j_var nin)) (ja_cons j_ty ja_nil))) (j_notV (j_cb c_isi (ja_consW (JD.w (j_var nin)) (ja_cons j_ty ja_nil))))))) (fun _ m => absurd m List.not_mem_nil) h⟩)
theorem ok_is_between {f : Addr} {fd : FuncData} (F : Fun K "is_between" "is_between" s_is_between f fd) (T : TxD2 mg) (cL_is_integer : Cal P w K mg base 1 "is_integer" P_is_integer (spD ⟨K, κ⟩ 1 L_is_integer)) : FnOk P w K mg base CX0 2 f fd P_is_between (spD ⟨K, κ⟩ 3 L_is_between) := by
  obtain ⟨f_is_integer, fd_is_integer, G_is_integer, b_is_integer, g_is_integer, k_is_integer⟩ := cL_is_integer
  exact F.ok sc_is_between (fun vs H Q E h => h.1) (fun cdv A outer s H vs Q E hr h => ⟨_, (pss_one (ps_ret (pe_and (pe_call G_is_integer (hr.mono (by decide)) rfl g_is_integer k_is_integer b_is_integer .nil pass0 (pa_cons (pv 0) pa_nil)) (pe_one (pe_chain op_le op_le (pv 1) (pv 0) (pv 2)))))), ok_body (Z := ⟨K, κ⟩) (O := []) (js_ret (JD.w (j_andV (j_callV via_id (ja_cons (j_var nin) ja_nil) (len_cons (fun _ _ _ _ h => len_nil h))) (j_chain r_le r_le (j_var nin) (j_var nin) (j_var nin))))) (fun _ m => absurd m List.not_mem_nil) h⟩)
theorem ok_is_name {f : Addr} {fd : FuncData} (F : Fun K "is_name" "is_name" s_is_name f fd) (T : TxD2 mg) (TN : TxN mg n_MOST_LETTERS n_LEAST_NARROW n_MOST_PACE n_MOST_IN_TWO_EVENTS) : FnOk P w K mg base CX0 1 f fd P_is_name (spD ⟨K, κ⟩ 1 L_is_name) := by
  exact F.ok sc_is_name (fun vs H Q E h => h.1) (fun cdv A outer s H vs Q E hr h => ⟨_, (pss_cons (ps_if (PW.pt (pw_or (pt_not (pt_val (pe_callB call_isi (by rfl) T.n_isinstance (by decide +kernel) (pa_cons (pv 0) (pa_cons (pe_bltn (v := .ty "str") (by rfl) T.n_str (by decide +kernel) rfl) pa_nil))))) (pw_or1 (pt_cmpR op_gt (pe_callB call_len_str (by rfl) T.n_len (by decide +kernel) (pa_cons (pv 0) pa_nil)) (pe_glob (v := .int 8) rfl TN.g_MOST_LETTERS ⟨_, rfl⟩) (nomark _))))) (pss_one (ps_ret pe_bl)) pss_nil)
      (pss_one (ps_ret (pe_and (pe_m0 PySem.F.slot_str_isascii PySem.F.type_str_isascii mt_isascii (pv 0)) (pe_and (pe_m0 PySem.F.slot_str_isalpha PySem.F.type_str_isalpha mt_isalpha (pv 0)) (pe_one (pe_m0 PySem.F.slot_str_islower PySem.F.type_str_islower mt_islower (pv 0)))))))), ok_body (Z := ⟨K, κ⟩) (O := []) (js_seq (js_if (jb_or (jb_not (jb_B (j_cb c_isi (ja_consW (JD.w (j_var nin)) (ja_cons j_ty ja_nil))))) (jb_test (j_op upD r_gt (j_cb c_lenS (ja_cons (j_var nin) ja_nil)) j_int))) (js_ret (JD.w j_bl)) js_next)
      (js_ret (JD.w (j_andV (j_m0 (fun _ _ _ h => m0_isascii h) (j_var nin)) (j_andV (j_m0 (fun _ _ _ h => m0_isalpha h) (j_var nin)) (j_m0 (fun _ _ _ h => m0_islower h) (j_var nin))))))) (fun _ m => absurd m List.not_mem_nil) h⟩)
theorem ok_is_tuple_of {f : Addr} {fd : FuncData} (F : Fun K "is_tuple_of" "is_tuple_of" s_is_tuple_of f fd) (T : TxD2 mg) : FnOk P w K mg base CX0 1 f fd P_is_tuple_of (spD ⟨K, κ⟩ 3 L_is_tuple_of) := by
  exact F.ok sc_is_tuple_of (fun vs H Q E h => h.1) (fun cdv A outer s H vs Q E hr h => ⟨_, (pss_one (ps_ret (pe_and (pe_callB call_isi (by rfl) T.n_isinstance (by decide +kernel) (pa_cons (pv 0) (pa_cons (pe_bltn (v := .ty "tuple") (by rfl) T.n_tuple (by decide +kernel) rfl) pa_nil))) (pe_one (pe_chain op_le op_le (pv 1) (pe_callB call_len_seq (by rfl) T.n_len (by decide +kernel) (pa_cons (pv 0) pa_nil)) (pv 2)))))), ok_body (Z := ⟨K, κ⟩) (O := []) (js_ret (JD.w (j_andV (j_cb c_isi (ja_consW (JD.w (j_var nin)) (ja_cons j_ty ja_nil))) (j_chain r_le r_le (j_var nin) (j_cb c_len (ja_consW (JD.w (j_var nin)) ja_nil)) (j_var nin))))) (fun _ m => absurd m List.not_mem_nil) h⟩)
theorem ok_is_ascending {f : Addr} {fd : FuncData} (F : Fun K "is_ascending" "is_ascending" s_is_ascending f fd) (T : TxD2 mg) : FnOk P w K mg base CX0 1 f fd P_is_ascending (spD ⟨K, κ⟩ 1 L_is_ascending) := by
  exact F.ok sc_is_ascending (fun vs H Q E h => h.1) (fun cdv A outer s H vs Q E hr h => ⟨_, (pss_one (ps_ret (pe_callB (cr_all rfl) (by rfl) T.n_all (by decide +kernel) (pa_cons (pe_lc (own := [("one", 1), ("other", 2)]) (g := (gTup _ 2 (gCons (gName 1) (gCons (gName 2) gNil)))) (tt := tYes) rfl sc_is_ascending.nd (pi_zipG rfl T.n_zip (pa_cons (pv 0) (pa_cons (pe_slice sl_list (pv 0) (po_some pe_int) po_none) pa_nil))) (blkOk_by (N := N_is_ascending) (sc := defScope s_is_ascending) (by decide +kernel)) (fun _ _ _ _ _ => (pg_tup rfl (pgs_cons (pg_name (i := 1) sc_is_ascending.nd rfl (Or.inl rfl)) (pgs_cons (pg_name (i := 2) sc_is_ascending.nd rfl (Or.inl rfl)) pgs_nil)))) (fun _ _ _ _ _ => pts_nil) (fun _ _ _ _ _ => (pe_cmpR op_lt_str (pv 1) (pv 2) (nomark _)))) pa_nil)))), ok_body (Z := ⟨K, κ⟩) (O := []) (js_ret (JD.w (j_cb c_all (ja_consW (JD.w (j_lc (ji_zipG xCo (ja_cons (j_var nin) (ja_cons (j_slL (JD.w (j_var nin)) (jo_some j_int) jo_none) ja_nil))) (jg_tup (jg_cons (jg_name nin (fun w e => by cases e; decide)) (jg_cons (jg_name nin (fun w e => by cases e; decide)) jg_nil))) jb_yes (j_op upD r_ltS (j_var nin) (j_var nin)))) ja_nil)))) (fun _ m => absurd m List.not_mem_nil) h⟩)
theorem ok_is_ascendingT {f : Addr} {fd : FuncData} (F : Fun K "is_ascending" "is_ascending" s_is_ascending f fd) (T : TxD2 mg) : FnOk P w K mg base CX0 1 f fd P_is_ascending (spD ⟨K, κ⟩ 1 L_is_ascendingT) := by
  exact F.ok sc_is_ascending (fun vs H Q E h => h.1) (fun cdv A outer s H vs Q E hr h => ⟨_, (pss_one (ps_ret (pe_callB (cr_all rfl) (by rfl) T.n_all (by decide +kernel) (pa_cons (pe_lc (own := [("one", 1), ("other", 2)]) (g := (gTup _ 2 (gCons (gName 1) (gCons (gName 2) gNil)))) (tt := tYes) rfl sc_is_ascending.nd (pi_zipG rfl T.n_zip (pa_cons (pv 0) (pa_cons (pe_slice sl_tupA (pv 0) (po_some pe_int) po_none) pa_nil))) (blkOk_by (N := N_is_ascending) (sc := defScope s_is_ascending) (by decide +kernel)) (fun _ _ _ _ _ => (pg_tup rfl (pgs_cons (pg_name (i := 1) sc_is_ascending.nd rfl (Or.inl rfl)) (pgs_cons (pg_name (i := 2) sc_is_ascending.nd rfl (Or.inl rfl)) pgs_nil)))) (fun _ _ _ _ _ => pts_nil) (fun _ _ _ _ _ => (pe_cmpR op_lt_str (pv 1) (pv 2) (nomark _)))) pa_nil)))), ok_body (Z := ⟨K, κ⟩) (O := []) (js_ret (JD.w (j_cb c_all (ja_consW (JD.w (j_lc (ji_zipG xCo (ja_cons (j_var nin) (ja_cons (j_slT (j_var nin) (jo_some j_int) jo_none) ja_nil))) (jg_tup (jg_cons (jg_name nin (fun w e => by cases e; decide)) (jg_cons (jg_name nin (fun w e => by cases e; decide)) jg_nil))) jb_yes (j_op upD r_ltS (j_var nin) (j_var nin)))) ja_nil)))) (fun _ m => absurd m List.not_mem_nil) h⟩)
theorem ok_is_count {f : Addr} {fd : FuncData} (F : Fun K "is_count" "is_count" s_is_count f fd) (T : TxD2 mg) (cL_is_integer : Cal P w K mg base 1 "is_integer" P_is_integer (spD ⟨K, κ⟩ 1 L_is_integer)) : FnOk P w K mg base CX0 2 f fd P_is_count (spD ⟨K, κ⟩ 1 L_is_count) := by
  obtain ⟨f_is_integer, fd_is_integer, G_is_integer, b_is_integer, g_is_integer, k_is_integer⟩ := cL_is_integer
  exact F.ok sc_is_count (fun vs H Q E h => h.1) (fun cdv A outer s H vs Q E hr h => ⟨_, (pss_one (ps_ret (pe_and (pe_call G_is_integer (hr.mono (by decide)) rfl g_is_integer k_is_integer b_is_integer .nil pass0 (pa_cons (pv 0) pa_nil)) (pe_one (pe_cmpR op_ge (pv 0) pe_int (nomark _)))))), ok_body (Z := ⟨K, κ⟩) (O := []) (js_ret (JD.w (j_andV (j_callV via_id (ja_cons (j_var nin) ja_nil) (len_cons (fun _ _ _ _ h => len_nil h))) (j_op upD r_ge (j_var nin) j_int)))) (fun _ m => absurd m List.not_mem_nil) h⟩)
theorem ok_editions_of {f : Addr} {fd : FuncData} (F : Fun K "editions_of" "editions_of" s_editions_of f fd) (T : TxD2 mg) (CT_World : ClsI K mg ⟨K, κ⟩ "World" "World" ["narrow", "wide", "columns", "programs"]) : FnOk P w K mg base CX0 1 f fd P_editions_of (spD ⟨K, κ⟩ 2 L_editions_of) := by
  exact F.ok sc_editions_of (fun vs H Q E h => h.1) (fun cdv A outer s H vs Q E hr h => ⟨_, (pss_cons (ps_for PassesOwn.never rfl (pi_tup (pe_fld (pv 0) rfl)) (pg_tup rfl (pgs_cons (pg_name (i := 2) sc_editions_of.nd rfl (Or.inl rfl)) (pgs_cons (pg_name (i := 3) sc_editions_of.nd rfl (Or.inl rfl)) pgs_nil))) (pss_one (ps_if (pt_cmpR op_eq (pv 2) (pv 1) (nomark _)) (pss_one (ps_ret (pv 3))) pss_nil)))
      (pss_one (ps_ret (pe_tup pa_nil)))), ok_body (Z := ⟨K, κ⟩) (O := []) (js_seq (js_for (ji_tup xS (j_fldI CT_World.t (.tail _ (.tail _ (.tail _ (.head _)))) (j_var nin))) (jg_tup (jg_cons (jg_name nin nofun) (jg_cons (jg_name nin nofun) jg_nil))) (js_if (jb_test (j_op upD r_eq (j_var nin) (j_var nin))) (js_ret (JD.w (j_var nin))) js_next))
      (js_ret (JD.w (j_tup ja_nil)))) (fun _ m => absurd m List.not_mem_nil) h⟩)
theorem ok_Kind___init__ {f : Addr} {fd : FuncData} (F : Fun K "__init__" "Kind.__init__" s_Kind___init__ f fd) (T : TxD2 mg) (cL_is_integer : Cal P w K mg base 1 "is_integer" P_is_integer (spD ⟨K, κ⟩ 1 L_is_integer)) (CT_Kind : ClsI K mg ⟨K, κ⟩ "Kind" "Kind" ["low", "high", "size"]) : FnOk P w K mg base CX0 2 f fd P_Kind___init__ (spD ⟨K, κ⟩ 3 L_Kind___init__) := by
  obtain ⟨f_is_integer, fd_is_integer, G_is_integer, b_is_integer, g_is_integer, k_is_integer⟩ := cL_is_integer
  exact F.ok sc_Kind___init__ (fun vs H Q E h => h.1) (fun cdv A outer s H vs Q E hr h => ⟨_, (pss_cons (ps_if (PW.pt (pw_or (pt_not (pt_val (pe_call G_is_integer (hr.mono (by decide)) rfl g_is_integer k_is_integer b_is_integer .nil pass0 (pa_cons (pv 1) pa_nil)))) (pw_or (pt_not (pt_val (pe_call G_is_integer (hr.mono (by decide)) rfl g_is_integer k_is_integer b_is_integer .nil pass0 (pa_cons (pv 2) pa_nil)))) (pw_or1 (pt_not (pt_chain op_le op_le (pv 1) pe_int (pv 2))))))) (pss_one ps_never) pss_nil)
      (pss_cons (ps_fld (pv 0) (pv 1) rfl)
      (pss_cons (ps_fld (pv 0) (pv 2) rfl)
      (pss_one (ps_fld (pv 0) (pe_op op_add (pe_op op_sub (pv 2) (pv 1)) pe_int) rfl))))), ok_body (Z := ⟨K, κ⟩) (O := []) (js_seq (js_if (jb_or (jb_not (jb_B (j_callV via_id (ja_cons (j_var nin) ja_nil) (len_cons (fun _ _ _ _ h => len_nil h))))) (jb_or (jb_not (jb_B (j_callV via_id (ja_cons (j_var nin) ja_nil) (len_cons (fun _ _ _ _ h => len_nil h))))) (jb_not (jb_test (j_chain r_le r_le (j_var nin) j_int (j_var nin)))))) js_never js_next)
      (js_seq (js_setFL CT_Kind.t (.head _) (j_var nin) (j_var nin))
      (js_seq (js_setFL CT_Kind.t (.tail _ (.head _)) (j_var nin) (j_var nin))
      (js_setFL CT_Kind.t (.tail _ (.tail _ (.head _))) (j_var nin) (j_op upD r_add (j_op upD r_sub (j_var nin) (j_var nin)) j_int))))) (fun _ m => absurd m List.not_mem_nil) h⟩)
theorem ok_Kind___le__ {f : Addr} {fd : FuncData} (F : Fun K "__le__" "Kind.__le__" s_Kind___le__ f fd) (T : TxD2 mg) (CT_Kind : ClsI K mg ⟨K, κ⟩ "Kind" "Kind" ["low", "high", "size"]) : FnOk P w K mg base CX0 1 f fd P_Kind___le__ (spD ⟨K, κ⟩ 2 L_Kind___le__) := by
  exact F.ok sc_Kind___le__ (fun vs H Q E h => h.1) (fun cdv A outer s H vs Q E hr h => ⟨_, (pss_cons (ps_if (pt_not (pt_val (pe_callB call_isi (by rfl) T.n_isinstance (by decide +kernel) (pa_cons (pv 1) (pa_cons (pe_glob (v := .ref (κ "Kind")) rfl CT_Kind.g rfl) pa_nil))))) (pss_one ps_never) pss_nil)
      (pss_one (ps_ret (pe_and (pe_cmpR op_le (pe_fld (pv 1) rfl) (pe_fld (pv 0) rfl) (nomark _)) (pe_one (pe_cmpR op_le (pe_fld (pv 0) rfl) (pe_fld (pv 1) rfl) (nomark _))))))), ok_body (Z := ⟨K, κ⟩) (O := []) (js_seq (js_if (jb_not (jb_B (j_cb (c_isiI CT_Kind.i) (ja_cons (j_var nin) (ja_cons j_cls ja_nil))))) js_never js_next)
      (js_ret (JD.w (j_andV (j_op upD r_le (j_fldI CT_Kind.t (.head _) (j_var nin)) (j_fldI CT_Kind.t (.head _) (j_var nin))) (j_op upD r_le (j_fldI CT_Kind.t (.tail _ (.head _)) (j_var nin)) (j_fldI CT_Kind.t (.tail _ (.head _)) (j_var nin))))))) (fun _ m => absurd m List.not_mem_nil) h⟩)
theorem ok_Kind___eq__ {f : Addr} {fd : FuncData} (F : Fun K "__eq__" "Kind.__eq__" s_Kind___eq__ f fd) (T : TxD2 mg) (CT_Kind : ClsI K mg ⟨K, κ⟩ "Kind" "Kind" ["low", "high", "size"]) : FnOk P w K mg base CX0 1 f fd P_Kind___eq__ (spD ⟨K, κ⟩ 2 L_Kind___eq__) := by
  exact F.ok sc_Kind___eq__ (fun vs H Q E h => h.1) (fun cdv A outer s H vs Q E hr h => ⟨_, (pss_one (ps_ret (pe_and (pe_callB call_isi (by rfl) T.n_isinstance (by decide +kernel) (pa_cons (pv 1) (pa_cons (pe_glob (v := .ref (κ "Kind")) rfl CT_Kind.g rfl) pa_nil))) (pe_and (pe_cmpR op_eq (pe_fld (pv 0) rfl) (pe_fld (pv 1) rfl) (nomark _)) (pe_one (pe_cmpR op_eq (pe_fld (pv 0) rfl) (pe_fld (pv 1) rfl) (nomark _))))))), ok_body (Z := ⟨K, κ⟩) (O := []) (js_ret (JD.w (j_andV (j_cb (c_isiI CT_Kind.i) (ja_cons (j_var nin) (ja_cons j_cls ja_nil))) (j_andV (j_op upD r_eq (j_fldI CT_Kind.t (.head _) (j_var nin)) (j_fldI CT_Kind.t (.head _) (j_var nin))) (j_op upD r_eq (j_fldI CT_Kind.t (.tail _ (.head _)) (j_var nin)) (j_fldI CT_Kind.t (.tail _ (.head _)) (j_var nin))))))) (fun _ m => absurd m List.not_mem_nil) h⟩)
theorem ok_Kind___lt__ {f : Addr} {fd : FuncData} (F : Fun K "__lt__" "Kind.__lt__" s_Kind___lt__ f fd) (T : TxD2 mg) (CT_Kind : ClsI K mg ⟨K, κ⟩ "Kind" "Kind" ["low", "high", "size"]) (cL_Kind___le__ : MeI P w K mg base ⟨K, κ⟩ 1 "Kind" "__le__" P_Kind___le__ (spD ⟨K, κ⟩ 2 L_Kind___le__)) (cL_Kind___eq__ : MeI P w K mg base ⟨K, κ⟩ 1 "Kind" "__eq__" P_Kind___eq__ (spD ⟨K, κ⟩ 2 L_Kind___eq__)) : FnOk P w K mg base CX0 2 f fd P_Kind___lt__ (spD ⟨K, κ⟩ 2 L_Kind___lt__) := by
  obtain ⟨f_Kind___le__, fd_Kind___le__, M_Kind___le__, G_Kind___le__, b_Kind___le__⟩ := cL_Kind___le__
  obtain ⟨f_Kind___eq__, fd_Kind___eq__, M_Kind___eq__, G_Kind___eq__, b_Kind___eq__⟩ := cL_Kind___eq__
  exact F.ok sc_Kind___lt__ (fun vs H Q E h => h.1) (fun cdv A outer s H vs Q E hr h => ⟨_, (pss_cons (ps_if (pt_not (pt_val (pe_callB call_isi (by rfl) T.n_isinstance (by decide +kernel) (pa_cons (pv 1) (pa_cons (pe_glob (v := .ref (κ "Kind")) rfl CT_Kind.g rfl) pa_nil))))) (pss_one ps_never) pss_nil)
      (pss_one (ps_ret (pe_and (pe_cmpR (op_cmpI (fun _ _ => rfl) M_Kind___le__.at_ M_Kind___le__.fn G_Kind___le__ (hr.mono (by decide)) b_Kind___le__ pass0) (pv 0) (pv 1) (nomark _)) (pe_one (pe_not (pe_cmpR (op_cmpI (fun _ _ => rfl) M_Kind___eq__.at_ M_Kind___eq__.fn G_Kind___eq__ (hr.mono (by decide)) b_Kind___eq__ pass0) (pv 0) (pv 1) (nomark _)))))))), ok_body (Z := ⟨K, κ⟩) (O := []) (js_seq (js_if (jb_not (jb_B (j_cb (c_isiI CT_Kind.i) (ja_cons (j_var nin) (ja_cons j_cls ja_nil))))) js_never js_next)
      (js_ret (JD.w (j_andV (j_op upD (r_own2 via_id) (j_var nin) (j_var nin)) (j_notV (j_op upD (r_own2 via_id) (j_var nin) (j_var nin))))))) (fun _ m => absurd m List.not_mem_nil) h⟩)
theorem ok__are_kinds {f : Addr} {fd : FuncData} (F : Fun K "_are_kinds" "_are_kinds" s__are_kinds f fd) (T : TxD2 mg) (TN : TxN mg n_MOST_LETTERS n_LEAST_NARROW n_MOST_PACE n_MOST_IN_TWO_EVENTS) (CT_Kind : ClsI K mg ⟨K, κ⟩ "Kind" "Kind" ["low", "high", "size"]) (cL_Kind___lt__ : MeI P w K mg base ⟨K, κ⟩ 2 "Kind" "__lt__" P_Kind___lt__ (spD ⟨K, κ⟩ 2 L_Kind___lt__)) : FnOk P w K mg base CX0 3 f fd P__are_kinds (spD ⟨K, κ⟩ 2 L__are_kinds) := by
  obtain ⟨f_Kind___lt__, fd_Kind___lt__, M_Kind___lt__, G_Kind___lt__, b_Kind___lt__⟩ := cL_Kind___lt__
  exact F.ok sc__are_kinds (fun vs H Q E h => h.1) (fun cdv A outer s H vs Q E hr h => ⟨_, (pss_cons (ps_if (PW.pt (pw_or (pt_not (pt_val (pe_callB call_isi (by rfl) T.n_isinstance (by decide +kernel) (pa_cons (pv 0) (pa_cons (pe_glob (v := .ref (κ "Kind")) rfl CT_Kind.g rfl) pa_nil))))) (pw_or1 (pt_not (pt_val (pe_callB call_isi (by rfl) T.n_isinstance (by decide +kernel) (pa_cons (pv 1) (pa_cons (pe_glob (v := .ref (κ "Kind")) rfl CT_Kind.g rfl) pa_nil)))))))) (pss_one (ps_ret pe_bl)) pss_nil)
      (pss_one (ps_ret (pe_and (pe_cmpR (op_cmpI (fun _ _ => rfl) M_Kind___lt__.at_ M_Kind___lt__.fn G_Kind___lt__ (hr.mono (by decide)) b_Kind___lt__ pass0) (pv 0) (pv 1) (nomark _)) (pe_one (pe_cmpR op_ge (pe_fld (pv 0) rfl) (pe_glob (v := .int 16) rfl TN.g_LEAST_NARROW ⟨_, rfl⟩) (nomark _))))))), ok_body (Z := ⟨K, κ⟩) (O := []) (js_seq (js_if (jb_or (jb_not (jb_B (j_cb (c_isiI CT_Kind.i) (ja_cons (j_var nin) (ja_cons j_cls ja_nil))))) (jb_not (jb_B (j_cb (c_isiI CT_Kind.i) (ja_cons (j_var nin) (ja_cons j_cls ja_nil)))))) (js_ret (JD.w j_bl)) js_next)
      (js_ret (JD.w (j_andV (j_op upD (r_own2 via_id) (j_var nin) (j_var nin)) (j_op upD r_ge (j_fldI CT_Kind.t (.tail _ (.tail _ (.head _))) (j_var nin)) j_int))))) (fun _ m => absurd m List.not_mem_nil) h⟩)
theorem ok__are_columns {f : Addr} {fd : FuncData} (F : Fun K "_are_columns" "_are_columns" s__are_columns f fd) (T : TxD2 mg) (cL_is_tuple_of : Cal P w K mg base 1 "is_tuple_of" P_is_tuple_of (spD ⟨K, κ⟩ 3 L_is_tuple_of)) (cL_is_name : Cal P w K mg base 1 "is_name" P_is_name (spD ⟨K, κ⟩ 1 L_is_name)) (cL_is_ascendingT : Cal P w K mg base 1 "is_ascending" P_is_ascending (spD ⟨K, κ⟩ 1 L_is_ascendingT)) : FnOk P w K mg base CX0 2 f fd P__are_columns (spD ⟨K, κ⟩ 1 L__are_columns) := by
  obtain ⟨f_is_tuple_of, fd_is_tuple_of, G_is_tuple_of, b_is_tuple_of, g_is_tuple_of, k_is_tuple_of⟩ := cL_is_tuple_of
  obtain ⟨f_is_name, fd_is_name, G_is_name, b_is_name, g_is_name, k_is_name⟩ := cL_is_name
  obtain ⟨f_is_ascending, fd_is_ascending, G_is_ascending, b_is_ascending, g_is_ascending, k_is_ascending⟩ := cL_is_ascendingT
  exact F.ok sc__are_columns (fun vs H Q E h => h.1) (fun cdv A outer s H vs Q E hr h => ⟨_, (pss_cons (ps_if (PW.pt (pw_or (pt_not (pt_val (pe_call G_is_tuple_of (hr.mono (by decide)) rfl g_is_tuple_of k_is_tuple_of b_is_tuple_of .nil pass0 (pa_cons (pv 0) (pa_cons pe_int (pa_cons pe_int pa_nil)))))) (pw_or1 (pt_not (pt_val (pe_callB (cr_all rfl) (by rfl) T.n_all (by decide +kernel) (pa_cons (pe_lc (own := [("column", 1)]) (g := (gName 1)) (tt := tYes) rfl sc__are_columns.nd (pi_tup (pv 0)) (blkOk_by (N := N__are_columns) (sc := defScope s__are_columns) (by decide +kernel)) (fun _ _ _ _ _ => (pg_name (i := 1) sc__are_columns.nd rfl (Or.inl rfl))) (fun _ _ _ _ _ => pts_nil) (fun _ _ _ _ _ => (pe_call G_is_name (hr.mono (by decide)) rfl g_is_name k_is_name b_is_name .nil pass0 (pa_cons (pv 1) pa_nil)))) pa_nil))))))) (pss_one (ps_ret pe_bl)) pss_nil)
      (pss_one (ps_ret (pe_call G_is_ascending (hr.mono (by decide)) rfl g_is_ascending k_is_ascending b_is_ascending .nil pass0 (pa_cons (pv 0) pa_nil))))), ok_body (Z := ⟨K, κ⟩) (O := []) (js_seq (js_if (jb_or (jb_not (jb_B (j_callV via_id (ja_cons (j_var nin) (ja_cons j_int (ja_cons j_int ja_nil))) (len_cons (len_cons (len_cons (fun _ _ _ _ h => len_nil h))))))) (jb_not (jb_B (j_cb c_all (ja_consW (JD.w (j_lc (ji_tup xCo (j_var nin)) (jg_name nin (fun w e => by cases e; decide)) jb_yes (j_callV via_id (ja_cons (j_var nin) ja_nil) (len_cons (fun _ _ _ _ h => len_nil h))))) ja_nil))))) (js_ret (JD.w j_bl)) js_next)
      (js_ret (JD.w (j_callV via_id (ja_cons (j_var nin) ja_nil) (len_cons (fun _ _ _ _ h => len_nil h)))))) (fun _ m => absurd m List.not_mem_nil) h⟩)
theorem ok__are_rows {f : Addr} {fd : FuncData} (F : Fun K "_are_rows" "_are_rows" s__are_rows f fd) (T : TxD2 mg) (cL_is_tuple_of : Cal P w K mg base 1 "is_tuple_of" P_is_tuple_of (spD ⟨K, κ⟩ 3 L_is_tuple_of)) (cL_is_ascending : Cal P w K mg base 1 "is_ascending" P_is_ascending (spD ⟨K, κ⟩ 1 L_is_ascending)) : FnOk P w K mg base CX0 2 f fd P__are_rows (spD ⟨K, κ⟩ 3 L__are_rows) := by
  obtain ⟨f_is_tuple_of, fd_is_tuple_of, G_is_tuple_of, b_is_tuple_of, g_is_tuple_of, k_is_tuple_of⟩ := cL_is_tuple_of
  obtain ⟨f_is_ascending, fd_is_ascending, G_is_ascending, b_is_ascending, g_is_ascending, k_is_ascending⟩ := cL_is_ascending
  exact F.ok sc__are_rows (fun vs H Q E h => h.1) (fun cdv A outer s H vs Q E hr h => ⟨_, (pss_cons (ps_if (pt_not (pt_val (pe_callB call_isi (by rfl) T.n_isinstance (by decide +kernel) (pa_cons (pv 1) (pa_cons (pe_bltn (v := .ty "tuple") (by rfl) T.n_tuple (by decide +kernel) rfl) pa_nil))))) (pss_one (ps_ret pe_bl)) pss_nil)
      (pss_cons (ps_for PassesOwn.never rfl (pi_tup (pv 1)) (pg_name (i := 3) sc__are_rows.nd rfl (Or.inl rfl)) (pss_one (ps_if (PW.pt (pw_or (pt_not (pt_val (pe_call G_is_tuple_of (hr.mono (by decide)) rfl g_is_tuple_of k_is_tuple_of b_is_tuple_of .nil pass0 (pa_cons (pv 3) (pa_cons (pv 2) (pa_cons (pv 2) pa_nil)))))) (pw_or1 (pt_cmpR (op_inS (neg := true) (Z := ⟨K, κ⟩) (hu70 hr) rfl) (pe_ix ix_tup (pv 3) pe_int (fun _ _ => rfl)) (pv 0) rfl)))) (pss_one (ps_ret pe_bl)) pss_nil)))
      (pss_one (ps_ret (pe_call G_is_ascending (hr.mono (by decide)) rfl g_is_ascending k_is_ascending b_is_ascending .nil pass0 (pa_cons (pe_lc (own := [("row", 3)]) (g := (gName 3)) (tt := tYes) rfl sc__are_rows.nd (pi_tup (pv 1)) (blkOk_by (N := N__are_rows) (sc := defScope s__are_rows) (by decide +kernel)) (fun _ _ _ _ _ => (pg_name (i := 3) sc__are_rows.nd rfl (Or.inl rfl))) (fun _ _ _ _ _ => pts_nil) (fun _ _ _ _ _ => (pe_ix ix_tup (pv 3) pe_int (fun _ _ => rfl)))) pa_nil)))))), ok_body (Z := ⟨K, κ⟩) (O := []) (js_seq (js_if (jb_not (jb_B (j_cb c_isi (ja_consW (JD.w (j_var nin)) (ja_cons j_ty ja_nil))))) (js_ret (JD.w j_bl)) js_next)
      (js_seq (js_for (ji_tup xS (j_var nin)) (jg_name nin nofun) (js_if (jb_or (jb_not (jb_B (j_callV via_id (ja_cons (j_var nin) (ja_cons (j_var nin) (ja_cons (j_var nin) ja_nil))) (len_cons (len_cons (len_cons (fun _ _ _ _ h => len_nil h))))))) (jb_test (j_op upD (r_inS (neg := true)) (j_op upD r_ixT (j_var nin) j_int) (JD.w (j_var nin))))) (js_ret (JD.w j_bl)) js_next))
      (js_ret (JD.w (j_callV via_id (ja_cons (j_lc (ji_tup xCo (j_var nin)) (jg_name nin (fun w e => by cases e; decide)) jb_yes (j_op upD r_ixT (j_var nin) j_int)) ja_nil) (len_cons (fun _ _ _ _ h => len_nil h))))))) (fun _ m => absurd m List.not_mem_nil) h⟩)
theorem ok__is_read {f : Addr} {fd : FuncData} (F : Fun K "_is_read" "_is_read" s__is_read f fd) (T : TxD2 mg) (GT_DEEDS : GTup K mg "DEEDS" a_DEEDS ["match", "order", "show"]) (GT_READ_SIDES : GTup K mg "READ_SIDES" a_READ_SIDES ["narrow", "wide", "either"]) (cL_is_ascendingT : Cal P w K mg base 1 "is_ascending" P_is_ascending (spD ⟨K, κ⟩ 1 L_is_ascendingT)) : FnOk P w K mg base CX0 2 f fd P__is_read (spD ⟨K, κ⟩ 1 L__is_read) := by
  obtain ⟨f_is_ascending, fd_is_ascending, G_is_ascending, b_is_ascending, g_is_ascending, k_is_ascending⟩ := cL_is_ascendingT
  exact F.ok sc__is_read (fun vs H Q E h => h.1) (fun cdv A outer s H vs Q E hr h => ⟨_, (pss_cons (ps_asg (pv 0) (pg_tup rfl (pgs_cons (pg_name (i := 1) sc__is_read.nd rfl (Or.inl rfl)) (pgs_cons (pg_name (i := 2) sc__is_read.nd rfl (Or.inl rfl)) (pgs_cons (pg_name (i := 3) sc__is_read.nd rfl (Or.inl rfl)) pgs_nil)))))
      (pss_cons (ps_if (PW.pt (pw_or (pt_cmpR (op_inS (neg := true) (Z := ⟨K, κ⟩) (hu70 hr) rfl) (pv 2) (pe_glob (v := .ref a_READ_SIDES) rfl GT_READ_SIDES.g rfl) rfl) (pw_or1 (pt_not (pt_val (pe_callB call_isi (by rfl) T.n_isinstance (by decide +kernel) (pa_cons (pv 3) (pa_cons (pe_bltn (v := .ty "tuple") (by rfl) T.n_tuple (by decide +kernel) rfl) pa_nil)))))))) (pss_one (ps_ret pe_bl)) pss_nil)
      (pss_one (ps_ret (pe_and (pe_callB (cr_all rfl) (by rfl) T.n_all (by decide +kernel) (pa_cons (pe_lc (own := [("deed", 4)]) (g := (gName 4)) (tt := tYes) rfl sc__is_read.nd (pi_tup (pv 3)) (blkOk_by (N := N__is_read) (sc := defScope s__is_read) (by decide +kernel)) (fun _ _ _ _ _ => (pg_name (i := 4) sc__is_read.nd rfl (Or.inl rfl))) (fun _ _ _ _ _ => pts_nil) (fun _ _ _ _ _ => (pe_cmpR (op_inS (neg := false) (Z := ⟨K, κ⟩) (hu70 hr) rfl) (pv 4) (pe_glob (v := .ref a_DEEDS) rfl GT_DEEDS.g rfl) rfl))) pa_nil)) (pe_one (pe_call G_is_ascending (hr.mono (by decide)) rfl g_is_ascending k_is_ascending b_is_ascending .nil pass0 (pa_cons (pv 3) pa_nil)))))))), ok_body (Z := ⟨K, κ⟩) (O := []) (js_seq (js_asg (j_var nin) (jg_tup (jg_cons (jg_name nin nofun) (jg_cons (jg_name nin nofun) (jg_cons (jg_name nin nofun) jg_nil)))))
      (js_seq (js_if (jb_or (jb_test (j_op upD (r_inS (neg := true)) (j_var nin) (JD.w (j_c GT_READ_SIDES.isD)))) (jb_not (jb_B (j_cb c_isi (ja_consW (JD.w (j_var nin)) (ja_cons j_ty ja_nil)))))) (js_ret (JD.w j_bl)) js_next)
      (js_ret (JD.w (j_andV (j_cb c_all (ja_consW (JD.w (j_lc (ji_tup xCo (j_var nin)) (jg_name nin (fun w e => by cases e; decide)) jb_yes (j_op upD (r_inS (neg := false)) (j_var nin) (JD.w (j_c GT_DEEDS.isD))))) ja_nil)) (j_callV via_id (ja_cons (j_var nin) ja_nil) (len_cons (fun _ _ _ _ h => len_nil h)))))))) (fun _ m => absurd m List.not_mem_nil) h⟩)
theorem ok__is_write {f : Addr} {fd : FuncData} (F : Fun K "_is_write" "_is_write" s__is_write f fd) (T : TxD2 mg) (GT_RULES : GTup K mg "RULES" a_RULES ["cut", "empty", "refuse"]) (GT_HOWS : GTup K mg "HOWS" a_HOWS ["narrow", "wide", "both", "narrow first", "wide first"]) (TN : TxN mg n_MOST_LETTERS n_LEAST_NARROW n_MOST_PACE n_MOST_IN_TWO_EVENTS) (cL_is_between : Cal P w K mg base 2 "is_between" P_is_between (spD ⟨K, κ⟩ 3 L_is_between)) : FnOk P w K mg base CX0 3 f fd P__is_write (spD ⟨K, κ⟩ 2 L__is_write) := by
  obtain ⟨f_is_between, fd_is_between, G_is_between, b_is_between, g_is_between, k_is_between⟩ := cL_is_between
  exact F.ok sc__is_write (fun vs H Q E h => h.1) (fun cdv A outer s H vs Q E hr h => ⟨_, (pss_cons (ps_asg (pv 1) (pg_tup rfl (pgs_cons (pg_name (i := 2) sc__is_write.nd rfl (Or.inl rfl)) (pgs_cons (pg_name (i := 3) sc__is_write.nd rfl (Or.inl rfl)) (pgs_cons (pg_name (i := 4) sc__is_write.nd rfl (Or.inl rfl)) (pgs_cons (pg_name (i := 5) sc__is_write.nd rfl (Or.inl rfl)) (pgs_cons (pg_name (i := 6) sc__is_write.nd rfl (Or.inl rfl)) pgs_nil)))))))
      (pss_cons (ps_if (PW.pt (pw_or (pt_cmpR (op_inS (neg := true) (Z := ⟨K, κ⟩) (hu70 hr) rfl) (pv 3) (pe_glob (v := .ref a_HOWS) rfl GT_HOWS.g rfl) rfl) (pw_or (pt_cmpR (op_inS (neg := true) (Z := ⟨K, κ⟩) (hu70 hr) rfl) (pv 4) (pe_glob (v := .ref a_RULES) rfl GT_RULES.g rfl) rfl) (pw_or1 (pt_not (pt_val (pe_call G_is_between (hr.mono (by decide)) rfl g_is_between k_is_between b_is_between .nil pass0 (pa_cons (pv 6) (pa_cons pe_int (pa_cons (pe_glob (v := .int 99) rfl TN.g_MOST_PACE ⟨_, rfl⟩) pa_nil)))))))))) (pss_one (ps_ret pe_bl)) pss_nil)
      (pss_one (ps_ret (pe_or (pe_cmpR op_eq (pv 5) pe_str (nomark _)) (pe_one (pe_and (pe_cmpR (op_inS (neg := false) (Z := ⟨K, κ⟩) (hu70 hr) rfl) (pv 5) (pv 0) rfl) (pe_one (pe_cmpR op_ne (pv 5) (pv 2) (nomark _)))))))))), ok_body (Z := ⟨K, κ⟩) (O := []) (js_seq (js_asg (j_var nin) (jg_tup (jg_cons (jg_name nin nofun) (jg_cons (jg_name nin nofun) (jg_cons (jg_name nin nofun) (jg_cons (jg_name nin nofun) (jg_cons (jg_name nin nofun) jg_nil)))))))
      (js_seq (js_if (jb_or (jb_test (j_op upD (r_inS (neg := true)) (j_var nin) (JD.w (j_c GT_HOWS.isD)))) (jb_or (jb_test (j_op upD (r_inS (neg := true)) (j_var nin) (JD.w (j_c GT_RULES.isD)))) (jb_not (jb_B (j_callV via_id (ja_cons (j_var nin) (ja_cons j_int (ja_cons j_int ja_nil))) (len_cons (len_cons (len_cons (fun _ _ _ _ h => len_nil h))))))))) (js_ret (JD.w j_bl)) js_next)
      (js_ret (JD.w (j_orV (j_op upD r_eq (j_var nin) j_str) (j_andV (j_op upD (r_inS (neg := false)) (j_var nin) (JD.w (j_var nin))) (j_op upD r_ne (j_var nin) (j_var nin)))))))) (fun _ m => absurd m List.not_mem_nil) h⟩)
theorem ok__is_edition {f : Addr} {fd : FuncData} (F : Fun K "_is_edition" "_is_edition" s__is_edition f fd) (T : TxD2 mg) (GT_SIDES : GTup K mg "SIDES" a_SIDES ["narrow", "wide"]) (cL_is_tuple_of : Cal P w K mg base 1 "is_tuple_of" P_is_tuple_of (spD ⟨K, κ⟩ 3 L_is_tuple_of)) (cL__are_rows : Cal P w K mg base 2 "_are_rows" P__are_rows (spD ⟨K, κ⟩ 3 L__are_rows)) (cL__is_read : Cal P w K mg base 2 "_is_read" P__is_read (spD ⟨K, κ⟩ 1 L__is_read)) (cL__is_write : Cal P w K mg base 3 "_is_write" P__is_write (spD ⟨K, κ⟩ 2 L__is_write)) : FnOk P w K mg base CX0 4 f fd P__is_edition (spD ⟨K, κ⟩ 2 L__is_edition) := by
  obtain ⟨f_is_tuple_of, fd_is_tuple_of, G_is_tuple_of, b_is_tuple_of, g_is_tuple_of, k_is_tuple_of⟩ := cL_is_tuple_of
  obtain ⟨f__are_rows, fd__are_rows, G__are_rows, b__are_rows, g__are_rows, k__are_rows⟩ := cL__are_rows
  obtain ⟨f__is_read, fd__is_read, G__is_read, b__is_read, g__is_read, k__is_read⟩ := cL__is_read
  obtain ⟨f__is_write, fd__is_write, G__is_write, b__is_write, g__is_write, k__is_write⟩ := cL__is_write
  exact F.ok sc__is_edition (fun vs H Q E h => h.1) (fun cdv A outer s H vs Q E hr h => ⟨_, (pss_cons (ps_if (pt_not (pt_val (pe_call G_is_tuple_of (hr.mono (by decide)) rfl g_is_tuple_of k_is_tuple_of b_is_tuple_of .nil pass0 (pa_cons (pv 1) (pa_cons pe_int (pa_cons pe_int pa_nil)))))) (pss_one (ps_ret pe_bl)) pss_nil)
      (pss_cons (ps_asg (pv 1) (pg_tup rfl (pgs_cons (pg_name (i := 2) sc__is_edition.nd rfl (Or.inl rfl)) (pgs_cons (pg_name (i := 3) sc__is_edition.nd rfl (Or.inl rfl)) (pgs_cons (pg_name (i := 4) sc__is_edition.nd rfl (Or.inl rfl)) pgs_nil)))))
      (pss_cons (ps_if (PW.pt (pw_or (pt_cmpR (op_inS (neg := true) (Z := ⟨K, κ⟩) (hu70 hr) rfl) (pv 2) (pe_glob (v := .ref a_SIDES) rfl GT_SIDES.g rfl) rfl) (pw_or (pt_not (pt_val (pe_call G__are_rows (hr.mono (by decide)) rfl g__are_rows k__are_rows b__are_rows .nil pass0 (pa_cons (pv 0) (pa_cons (pv 3) (pa_cons pe_int pa_nil)))))) (pw_or1 (pt_not (pt_val (pe_call G__are_rows (hr.mono (by decide)) rfl g__are_rows k__are_rows b__are_rows .nil pass0 (pa_cons (pv 0) (pa_cons (pv 4) (pa_cons pe_int pa_nil)))))))))) (pss_one (ps_ret pe_bl)) pss_nil)
      (pss_cons (ps_if (pt_not (pt_val (pe_callB (cr_all rfl) (by rfl) T.n_all (by decide +kernel) (pa_cons (pe_lc (own := [("row", 6)]) (g := (gName 6)) (tt := tYes) rfl sc__is_edition.nd (pi_tup (pv 3)) (blkOk_by (N := N__is_edition) (sc := defScope s__is_edition) (by decide +kernel)) (fun _ _ _ _ _ => (pg_name (i := 6) sc__is_edition.nd rfl (Or.inl rfl))) (fun _ _ _ _ _ => pts_nil) (fun _ _ _ _ _ => (pe_call G__is_read (hr.mono (by decide)) rfl g__is_read k__is_read b__is_read .nil pass0 (pa_cons (pv 6) pa_nil)))) pa_nil)))) (pss_one (ps_ret pe_bl)) pss_nil)
      (pss_cons (ps_set (i := 5) sc__is_edition.nd rfl (Or.inr rfl) (pe_lc (own := [("row", 6)]) (g := (gName 6)) (tt := tYes) rfl sc__is_edition.nd (pi_tup (pv 3)) (blkOk_by (N := N__is_edition) (sc := defScope s__is_edition) (by decide +kernel)) (fun _ _ _ _ _ => (pg_name (i := 6) sc__is_edition.nd rfl (Or.inl rfl))) (fun _ _ _ _ _ => pts_nil) (fun _ _ _ _ _ => (pe_ix ix_tup (pv 6) pe_int (fun _ _ => rfl)))))
      (pss_one (ps_ret (pe_callB (cr_all rfl) (by rfl) T.n_all (by decide +kernel) (pa_cons (pe_lc (own := [("row", 6)]) (g := (gName 6)) (tt := tYes) rfl sc__is_edition.nd (pi_tup (pv 4)) (blkOk_by (N := N__is_edition) (sc := defScope s__is_edition) (by decide +kernel)) (fun _ _ _ _ _ => (pg_name (i := 6) sc__is_edition.nd rfl (Or.inl rfl))) (fun _ _ _ _ _ => pts_nil) (fun _ _ _ _ _ => (pe_call G__is_write (hr.mono (by decide)) rfl g__is_write k__is_write b__is_write .nil pass0 (pa_cons (pv 5) (pa_cons (pv 6) pa_nil))))) pa_nil))))))))), ok_body (Z := ⟨K, κ⟩) (O := []) (js_seq (js_if (jb_not (jb_B (j_callV via_id (ja_cons (j_var nin) (ja_cons j_int (ja_cons j_int ja_nil))) (len_cons (len_cons (len_cons (fun _ _ _ _ h => len_nil h))))))) (js_ret (JD.w j_bl)) js_next)
      (js_seq (js_asg (j_var nin) (jg_tup (jg_cons (jg_name nin nofun) (jg_cons (jg_name nin nofun) (jg_cons (jg_name nin nofun) jg_nil)))))
      (js_seq (js_if (jb_or (jb_test (j_op upD (r_inS (neg := true)) (j_var nin) (JD.w (j_c GT_SIDES.isD)))) (jb_or (jb_not (jb_B (j_callV via_id (ja_cons (j_var nin) (ja_cons (j_var nin) (ja_cons j_int ja_nil))) (len_cons (len_cons (len_cons (fun _ _ _ _ h => len_nil h))))))) (jb_not (jb_B (j_callV via_id (ja_cons (j_var nin) (ja_cons (j_var nin) (ja_cons j_int ja_nil))) (len_cons (len_cons (len_cons (fun _ _ _ _ h => len_nil h))))))))) (js_ret (JD.w j_bl)) js_next)
      (js_seq (js_if (jb_not (jb_B (j_cb c_all (ja_consW (JD.w (j_lc (ji_tup xCo (j_var nin)) (jg_name nin (fun w e => by cases e; decide)) jb_yes (j_callV via_id (ja_cons (j_var nin) ja_nil) (len_cons (fun _ _ _ _ h => len_nil h))))) ja_nil)))) (js_ret (JD.w j_bl)) js_next)
      (js_seq (js_asg (j_lc (ji_tup xCo (j_var nin)) (jg_name nin (fun w e => by cases e; decide)) jb_yes (j_op upD r_ixT (j_var nin) j_int)) (jg_name nin nofun))
      (js_ret (JD.w (j_cb c_all (ja_consW (JD.w (j_lc (ji_tup xCo (j_var nin)) (jg_name nin (fun w e => by cases e; decide)) jb_yes (j_callV via_id (ja_cons (j_var nin) (ja_cons (j_var nin) ja_nil)) (len_cons (len_cons (fun _ _ _ _ h => len_nil h)))))) ja_nil))))))))) (fun _ m => absurd m List.not_mem_nil) h⟩)
theorem ok__is_first_edition {f : Addr} {fd : FuncData} (F : Fun K "_is_first_edition" "_is_first_edition" s__is_first_edition f fd) (T : TxD2 mg) : FnOk P w K mg base CX0 1 f fd P__is_first_edition (spD ⟨K, κ⟩ 1 L__is_first_edition) := by
  exact F.ok sc__is_first_edition (fun vs H Q E h => h.1) (fun cdv A outer s H vs Q E hr h => ⟨_, (pss_cons (ps_asg (pv 0) (pg_tup rfl (pgs_cons (pg_name (i := 1) sc__is_first_edition.nd rfl (Or.inl rfl)) (pgs_cons (pg_name (i := 2) sc__is_first_edition.nd rfl (Or.inl rfl)) (pgs_cons (pg_name (i := 3) sc__is_first_edition.nd rfl (Or.inl rfl)) pgs_nil)))))
      (pss_cons (ps_if (pt_not (pt_val (pe_callB (cr_all rfl) (by rfl) T.n_all (by decide +kernel) (pa_cons (pe_lc (own := [("row", 4)]) (g := (gName 4)) (tt := tYes) rfl sc__is_first_edition.nd (pi_tup (pv 2)) (blkOk_by (N := N__is_first_edition) (sc := defScope s__is_first_edition) (by decide +kernel)) (fun _ _ _ _ _ => (pg_name (i := 4) sc__is_first_edition.nd rfl (Or.inl rfl))) (fun _ _ _ _ _ => pts_nil) (fun _ _ _ _ _ => (pe_cmpR (op_inS (neg := false) (Z := ⟨K, κ⟩) (hu70 hr) rfl) (pe_ix ix_tup (pv 4) pe_int (fun _ _ => rfl)) (pe_tup (pa_cons pe_str (pa_cons pe_str pa_nil))) rfl))) pa_nil)))) (pss_one (ps_ret pe_bl)) pss_nil)
      (pss_one (ps_ret (pe_callB (cr_all rfl) (by rfl) T.n_all (by decide +kernel) (pa_cons (pe_lc (own := [("row", 4)]) (g := (gName 4)) (tt := tYes) rfl sc__is_first_edition.nd (pi_tup (pv 3)) (blkOk_by (N := N__is_first_edition) (sc := defScope s__is_first_edition) (by decide +kernel)) (fun _ _ _ _ _ => (pg_name (i := 4) sc__is_first_edition.nd rfl (Or.inl rfl))) (fun _ _ _ _ _ => pts_nil) (fun _ _ _ _ _ => (pe_cmpR op_eq (pe_ix ix_tup (pv 4) pe_int (fun _ _ => rfl)) pe_str (nomark _)))) pa_nil)))))), ok_body (Z := ⟨K, κ⟩) (O := []) (js_seq (js_asg (j_var nin) (jg_tup (jg_cons (jg_name nin nofun) (jg_cons (jg_name nin nofun) (jg_cons (jg_name nin nofun) jg_nil)))))
      (js_seq (js_if (jb_not (jb_B (j_cb c_all (ja_consW (JD.w (j_lc (ji_tup xCo (j_var nin)) (jg_name nin (fun w e => by cases e; decide)) jb_yes (j_op upD (r_inS (neg := false)) (j_op upD r_ixT (j_var nin) j_int) (JD.w (j_tup (ja_cons j_str (ja_cons j_str ja_nil))))))) ja_nil)))) (js_ret (JD.w j_bl)) js_next)
      (js_ret (JD.w (j_cb c_all (ja_consW (JD.w (j_lc (ji_tup xCo (j_var nin)) (jg_name nin (fun w e => by cases e; decide)) jb_yes (j_op upD r_eq (j_op upD r_ixT (j_var nin) j_int) j_str))) ja_nil)))))) (fun _ m => absurd m List.not_mem_nil) h⟩)
theorem ok__is_program {f : Addr} {fd : FuncData} (F : Fun K "_is_program" "_is_program" s__is_program f fd) (T : TxD2 mg) (cL_is_tuple_of : Cal P w K mg base 1 "is_tuple_of" P_is_tuple_of (spD ⟨K, κ⟩ 3 L_is_tuple_of)) (cL_is_name : Cal P w K mg base 1 "is_name" P_is_name (spD ⟨K, κ⟩ 1 L_is_name)) (cL__is_edition : Cal P w K mg base 4 "_is_edition" P__is_edition (spD ⟨K, κ⟩ 2 L__is_edition)) (cL__is_first_edition : Cal P w K mg base 1 "_is_first_edition" P__is_first_edition (spD ⟨K, κ⟩ 1 L__is_first_edition)) : FnOk P w K mg base CX0 5 f fd P__is_program (spD ⟨K, κ⟩ 2 L__is_program) := by
  obtain ⟨f_is_tuple_of, fd_is_tuple_of, G_is_tuple_of, b_is_tuple_of, g_is_tuple_of, k_is_tuple_of⟩ := cL_is_tuple_of
  obtain ⟨f_is_name, fd_is_name, G_is_name, b_is_name, g_is_name, k_is_name⟩ := cL_is_name
  obtain ⟨f__is_edition, fd__is_edition, G__is_edition, b__is_edition, g__is_edition, k__is_edition⟩ := cL__is_edition
  obtain ⟨f__is_first_edition, fd__is_first_edition, G__is_first_edition, b__is_first_edition, g__is_first_edition, k__is_first_edition⟩ := cL__is_first_edition
  exact F.ok sc__is_program (fun vs H Q E h => h.1) (fun cdv A outer s H vs Q E hr h => ⟨_, (pss_cons (ps_if (pt_not (pt_val (pe_call G_is_tuple_of (hr.mono (by decide)) rfl g_is_tuple_of k_is_tuple_of b_is_tuple_of .nil pass0 (pa_cons (pv 1) (pa_cons pe_int (pa_cons pe_int pa_nil)))))) (pss_one (ps_ret pe_bl)) pss_nil)
      (pss_cons (ps_asg (pv 1) (pg_tup rfl (pgs_cons (pg_name (i := 2) sc__is_program.nd rfl (Or.inl rfl)) (pgs_cons (pg_name (i := 3) sc__is_program.nd rfl (Or.inl rfl)) pgs_nil))))
      (pss_cons (ps_if (PW.pt (pw_or (pt_not (pt_val (pe_call G_is_name (hr.mono (by decide)) rfl g_is_name k_is_name b_is_name .nil pass0 (pa_cons (pv 2) pa_nil)))) (pw_or1 (pt_not (pt_val (pe_call G_is_tuple_of (hr.mono (by decide)) rfl g_is_tuple_of k_is_tuple_of b_is_tuple_of .nil pass0 (pa_cons (pv 3) (pa_cons pe_int (pa_cons pe_int pa_nil))))))))) (pss_one (ps_ret pe_bl)) pss_nil)
      (pss_cons (ps_if (pt_not (pt_val (pe_callB (cr_all rfl) (by rfl) T.n_all (by decide +kernel) (pa_cons (pe_lc (own := [("edition", 4)]) (g := (gName 4)) (tt := tYes) rfl sc__is_program.nd (pi_tup (pv 3)) (blkOk_by (N := N__is_program) (sc := defScope s__is_program) (by decide +kernel)) (fun _ _ _ _ _ => (pg_name (i := 4) sc__is_program.nd rfl (Or.inl rfl))) (fun _ _ _ _ _ => pts_nil) (fun _ _ _ _ _ => (pe_call G__is_edition (hr.mono (by decide)) rfl g__is_edition k__is_edition b__is_edition .nil pass0 (pa_cons (pv 0) (pa_cons (pv 4) pa_nil))))) pa_nil)))) (pss_one (ps_ret pe_bl)) pss_nil)
      (pss_one (ps_ret (pe_call G__is_first_edition (hr.mono (by decide)) rfl g__is_first_edition k__is_first_edition b__is_first_edition .nil pass0 (pa_cons (pe_ix ix_tup (pv 3) pe_int (fun _ _ => rfl)) pa_nil)))))))), ok_body (Z := ⟨K, κ⟩) (O := []) (js_seq (js_if (jb_not (jb_B (j_callV via_id (ja_cons (j_var nin) (ja_cons j_int (ja_cons j_int ja_nil))) (len_cons (len_cons (len_cons (fun _ _ _ _ h => len_nil h))))))) (js_ret (JD.w j_bl)) js_next)
      (js_seq (js_asg (j_var nin) (jg_tup (jg_cons (jg_name nin nofun) (jg_cons (jg_name nin nofun) jg_nil))))
      (js_seq (js_if (jb_or (jb_not (jb_B (j_callV via_id (ja_cons (j_var nin) ja_nil) (len_cons (fun _ _ _ _ h => len_nil h))))) (jb_not (jb_B (j_callV via_id (ja_cons (j_var nin) (ja_cons j_int (ja_cons j_int ja_nil))) (len_cons (len_cons (len_cons (fun _ _ _ _ h => len_nil h)))))))) (js_ret (JD.w j_bl)) js_next)
      (js_seq (js_if (jb_not (jb_B (j_cb c_all (ja_consW (JD.w (j_lc (ji_tup xCo (j_var nin)) (jg_name nin (fun w e => by cases e; decide)) jb_yes (j_callV via_id (ja_cons (j_var nin) (ja_cons (j_var nin) ja_nil)) (len_cons (len_cons (fun _ _ _ _ h => len_nil h)))))) ja_nil)))) (js_ret (JD.w j_bl)) js_next)
      (js_ret (JD.w (j_callV via_id (ja_cons (j_op upD r_ixT (j_var nin) j_int) ja_nil) (len_cons (fun _ _ _ _ h => len_nil h))))))))) (fun _ m => absurd m List.not_mem_nil) h⟩)
theorem ok__many_in_two_events {f : Addr} {fd : FuncData} (F : Fun K "_many_in_two_events" "_many_in_two_events" s__many_in_two_events f fd) (T : TxD2 mg) (GT_IN_TWO_EVENTS : GTup K mg "IN_TWO_EVENTS" a_IN_TWO_EVENTS ["narrow first", "wide first"]) : FnOk P w K mg base CX0 1 f fd P__many_in_two_events (spD ⟨K, κ⟩ 1 L__many_in_two_events) := by
  exact F.ok sc__many_in_two_events (fun vs H Q E h => h.1) (fun cdv A outer s H vs Q E hr h => ⟨_, (pss_cons (ps_set (i := 1) sc__many_in_two_events.nd rfl (Or.inl rfl) pe_int)
      (pss_cons (ps_for PassesOwn.never rfl (pi_tup (pv 0)) (pg_tup rfl (pgs_cons (pg_name (i := 2) sc__many_in_two_events.nd rfl (Or.inl rfl)) (pgs_cons (pg_name (i := 3) sc__many_in_two_events.nd rfl (Or.inl rfl)) pgs_nil))) (pss_one (ps_for PassesOwn.never rfl (pi_tup (pv 3)) (pg_tup rfl (pgs_cons (pg_name (i := 2) sc__many_in_two_events.nd rfl (Or.inl rfl)) (pgs_cons (pg_name (i := 2) sc__many_in_two_events.nd rfl (Or.inl rfl)) (pgs_cons (pg_name (i := 4) sc__many_in_two_events.nd rfl (Or.inl rfl)) pgs_nil)))) (pss_one (ps_set (i := 1) sc__many_in_two_events.nd rfl (Or.inl rfl) (pe_op op_add (pv 1) (pe_callB call_len_seq (by rfl) T.n_len (by decide +kernel) (pa_cons (pe_lc (own := [("row", 5)]) (g := (gName 5))  rfl sc__many_in_two_events.nd (pi_tup (pv 4)) (blkOk_by (N := N__many_in_two_events) (sc := defScope s__many_in_two_events) (by decide +kernel)) (fun _ _ _ _ _ => (pg_name (i := 5) sc__many_in_two_events.nd rfl (Or.inl rfl))) (fun _ _ _ _ _ => (pts_one (pt_cmpR (op_inS (neg := false) (Z := ⟨K, κ⟩) (hu70 hr) rfl) (pe_ix ix_tup (pv 5) pe_int (fun _ _ => rfl)) (pe_glob (v := .ref a_IN_TWO_EVENTS) rfl GT_IN_TWO_EVENTS.g rfl) rfl))) (fun _ _ _ _ _ => (pv 5))) pa_nil))))))))
      (pss_one (ps_ret (pv 1))))), ok_body (Z := ⟨K, κ⟩) (O := []) (js_seq (js_asg j_int (jg_name nin nofun))
      (js_seq (js_for (ji_tup xS (j_var nin)) (jg_tup (jg_cons (jg_name nin nofun) (jg_cons (jg_name nin nofun) jg_nil))) (js_for (ji_tup xS (j_var nin)) (jg_tup (jg_cons (jg_name nin nofun) (jg_cons (jg_name nin nofun) (jg_cons (jg_name nin nofun) jg_nil)))) (js_asg (j_op upD r_add (j_var nin) (j_cb c_len (ja_consW (JD.w (j_lc (ji_tup xCo (j_var nin)) (jg_name nin (fun w e => by cases e; decide)) (jb_test (j_op upD (r_inS (neg := false)) (j_op upD r_ixT (j_var nin) j_int) (JD.w (j_c GT_IN_TWO_EVENTS.isD)))) (j_var nin))) ja_nil))) (jg_name nin nofun))))
      (js_ret (JD.w (j_var nin))))) (fun _ m => absurd m List.not_mem_nil) h⟩)
theorem ok__are_programs {f : Addr} {fd : FuncData} (F : Fun K "_are_programs" "_are_programs" s__are_programs f fd) (T : TxD2 mg) (TN : TxN mg n_MOST_LETTERS n_LEAST_NARROW n_MOST_PACE n_MOST_IN_TWO_EVENTS) (cL_is_tuple_of : Cal P w K mg base 1 "is_tuple_of" P_is_tuple_of (spD ⟨K, κ⟩ 3 L_is_tuple_of)) (cL__is_program : Cal P w K mg base 5 "_is_program" P__is_program (spD ⟨K, κ⟩ 2 L__is_program)) (cL_is_ascending : Cal P w K mg base 1 "is_ascending" P_is_ascending (spD ⟨K, κ⟩ 1 L_is_ascending)) (cL__many_in_two_events : Cal P w K mg base 1 "_many_in_two_events" P__many_in_two_events (spD ⟨K, κ⟩ 1 L__many_in_two_events)) : FnOk P w K mg base CX0 6 f fd P__are_programs (spD ⟨K, κ⟩ 2 L__are_programs) := by
  obtain ⟨f_is_tuple_of, fd_is_tuple_of, G_is_tuple_of, b_is_tuple_of, g_is_tuple_of, k_is_tuple_of⟩ := cL_is_tuple_of
  obtain ⟨f__is_program, fd__is_program, G__is_program, b__is_program, g__is_program, k__is_program⟩ := cL__is_program
  obtain ⟨f_is_ascending, fd_is_ascending, G_is_ascending, b_is_ascending, g_is_ascending, k_is_ascending⟩ := cL_is_ascending
  obtain ⟨f__many_in_two_events, fd__many_in_two_events, G__many_in_two_events, b__many_in_two_events, g__many_in_two_events, k__many_in_two_events⟩ := cL__many_in_two_events
  exact F.ok sc__are_programs (fun vs H Q E h => h.1) (fun cdv A outer s H vs Q E hr h => ⟨_, (pss_cons (ps_if (pt_not (pt_val (pe_call G_is_tuple_of (hr.mono (by decide)) rfl g_is_tuple_of k_is_tuple_of b_is_tuple_of .nil pass0 (pa_cons (pv 1) (pa_cons pe_int (pa_cons pe_int pa_nil)))))) (pss_one (ps_ret pe_bl)) pss_nil)
      (pss_cons (ps_if (pt_not (pt_val (pe_callB (cr_all rfl) (by rfl) T.n_all (by decide +kernel) (pa_cons (pe_lc (own := [("program", 2)]) (g := (gName 2)) (tt := tYes) rfl sc__are_programs.nd (pi_tup (pv 1)) (blkOk_by (N := N__are_programs) (sc := defScope s__are_programs) (by decide +kernel)) (fun _ _ _ _ _ => (pg_name (i := 2) sc__are_programs.nd rfl (Or.inl rfl))) (fun _ _ _ _ _ => pts_nil) (fun _ _ _ _ _ => (pe_call G__is_program (hr.mono (by decide)) rfl g__is_program k__is_program b__is_program .nil pass0 (pa_cons (pv 0) (pa_cons (pv 2) pa_nil))))) pa_nil)))) (pss_one (ps_ret pe_bl)) pss_nil)
      (pss_cons (ps_if (pt_not (pt_val (pe_call G_is_ascending (hr.mono (by decide)) rfl g_is_ascending k_is_ascending b_is_ascending .nil pass0 (pa_cons (pe_lc (own := [("name", 3), ("_", 4)]) (g := (gTup _ 2 (gCons (gName 3) (gCons (gName 4) gNil)))) (tt := tYes) rfl sc__are_programs.nd (pi_tup (pv 1)) (blkOk_by (N := N__are_programs) (sc := defScope s__are_programs) (by decide +kernel)) (fun _ _ _ _ _ => (pg_tup rfl (pgs_cons (pg_name (i := 3) sc__are_programs.nd rfl (Or.inl rfl)) (pgs_cons (pg_name (i := 4) sc__are_programs.nd rfl (Or.inl rfl)) pgs_nil)))) (fun _ _ _ _ _ => pts_nil) (fun _ _ _ _ _ => (pv 3))) pa_nil)))) (pss_one (ps_ret pe_bl)) pss_nil)
      (pss_one (ps_ret (pe_cmpR op_le (pe_call G__many_in_two_events (hr.mono (by decide)) rfl g__many_in_two_events k__many_in_two_events b__many_in_two_events .nil pass0 (pa_cons (pv 1) pa_nil)) (pe_glob (v := .int 2) rfl TN.g_MOST_IN_TWO_EVENTS ⟨_, rfl⟩) (nomark _))))))), ok_body (Z := ⟨K, κ⟩) (O := []) (js_seq (js_if (jb_not (jb_B (j_callV via_id (ja_cons (j_var nin) (ja_cons j_int (ja_cons j_int ja_nil))) (len_cons (len_cons (len_cons (fun _ _ _ _ h => len_nil h))))))) (js_ret (JD.w j_bl)) js_next)
      (js_seq (js_if (jb_not (jb_B (j_cb c_all (ja_consW (JD.w (j_lc (ji_tup xCo (j_var nin)) (jg_name nin (fun w e => by cases e; decide)) jb_yes (j_callV via_id (ja_cons (j_var nin) (ja_cons (j_var nin) ja_nil)) (len_cons (len_cons (fun _ _ _ _ h => len_nil h)))))) ja_nil)))) (js_ret (JD.w j_bl)) js_next)
      (js_seq (js_if (jb_not (jb_B (j_callV via_id (ja_cons (j_lc (ji_tup xCo (j_var nin)) (jg_tup (jg_cons (jg_name nin (fun w e => by cases e; decide)) (jg_cons (jg_name nin (fun w e => by cases e; decide)) jg_nil))) jb_yes (j_var nin)) ja_nil) (len_cons (fun _ _ _ _ h => len_nil h))))) (js_ret (JD.w j_bl)) js_next)
      (js_ret (JD.w (j_op upD r_le (j_callV via_id (ja_cons (j_var nin) ja_nil) (len_cons (fun _ _ _ _ h => len_nil h))) j_int)))))) (fun _ m => absurd m List.not_mem_nil) h⟩)
theorem ok_World___init__ {f : Addr} {fd : FuncData} (F : Fun K "__init__" "World.__init__" s_World___init__ f fd) (T : TxD2 mg) (cL__are_kinds : Cal P w K mg base 3 "_are_kinds" P__are_kinds (spD ⟨K, κ⟩ 2 L__are_kinds)) (cL__are_columns : Cal P w K mg base 2 "_are_columns" P__are_columns (spD ⟨K, κ⟩ 1 L__are_columns)) (cL__are_programs : Cal P w K mg base 6 "_are_programs" P__are_programs (spD ⟨K, κ⟩ 2 L__are_programs)) (CT_World : ClsI K mg ⟨K, κ⟩ "World" "World" ["narrow", "wide", "columns", "programs"]) : FnOk P w K mg base CX0 7 f fd P_World___init__ (spD ⟨K, κ⟩ 5 L_World___init__) := by
  obtain ⟨f__are_kinds, fd__are_kinds, G__are_kinds, b__are_kinds, g__are_kinds, k__are_kinds⟩ := cL__are_kinds
  obtain ⟨f__are_columns, fd__are_columns, G__are_columns, b__are_columns, g__are_columns, k__are_columns⟩ := cL__are_columns
  obtain ⟨f__are_programs, fd__are_programs, G__are_programs, b__are_programs, g__are_programs, k__are_programs⟩ := cL__are_programs
  exact F.ok sc_World___init__ (fun vs H Q E h => h.1) (fun cdv A outer s H vs Q E hr h => ⟨_, (pss_cons (ps_set (i := 5) sc_World___init__.nd rfl (Or.inl rfl) (pe_and (pe_call G__are_kinds (hr.mono (by decide)) rfl g__are_kinds k__are_kinds b__are_kinds .nil pass0 (pa_cons (pv 1) (pa_cons (pv 2) pa_nil))) (pe_and (pe_call G__are_columns (hr.mono (by decide)) rfl g__are_columns k__are_columns b__are_columns .nil pass0 (pa_cons (pv 3) pa_nil)) (pe_one (pe_call G__are_programs (hr.mono (by decide)) rfl g__are_programs k__are_programs b__are_programs .nil pass0 (pa_cons (pv 3) (pa_cons (pv 4) pa_nil)))))))
      (pss_cons (ps_if (pt_not (pt_val (pv 5))) (pss_one ps_never) pss_nil)
      (pss_cons (ps_fld (pv 0) (pv 1) rfl)
      (pss_cons (ps_fld (pv 0) (pv 2) rfl)
      (pss_cons (ps_fld (pv 0) (pv 3) rfl)
      (pss_one (ps_fld (pv 0) (pv 4) rfl))))))), ok_body (Z := ⟨K, κ⟩) (O := []) (js_seq (js_asg (j_andV (j_callV via_id (ja_cons (j_var nin) (ja_cons (j_var nin) ja_nil)) (len_cons (len_cons (fun _ _ _ _ h => len_nil h)))) (j_andV (j_callV via_id (ja_cons (j_var nin) ja_nil) (len_cons (fun _ _ _ _ h => len_nil h))) (j_callV via_id (ja_cons (j_var nin) (ja_cons (j_var nin) ja_nil)) (len_cons (len_cons (fun _ _ _ _ h => len_nil h)))))) (jg_name nin nofun))
      (js_seq (js_if (jb_not (jb_B (j_var nin))) js_never js_next)
      (js_seq (js_setFL CT_World.t (.head _) (j_var nin) (j_var nin))
      (js_seq (js_setFL CT_World.t (.tail _ (.head _)) (j_var nin) (j_var nin))
      (js_seq (js_setFL CT_World.t (.tail _ (.tail _ (.head _))) (j_var nin) (j_var nin))
      (js_setFL CT_World.t (.tail _ (.tail _ (.tail _ (.head _)))) (j_var nin) (j_var nin))))))) (fun _ m => absurd m List.not_mem_nil) h⟩)
theorem ok__law_pot_of {f : Addr} {fd : FuncData} (F : Fun K "_law_pot_of" "_law_pot_of" s__law_pot_of f fd) (T : TxD2 mg) : FnOk P w K mg base CX0 1 f fd P__law_pot_of (spD ⟨K, κ⟩ 2 L__law_pot_of) := by
  exact F.ok sc__law_pot_of (fun vs H Q E h => h.1) (fun cdv A outer s H vs Q E hr h => ⟨_, (pss_cons (ps_set (i := 2) sc__law_pot_of.nd rfl (Or.inl rfl) (pe_ifExp (pt_cmpR op_lt (pv 1) (pe_callB call_len_seq (by rfl) T.n_len (by decide +kernel) (pa_cons (pv 0) pa_nil)) (nomark _)) (pe_ix ix_list (pv 0) (pv 1) (fun _ _ => rfl)) (pe_op op_add (pe_op op_mul pe_int (pv 1)) pe_int)))
      (pss_cons (ps_set (i := 3) sc__law_pot_of.nd rfl (Or.inl rfl) (pe_op op_mul (pe_op op_mod (pe_callTy call_int1 (by rfl) T.n_int (by decide +kernel) (pa_cons (pe_callB call_abs (by rfl) T.n_abs (by decide +kernel) (pa_cons (pv 2) pa_nil)) pa_nil)) (pe_op op_powZ (pe_op op_pow pe_int pe_int) pe_int)) (pe_callTy call_int1 (by rfl) T.n_int (by decide +kernel) (pa_cons (pe_cmpR op_ge (pe_callB call_abs (by rfl) T.n_abs (by decide +kernel) (pa_cons (pv 2) pa_nil)) (pe_op op_pow pe_int pe_int) (nomark _)) pa_nil))))
      (pss_one (ps_ret (pe_lst (pa_cons (pv 3) (pa_cons (pe_op op_mod (pe_op op_add (pe_op op_add (pe_op op_mul (pe_op op_mod (pe_callTy call_int1 (by rfl) T.n_int (by decide +kernel) (pa_cons (pv 2) pa_nil)) pe_int) pe_int) (pe_op op_mul (pe_op op_mul pe_int (pv 1)) (pv 1))) pe_int) pe_int) (pa_cons pe_int pa_nil)))))))), ok_body (Z := ⟨K, κ⟩) (O := []) (js_seq (js_asg (j_if (jb_test (j_op upD r_lt (j_var nin) (j_cb c_len (ja_consW (JD.w (j_var nin)) ja_nil)))) (j_op upD r_ixSc (j_var nin) (j_var nin)) (j_op upD r_add (j_op upD r_mul j_int (j_var nin)) j_int)) (jg_name nin nofun))
      (js_seq (js_asg (j_op upD r_mul (j_op upD r_mod (j_cb c_int (ja_cons (j_cb c_abs (ja_cons (j_var nin) ja_nil)) ja_nil)) (j_op upD r_powZ (j_op upD r_pow j_int j_int) j_int)) (j_cb c_int (ja_cons (j_op upD r_ge (j_cb c_abs (ja_cons (j_var nin) ja_nil)) (j_op upD r_pow j_int j_int)) ja_nil))) (jg_name nin nofun))
      (js_retLo (jf_lst (ja_cons (j_var nin) (ja_cons (j_op upD r_mod (j_op upD r_add (j_op upD r_add (j_op upD r_mul (j_op upD r_mod (j_cb c_int (ja_cons (j_var nin) ja_nil)) j_int) j_int) (j_op upD r_mul (j_op upD r_mul j_int (j_var nin)) (j_var nin))) j_int) j_int) (ja_cons j_int ja_nil))))))) (fun _ m => absurd m List.not_mem_nil) h⟩)
theorem ok__law_take {f : Addr} {fd : FuncData} (F : Fun K "_law_take" "_law_take" s__law_take f fd) (T : TxD2 mg) : FnOk P w K mg base CX0 1 f fd P__law_take (spD ⟨K, κ⟩ 2 L__law_take) := by
  exact F.ok sc__law_take (fun vs H Q E h => h.1) (fun cdv A outer s H vs Q E hr h => ⟨_, (pss_cons (ps_if (pt_cmpR op_gt (pe_ix ix_list (pv 0) pe_int (fun _ _ => rfl)) pe_int (nomark _)) (pss_cons (ps_set (i := 2) sc__law_take.nd rfl (Or.inl rfl) (pe_op op_mod (pe_callTy call_int1 (by rfl) T.n_int (by decide +kernel) (pa_cons (pe_ix ix_list (pv 0) pe_int (fun _ _ => rfl)) pa_nil)) (pv 1)))
      (pss_cons (ps_asg (pe_op op_fdivW (pe_ix ix_list (pv 0) pe_int (fun _ _ => rfl)) (pv 1)) (pg_sub (pv 0) pe_int set_list))
      (pss_one (ps_ret (pv 2))))) pss_nil)
      (pss_cons (ps_asg (pe_op op_add (pe_ix ix_list (pv 0) pe_int (fun _ _ => rfl)) pe_int) (pg_sub (pv 0) pe_int set_list))
      (pss_cons (ps_set (i := 3) sc__law_take.nd rfl (Or.inl rfl) (pe_ix ix_list (pe_lst (pa_cons pe_int (pa_cons pe_int (pa_cons pe_int (pa_cons pe_int (pa_cons pe_int pa_nil)))))) (pe_op op_mod (pe_callTy call_int1 (by rfl) T.n_int (by decide +kernel) (pa_cons (pe_ix ix_list (pv 0) pe_int (fun _ _ => rfl)) pa_nil)) pe_int) (fun _ _ => rfl)))
      (pss_cons (ps_set (i := 4) sc__law_take.nd rfl (Or.inl rfl) (pe_op op_mod (pe_op op_pow (pe_callTy call_int1 (by rfl) T.n_int (by decide +kernel) (pa_cons (pe_op op_add (pe_op op_add (pe_ix ix_list (pv 0) pe_int (fun _ _ => rfl)) (pe_op op_mul (pe_op op_mul pe_int (pe_ix ix_list (pv 0) pe_int (fun _ _ => rfl))) (pe_ix ix_list (pv 0) pe_int (fun _ _ => rfl)))) pe_int) pa_nil)) pe_int) (pv 3)))
      (pss_cons (ps_set (i := 4) sc__law_take.nd rfl (Or.inl rfl) (pe_op op_mod (pe_callTy call_int1 (by rfl) T.n_int (by decide +kernel) (pa_cons (pe_op op_mul (pv 4) (pe_op op_add (pe_op op_mod (pe_callTy call_int1 (by rfl) T.n_int (by decide +kernel) (pa_cons (pv 4) pa_nil)) pe_int) (pe_op op_mul pe_int (pe_ix ix_list (pv 0) pe_int (fun _ _ => rfl))))) pa_nil)) pe_int))
      (pss_one (ps_ret (pe_op op_mod (pe_op op_fdivW (pv 4) pe_int) (pv 1))))))))), ok_body (Z := ⟨K, κ⟩) (O := []) (js_seq (js_if (jb_test (j_op upD r_gt (j_op upD r_ixLo (j_var nin) j_int) j_int)) (js_seq (js_asg (j_op upD r_mod (j_cb c_int (ja_cons (j_op upD r_ixLo (j_var nin) j_int) ja_nil)) (j_var nin)) (jg_name nin nofun))
      (js_seq (js_setLo nin j_int (j_op upD r_div (j_op upD r_ixLo (j_var nin) j_int) (j_var nin)))
      (js_ret (JD.w (j_var nin))))) js_next)
      (js_seq (js_setLo nin j_int (j_op upD r_add (j_op upD r_ixLo (j_var nin) j_int) j_int))
      (js_seq (js_asg (j_op upW r_ixL (JD.w (j_lst (ja_cons j_int (ja_cons j_int (ja_cons j_int (ja_cons j_int (ja_cons j_int ja_nil))))))) (j_op upD r_mod (j_cb c_int (ja_cons (j_op upD r_ixLo (j_var nin) j_int) ja_nil)) j_int)) (jg_name nin nofun))
      (js_seq (js_asg (j_op upD r_mod (j_op upD r_pow (j_cb c_int (ja_cons (j_op upD r_add (j_op upD r_add (j_op upD r_ixLo (j_var nin) j_int) (j_op upD r_mul (j_op upD r_mul j_int (j_op upD r_ixLo (j_var nin) j_int)) (j_op upD r_ixLo (j_var nin) j_int))) j_int) ja_nil)) j_int) (j_var nin)) (jg_name nin nofun))
      (js_seq (js_asg (j_op upD r_mod (j_cb c_int (ja_cons (j_op upD r_mul (j_var nin) (j_op upD r_add (j_op upD r_mod (j_cb c_int (ja_cons (j_var nin) ja_nil)) j_int) (j_op upD r_mul j_int (j_op upD r_ixLo (j_var nin) j_int)))) ja_nil)) j_int) (jg_name nin nofun))
      (js_ret (JD.w (j_op upD r_mod (j_op upD r_div (j_var nin) j_int) (j_var nin))))))))) (fun _ m => absurd m List.not_mem_nil) h⟩)
theorem ok__law_of {f : Addr} {fd : FuncData} (F : Fun K "_law_of" "_law_of" s__law_of f fd) (T : TxD2 mg) (cL__law_take : Cal P w K mg base 1 "_law_take" P__law_take (spD ⟨K, κ⟩ 2 L__law_take)) : FnOk P w K mg base CX0 2 f fd P__law_of (spD ⟨K, κ⟩ 2 L__law_of) := by
  obtain ⟨f__law_take, fd__law_take, G__law_take, b__law_take, g__law_take, k__law_take⟩ := cL__law_take
  exact F.ok sc__law_of (fun vs H Q E h => h.1) (fun cdv A outer s H vs Q E hr h => ⟨_, (pss_one (ps_ret (pe_ix ix_list (pv 1) (pe_call G__law_take (hr.mono (by decide)) rfl g__law_take k__law_take b__law_take .nil pass0 (pa_cons (pv 0) (pa_cons (pe_callB call_len_seq (by rfl) T.n_len (by decide +kernel) (pa_cons (pv 1) pa_nil)) pa_nil))) (fun _ _ => rfl)))), ok_body (Z := ⟨K, κ⟩) (O := []) (js_ret (JD.w (j_op upW r_ixL (JD.w (j_var nin)) (j_callV via_id (ja_cons (j_var nin) (ja_cons (j_cb c_len (ja_consW (JD.w (j_var nin)) ja_nil)) ja_nil)) (len_cons (len_cons (fun _ _ _ _ h => len_nil h))))))) (fun _ m => absurd m List.not_mem_nil) h⟩)
theorem ok_is_ascendingD {f : Addr} {fd : FuncData} (F : Fun K "is_ascending" "is_ascending" s_is_ascending f fd) (T : TxD2 mg) : FnOk P w K mg base CX0 1 f fd P_is_ascending (spD ⟨K, κ⟩ 1 L_is_ascendingD) := by
  exact F.ok sc_is_ascending (fun vs H Q E h => h.1) (fun cdv A outer s H vs Q E hr h => ⟨_, (pss_one (ps_ret (pe_callB (cr_all rfl) (by rfl) T.n_all (by decide +kernel) (pa_cons (pe_lc (own := [("one", 1), ("other", 2)]) (g := (gTup _ 2 (gCons (gName 1) (gCons (gName 2) gNil)))) (tt := tYes) rfl sc_is_ascending.nd (pi_zipG rfl T.n_zip (pa_cons (pv 0) (pa_cons (pe_slice sl_tupA (pv 0) (po_some pe_int) po_none) pa_nil))) (blkOk_by (N := N_is_ascending) (sc := defScope s_is_ascending) (by decide +kernel)) (fun _ _ _ _ _ => (pg_tup rfl (pgs_cons (pg_name (i := 1) sc_is_ascending.nd rfl (Or.inl rfl)) (pgs_cons (pg_name (i := 2) sc_is_ascending.nd rfl (Or.inl rfl)) pgs_nil)))) (fun _ _ _ _ _ => pts_nil) (fun _ _ _ _ _ => (pe_cmpR (op_ltD (K := K) (hu64 hr)) (pv 1) (pv 2) (nomark _)))) pa_nil)))), ok_body (Z := ⟨K, κ⟩) (O := []) (js_ret (JD.w (j_cb c_all (ja_consW (JD.w (j_lc (ji_zipG xCo (ja_cons (j_var nin) (ja_cons (j_slT (j_var nin) (jo_some j_int) jo_none) ja_nil))) (jg_tup (jg_cons (jg_name nin (fun w e => by cases e; decide)) (jg_cons (jg_name nin (fun w e => by cases e; decide)) jg_nil))) jb_yes (j_op upD r_ltD (j_var nin) (j_var nin)))) ja_nil)))) (fun _ m => absurd m List.not_mem_nil) h⟩)
theorem ok_edition_of {f : Addr} {fd : FuncData} (F : Fun K "edition_of" "edition_of" s_edition_of f fd) (T : TxD2 mg) (cL_editions_of : Cal P w K mg base 1 "editions_of" P_editions_of (spD ⟨K, κ⟩ 2 L_editions_of)) : FnOk P w K mg base CX0 2 f fd P_edition_of (spD ⟨K, κ⟩ 3 L_edition_of) := by
  obtain ⟨f_editions_of, fd_editions_of, G_editions_of, b_editions_of, g_editions_of, k_editions_of⟩ := cL_editions_of
  exact F.ok sc_edition_of (fun vs H Q E h => h.1) (fun cdv A outer s H vs Q E hr h => ⟨_, (pss_one (ps_ret (pe_ix ix_tup (pe_call G_editions_of (hr.mono (by decide)) rfl g_editions_of k_editions_of b_editions_of .nil pass0 (pa_cons (pv 0) (pa_cons (pv 1) pa_nil))) (pv 2) (fun _ _ => rfl)))), ok_body (Z := ⟨K, κ⟩) (O := []) (js_ret (JD.w (j_op upD r_ixT (j_callV via_id (ja_cons (j_var nin) (ja_cons (j_var nin) ja_nil)) (len_cons (len_cons (fun _ _ _ _ h => len_nil h)))) (j_var nin)))) (fun _ m => absurd m List.not_mem_nil) h⟩)
theorem ok__is_late {f : Addr} {fd : FuncData} (F : Fun K "_is_late" "_is_late" s__is_late f fd) (T : TxD2 mg) (GT_IN_TWO_EVENTS : GTup K mg "IN_TWO_EVENTS" a_IN_TWO_EVENTS ["narrow first", "wide first"]) (GT_LATE_WORDS : GTup K mg "LATE_WORDS" a_LATE_WORDS ["same", "cut", "old", "far"]) (cL_is_tuple_of : Cal P w K mg base 1 "is_tuple_of" P_is_tuple_of (spD ⟨K, κ⟩ 3 L_is_tuple_of)) (cL_is_count : Cal P w K mg base 2 "is_count" P_is_count (spD ⟨K, κ⟩ 1 L_is_count)) (cL_editions_of : Cal P w K mg base 1 "editions_of" P_editions_of (spD ⟨K, κ⟩ 2 L_editions_of)) (cL_edition_of : Cal P w K mg base 2 "edition_of" P_edition_of (spD ⟨K, κ⟩ 3 L_edition_of)) : FnOk P w K mg base CX0 3 f fd P__is_late (spD ⟨K, κ⟩ 2 L__is_late) := by
  obtain ⟨f_is_tuple_of, fd_is_tuple_of, G_is_tuple_of, b_is_tuple_of, g_is_tuple_of, k_is_tuple_of⟩ := cL_is_tuple_of
  obtain ⟨f_is_count, fd_is_count, G_is_count, b_is_count, g_is_count, k_is_count⟩ := cL_is_count
  obtain ⟨f_editions_of, fd_editions_of, G_editions_of, b_editions_of, g_editions_of, k_editions_of⟩ := cL_editions_of
  obtain ⟨f_edition_of, fd_edition_of, G_edition_of, b_edition_of, g_edition_of, k_edition_of⟩ := cL_edition_of
  exact F.ok sc__is_late (fun vs H Q E h => h.1) (fun cdv A outer s H vs Q E hr h => ⟨_, (pss_cons (ps_if (pt_not (pt_val (pe_call G_is_tuple_of (hr.mono (by decide)) rfl g_is_tuple_of k_is_tuple_of b_is_tuple_of .nil pass0 (pa_cons (pv 1) (pa_cons pe_int (pa_cons pe_int pa_nil)))))) (pss_one (ps_ret pe_bl)) pss_nil)
      (pss_cons (ps_asg (pv 1) (pg_tup rfl (pgs_cons (pg_name (i := 2) sc__is_late.nd rfl (Or.inl rfl)) (pgs_cons (pg_name (i := 3) sc__is_late.nd rfl (Or.inl rfl)) (pgs_cons (pg_name (i := 4) sc__is_late.nd rfl (Or.inl rfl)) pgs_nil)))))
      (pss_cons (ps_if (PW.pt (pw_or (pt_cmpR (op_inS (neg := true) (Z := ⟨K, κ⟩) (hu70 hr) rfl) (pv 4) (pe_glob (v := .ref a_LATE_WORDS) rfl GT_LATE_WORDS.g rfl) rfl) (pw_or (pt_not (pt_val (pe_call G_is_count (hr.mono (by decide)) rfl g_is_count k_is_count b_is_count .nil pass0 (pa_cons (pv 3) pa_nil)))) (pw_or1 (pt_cmpR op_ge (pv 3) (pe_callB call_len_seq (by rfl) T.n_len (by decide +kernel) (pa_cons (pe_call G_editions_of (hr.mono (by decide)) rfl g_editions_of k_editions_of b_editions_of .nil pass0 (pa_cons (pv 0) (pa_cons (pv 2) pa_nil))) pa_nil)) (nomark _)))))) (pss_one (ps_ret pe_bl)) pss_nil)
      (pss_cons (ps_asg (pe_call G_edition_of (hr.mono (by decide)) rfl g_edition_of k_edition_of b_edition_of .nil pass0 (pa_cons (pv 0) (pa_cons (pv 2) (pa_cons (pv 3) pa_nil)))) (pg_tup rfl (pgs_cons (pg_name (i := 5) sc__is_late.nd rfl (Or.inl rfl)) (pgs_cons (pg_name (i := 5) sc__is_late.nd rfl (Or.inl rfl)) (pgs_cons (pg_name (i := 6) sc__is_late.nd rfl (Or.inl rfl)) pgs_nil)))))
      (pss_one (ps_ret (pe_callB (cr_any rfl) (by rfl) T.n_any (by decide +kernel) (pa_cons (pe_lc (own := [("row", 7)]) (g := (gName 7)) (tt := tYes) rfl sc__is_late.nd (pi_tup (pv 6)) (blkOk_by (N := N__is_late) (sc := defScope s__is_late) (by decide +kernel)) (fun _ _ _ _ _ => (pg_name (i := 7) sc__is_late.nd rfl (Or.inl rfl))) (fun _ _ _ _ _ => pts_nil) (fun _ _ _ _ _ => (pe_cmpR (op_inS (neg := false) (Z := ⟨K, κ⟩) (hu70 hr) rfl) (pe_ix ix_tup (pv 7) pe_int (fun _ _ => rfl)) (pe_glob (v := .ref a_IN_TWO_EVENTS) rfl GT_IN_TWO_EVENTS.g rfl) rfl))) pa_nil)))))))), ok_body (Z := ⟨K, κ⟩) (O := []) (js_seq (js_if (jb_not (jb_B (j_callV via_id (ja_cons (j_var nin) (ja_cons j_int (ja_cons j_int ja_nil))) (len_cons (len_cons (len_cons (fun _ _ _ _ h => len_nil h))))))) (js_ret (JD.w j_bl)) js_next)
      (js_seq (js_asg (j_var nin) (jg_tup (jg_cons (jg_name nin nofun) (jg_cons (jg_name nin nofun) (jg_cons (jg_name nin nofun) jg_nil)))))
      (js_seq (js_if (jb_or (jb_test (j_op upD (r_inS (neg := true)) (j_var nin) (JD.w (j_c GT_LATE_WORDS.isD)))) (jb_or (jb_not (jb_B (j_callV via_id (ja_cons (j_var nin) ja_nil) (len_cons (fun _ _ _ _ h => len_nil h))))) (jb_test (j_op upD r_ge (j_var nin) (j_cb c_len (ja_consW (JD.w (j_callV via_id (ja_cons (j_var nin) (ja_cons (j_var nin) ja_nil)) (len_cons (len_cons (fun _ _ _ _ h => len_nil h))))) ja_nil)))))) (js_ret (JD.w j_bl)) js_next)
      (js_seq (js_asg (j_callV via_id (ja_cons (j_var nin) (ja_cons (j_var nin) (ja_cons (j_var nin) ja_nil))) (len_cons (len_cons (len_cons (fun _ _ _ _ h => len_nil h))))) (jg_tup (jg_cons (jg_name nin nofun) (jg_cons (jg_name nin nofun) (jg_cons (jg_name nin nofun) jg_nil)))))
      (js_ret (JD.w (j_cb c_any (ja_consW (JD.w (j_lc (ji_tup xCo (j_var nin)) (jg_name nin (fun w e => by cases e; decide)) jb_yes (j_op upD (r_inS (neg := false)) (j_op upD r_ixT (j_var nin) j_int) (JD.w (j_c GT_IN_TWO_EVENTS.isD))))) ja_nil)))))))) (fun _ m => absurd m List.not_mem_nil) h⟩)
theorem ok__are_late {f : Addr} {fd : FuncData} (F : Fun K "_are_late" "_are_late" s__are_late f fd) (T : TxD2 mg) (cL__is_late : Cal P w K mg base 3 "_is_late" P__is_late (spD ⟨K, κ⟩ 2 L__is_late)) (cL_is_ascendingD : Cal P w K mg base 1 "is_ascending" P_is_ascending (spD ⟨K, κ⟩ 1 L_is_ascendingD)) : FnOk P w K mg base CX0 4 f fd P__are_late (spD ⟨K, κ⟩ 2 L__are_late) := by
  obtain ⟨f__is_late, fd__is_late, G__is_late, b__is_late, g__is_late, k__is_late⟩ := cL__is_late
  obtain ⟨f_is_ascending, fd_is_ascending, G_is_ascending, b_is_ascending, g_is_ascending, k_is_ascending⟩ := cL_is_ascendingD
  exact F.ok sc__are_late (fun vs H Q E h => h.1) (fun cdv A outer s H vs Q E hr h => ⟨_, (pss_cons (ps_if (PW.pt (pw_or (pt_not (pt_val (pe_callB call_isi (by rfl) T.n_isinstance (by decide +kernel) (pa_cons (pv 1) (pa_cons (pe_bltn (v := .ty "tuple") (by rfl) T.n_tuple (by decide +kernel) rfl) pa_nil))))) (pw_or1 (pt_not (pt_val (pe_callB (cr_all rfl) (by rfl) T.n_all (by decide +kernel) (pa_cons (pe_lc (own := [("late", 2)]) (g := (gName 2)) (tt := tYes) rfl sc__are_late.nd (pi_tup (pv 1)) (blkOk_by (N := N__are_late) (sc := defScope s__are_late) (by decide +kernel)) (fun _ _ _ _ _ => (pg_name (i := 2) sc__are_late.nd rfl (Or.inl rfl))) (fun _ _ _ _ _ => pts_nil) (fun _ _ _ _ _ => (pe_call G__is_late (hr.mono (by decide)) rfl g__is_late k__is_late b__is_late .nil pass0 (pa_cons (pv 0) (pa_cons (pv 2) pa_nil))))) pa_nil))))))) (pss_one (ps_ret pe_bl)) pss_nil)
      (pss_one (ps_ret (pe_call G_is_ascending (hr.mono (by decide)) rfl g_is_ascending k_is_ascending b_is_ascending .nil pass0 (pa_cons (pv 1) pa_nil))))), ok_body (Z := ⟨K, κ⟩) (O := []) (js_seq (js_if (jb_or (jb_not (jb_B (j_cb c_isi (ja_consW (JD.w (j_var nin)) (ja_cons j_ty ja_nil))))) (jb_not (jb_B (j_cb c_all (ja_consW (JD.w (j_lc (ji_tup xCo (j_var nin)) (jg_name nin (fun w e => by cases e; decide)) jb_yes (j_callV via_id (ja_cons (j_var nin) (ja_cons (j_var nin) ja_nil)) (len_cons (len_cons (fun _ _ _ _ h => len_nil h)))))) ja_nil))))) (js_ret (JD.w j_bl)) js_next)
      (js_ret (JD.w (j_callV via_id (ja_cons (j_var nin) ja_nil) (len_cons (fun _ _ _ _ h => len_nil h)))))) (fun _ m => absurd m List.not_mem_nil) h⟩)
theorem ok__is_top {f : Addr} {fd : FuncData} (F : Fun K "_is_top" "_is_top" s__is_top f fd) (T : TxD2 mg) (cL_is_between : Cal P w K mg base 2 "is_between" P_is_between (spD ⟨K, κ⟩ 3 L_is_between)) (CT_World : ClsI K mg ⟨K, κ⟩ "World" "World" ["narrow", "wide", "columns", "programs"]) (CT_Kind : ClsI K mg ⟨K, κ⟩ "Kind" "Kind" ["low", "high", "size"]) : FnOk P w K mg base CX0 3 f fd P__is_top (spD ⟨K, κ⟩ 3 L__is_top) := by
  obtain ⟨f_is_between, fd_is_between, G_is_between, b_is_between, g_is_between, k_is_between⟩ := cL_is_between
  exact F.ok sc__is_top (fun vs H Q E h => h.1) (fun cdv A outer s H vs Q E hr h => ⟨_, (pss_cons (ps_if (pt_cmpR op_eq (pv 1) pe_str (nomark _)) (pss_one (ps_ret (pe_call G_is_between (hr.mono (by decide)) rfl g_is_between k_is_between b_is_between .nil pass0 (pa_cons (pv 2) (pa_cons (pe_fld (pe_fld (pv 0) rfl) rfl) (pa_cons (pe_fld (pe_fld (pv 0) rfl) rfl) pa_nil)))))) pss_nil)
      (pss_one (ps_ret (pe_call G_is_between (hr.mono (by decide)) rfl g_is_between k_is_between b_is_between .nil pass0 (pa_cons (pv 2) (pa_cons (pe_op op_add (pe_fld (pe_fld (pv 0) rfl) rfl) pe_int) (pa_cons (pe_fld (pe_fld (pv 0) rfl) rfl) pa_nil))))))), ok_body (Z := ⟨K, κ⟩) (O := []) (js_seq (js_if (jb_test (j_op upD r_eq (j_var nin) j_str)) (js_ret (JD.w (j_callV via_id (ja_cons (j_var nin) (ja_cons (j_fldI CT_Kind.t (.head _) (j_fldI CT_World.t (.head _) (j_var nin))) (ja_cons (j_fldI CT_Kind.t (.tail _ (.head _)) (j_fldI CT_World.t (.head _) (j_var nin))) ja_nil))) (len_cons (len_cons (len_cons (fun _ _ _ _ h => len_nil h))))))) js_next)
      (js_ret (JD.w (j_callV via_id (ja_cons (j_var nin) (ja_cons (j_op upD r_add (j_fldI CT_Kind.t (.tail _ (.head _)) (j_fldI CT_World.t (.head _) (j_var nin))) j_int) (ja_cons (j_fldI CT_Kind.t (.tail _ (.head _)) (j_fldI CT_World.t (.tail _ (.head _)) (j_var nin))) ja_nil))) (len_cons (len_cons (len_cons (fun _ _ _ _ h => len_nil h)))))))) (fun _ m => absurd m List.not_mem_nil) h⟩)
theorem ok_is_mark {f : Addr} {fd : FuncData} (F : Fun K "is_mark" "is_mark" s_is_mark f fd) (T : TxD2 mg) (GT_MEANT : GTup K mg "MEANT" a_MEANT ["small", "great"]) (GT_NARROW_WORDS : GTup K mg "NARROW_WORDS" a_NARROW_WORDS ["none", "same", "cut", "old"]) (GT_WIDE_WORDS : GTup K mg "WIDE_WORDS" a_WIDE_WORDS ["none", "same", "cut", "old", "far"]) (GT_VISITS : GTup K mg "VISITS" a_VISITS ["ahead", "seen", ""]) (cL_is_tuple_of : Cal P w K mg base 1 "is_tuple_of" P_is_tuple_of (spD ⟨K, κ⟩ 3 L_is_tuple_of)) (cL__is_top : Cal P w K mg base 3 "_is_top" P__is_top (spD ⟨K, κ⟩ 3 L__is_top)) (cL__are_late : Cal P w K mg base 4 "_are_late" P__are_late (spD ⟨K, κ⟩ 2 L__are_late)) : FnOk P w K mg base CX0 5 f fd P_is_mark (spD ⟨K, κ⟩ 2 L_is_mark) := by
  obtain ⟨f_is_tuple_of, fd_is_tuple_of, G_is_tuple_of, b_is_tuple_of, g_is_tuple_of, k_is_tuple_of⟩ := cL_is_tuple_of
  obtain ⟨f__is_top, fd__is_top, G__is_top, b__is_top, g__is_top, k__is_top⟩ := cL__is_top
  obtain ⟨f__are_late, fd__are_late, G__are_late, b__are_late, g__are_late, k__are_late⟩ := cL__are_late
  exact F.ok sc_is_mark (fun vs H Q E h => h.1) (fun cdv A outer s H vs Q E hr h => ⟨_, (pss_cons (ps_if (pt_not (pt_val (pe_call G_is_tuple_of (hr.mono (by decide)) rfl g_is_tuple_of k_is_tuple_of b_is_tuple_of .nil pass0 (pa_cons (pv 1) (pa_cons pe_int (pa_cons pe_int pa_nil)))))) (pss_one (ps_ret pe_bl)) pss_nil)
      (pss_cons (ps_asg (pv 1) (pg_tup rfl (pgs_cons (pg_name (i := 2) sc_is_mark.nd rfl (Or.inl rfl)) (pgs_cons (pg_name (i := 3) sc_is_mark.nd rfl (Or.inl rfl)) (pgs_cons (pg_name (i := 4) sc_is_mark.nd rfl (Or.inl rfl)) (pgs_cons (pg_name (i := 5) sc_is_mark.nd rfl (Or.inl rfl)) (pgs_cons (pg_name (i := 6) sc_is_mark.nd rfl (Or.inl rfl)) (pgs_cons (pg_name (i := 7) sc_is_mark.nd rfl (Or.inl rfl)) pgs_nil))))))))
      (pss_cons (ps_if (PW.pt (pw_or (pt_cmpR (op_inS (neg := true) (Z := ⟨K, κ⟩) (hu70 hr) rfl) (pv 2) (pe_glob (v := .ref a_MEANT) rfl GT_MEANT.g rfl) rfl) (pw_or (pt_cmpR (op_inS (neg := true) (Z := ⟨K, κ⟩) (hu70 hr) rfl) (pv 4) (pe_glob (v := .ref a_NARROW_WORDS) rfl GT_NARROW_WORDS.g rfl) rfl) (pw_or (pt_cmpR (op_inS (neg := true) (Z := ⟨K, κ⟩) (hu70 hr) rfl) (pv 5) (pe_glob (v := .ref a_WIDE_WORDS) rfl GT_WIDE_WORDS.g rfl) rfl) (pw_or1 (pt_cmpR (op_inS (neg := true) (Z := ⟨K, κ⟩) (hu70 hr) rfl) (pv 7) (pe_glob (v := .ref a_VISITS) rfl GT_VISITS.g rfl) rfl)))))) (pss_one (ps_ret pe_bl)) pss_nil)
      (pss_cons (ps_if (PW.pt (pw_or (pt_not (pt_val (pe_call G__is_top (hr.mono (by decide)) rfl g__is_top k__is_top b__is_top .nil pass0 (pa_cons (pv 0) (pa_cons (pv 2) (pa_cons (pv 3) pa_nil)))))) (pw_or1 (pt_not (pt_val (pe_call G__are_late (hr.mono (by decide)) rfl g__are_late k__are_late b__are_late .nil pass0 (pa_cons (pv 0) (pa_cons (pv 6) pa_nil)))))))) (pss_one (ps_ret pe_bl)) pss_nil)
      (pss_cons (ps_if (pt_cmpR op_eq (pv 2) pe_str (nomark _)) (pss_one (ps_ret (pe_cmpR op_ne (pv 4) pe_str (nomark _)))) pss_nil)
      (pss_one (ps_ret (pe_and (pe_cmpR (op_inS (neg := true) (Z := ⟨K, κ⟩) (hu70 hr) rfl) pe_str (pe_tup (pa_cons (pv 4) (pa_cons (pv 5) pa_nil))) rfl) (pe_one (pe_cmpR (op_inS (neg := true) (Z := ⟨K, κ⟩) (hu70 hr) rfl) pe_str (pe_lc (own := [("_", 8), ("word", 9)]) (g := (gTup _ 3 (gCons (gName 8) (gCons (gName 8) (gCons (gName 9) gNil))))) (tt := tYes) rfl sc_is_mark.nd (pi_tup (pv 6)) (blkOk_by (N := N_is_mark) (sc := defScope s_is_mark) (by decide +kernel)) (fun _ _ _ _ _ => (pg_tup rfl (pgs_cons (pg_name (i := 8) sc_is_mark.nd rfl (Or.inl rfl)) (pgs_cons (pg_name (i := 8) sc_is_mark.nd rfl (Or.inl rfl)) (pgs_cons (pg_name (i := 9) sc_is_mark.nd rfl (Or.inl rfl)) pgs_nil))))) (fun _ _ _ _ _ => pts_nil) (fun _ _ _ _ _ => (pv 9))) rfl)))))))))), ok_body (Z := ⟨K, κ⟩) (O := []) (js_seq (js_if (jb_not (jb_B (j_callV via_id (ja_cons (j_var nin) (ja_cons j_int (ja_cons j_int ja_nil))) (len_cons (len_cons (len_cons (fun _ _ _ _ h => len_nil h))))))) (js_ret (JD.w j_bl)) js_next)
      (js_seq (js_asg (j_var nin) (jg_tup (jg_cons (jg_name nin nofun) (jg_cons (jg_name nin nofun) (jg_cons (jg_name nin nofun) (jg_cons (jg_name nin nofun) (jg_cons (jg_name nin nofun) (jg_cons (jg_name nin nofun) jg_nil))))))))
      (js_seq (js_if (jb_or (jb_test (j_op upD (r_inS (neg := true)) (j_var nin) (JD.w (j_c GT_MEANT.isD)))) (jb_or (jb_test (j_op upD (r_inS (neg := true)) (j_var nin) (JD.w (j_c GT_NARROW_WORDS.isD)))) (jb_or (jb_test (j_op upD (r_inS (neg := true)) (j_var nin) (JD.w (j_c GT_WIDE_WORDS.isD)))) (jb_test (j_op upD (r_inS (neg := true)) (j_var nin) (JD.w (j_c GT_VISITS.isD))))))) (js_ret (JD.w j_bl)) js_next)
      (js_seq (js_if (jb_or (jb_not (jb_B (j_callV via_id (ja_cons (j_var nin) (ja_cons (j_var nin) (ja_cons (j_var nin) ja_nil))) (len_cons (len_cons (len_cons (fun _ _ _ _ h => len_nil h))))))) (jb_not (jb_B (j_callV via_id (ja_cons (j_var nin) (ja_cons (j_var nin) ja_nil)) (len_cons (len_cons (fun _ _ _ _ h => len_nil h))))))) (js_ret (JD.w j_bl)) js_next)
      (js_seq (js_if (jb_test (j_op upD r_eq (j_var nin) j_str)) (js_ret (JD.w (j_op upD r_ne (j_var nin) j_str))) js_next)
      (js_ret (JD.w (j_andV (j_op upD (r_inS (neg := true)) j_str (JD.w (j_tup (ja_cons (j_var nin) (ja_cons (j_var nin) ja_nil))))) (j_op upD (r_inS (neg := true)) j_str (JD.w (j_lc (ji_tup xCo (j_var nin)) (jg_tup (jg_cons (jg_name nin (fun w e => by cases e; decide)) (jg_cons (jg_name nin (fun w e => by cases e; decide)) (jg_cons (jg_name nin (fun w e => by cases e; decide)) jg_nil)))) jb_yes (j_var nin)))))))))))) (fun _ m => absurd m List.not_mem_nil) h⟩)
theorem ok__law_in_order {f : Addr} {fd : FuncData} (F : Fun K "_law_in_order" "_law_in_order" s__law_in_order f fd) (T : TxD2 mg) : FnOk P w K mg base CX0 1 f fd P__law_in_order (spD ⟨K, κ⟩ 1 L__law_in_order) := by
  exact F.ok sc__law_in_order (fun vs H Q E h => h.1) (fun cdv A outer s H vs Q E hr h => ⟨_, (pss_cons (ps_set (i := 1) sc__law_in_order.nd rfl (Or.inl rfl) (pe_lst pa_nil))
      (pss_cons (ps_for PassesOwn.never rfl (pi_list (pv 0)) (pg_name (i := 2) sc__law_in_order.nd rfl (Or.inr rfl)) (pss_cons (ps_set (i := 3) sc__law_in_order.nd rfl (Or.inl rfl) (pe_callB call_len_seq (by rfl) T.n_len (by decide +kernel) (pa_cons (pe_lc (own := [("_law_one", 4)]) (g := (gName 4))  rfl sc__law_in_order.nd (pi_list (pv 1)) (blkOk_by (N := N__law_in_order) (sc := defScope s__law_in_order) (by decide +kernel)) (fun _ _ _ _ _ => (pg_name (i := 4) sc__law_in_order.nd rfl (Or.inl rfl))) (fun _ _ _ _ _ => (pts_one (pt_cmpR (op_ltD (K := K) (hu64 hr)) (pv 4) (pv 2) (nomark _)))) (fun _ _ _ _ _ => (pv 4))) pa_nil)))
      (pss_one (ps_set (i := 1) sc__law_in_order.nd rfl (Or.inl rfl) (pe_ifExp (pt_cmpR (op_inDD (K := K) (hu70 hr)) (pv 2) (pv 1) rfl) (pv 1) (pe_op op_cat (pe_op op_cat (pe_slice sl_list (pv 1) po_none (po_some (pv 3))) (pe_lst (pa_cons (pv 2) pa_nil))) (pe_slice sl_list (pv 1) (po_some (pv 3)) po_none)))))))
      (pss_one (ps_ret (pv 1))))), ok_body (Z := ⟨K, κ⟩) (O := []) (js_seq (js_asg (j_lst ja_nil) (jg_name nin nofun))
      (js_seq (js_forLo (j_var nin) (jg_name nin nofun) (js_seq (js_asg (j_cb c_len (ja_consW (JD.w (j_lc (ji_list xCo (j_var nin)) (jg_name nin (fun w e => by cases e; decide)) (jb_test (j_op upD r_ltD (j_var nin) (j_var nin))) (j_var nin))) ja_nil)) (jg_name nin nofun))
      (js_asg (j_if (jb_test (j_op upD (r_in (neg := false)) (j_var nin) (JD.w (j_var nin)))) (j_var nin) (j_op upW r_catL (JD.w (j_op upW r_catL (JD.w (j_slL (JD.w (j_var nin)) jo_none (jo_some (j_var nin)))) (JD.w (j_lst (ja_cons (j_var nin) ja_nil))))) (JD.w (j_slL (JD.w (j_var nin)) (jo_some (j_var nin)) jo_none)))) (jg_name nin nofun))))
      (js_ret (JD.w (j_var nin))))) (fun _ m => absurd m List.not_mem_nil) h⟩)
theorem ok__law_made {f : Addr} {fd : FuncData} (F : Fun K "_law_made" "_law_made" s__law_made f fd) (T : TxD2 mg) (cL_World___init__ : MkI P w K mg base ⟨K, κ⟩ 7 "World" "World" P_World___init__ (spD ⟨K, κ⟩ 5 L_World___init__)) (cL_Kind___init__ : MkI P w K mg base ⟨K, κ⟩ 2 "Kind" "Kind" P_Kind___init__ (spD ⟨K, κ⟩ 3 L_Kind___init__)) : FnOk P w K mg base CX0 9 f fd P__law_made (spD ⟨K, κ⟩ 1 L__law_made) := by
  obtain ⟨f_World, fd_World, MK_World, G_World, b_World, g_World⟩ := cL_World___init__
  obtain ⟨f_Kind, fd_Kind, MK_Kind, G_Kind, b_Kind, g_Kind⟩ := cL_Kind___init__
  exact F.ok sc__law_made (fun vs H Q E h => h.1) (fun cdv A outer s H vs Q E hr h => ⟨_, (pss_cons (ps_par (i := 1) (j := 2) rfl sc__law_made.nd rfl rfl (by decide) rfl rfl (pa_cons (pe_dget (lt_units hr.units) (pv 0) pe_str (fun _ _ => rfl)) (pa_cons (pe_dget (lt_units hr.units) (pv 0) pe_str (fun _ _ => rfl)) pa_nil)) (by rfl))
      (pss_one (ps_ret (pe_make MK_World G_World (hr.mono (by decide)) rfl g_World b_World .nil pass0 (pa_cons (pe_make MK_Kind G_Kind (hr.mono (by decide)) rfl g_Kind b_Kind .nil pass0 (pa_cons (pe_ix ix_tup (pv 1) pe_int (fun _ _ => rfl)) (pa_cons (pe_ix ix_tup (pv 1) pe_int (fun _ _ => rfl)) pa_nil))) (pa_cons (pe_make MK_Kind G_Kind (hr.mono (by decide)) rfl g_Kind b_Kind .nil pass0 (pa_cons (pe_ix ix_tup (pv 2) pe_int (fun _ _ => rfl)) (pa_cons (pe_ix ix_tup (pv 2) pe_int (fun _ _ => rfl)) pa_nil))) (pa_cons (pe_dget (lt_units hr.units) (pv 0) pe_str (fun _ _ => rfl)) (pa_cons (pe_dget (lt_units hr.units) (pv 0) pe_str (fun _ _ => rfl)) pa_nil)))))))), ok_body (Z := ⟨K, κ⟩) (O := []) (js_seq (js_par nin nin (ja_cons (j_dget (JD.w (j_var nin)) j_str) (ja_cons (j_dget (JD.w (j_var nin)) j_str) ja_nil)))
      (js_ret (JD.w (j_makeV mk_F (ja_cons (j_makeV mk_F (ja_cons (j_op upD r_ixT (j_var nin) j_int) (ja_cons (j_op upD r_ixT (j_var nin) j_int) ja_nil)) (len_cons (len_cons (fun _ _ _ _ h => len_nil h)))) (ja_cons (j_makeV mk_F (ja_cons (j_op upD r_ixT (j_var nin) j_int) (ja_cons (j_op upD r_ixT (j_var nin) j_int) ja_nil)) (len_cons (len_cons (fun _ _ _ _ h => len_nil h)))) (ja_cons (j_dget (JD.w (j_var nin)) j_str) (ja_cons (j_dget (JD.w (j_var nin)) j_str) ja_nil)))) (len_cons (len_cons (len_cons (len_cons (fun _ _ _ _ h => len_nil h))))))))) (fun _ m => absurd m List.not_mem_nil) h⟩)
theorem ok__law_late_world {f : Addr} {fd : FuncData} (F : Fun K "_law_late_world" "_law_late_world" s__law_late_world f fd) (T : TxD2 mg) (cL__law_of : Cal P w K mg base 2 "_law_of" P__law_of (spD ⟨K, κ⟩ 2 L__law_of)) (cL__law_take : Cal P w K mg base 1 "_law_take" P__law_take (spD ⟨K, κ⟩ 2 L__law_take)) : FnOk P w K mg base CX0 3 f fd P__law_late_world (spD ⟨K, κ⟩ 1 L__law_late_world) := by
  obtain ⟨f__law_of, fd__law_of, G__law_of, b__law_of, g__law_of, k__law_of⟩ := cL__law_of
  obtain ⟨f__law_take, fd__law_take, G__law_take, b__law_take, g__law_take, k__law_take⟩ := cL__law_take
  exact F.ok sc__law_late_world (fun vs H Q E h => h.1) (fun cdv A outer s H vs Q E hr h => ⟨_, (pss_cons (ps_asg (pe_call G__law_of (hr.mono (by decide)) rfl g__law_of k__law_of b__law_of .nil pass0 (pa_cons (pv 0) (pa_cons (pe_lst (pa_cons (pe_tup (pa_cons (pe_tup (pa_cons pe_int (pa_cons pe_int pa_nil))) (pa_cons (pe_tup (pa_cons pe_int (pa_cons pe_int pa_nil))) pa_nil))) (pa_cons (pe_tup (pa_cons (pe_tup (pa_cons pe_int (pa_cons pe_int pa_nil))) (pa_cons (pe_tup (pa_cons pe_int (pa_cons pe_int pa_nil))) pa_nil))) (pa_cons (pe_tup (pa_cons (pe_tup (pa_cons (pe_un un_neg pe_int) (pa_cons pe_int pa_nil))) (pa_cons (pe_tup (pa_cons (pe_un un_neg pe_int) (pa_cons pe_int pa_nil))) pa_nil))) pa_nil)))) pa_nil))) (pg_tup rfl (pgs_cons (pg_name (i := 1) sc__law_late_world.nd rfl (Or.inl rfl)) (pgs_cons (pg_name (i := 2) sc__law_late_world.nd rfl (Or.inl rfl)) pgs_nil))))
      (pss_cons (ps_set (i := 3) sc__law_late_world.nd rfl (Or.inl rfl) (pe_tup (pa_cons pe_str (pa_cons (pe_tup (pa_cons (pe_tup (pa_cons pe_str (pa_cons pe_str (pa_cons (pe_tup pa_nil) pa_nil)))) pa_nil)) (pa_cons (pe_tup (pa_cons (pe_tup (pa_cons pe_str (pa_cons pe_str (pa_cons pe_str (pa_cons pe_str (pa_cons pe_int pa_nil)))))) pa_nil)) pa_nil)))))
      (pss_cons (ps_setLc (i := 4) (own := [("_law_how", 6)]) (g := (gName 6)) (tt := tYes) rfl sc__law_late_world.nd rfl rfl (sw_true rfl rfl rfl (by decide +kernel)) (pi_tup (pe_tup (pa_cons pe_str (pa_cons pe_str pa_nil)))) (blkOk_by (N := N__law_late_world) (sc := defScope s__law_late_world) (by decide +kernel)) (fun _ _ _ _ _ => (pg_name (i := 6) sc__law_late_world.nd rfl (Or.inl rfl))) (fun _ _ _ _ _ => pts_nil) (fun _ _ _ _ _ => (pe_tup (pa_cons pe_str (pa_cons (pe_tup (pa_cons (pe_tup (pa_cons pe_str (pa_cons pe_str (pa_cons (pe_tup pa_nil) pa_nil)))) pa_nil)) (pa_cons (pe_tup (pa_cons (pe_tup (pa_cons pe_str (pa_cons (pv 6) (pa_cons pe_str (pa_cons pe_str (pa_cons pe_int pa_nil)))))) pa_nil)) pa_nil))))))
      (pss_cons (ps_if (pt_cmpR op_eq (pe_call G__law_take (hr.mono (by decide)) rfl g__law_take k__law_take b__law_take .nil pass0 (pa_cons (pv 0) (pa_cons pe_int pa_nil))) pe_int (nomark _)) (pss_cons (ps_set (i := 5) sc__law_late_world.nd rfl (Or.inl rfl) (pe_tup (pa_cons (pe_tup (pa_cons pe_str (pa_cons (pe_tup (pa_cons (pv 3) (pa_cons (pe_ix ix_list (pv 4) pe_int (fun _ _ => rfl)) pa_nil))) pa_nil))) (pa_cons (pe_tup (pa_cons pe_str (pa_cons (pe_tup (pa_cons (pv 3) (pa_cons (pv 3) (pa_cons (pe_ix ix_list (pv 4) pe_int (fun _ _ => rfl)) pa_nil)))) pa_nil))) pa_nil))))
      (pss_one (ps_ret (pe_tup (pa_cons (pe_disp (pps_cons pe_str (pv 1) (pps_cons pe_str (pv 2) (pps_cons pe_str (pe_tup (pa_cons pe_str pa_nil)) (pps_cons pe_str (pv 5) pps_nil)))) rfl rfl (by simp) (by decide)) (pa_cons (pe_lst (pa_cons (pe_tup (pa_cons pe_str (pa_cons pe_int pa_nil))) (pa_cons (pe_tup (pa_cons pe_str (pa_cons pe_int pa_nil))) pa_nil))) pa_nil)))))) pss_nil)
      (pss_cons (ps_set (i := 5) sc__law_late_world.nd rfl (Or.inl rfl) (pe_tup (pa_cons (pe_tup (pa_cons pe_str (pa_cons (pe_tup (pa_cons (pv 3) (pa_cons (pe_ix ix_list (pv 4) pe_int (fun _ _ => rfl)) (pa_cons (pe_ix ix_list (pv 4) pe_int (fun _ _ => rfl)) pa_nil)))) pa_nil))) pa_nil)))
      (pss_one (ps_ret (pe_tup (pa_cons (pe_disp (pps_cons pe_str (pv 1) (pps_cons pe_str (pv 2) (pps_cons pe_str (pe_tup (pa_cons pe_str pa_nil)) (pps_cons pe_str (pv 5) pps_nil)))) rfl rfl (by simp) (by decide)) (pa_cons (pe_lst (pa_cons (pe_tup (pa_cons pe_str (pa_cons pe_int pa_nil))) (pa_cons (pe_tup (pa_cons pe_str (pa_cons pe_int pa_nil))) pa_nil))) pa_nil)))))))))), ok_body (Z := ⟨K, κ⟩) (O := []) (js_seq (js_asg (j_callV via_id (ja_cons (j_var nin) (ja_cons (j_lst (ja_cons (j_tup (ja_cons (j_tup (ja_cons j_int (ja_cons j_int ja_nil))) (ja_cons (j_tup (ja_cons j_int (ja_cons j_int ja_nil))) ja_nil))) (ja_cons (j_tup (ja_cons (j_tup (ja_cons j_int (ja_cons j_int ja_nil))) (ja_cons (j_tup (ja_cons j_int (ja_cons j_int ja_nil))) ja_nil))) (ja_cons (j_tup (ja_cons (j_tup (ja_cons (j_un u_neg j_int) (ja_cons j_int ja_nil))) (ja_cons (j_tup (ja_cons (j_un u_neg j_int) (ja_cons j_int ja_nil))) ja_nil))) ja_nil)))) ja_nil)) (len_cons (len_cons (fun _ _ _ _ h => len_nil h)))) (jg_tup (jg_cons (jg_name nin nofun) (jg_cons (jg_name nin nofun) jg_nil))))
      (js_seq (js_asg (j_tup (ja_cons j_str (ja_cons (j_tup (ja_cons (j_tup (ja_cons j_str (ja_cons j_str (ja_cons (j_tup ja_nil) ja_nil)))) ja_nil)) (ja_cons (j_tup (ja_cons (j_tup (ja_cons j_str (ja_cons j_str (ja_cons j_str (ja_cons j_str (ja_cons j_int ja_nil)))))) ja_nil)) ja_nil)))) (jg_name nin nofun))
      (js_seq (js_asg (j_lc (ji_tup xCo (j_tup (ja_cons j_str (ja_cons j_str ja_nil)))) (jg_name nin (fun w e => by cases e; decide)) jb_yes (j_tup (ja_cons j_str (ja_cons (j_tup (ja_cons (j_tup (ja_cons j_str (ja_cons j_str (ja_cons (j_tup ja_nil) ja_nil)))) ja_nil)) (ja_cons (j_tup (ja_cons (j_tup (ja_cons j_str (ja_cons (j_var nin) (ja_cons j_str (ja_cons j_str (ja_cons j_int ja_nil)))))) ja_nil)) ja_nil))))) (jg_name nin nofun))
      (js_seq (js_if (jb_test (j_op upD r_eq (j_callV via_id (ja_cons (j_var nin) (ja_cons j_int ja_nil)) (len_cons (len_cons (fun _ _ _ _ h => len_nil h)))) j_int)) (js_seq (js_asg (j_tup (ja_cons (j_tup (ja_cons j_str (ja_cons (j_tup (ja_cons (j_var nin) (ja_cons (j_op upW r_ixL (JD.w (j_var nin)) j_int) ja_nil))) ja_nil))) (ja_cons (j_tup (ja_cons j_str (ja_cons (j_tup (ja_cons (j_var nin) (ja_cons (j_var nin) (ja_cons (j_op upW r_ixL (JD.w (j_var nin)) j_int) ja_nil)))) ja_nil))) ja_nil))) (jg_name nin nofun))
      (js_ret (JD.w (j_tup (ja_cons (j_disp (.cons j_str (j_var nin) (.cons j_str (j_var nin) (.cons j_str (j_tup (ja_cons j_str ja_nil)) (.cons j_str (j_var nin) .nil))))) (ja_cons (j_lst (ja_cons (j_tup (ja_cons j_str (ja_cons j_int ja_nil))) (ja_cons (j_tup (ja_cons j_str (ja_cons j_int ja_nil))) ja_nil))) ja_nil)))))) js_next)
      (js_seq (js_asg (j_tup (ja_cons (j_tup (ja_cons j_str (ja_cons (j_tup (ja_cons (j_var nin) (ja_cons (j_op upW r_ixL (JD.w (j_var nin)) j_int) (ja_cons (j_op upW r_ixL (JD.w (j_var nin)) j_int) ja_nil)))) ja_nil))) ja_nil)) (jg_name nin nofun))
      (js_ret (JD.w (j_tup (ja_cons (j_disp (.cons j_str (j_var nin) (.cons j_str (j_var nin) (.cons j_str (j_tup (ja_cons j_str ja_nil)) (.cons j_str (j_var nin) .nil))))) (ja_cons (j_lst (ja_cons (j_tup (ja_cons j_str (ja_cons j_int ja_nil))) (ja_cons (j_tup (ja_cons j_str (ja_cons j_int ja_nil))) ja_nil))) ja_nil)))))))))) (fun _ m => absurd m List.not_mem_nil) h⟩)
theorem ok__law_any_mark {f : Addr} {fd : FuncData} (F : Fun K "_law_any_mark" "_law_any_mark" s__law_any_mark f fd) (T : TxD2 mg) (cL__law_of : Cal P w K mg base 2 "_law_of" P__law_of (spD ⟨K, κ⟩ 2 L__law_of)) (cL__law_take : Cal P w K mg base 1 "_law_take" P__law_take (spD ⟨K, κ⟩ 2 L__law_take)) (cL__law_in_order : Cal P w K mg base 1 "_law_in_order" P__law_in_order (spD ⟨K, κ⟩ 1 L__law_in_order)) : FnOk P w K mg base CX0 3 f fd P__law_any_mark (spD ⟨K, κ⟩ 3 L__law_any_mark) := by
  obtain ⟨f__law_of, fd__law_of, G__law_of, b__law_of, g__law_of, k__law_of⟩ := cL__law_of
  obtain ⟨f__law_take, fd__law_take, G__law_take, b__law_take, g__law_take, k__law_take⟩ := cL__law_take
  obtain ⟨f__law_in_order, fd__law_in_order, G__law_in_order, b__law_in_order, g__law_in_order, k__law_in_order⟩ := cL__law_in_order
  exact F.ok sc__law_any_mark (fun vs H Q E h => h.1) (fun cdv A outer s H vs Q E hr h => ⟨_, (pss_cons (ps_asg (pe_tup (pa_cons (pe_call G__law_of (hr.mono (by decide)) rfl g__law_of k__law_of b__law_of .nil pass0 (pa_cons (pv 0) (pa_cons (pe_lst (pa_cons pe_str (pa_cons pe_str pa_nil))) pa_nil))) (pa_cons (pe_dget (lt_units hr.units) (pv 1) pe_str (fun _ _ => rfl)) (pa_cons (pe_ix ix_tup (pe_dget (lt_units hr.units) (pv 1) pe_str (fun _ _ => rfl)) pe_int (fun _ _ => rfl)) pa_nil)))) (pg_tup rfl (pgs_cons (pg_name (i := 3) sc__law_any_mark.nd rfl (Or.inl rfl)) (pgs_cons (pg_tup rfl (pgs_cons (pg_name (i := 4) sc__law_any_mark.nd rfl (Or.inl rfl)) (pgs_cons (pg_name (i := 5) sc__law_any_mark.nd rfl (Or.inl rfl)) pgs_nil))) (pgs_cons (pg_name (i := 6) sc__law_any_mark.nd rfl (Or.inl rfl)) pgs_nil)))))
      (pss_cons (ps_set (i := 7) sc__law_any_mark.nd rfl (Or.inl rfl) (pe_ifExp (pt_cmpR op_eq (pv 3) pe_str (nomark _)) (pe_call G__law_of (hr.mono (by decide)) rfl g__law_of k__law_of b__law_of .nil pass0 (pa_cons (pv 0) (pa_cons (pe_lst (pa_cons (pv 4) (pa_cons (pv 5) (pa_cons (pe_op op_add (pv 4) pe_int) pa_nil)))) pa_nil))) (pe_call G__law_of (hr.mono (by decide)) rfl g__law_of k__law_of b__law_of .nil pass0 (pa_cons (pv 0) (pa_cons (pe_lst (pa_cons (pe_op op_add (pv 5) pe_int) (pa_cons (pv 6) (pa_cons (pe_op op_add (pv 5) pe_int) pa_nil)))) pa_nil)))))
      (pss_cons (ps_set (i := 8) sc__law_any_mark.nd rfl (Or.inl rfl) (pe_op op_cat (pe_lst (pa_cons pe_str (pa_cons pe_str (pa_cons pe_str pa_nil)))) (pe_op op_rep (pe_lst (pa_cons pe_str pa_nil)) (pe_callTy call_int1 (by rfl) T.n_int (by decide +kernel) (pa_cons (pe_cmpR op_eq (pv 3) pe_str (nomark _)) pa_nil)))))
      (pss_cons (ps_set (i := 9) sc__law_any_mark.nd rfl (Or.inl rfl) (pe_lst pa_nil))
      (pss_cons (ps_for PassesOwn.never rfl (pi_list (pv 2)) (pg_name (i := 10) sc__law_any_mark.nd rfl (Or.inr rfl)) (pss_one (ps_expr (pe_bm PySem.F.plainAttrs_list PySem.F.slot_list_extend PySem.F.type_list_extend mt_extend (pv 9) (pa_cons (pe_lc (own := [("_law_word", 14)]) (g := (gName 14))  rfl sc__law_any_mark.nd (pi_list (pv 8)) (blkOk_by (N := N__law_any_mark) (sc := defScope s__law_any_mark) (by decide +kernel)) (fun _ _ _ _ _ => (pg_name (i := 14) sc__law_any_mark.nd rfl (Or.inl rfl))) (fun _ _ _ _ _ => (pts_one (pt_cmpR op_eq (pe_call G__law_take (hr.mono (by decide)) rfl g__law_take k__law_take b__law_take .nil pass0 (pa_cons (pv 0) (pa_cons pe_int pa_nil))) pe_int (nomark _)))) (fun _ _ _ _ _ => (pe_op op_catA (pv 10) (pe_tup (pa_cons (pv 14) pa_nil))))) pa_nil)))))
      (pss_cons (ps_set (i := 11) sc__law_any_mark.nd rfl (Or.inl rfl) (pe_call G__law_of (hr.mono (by decide)) rfl g__law_of k__law_of b__law_of .nil pass0 (pa_cons (pv 0) (pa_cons (pe_lst (pa_cons pe_str (pa_cons pe_str (pa_cons (pe_ifExp (pt_cmpR op_eq (pv 3) pe_str (nomark _)) pe_str pe_str) pa_nil)))) pa_nil))))
      (pss_cons (ps_par (i := 12) (j := 13) rfl sc__law_any_mark.nd rfl rfl (by decide) rfl rfl (pa_cons (pe_call G__law_of (hr.mono (by decide)) rfl g__law_of k__law_of b__law_of .nil pass0 (pa_cons (pv 0) (pa_cons (pe_op op_cat (pe_lst (pa_cons pe_str pa_nil)) (pv 8)) pa_nil))) (pa_cons (pe_call G__law_of (hr.mono (by decide)) rfl g__law_of k__law_of b__law_of .nil pass0 (pa_cons (pv 0) (pa_cons (pe_lst (pa_cons pe_str (pa_cons pe_str (pa_cons pe_str pa_nil)))) pa_nil))) pa_nil)) (by rfl))
      (pss_one (ps_ret (pe_tup (pa_cons (pv 3) (pa_cons (pv 7) (pa_cons (pv 11) (pa_cons (pv 12) (pa_cons (pe_callTy call_tuple_of (by rfl) T.n_tuple (by decide +kernel) (pa_cons (pe_call G__law_in_order (hr.mono (by decide)) rfl g__law_in_order k__law_in_order b__law_in_order .nil pass0 (pa_cons (pv 9) pa_nil)) pa_nil)) (pa_cons (pv 13) pa_nil)))))))))))))))), ok_body (Z := ⟨K, κ⟩) (O := []) (js_seq (js_asg (j_tup (ja_cons (j_callV via_id (ja_cons (j_var nin) (ja_cons (j_lst (ja_cons j_str (ja_cons j_str ja_nil))) ja_nil)) (len_cons (len_cons (fun _ _ _ _ h => len_nil h)))) (ja_cons (j_dget (JD.w (j_var nin)) j_str) (ja_cons (j_op upD r_ixT (j_dget (JD.w (j_var nin)) j_str) j_int) ja_nil)))) (jg_tup (jg_cons (jg_name nin nofun) (jg_cons (jg_tup (jg_cons (jg_name nin nofun) (jg_cons (jg_name nin nofun) jg_nil))) (jg_cons (jg_name nin nofun) jg_nil)))))
      (js_seq (js_asg (j_if (jb_test (j_op upD r_eq (j_var nin) j_str)) (j_callV via_id (ja_cons (j_var nin) (ja_cons (j_lst (ja_cons (j_var nin) (ja_cons (j_var nin) (ja_cons (j_op upD r_add (j_var nin) j_int) ja_nil)))) ja_nil)) (len_cons (len_cons (fun _ _ _ _ h => len_nil h)))) (j_callV via_id (ja_cons (j_var nin) (ja_cons (j_lst (ja_cons (j_op upD r_add (j_var nin) j_int) (ja_cons (j_var nin) (ja_cons (j_op upD r_add (j_var nin) j_int) ja_nil)))) ja_nil)) (len_cons (len_cons (fun _ _ _ _ h => len_nil h))))) (jg_name nin nofun))
      (js_seq (js_asg (j_op upW r_catL (JD.w (j_lst (ja_cons j_str (ja_cons j_str (ja_cons j_str ja_nil))))) (JD.w (j_op upD r_repL (j_lst (ja_cons j_str ja_nil)) (j_cb c_int (ja_cons (j_op upD r_eq (j_var nin) j_str) ja_nil))))) (jg_name nin nofun))
      (js_seq (js_asg (j_newLo (jf_lst ja_nil)) (jg_name nin nofun))
      (js_seq (js_for (ji_list xS (j_var nin)) (jg_name nin nofun) (js_extLo (j_var nin) (ja_cons (j_lc (ji_list xCo (j_var nin)) (jg_name nin (fun w e => by cases e; decide)) (jb_test (j_op upD r_eq (j_callV via_id (ja_cons (j_var nin) (ja_cons j_int ja_nil)) (len_cons (len_cons (fun _ _ _ _ h => len_nil h)))) j_int)) (j_op upD r_catT (j_var nin) (j_tup (ja_cons (j_var nin) ja_nil)))) ja_nil)))
      (js_seq (js_asg (j_callV via_id (ja_cons (j_var nin) (ja_cons (j_lst (ja_cons j_str (ja_cons j_str (ja_cons (j_if (jb_test (j_op upD r_eq (j_var nin) j_str)) j_str j_str) ja_nil)))) ja_nil)) (len_cons (len_cons (fun _ _ _ _ h => len_nil h)))) (jg_name nin nofun))
      (js_seq (js_par nin nin (ja_cons (j_callV via_id (ja_cons (j_var nin) (ja_cons (j_op upW r_catL (JD.w (j_lst (ja_cons j_str ja_nil))) (JD.w (j_var nin))) ja_nil)) (len_cons (len_cons (fun _ _ _ _ h => len_nil h)))) (ja_cons (j_callV via_id (ja_cons (j_var nin) (ja_cons (j_lst (ja_cons j_str (ja_cons j_str (ja_cons j_str ja_nil)))) ja_nil)) (len_cons (len_cons (fun _ _ _ _ h => len_nil h)))) ja_nil)))
      (js_ret (JD.w (j_tup (ja_cons (j_var nin) (ja_cons (j_var nin) (ja_cons (j_var nin) (ja_cons (j_var nin) (ja_cons (j_cb c_tuple (ja_consW (JD.w (j_callV via_id (ja_cons (j_var nin) ja_nil) (len_cons (fun _ _ _ _ h => len_nil h)))) ja_nil)) (ja_cons (j_var nin) ja_nil)))))))))))))))) (fun _ m => absurd m List.not_mem_nil) h⟩)
theorem ok__law_is_own_late {f : Addr} {fd : FuncData} (F : Fun K "_law_is_own_late" "_law_is_own_late" s__law_is_own_late f fd) (T : TxD2 mg) : FnOk P w K mg base CX0 1 f fd P__law_is_own_late (spD ⟨K, κ⟩ 3 L__law_is_own_late) := by
  exact F.ok sc__law_is_own_late (fun vs H Q E h => h.1) (fun cdv A outer s H vs Q E hr h => ⟨_, (pss_cons (ps_if (PW.pt (pw_or (pt_not (pt_val (pe_callB call_isi (by rfl) T.n_isinstance (by decide +kernel) (pa_cons (pv 2) (pa_cons (pe_bltn (v := .ty "tuple") (by rfl) T.n_tuple (by decide +kernel) rfl) pa_nil))))) (pw_or (pt_cmpR op_ne (pe_callB call_len_seq (by rfl) T.n_len (by decide +kernel) (pa_cons (pv 2) pa_nil)) pe_int (nomark _)) (pw_or1 (pt_not (pt_val (pe_callB call_isi (by rfl) T.n_isinstance (by decide +kernel) (pa_cons (pe_ix ix_tup (pv 2) pe_int (fun _ _ => rfl)) (pa_cons (pe_bltn (v := .ty "str") (by rfl) T.n_str (by decide +kernel) rfl) pa_nil))))))))) (pss_one (ps_ret pe_bl)) pss_nil)
      (pss_cons (ps_asg (pv 2) (pg_tup rfl (pgs_cons (pg_name (i := 3) sc__law_is_own_late.nd rfl (Or.inl rfl)) (pgs_cons (pg_name (i := 4) sc__law_is_own_late.nd rfl (Or.inl rfl)) (pgs_cons (pg_name (i := 5) sc__law_is_own_late.nd rfl (Or.inl rfl)) pgs_nil)))))
      (pss_cons (ps_set (i := 6) sc__law_is_own_late.nd rfl (Or.inl rfl) (pe_callTy (call_dictT rfl) (by rfl) T.n_dict (by decide +kernel) (pa_cons (pe_dget (lt_units hr.units) (pv 0) pe_str (fun _ _ => rfl)) pa_nil)))
      (pss_cons (ps_if (PW.pt (pw_or (pt_cmp (pc_dnotin (lt_units hr.units) (pv 3) (pv 6))) (pw_or (pt_not (pt_val (pe_callB call_isi (by rfl) T.n_isinstance (by decide +kernel) (pa_cons (pv 4) (pa_cons (pe_bltn (v := .ty "int") (by rfl) T.n_int (by decide +kernel) rfl) pa_nil))))) (pw_or (pt_val (pe_callB call_isi (by rfl) T.n_isinstance (by decide +kernel) (pa_cons (pv 4) (pa_cons (pe_bltn (v := .ty "bool") (by rfl) T.n_bool (by decide +kernel) rfl) pa_nil)))) (pw_or1 (pt_not (pt_val (pe_callB call_isi (by rfl) T.n_isinstance (by decide +kernel) (pa_cons (pv 5) (pa_cons (pe_bltn (v := .ty "str") (by rfl) T.n_str (by decide +kernel) rfl) pa_nil)))))))))) (pss_one (ps_ret pe_bl)) pss_nil)
      (pss_cons (ps_if (PW.pt (pw_or (pt_not (pt_chain op_le op_lt pe_int (pv 4) (pe_callB call_len_seq (by rfl) T.n_len (by decide +kernel) (pa_cons (pe_dget (lt_units hr.units) (pv 6) (pv 3) (fun _ _ => rfl)) pa_nil)))) (pw_or1 (pt_cmpR (op_inS (neg := true) (Z := ⟨K, κ⟩) (hu70 hr) rfl) (pv 5) (pe_op op_catA (pe_tup (pa_cons pe_str (pa_cons pe_str (pa_cons pe_str pa_nil)))) (pe_op op_repB (pe_tup (pa_cons pe_str pa_nil)) (pe_callTy call_int1 (by rfl) T.n_int (by decide +kernel) (pa_cons (pe_cmpR op_eq (pv 1) pe_str (nomark _)) pa_nil)))) rfl)))) (pss_one (ps_ret pe_bl)) pss_nil)
      (pss_one (ps_ret (pe_callB (cr_any rfl) (by rfl) T.n_any (by decide +kernel) (pa_cons (pe_lc (own := [("_law_row", 7)]) (g := (gName 7)) (tt := tYes) rfl sc__law_is_own_late.nd (pi_tup (pe_ix ix_tup (pe_ix ix_tup (pe_dget (lt_units hr.units) (pv 6) (pv 3) (fun _ _ => rfl)) (pv 4) (fun _ _ => rfl)) pe_int (fun _ _ => rfl))) (blkOk_by (N := N__law_is_own_late) (sc := defScope s__law_is_own_late) (by decide +kernel)) (fun _ _ _ _ _ => (pg_name (i := 7) sc__law_is_own_late.nd rfl (Or.inl rfl))) (fun _ _ _ _ _ => pts_nil) (fun _ _ _ _ _ => (pe_cmpR (op_inS (neg := false) (Z := ⟨K, κ⟩) (hu70 hr) rfl) (pe_ix ix_tup (pv 7) pe_int (fun _ _ => rfl)) (pe_tup (pa_cons pe_str (pa_cons pe_str pa_nil))) rfl))) pa_nil))))))))), ok_body (Z := ⟨K, κ⟩) (O := []) (js_seq (js_if (jb_or (jb_not (jb_B (j_cb c_isi (ja_consW (JD.w (j_var nin)) (ja_cons j_ty ja_nil))))) (jb_or (jb_test (j_op upD r_ne (j_cb c_len (ja_consW (JD.w (j_var nin)) ja_nil)) j_int)) (jb_not (jb_B (j_cb c_isi (ja_consW (JD.w (j_op upD r_ixT (j_var nin) j_int)) (ja_cons j_ty ja_nil))))))) (js_ret (JD.w j_bl)) js_next)
      (js_seq (js_asg (j_var nin) (jg_tup (jg_cons (jg_name nin nofun) (jg_cons (jg_name nin nofun) (jg_cons (jg_name nin nofun) jg_nil)))))
      (js_seq (js_asg (j_cb c_dictT (ja_cons (j_dget (JD.w (j_var nin)) j_str) ja_nil)) (jg_name nin nofun))
      (js_seq (js_if (jb_or (jb_B (j_dnotin (j_var nin) (JD.w (j_var nin)))) (jb_or (jb_not (jb_B (j_cb c_isi (ja_consW (JD.w (j_var nin)) (ja_cons j_ty ja_nil))))) (jb_or (jb_B (j_cb c_isi (ja_consW (JD.w (j_var nin)) (ja_cons j_ty ja_nil)))) (jb_not (jb_B (j_cb c_isi (ja_consW (JD.w (j_var nin)) (ja_cons j_ty ja_nil)))))))) (js_ret (JD.w j_bl)) js_next)
      (js_seq (js_if (jb_or (jb_not (jb_test (j_chain r_le r_lt j_int (j_var nin) (j_cb c_len (ja_consW (JD.w (j_dget (JD.w (j_var nin)) (j_var nin))) ja_nil))))) (jb_test (j_op upD (r_inS (neg := true)) (j_var nin) (JD.w (j_op upD r_catT (j_tup (ja_cons j_str (ja_cons j_str (ja_cons j_str ja_nil)))) (j_op upD r_repB (j_tup (ja_cons j_str ja_nil)) (j_cb c_int (ja_cons (j_op upD r_eq (j_var nin) j_str) ja_nil)))))))) (js_ret (JD.w j_bl)) js_next)
      (js_ret (JD.w (j_cb c_any (ja_consW (JD.w (j_lc (ji_tup xCo (j_op upD r_ixT (j_op upD r_ixT (j_dget (JD.w (j_var nin)) (j_var nin)) (j_var nin)) j_int)) (jg_name nin (fun w e => by cases e; decide)) jb_yes (j_op upD (r_inS (neg := false)) (j_op upD r_ixT (j_var nin) j_int) (JD.w (j_tup (ja_cons j_str (ja_cons j_str ja_nil))))))) ja_nil))))))))) (fun _ m => absurd m List.not_mem_nil) h⟩)
theorem ok__law_is_own_mark {f : Addr} {fd : FuncData} (F : Fun K "_law_is_own_mark" "_law_is_own_mark" s__law_is_own_mark f fd) (T : TxD2 mg) (cL__law_is_own_late : Cal P w K mg base 1 "_law_is_own_late" P__law_is_own_late (spD ⟨K, κ⟩ 3 L__law_is_own_late)) : FnOk P w K mg base CX0 2 f fd P__law_is_own_mark (spD ⟨K, κ⟩ 2 L__law_is_own_mark) := by
  obtain ⟨f__law_is_own_late, fd__law_is_own_late, G__law_is_own_late, b__law_is_own_late, g__law_is_own_late, k__law_is_own_late⟩ := cL__law_is_own_late
  exact F.ok sc__law_is_own_mark (fun vs H Q E h => h.1) (fun cdv A outer s H vs Q E hr h => ⟨_, (pss_cons (ps_if (PW.pt (pw_or (pt_not (pt_val (pe_callB call_isi (by rfl) T.n_isinstance (by decide +kernel) (pa_cons (pv 1) (pa_cons (pe_bltn (v := .ty "tuple") (by rfl) T.n_tuple (by decide +kernel) rfl) pa_nil))))) (pw_or (pt_cmpR op_ne (pe_callB call_len_seq (by rfl) T.n_len (by decide +kernel) (pa_cons (pv 1) pa_nil)) pe_int (nomark _)) (pw_or1 (pt_not (pt_val (pe_callB (cr_all rfl) (by rfl) T.n_all (by decide +kernel) (pa_cons (pe_lc (own := [("_law_at", 13)]) (g := (gName 13)) (tt := tYes) rfl sc__law_is_own_mark.nd (pi_tup (pe_tup (pa_cons pe_int (pa_cons pe_int (pa_cons pe_int (pa_cons pe_int pa_nil)))))) (blkOk_by (N := N__law_is_own_mark) (sc := defScope s__law_is_own_mark) (by decide +kernel)) (fun _ _ _ _ _ => (pg_name (i := 13) sc__law_is_own_mark.nd rfl (Or.inl rfl))) (fun _ _ _ _ _ => pts_nil) (fun _ _ _ _ _ => (pe_callB call_isi (by rfl) T.n_isinstance (by decide +kernel) (pa_cons (pe_ix ix_tup (pv 1) (pv 13) (fun _ _ => rfl)) (pa_cons (pe_bltn (v := .ty "str") (by rfl) T.n_str (by decide +kernel) rfl) pa_nil))))) pa_nil)))))))) (pss_one (ps_ret pe_bl)) pss_nil)
      (pss_cons (ps_asg (pv 1) (pg_tup rfl (pgs_cons (pg_name (i := 2) sc__law_is_own_mark.nd rfl (Or.inr rfl)) (pgs_cons (pg_name (i := 3) sc__law_is_own_mark.nd rfl (Or.inl rfl)) (pgs_cons (pg_name (i := 4) sc__law_is_own_mark.nd rfl (Or.inl rfl)) (pgs_cons (pg_name (i := 5) sc__law_is_own_mark.nd rfl (Or.inl rfl)) (pgs_cons (pg_name (i := 6) sc__law_is_own_mark.nd rfl (Or.inl rfl)) (pgs_cons (pg_name (i := 7) sc__law_is_own_mark.nd rfl (Or.inl rfl)) pgs_nil))))))))
      (pss_cons (ps_if (PW.pt (pw_or (pt_cmpR (op_inS (neg := true) (Z := ⟨K, κ⟩) (hu70 hr) rfl) (pv 2) (pe_tup (pa_cons pe_str (pa_cons pe_str pa_nil))) rfl) (pw_or1 (pt_cmpR (op_inS (neg := true) (Z := ⟨K, κ⟩) (hu70 hr) rfl) (pv 7) (pe_tup (pa_cons pe_str (pa_cons pe_str (pa_cons pe_str pa_nil)))) rfl)))) (pss_one (ps_ret pe_bl)) pss_nil)
      (pss_cons (ps_if (PW.pt (pw_or (pt_not (pt_val (pe_callB call_isi (by rfl) T.n_isinstance (by decide +kernel) (pa_cons (pv 3) (pa_cons (pe_bltn (v := .ty "int") (by rfl) T.n_int (by decide +kernel) rfl) pa_nil))))) (pw_or (pt_val (pe_callB call_isi (by rfl) T.n_isinstance (by decide +kernel) (pa_cons (pv 3) (pa_cons (pe_bltn (v := .ty "bool") (by rfl) T.n_bool (by decide +kernel) rfl) pa_nil)))) (pw_or1 (pt_not (pt_val (pe_callB call_isi (by rfl) T.n_isinstance (by decide +kernel) (pa_cons (pv 6) (pa_cons (pe_bltn (v := .ty "tuple") (by rfl) T.n_tuple (by decide +kernel) rfl) pa_nil))))))))) (pss_one (ps_ret pe_bl)) pss_nil)
      (pss_cons (ps_asg (pe_ifExp (pt_cmpR op_eq (pv 2) pe_str (nomark _)) (pe_dget (lt_units hr.units) (pv 0) pe_str (fun _ _ => rfl)) (pe_tup (pa_cons (pe_op op_add (pe_ix ix_tup (pe_dget (lt_units hr.units) (pv 0) pe_str (fun _ _ => rfl)) pe_int (fun _ _ => rfl)) pe_int) (pa_cons (pe_ix ix_tup (pe_dget (lt_units hr.units) (pv 0) pe_str (fun _ _ => rfl)) pe_int (fun _ _ => rfl)) pa_nil)))) (pg_tup rfl (pgs_cons (pg_name (i := 8) sc__law_is_own_mark.nd rfl (Or.inl rfl)) (pgs_cons (pg_name (i := 9) sc__law_is_own_mark.nd rfl (Or.inl rfl)) pgs_nil))))
      (pss_cons (ps_if (PW.pt (pw_or (pt_not (pt_chain op_le op_le (pv 8) (pv 3) (pv 9))) (pw_or1 (pt_not (pt_val (pe_callB (cr_all rfl) (by rfl) T.n_all (by decide +kernel) (pa_cons (pe_lc (own := [("_law_one", 11)]) (g := (gName 11)) (tt := tYes) rfl sc__law_is_own_mark.nd (pi_tup (pv 6)) (blkOk_by (N := N__law_is_own_mark) (sc := defScope s__law_is_own_mark) (by decide +kernel)) (fun _ _ _ _ _ => (pg_name (i := 11) sc__law_is_own_mark.nd rfl (Or.inl rfl))) (fun _ _ _ _ _ => pts_nil) (fun _ _ _ _ _ => (pe_call G__law_is_own_late (hr.mono (by decide)) rfl g__law_is_own_late k__law_is_own_late b__law_is_own_late .nil pass0 (pa_cons (pv 0) (pa_cons (pv 2) (pa_cons (pv 11) pa_nil)))))) pa_nil))))))) (pss_one (ps_ret pe_bl)) pss_nil)
      (pss_cons (ps_if (pt_not (pt_val (pe_callB (cr_all rfl) (by rfl) T.n_all (by decide +kernel) (pa_cons (pe_lc (own := [("_law_one", 11), ("_law_other", 12)]) (g := (gTup _ 2 (gCons (gName 11) (gCons (gName 12) gNil)))) (tt := tYes) rfl sc__law_is_own_mark.nd (pi_zipG rfl T.n_zip (pa_cons (pv 6) (pa_cons (pe_slice sl_tupA (pv 6) (po_some pe_int) po_none) pa_nil))) (blkOk_by (N := N__law_is_own_mark) (sc := defScope s__law_is_own_mark) (by decide +kernel)) (fun _ _ _ _ _ => (pg_tup rfl (pgs_cons (pg_name (i := 11) sc__law_is_own_mark.nd rfl (Or.inl rfl)) (pgs_cons (pg_name (i := 12) sc__law_is_own_mark.nd rfl (Or.inl rfl)) pgs_nil)))) (fun _ _ _ _ _ => pts_nil) (fun _ _ _ _ _ => (pe_cmpR (op_ltD (K := K) (hu64 hr)) (pv 11) (pv 12) (nomark _)))) pa_nil)))) (pss_one (ps_ret pe_bl)) pss_nil)
      (pss_cons (ps_set (i := 10) sc__law_is_own_mark.nd rfl (Or.inl rfl) (pe_ifExp (pt_cmpR op_eq (pv 2) pe_str (nomark _)) (pe_tup (pa_cons pe_str (pa_cons pe_str (pa_cons pe_str pa_nil)))) (pe_tup (pa_cons pe_str (pa_cons pe_str (pa_cons pe_str pa_nil))))))
      (pss_one (ps_ret (pe_and (pe_cmpR (op_inS (neg := false) (Z := ⟨K, κ⟩) (hu70 hr) rfl) (pv 4) (pv 10) rfl) (pe_one (pe_cmpR (op_inS (neg := false) (Z := ⟨K, κ⟩) (hu70 hr) rfl) (pv 5) (pe_op op_catA (pe_tup (pa_cons pe_str (pa_cons pe_str (pa_cons pe_str (pa_cons pe_str pa_nil))))) (pe_op op_repB (pe_tup (pa_cons pe_str pa_nil)) (pe_callTy call_int1 (by rfl) T.n_int (by decide +kernel) (pa_cons (pe_cmpR op_eq (pv 2) pe_str (nomark _)) pa_nil)))) rfl))))))))))))), ok_body (Z := ⟨K, κ⟩) (O := []) (js_seq (js_if (jb_or (jb_not (jb_B (j_cb c_isi (ja_consW (JD.w (j_var nin)) (ja_cons j_ty ja_nil))))) (jb_or (jb_test (j_op upD r_ne (j_cb c_len (ja_consW (JD.w (j_var nin)) ja_nil)) j_int)) (jb_not (jb_B (j_cb c_all (ja_consW (JD.w (j_lc (ji_tup xCo (j_tup (ja_cons j_int (ja_cons j_int (ja_cons j_int (ja_cons j_int ja_nil)))))) (jg_name nin (fun w e => by cases e; decide)) jb_yes (j_cb c_isi (ja_consW (JD.w (j_op upD r_ixT (j_var nin) (j_var nin))) (ja_cons j_ty ja_nil))))) ja_nil)))))) (js_ret (JD.w j_bl)) js_next)
      (js_seq (js_asg (j_var nin) (jg_tup (jg_cons (jg_name nin nofun) (jg_cons (jg_name nin nofun) (jg_cons (jg_name nin nofun) (jg_cons (jg_name nin nofun) (jg_cons (jg_name nin nofun) (jg_cons (jg_name nin nofun) jg_nil))))))))
      (js_seq (js_if (jb_or (jb_test (j_op upD (r_inS (neg := true)) (j_var nin) (JD.w (j_tup (ja_cons j_str (ja_cons j_str ja_nil)))))) (jb_test (j_op upD (r_inS (neg := true)) (j_var nin) (JD.w (j_tup (ja_cons j_str (ja_cons j_str (ja_cons j_str ja_nil)))))))) (js_ret (JD.w j_bl)) js_next)
      (js_seq (js_if (jb_or (jb_not (jb_B (j_cb c_isi (ja_consW (JD.w (j_var nin)) (ja_cons j_ty ja_nil))))) (jb_or (jb_B (j_cb c_isi (ja_consW (JD.w (j_var nin)) (ja_cons j_ty ja_nil)))) (jb_not (jb_B (j_cb c_isi (ja_consW (JD.w (j_var nin)) (ja_cons j_ty ja_nil))))))) (js_ret (JD.w j_bl)) js_next)
      (js_seq (js_asg (j_if (jb_test (j_op upD r_eq (j_var nin) j_str)) (j_dget (JD.w (j_var nin)) j_str) (j_tup (ja_cons (j_op upD r_add (j_op upD r_ixT (j_dget (JD.w (j_var nin)) j_str) j_int) j_int) (ja_cons (j_op upD r_ixT (j_dget (JD.w (j_var nin)) j_str) j_int) ja_nil)))) (jg_tup (jg_cons (jg_name nin nofun) (jg_cons (jg_name nin nofun) jg_nil))))
      (js_seq (js_if (jb_or (jb_not (jb_test (j_chain r_le r_le (j_var nin) (j_var nin) (j_var nin)))) (jb_not (jb_B (j_cb c_all (ja_consW (JD.w (j_lc (ji_tup xCo (j_var nin)) (jg_name nin (fun w e => by cases e; decide)) jb_yes (j_callV via_id (ja_cons (j_var nin) (ja_cons (j_var nin) (ja_cons (j_var nin) ja_nil))) (len_cons (len_cons (len_cons (fun _ _ _ _ h => len_nil h))))))) ja_nil))))) (js_ret (JD.w j_bl)) js_next)
      (js_seq (js_if (jb_not (jb_B (j_cb c_all (ja_consW (JD.w (j_lc (ji_zipG xCo (ja_cons (j_var nin) (ja_cons (j_slT (j_var nin) (jo_some j_int) jo_none) ja_nil))) (jg_tup (jg_cons (jg_name nin (fun w e => by cases e; decide)) (jg_cons (jg_name nin (fun w e => by cases e; decide)) jg_nil))) jb_yes (j_op upD r_ltD (j_var nin) (j_var nin)))) ja_nil)))) (js_ret (JD.w j_bl)) js_next)
      (js_seq (js_asg (j_if (jb_test (j_op upD r_eq (j_var nin) j_str)) (j_tup (ja_cons j_str (ja_cons j_str (ja_cons j_str ja_nil)))) (j_tup (ja_cons j_str (ja_cons j_str (ja_cons j_str ja_nil))))) (jg_name nin nofun))
      (js_ret (JD.w (j_andV (j_op upD (r_inS (neg := false)) (j_var nin) (JD.w (j_var nin))) (j_op upD (r_inS (neg := false)) (j_var nin) (JD.w (j_op upD r_catT (j_tup (ja_cons j_str (ja_cons j_str (ja_cons j_str (ja_cons j_str ja_nil))))) (j_op upD r_repB (j_tup (ja_cons j_str ja_nil)) (j_cb c_int (ja_cons (j_op upD r_eq (j_var nin) j_str) ja_nil))))))))))))))))) (fun _ m => absurd m List.not_mem_nil) h⟩)
theorem ok__law_bent {f : Addr} {fd : FuncData} (F : Fun K "_law_bent" "_law_bent" s__law_bent f fd) (T : TxD2 mg) (cL__law_take : Cal P w K mg base 1 "_law_take" P__law_take (spD ⟨K, κ⟩ 2 L__law_take)) (cL__law_of : Cal P w K mg base 2 "_law_of" P__law_of (spD ⟨K, κ⟩ 2 L__law_of)) : FnOk P w K mg base CX0 3 f fd P__law_bent (spD ⟨K, κ⟩ 4 L__law_bent) := by
  obtain ⟨f__law_take, fd__law_take, G__law_take, b__law_take, g__law_take, k__law_take⟩ := cL__law_take
  obtain ⟨f__law_of, fd__law_of, G__law_of, b__law_of, g__law_of, k__law_of⟩ := cL__law_of
  exact F.ok sc__law_bent (fun vs H Q E h => h.1) (fun cdv A outer s H vs Q E hr h => ⟨_, (pss_cons (ps_asg (pe_tup (pa_cons (pe_call G__law_take (hr.mono (by decide)) rfl g__law_take k__law_take b__law_take .nil pass0 (pa_cons (pv 0) (pa_cons pe_int pa_nil))) (pa_cons (pe_dget (lt_units hr.units) (pv 1) pe_str (fun _ _ => rfl)) (pa_cons (pe_ix ix_tup (pe_dget (lt_units hr.units) (pv 1) pe_str (fun _ _ => rfl)) pe_int (fun _ _ => rfl)) pa_nil)))) (pg_tup rfl (pgs_cons (pg_name (i := 4) sc__law_bent.nd rfl (Or.inl rfl)) (pgs_cons (pg_tup rfl (pgs_cons (pg_name (i := 5) sc__law_bent.nd rfl (Or.inl rfl)) (pgs_cons (pg_name (i := 6) sc__law_bent.nd rfl (Or.inl rfl)) pgs_nil))) (pgs_cons (pg_name (i := 7) sc__law_bent.nd rfl (Or.inl rfl)) pgs_nil)))))
      (pss_cons (ps_asg (pe_call G__law_of (hr.mono (by decide)) rfl g__law_of k__law_of b__law_of .nil pass0 (pa_cons (pv 0) (pa_cons (pv 2) pa_nil))) (pg_tup rfl (pgs_cons (pg_name (i := 8) sc__law_bent.nd rfl (Or.inr rfl)) (pgs_cons (pg_name (i := 9) sc__law_bent.nd rfl (Or.inr rfl)) pgs_nil))))
      (pss_cons (ps_set (i := 10) sc__law_bent.nd rfl (Or.inl rfl) (pe_op op_cat (pe_lc (own := [("_law_word", 16)]) (g := (gName 16)) (tt := tYes) rfl sc__law_bent.nd (pi_tup (pe_tup (pa_cons pe_str (pa_cons pe_str (pa_cons pe_str (pa_cons pe_str (pa_cons pe_non pa_nil))))))) (blkOk_by (N := N__law_bent) (sc := defScope s__law_bent) (by decide +kernel)) (fun _ _ _ _ _ => (pg_name (i := 16) sc__law_bent.nd rfl (Or.inl rfl))) (fun _ _ _ _ _ => pts_nil) (fun _ _ _ _ _ => (pe_tup (pa_cons (pv 8) (pa_cons (pv 9) (pa_cons (pv 16) pa_nil)))))) (pe_lst (pa_cons (pe_tup (pa_cons (pv 8) (pa_cons (pv 9) pa_nil))) pa_nil))))
      (pss_cons (ps_set (i := 10) sc__law_bent.nd rfl (Or.inl rfl) (pe_op op_cat (pv 10) (pe_lst (pa_cons (pe_lst (pa_cons (pv 8) (pa_cons (pv 9) (pa_cons pe_str pa_nil)))) (pa_cons (pe_tup (pa_cons (pv 8) (pa_cons pe_int (pa_cons pe_str pa_nil)))) (pa_cons (pe_tup (pa_cons (pv 8) (pa_cons pe_int (pa_cons pe_str pa_nil)))) (pa_cons (pe_tup (pa_cons pe_str (pa_cons pe_int (pa_cons pe_str pa_nil)))) (pa_cons (pe_tup (pa_cons (pv 8) (pa_cons pe_bl (pa_cons pe_str pa_nil)))) pa_nil))))))))
      (pss_cons (ps_set (i := 11) sc__law_bent.nd rfl (Or.inl rfl) (pe_call G__law_of (hr.mono (by decide)) rfl g__law_of k__law_of b__law_of .nil pass0 (pa_cons (pv 0) (pa_cons (pv 10) pa_nil))))
      (pss_cons (ps_set (i := 12) sc__law_bent.nd rfl (Or.inl rfl) (pe_lst (pa_cons (pe_tup (pa_cons (pv 11) pa_nil)) (pa_cons (pe_op op_catA (pe_ix ix_tup (pv 3) pe_int (fun _ _ => rfl)) (pe_tup (pa_cons (pv 11) pa_nil))) (pa_cons (pe_revT (pe_ix ix_tup (pv 3) pe_int (fun _ _ => rfl))) (pa_cons (pe_op op_catA (pe_ix ix_tup (pv 3) pe_int (fun _ _ => rfl)) (pe_slice sl_tupA (pe_ix ix_tup (pv 3) pe_int (fun _ _ => rfl)) po_none (po_some pe_int))) (pa_cons (pe_callTy call_list_of (by rfl) T.n_list (by decide +kernel) (pa_cons (pe_ix ix_tup (pv 3) pe_int (fun _ _ => rfl)) pa_nil)) (pa_cons pe_non (pa_cons (pe_tup (pa_cons (pv 11) (pa_cons (pv 11) pa_nil))) (pa_cons (pe_tup pa_nil) pa_nil))))))))))
      (pss_cons (ps_set (i := 13) sc__law_bent.nd rfl (Or.inl rfl) (pe_lst (pa_cons (pv 5) (pa_cons (pe_op op_sub (pv 5) pe_int) (pa_cons (pv 6) (pa_cons (pe_op op_add (pv 6) pe_int) (pa_cons (pv 7) (pa_cons (pe_op op_add (pv 7) pe_int) (pa_cons pe_bl (pa_cons pe_non (pa_cons pe_str (pa_cons pe_int pa_nil))))))))))))
      (pss_cons (ps_set (i := 14) sc__law_bent.nd rfl (Or.inl rfl) (pe_lst (pa_cons (pe_lst (pa_cons pe_str (pa_cons pe_str (pa_cons pe_str (pa_cons pe_non (pa_cons pe_bl pa_nil)))))) (pa_cons (pv 13) (pa_cons (pe_lst (pa_cons pe_str (pa_cons pe_str (pa_cons pe_str (pa_cons pe_str (pa_cons pe_str (pa_cons pe_str (pa_cons pe_non pa_nil)))))))) pa_nil)))))
      (pss_cons (ps_set (i := 14) sc__law_bent.nd rfl (Or.inl rfl) (pe_op op_cat (pv 14) (pe_lst (pa_cons (pe_lst (pa_cons pe_str (pa_cons pe_str (pa_cons pe_str (pa_cons pe_str (pa_cons pe_str (pa_cons pe_str (pa_cons pe_int pa_nil)))))))) (pa_cons (pv 12) (pa_cons (pe_lst (pa_cons pe_str (pa_cons pe_str (pa_cons pe_str (pa_cons pe_str (pa_cons pe_non (pa_cons pe_int pa_nil))))))) pa_nil))))))
      (pss_cons (ps_set (i := 15) sc__law_bent.nd rfl (Or.inl rfl) (pe_op op_catA (pe_op op_catA (pe_slice sl_tupA (pv 3) po_none (po_some (pv 4))) (pe_tup (pa_cons (pe_call G__law_of (hr.mono (by decide)) rfl g__law_of k__law_of b__law_of .nil pass0 (pa_cons (pv 0) (pa_cons (pe_ix ix_list (pv 14) (pv 4) (fun _ _ => rfl)) pa_nil))) pa_nil))) (pe_slice sl_tupA (pv 3) (po_some (pe_op op_add (pv 4) pe_int)) po_none)))
      (pss_one (ps_ret (pe_call G__law_of (hr.mono (by decide)) rfl g__law_of k__law_of b__law_of .nil pass0 (pa_cons (pv 0) (pa_cons (pe_lst (pa_cons (pv 15) (pa_cons (pv 15) (pa_cons (pv 15) (pa_cons (pv 15) (pa_cons (pe_callTy call_list_of (by rfl) T.n_list (by decide +kernel) (pa_cons (pv 3) pa_nil)) (pa_cons (pe_slice sl_tupA (pv 3) po_none (po_some pe_int)) (pa_cons (pe_op op_catA (pv 3) (pe_tup (pa_cons pe_str pa_nil))) (pa_cons (pe_tup (pa_cons (pv 3) pa_nil)) (pa_cons pe_non (pa_cons pe_str pa_nil))))))))))) pa_nil))))))))))))))), ok_body (Z := ⟨K, κ⟩) (O := []) (js_seq (js_asg (j_tup (ja_cons (j_callV via_id (ja_cons (j_var nin) (ja_cons j_int ja_nil)) (len_cons (len_cons (fun _ _ _ _ h => len_nil h)))) (ja_cons (j_dget (JD.w (j_var nin)) j_str) (ja_cons (j_op upD r_ixT (j_dget (JD.w (j_var nin)) j_str) j_int) ja_nil)))) (jg_tup (jg_cons (jg_name nin nofun) (jg_cons (jg_tup (jg_cons (jg_name nin nofun) (jg_cons (jg_name nin nofun) jg_nil))) (jg_cons (jg_name nin nofun) jg_nil)))))
      (js_seq (js_asg (j_callV via_id (ja_cons (j_var nin) (ja_cons (j_var nin) ja_nil)) (len_cons (len_cons (fun _ _ _ _ h => len_nil h)))) (jg_tup (jg_cons (jg_name nin nofun) (jg_cons (jg_name nin nofun) jg_nil))))
      (js_seq (js_asg (j_op upW r_catL (JD.w (j_lc (ji_tup xCo (j_tup (ja_cons j_str (ja_cons j_str (ja_cons j_str (ja_cons j_str (ja_cons j_non ja_nil))))))) (jg_name nin (fun w e => by cases e; decide)) jb_yes (j_tup (ja_cons (j_var nin) (ja_cons (j_var nin) (ja_cons (j_var nin) ja_nil)))))) (JD.w (j_lst (ja_cons (j_tup (ja_cons (j_var nin) (ja_cons (j_var nin) ja_nil))) ja_nil)))) (jg_name nin nofun))
      (js_seq (js_asg (j_op upW r_catL (JD.w (j_var nin)) (JD.w (j_lst (ja_cons (j_lst (ja_cons (j_var nin) (ja_cons (j_var nin) (ja_cons j_str ja_nil)))) (ja_cons (j_tup (ja_cons (j_var nin) (ja_cons j_int (ja_cons j_str ja_nil)))) (ja_cons (j_tup (ja_cons (j_var nin) (ja_cons j_int (ja_cons j_str ja_nil)))) (ja_cons (j_tup (ja_cons j_str (ja_cons j_int (ja_cons j_str ja_nil)))) (ja_cons (j_tup (ja_cons (j_var nin) (ja_cons j_bl (ja_cons j_str ja_nil)))) ja_nil)))))))) (jg_name nin nofun))
      (js_seq (js_asg (j_callV via_id (ja_cons (j_var nin) (ja_cons (j_var nin) ja_nil)) (len_cons (len_cons (fun _ _ _ _ h => len_nil h)))) (jg_name nin nofun))
      (js_seq (js_asg (j_lst (ja_cons (j_tup (ja_cons (j_var nin) ja_nil)) (ja_cons (j_op upD r_catT (j_op upD r_ixT (j_var nin) j_int) (j_tup (ja_cons (j_var nin) ja_nil))) (ja_cons (j_revT (j_op upD r_ixT (j_var nin) j_int)) (ja_cons (j_op upD r_catT (j_op upD r_ixT (j_var nin) j_int) (j_slT (j_op upD r_ixT (j_var nin) j_int) jo_none (jo_some j_int))) (ja_cons (j_cb c_list (ja_consW (JD.w (j_op upD r_ixT (j_var nin) j_int)) ja_nil)) (ja_cons j_non (ja_cons (j_tup (ja_cons (j_var nin) (ja_cons (j_var nin) ja_nil))) (ja_cons (j_tup ja_nil) ja_nil))))))))) (jg_name nin nofun))
      (js_seq (js_asg (j_lst (ja_cons (j_var nin) (ja_cons (j_op upD r_sub (j_var nin) j_int) (ja_cons (j_var nin) (ja_cons (j_op upD r_add (j_var nin) j_int) (ja_cons (j_var nin) (ja_cons (j_op upD r_add (j_var nin) j_int) (ja_cons j_bl (ja_cons j_non (ja_cons j_str (ja_cons j_int ja_nil))))))))))) (jg_name nin nofun))
      (js_seq (js_asg (j_lst (ja_cons (j_lst (ja_cons j_str (ja_cons j_str (ja_cons j_str (ja_cons j_non (ja_cons j_bl ja_nil)))))) (ja_cons (j_var nin) (ja_cons (j_lst (ja_cons j_str (ja_cons j_str (ja_cons j_str (ja_cons j_str (ja_cons j_str (ja_cons j_str (ja_cons j_non ja_nil)))))))) ja_nil)))) (jg_name nin nofun))
      (js_seq (js_asg (j_op upW r_catL (JD.w (j_var nin)) (JD.w (j_lst (ja_cons (j_lst (ja_cons j_str (ja_cons j_str (ja_cons j_str (ja_cons j_str (ja_cons j_str (ja_cons j_str (ja_cons j_int ja_nil)))))))) (ja_cons (j_var nin) (ja_cons (j_lst (ja_cons j_str (ja_cons j_str (ja_cons j_str (ja_cons j_str (ja_cons j_non (ja_cons j_int ja_nil))))))) ja_nil)))))) (jg_name nin nofun))
      (js_seq (js_asg (j_op upD r_catT (j_op upD r_catT (j_slT (j_var nin) jo_none (jo_some (j_var nin))) (j_tup (ja_cons (j_callV via_id (ja_cons (j_var nin) (ja_cons (j_op upW r_ixL (JD.w (j_var nin)) (j_var nin)) ja_nil)) (len_cons (len_cons (fun _ _ _ _ h => len_nil h)))) ja_nil))) (j_slT (j_var nin) (jo_some (j_op upD r_add (j_var nin) j_int)) jo_none)) (jg_name nin nofun))
      (js_ret (JD.w (j_callV via_id (ja_cons (j_var nin) (ja_cons (j_lst (ja_cons (j_var nin) (ja_cons (j_var nin) (ja_cons (j_var nin) (ja_cons (j_var nin) (ja_cons (j_cb c_list (ja_consW (JD.w (j_var nin)) ja_nil)) (ja_cons (j_slT (j_var nin) jo_none (jo_some j_int)) (ja_cons (j_op upD r_catT (j_var nin) (j_tup (ja_cons j_str ja_nil))) (ja_cons (j_tup (ja_cons (j_var nin) ja_nil)) (ja_cons j_non (ja_cons j_str ja_nil))))))))))) ja_nil)) (len_cons (len_cons (fun _ _ _ _ h => len_nil h)))))))))))))))) (fun _ m => absurd m List.not_mem_nil) h⟩)
theorem ok_law {f : Addr} {fd : FuncData} (F : Fun K "law" "law" s_law f fd) (T : TxD2 mg) (cL__law_pot_of : Cal P w K mg base 1 "_law_pot_of" P__law_pot_of (spD ⟨K, κ⟩ 2 L__law_pot_of)) (cL__law_late_world : Cal P w K mg base 3 "_law_late_world" P__law_late_world (spD ⟨K, κ⟩ 1 L__law_late_world)) (cL__law_made : Cal P w K mg base 9 "_law_made" P__law_made (spD ⟨K, κ⟩ 1 L__law_made)) (cL__law_any_mark : Cal P w K mg base 3 "_law_any_mark" P__law_any_mark (spD ⟨K, κ⟩ 3 L__law_any_mark)) (cL_is_mark : Cal P w K mg base 5 "is_mark" P_is_mark (spD ⟨K, κ⟩ 2 L_is_mark)) (cL__law_is_own_mark : Cal P w K mg base 2 "_law_is_own_mark" P__law_is_own_mark (spD ⟨K, κ⟩ 2 L__law_is_own_mark)) (cL__law_bent : Cal P w K mg base 3 "_law_bent" P__law_bent (spD ⟨K, κ⟩ 4 L__law_bent)) (cL__law_of : Cal P w K mg base 2 "_law_of" P__law_of (spD ⟨K, κ⟩ 2 L__law_of)) : FnG P w K mg base CX0 10 f fd P_law (spD ⟨K, κ⟩ 1 L_law) := by
  obtain ⟨f__law_pot_of, fd__law_pot_of, G__law_pot_of, b__law_pot_of, g__law_pot_of, k__law_pot_of⟩ := cL__law_pot_of
  obtain ⟨f__law_late_world, fd__law_late_world, G__law_late_world, b__law_late_world, g__law_late_world, k__law_late_world⟩ := cL__law_late_world
  obtain ⟨f__law_made, fd__law_made, G__law_made, b__law_made, g__law_made, k__law_made⟩ := cL__law_made
  obtain ⟨f__law_any_mark, fd__law_any_mark, G__law_any_mark, b__law_any_mark, g__law_any_mark, k__law_any_mark⟩ := cL__law_any_mark
  obtain ⟨f_is_mark, fd_is_mark, G_is_mark, b_is_mark, g_is_mark, k_is_mark⟩ := cL_is_mark
  obtain ⟨f__law_is_own_mark, fd__law_is_own_mark, G__law_is_own_mark, b__law_is_own_mark, g__law_is_own_mark, k__law_is_own_mark⟩ := cL__law_is_own_mark
  obtain ⟨f__law_bent, fd__law_bent, G__law_bent, b__law_bent, g__law_bent, k__law_bent⟩ := cL__law_bent
  obtain ⟨f__law_of, fd__law_of, G__law_of, b__law_of, g__law_of, k__law_of⟩ := cL__law_of
  exact Fun_okG F sc_law (fun vs H Q E h => h.1) (fun cdv A outer s H vs Q E calm hr h => ⟨_, (pss_cons (ps_for PassesOwn.never rfl (pi_range1 rfl T.n_range (pa_cons (pe_callB (call_max2 rfl) (by rfl) T.n_max (by decide +kernel) (pa_cons pe_int (pa_cons (pe_callB (call_min2 rfl) (by rfl) T.n_min (by decide +kernel) (pa_cons pe_int (pa_cons (pe_callB call_len_seq (by rfl) T.n_len (by decide +kernel) (pa_cons (pv 0) pa_nil)) pa_nil))) pa_nil))) pa_nil)) (pg_name (i := 1) sc_law.nd rfl (Or.inl rfl)) (pss_cons (ps_set (i := 2) sc_law.nd rfl (Or.inl rfl) (pe_call G__law_pot_of (hr.mono (by decide)) rfl g__law_pot_of k__law_pot_of b__law_pot_of .nil pass0 (pa_cons (pv 0) (pa_cons (pv 1) pa_nil))))
      (pss_cons (ps_asg (pe_call G__law_late_world (hr.mono (by decide)) rfl g__law_late_world k__law_late_world b__law_late_world .nil pass0 (pa_cons (pv 2) pa_nil)) (pg_tup rfl (pgs_cons (pg_name (i := 3) sc_law.nd rfl (Or.inl rfl)) (pgs_cons (pg_name (i := 4) sc_law.nd rfl (Or.inl rfl)) pgs_nil))))
      (pss_cons (ps_set (i := 5) sc_law.nd rfl (Or.inl rfl) (pe_call G__law_made (hr.mono (by decide)) rfl g__law_made k__law_made b__law_made .nil pass0 (pa_cons (pv 3) pa_nil)))
      (pss_cons (ps_for PassesOwn.never rfl (pi_range1 rfl T.n_range (pa_cons pe_int pa_nil)) (pg_name (i := 6) sc_law.nd rfl (Or.inl rfl)) (pss_cons (ps_set (i := 7) sc_law.nd rfl (Or.inl rfl) (pe_call G__law_any_mark (hr.mono (by decide)) rfl g__law_any_mark k__law_any_mark b__law_any_mark .nil pass0 (pa_cons (pv 2) (pa_cons (pv 3) (pa_cons (pv 4) pa_nil)))))
      (pss_cons (ps_if (PW.pt (pw_or (pt_cmpR op_isnot_bl (pe_call G_is_mark (hr.mono (by decide)) rfl g_is_mark k_is_mark b_is_mark .nil pass0 (pa_cons (pv 5) (pa_cons (pv 7) pa_nil))) pe_bl (nomark _)) (pw_or1 (pt_not (pt_val (pe_call G__law_is_own_mark (hr.mono (by decide)) rfl g__law_is_own_mark k__law_is_own_mark b__law_is_own_mark .nil pass0 (pa_cons (pv 3) (pa_cons (pv 7) pa_nil)))))))) (pss_one (ps_ret pe_bl)) pss_nil)
      (pss_cons (ps_set (i := 8) sc_law.nd rfl (Or.inl rfl) (pe_call G__law_bent (hr.mono (by decide)) rfl g__law_bent k__law_bent b__law_bent .nil pass0 (pa_cons (pv 2) (pa_cons (pv 3) (pa_cons (pv 4) (pa_cons (pv 7) pa_nil))))))
      (pss_cons (ps_set (i := 9) sc_law.nd rfl (Or.inl rfl) (pe_callB (call_repr2 (Z := ⟨K, κ⟩) calm (hu70 hr) rfl) (by rfl) T.n_repr (by decide +kernel) (pa_cons (pv 8) pa_nil)))
      (pss_one (ps_if (PW.pt (pw_or (pt_cmpR op_ne (pe_callB (call_repr2 (Z := ⟨K, κ⟩) calm (hu70 hr) rfl) (by rfl) T.n_repr (by decide +kernel) (pa_cons (pe_call G_is_mark (hr.mono (by decide)) rfl g_is_mark k_is_mark b_is_mark .nil pass0 (pa_cons (pv 5) (pa_cons (pv 8) pa_nil))) pa_nil)) (pe_callB (call_repr2 (Z := ⟨K, κ⟩) calm (hu70 hr) rfl) (by rfl) T.n_repr (by decide +kernel) (pa_cons (pe_call G__law_is_own_mark (hr.mono (by decide)) rfl g__law_is_own_mark k__law_is_own_mark b__law_is_own_mark .nil pass0 (pa_cons (pv 3) (pa_cons (pv 8) pa_nil))) pa_nil)) (nomark _)) (pw_or1 (pt_cmpR op_ne (pe_callB (call_repr2 (Z := ⟨K, κ⟩) calm (hu70 hr) rfl) (by rfl) T.n_repr (by decide +kernel) (pa_cons (pv 8) pa_nil)) (pv 9) (nomark _))))) (pss_one (ps_ret pe_bl)) pss_nil)))))))
      (pss_cons (ps_set (i := 10) sc_law.nd rfl (Or.inl rfl) (pe_call G__law_of (hr.mono (by decide)) rfl g__law_of k__law_of b__law_of .nil pass0 (pa_cons (pv 2) (pa_cons (pe_lst (pa_cons pe_non (pa_cons pe_bl (pa_cons pe_int (pa_cons (pe_tup pa_nil) (pa_cons (pe_lst pa_nil) (pa_cons pe_dnewK (pa_cons (pe_disp (pps_cons pe_str pe_int pps_nil) rfl rfl (by simp) (by decide)) (pa_cons (pe_tup (pa_cons (pe_tup pa_nil) (pa_cons (pe_tup pa_nil) (pa_cons (pe_tup pa_nil) (pa_cons (pe_tup pa_nil) (pa_cons (pe_tup pa_nil) (pa_cons (pe_tup pa_nil) pa_nil))))))) (pa_cons (pe_op op_repB (pe_tup (pa_cons (pe_lst pa_nil) pa_nil)) pe_int) (pa_cons pe_str pa_nil))))))))))) pa_nil))))
      (pss_one (ps_if (pt_cmpR op_isnot_bl (pe_call G_is_mark (hr.mono (by decide)) rfl g_is_mark k_is_mark b_is_mark .nil pass0 (pa_cons (pv 5) (pa_cons (pv 10) pa_nil))) pe_bl (nomark _)) (pss_one (ps_ret pe_bl)) pss_nil))))))))
      (pss_one (ps_ret pe_bl))), ok_body (Z := ⟨K, κ⟩) (O := []) (js_seq (js_for (ji_rg1 (ja_cons (j_cb c_max (ja_cons j_int (ja_cons (j_cb c_min (ja_cons j_int (ja_cons (j_cb c_len (ja_consW (JD.w (j_var nin)) ja_nil)) ja_nil))) ja_nil))) ja_nil)) (jg_name nin nofun) (js_seq (js_asg (j_callV via_id (ja_cons (j_var nin) (ja_cons (j_var nin) ja_nil)) (len_cons (len_cons (fun _ _ _ _ h => len_nil h)))) (jg_name nin nofun))
      (js_seq (js_asg (j_callV via_id (ja_cons (j_var nin) ja_nil) (len_cons (fun _ _ _ _ h => len_nil h))) (jg_tup (jg_cons (jg_name nin nofun) (jg_cons (jg_name nin nofun) jg_nil))))
      (js_seq (js_asg (j_callV via_F (ja_cons (j_var nin) ja_nil) (len_cons (fun _ _ _ _ h => len_nil h))) (jg_name nin nofun))
      (js_seq (js_for (ji_rg1 (ja_cons j_int ja_nil)) (jg_name nin nofun) (js_seq (js_asg (j_callV via_P (ja_cons (j_var nin) (ja_cons (j_var nin) (ja_cons (j_var nin) ja_nil))) (len_cons (len_cons (len_cons (fun _ _ _ _ h => len_nil h))))) (jg_name nin nofun))
      (js_seq (js_if (jb_or (jb_test (j_op upD r_isB2 (j_callV via_F (ja_cons (j_var nin) (ja_cons (j_var nin) ja_nil)) (len_cons (len_cons (fun _ _ _ _ h => len_nil h)))) j_bl)) (jb_not (jb_B (j_callV via_F (ja_cons (j_var nin) (ja_cons (j_var nin) ja_nil)) (len_cons (len_cons (fun _ _ _ _ h => len_nil h))))))) (js_ret (JD.w j_bl)) js_next)
      (js_seq (js_asg (j_callV via_id (ja_cons (j_var nin) (ja_cons (j_var nin) (ja_cons (j_var nin) (ja_cons (j_var nin) ja_nil)))) (len_cons (len_cons (len_cons (len_cons (fun _ _ _ _ h => len_nil h)))))) (jg_name nin nofun))
      (js_seq (js_asg (j_cb c_repr2 (ja_cons (j_var nin) ja_nil)) (jg_name nin nofun))
      (js_if (jb_or (jb_test (j_op upD r_ne (j_cb c_repr2 (ja_cons (j_callV via_F (ja_cons (j_var nin) (ja_cons (j_var nin) ja_nil)) (len_cons (len_cons (fun _ _ _ _ h => len_nil h)))) ja_nil)) (j_cb c_repr2 (ja_cons (j_callV via_F (ja_cons (j_var nin) (ja_cons (j_var nin) ja_nil)) (len_cons (len_cons (fun _ _ _ _ h => len_nil h)))) ja_nil)))) (jb_test (j_op upD r_ne (j_cb c_repr2 (ja_cons (j_var nin) ja_nil)) (j_var nin)))) (js_ret (JD.w j_bl)) js_next))))))
      (js_seq (js_asg (j_callV via_id (ja_cons (j_var nin) (ja_cons (j_lst (ja_cons j_non (ja_cons j_bl (ja_cons j_int (ja_cons (j_tup ja_nil) (ja_cons (j_lst ja_nil) (ja_cons (JF.d jf_dic0) (ja_cons (j_disp (.cons j_str j_int .nil)) (ja_cons (j_tup (ja_cons (j_tup ja_nil) (ja_cons (j_tup ja_nil) (ja_cons (j_tup ja_nil) (ja_cons (j_tup ja_nil) (ja_cons (j_tup ja_nil) (ja_cons (j_tup ja_nil) ja_nil))))))) (ja_cons (j_op upD r_repB (j_tup (ja_cons (j_lst ja_nil) ja_nil)) j_int) (ja_cons j_str ja_nil))))))))))) ja_nil)) (len_cons (len_cons (fun _ _ _ _ h => len_nil h)))) (jg_name nin nofun))
      (js_if (jb_test (j_op upD r_isB2 (j_callV via_F (ja_cons (j_var nin) (ja_cons (j_var nin) ja_nil)) (len_cons (len_cons (fun _ _ _ _ h => len_nil h)))) j_bl)) (js_ret (JD.w j_bl)) js_next)))))))
      (js_ret (JD.w j_bl))) (fun _ m => absurd m List.not_mem_nil) h⟩)
end
end Zd
namespace Zd
open PySem PySem.Spec PyProof.Rows L2 Zg
def wp {α : Type} (m : M α) (S : List Dat) (C : α → List Dat → Prop) : Prop := match m S with
  | .ok a S' => C a S'
  | _ => False
section
variable {α β : Type} {S : List Dat}
theorem wp_of {m : M α} {a : α} {S' : List Dat} {C : α → List Dat → Prop} (h : m S = .ok a S') (k : C a S') : wp m S C := by unfold wp; rw [h]; exact k
theorem wp_ok {m : M α} {C : α → List Dat → Prop} (h : wp m S C) : ∃ a S', m S = .ok a S' ∧ C a S' := by
  unfold wp at h
  cases e : m S with
  | ok a S' => rw [e] at h; exact ⟨a, S', rfl, h⟩
  | er c fs S' => rw [e] at h; exact h.elim
  | bad => rw [e] at h; exact h.elim
theorem wp_bind {m : M α} {f : α → M β} {C : β → List Dat → Prop} (h : wp m S fun a S' => wp (f a) S' C) : wp (m >>= f) S C := by
  obtain ⟨a, S', e, k⟩ := wp_ok h
  show wp (M.bnd m f) S C
  unfold wp M.bnd
  rw [e]
  exact k
theorem wp_mono {m : M α} {C D : α → List Dat → Prop} (h : wp m S C) (k : ∀ a S', C a S' → D a S') : wp m S D := by
  obtain ⟨a, S', e, c⟩ := wp_ok h
  exact wp_of e (k a S' c)
theorem wp_need {b : Bool} {f : Unit → M β} {C : β → List Dat → Prop} (hb : b = true) (h : wp (f ()) S C) : wp (M.need b >>= f) S C := by subst hb; exact h
theorem wp_opt {o : Option α} {a : α} {f : α → M β} {C : β → List Dat → Prop} (ho : o = some a) (h : wp (f a) S C) : wp (M.opt o >>= f) S C := by subst ho; exact h
variable {ρ : Env}
theorem wp_run {N : Nat} {b : Env → M Flow} {ds : List Dat} {C : Dat → List Dat → Prop} (h : wp (b (startE N ds)) S fun f S' => wp (outF f) S' C) : wp (runD N b ds) S C := wp_bind h
theorem wp_seq {a b : Env → M Flow} {C : Flow → List Dat → Prop} (h : wp (a ρ) S fun f S' => match f with | .nx ρ' => wp (b ρ') S' C | g => C g S') : wp (sSeq a b ρ) S C := wp_bind (wp_mono h fun f S' k => by cases f <;> exact k)
theorem wp_if {c : Env → M Bool} {a b : Env → M Flow} {C : Flow → List Dat → Prop} (h : wp (c ρ) S fun x S' => (x = true → wp (a ρ) S' C) ∧ (x = false → wp (b ρ) S' C)) : wp (sIf c a b ρ) S C := wp_bind (wp_mono h fun x S' k => by
  cases x with
  | true => exact k.1 rfl
  | false => exact k.2 rfl)
theorem wp_xif {c : Env → M Bool} {a b : Env → M Dat} {C : Dat → List Dat → Prop} (h : wp (c ρ) S fun x S' => (x = true → wp (a ρ) S' C) ∧ (x = false → wp (b ρ) S' C)) : wp (xIf c a b ρ) S C := wp_bind (wp_mono h fun x S' k => by
  cases x with
  | true => exact k.1 rfl
  | false => exact k.2 rfl)
theorem wp_asg {a : Env → M Dat} {g : Env → Dat → Option Env} {C : Flow → List Dat → Prop} (h : wp (a ρ) S fun d S' => ∃ ρ', g ρ d = some ρ' ∧ C (.nx ρ') S') : wp (sAsg a g ρ) S C := wp_bind (wp_mono h fun d S' ⟨ρ', e, k⟩ => wp_opt e k)
theorem wp_ret {a : Env → M Dat} {C : Flow → List Dat → Prop} (h : wp (a ρ) S fun d S' => C (.rt d) S') : wp (sRet a ρ) S C := wp_bind h
theorem wp_op {f : Dat → Dat → M Dat} {a b : Env → M Dat} {C : Dat → List Dat → Prop} (h : wp (a ρ) S fun x S1 => wp (b ρ) S1 fun y S2 => wp (f x y) S2 C) : wp (xOp f a b ρ) S C := wp_bind (wp_mono h fun x S1 k => wp_bind k)
theorem wp_un {f : Dat → M Dat} {a : Env → M Dat} {C : Dat → List Dat → Prop} (h : wp (a ρ) S fun x S1 => wp (f x) S1 C) : wp (xUn f a ρ) S C := wp_bind h
theorem wp_test {a : Env → M Dat} {C : Bool → List Dat → Prop} (h : wp (a ρ) S fun d S' => ∃ b, d = .bl b ∧ C b S') : wp (bTest a ρ) S C := wp_bind (wp_mono h fun d S' ⟨b, e, k⟩ => by subst e; exact k)
theorem wp_not {a : Env → M Bool} {C : Bool → List Dat → Prop} (h : wp (a ρ) S fun b S' => C (!b) S') : wp (bNot a ρ) S C := wp_bind h
theorem wp_andV {a b : Env → M Dat} {C : Dat → List Dat → Prop} (h : wp (a ρ) S fun d S' => ∃ x, d = .bl x ∧ (x = true → wp (b ρ) S' C) ∧ (x = false → C (.bl false) S')) : wp (xAnd a b ρ) S C := wp_bind (wp_test (wp_mono h fun d S' ⟨x, e, k1, k2⟩ => ⟨x, e, by
  cases x with
  | true => exact k1 rfl
  | false => exact k2 rfl⟩))
theorem wp_orV {a b : Env → M Dat} {C : Dat → List Dat → Prop} (h : wp (a ρ) S fun d S' => ∃ x, d = .bl x ∧ (x = true → C (.bl true) S') ∧ (x = false → wp (b ρ) S' C)) : wp (xOr a b ρ) S C := wp_bind (wp_test (wp_mono h fun d S' ⟨x, e, k1, k2⟩ => ⟨x, e, by
  cases x with
  | true => exact k1 rfl
  | false => exact k2 rfl⟩))
theorem wp_notV {a : Env → M Dat} {C : Dat → List Dat → Prop} (h : wp (a ρ) S fun d S' => ∃ x, d = .bl x ∧ C (.bl (!x)) S') : wp (xNot a ρ) S C := wp_bind (wp_test (wp_mono h fun d S' ⟨x, e, k⟩ => ⟨x, e, k⟩))
theorem wp_cons {a : Env → M Dat} {l : Env → M (List Dat)} {C : List Dat → List Dat → Prop} (h : wp (a ρ) S fun x S1 => wp (l ρ) S1 fun xs S2 => C (x :: xs) S2) : wp (xCons a l ρ) S C := wp_bind (wp_mono h fun x S1 k => wp_bind (wp_mono k fun xs S2 k => k))
theorem wp_cb {f : List Dat → M Dat} {l : Env → M (List Dat)} {C : Dat → List Dat → Prop} (h : wp (l ρ) S fun ds S1 => wp (f ds) S1 C) : wp (xCB f l ρ) S C := wp_bind h
theorem wp_calm {m : M α} {C : α → List Dat → Prop} (h : wp m S C) : wp (calm m) S C := by
  obtain ⟨a, S', e, k⟩ := wp_ok h
  unfold wp calm
  rw [e]
  exact k
theorem wp_call {f : List Dat → M Dat} {l : Env → M (List Dat)} {C : Dat → List Dat → Prop} (h : wp (l ρ) S fun ds S1 => wp (f ds) S1 C) : wp (xCall f l ρ) S C := wp_bind (wp_mono h fun ds S1 k => wp_calm k)
theorem wp_tup {l : Env → M (List Dat)} {C : Dat → List Dat → Prop} (h : wp (l ρ) S fun ds S1 => ds.length ≤ 1000 ∧ C (.tup ds) S1) : wp (xTup l ρ) S C := wp_bind (wp_mono h fun ds S1 ⟨k1, k2⟩ => wp_need (decide_eq_true k1) k2)
theorem wp_lst {l : Env → M (List Dat)} {C : Dat → List Dat → Prop} (h : wp (l ρ) S fun ds S1 => ds.length ≤ 1000 ∧ C (.lst ds) S1) : wp (xLst l ρ) S C := wp_bind (wp_mono h fun ds S1 ⟨k1, k2⟩ => wp_need (decide_eq_true k1) k2)
/-- a loop: what holds of what is left to walk -/
theorem wp_for {g : Env → Dat → Option Env} {b : Env → M Flow} {C : Flow → List Dat → Prop} (I : List Dat → Env → List Dat → Prop)
    (step : ∀ d ds ρ S, I (d :: ds) ρ S → ∃ ρ1, g ρ d = some ρ1 ∧ wp (b ρ1) S fun f S' => match f with | .nx ρ2 => I ds ρ2 S' | .ct ρ2 => I ds ρ2 S' | .bk ρ2 => C (.nx ρ2) S' | .rt d => C (.rt d) S')
    (stop : ∀ ρ S, I [] ρ S → C (.nx ρ) S) : ∀ (ds : List Dat) (ρ : Env) (S : List Dat), I ds ρ S → wp (forD g b ds ρ) S C
  | [], ρ, S, h => stop ρ S h
  | d :: ds, ρ, S, h => by
    obtain ⟨ρ1, e, k⟩ := step d ds ρ S h
    unfold forD
    refine wp_opt e (wp_bind (wp_mono k fun f S' k => ?_))
    cases f with
    | nx ρ2 => exact wp_for I step stop ds ρ2 S' k
    | ct ρ2 => exact wp_for I step stop ds ρ2 S' k
    | bk ρ2 => exact k
    | rt d => exact k
end
/-- the pot at a place among others: k takes are left -/
def Pot (i k : Nat) (S : List Dat) : Prop := ∃ o m n : Int, S[i]? = some (.lst [.int o, .int m, .int n]) ∧ 0 ≤ o ∧ 0 ≤ m ∧ m < 2305843009213693921 ∧ 0 ≤ n ∧ n + k ≤ 100000
theorem Pot.le {i k l : Nat} {S : List Dat} (h : Pot i k S) (j : l ≤ k) : Pot i l S := by
  obtain ⟨o, m, n, a, b, c, d, e, f⟩ := h
  exact ⟨o, m, n, a, b, c, d, e, by omega⟩
/-- all places but the pot's stand as they stood, new ones may have come -/
def FrS (i : Nat) (S S' : List Dat) : Prop := S.length ≤ S'.length ∧ ∀ j, j < S.length → j ≠ i → S'[j]? = S[j]?
theorem FrS.refl {i : Nat} {S : List Dat} : FrS i S S := ⟨Nat.le_refl _, fun _ _ _ => rfl⟩
theorem FrS.trans {i : Nat} {S S1 S2 : List Dat} (h : FrS i S S1) (k : FrS i S1 S2) : FrS i S S2 := ⟨Nat.le_trans h.1 k.1, fun j l n => (k.2 j (by have := h.1; omega) n).trans (h.2 j l n)⟩
theorem FrS.set {i : Nat} {S : List Dat} {d : Dat} : FrS i S (S.set i d) := ⟨by rw [List.length_set]; exact Nat.le_refl _, fun j _ n => List.getElem?_set_ne fun e => n e.symm⟩
theorem FrS.get {i j : Nat} {S S' : List Dat} {d : Dat} (h : FrS i S S') (e : S[j]? = some d) (n : j ≠ i) : S'[j]? = some d := by
  rw [h.2 j (List.getElem?_eq_some_iff.mp e).1 n]
  exact e
theorem FrS.push {i : Nat} {S : List Dat} {d : Dat} : FrS i S (S ++ [d]) := ⟨by rw [List.length_append]; omega, fun j l _ => List.getElem?_append_left l⟩
theorem Pot.push {i k : Nat} {S : List Dat} {d : Dat} (h : Pot i k S) : Pot i k (S ++ [d]) := by
  obtain ⟨o, m, n, e, r⟩ := h
  exact ⟨o, m, n, by rw [List.getElem?_append_left (List.getElem?_eq_some_iff.mp e).1]; exact e, r⟩
theorem Pot.other {i j k : Nat} {S : List Dat} {d : Dat} (h : Pot i k S) (n : j ≠ i) : Pot i k (S.set j d) := by
  obtain ⟨o, m, n', e, r⟩ := h
  exact ⟨o, m, n', by rw [List.getElem?_set_ne n]; exact e, r⟩
theorem ixLo_of {S : List Dat} {i : Nat} {xs : List Dat} {k : Int} {x : Dat} (h : S[i]? = some (.lst xs)) (e : atI xs k = some x) : dIxLo (.loc i) (.int k) S = .ok x S := by
  show (match S[i]? with | some (.lst xs) => M.opt (atI xs k) S | _ => .bad) = _
  rw [h]
  show M.opt (atI xs k) S = _
  rw [e]
  rfl
theorem setLo_of {S : List Dat} {i q : Nat} {xs : List Dat} {k : Int} {x : Dat} {ρ : Env} (h : S[i]? = some (.lst xs)) (e : ixN xs.length k = some q) : setLo i k x ρ S = .ok (.nx ρ) (S.set i (.lst (xs.set q x))) := by
  unfold setLo
  rw [h]
  dsimp only
  rw [e]
theorem wp_setLo {S : List Dat} {ρ : Env} {j i q : Nat} {b a : Env → M Dat} {xs : List Dat} {k : Int} {C : Flow → List Dat → Prop} (ei : ρ[j]? = some (some (.loc i))) (h : wp (a ρ) S fun x S1 => wp (b ρ) S1 fun y S2 => y = .int k ∧ S2[i]? = some (.lst xs) ∧ ixN xs.length k = some q ∧ C (.nx ρ) (S2.set i (.lst (xs.set q x)))) : wp (sSetLo j b a ρ) S C := by
  have el : locAt ρ j = some i := by unfold locAt; rw [ei]
  refine wp_bind (wp_mono h fun x S1 h => wp_opt el (wp_bind (wp_mono h fun y S2 h => ?_)))
  obtain ⟨rfl, h1, h2, h3⟩ := h
  exact wp_opt rfl (wp_of (setLo_of h1 h2) h3)
theorem set_get {S : List Dat} {i : Nat} {d e : Dat} (h : S[i]? = some e) : (S.set i d)[i]? = some d := List.getElem?_set_self (List.getElem?_eq_some_iff.mp h).1
theorem w_mod {S : List Dat} {i j : Int} {C : Dat → List Dat → Prop} (hj : 0 < j) (h : C (.int (i % j)) S) : wp (dMod (.int i) (.int j)) S C := wp_need (decide_eq_true hj) h
theorem w_div {S : List Dat} {i j : Int} {C : Dat → List Dat → Prop} (hj : 0 < j) (h2 : j < 2 ^ 200) (h : C (.int (i / j)) S) : wp (dDiv (.int i) (.int j)) S C := wp_need (by simp only [Bool.and_eq_true, decide_eq_true_eq]; exact ⟨hj, h2⟩) h
theorem w_mul {S : List Dat} {i j : Int} {C : Dat → List Dat → Prop} (c : (-(2 ^ 64) < i ∧ i < 2 ^ 64) ∨ (-(2 ^ 64) < j ∧ j < 2 ^ 64)) (h : C (.int (i * j)) S) : wp (dMul (.int i) (.int j)) S C := wp_need (by unfold bMul; simp only [Bool.or_eq_true, Bool.and_eq_true, decide_eq_true_eq]; exact c) h
theorem w_pow {S : List Dat} {i j : Int} {C : Dat → List Dat → Prop} (c : 0 ≤ j ∧ j ≤ 1000000) (d : i.natAbs < 2 ^ 64) (h : C (.int (i ^ j.toNat)) S) : wp (dPow (.int i) (.int j)) S C := wp_need (by unfold bPow; simp only [Bool.and_eq_true, decide_eq_true_eq]; exact ⟨c, d⟩) h
theorem w_add {S : List Dat} {i j : Int} {C : Dat → List Dat → Prop} (h : C (.int (i + j)) S) : wp (dAdd (.int i) (.int j)) S C := h
theorem w_sub {S : List Dat} {i j : Int} {C : Dat → List Dat → Prop} (h : C (.int (i - j)) S) : wp (dSub (.int i) (.int j)) S C := h
theorem w_int {S : List Dat} {i : Int} {C : Dat → List Dat → Prop} (h : C (.int i) S) : wp (dInt [.int i]) S C := h
theorem wp_nil {S : List Dat} {ρ : Env} {C : List Dat → List Dat → Prop} (h : C [] S) : wp (xNil ρ) S C := h
theorem wp_c {S : List Dat} {ρ : Env} {d : Dat} {C : Dat → List Dat → Prop} (h : C d S) : wp (xC d ρ) S C := h
theorem wp_var {S : List Dat} {ρ : Env} {i : Nat} {d : Dat} {C : Dat → List Dat → Prop} (e : ρ[i]? = some (some d)) (h : C d S) : wp (xVar i ρ) S C := by unfold xVar; rw [e]; exact h
theorem at_nat {α : Type} {xs : List α} {r : Int} (h0 : 0 ≤ r) (h1 : r < xs.length) : ∃ x, atI xs r = some x ∧ x ∈ xs := by
  obtain ⟨n, rfl⟩ : ∃ n : Nat, r = n := ⟨r.toNat, (Int.toNat_of_nonneg h0).symm⟩
  have lt : n < xs.length := by omega
  refine ⟨xs[n], ?_, List.getElem_mem lt⟩
  unfold atI ixN
  have e : ¬ ((n : Int) < 0) := by omega
  simp [e, lt]
theorem wp_par3 {S : List Dat} {ρ : Env} {i j k : Nat} {l : Env → M (List Dat)} {C : Flow → List Dat → Prop} (h : wp (l ρ) S fun ds S' => ∃ a b c, ds = [a, b, c] ∧ C (.nx (((ρ.set i (some a)).set j (some b)).set k (some c))) S') : wp (sPar3 i j k l ρ) S C := wp_bind (wp_mono h fun ds S' ⟨a, b, c, e, q⟩ => by subst e; exact q)
theorem wp_par {S : List Dat} {ρ : Env} {i j : Nat} {l : Env → M (List Dat)} {C : Flow → List Dat → Prop} (h : wp (l ρ) S fun ds S' => ∃ a b, ds = [a, b] ∧ C (.nx ((ρ.set i (some a)).set j (some b))) S') : wp (sPar i j l ρ) S C := wp_bind (wp_mono h fun ds S' ⟨a, b, e, q⟩ => by subst e; exact q)
theorem powz {S : List Dat} : dPowZ (.int (10 ^ 60)) (.int 5) S = .ok (.int ((10 ^ 60) ^ 5)) S := by
  have h : bPowZ (10 ^ 60) 5 = true := by decide +kernel
  show (M.need (bPowZ (10 ^ 60) 5) >>= fun _ => pure (Dat.int ((10 ^ 60) ^ (5 : Int).toNat)) : M Dat) S = _
  rw [h]
  rfl
theorem pow60 {S : List Dat} : dPow (.int 10) (.int 60) S = .ok (.int (10 ^ 60)) S := by
  have h : bPow 10 60 = true := by decide +kernel
  show (M.need (bPow 10 60) >>= fun _ => pure (Dat.int (10 ^ (60 : Int).toNat)) : M Dat) S = _
  rw [h]
  rfl
theorem pow18 {S : List Dat} : dPow (.int 10) (.int 18) S = .ok (.int (10 ^ 18)) S := by
  have h : bPow 10 18 = true := by decide +kernel
  show (M.need (bPow 10 18) >>= fun _ => pure (Dat.int (10 ^ (18 : Int).toNat)) : M Dat) S = _
  rw [h]
  rfl
abbrev potOwn : Env → M Dat := xOp dMul (xOp dMod (xCB dInt (xCons (xCB dAbs (xCons (xVar 2) xNil)) xNil)) (xOp dPowZ (xOp dPow (xC (.int 10)) (xC (.int 60))) (xC (.int 5)))) (xCB dInt (xCons (xOp dGe (xCB dAbs (xCons (xVar 2) xNil)) (xOp dPow (xC (.int 10)) (xC (.int 18)))) xNil))
theorem w_own {ns : List Int} {i c : Int} {S : List Dat} {C : Dat → List Dat → Prop} (q : ∀ o : Int, 0 ≤ o → C (.int o) S) : wp (potOwn [some (.scr ns), some (.int i), some (.int c), none]) S C := by
  refine wp_op (wp_op (wp_of (a := .int (if c < 0 then -c else c)) (S' := S) rfl ?_))
  refine wp_op (wp_op (wp_of (a := .int 10) (S' := S) rfl (wp_of (a := .int 60) (S' := S) rfl (wp_of pow60 ?_))))
  refine wp_of (a := .int 5) (S' := S) rfl (wp_of powz ?_)
  have p : (0 : Int) < (10 ^ 60) ^ 5 := by decide +kernel
  generalize ((10 : Int) ^ 60) ^ 5 = T at p ⊢
  refine w_mod p ?_
  refine wp_cb (wp_cons (wp_op (wp_of (a := .int (if c < 0 then -c else c)) (S' := S) rfl ?_)))
  refine wp_op (wp_of (a := .int 10) (S' := S) rfl (wp_of (a := .int 18) (S' := S) rfl (wp_of pow18 ?_)))
  refine wp_of (a := .bl (decide ((10 ^ 18 : Int) ≤ (if c < 0 then -c else c)))) (S' := S) rfl (wp_nil ?_)
  refine wp_of (a := .int (if decide ((10 ^ 18 : Int) ≤ (if c < 0 then -c else c)) then 1 else 0)) (S' := S) rfl ?_
  have a0 : 0 ≤ (if c < 0 then -c else c) % T := Int.emod_nonneg _ (by omega)
  generalize (if c < 0 then -c else c) % T = A at a0 ⊢
  generalize decide ((10 ^ 18 : Int) ≤ (if c < 0 then -c else c)) = b
  cases b with
  | true => exact w_mul (.inr (by decide)) (q _ (Int.mul_nonneg a0 (by decide)))
  | false => exact w_mul (.inr (by decide)) (q _ (Int.mul_nonneg a0 (by decide)))
theorem scr_at {ns : List Int} {i : Nat} {S : List Dat} (h : i < ns.length) : ∃ c, dIxSc (.scr ns) (.int (i : Int)) S = .ok (.int c) S := by
  refine ⟨ns[i], ?_⟩
  have e : atI ns (i : Int) = some ns[i] := by
    unfold atI ixN
    have : (i : Int) < (ns.length : Int) := by omega
    simp [this, h]
  show (M.opt (atI ns (i : Int)) >>= fun n => pure (Dat.int n) : M Dat) S = _
  rw [e]
  rfl
abbrev potMid : Env → M Dat := (xOp dMod (xOp dAdd (xOp dAdd (xOp dMul (xOp dMod (xCB dInt (xCons (xVar 2) xNil)) (xC (.int 2305843009213693951))) (xC (.int 74093))) (xOp dMul (xOp dMul (xC (.int 7013)) (xVar 1)) (xVar 1))) (xC (.int 41))) (xC (.int 2305843009213693921)))
theorem w_mid {a0 : Option Dat} {o i c : Int} {S : List Dat} {C : Dat → List Dat → Prop} (ih : -(2 ^ 64) < i ∧ i < 2 ^ 64) (q : ∀ m : Int, 0 ≤ m → m < 2305843009213693921 → C (.int m) S) : wp (potMid [a0, some (.int i), some (.int c), some (.int o)]) S C := by
  refine wp_op (wp_op (wp_op (wp_op (wp_op (wp_of (a := .int c) (S' := S) rfl (wp_of (a := .int 2305843009213693951) (S' := S) rfl ?_))))))
  refine w_mod (by decide) ?_
  have b0 : 0 ≤ c % 2305843009213693951 := Int.emod_nonneg _ (by decide)
  have b1 : c % 2305843009213693951 < 2305843009213693951 := Int.emod_lt_of_pos _ (by decide)
  generalize c % 2305843009213693951 = r at b0 b1 ⊢
  refine wp_of (a := .int 74093) (S' := S) rfl (w_mul (.inr (by decide)) ?_)
  generalize r * 74093 = w
  refine wp_op ?_
  refine wp_op ?_
  refine wp_of (a := .int 7013) (S' := S) rfl ?_
  refine wp_of (a := .int i) (S' := S) rfl ?_
  refine w_mul (i := 7013) (j := i) (.inl ⟨by decide, by decide⟩) ?_
  refine wp_of (a := .int i) (S' := S) rfl (w_mul (.inr ih) (w_add ?_))
  refine wp_of (a := .int 41) (S' := S) rfl (w_add ?_)
  refine wp_of (a := .int 2305843009213693921) (S' := S) rfl (w_mod (by decide) ?_)
  generalize hm : (w + 7013 * i * i + 41) % 2305843009213693921 = m
  have m0 : 0 ≤ m := hm ▸ Int.emod_nonneg _ (by decide)
  have m1 : m < 2305843009213693921 := hm ▸ Int.emod_lt_of_pos _ (by decide)
  exact q m m0 m1
theorem intsD_len {lo : Int} {n : Nat} : (intsD lo n).length = n := by unfold intsD; rw [List.length_map, List.length_range]
theorem wp_lcT {S : List Dat} {ρ : Env} {it : Env → M (List Dat)} {g : Env → Dat → Option Env} {c : Env → M Bool} {e : Env → M Dat} {vs : List Nat} {C : Dat → List Dat → Prop} (h : wp (it ρ) S fun ds S1 => ds.length ≤ 100000 ∧ wp (compD g c e (wipeE ρ vs) ds) S1 fun xs S2 => C (.lst xs) S2) : wp (xLc it g c e vs ρ) S C :=
  wp_bind (wp_mono h fun ds S1 ⟨k1, k2⟩ => wp_need (decide_eq_true k1) (wp_bind k2))
/-- a call in an empty store, of known answer -/
theorem callF_ok {F : List Dat → M Dat} {ds : List Dat} {d e : Dat} {S' : List Dat} (nl : noLocs ds = true) (h : F ds [] = .ok d S') (z : frz S' 40 d = some e) (S : List Dat) : callF F ds S = .ok e S := by
  unfold callF
  rw [nl]
  dsimp only
  rw [h]
  dsimp only
  rw [z]
theorem loop_it (ns : List Int) (r : Env) : ∃ t : Nat, (iRg1 (xCons (xCB dMax (xCons (xC (.int 1)) (xCons (xCB dMin (xCons (xC (.int 3)) (xCons (xCB dLen (xCons (xVar 0) xNil)) xNil))) xNil))) xNil) (some (.scr ns) :: r)) [] = .ok (intsD 0 t) [] ∧ t ≤ 3 := by
  generalize hj : (if (if ((ns.length : Nat) : Int) < 3 then ((ns.length : Nat) : Int) else 3) > 1 then (if ((ns.length : Nat) : Int) < 3 then ((ns.length : Nat) : Int) else 3) else 1) = j
  have j3 : 0 ≤ j ∧ j ≤ 3 := by subst hj; split <;> (try split) <;> omega
  refine ⟨j.toNat, ?_, by omega⟩
  have e : (iRg1 (xCons (xCB dMax (xCons (xC (.int 1)) (xCons (xCB dMin (xCons (xC (.int 3)) (xCons (xCB dLen (xCons (xVar 0) xNil)) xNil))) xNil))) xNil) (some (.scr ns) :: r)) [] = (M.need (decide (-(2 ^ 62) ≤ j ∧ j < 2 ^ 62)) >>= fun _ => pure (intsD 0 j.toNat) : M (List Dat)) [] := by rw [← hj]; rfl
  rw [e, decide_eq_true (by omega)]
  rfl
end Zd
namespace Zd
open PySem PySem.Spec PyProof.Rows L2 Zg
theorem map_eq {α β : Type} {f g : α → β} : ∀ {l : List α}, l.map f = l.map g → ∀ x, x ∈ l → f x = g x
  | [], _, x, h => nomatch h
  | a :: l, e, x, h => by
    have e1 : f a :: l.map f = g a :: l.map g := e
    injection e1 with e2 e3
    rcases List.mem_cons.mp h with h | h
    · rw [h]; exact e2
    · exact map_eq e3 x h
section
variable {S S' S1 : List Dat} {ρ ρ' : Env}
theorem run_at {N : Nat} {b : Env → M Flow} {ds : List Dat} {d : Dat} (h : b (startE N ds) S = .ok (.rt d) S') : runD N b ds S = .ok d S' := by
  unfold runD
  rw [m_bind, h] <;> rfl
theorem seq_at {a b : Env → M Flow} (h : a ρ S = .ok (.nx ρ') S') : sSeq a b ρ S = b ρ' S' := by
  unfold sSeq
  rw [m_bind, h] <;> rfl
theorem if_f {c : Env → M Bool} {a b : Env → M Flow} (h : c ρ S = .ok false S') : sIf c a b ρ S = b ρ S' := by
  unfold sIf
  rw [m_bind, h] <;> rfl
theorem if_t {c : Env → M Bool} {a b : Env → M Flow} (h : c ρ S = .ok true S') : sIf c a b ρ S = a ρ S' := by
  unfold sIf
  rw [m_bind, h] <;> rfl
theorem ret_at {a : Env → M Dat} {d : Dat} (h : a ρ S = .ok d S') : sRet a ρ S = .ok (.rt d) S' := by
  unfold sRet
  rw [m_bind, h] <;> rfl
theorem not_at {a : Env → M Bool} {b : Bool} (h : a ρ S = .ok b S') : bNot a ρ S = .ok (!b) S' := by
  unfold bNot
  rw [m_bind, h] <;> rfl
theorem test_at {a : Env → M Dat} {b : Bool} (h : a ρ S = .ok (.bl b) S') : bTest a ρ S = .ok b S' := by
  unfold bTest
  rw [m_bind, h] <;> rfl
theorem calm_at {m : M Dat} {d : Dat} (h : m S = .ok d S') : calm m S = .ok d S' := by
  unfold calm
  rw [h]
theorem call_at {f : List Dat → M Dat} {l : Env → M (List Dat)} {ds : List Dat} {d : Dat} (hl : l ρ S = .ok ds S1) (h : f ds S1 = .ok d S') : xCall f l ρ S = .ok d S' := by
  unfold xCall
  rw [m_bind, hl]
  exact calm_at h
theorem cb_at {f : List Dat → M Dat} {l : Env → M (List Dat)} {ds : List Dat} {d : Dat} (hl : l ρ S = .ok ds S1) (h : f ds S1 = .ok d S') : xCB f l ρ S = .ok d S' := by
  unfold xCB
  rw [m_bind, hl] <;> exact h
theorem op_at {f : Dat → Dat → M Dat} {a b : Env → M Dat} {x y d : Dat} (ha : a ρ S = .ok x S) (hb : b ρ S = .ok y S) (h : f x y S = .ok d S) : xOp f a b ρ S = .ok d S := by
  unfold xOp
  rw [m_bind, ha]
  show ((b ρ >>= fun y => f x y) : M Dat) S = _
  rw [m_bind, hb] <;> exact h
theorem one_at {a : Env → M Dat} {x : Dat} (h : a ρ S = .ok x S) : xCons a xNil ρ S = .ok [x] S := by
  unfold xCons
  rw [m_bind, h] <;> rfl
theorem strsD_map : ∀ ss : List Str, strsD (ss.map .str) = some ss
  | [] => rfl
  | s :: r => by
    rw [List.map_cons]
    unfold strsD
    rw [strsD_map r] <;> rfl
end
section
variable {S S' S1 : List Dat} {ρ ρ' : Env}
theorem asg_at {a : Env → M Dat} {g : Env → Dat → Option Env} {d : Dat} {ρ' : Env} (h : a ρ S = .ok d S) (e : g ρ d = some ρ') : sAsg a g ρ S = .ok (.nx ρ') S := by
  unfold sAsg
  rw [m_bind, h]
  show ((M.opt (g ρ d) >>= fun ρ' => pure (.nx ρ')) : M Flow) S = _
  rw [e] <;> rfl
theorem seq_rt {a b : Env → M Flow} {ρ : Env} {S S' : List Dat} {d : Dat} (h : a ρ S = .ok (.rt d) S') : sSeq a b ρ S = .ok (.rt d) S' := by
  unfold sSeq
  rw [m_bind, h] <;> rfl
theorem eqI_at {i j : Int} {S : List Dat} : dEq (.int i) (.int j) S = .ok (.bl (decide (i = j))) S := by
  show Out.ok (Dat.bl (decide (V.int i = V.int j))) S = _
  have e : decide (V.int i = V.int j) = decide (i = j) := by
    by_cases h : i = j
    · rw [decide_eq_true h, decide_eq_true (congrArg V.int h)]
    · rw [decide_eq_false h, decide_eq_false fun z => h (V.int.inj z)]
  rw [e]
theorem cons_at {a : Env → M Dat} {l : Env → M (List Dat)} {x : Dat} {xs : List Dat} {S1 S2 : List Dat} (ha : a ρ S = .ok x S1) (hl : l ρ S1 = .ok xs S2) : xCons a l ρ S = .ok (x :: xs) S2 := by
  unfold xCons
  rw [m_bind, ha]
  dsimp only
  rw [m_bind, hl] <;> rfl
theorem bls_map : ∀ bs : List Bool, blsOf (bs.map .bl) = some bs
  | [] => rfl
  | b :: r => by rw [List.map_cons]; unfold blsOf; rw [bls_map r]; rfl
theorem all_of {bs : List Bool} {S : List Dat} : dAll [.lst (bs.map .bl)] S = .ok (.bl (bs.all id)) S := by
  unfold dAll
  simp only [bls_map]
  rfl
theorem and_b {a b : Env → M Dat} {x y : Bool} (ha : a ρ S = .ok (.bl x) S) (hb : b ρ S = .ok (.bl y) S) : xAnd a b ρ S = .ok (.bl (x && y)) S := by
  unfold xAnd
  rw [m_bind, test_at ha]
  cases x
  · rfl
  · exact hb
theorem bor_b {a b : Env → M Bool} {x y : Bool} (ha : a ρ S = .ok x S) (hb : b ρ S = .ok y S) : bOr a b ρ S = .ok (x || y) S := by
  unfold bOr
  rw [m_bind, ha]
  cases x
  · exact hb
  · rfl
theorem xif_b {c : Env → M Bool} {a b : Env → M Dat} {x : Bool} (hc : c ρ S = .ok x S) : xIf c a b ρ S = cond x (a ρ S) (b ρ S) := by
  unfold xIf
  rw [m_bind, hc]
  cases x <;> rfl
theorem ch2 {a b c : Env → M Dat} {i j k : Int} (ha : a ρ S = .ok (.int i) S) (hb : b ρ S = .ok (.int j) S) (hc : c ρ S = .ok (.int k) S) : xChain dLe dLe a b c ρ S = .ok (.bl (decide (i ≤ j) && decide (j ≤ k))) S := by
  unfold xChain
  rw [m_bind, ha]
  dsimp only
  rw [m_bind, hb]
  show (if decide (i ≤ j) = true then (c ρ >>= fun u => dLe (.int j) u) else pure (.bl false) : M Dat) S = _
  generalize decide (i ≤ j) = u
  cases u
  · rfl
  · rw [if_pos rfl, m_bind, hc]
    rfl
theorem xlc_at {it : Env → M (List Dat)} {g : Env → Dat → Option Env} {c : Env → M Bool} {e : Env → M Dat} {vs : List Nat} {ds es : List Dat} (hi : it ρ S = .ok ds S) (hl : ds.length ≤ 1000) (h : compD g c e (wipeE ρ vs) ds S = .ok es S) : xLc it g c e vs ρ S = .ok (.lst es) S := by
  unfold xLc
  rw [m_bind, hi]
  show ((M.need (decide (ds.length ≤ 100000)) >>= fun _ => compD g c e (wipeE ρ vs) ds >>= fun es => pure (.lst es)) : M Dat) S = _
  rw [decide_eq_true (show ds.length ≤ 100000 by omega)]
  show ((compD g c e (wipeE ρ vs) ds >>= fun es => pure (.lst es)) : M Dat) S = _
  rw [m_bind, h] <;> rfl
theorem catT_ok {xs ys : List Dat} (l : xs.length + ys.length ≤ 100000) : dCatT (.tup xs) (.tup ys) S = .ok (.tup (xs ++ ys)) S := by
  show (M.need (decide (xs.length + ys.length ≤ 100000)) >>= fun _ => pure (Dat.tup (xs ++ ys)) : M Dat) S = _
  rw [decide_eq_true l]
  rfl
/-- a comprehension that keeps some, any target -/
theorem comp_fmG {g : Env → Dat → Option Env} {c : Env → M Bool} {e : Env → M Dat} {F : Dat → Option Dat} : ∀ {ds : List Dat}, (∀ d, d ∈ ds → ∃ ρ1, g ρ d = some ρ1 ∧ c ρ1 S = .ok (F d).isSome S ∧ ∀ y, F d = some y → e ρ1 S = .ok y S) → compD g c e ρ ds S = .ok (ds.filterMap F) S
  | [], _ => rfl
  | d :: ds, h => by
    have ih := comp_fmG (g := g) (c := c) (e := e) (F := F) (ds := ds) fun y m => h y (List.mem_cons_of_mem _ m)
    obtain ⟨ρ1, h0, h1, h2⟩ := h d List.mem_cons_self
    unfold compD
    rw [h0]
    show ((c ρ1 >>= fun b => if b = true then e ρ1 >>= fun y => compD g c e ρ ds >>= fun ys => pure (y :: ys) else compD g c e ρ ds) : M (List Dat)) S = _
    rw [m_bind, h1]
    cases z : F d with
    | none =>
      rw [List.filterMap_cons_none z]
      exact ih
    | some y =>
      rw [List.filterMap_cons_some z]
      show ((e ρ1 >>= fun y => compD g c e ρ ds >>= fun ys => pure (y :: ys)) : M (List Dat)) S = _
      rw [m_bind, h2 y z]
      dsimp only
      rw [m_bind, ih] <;> rfl
theorem tupK_at {l : Env → M (List Dat)} {ds : List Dat} (hl : l ρ S = .ok ds S) (ln : ds.length ≤ 1000) : xTup l ρ S = .ok (.tup ds) S := by
  unfold xTup
  rw [m_bind, hl]
  show ((M.need (decide (ds.length ≤ 1000)) >>= fun _ => pure (Dat.tup ds)) : M Dat) S = _
  rw [decide_eq_true ln]
  rfl
theorem catL_ok {xs ys : List Dat} (l : xs.length + ys.length ≤ 100000) : dCatL (.lst xs) (.lst ys) S = .ok (.lst (xs ++ ys)) S := by
  show (M.need (decide (xs.length + ys.length ≤ 100000)) >>= fun _ => pure (Dat.lst (xs ++ ys)) : M Dat) S = _
  rw [decide_eq_true l]
  rfl
end
def St (k : Nat) (d : Dat) : Prop := noLoc d = true ∧ ∀ S n, k ≤ n → frz S n d = some d
theorem noLocs_of : ∀ {ds : List Dat}, (∀ d, d ∈ ds → noLoc d = true) → noLocs ds = true
  | [], _ => rfl
  | d :: ds, h => by
    unfold noLocs
    rw [h d List.mem_cons_self, noLocs_of fun x hx => h x (List.mem_cons_of_mem _ hx)] <;> rfl
theorem St.up {k l : Nat} {d : Dat} (h : St k d) (j : k ≤ l) : St l d := ⟨h.1, fun S n hn => h.2 S n (by omega)⟩
theorem FrS.setNew {i n : Nat} {S0 S : List Dat} {d : Dat} (h : FrS i S0 S) (hn : S0.length ≤ n) : FrS i S0 (S.set n d) := ⟨by rw [List.length_set]; exact h.1, fun j l ne => by
  rw [List.getElem?_set_ne (by omega)]
  exact h.2 j l ne⟩
theorem Pot.newGet {i n k : Nat} {S : List Dat} (h : Pot i k S) (hn : S.length ≤ n) : n ≠ i := by
  obtain ⟨o, m, n', e, _⟩ := h
  have := (List.getElem?_eq_some_iff.mp e).1
  omega
/-- x.extend(a list) by its parts -/
theorem wp_ext {o : Env → M Dat} {l : Env → M (List Dat)} {n : Nat} {xs : List Dat} {C : Flow → List Dat → Prop} (ho : o ρ S = .ok (.loc n) S) (h0 : S[n]? = some (.lst xs))
    (h : wp (l ρ) S fun ds S1 => ∃ ys zs, ds = [.lst ys] ∧ S1[n]? = some (.lst zs) ∧ zs.length + ys.length ≤ 100000 ∧ C (.nx ρ) (S1.set n (.lst (zs ++ ys)))) : wp (sExtLo o l ρ) S C := by
  unfold sExtLo
  refine wp_bind (wp_of ho (wp_opt (a := n) rfl (wp_bind (wp_of (a := ()) (S' := S) ?_ (wp_bind (wp_mono h fun ds S1 z => ?_))))))
  · unfold needL isLst
    rw [h0]
  · obtain ⟨ys, zs, rfl, e, ly, k⟩ := z
    refine wp_opt (a := .lst ys) rfl ?_
    refine wp_of (a := .nx ρ) (S' := S1.set n (.lst (zs ++ ys))) ?_ k
    unfold extLo
    rw [e]
    dsimp only
    rw [decide_eq_true ly]
section
variable {ℓ : Nat} {S : List Dat}
theorem noLocs_at : ∀ {ds : List Dat}, noLocs ds = true → ∀ d, d ∈ ds → noLoc d = true
  | d :: ds, h, x, m => by
    unfold noLocs at h
    rw [Bool.and_eq_true] at h
    rcases List.mem_cons.mp m with m | m
    · rw [m]
      exact h.1
    · exact noLocs_at h.2 x m
mutual
theorem low_of {n : Nat} : ∀ (d : Dat), noLoc d = true → lowL n d = true
  | .loc _, h => by rw [noLoc] at h; cases h
  | .tup ds, h => by rw [noLoc] at h; rw [lowL]; exact lows_of ds h
  | .lst ds, h => by rw [noLoc] at h; rw [lowL]; exact lows_of ds h
  | .dic ks ds, h => by rw [noLoc] at h; rw [lowL]; exact lows_of ds h
  | .obj c fs ds, h => by rw [noLoc] at h; rw [lowL]; exact lows_of ds h
  | .non, _ => rfl
  | .bl _, _ => rfl
  | .int _, _ => rfl
  | .str _, _ => rfl
  | .ty _, _ => rfl
  | .cls _, _ => rfl
  | .scr _, _ => rfl
theorem lows_of {n : Nat} : ∀ (ds : List Dat), noLocs ds = true → lowLs n ds = true
  | [], _ => rfl
  | d :: ds, h => by
    rw [noLocs, Bool.and_eq_true] at h
    rw [lowLs, low_of d h.1, lows_of ds h.2]
    rfl
end
theorem take_nl {k : Nat} {S' : List Dat} (nl : noLocs S = true) (hp : Pot ℓ k S') (f : FrS ℓ S S') : noLocs (S'.take S.length) = true := noLocs_of fun d m => by
  obtain ⟨j, lj, e⟩ := List.mem_iff_getElem.mp m
  have e2 := List.getElem?_eq_some_iff.mpr ⟨lj, e⟩
  rw [List.length_take] at lj
  rw [List.getElem?_take, if_pos (by omega)] at e2
  by_cases c : j = ℓ
  · subst c
    obtain ⟨o, m', n, e3, _⟩ := hp
    rw [e3] at e2
    cases e2
    rfl
  · rw [f.2 j (by omega) c] at e2
    exact noLocs_at nl d (List.mem_of_getElem? e2)
theorem wp_callP {F : List Dat → M Dat} {ds : List Dat} {k0 k : Nat} {C : Dat → List Dat → Prop} (nl : noLocs S = true) (h0 : Pot ℓ k0 S) (h : wp (F ds) S fun d S' => Pot ℓ k S' ∧ FrS ℓ S S' ∧ ∃ e, frzN S' S.length 40 d = some e ∧ ∀ S2, Pot ℓ k S2 → noLocs S2 = true → FrS ℓ S S2 → C e S2) : wp (callP F ds) S C := by
  obtain ⟨d, S', eF, hp, f, e, ez, q⟩ := wp_ok h
  have l0 : ℓ < S.length := by
    obtain ⟨_, _, _, a, _⟩ := h0
    exact (List.getElem?_eq_some_iff.mp a).1
  have nt := take_nl nl hp f
  refine wp_of (a := e) (S' := S'.take S.length) ?_ (q _ ?_ nt ⟨by rw [List.length_take]; have := f.1; omega, fun j lj n => ?_⟩)
  · unfold callP
    rw [eF]
    dsimp only
    rw [decide_eq_true f.1, lows_of _ nt]
    show (match frzN S' S.length 40 d with | some e => Out.ok e (S'.take S.length) | none => .bad) = _
    rw [ez]
  · obtain ⟨o, m, n, a, r⟩ := hp
    exact ⟨o, m, n, by rw [List.getElem?_take, if_pos l0]; exact a, r⟩
  · rw [List.getElem?_take, if_pos lj]
    exact f.2 j lj n
theorem frzN_of {S' : List Dat} {m : Nat} : ∀ (n : Nat) (d : Dat), noLoc d = true → ∀ e, frz S' n d = some e → frzN S' m n d = some e
  | 0, _, _, _, h => by cases h
  | n + 1, d, nl, e, h => by
    have ih := fun d => frzN_of (S' := S') (m := m) n d
    have its : ∀ (ds es : List Dat), noLocs ds = true → frzs (frz S' n) ds = some es → frzs (frzN S' m n) ds = some es := by
      intro ds
      induction ds with
      | nil => intro es _ h; exact h
      | cons d ds ihs =>
        intro es nl h
        rw [noLocs, Bool.and_eq_true] at nl
        unfold frzs at h ⊢
        cases e1 : frz S' n d with
        | none => rw [e1] at h; cases h
        | some x =>
          rw [e1] at h
          rw [ih d nl.1 x e1]
          dsimp only at h ⊢
          cases e2 : frzs (frz S' n) ds with
          | none => rw [e2] at h; cases h
          | some xs =>
            rw [e2] at h
            rw [ihs xs nl.2 e2]
            exact h
    cases d with
    | loc k => rw [noLoc] at nl; cases nl
    | tup ds =>
      rw [noLoc] at nl
      unfold frz at h
      unfold frzN
      dsimp only at h ⊢
      cases e2 : frzs (frz S' n) ds with
      | none => rw [e2] at h; cases h
      | some xs => rw [e2] at h; rw [its ds xs nl e2]; exact h
    | lst ds =>
      rw [noLoc] at nl
      unfold frz at h
      unfold frzN
      dsimp only at h ⊢
      cases e2 : frzs (frz S' n) ds with
      | none => rw [e2] at h; cases h
      | some xs => rw [e2] at h; rw [its ds xs nl e2]; exact h
    | dic ks ds =>
      rw [noLoc] at nl
      unfold frz at h
      unfold frzN
      dsimp only at h ⊢
      cases e2 : frzs (frz S' n) ds with
      | none => rw [e2] at h; cases h
      | some xs => rw [e2] at h; rw [its ds xs nl e2]; exact h
    | obj c fs ds =>
      rw [noLoc] at nl
      unfold frz at h
      unfold frzN
      dsimp only at h ⊢
      cases e2 : frzs (frz S' n) ds with
      | none => rw [e2] at h; cases h
      | some xs => rw [e2] at h; rw [its ds xs nl e2]; exact h
    | _ => exact h
theorem noLocs_push {d : Dat} (nl : noLocs S = true) (h : noLoc d = true) : noLocs (S ++ [d]) = true := noLocs_of fun x m => by
  rcases List.mem_append.mp m with m | m
  · exact noLocs_at nl x m
  · rw [List.mem_singleton.mp m]
    exact h
def FrE (i : Nat) (S S' : List Dat) : Prop := FrS i S S' ∧ S'.length = S.length
theorem FrE.refl {i : Nat} {S : List Dat} : FrE i S S := ⟨.refl, rfl⟩
theorem FrE.trans {i : Nat} {S S1 S2 : List Dat} (h : FrE i S S1) (k : FrE i S1 S2) : FrE i S S2 := ⟨h.1.trans k.1, k.2.trans h.2⟩
theorem FrE.set {i : Nat} {S : List Dat} {d : Dat} : FrE i S (S.set i d) := ⟨.set, by rw [List.length_set]⟩
theorem w_takeE {i k : Nat} {S : List Dat} {u : Int} {C : Dat → List Dat → Prop} (h : Pot i (k + 1) S) (u0 : 0 < u) (u1 : u < 2 ^ 200) (q : ∀ r S', 0 ≤ r → r < u → Pot i k S' → FrE i S S' → C (.int r) S') : wp (L__law_take [.loc i, .int u]) S C := by
  obtain ⟨o, m, n, h, o0, m0, m1, n0, nk⟩ := h
  have i0 := ixLo_of h (k := 0) (x := Dat.int o) rfl
  have i2 := ixLo_of h (k := 2) (x := Dat.int n) rfl
  refine wp_run (wp_seq (wp_if (wp_test (wp_op (wp_op (wp_of (a := .loc i) (S' := S) rfl (wp_of (a := .int 0) (S' := S) rfl (wp_of i0 ?_))))))))
  refine wp_of (a := .int 0) (S' := S) rfl (wp_of (a := .bl (decide (0 < o))) (S' := S) rfl ⟨_, rfl, fun h0 => ?_, fun h0 => ?_⟩)
  · have h0 := of_decide_eq_true h0
    refine wp_seq (wp_asg (wp_op (wp_cb (wp_cons (wp_op (wp_of (a := .loc i) (S' := S) rfl (wp_of (a := .int 0) (S' := S) rfl (wp_of i0 (wp_nil (w_int ?_))))))))))
    refine wp_of (a := .int u) (S' := S) rfl (w_mod u0 ⟨_, rfl, ?_⟩)
    refine wp_seq (wp_setLo (i := i) (k := 0) (xs := [.int o, .int m, .int n]) (q := 0) rfl ?_)
    refine wp_op (wp_op (wp_of (a := .loc i) (S' := S) rfl (wp_of (a := .int 0) (S' := S) rfl (wp_of i0 ?_))))
    refine wp_of (a := .int u) (S' := S) rfl (w_div u0 u1 ?_)
    refine wp_of (a := .int 0) (S' := S) rfl ⟨rfl, h, rfl, ?_⟩
    refine wp_ret (wp_of rfl ?_)
    exact q _ _ (Int.emod_nonneg _ (by omega)) (Int.emod_lt_of_pos _ u0) ⟨_, _, _, set_get h, Int.ediv_nonneg o0 (by omega), m0, m1, n0, by omega⟩ .set
  · refine wp_of rfl ?_
    refine wp_seq (wp_setLo (i := i) (k := 2) (xs := [.int o, .int m, .int n]) (q := 2) rfl ?_)
    refine wp_op (wp_op (wp_of (a := .loc i) (S' := S) rfl (wp_of (a := .int 2) (S' := S) rfl (wp_of i2 ?_))))
    refine wp_of (a := .int 1) (S' := S) rfl (w_add ?_)
    refine wp_of (a := .int 2) (S' := S) rfl ⟨rfl, h, rfl, ?_⟩
    have g : (S.set i (Dat.lst [Dat.int o, Dat.int m, Dat.int (n + 1)]))[i]? = some (Dat.lst [Dat.int o, Dat.int m, Dat.int (n + 1)]) := set_get h
    have fr : FrE i S (S.set i (Dat.lst [Dat.int o, Dat.int m, Dat.int (n + 1)])) := .set
    show wp (sSeq _ _ _) (S.set i (Dat.lst [Dat.int o, Dat.int m, Dat.int (n + 1)])) _
    generalize S.set i (Dat.lst [Dat.int o, Dat.int m, Dat.int (n + 1)]) = S1 at g fr ⊢
    clear i0 i2
    have i0 := ixLo_of g (k := 0) (x := Dat.int o) rfl
    have i1 := ixLo_of g (k := 1) (x := Dat.int m) rfl
    have i2 := ixLo_of g (k := 2) (x := Dat.int (n + 1)) rfl
    have l5 : 0 ≤ (n + 1) % 5 ∧ (n + 1) % 5 < 5 := ⟨Int.emod_nonneg _ (by decide), Int.emod_lt_of_pos _ (by decide)⟩
    refine wp_seq (wp_asg (wp_op (wp_of (a := .lst [.int 2147483647, .int 2147483629, .int 2147483587, .int 2147483579, .int 2147483563]) (S' := S1) rfl (wp_op (wp_cb (wp_cons (wp_op (wp_of (a := .loc i) (S' := S1) rfl (wp_of (a := .int 2) (S' := S1) rfl (wp_of i2 (wp_nil (w_int ?_)))))))))))) 
    refine wp_of (a := .int 5) (S' := S1) rfl (w_mod (by decide) ?_)
    have pr : ∃ pr : Int, 2147483563 ≤ pr ∧ pr ≤ 2147483647 ∧ atI [Dat.int 2147483647, .int 2147483629, .int 2147483587, .int 2147483579, .int 2147483563] ((n + 1) % 5) = some (.int pr) := by
      generalize (n + 1) % 5 = i at l5 ⊢
      have : i = 0 ∨ i = 1 ∨ i = 2 ∨ i = 3 ∨ i = 4 := by omega
      rcases this with rfl | rfl | rfl | rfl | rfl <;> exact ⟨_, by decide, by decide, rfl⟩
    obtain ⟨pr, p0, p1, pe⟩ := pr
    refine wp_of (S' := S1) (show M.opt (atI [Dat.int 2147483647, .int 2147483629, .int 2147483587, .int 2147483579, .int 2147483563] ((n + 1) % 5)) S1 = .ok (.int pr) S1 by rw [pe]; rfl) ⟨_, rfl, ?_⟩
    have sq0 : 0 ≤ (n + 1) * (n + 1) := Int.mul_nonneg (by omega) (by omega)
    have sq1 : (n + 1) * (n + 1) ≤ 100000 * 100000 := Int.mul_le_mul (by omega) (by omega) (by omega) (by decide)
    have sq2 : 60089 * (n + 1) * (n + 1) = 60089 * ((n + 1) * (n + 1)) := Int.mul_assoc _ _ _
    repeat (first | with_reducible refine wp_par3 ?_ | with_reducible refine wp_par ?_ | with_reducible refine wp_seq ?_ | with_reducible refine wp_asg ?_ | with_reducible refine wp_ret ?_ | with_reducible refine wp_op ?_ | with_reducible refine wp_un ?_ | with_reducible refine wp_cb ?_ | with_reducible refine wp_cons ?_ | with_reducible refine wp_nil ?_ | with_reducible refine wp_c ?_ | with_reducible refine wp_andV ?_ | with_reducible refine wp_orV ?_ | with_reducible refine wp_notV ?_ | with_reducible refine wp_test ?_ | with_reducible refine wp_not ?_ | with_reducible refine wp_tup ?_ | with_reducible refine wp_lst ?_ | with_reducible refine wp_call ?_ | with_reducible refine w_add ?_ | with_reducible refine w_sub ?_ | with_reducible refine w_int ?_ | ((with_reducible show wp (xVar _ _) _ _); refine wp_var rfl ?_) | ((with_reducible show wp (dMul _ _) _ _); refine w_mul (by first | exact .inl (by omega) | exact .inr (by omega)) ?_) | ((with_reducible show wp (dMod _ _) _ _); refine w_mod (by omega) ?_) | ((with_reducible show wp (dDiv _ _) _ _); refine w_div (by omega) (by omega) ?_) | ((with_reducible show wp (dPow _ _) _ _); refine w_pow (by first | omega | (constructor <;> omega)) (by omega) ?_) | ((with_reducible show wp (dIxLo _ _) _ _); first | refine wp_of i0 ?_ | refine wp_of i1 ?_ | refine wp_of i2 ?_) | ((with_reducible show wp (dGt _ _) _ _); refine wp_of rfl ?_) | ((with_reducible show wp (dLen _) _ _); refine wp_of rfl ?_) | ((with_reducible show wp (dNeg _) _ _); refine wp_of rfl ?_) | ((with_reducible show wp (dEq _ _) _ _); refine wp_of rfl ?_) | refine ⟨Nat.le_of_ble_eq_true rfl, ?_⟩ | refine ⟨_, rfl, ?_⟩ | refine ⟨_, _, _, rfl, ?_⟩ | refine ⟨_, _, rfl, ?_⟩ | dsimp only)
    exact q _ _ (Int.emod_nonneg _ (by omega)) (Int.emod_lt_of_pos _ u0) ⟨_, _, _, g, o0, m0, m1, by omega, by omega⟩ fr
theorem w_ofE {k : Nat} {S : List Dat} {xs : List Dat} {C : Dat → List Dat → Prop} (h : Pot ℓ (k + 1) S) (l0 : 0 < xs.length) (l1 : xs.length ≤ 1000) (q : ∀ x S', x ∈ xs → Pot ℓ k S' → FrE ℓ S S' → C x S') : wp (L__law_of [.loc ℓ, .lst xs]) S C := by
  refine wp_run ?_
  repeat (first | with_reducible refine wp_par3 ?_ | with_reducible refine wp_par ?_ | with_reducible refine wp_seq ?_ | with_reducible refine wp_asg ?_ | with_reducible refine wp_ret ?_ | with_reducible refine wp_op ?_ | with_reducible refine wp_un ?_ | with_reducible refine wp_cb ?_ | with_reducible refine wp_cons ?_ | with_reducible refine wp_nil ?_ | with_reducible refine wp_c ?_ | with_reducible refine wp_andV ?_ | with_reducible refine wp_orV ?_ | with_reducible refine wp_notV ?_ | with_reducible refine wp_test ?_ | with_reducible refine wp_not ?_ | with_reducible refine wp_tup ?_ | with_reducible refine wp_lst ?_ | with_reducible refine wp_call ?_ | with_reducible refine w_add ?_ | with_reducible refine w_sub ?_ | with_reducible refine w_int ?_ | ((with_reducible show wp (xVar _ _) _ _); refine wp_var rfl ?_) | ((with_reducible show wp (dMul _ _) _ _); refine w_mul (by first | exact .inl (by omega) | exact .inr (by omega)) ?_) | ((with_reducible show wp (dMod _ _) _ _); refine w_mod (by omega) ?_) | ((with_reducible show wp (dDiv _ _) _ _); refine w_div (by omega) (by omega) ?_) | ((with_reducible show wp (dPow _ _) _ _); refine w_pow (by first | omega | (constructor <;> omega)) (by omega) ?_) | ((with_reducible show wp (dIxLo _ _) _ _); refine wp_of rfl ?_) | ((with_reducible show wp (dGt _ _) _ _); refine wp_of rfl ?_) | ((with_reducible show wp (dLen _) _ _); refine wp_of rfl ?_) | ((with_reducible show wp (dNeg _) _ _); refine wp_of rfl ?_) | ((with_reducible show wp (dEq _ _) _ _); refine wp_of rfl ?_) | refine ⟨Nat.le_of_ble_eq_true rfl, ?_⟩ | refine ⟨_, rfl, ?_⟩ | refine ⟨_, _, _, rfl, ?_⟩ | refine ⟨_, _, rfl, ?_⟩ | dsimp only)
  refine w_takeE h (by omega) (by omega) fun r S' r0 r1 hp fr => ?_
  obtain ⟨x, ex, mx⟩ := at_nat r0 r1
  refine wp_of (show M.opt (atI xs r) S' = .ok x S' by rw [ex]; rfl) ?_
  exact q x S' mx hp fr
theorem w_ofSE {k : Nat} {S : List Dat} {C : Dat → List Dat → Prop} (ss : List Str) (h : Pot ℓ (k + 1) S) (l0 : 0 < ss.length) (l1 : ss.length ≤ 1000) (q : ∀ x S', x ∈ ss → Pot ℓ k S' → FrE ℓ S S' → C (.str x) S') : wp (L__law_of [.loc ℓ, .lst (ss.map .str)]) S C :=
  w_ofE h (by rw [List.length_map]; exact l0) (by rw [List.length_map]; exact l1) fun x S' mx hp fr => by
    obtain ⟨s, ms, rfl⟩ := List.mem_map.mp mx
    exact q s S' ms hp fr
end
/-- a comprehension whose test may draw -/
theorem wp_compT {g : Env → Dat → Option Env} {c : Env → M Bool} {e : Env → M Dat} {ρ : Env} (I : List Dat → List Dat → List Dat → Prop)
    (step : ∀ d ds acc S, I (d :: ds) acc S → ∃ ρ1, g ρ d = some ρ1 ∧ wp (c ρ1) S fun b S1 => (b = true → wp (e ρ1) S1 fun x S' => I ds (acc ++ [x]) S') ∧ (b = false → I ds acc S1)) : ∀ (ds acc : List Dat) (S : List Dat) (C : List Dat → List Dat → Prop), I ds acc S → (∀ xs S', I [] (acc ++ xs) S' → C xs S') → wp (compD g c e ρ ds) S C
  | [], acc, S, C, h, k => k [] S (by rw [List.append_nil]; exact h)
  | d :: ds, acc, S, C, h, k => by
    obtain ⟨ρ1, e1, h1⟩ := step d ds acc S h
    unfold compD
    refine wp_opt e1 (wp_bind (wp_mono h1 fun b S1 h2 => ?_))
    cases b with
    | true =>
      rw [if_pos rfl]
      refine wp_bind (wp_mono (h2.1 rfl) fun x S' h3 => wp_bind (wp_compT I step ds (acc ++ [x]) S' _ h3 fun xs S2 h4 => ?_))
      exact k (x :: xs) S2 (by rw [List.append_assoc] at h4; exact h4)
    | false =>
      rw [if_neg nofun]
      exact wp_compT I step ds acc S1 C (h2.2 rfl) k
section
variable {ℓ : Nat} {S : List Dat} {ρ : Env}
/-- tests that draw -/
theorem w_teq {r : Env} {n : Int} (h0 : 0 < n) (h1 : n ≤ 1000) : ∀ (k : Nat) (S : List Dat), Pot ℓ (k + 1) S → wp (bTest (xOp dEq (xCall L__law_take (xCons (xVar 0) (xCons (xC (.int n)) xNil))) (xC (.int 0))) (some (.loc ℓ) :: r)) S fun _ S' => Pot ℓ k S' ∧ FrE ℓ S S' := fun k S h => by
  refine wp_test (wp_op (wp_call (wp_cons (wp_of (a := .loc ℓ) (S' := S) rfl (wp_cons (wp_of (a := .int n) (S' := S) rfl (wp_nil ?_)))))))
  refine w_takeE h h0 (by omega) fun r S1 r0 r1 hp1 f1 => ?_
  exact wp_of (a := .int 0) (S' := S1) rfl (wp_of (a := .bl (decide (r = 0))) (S' := S1) eqI_at ⟨_, rfl, hp1, f1⟩)
theorem FrE.nl {k : Nat} {S' : List Dat} (nl : noLocs S = true) (hp : Pot ℓ k S') (f : FrE ℓ S S') : noLocs S' = true := by
  have h := take_nl nl hp f.1
  rw [← f.2, List.take_length] at h
  exact h
end
def PyS (k : Nat) (d : Dat) : Prop := ∃ y, toPy d = some y ∧ y.canLay0 = true ∧ y.depth ≤ k
theorem pys_list {k : Nat} : ∀ {ds : List Dat}, (∀ d, d ∈ ds → PyS k d) → ∃ ys, toPys ds = some ys ∧ PyData.canLayAll0 ys = true ∧ PyData.depthAll ys ≤ k ∧ ys.length = ds.length
  | [], _ => ⟨[], by rw [toPys], rfl, Nat.zero_le _, rfl⟩
  | d :: ds, h => by
    obtain ⟨y, e, c, l⟩ := h d List.mem_cons_self
    obtain ⟨ys, e2, c2, l2, n⟩ := pys_list fun x hx => h x (List.mem_cons_of_mem _ hx)
    refine ⟨y :: ys, ?_, ?_, ?_, by rw [List.length_cons, List.length_cons, n]⟩
    · rw [toPys, e, e2] <;> rfl
    · rw [PyData.canLayAll0, c, c2] <;> rfl
    · rw [PyData.depthAll]
      exact Nat.max_le.mpr ⟨l, l2⟩
def okS (s : Str) : Prop := (PyData.str s).canLay0 = true
instance {s : Str} : Decidable (okS s) := by unfold okS; infer_instance
structure Shw (n b : Nat) (y : PyData) : Prop where
  sh : y.showable = true
  dp : y.depth ≤ n
  ls : y.leavesShort 24 = true
  bk : y.bulk ≤ b
structure Shws (n b : Nat) (ys : List PyData) : Prop where
  sh : PyData.showableAll ys = true
  dp : PyData.depthAll ys ≤ n
  ls : PyData.leavesShortAll 24 ys = true
  bk : PyData.bulkAll ys ≤ b
theorem Shws.nil {n : Nat} : Shws n 0 [] := ⟨by simp only [PyData.showableAll], by simp only [PyData.depthAll, Nat.zero_le], by simp only [PyData.leavesShortAll], by simp only [PyData.bulkAll, Nat.le_refl]⟩
theorem Shws.cons {n b c : Nat} {y : PyData} {ys : List PyData} (h : Shw n b y) (k : Shws n c ys) : Shws n (b + 1 + c) (y :: ys) :=
  ⟨by simp only [PyData.showableAll, h.sh, k.sh, Bool.and_self], by simp only [PyData.depthAll]; exact Nat.max_le.mpr ⟨h.dp, k.dp⟩, by simp only [PyData.leavesShortAll, h.ls, k.ls, Bool.and_self], by simp only [PyData.bulkAll]; have := h.bk; have := k.bk; omega⟩
theorem Shws.tup {n b : Nat} {ys : List PyData} (h : Shws n b ys) : Shw (n + 1) b (.tuple ys) :=
  ⟨by simp only [PyData.showable]; exact h.sh, by simp only [PyData.depth]; have := h.dp; omega, by simp only [PyData.leavesShort]; exact h.ls, by simp only [PyData.bulk]; exact h.bk⟩
theorem Shws.lst {n b : Nat} {ys : List PyData} (h : Shws n b ys) : Shw (n + 1) b (.list ys) :=
  ⟨by simp only [PyData.showable]; exact h.sh, by simp only [PyData.depth]; have := h.dp; omega, by simp only [PyData.leavesShort]; exact h.ls, by simp only [PyData.bulk]; exact h.bk⟩
theorem Shw.le {n b m c : Nat} {y : PyData} (h : Shw n b y) (h1 : n ≤ m) (h2 : b ≤ c) : Shw m c y := ⟨h.sh, Nat.le_trans h.dp h1, h.ls, Nat.le_trans h.bk h2⟩
theorem Shws.le {n b m c : Nat} {y : List PyData} (h : Shws n b y) (h1 : n ≤ m) (h2 : b ≤ c) : Shws m c y := ⟨h.sh, Nat.le_trans h.dp h1, h.ls, Nat.le_trans h.bk h2⟩
theorem shw_non : Shw 0 20 .none := ⟨by simp only [PyData.showable], by simp only [PyData.depth, Nat.le_refl], by simp only [PyData.leavesShort], by simp only [PyData.bulk]; decide⟩
theorem shw_bl {b : Bool} : Shw 0 20 (.bool b) := ⟨by simp only [PyData.showable], by simp only [PyData.depth, Nat.le_refl], by simp only [PyData.leavesShort], by simp only [PyData.bulk]; decide⟩
theorem log_lt {i : Int} (h : -(10 ^ 20) < i ∧ i < 10 ^ 20) : i.natAbs.log2 < 1920 := by
  by_cases z : i.natAbs = 0
  · rw [z]; decide
  · rw [Nat.log2_lt z]
    have : i.natAbs ≤ 10 ^ 20 := by omega
    exact Nat.lt_of_le_of_lt this (by decide +kernel)
theorem shw_int {i : Int} (h : -(10 ^ 20) < i ∧ i < 10 ^ 20) : Shw 0 20 (.int i) := by
  refine ⟨by simp only [PyData.showable]; exact decide_eq_true (log_lt h), by simp only [PyData.depth, Nat.le_refl], ?_, by simp only [PyData.bulk]; decide⟩
  simp only [PyData.leavesShort, PyData.shown]
  have := PySem.int_text_length_le10 (a := i) (k := 20) (by decide) (by omega)
  refine decide_eq_true ?_
  rw [PySem.ofString_length]
  omega
def strB (s : Str) : Bool := (s.cps.toList.all fun c => decide (c < 16 ^ 8)) && decide (s.cps.size ≤ 20)
theorem shw_str {s : Str} (h : strB s = true) : Shw 0 20 (.str s) := by
  unfold strB at h
  rw [Bool.and_eq_true, decide_eq_true_eq] at h
  exact ⟨by simp only [PyData.showable], by simp only [PyData.depth, Nat.le_refl], by simp only [PyData.leavesShort]; exact h.1, by simp only [PyData.bulk]; exact h.2⟩
def lg (d : Dat) : Prop := (∃ s : Str, d = .str s ∧ strB s = true ∧ okS s) ∨ (∃ i : Int, d = .int i ∧ -(10 ^ 20) < i ∧ i < 10 ^ 20) ∨ d = .non ∨ ∃ b, d = .bl b
def Gd : Nat → Dat → Prop
  | 0, d => lg d
  | n + 1, d => lg d ∨ ∃ ds, (d = .tup ds ∨ d = .lst ds) ∧ ds.length ≤ 8 ∧ ∀ x ∈ ds, Gd n x
theorem Gd.up : ∀ {n : Nat} {d : Dat}, Gd n d → Gd (n + 1) d
  | 0, _, h => .inl h
  | n + 1, _, .inl h => .inl h
  | n + 1, _, .inr ⟨ds, e, l, h⟩ => .inr ⟨ds, e, l, fun x m => (h x m).up⟩
theorem Gd.tup {n : Nat} {ds : List Dat} (l : ds.length ≤ 8) (h : ∀ x ∈ ds, Gd n x) : Gd (n + 1) (.tup ds) := .inr ⟨ds, .inl rfl, l, h⟩
theorem Gd.lst {n : Nat} {ds : List Dat} (l : ds.length ≤ 8) (h : ∀ x ∈ ds, Gd n x) : Gd (n + 1) (.lst ds) := .inr ⟨ds, .inr rfl, l, h⟩
def bb : Nat → Nat
  | 0 => 20
  | n + 1 => 8 * (bb n + 1)
theorem bb_le : ∀ n, bb n ≤ bb (n + 1)
  | 0 => by decide
  | n + 1 => by
    have := bb_le n
    show 8 * (bb n + 1) ≤ 8 * (bb (n + 1) + 1)
    omega
theorem bb20 : ∀ n, 20 ≤ bb n
  | 0 => Nat.le_refl _
  | n + 1 => Nat.le_trans (bb20 n) (bb_le n)
structure Swy (n b : Nat) (y : PyData) : Prop where
  s : Shw n b y
  d : y.hasDict = false
  c : y.canLay0 = true
abbrev Sw (n : Nat) (d : Dat) : Prop := ∃ y, toPy d = some y ∧ Swy (n + 1) (bb n) y
theorem lg_s {n : Nat} {d : Dat} (h : lg d) : Sw n d := by
  rcases h with ⟨s, rfl, m⟩ | ⟨i, rfl, l⟩ | rfl | ⟨b, rfl⟩
  · exact ⟨.str s, rfl, (shw_str m.1).le (Nat.zero_le _) (bb20 n), rfl, m.2⟩
  · exact ⟨.int i, rfl, (shw_int l).le (Nat.zero_le _) (bb20 n), rfl, rfl⟩
  · exact ⟨.none, rfl, shw_non.le (Nat.zero_le _) (bb20 n), rfl, rfl⟩
  · exact ⟨.bool b, rfl, shw_bl.le (Nat.zero_le _) (bb20 n), rfl, rfl⟩
theorem sw_all {n b : Nat} : ∀ (ds : List Dat), (∀ x ∈ ds, ∃ y, toPy x = some y ∧ Swy n b y) → ∃ ys, toPys ds = some ys ∧ Shws n (ds.length * (b + 1)) ys ∧ PyData.hasDictAll ys = false ∧ PyData.canLayAll0 ys = true ∧ ys.length = ds.length
  | [], _ => ⟨[], rfl, Shws.nil.le (Nat.le_refl _) (Nat.zero_le _), rfl, rfl, rfl⟩
  | d :: ds, h => by
    obtain ⟨y, e, s, k, c⟩ := h d List.mem_cons_self
    obtain ⟨ys, es, ss, ks, cs, l⟩ := sw_all ds fun x m => h x (List.mem_cons_of_mem _ m)
    refine ⟨y :: ys, ?_, (Shws.cons s ss).le (Nat.le_refl _) ?_, ?_, ?_, by rw [List.length_cons, List.length_cons, l]⟩
    · rw [toPys, e, es]; rfl
    · rw [List.length_cons, Nat.add_mul]; omega
    · simp only [PyData.hasDictAll, k, ks, Bool.or_self]
    · simp only [PyData.canLayAll0, c, cs, Bool.and_self]
/-- a tuple of at most k -/
theorem sw_tup {n b k : Nat} {ds : List Dat} (l : ds.length ≤ k) (h : ∀ x ∈ ds, ∃ y, toPy x = some y ∧ Swy n b y) : ∃ y, toPy (.tup ds) = some y ∧ Swy (n + 1) (k * (b + 1)) y := by
  obtain ⟨ys, es, s, q, c, _⟩ := sw_all ds h
  exact ⟨.tuple ys, by rw [toPy, es]; rfl, s.tup.le (Nat.le_refl _) (Nat.mul_le_mul_right _ l), by simp only [PyData.hasDict]; exact q, by simp only [PyData.canLay0]; exact c⟩
theorem sw_le {n b m c : Nat} {d : Dat} (h : ∃ y, toPy d = some y ∧ Swy n b y) (h1 : n ≤ m) (h2 : b ≤ c) : ∃ y, toPy d = some y ∧ Swy m c y := by
  obtain ⟨y, e, s, q, c⟩ := h
  exact ⟨y, e, s.le h1 h2, q, c⟩
theorem sw_repr {n b : Nat} {d : Dat} (h : ∃ y, toPy d = some y ∧ Swy n b y) (hn : n ≤ 10) (hb : b ≤ 86600) : ∃ z : Str, ∀ S, dRepr2 [d] S = .ok (.str z) S := by
  obtain ⟨y, e, s, k, _⟩ := h
  have l : y.shown.length ≤ sizeLine := by
    have := PyData.shown_le_bulk 24 (by decide) y s.ls
    have := s.bk
    rw [sizeLine_eq]
    omega
  have o : okShow y = true := by
    have s1 := s.sh
    have dp := s.dp
    unfold okShow
    rw [s1, k, decide_eq_true (show y.depth ≤ 64 by omega), decide_eq_true l]
    cases y with
    | int i => simp only [PyData.showable] at s1; simp only [s1]; rfl
    | _ => rfl
  refine ⟨y.shown, fun S => ?_⟩
  unfold dRepr2
  simp only [e, o]
  rfl
theorem toPy_tup {ds : List Dat} {y : PyData} (h : toPy (.tup ds) = some y) : ∃ ys, toPys ds = some ys ∧ y = .tuple ys := by
  rw [toPy] at h
  cases q : toPys ds with
  | none => rw [q] at h; cases h
  | some ys => rw [q] at h; cases h; exact ⟨ys, rfl, rfl⟩
theorem toPy_lst {ds : List Dat} {y : PyData} (h : toPy (.lst ds) = some y) : ∃ ys, toPys ds = some ys ∧ y = .list ys := by
  rw [toPy] at h
  cases q : toPys ds with
  | none => rw [q] at h; cases h
  | some ys => rw [q] at h; cases h; exact ⟨ys, rfl, rfl⟩
theorem toPys_two {d : Dat} {ds : List Dat} {ys : List PyData} (h : toPys (d :: ds) = some ys) : ∃ x xs, toPy d = some x ∧ toPys ds = some xs ∧ ys = x :: xs := by
  rw [toPys] at h
  cases q : toPy d with
  | none => rw [q] at h; cases h
  | some x =>
    rw [q] at h
    cases q2 : toPys ds with
    | none => rw [q2] at h; cases h
    | some xs => rw [q2] at h; cases h; exact ⟨x, xs, rfl, rfl, rfl⟩
section
variable {S : List Dat} {k : Nat} {d e : Dat} {b : Bool}
theorem PyS.shp (h : PyS k d) (hk : k ≤ 64) : ∃ y, toPy d = some y ∧ Zd.shp y = true ∧ y.canLay0 = true := by
  obtain ⟨y, e, c, l⟩ := h
  refine ⟨y, e, ?_, c⟩
  unfold Zd.shp SeqAt.shaped
  rw [c, decide_eq_true (show y.depth ≤ 64 by omega)]
  rfl
theorem PyS.le {j : Nat} (h : PyS j d) (l : j ≤ k) : PyS k d := by
  obtain ⟨y, e, c, q⟩ := h
  exact ⟨y, e, c, by omega⟩
end
section
variable {S : List Dat} {ρ : Env}
theorem wp_seqA {a b : Env → M Flow} {ρ' : Env} {S1 : List Dat} {C : Flow → List Dat → Prop} (h : a ρ S = .ok (.nx ρ') S1) (k : wp (b ρ') S1 C) : wp (sSeq a b ρ) S C := wp_seq (wp_of h k)
/-- the same, kept closed -/
@[irreducible] def wpS (b : Env → M Flow) (ρ : Env) (S : List Dat) (C : Flow → List Dat → Prop) : Prop := wp (b ρ) S C
theorem wpS_in {b : Env → M Flow} {C : Flow → List Dat → Prop} (h : wp (b ρ) S C) : wpS b ρ S C := by
  unfold wpS
  exact h
theorem wpS_out {b : Env → M Flow} {C : Flow → List Dat → Prop} (h : wpS b ρ S C) : wp (b ρ) S C := by
  unfold wpS at h
  exact h
theorem wpS_for {it : Env → M (List Dat)} {g : Env → Dat → Option Env} {b c : Env → M Flow} {ds : List Dat} {S1 : List Dat} {C : Flow → List Dat → Prop} (h : it ρ S = .ok ds S1) (k : wp (forD g b ds ρ) S1 fun f S' => match f with | .nx ρ' => wpS c ρ' S' C | g => C g S') : wpS (sSeq (sFor it g b) c) ρ S C := by
  refine wpS_in (wp_seq (wp_bind (wp_of h (wp_mono k fun f S' z => ?_))))
  cases f with
  | nx ρ' => exact wpS_out z
  | _ => exact z
end
end Zd
namespace Zd
open PySem PySem.Spec PyProof.Rows L2 Zg
abbrev Ki := Int × Int
def kP (q : Ki) : Dat := .tup [.int q.1, .int q.2]
def kindO (q : Ki) : Dat := .obj "Kind" ["low", "high", "size"] [.int q.1, .int q.2, .int (q.2 - q.1 + 1)]
def elderD : Dat := .tup [.str "narrow", .tup [.tup [.str "id", .str "narrow", .tup []]], .tup [.tup [.str "id", .str "narrow", .str "cut", .str "", .int 1]]]
def laterD (h : Str) : Dat := .tup [.str "narrow", .tup [.tup [.str "id", .str "narrow", .tup []]], .tup [.tup [.str "id", .str h, .str "cut", .str "", .int 2]]]
def pgs : Bool → Dat
  | true => .tup [.tup [.str "desk", .tup [elderD, laterD "narrow first"]], .tup [.str "shop", .tup [elderD, elderD, laterD "wide first"]]]
  | false => .tup [.tup [.str "shop", .tup [elderD, laterD "narrow first", laterD "wide first"]]]
def latL : Bool → List (Str × Int)
  | true => [("desk", 1), ("shop", 2)]
  | false => [("shop", 1), ("shop", 2)]
def latD (p : Str × Int) : Dat := .tup [.str p.1, .int p.2]
def wdD (kk : Ki × Ki) (b : Bool) : Dat := .dic [.inr "narrow", .inr "wide", .inr "columns", .inr "programs"] [kP kk.1, kP kk.2, .tup [.str "id"], pgs b]
def woD (kk : Ki × Ki) (b : Bool) : Dat := .obj "World" ["narrow", "wide", "columns", "programs"] [kindO kk.1, kindO kk.2, .tup [.str "id"], pgs b]
def kL : List (Ki × Ki) := [((0, 15), (0, 99)), ((0, 255), (0, 65535)), ((-8, 20), (-9, 400))]
def kbL : List ((Ki × Ki) × Bool) := kL.flatMap fun k => [(k, true), (k, false)]
theorem made_all (S : List Dat) : (kbL.map fun q => callF L__law_made [wdD q.1 q.2] S) = kbL.map fun q => .ok (woD q.1 q.2) S := by kernel_rfl
theorem kb_in {kk : Ki × Ki} (h : kk ∈ kL) (b : Bool) : (kk, b) ∈ kbL := List.mem_flatMap.mpr ⟨kk, h, by cases b <;> simp⟩
theorem made_F {kk : Ki × Ki} {b : Bool} {S : List Dat} (h : kk ∈ kL) : callF L__law_made [wdD kk b] S = .ok (woD kk b) S := map_eq (made_all S) (kk, b) (kb_in h b)
def triD (p : Str × Int) (w : Str) : Dat := .tup [.str p.1, .int p.2, .str w]
def rights (b : Bool) : List Dat := (latL b).flatMap fun p => (["same", "old", "far", "cut"] : List Str).map (triD p)
def odds1 (p : Str × Int) : List Dat := [triD p "none", triD p "cut", triD p "far", triD p "old", .tup [.str p.1, .int p.2, .non], .tup [.str p.1, .int p.2], .lst [.str p.1, .int p.2, .str "old"], triD (p.1, 0) "old", triD (p.1, 9) "old", triD ("zz", 1) "old", .tup [.str p.1, .bl true, .str "old"]]
def lates (b : Bool) : List Dat := rights b ++ (latL b).flatMap odds1
def cutw : Dat → Bool
  | .tup [_, _, .str w] => w == "cut"
  | _ => false
def lateP (b : Bool) : Dat → Bool
  | .tup [.str p, .int n, .str w] => ((["same", "cut", "old", "far"] : List Str).any fun z => z == w) && ((latL b).any fun q => q.1 == p && decide (q.2 = n))
  | _ => false
def lateO (b : Bool) (great : Bool) (d : Dat) : Bool := lateP b d && (great || !cutw d)
def lpL : List (Bool × Dat) := (lates true).map (fun d => (true, d)) ++ (lates false).map fun d => (false, d)
theorem lp_in {b : Bool} {d : Dat} (h : d ∈ lates b) : (b, d) ∈ lpL := by
  cases b with
  | true => exact List.mem_append_left _ (List.mem_map.mpr ⟨d, h, rfl⟩)
  | false => exact List.mem_append_right _ (List.mem_map.mpr ⟨d, h, rfl⟩)
theorem late_all (kk : Ki × Ki) (S : List Dat) : (lpL.map fun q => L__is_late [woD kk q.1, q.2] S) = lpL.map fun q => .ok (.bl (lateP q.1 q.2)) S := by kernel_rfl
theorem ownG_all (kk : Ki × Ki) (S : List Dat) : (lpL.map fun q => L__law_is_own_late [wdD kk q.1, .str "great", q.2] S) = lpL.map fun q => .ok (.bl (lateO q.1 true q.2)) S := by kernel_rfl
theorem ownS_all (kk : Ki × Ki) (S : List Dat) : (lpL.map fun q => L__law_is_own_late [wdD kk q.1, .str "small", q.2] S) = lpL.map fun q => .ok (.bl (lateO q.1 false q.2)) S := by kernel_rfl
def ltB (x y : Dat) : Bool := match toPy x, toPy y with
  | some p, some q => PySem.W.dataLt p q
  | _, _ => false
def rpL : List (Dat × Dat) := (rights true).flatMap (fun x => (rights true).map fun y => (x, y)) ++ (rights false).flatMap fun x => (rights false).map fun y => (x, y)
theorem rp_in {b : Bool} {x y : Dat} (hx : x ∈ rights b) (hy : y ∈ rights b) : (x, y) ∈ rpL := by
  cases b with
  | true => exact List.mem_append_left _ (List.mem_flatMap.mpr ⟨x, hx, List.mem_map.mpr ⟨y, hy, rfl⟩⟩)
  | false => exact List.mem_append_right _ (List.mem_flatMap.mpr ⟨x, hx, List.mem_map.mpr ⟨y, hy, rfl⟩⟩)
theorem lt_all (S : List Dat) : (rpL.map fun q => dLtD q.1 q.2 S) = rpL.map fun q => .ok (.bl (ltB q.1 q.2)) S := by kernel_rfl
def wrk (w : Str) : Nat := if w = "cut" then 0 else if w = "far" then 1 else if w = "old" then 2 else 3
/-- the place of a late one in their order -/
def rk : Dat → Nat
  | .tup [.str p, .int n, .str w] => 8 * (if p = "desk" then 0 else n.toNat) + wrk w
  | _ => 0
theorem lt_rk : (rpL.map fun q => ltB q.1 q.2) = rpL.map fun q => decide (rk q.1 < rk q.2) := by kernel_rfl
section
variable {b : Bool} {x y d : Dat} {S : List Dat} {kk : Ki × Ki} {ds : List Dat} {ρ : Env}
theorem lt_at (hx : x ∈ rights b) (hy : y ∈ rights b) : dLtD x y S = .ok (.bl (decide (rk x < rk y))) S := by
  have e := map_eq (lt_all S) (x, y) (rp_in hx hy)
  have e2 : ltB x y = decide (rk x < rk y) := map_eq lt_rk (x, y) (rp_in hx hy)
  dsimp only at e
  rw [e, e2]
theorem rights_all : (lpL.all fun q => !lateP q.1 q.2 || (rights q.1).any fun z => dBeq q.2 z) = true := by kernel_rfl
theorem right_of (h : d ∈ lates b) (p : lateP b d = true) : d ∈ rights b := by
  have a := List.all_eq_true.mp rights_all (b, d) (lp_in h)
  dsimp only at a
  rw [p] at a
  obtain ⟨z, mz, e⟩ := List.any_eq_true.mp (show ((rights b).any fun z => dBeq d z) = true from a)
  rw [dBeq_eq _ _ e]
  exact mz
theorem lates_of (h : d ∈ rights b) : d ∈ lates b := List.mem_append_left _ h
theorem right_P_all : ([true, false].all fun b => (rights b).all fun d => lateP b d) = true := by kernel_rfl
theorem right_P (h : d ∈ rights b) : lateP b d = true := by
  have a := List.all_eq_true.mp right_P_all b (by cases b <;> simp)
  exact List.all_eq_true.mp a d h
theorem right_sh (h : d ∈ rights b) : ∃ p n w, d = .tup [.str p, .int n, .str w] := by
  obtain ⟨q, _, m⟩ := List.mem_flatMap.mp h
  obtain ⟨w, _, rfl⟩ := List.mem_map.mp m
  exact ⟨_, _, _, rfl⟩
def ascB : List Dat → Bool
  | x :: y :: r => decide (rk x < rk y) && ascB (y :: r)
  | _ => true
/-- all of bools, any of bools -/
theorem comp_bl {g : Env → Dat → Option Env} {e : Env → M Dat} {F : Dat → Bool} (h : ∀ d, d ∈ ds → ∃ ρ1, g ρ d = some ρ1 ∧ e ρ1 S = .ok (.bl (F d)) S) : compD g bYes e ρ ds S = .ok ((ds.map F).map .bl) S := by
  have c := comp_fmG (S := S) (ρ := ρ) (g := g) (c := bYes) (e := e) (F := fun d => some (.bl (F d))) (ds := ds) fun d m => by
    obtain ⟨ρ1, e1, e2⟩ := h d m
    exact ⟨ρ1, e1, rfl, fun y ey => by cases ey; exact e2⟩
  have e : List.filterMap (some ∘ fun d => Dat.bl (F d)) ds = (ds.map F).map .bl := by
    rw [List.filterMap_eq_map, List.map_map]
    rfl
  rw [c]
  exact congrArg (fun z => Out.ok z S) e
theorem allb_at {it : Env → M (List Dat)} {g : Env → Dat → Option Env} {e : Env → M Dat} {vs : List Nat} {F : Dat → Bool} (hi : it ρ S = .ok ds S) (l : ds.length ≤ 1000) (h : ∀ d, d ∈ ds → ∃ ρ1, g (wipeE ρ vs) d = some ρ1 ∧ e ρ1 S = .ok (.bl (F d)) S) : xCB dAll (xCons (xLc it g bYes e vs) xNil) ρ S = .ok (.bl (ds.all F)) S := by
  refine cb_at (S1 := S) (one_at (xlc_at hi l (comp_bl h))) ?_
  rw [all_of]
  rw [List.all_map]
  rfl
def prB : Dat → Bool
  | .tup [x, y] => decide (rk x < rk y)
  | _ => true
theorem zip_asc : ∀ ds : List Dat, (zipD ds (ds.drop 1)).all prB = ascB ds
  | [] => rfl
  | [x] => rfl
  | x :: y :: r => by
    have ih := zip_asc (y :: r)
    show (prB (.tup [x, y]) && (zipD (y :: r) r).all prB) = _
    have ih : (zipD (y :: r) r).all prB = ascB (y :: r) := ih
    rw [ih]
    rfl
theorem zip_in {p : Dat} : ∀ {xs ys : List Dat}, p ∈ zipD xs ys → ∃ x y, x ∈ xs ∧ y ∈ ys ∧ p = .tup [x, y] := fun {xs ys} h => by
  unfold zipD at h
  obtain ⟨⟨x, y⟩, m, rfl⟩ := List.mem_map.mp h
  exact ⟨x, y, (List.of_mem_zip m).1, (List.of_mem_zip m).2, rfl⟩
theorem cut1 {ds : List Dat} : cutD ds (some 1) none = ds.drop 1 := by
  unfold cutD
  cases ds with
  | nil =>
    rw [List.drop_nil, List.drop_nil, List.take_nil]
  | cons d r =>
    have e1 : HT.sIx (d :: r).length 0 (some 1) = 1 := by
      rw [List.length_cons]
      unfold HT.sIx
      simp
    rw [HT.sIx_none, e1, List.length_cons, Nat.add_sub_cancel, List.drop_succ_cons, List.drop_zero, List.take_length]
theorem asc_it {i : Nat} (v : xVar i ρ S = .ok (.tup ds) S) : iZipM (xCons (xVar i) (xCons (jSl dCutT (xVar i) (oSome (xC (.int 1))) oNone) xNil)) ρ S = .ok (zipD ds (ds.drop 1)) S := by
  have c : jSl dCutT (xVar i) (oSome (xC (.int 1))) oNone ρ S = .ok (.tup (ds.drop 1)) S := by
    unfold jSl
    rw [m_bind, v]
    show Out.ok (Dat.tup (cutD ds (some 1) none)) S = _
    rw [cut1]
  unfold iZipM
  rw [m_bind, cons_at (S1 := S) v (one_at c)]
  rfl
theorem zip_lenX : (zipD ds (ds.drop 1)).length ≤ ds.length := by
  rw [zip_len]
  exact Nat.min_le_left _ _
theorem l_asc (h : ∀ d, d ∈ ds → d ∈ rights b) (l : ds.length ≤ 100) : L_is_ascendingD [.tup ds] S = .ok (.bl (ascB ds)) S := by
  have zl := zip_lenX (ds := ds)
  refine run_at (ret_at ?_)
  rw [← zip_asc]
  refine allb_at (asc_it rfl) (by omega) fun p m => ?_
  obtain ⟨x, y, mx, my, rfl⟩ := zip_in m
  exact ⟨_, rfl, op_at (S := S) (x := x) (y := y) rfl rfl (lt_at (h x mx) (h y (List.mem_of_mem_drop my)))⟩
/-- what can stand in the place of the late ones -/
inductive LateV (b : Bool) : Dat → Prop where
  | tup (ds : List Dat) (h : ∀ d, d ∈ ds → d ∈ lates b) (l : ds.length ≤ 100) : LateV b (.tup ds)
  | lst (ds : List Dat) : LateV b (.lst ds)
  | non : LateV b .non
def areB (b : Bool) : Dat → Bool
  | .tup ds => ds.all (lateP b) && ascB ds
  | _ => false
theorem l_areL {l : Dat} (h : LateV b l) : L__are_late [woD kk b, l] S = .ok (.bl (areB b l)) S := by
  cases h with
  | lst ds => exact run_at (seq_rt ((if_t (S' := S) rfl).trans (ret_at rfl)))
  | non => exact run_at (seq_rt ((if_t (S' := S) rfl).trans (ret_at rfl)))
  | tup ds h l =>
    have al := allb_at (S := S) (ρ := [some (woD kk b), some (.tup ds), none]) (it := iTp (xVar 1)) (g := gN 2) (e := xCall L__is_late (xCons (xVar 0) (xCons (xVar 2) xNil))) (vs := [2]) (ds := ds) (F := lateP b) rfl (by omega) fun d m => ⟨_, rfl, call_at (S1 := S) (ds := [woD kk b, d]) rfl (map_eq (late_all kk S) (b, d) (lp_in (h d m)))⟩
    have c := bor_b (S := S) (x := false) (a := bNot (bTest (xCB dIsi (xCons (xVar 1) (xCons (xC (.ty "tuple")) xNil))))) rfl (not_at (test_at al))
    rw [Bool.false_or] at c
    show _ = Out.ok (Dat.bl (ds.all (lateP b) && ascB ds)) S
    cases a : ds.all (lateP b) with
    | false =>
      rw [a] at c
      exact run_at (seq_rt ((if_t c).trans (ret_at rfl)))
    | true =>
      rw [a] at c
      refine run_at ((seq_at ((if_f c).trans rfl)).trans (ret_at ?_))
      exact call_at (S1 := S) (ds := [.tup ds]) rfl (l_asc (b := b) (fun d m => right_of (h d m) (List.all_eq_true.mp a d m)) l)
end
end Zd
namespace Zd
open PySem PySem.Spec PyProof.Rows L2 Zg
def isSc : Dat → Bool
  | .str _ => true
  | .int _ => true
  | .bl _ => true
  | .non => true
  | _ => false
def ML : List Dat := [.str "small", .str "great", .str "none", .non, .bl true]
def NL : List Dat := [.str "none", .str "same", .str "cut", .str "old", .str "far", .str "", .non]
def WL : List Dat := [.str "none", .str "same", .str "cut", .str "old", .str "far", .str "ahead", .int 0]
def VL : List Dat := [.str "", .str "ahead", .str "seen", .str "none", .non, .int 0]
def topB (kk : Ki × Ki) (great : Bool) : Dat → Bool
  | .int i => cond great (decide (kk.1.2 + 1 ≤ i) && decide (i ≤ kk.2.2)) (decide (kk.1.1 ≤ i) && decide (i ≤ kk.1.2))
  | _ => false
def cutIn : Dat → Bool
  | .tup ds => ds.any cutw
  | _ => false
def grB (m : Dat) : Bool := isS m ["great"]
/-- the word parts alone -/
def wrdB (m n w v : Dat) : Bool := isS m ["small", "great"] && (isS n ["none", "same", "cut", "old"] && (isS w ["none", "same", "cut", "old", "far"] && isS v ["ahead", "seen", ""]))
def endB (m n w : Dat) : Bool := cond (grB m) (!isS n ["same"]) (!isS n ["cut"] && !isS w ["cut"])
def markP (kk : Ki × Ki) (b : Bool) (m t n w l v : Dat) : Bool := wrdB m n w v && ((topB kk (grB m) t && areB b l) && (endB m n w && (grB m || !cutIn l)))
section
variable {b : Bool} {m t n w l v d : Dat} {S : List Dat} {kk : Ki × Ki} {ds : List Dat} {ρ : Env}
theorem inS_at {neg : Bool} {ws : List Str} {e : Dat} (k : isSc d = true) (h : (itemsOf e).bind strsD = some ws) : dInS neg d e S = .ok (.bl (neg != isS d ws)) S := by
  unfold dInS
  rw [h]
  cases d <;> first | rfl | cases k
theorem l_between {i j : Int} (h : isSc t = true) : L_is_between [t, .int i, .int j] S = .ok (.bl (match t with | .int x => decide (i ≤ x) && decide (x ≤ j) | _ => false)) S := by
  cases t with
  | int x =>
    refine run_at (ret_at ?_)
    have c := ch2 (S := S) (ρ := [some (.int x), some (.int i), some (.int j)]) (a := xVar 1) (b := xVar 0) (c := xVar 2) (i := i) (j := x) (k := j) rfl rfl rfl
    exact and_b (x := true) rfl c
  | str s => rfl
  | bl x => rfl
  | non => rfl
  | _ => cases h
theorem l_topG (h : isSc t = true) : L__is_top [woD kk b, .str "great", t] S = .ok (.bl (topB kk true t)) S := by
  refine run_at ((seq_at ((if_f (S' := S) rfl).trans rfl)).trans (ret_at ?_))
  have e := l_between (S := S) (i := kk.1.2 + 1) (j := kk.2.2) h
  refine (call_at (S1 := S) (ds := [t, .int (kk.1.2 + 1), .int kk.2.2]) rfl e).trans ?_
  cases t <;> first | rfl | cases h
theorem l_topS (h : isSc t = true) : L__is_top [woD kk b, .str "small", t] S = .ok (.bl (topB kk false t)) S := by
  refine run_at (seq_rt ((if_t (S' := S) rfl).trans (ret_at ?_)))
  have e := l_between (S := S) (i := kk.1.1) (j := kk.1.2) h
  refine (call_at (S1 := S) (ds := [t, .int kk.1.1, .int kk.1.2]) rfl e).trans ?_
  cases t <;> first | rfl | cases h
theorem isS_mem {ws : List Str} (h : isS d ws = true) : ∃ s, s ∈ ws ∧ d = .str s := by
  unfold isS at h
  cases d with
  | str y =>
    obtain ⟨z, mz, e⟩ := List.any_eq_true.mp (show (ws.any fun z => z == y) = true from h)
    exact ⟨z, mz, by rw [eq_of_beq e]⟩
  | _ => cases h
def wordD : Dat → Dat
  | .tup [_, _, w] => w
  | d => d
theorem words_at (h : ∀ d, d ∈ ds → d ∈ rights b) : ∃ ws : List Str, ds.map wordD = ws.map .str ∧ (ws.any fun z => z == "cut") = ds.any cutw := by
  induction ds with
  | nil => exact ⟨[], rfl, rfl⟩
  | cons d ds ih =>
    obtain ⟨ws, e1, e2⟩ := ih fun x m => h x (List.mem_cons_of_mem _ m)
    obtain ⟨p, i, w, rfl⟩ := right_sh (h d List.mem_cons_self)
    refine ⟨w :: ws, by rw [List.map_cons, e1]; rfl, ?_⟩
    rw [List.any_cons, e2, List.any_cons]
    rfl
abbrev mkE (kk : Ki × Ki) (b : Bool) (m t n w l v : Dat) : Env := [some (woD kk b), some (.tup [m, t, n, w, l, v]), some m, some t, some n, some w, some l, some v, none, none]
theorem l_words (h : ∀ d, d ∈ ds → d ∈ rights b) (len : ds.length ≤ 100) : xOp (dInS true) (xC (.str "cut")) (xLc (iTp (xVar 6)) (gT 3 (gCo (gN 8) (gCo (gN 8) (gCo (gN 9) gNl)))) bYes (xVar 9) [8, 9]) (mkE kk b m t n w (.tup ds) v) S = .ok (.bl (!ds.any cutw)) S := by
  obtain ⟨ws, e1, e2⟩ := words_at h
  have cm := comp_fmG (S := S) (ρ := wipeE (mkE kk b m t n w (.tup ds) v) [8, 9]) (g := gT 3 (gCo (gN 8) (gCo (gN 8) (gCo (gN 9) gNl)))) (c := bYes) (e := xVar 9) (F := fun d => some (wordD d)) (ds := ds) fun d md => by
    obtain ⟨p, i, w, rfl⟩ := right_sh (h d md)
    exact ⟨_, rfl, rfl, fun y ey => by cases ey; rfl⟩
  have e3 : List.filterMap (fun d => some (wordD d)) ds = ws.map .str := by
    rw [← e1]
    have : List.filterMap (some ∘ wordD) ds = ds.map wordD := by rw [List.filterMap_eq_map]
    exact this
  rw [e3] at cm
  have lc := xlc_at (S := S) (ρ := mkE kk b m t n w (.tup ds) v) (it := iTp (xVar 6)) (vs := [8, 9]) (ds := ds) rfl (by omega) cm
  refine (op_at (S := S) (x := .str "cut") (y := .lst (ws.map .str)) rfl lc (inS_at (ws := ws) rfl (strsD_map ws))).trans ?_
  rw [← e2]
  have e4 : isS (.str "cut") ws = ws.any fun z => z == "cut" := rfl
  rw [e4, Bool.true_bne]
/-- is_mark of six parts -/
theorem l_mark6 (hm : isSc m = true) (ht : isSc t = true) (hn : isSc n = true) (hw : isSc w = true) (hv : isSc v = true) (hl : LateV b l) : L_is_mark [woD kk b, .tup [m, t, n, w, l, v]] S = .ok (.bl (markP kk b m t n w l v)) S := by
  refine run_at ((seq_at ((if_f (not_at (b := true) (test_at (call_at (S1 := S) (ds := [.tup [m, t, n, w, l, v], .int 6, .int 6]) rfl rfl)))).trans rfl)).trans ?_)
  refine (seq_at (ρ' := mkE kk b m t n w l v) (S' := S) rfl).trans ?_
  have c1 := bor_b (S := S) (ρ := mkE kk b m t n w l v) (a := bTest (xOp (dInS true) (xVar 2) (xC (strsT ["small", "great"])))) (test_at (op_at rfl rfl (inS_at (ws := ["small", "great"]) hm rfl)))
    (bor_b (S := S) (a := bTest (xOp (dInS true) (xVar 4) (xC (strsT ["none", "same", "cut", "old"])))) (test_at (op_at rfl rfl (inS_at (ws := ["none", "same", "cut", "old"]) hn rfl)))
      (bor_b (S := S) (a := bTest (xOp (dInS true) (xVar 5) (xC (strsT ["none", "same", "cut", "old", "far"])))) (b := bTest (xOp (dInS true) (xVar 7) (xC (strsT ["ahead", "seen", ""])))) (test_at (op_at rfl rfl (inS_at (ws := ["none", "same", "cut", "old", "far"]) hw rfl))) (test_at (op_at rfl rfl (inS_at (ws := ["ahead", "seen", ""]) hv rfl)))))
  have e1 : ((true != isS m ["small", "great"]) || ((true != isS n ["none", "same", "cut", "old"]) || ((true != isS w ["none", "same", "cut", "old", "far"]) || (true != isS v ["ahead", "seen", ""])))) = !wrdB m n w v := by
    unfold wrdB
    cases isS m ["small", "great"] <;> cases isS n ["none", "same", "cut", "old"] <;> cases isS w ["none", "same", "cut", "old", "far"] <;> cases isS v ["ahead", "seen", ""] <;> rfl
  rw [e1] at c1
  cases q1 : wrdB m n w v with
  | false =>
    rw [q1] at c1
    refine (seq_rt ((if_t c1).trans (ret_at rfl))).trans ?_
    unfold markP
    rw [q1]
    rfl
  | true =>
    rw [q1] at c1
    refine (seq_at ((if_f c1).trans rfl)).trans ?_
    have q2 : isS m ["small", "great"] = true ∧ isS n ["none", "same", "cut", "old"] = true ∧ isS w ["none", "same", "cut", "old", "far"] = true := by
      unfold wrdB at q1
      rw [Bool.and_eq_true, Bool.and_eq_true, Bool.and_eq_true] at q1
      exact ⟨q1.1, q1.2.1, q1.2.2.1⟩
    obtain ⟨ms, mm, rfl⟩ := isS_mem q2.1
    have tp : L__is_top [woD kk b, .str ms, t] S = .ok (.bl (topB kk (grB (.str ms)) t)) S := by
      simp only [List.mem_cons, List.not_mem_nil, or_false] at mm
      rcases mm with rfl | rfl
      · exact l_topS ht
      · exact l_topG ht
    have c2 := bor_b (S := S) (ρ := mkE kk b (.str ms) t n w l v) (a := bNot (bTest (xCall L__is_top (xCons (xVar 0) (xCons (xVar 2) (xCons (xVar 3) xNil)))))) (b := bNot (bTest (xCall L__are_late (xCons (xVar 0) (xCons (xVar 6) xNil))))) (not_at (test_at (call_at (S1 := S) (ds := [woD kk b, .str ms, t]) rfl tp))) (not_at (test_at (call_at (S1 := S) (ds := [woD kk b, l]) rfl (l_areL hl))))
    cases q3 : topB kk (grB (.str ms)) t with
    | false =>
      rw [q3] at c2
      refine (seq_rt ((if_t c2).trans (ret_at rfl))).trans ?_
      unfold markP
      rw [q3, Bool.false_and, Bool.false_and, Bool.and_false]
    | true =>
      rw [q3] at c2
      cases q4 : areB b l with
      | false =>
        rw [q4] at c2
        refine (seq_rt ((if_t c2).trans (ret_at rfl))).trans ?_
        unfold markP
        rw [q3, q4, Bool.and_false, Bool.false_and, Bool.and_false]
      | true =>
        rw [q4] at c2
        refine (seq_at ((if_f c2).trans rfl)).trans ?_
        have mp : markP kk b (.str ms) t n w l v = (endB (.str ms) n w && (grB (.str ms) || !cutIn l)) := by
          unfold markP
          rw [q1, q3, q4]
          rfl
        rw [mp]
        cases hl with
        | lst ds => cases q4
        | non => cases q4
        | tup ds hd len =>
          have a1 : ds.all (lateP b) = true := by
            have q4 : (ds.all (lateP b) && ascB ds) = true := q4
            exact (Bool.and_eq_true _ _ ▸ q4).1
          have hr : ∀ d, d ∈ ds → d ∈ rights b := fun d m => right_of (hd d m) (List.all_eq_true.mp a1 d m)
          obtain ⟨ns, mn, rfl⟩ := isS_mem q2.2.1
          obtain ⟨ws, mw, rfl⟩ := isS_mem q2.2.2
          simp only [List.mem_cons, List.not_mem_nil, or_false] at mm
          rcases mm with rfl | rfl
          · refine (seq_at ((if_f (S' := S) rfl).trans rfl)).trans (ret_at ?_)
            have lw := l_words (kk := kk) (S := S) (m := .str "small") (t := t) (n := .str ns) (w := .str ws) (v := v) hr len
            have i2 : xOp (dInS true) (xC (.str "cut")) (xTup (xCons (xVar 4) (xCons (xVar 5) xNil))) (mkE kk b (.str "small") t (.str ns) (.str ws) (.tup ds) v) S = .ok (.bl (true != isS (.str "cut") [ns, ws])) S := op_at (S := S) (x := .str "cut") (y := .tup [.str ns, .str ws]) rfl rfl (inS_at (ws := [ns, ws]) rfl rfl)
            refine (and_b i2 lw).trans ?_
            have e : (true != isS (.str "cut") [ns, ws]) = endB (.str "small") (.str ns) (.str ws) := by
              simp only [List.mem_cons, List.not_mem_nil, or_false] at mn mw
              rcases mn with rfl | rfl | rfl | rfl <;> rcases mw with rfl | rfl | rfl | rfl | rfl <;> rfl
            rw [e]
            rfl
          · have e : dNe (.str ns) (.str "same") S = .ok (.bl (endB (.str "great") (.str ns) (.str ws))) S := by
              simp only [List.mem_cons, List.not_mem_nil, or_false] at mn
              rcases mn with rfl | rfl | rfl | rfl <;> rfl
            refine (seq_rt ((if_t (S' := S) rfl).trans (ret_at (op_at (S := S) rfl rfl e)))).trans ?_
            have : (endB (.str "great") (.str ns) (.str ws) && (grB (.str "great") || !cutIn (.tup ds))) = endB (.str "great") (.str ns) (.str ws) := by
              rw [show grB (.str "great") = true from rfl, Bool.true_or, Bool.and_true]
            rw [this]
end
end Zd
namespace Zd
open PySem PySem.Spec PyProof.Rows L2 Zg
def strD : Dat → Bool
  | .str _ => true
  | _ => false
def intD : Dat → Bool
  | .int _ => true
  | _ => false
def tupD : Dat → Bool
  | .tup _ => true
  | _ => false
def msD : Bool → Str
  | true => "great"
  | false => "small"
abbrev ow9 : Env → M Flow := (sSeq (sAsg (xIf (bTest (xOp dEq (xVar 2) (xC (.str "small")))) (xTup (xCons (xC (.str "none")) (xCons (xC (.str "same")) (xCons (xC (.str "old")) xNil)))) (xTup (xCons (xC (.str "none")) (xCons (xC (.str "cut")) (xCons (xC (.str "old")) xNil))))) (gN 10))
    (sRet (xAnd (xOp (dInS false) (xVar 4) (xVar 10)) (xOp (dInS false) (xVar 5) (xOp dCatT (xTup (xCons (xC (.str "none")) (xCons (xC (.str "same")) (xCons (xC (.str "old")) (xCons (xC (.str "far")) xNil))))) (xOp dRepB (xTup (xCons (xC (.str "cut")) xNil)) (xCB dInt (xCons (xOp dEq (xVar 2) (xC (.str "great"))) xNil))))))))
abbrev ow6 : Env → M Flow := (sSeq (sIf (bOr (bNot (bTest (xChain dLe dLe (xVar 8) (xVar 3) (xVar 9)))) (bNot (bTest (xCB dAll (xCons (xLc (iTp (xVar 6)) (gN 11) bYes (xCall L__law_is_own_late (xCons (xVar 0) (xCons (xVar 2) (xCons (xVar 11) xNil)))) [11]) xNil))))) (sRet (xC (.bl false))) sNx)
    (sSeq (sIf (bNot (bTest (xCB dAll (xCons (xLc (iZipM (xCons (xVar 6) (xCons (jSl dCutT (xVar 6) (oSome (xC (.int 1))) oNone) xNil))) (gT 2 (gCo (gN 11) (gCo (gN 12) gNl))) bYes (xOp dLtD (xVar 11) (xVar 12)) [11, 12]) xNil)))) (sRet (xC (.bl false))) sNx)
    ow9))
abbrev owE (kk : Ki × Ki) (b : Bool) (m t n w l v : Dat) (z8 z9 z10 : Option Dat) : Env := [some (wdD kk b), some (.tup [m, t, n, w, l, v]), some m, some t, some n, some w, some l, some v, z8, z9, z10, none, none, none]
def nwG : Bool → List Str
  | true => ["none", "cut", "old"]
  | false => ["none", "same", "old"]
def wwG : Bool → List Str
  | true => ["none", "same", "old", "far", "cut"]
  | false => ["none", "same", "old", "far"]
section
variable {b g : Bool} {m t n w l v d : Dat} {S : List Dat} {kk : Ki × Ki} {ds : List Dat} {ρ : Env}
theorem nl_sc (h : n ∈ NL) : isSc n = true := by
  simp only [NL, List.mem_cons, List.not_mem_nil, or_false] at h
  rcases h with rfl | rfl | rfl | rfl | rfl | rfl | rfl <;> rfl
theorem wl_sc (h : n ∈ WL) : isSc n = true := by
  simp only [WL, List.mem_cons, List.not_mem_nil, or_false] at h
  rcases h with rfl | rfl | rfl | rfl | rfl | rfl | rfl <;> rfl
theorem ml_sc (h : n ∈ ML) : isSc n = true := by
  simp only [ML, List.mem_cons, List.not_mem_nil, or_false] at h
  rcases h with rfl | rfl | rfl | rfl | rfl <;> rfl
theorem vl_sc (h : n ∈ VL) : isSc n = true := by
  simp only [VL, List.mem_cons, List.not_mem_nil, or_false] at h
  rcases h with rfl | rfl | rfl | rfl | rfl | rfl <;> rfl
theorem own_words (hn : n ∈ NL) (hw : w ∈ WL) : (isS n (nwG g) && isS w (wwG g)) = ((isS n ["none", "same", "cut", "old"] && isS w ["none", "same", "cut", "old", "far"]) && endB (.str (msD g)) n w) := by
  simp only [NL, WL, List.mem_cons, List.not_mem_nil, or_false] at hn hw
  cases g <;> (rcases hn with rfl | rfl | rfl | rfl | rfl | rfl | rfl <;> rcases hw with rfl | rfl | rfl | rfl | rfl | rfl | rfl <;> rfl)
theorem own_late (h : d ∈ lates b) : L__law_is_own_late [wdD kk b, .str (msD g), d] S = .ok (.bl (lateO b g d)) S := by
  cases g with
  | true => exact map_eq (ownG_all kk S) (b, d) (lp_in h)
  | false => exact map_eq (ownS_all kk S) (b, d) (lp_in h)
theorem gr_ms : grB (.str (msD g)) = g := by cases g <;> rfl
theorem own9 {z8 z9 : Option Dat} (hn : n ∈ NL) (hw : w ∈ WL) : ow9 (owE kk b (.str (msD g)) t n w l v z8 z9 none) S = .ok (.rt (.bl (isS n (nwG g) && isS w (wwG g)))) S := by
  have x0 : xIf (bTest (xOp dEq (xVar 2) (xC (.str "small")))) (xTup (xCons (xC (.str "none")) (xCons (xC (.str "same")) (xCons (xC (.str "old")) xNil)))) (xTup (xCons (xC (.str "none")) (xCons (xC (.str "cut")) (xCons (xC (.str "old")) xNil)))) (owE kk b (.str (msD g)) t n w l v z8 z9 none) S = .ok (.tup ((nwG g).map .str)) S := by cases g <;> rfl
  refine (seq_at (asg_at x0 (ρ' := owE kk b (.str (msD g)) t n w l v z8 z9 (some (.tup ((nwG g).map .str)))) rfl)).trans (ret_at ?_)
  have x1 : xOp (dInS false) (xVar 4) (xVar 10) (owE kk b (.str (msD g)) t n w l v z8 z9 (some (.tup ((nwG g).map .str)))) S = .ok (.bl (isS n (nwG g))) S := by
    refine (op_at (S := S) (x := n) (y := .tup ((nwG g).map .str)) rfl rfl (inS_at (nl_sc hn) (strsD_map _))).trans ?_
    rw [Bool.false_bne]
  have x2 : xOp dCatT (xTup (xCons (xC (.str "none")) (xCons (xC (.str "same")) (xCons (xC (.str "old")) (xCons (xC (.str "far")) xNil))))) (xOp dRepB (xTup (xCons (xC (.str "cut")) xNil)) (xCB dInt (xCons (xOp dEq (xVar 2) (xC (.str "great"))) xNil))) (owE kk b (.str (msD g)) t n w l v z8 z9 (some (.tup ((nwG g).map .str)))) S = .ok (.tup ((wwG g).map .str)) S := by cases g <;> rfl
  have x3 : xOp (dInS false) (xVar 5) (xOp dCatT (xTup (xCons (xC (.str "none")) (xCons (xC (.str "same")) (xCons (xC (.str "old")) (xCons (xC (.str "far")) xNil))))) (xOp dRepB (xTup (xCons (xC (.str "cut")) xNil)) (xCB dInt (xCons (xOp dEq (xVar 2) (xC (.str "great"))) xNil)))) (owE kk b (.str (msD g)) t n w l v z8 z9 (some (.tup ((nwG g).map .str)))) S = .ok (.bl (isS w (wwG g))) S := by
    refine (op_at (S := S) (x := w) (y := .tup ((wwG g).map .str)) rfl x2 (inS_at (wl_sc hw) (strsD_map _))).trans ?_
    rw [Bool.false_bne]
  exact and_b x1 x3
theorem all_O : ds.all (lateO b g) = (ds.all (lateP b) && (g || !ds.any cutw)) := by
  cases g with
  | true =>
    rw [Bool.true_or, Bool.and_true]
    congr 1
    funext d
    show (lateP b d && (true || !cutw d)) = _
    rw [Bool.true_or, Bool.and_true]
  | false =>
    rw [Bool.false_or]
    induction ds with
    | nil => rfl
    | cons d ds ih =>
      rw [List.all_cons, ih, List.all_cons, List.any_cons]
      show ((lateP b d && (false || !cutw d)) && _) = _
      cases lateP b d <;> cases cutw d <;> cases ds.all (lateP b) <;> cases ds.any cutw <;> rfl
theorem own6 {i lo hi : Int} (hn : n ∈ NL) (hw : w ∈ WL) (hd : ∀ d, d ∈ ds → d ∈ lates b) (len : ds.length ≤ 100) :
    ow6 (owE kk b (.str (msD g)) (.int i) n w (.tup ds) v (some (.int lo)) (some (.int hi)) none) S = .ok (.rt (.bl ((decide (lo ≤ i) && decide (i ≤ hi)) && (ds.all (lateO b g) && (ascB ds && (isS n (nwG g) && isS w (wwG g))))))) S := by
  have c1 := ch2 (S := S) (ρ := owE kk b (.str (msD g)) (.int i) n w (.tup ds) v (some (.int lo)) (some (.int hi)) none) (a := xVar 8) (b := xVar 3) (c := xVar 9) (i := lo) (j := i) (k := hi) rfl rfl rfl
  have al := allb_at (S := S) (ρ := owE kk b (.str (msD g)) (.int i) n w (.tup ds) v (some (.int lo)) (some (.int hi)) none) (it := iTp (xVar 6)) (g := gN 11) (e := xCall L__law_is_own_late (xCons (xVar 0) (xCons (xVar 2) (xCons (xVar 11) xNil)))) (vs := [11]) (ds := ds) (F := lateO b g) rfl (by omega) fun d m => ⟨_, rfl, call_at (S1 := S) (ds := [wdD kk b, .str (msD g), d]) rfl (own_late (hd d m))⟩
  have c2 := bor_b (not_at (test_at c1)) (not_at (test_at al))
  cases q1 : (decide (lo ≤ i) && decide (i ≤ hi)) with
  | false =>
    rw [q1] at c2
    exact seq_rt ((if_t c2).trans (ret_at rfl))
  | true =>
    rw [q1] at c2
    cases q2 : ds.all (lateO b g) with
    | false =>
      rw [q2] at c2
      exact seq_rt ((if_t c2).trans (ret_at rfl))
    | true =>
      rw [q2] at c2
      refine (seq_at ((if_f c2).trans rfl)).trans ?_
      have hr : ∀ d, d ∈ ds → d ∈ rights b := fun d m => right_of (hd d m) (by
        have h := List.all_eq_true.mp q2 d m
        have h : (lateP b d && (g || !cutw d)) = true := h
        rw [Bool.and_eq_true] at h
        exact h.1)
      have zl := zip_lenX (ds := ds)
      have as := allb_at (S := S) (ρ := owE kk b (.str (msD g)) (.int i) n w (.tup ds) v (some (.int lo)) (some (.int hi)) none) (it := iZipM (xCons (xVar 6) (xCons (jSl dCutT (xVar 6) (oSome (xC (.int 1))) oNone) xNil))) (g := gT 2 (gCo (gN 11) (gCo (gN 12) gNl))) (e := xOp dLtD (xVar 11) (xVar 12)) (vs := [11, 12]) (ds := zipD ds (ds.drop 1)) (F := prB) (asc_it rfl) (by omega) fun p m => by
        obtain ⟨x, y, mx, my, rfl⟩ := zip_in m
        exact ⟨_, rfl, op_at (S := S) (x := x) (y := y) rfl rfl (lt_at (hr x mx) (hr y (List.mem_of_mem_drop my)))⟩
      rw [zip_asc] at as
      have c3 := not_at (test_at as)
      cases q3 : ascB ds with
      | false =>
        rw [q3] at c3
        exact seq_rt ((if_t c3).trans (ret_at rfl))
      | true =>
        rw [q3] at c3
        exact (seq_at ((if_f c3).trans rfl)).trans (own9 hn hw)
theorem isS_str {ws : List Str} (h : strD d = false) : isS d ws = false := by
  cases d <;> first | rfl | cases h
theorem wrd_str (h : (strD m && (strD n && (strD w && strD v))) = false) : wrdB m n w v = false := by
  unfold wrdB
  cases a : strD m with
  | false => rw [isS_str a]; rfl
  | true =>
    rw [a] at h
    cases c : strD n with
    | false => rw [isS_str c, Bool.false_and, Bool.and_false]
    | true =>
      rw [c] at h
      cases e : strD w with
      | false => rw [isS_str e, Bool.false_and, Bool.and_false, Bool.and_false]
      | true =>
        rw [e] at h
        have h : strD v = false := h
        rw [isS_str h, Bool.and_false, Bool.and_false, Bool.and_false]
def atB (m n w v : Dat) : Dat → Bool
  | .int 0 => strD m
  | .int 2 => strD n
  | .int 3 => strD w
  | _ => strD v
theorem isi_str (h : isSc d = true) : dIsi [d, .ty "str"] S = .ok (.bl (strD d)) S := by
  cases d <;> first | rfl | cases h
/-- the law's look at six parts -/
theorem l_own6 (hm : m ∈ ML) (ht : isSc t = true) (hn : n ∈ NL) (hw : w ∈ WL) (hv : v ∈ VL) (hl : LateV b l) : L__law_is_own_mark [wdD kk b, .tup [m, t, n, w, l, v]] S = .ok (.bl (markP kk b m t n w l v)) S := by
  have al := allb_at (S := S) (ρ := [some (wdD kk b), some (.tup [m, t, n, w, l, v]), none, none, none, none, none, none, none, none, none, none, none, none]) (it := iTp (xTup (xCons (xC (.int 0)) (xCons (xC (.int 2)) (xCons (xC (.int 3)) (xCons (xC (.int 5)) xNil)))))) (g := gN 13) (e := xCB dIsi (xCons (xOp dIxT (xVar 1) (xVar 13)) (xCons (xC (.ty "str")) xNil))) (vs := [13]) (ds := [.int 0, .int 2, .int 3, .int 5]) (F := atB m n w v) rfl (by decide) fun d md => by
    simp only [List.mem_cons, List.not_mem_nil, or_false] at md
    rcases md with rfl | rfl | rfl | rfl
    · exact ⟨_, rfl, cb_at (S1 := S) (ds := [m, .ty "str"]) rfl (isi_str (ml_sc hm))⟩
    · exact ⟨_, rfl, cb_at (S1 := S) (ds := [n, .ty "str"]) rfl (isi_str (nl_sc hn))⟩
    · exact ⟨_, rfl, cb_at (S1 := S) (ds := [w, .ty "str"]) rfl (isi_str (wl_sc hw))⟩
    · exact ⟨_, rfl, cb_at (S1 := S) (ds := [v, .ty "str"]) rfl (isi_str (vl_sc hv))⟩
  have e0 : ([.int 0, .int 2, .int 3, .int 5] : List Dat).all (atB m n w v) = (strD m && (strD n && (strD w && strD v))) := by
    show (strD m && (strD n && (strD w && (strD v && true)))) = _
    rw [Bool.and_true]
  rw [e0] at al
  have c1 := bor_b (S := S) (x := false) (ρ := [some (wdD kk b), some (.tup [m, t, n, w, l, v]), none, none, none, none, none, none, none, none, none, none, none, none]) (a := bNot (bTest (xCB dIsi (xCons (xVar 1) (xCons (xC (.ty "tuple")) xNil))))) rfl (bor_b (x := false) (a := bTest (xOp dNe (xCB dLen (xCons (xVar 1) xNil)) (xC (.int 6)))) rfl (not_at (test_at al)))
  rw [Bool.false_or, Bool.false_or] at c1
  cases q0 : (strD m && (strD n && (strD w && strD v))) with
  | false =>
    rw [q0] at c1
    refine (run_at (seq_rt ((if_t c1).trans (ret_at rfl)))).trans ?_
    unfold markP
    rw [wrd_str q0]
    rfl
  | true =>
    rw [q0] at c1
    refine run_at ((seq_at ((if_f c1).trans rfl)).trans ?_)
    refine (seq_at (ρ' := owE kk b m t n w l v none none none) (S' := S) rfl).trans ?_
    have c2 := bor_b (S := S) (ρ := owE kk b m t n w l v none none none) (a := bTest (xOp (dInS true) (xVar 2) (xTup (xCons (xC (.str "small")) (xCons (xC (.str "great")) xNil))))) (b := bTest (xOp (dInS true) (xVar 7) (xTup (xCons (xC (.str "")) (xCons (xC (.str "ahead")) (xCons (xC (.str "seen")) xNil)))))) (test_at (op_at (x := m) (y := .tup [.str "small", .str "great"]) rfl rfl (inS_at (ws := ["small", "great"]) (ml_sc hm) rfl))) (test_at (op_at (x := v) (y := .tup [.str "", .str "ahead", .str "seen"]) rfl rfl (inS_at (ws := ["", "ahead", "seen"]) (vl_sc hv) rfl)))
    have ev : isS v ["", "ahead", "seen"] = isS v ["ahead", "seen", ""] := by
      simp only [VL, List.mem_cons, List.not_mem_nil, or_false] at hv
      rcases hv with rfl | rfl | rfl | rfl | rfl | rfl <;> rfl
    rw [ev] at c2
    cases q1 : isS m ["small", "great"] with
    | false =>
      rw [q1] at c2
      refine (seq_rt ((if_t c2).trans (ret_at rfl))).trans ?_
      unfold markP wrdB
      rw [q1]
      rfl
    | true =>
      rw [q1] at c2
      cases q2 : isS v ["ahead", "seen", ""] with
      | false =>
        rw [q2] at c2
        refine (seq_rt ((if_t c2).trans (ret_at rfl))).trans ?_
        unfold markP wrdB
        rw [q2, Bool.and_false, Bool.and_false, Bool.and_false, Bool.false_and]
      | true =>
        rw [q2] at c2
        refine (seq_at ((if_f c2).trans rfl)).trans ?_
        obtain ⟨g, rfl⟩ : ∃ g, m = .str (msD g) := by
          obtain ⟨s, ms, rfl⟩ := isS_mem q1
          simp only [List.mem_cons, List.not_mem_nil, or_false] at ms
          rcases ms with rfl | rfl
          · exact ⟨false, rfl⟩
          · exact ⟨true, rfl⟩
        have c3 : (bOr (bNot (bTest (xCB dIsi (xCons (xVar 3) (xCons (xC (.ty "int")) xNil))))) (bOr (bTest (xCB dIsi (xCons (xVar 3) (xCons (xC (.ty "bool")) xNil)))) (bNot (bTest (xCB dIsi (xCons (xVar 6) (xCons (xC (.ty "tuple")) xNil))))))) (owE kk b (.str (msD g)) t n w l v none none none) S = .ok (!(intD t && tupD l)) S := by
          cases hl <;> cases t <;> first | rfl | cases ht
        cases q3 : (intD t && tupD l) with
        | false =>
          rw [q3] at c3
          refine (seq_rt ((if_t c3).trans (ret_at rfl))).trans ?_
          have : (topB kk (grB (.str (msD g))) t && areB b l) = false := by
            cases hl <;> cases t <;> first | rfl | (rw [show areB b _ = false from rfl, Bool.and_false]) | cases q3
          unfold markP
          rw [this, Bool.false_and, Bool.and_false]
        | true =>
          rw [q3] at c3
          refine (seq_at ((if_f c3).trans rfl)).trans ?_
          rw [Bool.and_eq_true] at q3
          cases t with
          | int i =>
            cases hl with
            | lst ds => cases q3.2
            | non => cases q3.2
            | tup ds hd len =>
              have x0 : xIf (bTest (xOp dEq (xVar 2) (xC (.str "small")))) (xDGet (xVar 0) (xC (.str "narrow"))) (xTup (xCons (xOp dAdd (xOp dIxT (xDGet (xVar 0) (xC (.str "narrow"))) (xC (.int 1))) (xC (.int 1))) (xCons (xOp dIxT (xDGet (xVar 0) (xC (.str "wide"))) (xC (.int 1))) xNil))) (owE kk b (.str (msD g)) (.int i) n w (.tup ds) v none none none) S = .ok (.tup [.int (cond g (kk.1.2 + 1) kk.1.1), .int (cond g kk.2.2 kk.1.2)]) S := by cases g <;> rfl
              refine (seq_at (asg_at x0 (ρ' := owE kk b (.str (msD g)) (.int i) n w (.tup ds) v (some (.int (cond g (kk.1.2 + 1) kk.1.1))) (some (.int (cond g kk.2.2 kk.1.2))) none) rfl)).trans ?_
              refine (own6 hn hw hd len).trans ?_
              rw [own_words hn hw, all_O]
              have tb : (decide (cond g (kk.1.2 + 1) kk.1.1 ≤ i) && decide (i ≤ cond g kk.2.2 kk.1.2)) = topB kk g (.int i) := by cases g <;> rfl
              rw [tb]
              unfold markP wrdB
              rw [q1, q2, gr_ms]
              have ab : areB b (.tup ds) = (ds.all (lateP b) && ascB ds) := rfl
              have cb : cutIn (.tup ds) = ds.any cutw := rfl
              rw [ab, cb]
              cases topB kk g (.int i) <;> cases ds.all (lateP b) <;> cases ascB ds <;> cases g <;> cases ds.any cutw <;> cases isS n ["none", "same", "cut", "old"] <;> cases isS w ["none", "same", "cut", "old", "far"] <;> (try cases endB (.str (msD true)) n w) <;> (try cases endB (.str (msD false)) n w) <;> rfl
          | _ => cases q3.1
end
end Zd
namespace Zd
open PySem PySem.Spec PyProof.Rows L2 Zg
def eqB (x y : Dat) : Bool := match toPy x, toPy y with
  | some p, some q => PyData.eqv p q
  | _, _ => false
theorem eq_rk : (rpL.map fun q => eqB q.1 q.2) = rpL.map fun q => decide (rk q.1 = rk q.2) := by kernel_rfl
def swB (n b : Nat) (d : Dat) : Bool := match toPy d with
  | some y => ((y.showable && decide (y.depth ≤ n)) && (y.leavesShort 24 && decide (y.bulk ≤ b))) && (!y.hasDict && y.canLay0)
  | none => false
theorem swB_of {n b : Nat} {d : Dat} (h : swB n b d = true) : ∃ y, toPy d = some y ∧ Swy n b y := by
  unfold swB at h
  cases e : toPy d with
  | none => rw [e] at h; cases h
  | some y =>
    rw [e] at h
    simp only [Bool.and_eq_true, decide_eq_true_eq, Bool.not_eq_true'] at h
    exact ⟨y, rfl, ⟨h.1.1.1, h.1.1.2, h.1.2.1, h.1.2.2⟩, h.2.1, h.2.2⟩
theorem lates_swB : (lpL.all fun q => swB 1 100 q.2 && noLoc q.2) = true := by kernel_rfl
section
variable {b g : Bool} {x y d : Dat} {S : List Dat} {kk : Ki × Ki} {ds fs : List Dat} {ρ : Env}
theorem late_sw (h : d ∈ lates b) : (∃ y, toPy d = some y ∧ Swy 1 100 y) ∧ noLoc d = true := by
  have a := List.all_eq_true.mp lates_swB (b, d) (lp_in h)
  dsimp only at a
  rw [Bool.and_eq_true] at a
  exact ⟨swB_of a.1, a.2⟩
theorem late_py (h : d ∈ lates b) : PyS 1 d := by
  obtain ⟨⟨y, e, w⟩, _⟩ := late_sw h
  exact ⟨y, e, w.c, w.s.dp⟩
theorem any_py {q : PyData} (hq : toPy x = some q) : ∀ {fs : List Dat} {ys : List PyData}, toPys fs = some ys → (ys.any fun z => PyData.eqv z q) = fs.any fun d => eqB d x
  | [], ys, h => by
    rw [toPys] at h
    cases h
    rfl
  | d :: fs, ys, h => by
    obtain ⟨z, zs, h1, h2, rfl⟩ := toPys_two h
    rw [List.any_cons, List.any_cons, any_py hq h2]
    have : eqB d x = PyData.eqv z q := by
      unfold eqB
      rw [h1, hq]
    rw [this]
theorem in_rk (hx : x ∈ rights b) (hf : ∀ d, d ∈ fs → d ∈ rights b) : dIn false x (.lst fs) S = .ok (.bl (fs.any fun d => decide (rk d = rk x))) S := by
  obtain ⟨q, e1, s1, c1⟩ := (late_py (lates_of hx)).shp (by decide)
  obtain ⟨ys, e2, c2, l2, hl⟩ := pys_list (k := 1) fun d m => late_py (lates_of (hf d m))
  unfold dIn
  rw [e1]
  show ((M.opt (toPys fs) >>= fun ys => M.need (shp q && shp (.tuple ys)) >>= fun _ => pure (.bl (false != ys.any fun z => PyData.eqv z q))) : M Dat) S = _
  rw [e2]
  show ((M.need (shp q && shp (.tuple ys)) >>= fun _ => pure (.bl (false != ys.any fun z => PyData.eqv z q))) : M Dat) S = _
  have s2 : shp (.tuple ys) = true := by
    unfold shp SeqAt.shaped
    have c : (PyData.tuple ys).canLay0 = true := by rw [PyData.canLay0]; exact c2
    have d : (PyData.tuple ys).depth ≤ 64 := by rw [PyData.depth]; omega
    rw [c, decide_eq_true d]
    rfl
  rw [s1, s2]
  show Out.ok (Dat.bl (false != ys.any fun z => PyData.eqv z q)) S = _
  rw [any_py e1 e2, Bool.false_bne]
  have e3 : (fs.any fun d => eqB d x) = fs.any fun d => decide (rk d = rk x) := by
    clear e2 l2 c2 s2 hl
    induction fs with
    | nil => rfl
    | cons d fs ih =>
      have m : eqB d x = decide (rk d = rk x) := map_eq eq_rk (d, x) (rp_in (hf d List.mem_cons_self) hx)
      rw [List.any_cons, List.any_cons, m, ih fun z m => hf z (List.mem_cons_of_mem _ m)]
  rw [e3]
def insR (x : Dat) : List Dat → List Dat
  | [] => [x]
  | y :: r => if rk y < rk x then y :: insR x r else x :: y :: r
theorem asc_all : ∀ {r : List Dat} {y : Dat}, ascB (y :: r) = true → ∀ z, z ∈ r → rk y < rk z
  | w :: r, y, h, z, m => by
    have h : (decide (rk y < rk w) && ascB (w :: r)) = true := h
    rw [Bool.and_eq_true, decide_eq_true_eq] at h
    rcases List.mem_cons.mp m with m | m
    · rw [m]; exact h.1
    · exact Nat.lt_trans h.1 (asc_all h.2 z m)
theorem asc_tail {r : List Dat} (h : ascB (y :: r) = true) : ascB r = true := by
  cases r with
  | nil => rfl
  | cons w r =>
    have h : (decide (rk y < rk w) && ascB (w :: r)) = true := h
    rw [Bool.and_eq_true] at h
    exact h.2
theorem insR_is : ∀ {fs : List Dat}, ascB fs = true → fs.take (fs.filter fun z => decide (rk z < rk x)).length ++ [x] ++ fs.drop (fs.filter fun z => decide (rk z < rk x)).length = insR x fs
  | [], _ => rfl
  | y :: r, h => by
    have ih := insR_is (fs := r) (asc_tail h)
    unfold insR
    by_cases c : rk y < rk x
    · have f : (y :: r).filter (fun z => decide (rk z < rk x)) = y :: r.filter fun z => decide (rk z < rk x) := List.filter_cons_of_pos (decide_eq_true c)
      rw [if_pos c, f, List.length_cons, List.take_succ_cons, List.drop_succ_cons, List.cons_append, List.cons_append, ih]
    · have z : r.filter (fun z => decide (rk z < rk x)) = [] := List.filter_eq_nil_iff.mpr fun z m e => by
        rw [decide_eq_true_eq] at e
        have := asc_all h z m
        omega
      have f : (y :: r).filter (fun z => decide (rk z < rk x)) = r.filter fun z => decide (rk z < rk x) := List.filter_cons_of_neg (by rw [decide_eq_false c]; exact nofun)
      rw [if_neg c, f, z]
      rfl
theorem ins_mem {z : Dat} : ∀ {fs : List Dat}, z ∈ insR x fs → z = x ∨ z ∈ fs
  | [], m => .inl (List.mem_singleton.mp m)
  | y :: r, m => by
    unfold insR at m
    split at m
    · rcases List.mem_cons.mp m with m | m
      · exact .inr (by rw [m]; exact List.mem_cons_self)
      · exact (ins_mem m).imp id (List.mem_cons_of_mem _)
    · rcases List.mem_cons.mp m with m | m
      · exact .inl m
      · exact .inr m
theorem ins_len : ∀ {fs : List Dat}, (insR x fs).length = fs.length + 1
  | [] => rfl
  | y :: r => by
    unfold insR
    split
    · rw [List.length_cons, ins_len, List.length_cons]
    · rfl
theorem asc_cons {r : List Dat} (h : ascB r = true) (l : ∀ z, z ∈ r → rk y < rk z) : ascB (y :: r) = true := by
  cases r with
  | nil => rfl
  | cons w r =>
    show (decide (rk y < rk w) && ascB (w :: r)) = true
    rw [h, decide_eq_true (l w List.mem_cons_self)]
    rfl
theorem asc_ins : ∀ {fs : List Dat}, ascB fs = true → (∀ z, z ∈ fs → rk z ≠ rk x) → ascB (insR x fs) = true
  | [], _, _ => rfl
  | y :: r, h, n => by
    unfold insR
    by_cases c : rk y < rk x
    · rw [if_pos c]
      refine asc_cons (asc_ins (asc_tail h) fun z m => n z (List.mem_cons_of_mem _ m)) fun z m => ?_
      rcases ins_mem m with rfl | m
      · exact c
      · exact asc_all h z m
    · rw [if_neg c]
      refine asc_cons h fun z m => ?_
      have := n y List.mem_cons_self
      rcases List.mem_cons.mp m with rfl | m
      · omega
      · have := asc_all h z m
        omega
abbrev inB : Env → M Flow := (sSeq (sAsg (xCB dLen (xCons (xLc (iLst (xVar 1)) (gN 4) (bTest (xOp dLtD (xVar 4) (xVar 2))) (xVar 4) [4]) xNil)) (gN 3))
    (sAsg (xIf (bTest (xOp (dIn false) (xVar 2) (xVar 1))) (xVar 1) (xOp dCatL (xOp dCatL (jSl dCutL (xVar 1) oNone (oSome (xVar 3))) (xLst (xCons (xVar 2) xNil))) (jSl dCutL (xVar 1) (oSome (xVar 3)) oNone))) (gN 1)))
abbrev inE (n : Nat) (fs : List Dat) (z2 z3 : Option Dat) : Env := [some (.loc n), some (.lst fs), z2, z3, none]
theorem cut_take {c : Nat} (h : c ≤ fs.length) : cutD fs none (some (c : Int)) = fs.take c := by
  unfold cutD
  rw [HT.sIx_none, HT.sIx_nat, List.drop_zero, Nat.sub_zero, Nat.min_eq_left h]
theorem cut_drop {c : Nat} (h : c ≤ fs.length) : cutD fs (some (c : Int)) none = fs.drop c := by
  unfold cutD
  rw [HT.sIx_none, HT.sIx_nat, Nat.min_eq_left h, ← List.length_drop, List.take_length]
theorem in_turn {n : Nat} {z3 : Option Dat} (hx : x ∈ rights b) (hf : ∀ d, d ∈ fs → d ∈ rights b) (as : ascB fs = true) (l : fs.length ≤ 100) :
    ∃ fs' z3', inB (inE n fs (some x) z3) S = .ok (.nx (inE n fs' (some x) z3')) S ∧ ascB fs' = true ∧ (∀ z, z ∈ fs' → z = x ∨ z ∈ fs) ∧ fs'.length ≤ fs.length + 1 := by
  have cm := comp_fmG (S := S) (ρ := wipeE (inE n fs (some x) z3) [4]) (g := gN 4) (c := bTest (xOp dLtD (xVar 4) (xVar 2))) (e := xVar 4) (F := fun d => if rk d < rk x then some d else none) (ds := fs) fun d md => by
    refine ⟨_, rfl, ?_, fun y ey => ?_⟩
    · refine (test_at (op_at (S := S) (x := d) (y := x) rfl rfl (lt_at (hf d md) hx))).trans ?_
      by_cases c : rk d < rk x
      · rw [decide_eq_true c, if_pos c]; rfl
      · rw [decide_eq_false c, if_neg c]; rfl
    · have ey : (if rk d < rk x then some d else none) = some y := ey
      by_cases c : rk d < rk x
      · rw [if_pos c] at ey
        cases ey
        rfl
      · rw [if_neg c] at ey
        cases ey
  have e1 : fs.filterMap (fun d => if rk d < rk x then some d else none) = fs.filter fun d => decide (rk d < rk x) := by
    clear cm hf as l
    induction fs with
    | nil => rfl
    | cons d fs ih =>
      by_cases c : rk d < rk x
      · have f : (d :: fs).filter (fun d => decide (rk d < rk x)) = d :: fs.filter fun d => decide (rk d < rk x) := List.filter_cons_of_pos (decide_eq_true c)
        rw [List.filterMap_cons_some (by rw [if_pos c]), f, ih]
      · have f : (d :: fs).filter (fun d => decide (rk d < rk x)) = fs.filter fun d => decide (rk d < rk x) := List.filter_cons_of_neg (by rw [decide_eq_false c]; exact nofun)
        rw [List.filterMap_cons_none (by rw [if_neg c]), f, ih]
  rw [e1] at cm
  have lf : (fs.filter fun d => decide (rk d < rk x)).length ≤ fs.length := List.length_filter_le _ _
  have lc := xlc_at (S := S) (ρ := inE n fs (some x) z3) (it := iLst (xVar 1)) (vs := [4]) (ds := fs) rfl (by omega) cm
  have is := insR_is (x := x) as
  generalize hc : fs.filter (fun d => decide (rk d < rk x)) = cs at lc lf is
  have a1 : xCB dLen (xCons (xLc (iLst (xVar 1)) (gN 4) (bTest (xOp dLtD (xVar 4) (xVar 2))) (xVar 4) [4]) xNil) (inE n fs (some x) z3) S = .ok (.int (cs.length : Int)) S := cb_at (S1 := S) (one_at lc) rfl
  have st := seq_at (b := (sAsg (xIf (bTest (xOp (dIn false) (xVar 2) (xVar 1))) (xVar 1) (xOp dCatL (xOp dCatL (jSl dCutL (xVar 1) oNone (oSome (xVar 3))) (xLst (xCons (xVar 2) xNil))) (jSl dCutL (xVar 1) (oSome (xVar 3)) oNone))) (gN 1))) (asg_at a1 (g := gN 3) (ρ' := inE n fs (some x) (some (.int (cs.length : Int)))) rfl)
  have i1 := test_at (op_at (S := S) (ρ := inE n fs (some x) (some (.int (cs.length : Int)))) (a := xVar 2) (b := xVar 1) (x := x) (y := .lst fs) rfl rfl (in_rk hx hf))
  cases q : fs.any (fun d => decide (rk d = rk x)) with
  | true =>
    rw [q] at i1
    refine ⟨fs, some (.int (cs.length : Int)), st.trans (asg_at ((xif_b i1).trans rfl) rfl), as, fun z m => .inr m, by omega⟩
  | false =>
    rw [q] at i1
    have nx : ∀ z, z ∈ fs → rk z ≠ rk x := fun z m e => by
      have := List.any_eq_false.mp q z m
      rw [decide_eq_true_eq] at this
      exact this e
    have s1 : jSl dCutL (xVar 1) oNone (oSome (xVar 3)) (inE n fs (some x) (some (.int (cs.length : Int)))) S = .ok (.lst (fs.take cs.length)) S := by
      show Out.ok (Dat.lst (cutD fs none (some (cs.length : Int)))) S = _
      rw [cut_take lf]
    have s2 : jSl dCutL (xVar 1) (oSome (xVar 3)) oNone (inE n fs (some x) (some (.int (cs.length : Int)))) S = .ok (.lst (fs.drop cs.length)) S := by
      show Out.ok (Dat.lst (cutD fs (some (cs.length : Int)) none)) S = _
      rw [cut_drop lf]
    have lt : (fs.take cs.length).length ≤ 100 := by rw [List.length_take]; omega
    have ld : (fs.drop cs.length).length ≤ 100 := by rw [List.length_drop]; omega
    have c1 := op_at s1 (b := xLst (xCons (xVar 2) xNil)) (y := .lst [x]) rfl (catL_ok (S := S) (xs := fs.take cs.length) (ys := [x]) (by show _ + 1 ≤ _; omega))
    have c2 := op_at c1 s2 (catL_ok (S := S) (xs := fs.take cs.length ++ [x]) (ys := fs.drop cs.length) (by rw [List.length_append]; show _ + 1 + _ ≤ _; omega))
    rw [is] at c2
    exact ⟨insR x fs, some (.int (cs.length : Int)), st.trans (asg_at ((xif_b i1).trans c2) rfl), asc_ins as nx, fun z m => ins_mem m, by rw [ins_len]; exact Nat.le_refl _⟩
theorem chk_ok {n : Nat} (e : S[n]? = some (.lst ds)) : chkLo n ds S = .ok () S := by
  unfold chkLo
  rw [e]
  dsimp only
  rw [dBeq_refl]
theorem in_loop {n : Nat} {all : List Dat} (e : S[n]? = some (.lst all)) : ∀ (ds fs : List Dat) (z2 z3 : Option Dat), (∀ d, d ∈ ds → d ∈ rights b) → (∀ d, d ∈ fs → d ∈ rights b) → ascB fs = true → fs.length + ds.length ≤ 100 →
    ∃ fs' z2' z3', forLo n all (gN 2) inB ds (inE n fs z2 z3) S = .ok (.nx (inE n fs' z2' z3')) S ∧ ascB fs' = true ∧ (∀ z, z ∈ fs' → z ∈ fs ∨ z ∈ ds) ∧ fs'.length ≤ fs.length + ds.length
  | [], fs, z2, z3, _, _, as, _ => by
    refine ⟨fs, z2, z3, ?_, as, fun z m => .inl m, by rw [List.length_nil]; omega⟩
    unfold forLo
    rw [m_bind, chk_ok e]
    rfl
  | d :: ds, fs, z2, z3, hd, hf, as, l => by
    rw [List.length_cons] at l
    obtain ⟨f1, y3, t, a1, m1, l1⟩ := in_turn (n := n) (S := S) (z3 := z3) (hd d List.mem_cons_self) hf as (by omega)
    have hf1 : ∀ z, z ∈ f1 → z ∈ rights b := fun z m => (m1 z m).elim (fun e => by rw [e]; exact hd d List.mem_cons_self) (hf z)
    obtain ⟨f2, y2, y4, r, a2, m2, l2⟩ := in_loop e ds f1 (some d) y3 (fun z m => hd z (List.mem_cons_of_mem _ m)) hf1 a1 (by omega)
    refine ⟨f2, y2, y4, ?_, a2, fun z m => ?_, by rw [List.length_cons]; omega⟩
    · unfold forLo
      rw [m_bind, chk_ok e]
      show ((inB (inE n fs (some d) z3) >>= fun f => match f with | .nx ρ2 => forLo n all (gN 2) inB ds ρ2 | .ct ρ2 => forLo n all (gN 2) inB ds ρ2 | .bk ρ2 => pure (.nx ρ2) | .rt d => pure (.rt d)) : M Flow) S = _
      rw [m_bind, t]
      exact r
    · rcases m2 z m with h | h
      · rcases m1 z h with h | h
        · exact .inr (by rw [h]; exact List.mem_cons_self)
        · exact .inl h
      · exact .inr (List.mem_cons_of_mem _ h)
theorem l_in_order {n : Nat} (e : S[n]? = some (.lst ds)) (hd : ∀ d, d ∈ ds → d ∈ rights b) (l : ds.length ≤ 50) : ∃ fs, L__law_in_order [.loc n] S = .ok (.lst fs) S ∧ ascB fs = true ∧ (∀ z, z ∈ fs → z ∈ ds) ∧ fs.length ≤ ds.length := by
  obtain ⟨fs, z2, z3, r, a, m, l2⟩ := in_loop (all := ds) e ds [] none none hd nofun rfl (by show 0 + _ ≤ 100; omega)
  refine ⟨fs, ?_, a, fun z q => (m z q).resolve_left nofun, by have : ([] : List Dat).length = 0 := rfl; omega⟩
  refine run_at ((seq_at (ρ' := inE n [] none none) (S' := S) rfl).trans ?_)
  refine (seq_at (ρ' := inE n fs z2 z3) (S' := S) ?_).trans (ret_at rfl)
  show (lstLo n >>= fun ds => forLo n ds (gN 2) inB ds (inE n [] none none)) S = _
  rw [m_bind]
  have : lstLo n S = .ok ds S := by
    unfold lstLo
    rw [e]
  rw [this]
  exact r
end
end Zd
namespace Zd
open PySem PySem.Spec PyProof.Rows L2 Zg
theorem lg_sc {d : Dat} (h : lg d) : isSc d = true := by
  rcases h with ⟨s, rfl, _⟩ | ⟨i, rfl, _⟩ | rfl | ⟨b, rfl⟩ <;> rfl
/-- what can stand for the late ones -/
inductive LateR (b : Bool) : Dat → Prop where
  | tup (ds : List Dat) (h : ∀ d, d ∈ ds → d ∈ lates b) (l : ds.length ≤ 20) : LateR b (.tup ds)
  | lst (ds : List Dat) (h : ∀ d, d ∈ ds → d ∈ lates b) (l : ds.length ≤ 20) : LateR b (.lst ds)
  | non : LateR b .non
theorem LateR.v {b : Bool} {l : Dat} (h : LateR b l) : LateV b l := by
  cases h with
  | tup ds h l => exact .tup ds h (by omega)
  | lst ds h l => exact .lst ds
  | non => exact .non
structure Six (b : Bool) (m t n w l v : Dat) : Prop where
  m : m ∈ ML
  t : lg t
  n : n ∈ NL
  w : w ∈ WL
  l : LateR b l
  v : v ∈ VL
def topsR (kk : Ki × Ki) : Bool → List Dat
  | true => [.int (kk.1.2 + 1), .int kk.2.2, .int (kk.1.2 + 20)]
  | false => [.int kk.1.1, .int kk.1.2, .int (kk.1.1 + 7)]
def smallI : Dat → Bool
  | .int i => decide (-(10 ^ 20) < i) && decide (i < 10 ^ 20)
  | _ => false
theorem topsR_all : (kL.all fun kk => [true, false].all fun g => (topsR kk g).all fun t => topB kk g t && smallI t) = true := by kernel_rfl
theorem topsR_ok {kk : Ki × Ki} {g : Bool} {t : Dat} (hk : kk ∈ kL) (h : t ∈ topsR kk g) : topB kk g t = true ∧ lg t := by
  have a := List.all_eq_true.mp (List.all_eq_true.mp (List.all_eq_true.mp topsR_all kk hk) g (by cases g <;> simp)) t h
  rw [Bool.and_eq_true] at a
  refine ⟨a.1, ?_⟩
  have s := a.2
  cases t with
  | int i =>
    have s : (decide (-(10 ^ 20) < i) && decide (i < 10 ^ 20)) = true := s
    rw [Bool.and_eq_true, decide_eq_true_eq, decide_eq_true_eq] at s
    exact .inr (.inl ⟨i, rfl, s⟩)
  | _ => cases s
def wdsG : Bool → List Str
  | true => ["same", "old", "far", "cut"]
  | false => ["same", "old", "far"]
def nwD : Bool → List Str
  | true => ["none", "old", "cut"]
  | false => ["none", "old", "same"]
def wwD (g : Bool) : List Str := ("none" : Str) :: wdsG g
def vsD : List Str := ["", "ahead", "seen"]
theorem words_all : ([true, false].all fun g => (nwD g).all fun n => (wwD g).all fun w => vsD.all fun v => wrdB (.str (msD g)) (.str n) (.str w) (.str v) && endB (.str (msD g)) (.str n) (.str w)) = true := by kernel_rfl
theorem words_ok {g : Bool} {n w v : Str} (hn : n ∈ nwD g) (hw : w ∈ wwD g) (hv : v ∈ vsD) : wrdB (.str (msD g)) (.str n) (.str w) (.str v) = true ∧ endB (.str (msD g)) (.str n) (.str w) = true := by
  have a := List.all_eq_true.mp (List.all_eq_true.mp (List.all_eq_true.mp (List.all_eq_true.mp words_all g (by cases g <;> simp)) n hn) w hw) v hv
  rw [Bool.and_eq_true] at a
  exact a
theorem ms_in {g : Bool} : Dat.str (msD g) ∈ ML := by cases g <;> simp [ML, msD]
theorem n_in {g : Bool} {n : Str} (h : n ∈ nwD g) : Dat.str n ∈ NL := by
  cases g <;> (simp only [nwD, List.mem_cons, List.not_mem_nil, or_false] at h; rcases h with rfl | rfl | rfl <;> simp [NL])
theorem w_in {g : Bool} {n : Str} (h : n ∈ wwD g) : Dat.str n ∈ WL := by
  cases g
  · simp only [wwD, wdsG, List.mem_cons, List.not_mem_nil, or_false] at h
    rcases h with rfl | rfl | rfl | rfl <;> simp [WL]
  · simp only [wwD, wdsG, List.mem_cons, List.not_mem_nil, or_false] at h
    rcases h with rfl | rfl | rfl | rfl | rfl <;> simp [WL]
theorem v_in {n : Str} (h : n ∈ vsD) : Dat.str n ∈ VL := by
  simp only [vsD, List.mem_cons, List.not_mem_nil, or_false] at h
  rcases h with rfl | rfl | rfl <;> simp [VL]
/-- a mark that is drawn -/
def MarkOk (kk : Ki × Ki) (b : Bool) (r : Dat) : Prop := ∃ m t n w ds v, r = .tup [m, t, n, w, .tup ds, v] ∧ Six b m t n w (.tup ds) v ∧ (∀ d, d ∈ ds → d ∈ rights b) ∧ ds.length ≤ 8 ∧ markP kk b m t n w (.tup ds) v = true
abbrev amE (ℓ : Nat) (w lats : Dat) (m lo hi mo t ws k z10 z11 z12 z13 : Option Dat) : Env := [some (.loc ℓ), some w, some lats, m, lo, hi, mo, t, ws, k, z10, z11, z12, z13, none]
abbrev latsD (b : Bool) : Dat := .lst ((latL b).map latD)
theorem latL_len {b : Bool} : (latL b).length = 2 := by cases b <;> rfl
section
variable {ℓ : Nat} {b g : Bool} {x y d : Dat} {S : List Dat} {kk : Ki × Ki} {ds fs : List Dat} {ρ : Env}
theorem w_lworld {k : Nat} {C : Dat → List Dat → Prop} (h : Pot ℓ (k + 2) S) (q : ∀ kk b S', kk ∈ kL → Pot ℓ k S' → FrE ℓ S S' → C (.tup [wdD kk b, latsD b]) S') : wp (L__law_late_world [.loc ℓ]) S C := by
  have h : Pot ℓ (k + 1 + 1) S := h
  refine wp_run (wp_seq (wp_asg (wp_call (wp_cons (wp_of (a := .loc ℓ) (S' := S) rfl (wp_cons (wp_of (a := .lst (kL.map fun k => .tup [kP k.1, kP k.2])) (S' := S) rfl (wp_nil ?_))))))))
  refine w_ofE h (by rw [List.length_map]; decide) (by rw [List.length_map]; decide) fun x S1 mx hp1 f1 => ?_
  obtain ⟨kk, hk, rfl⟩ := List.mem_map.mp mx
  refine ⟨[some (.loc ℓ), some (kP kk.1), some (kP kk.2), none, none, none, none], rfl, ?_⟩
  dsimp only
  refine wp_seq (wp_asg (wp_of (a := elderD) (S' := S1) rfl ⟨[some (.loc ℓ), some (kP kk.1), some (kP kk.2), some elderD, none, none, none], rfl, ?_⟩))
  dsimp only
  refine wp_seq (wp_asg (wp_of (a := .lst [laterD "narrow first", laterD "wide first"]) (S' := S1) rfl ⟨[some (.loc ℓ), some (kP kk.1), some (kP kk.2), some elderD, some (.lst [laterD "narrow first", laterD "wide first"]), none, none], rfl, ?_⟩))
  dsimp only
  refine wp_seq (wp_if (wp_mono (w_teq (by decide) (by decide) _ S1 hp1) fun b S2 z => ⟨fun _ => ?_, fun _ => ?_⟩))
  · exact wp_of (a := .rt (.tup [wdD kk true, latsD true])) (S' := S2) rfl (wp_of rfl (q kk true S2 hk z.1 (f1.trans z.2)))
  · refine wp_of (a := .nx [some (.loc ℓ), some (kP kk.1), some (kP kk.2), some elderD, some (.lst [laterD "narrow first", laterD "wide first"]), none, none]) (S' := S2) rfl ?_
    exact wp_of (a := .rt (.tup [wdD kk false, latsD false])) (S' := S2) rfl (wp_of rfl (q kk false S2 hk z.1 (f1.trans z.2)))
abbrev topE : Env → M Dat := xIf (bTest (xOp dEq (xVar 3) (xC (.str "small")))) (xCall L__law_of (xCons (xVar 0) (xCons (xLst (xCons (xVar 4) (xCons (xVar 5) (xCons (xOp dAdd (xVar 4) (xC (.int 7))) xNil)))) xNil))) (xCall L__law_of (xCons (xVar 0) (xCons (xLst (xCons (xOp dAdd (xVar 5) (xC (.int 1))) (xCons (xVar 6) (xCons (xOp dAdd (xVar 5) (xC (.int 20))) xNil)))) xNil)))
theorem w_top {k : Nat} {C : Dat → List Dat → Prop} (h : Pot ℓ (k + 1) S) (q : ∀ t S', t ∈ topsR kk g → Pot ℓ k S' → FrE ℓ S S' → C t S') :
    wp (topE (amE ℓ (wdD kk b) (latsD b) (some (.str (msD g))) (some (.int kk.1.1)) (some (.int kk.1.2)) (some (.int kk.2.2)) none none none none none none none)) S C := by
  cases g with
  | true =>
    refine wp_xif (wp_of (a := false) (S' := S) rfl ⟨nofun, fun _ => wp_call (wp_cons (wp_of (a := .loc ℓ) (S' := S) rfl (wp_cons (wp_of (a := .lst (topsR kk true)) (S' := S) rfl (wp_nil ?_)))))⟩)
    exact w_ofE h (by show 0 < 3; decide) (by show 3 ≤ 1000; decide) q
  | false =>
    refine wp_xif (wp_of (a := true) (S' := S) rfl ⟨fun _ => wp_call (wp_cons (wp_of (a := .loc ℓ) (S' := S) rfl (wp_cons (wp_of (a := .lst (topsR kk false)) (S' := S) rfl (wp_nil ?_))))), nofun⟩)
    exact w_ofE h (by show 0 < 3; decide) (by show 3 ≤ 1000; decide) q
/-- late ones of a mark -/
def keptOk (b g : Bool) (acc : List Dat) : Prop := ∀ d, d ∈ acc → d ∈ rights b ∧ (g = true ∨ cutw d = false)
abbrev kpB : Env → M Flow := (sExtLo (xVar 9) (xCons (xLc (iLst (xVar 8)) (gN 14) (bTest (xOp dEq (xCall L__law_take (xCons (xVar 0) (xCons (xC (.int 3)) xNil))) (xC (.int 0)))) (xOp dCatT (xVar 10) (xTup (xCons (xVar 14) xNil))) [14]) xNil))
theorem word_right {p : Str × Int} {w : Str} (hp : p ∈ latL b) (hw : w ∈ wdsG g) : triD p w ∈ rights b ∧ (g = true ∨ cutw (triD p w) = false) := by
  refine ⟨List.mem_flatMap.mpr ⟨p, hp, List.mem_map.mpr ⟨w, ?_, rfl⟩⟩, ?_⟩
  · cases g
    · simp only [wdsG, List.mem_cons, List.not_mem_nil, or_false] at hw
      rcases hw with rfl | rfl | rfl <;> simp
    · exact hw
  · cases g with
    | true => exact .inl rfl
    | false =>
      right
      simp only [wdsG, List.mem_cons, List.not_mem_nil, or_false] at hw
      rcases hw with rfl | rfl | rfl <;> rfl
theorem wds_len : (wdsG g).length ≤ 4 := by cases g <;> decide
theorem w_kturn {k n : Nat} {S0 acc : List Dat} {p : Str × Int} {m lo hi mo t z11 z12 z13 : Option Dat} (hn : n ≠ ℓ) (l0 : S0.length ≤ n) (hp : p ∈ latL b) (e : S[n]? = some (.lst acc)) (la : acc.length ≤ 900) (ha : keptOk b g acc) (hpt : Pot ℓ (k + 4) S) (hf : FrS ℓ S0 S) :
    wp (kpB (amE ℓ (wdD kk b) (latsD b) m lo hi mo t (some (.lst ((wdsG g).map .str))) (some (.loc n)) (some (latD p)) z11 z12 z13)) S fun f S' => f = .nx (amE ℓ (wdD kk b) (latsD b) m lo hi mo t (some (.lst ((wdsG g).map .str))) (some (.loc n)) (some (latD p)) z11 z12 z13) ∧ ∃ acc', S'[n]? = some (.lst acc') ∧ acc'.length ≤ acc.length + 4 ∧ keptOk b g acc' ∧ Pot ℓ k S' ∧ FrS ℓ S0 S' := by
  refine wp_ext (n := n) (xs := acc) rfl e (wp_cons (wp_lcT (wp_of (a := (wdsG g).map .str) (S' := S) rfl ⟨by rw [List.length_map]; have := wds_len (g := g); omega, ?_⟩)))
  have wl := wds_len (g := g)
  refine wp_compT (I := fun left ys S2 => (∀ d, d ∈ left → ∃ w, w ∈ wdsG g ∧ d = .str w) ∧ keptOk b g ys ∧ ys.length + left.length ≤ 4 ∧ Pot ℓ (k + left.length) S2 ∧ FrE ℓ S S2) (fun d left ys S2 I => ?_) _ [] S _ ⟨fun d md => ?_, nofun, by rw [List.length_map]; exact Nat.le_trans (by show 0 + _ ≤ _; omega) wl, hpt.le (by rw [List.length_map]; omega), .refl⟩ fun ys S2 I => ?_
  · obtain ⟨hd, hy, ly, hp2, f2⟩ := I
    obtain ⟨w, mw, rfl⟩ := hd d List.mem_cons_self
    rw [List.length_cons] at ly
    have hp2 : Pot ℓ (k + left.length + 1) S2 := hp2
    refine ⟨_, rfl, wp_mono (w_teq (by decide) (by decide) _ S2 hp2) fun c S3 z => ⟨fun _ => ?_, fun _ => ⟨fun x m => hd x (List.mem_cons_of_mem _ m), hy, by omega, z.1, f2.trans z.2⟩⟩⟩
    refine wp_of (a := triD p w) (S' := S3) rfl ⟨fun x m => hd x (List.mem_cons_of_mem _ m), fun x m => ?_, by rw [List.length_append]; show _ + 1 + _ ≤ 4; omega, z.1, f2.trans z.2⟩
    rcases List.mem_append.mp m with m | m
    · exact hy x m
    · rw [List.mem_singleton.mp m]
      exact word_right hp mw
  · obtain ⟨w, mw, rfl⟩ := List.mem_map.mp md
    exact ⟨w, mw, rfl⟩
  · obtain ⟨_, hy, ly, hp2, f2⟩ := I
    rw [List.nil_append] at hy ly
    have ly : ys.length + 0 ≤ 4 := ly
    have e2 := f2.1.get e hn
    refine wp_nil ⟨ys, acc, rfl, e2, by omega, rfl, acc ++ ys, set_get e2, by rw [List.length_append]; omega, fun x m => ?_, Pot.other hp2 hn, (hf.trans f2.1).setNew l0⟩
    rcases List.mem_append.mp m with m | m
    · exact ha x m
    · exact hy x m
end
end Zd
namespace Zd
open PySem PySem.Spec PyProof.Rows L2 Zg
section
variable {ℓ : Nat} {b g : Bool} {x y d : Dat} {S : List Dat} {kk : Ki × Ki} {ds fs : List Dat} {ρ : Env}
theorem mark_of {t : Dat} {n w v : Str} {fs : List Dat} (ht : topB kk g t = true ∧ lg t) (hn : n ∈ nwD g) (hw : w ∈ wwD g) (hv : v ∈ vsD) (a : ascB fs = true) (ha : keptOk b g fs) (l : fs.length ≤ 8) : MarkOk kk b (.tup [.str (msD g), t, .str n, .str w, .tup fs, .str v]) := by
  refine ⟨_, _, _, _, fs, _, rfl, ⟨ms_in, ht.2, n_in hn, w_in hw, .tup fs (fun d m => lates_of (ha d m).1) (by omega), v_in hv⟩, fun d m => (ha d m).1, l, ?_⟩
  have wo := words_ok hn hw hv
  have ar : areB b (.tup fs) = true := by
    show (fs.all (lateP b) && ascB fs) = true
    rw [a, Bool.and_true]
    exact List.all_eq_true.mpr fun d m => right_P (ha d m).1
  have ct : (g || !cutIn (.tup fs)) = true := by
    cases g with
    | true => rfl
    | false =>
      show (!fs.any cutw) = true
      rw [Bool.not_eq_true']
      exact List.any_eq_false.mpr fun d m => by
        rcases (ha d m).2 with h | h
        · cases h
        · rw [h]; exact nofun
  unfold markP
  rw [wo.1, gr_ms, ht.1, ar, wo.2, ct]
  rfl
theorem w_any {k : Nat} (hk : kk ∈ kL) (h : Pot ℓ (k + 13) S) : wp (L__law_any_mark [.loc ℓ, wdD kk b, latsD b]) S fun r S' => Pot ℓ k S' ∧ FrS ℓ S S' ∧ MarkOk kk b r := by
  have h : Pot ℓ (k + 3 + 8 + 1 + 1) S := h
  refine wp_run (wp_seq (wp_asg (wp_tup (wp_cons (wp_call (wp_cons (wp_of (a := .loc ℓ) (S' := S) rfl (wp_cons (wp_of (a := .lst ((["small", "great"] : List Str).map .str)) (S' := S) rfl (wp_nil ?_))))))))))
  refine w_ofSE ["small", "great"] h (by decide) (by decide) fun ms S1 hm hp1 f1 => ?_
  obtain ⟨g, rfl⟩ : ∃ g, ms = msD g := by
    simp only [List.mem_cons, List.not_mem_nil, or_false] at hm
    rcases hm with rfl | rfl
    · exact ⟨false, rfl⟩
    · exact ⟨true, rfl⟩
  refine wp_of (a := [kP kk.1, .int kk.2.2]) (S' := S1) rfl ⟨by show 3 ≤ 1000; decide, amE ℓ (wdD kk b) (latsD b) (some (.str (msD g))) (some (.int kk.1.1)) (some (.int kk.1.2)) (some (.int kk.2.2)) none none none none none none none, rfl, ?_⟩
  dsimp only
  refine wp_seq (wp_asg (w_top (g := g) hp1 fun t S2 ht hp2 f2 => ⟨amE ℓ (wdD kk b) (latsD b) (some (.str (msD g))) (some (.int kk.1.1)) (some (.int kk.1.2)) (some (.int kk.2.2)) (some t) none none none none none none, rfl, ?_⟩))
  have ht := topsR_ok hk ht
  dsimp only
  refine wp_seq (wp_asg (wp_of (a := .lst ((wdsG g).map .str)) (S' := S2) (by cases g <;> rfl) ⟨amE ℓ (wdD kk b) (latsD b) (some (.str (msD g))) (some (.int kk.1.1)) (some (.int kk.1.2)) (some (.int kk.2.2)) (some t) (some (.lst ((wdsG g).map .str))) none none none none none, rfl, ?_⟩))
  dsimp only
  refine wp_seq (wp_asg (wp_of (a := .loc S2.length) (S' := S2 ++ [.lst []]) rfl ⟨amE ℓ (wdD kk b) (latsD b) (some (.str (msD g))) (some (.int kk.1.1)) (some (.int kk.1.2)) (some (.int kk.2.2)) (some t) (some (.lst ((wdsG g).map .str))) (some (.loc S2.length)) none none none none, rfl, ?_⟩))
  dsimp only
  have h3 : Pot ℓ (k + 3 + 8) (S2 ++ [.lst []]) := hp2.push
  have f3 : FrS ℓ S (S2 ++ [.lst []]) := (f1.1.trans f2.1).trans .push
  have hn := hp2.newGet (Nat.le_refl S2.length)
  have e3 : (S2 ++ [.lst []])[S2.length]? = some (.lst []) := by rw [List.getElem?_append_right (Nat.le_refl _), Nat.sub_self] <;> rfl
  have l0 : S.length ≤ S2.length := by rw [f2.2, f1.2]; exact Nat.le_refl _
  generalize S2.length = n at hn e3 l0 ⊢
  generalize S2 ++ [.lst []] = S3 at h3 f3 e3 ⊢
  refine wp_seq (wp_bind (wp_of (a := (latL b).map latD) (S' := S3) rfl ?_))
  refine wp_for (I := fun left ρ S4 => (∃ acc z10, ρ = amE ℓ (wdD kk b) (latsD b) (some (.str (msD g))) (some (.int kk.1.1)) (some (.int kk.1.2)) (some (.int kk.2.2)) (some t) (some (.lst ((wdsG g).map .str))) (some (.loc n)) z10 none none none ∧ S4[n]? = some (.lst acc) ∧ acc.length + 4 * left.length ≤ 8 ∧ keptOk b g acc) ∧ (∀ d, d ∈ left → ∃ p, p ∈ latL b ∧ d = latD p) ∧ Pot ℓ (k + 3 + 4 * left.length) S4 ∧ FrS ℓ S S4) (fun d left ρ S4 I => ?_) (fun ρ S4 I => ?_) _ _ _ ⟨⟨[], none, rfl, e3, by rw [List.length_map, latL_len]; decide, nofun⟩, fun d m => ?_, by rw [List.length_map, latL_len]; exact h3, f3⟩
  · obtain ⟨⟨acc, z10, rfl, e4, la, ha⟩, hd, hp4, f4⟩ := I
    rw [List.length_cons] at la hp4
    obtain ⟨p, mp, rfl⟩ := hd d List.mem_cons_self
    refine ⟨_, rfl, ?_⟩
    refine wp_mono (w_kturn (k := k + 3 + 4 * left.length) hn l0 mp e4 (by omega) ha (hp4.le (by omega)) f4) fun f S5 z => ?_
    obtain ⟨rfl, acc', e5, l5, a5, hp5, f5⟩ := z
    exact ⟨⟨acc', _, rfl, e5, by omega, a5⟩, fun x m => hd x (List.mem_cons_of_mem _ m), hp5, f5⟩
  · obtain ⟨⟨acc, z10, rfl, e4, la, ha⟩, hd, hp4, f4⟩ := I
    have hp4 : Pot ℓ (k + 1 + 1 + 1) S4 := hp4
    have la : acc.length + 0 ≤ 8 := la
    refine wp_seq (wp_asg (wp_call (wp_cons (wp_of (a := .loc ℓ) (S' := S4) rfl (wp_cons (wp_of (a := .lst ((nwD g).map .str)) (S' := S4) (by cases g <;> rfl) (wp_nil ?_)))))))
    refine w_ofSE (nwD g) hp4 (by cases g <;> decide) (by cases g <;> decide) fun nw S5 mn hp5 f5 => ?_
    refine ⟨amE ℓ (wdD kk b) (latsD b) (some (.str (msD g))) (some (.int kk.1.1)) (some (.int kk.1.2)) (some (.int kk.2.2)) (some t) (some (.lst ((wdsG g).map .str))) (some (.loc n)) z10 (some (.str nw)) none none, rfl, ?_⟩
    dsimp only
    refine wp_seq (wp_par (wp_cons (wp_call (wp_cons (wp_of (a := .loc ℓ) (S' := S5) rfl (wp_cons (wp_of (a := .lst ((wwD g).map .str)) (S' := S5) (by cases g <;> rfl) (wp_nil ?_))))))))
    refine w_ofSE (wwD g) hp5 (by cases g <;> decide) (by cases g <;> decide) fun ww S6 mw hp6 f6 => ?_
    refine wp_cons (wp_call (wp_cons (wp_of (a := .loc ℓ) (S' := S6) rfl (wp_cons (wp_of (a := .lst (vsD.map .str)) (S' := S6) rfl (wp_nil ?_))))))
    refine w_ofSE vsD hp6 (by decide) (by decide) fun vv S7 mv hp7 f7 => ?_
    refine wp_nil ⟨_, _, rfl, ?_⟩
    have e7 := ((f5.trans f6).trans f7).1.get e4 hn
    have f8 := f4.trans ((f5.trans f6).trans f7).1
    obtain ⟨fs, io, as, mf, lf⟩ := l_in_order (S := S7) e7 (fun d m => (ha d m).1) (by omega)
    refine wp_ret (wp_of (a := .tup [.str (msD g), t, .str nw, .str ww, .tup fs, .str vv]) (S' := S7) ?_ (wp_of rfl ⟨hp7, f8, mark_of ht mn mw mv as (fun d m => ha d (mf d m)) (by omega)⟩))
    refine tupK_at (cons_at (S1 := S7) rfl (cons_at (S1 := S7) rfl (cons_at (S1 := S7) rfl (cons_at (S1 := S7) rfl (cons_at (S1 := S7) (x := .tup fs) ?_ (one_at rfl)))))) (by show 6 ≤ 1000; decide)
    exact cb_at (S1 := S7) (one_at (call_at (S1 := S7) (ds := [.loc n]) rfl io)) rfl
  · obtain ⟨p, mp, rfl⟩ := List.mem_map.mp m
    exact ⟨p, mp, rfl⟩
end
end Zd
namespace Zd
open PySem PySem.Spec PyProof.Rows L2 Zg
def topsB (kk : Ki × Ki) : List Dat := [.int kk.1.1, .int (kk.1.1 - 1), .int kk.1.2, .int (kk.1.2 + 1), .int kk.2.2, .int (kk.2.2 + 1), .bl true, .non, .str "1", .int 3]
def lgB : Dat → Bool
  | .int i => decide (-(10 ^ 20) < i) && decide (i < 10 ^ 20)
  | .str s => strB s && decide (okS s)
  | .bl _ => true
  | .non => true
  | _ => false
theorem lgB_of {d : Dat} (h : lgB d = true) : lg d := by
  cases d with
  | int i =>
    have h : (decide (-(10 ^ 20) < i) && decide (i < 10 ^ 20)) = true := h
    rw [Bool.and_eq_true, decide_eq_true_eq, decide_eq_true_eq] at h
    exact .inr (.inl ⟨i, rfl, h⟩)
  | str s =>
    have h : (strB s && decide (okS s)) = true := h
    rw [Bool.and_eq_true, decide_eq_true_eq] at h
    exact .inl ⟨s, rfl, h⟩
  | bl x => exact .inr (.inr (.inr ⟨x, rfl⟩))
  | non => exact .inr (.inr (.inl rfl))
  | _ => cases h
theorem topsB_all : (kL.all fun kk => (topsB kk).all lgB) = true := by kernel_rfl
theorem topsB_lg {kk : Ki × Ki} {t : Dat} (hk : kk ∈ kL) (h : t ∈ topsB kk) : lg t := lgB_of (List.all_eq_true.mp (List.all_eq_true.mp topsB_all kk hk) t h)
theorem lists_all : ((ML.all lgB && NL.all lgB) && (WL.all lgB && VL.all lgB)) = true := by kernel_rfl
theorem ml_lg {d : Dat} (h : d ∈ ML) : lg d := by
  have a := lists_all
  rw [Bool.and_eq_true, Bool.and_eq_true, Bool.and_eq_true] at a
  exact lgB_of (List.all_eq_true.mp a.1.1 d h)
theorem nl_lg {d : Dat} (h : d ∈ NL) : lg d := by
  have a := lists_all
  rw [Bool.and_eq_true, Bool.and_eq_true, Bool.and_eq_true] at a
  exact lgB_of (List.all_eq_true.mp a.1.2 d h)
theorem wl_lg {d : Dat} (h : d ∈ WL) : lg d := by
  have a := lists_all
  rw [Bool.and_eq_true, Bool.and_eq_true, Bool.and_eq_true] at a
  exact lgB_of (List.all_eq_true.mp a.2.1 d h)
theorem vl_lg {d : Dat} (h : d ∈ VL) : lg d := by
  have a := lists_all
  rw [Bool.and_eq_true, Bool.and_eq_true, Bool.and_eq_true] at a
  exact lgB_of (List.all_eq_true.mp a.2.2 d h)
def lotsL (ds : List Dat) (d : Dat) : List Dat := [.tup [d], .tup (ds ++ [d]), .tup ds.reverse, .tup (ds ++ cutD ds none (some 1)), .lst ds, .non, .tup [d, d], .tup []]
theorem cutD_mem {ds : List Dat} {lo hi : Option Int} {z : Dat} (h : z ∈ cutD ds lo hi) : z ∈ ds := by
  unfold cutD at h
  exact List.mem_of_mem_drop (List.mem_of_mem_take h)
theorem cutD_len {ds : List Dat} {lo hi : Option Int} : (cutD ds lo hi).length ≤ ds.length := by
  unfold cutD
  rw [List.length_take, List.length_drop]
  omega
mutual
theorem nl_py : ∀ (d : Dat) (y : PyData), toPy d = some y → noLoc d = true
  | .tup ds, y, h => by
    obtain ⟨ys, e, _⟩ := toPy_tup h
    rw [noLoc]
    exact nls_py ds ys e
  | .lst ds, y, h => by
    obtain ⟨ys, e, _⟩ := toPy_lst h
    rw [noLoc]
    exact nls_py ds ys e
  | .non, _, _ => rfl
  | .bl _, _, _ => rfl
  | .int _, _, _ => rfl
  | .str _, _, _ => rfl
  | .ty _, _, _ => rfl
  | .cls _, _, _ => rfl
  | .scr _, _, _ => rfl
  | .loc _, _, h => by rw [toPy] at h <;> cases h
  | .dic _ _, _, h => by rw [toPy] at h <;> cases h
  | .obj _ _ _, _, h => by rw [toPy] at h <;> cases h
theorem nls_py : ∀ (ds : List Dat) (ys : List PyData), toPys ds = some ys → noLocs ds = true
  | [], _, _ => rfl
  | d :: ds, ys, h => by
    obtain ⟨x, xs, h1, h2, _⟩ := toPys_two h
    rw [noLocs, nl_py d x h1, nls_py ds xs h2]
    rfl
end
section
variable {ℓ : Nat} {b : Bool} {m t n w l v x d : Dat} {S : List Dat} {kk : Ki × Ki} {ds : List Dat} {ρ : Env}
theorem lots_ok (hd : d ∈ lates b) (hr : ∀ z, z ∈ ds → z ∈ lates b) (hl : ds.length ≤ 8) (h : x ∈ lotsL ds d) : LateR b x := by
  have one : ∀ z, z ∈ [d] → z ∈ lates b := fun z m => by rw [List.mem_singleton.mp m]; exact hd
  simp only [lotsL, List.mem_cons, List.not_mem_nil, or_false] at h
  rcases h with rfl | rfl | rfl | rfl | rfl | rfl | rfl | rfl
  · exact .tup _ one (by show 1 ≤ 20; decide)
  · exact .tup _ (fun z m => (List.mem_append.mp m).elim (hr z) (one z)) (by rw [List.length_append]; show _ + 1 ≤ 20; omega)
  · exact .tup _ (fun z m => hr z (List.mem_reverse.mp m)) (by rw [List.length_reverse]; omega)
  · exact .tup _ (fun z m => (List.mem_append.mp m).elim (hr z) fun m => hr z (cutD_mem m)) (by have := cutD_len (ds := ds) (lo := none) (hi := some 1); rw [List.length_append]; omega)
  · exact .lst _ hr (by omega)
  · exact .non
  · exact .tup _ (fun z m => (List.mem_cons.mp m).elim (fun m => by rw [m]; exact hd) (one z)) (by show 2 ≤ 20; decide)
  · exact .tup _ nofun (by show 0 ≤ 20; decide)
/-- what a bent mark can be -/
inductive Thing (b : Bool) : Dat → Prop where
  | six (m t n w l v : Dat) (h : Six b m t n w l v) : Thing b (.tup [m, t, n, w, l, v])
  | lst (m t n w l v : Dat) (h : Six b m t n w l v) : Thing b (.lst [m, t, n, w, l, v])
  | five (m t n w l v : Dat) (h : Six b m t n w l v) : Thing b (.tup [m, t, n, w, l])
  | seven (m t n w l v : Dat) (h : Six b m t n w l v) : Thing b (.tup [m, t, n, w, l, v, .str ""])
  | one (m t n w l v : Dat) (h : Six b m t n w l v) : Thing b (.tup [.tup [m, t, n, w, l, v]])
  | non : Thing b .non
  | small : Thing b (.str "small")
theorem sw_lst {n b k : Nat} {ds : List Dat} (l : ds.length ≤ k) (h : ∀ x ∈ ds, ∃ y, toPy x = some y ∧ Swy n b y) : ∃ y, toPy (.lst ds) = some y ∧ Swy (n + 1) (k * (b + 1)) y := by
  obtain ⟨ys, es, s, q, c, _⟩ := sw_all ds h
  exact ⟨.list ys, by rw [toPy, es]; rfl, s.lst.le (Nat.le_refl _) (Nat.mul_le_mul_right _ l), by simp only [PyData.hasDict]; exact q, by simp only [PyData.canLay0]; exact c⟩
theorem late_swR (h : LateR b l) : ∃ y, toPy l = some y ∧ Swy 2 2020 y := by
  cases h with
  | tup ds h l => exact sw_tup (n := 1) (b := 100) (k := 20) l fun x m => (late_sw (h x m)).1
  | lst ds h l => exact sw_lst (n := 1) (b := 100) (k := 20) l fun x m => (late_sw (h x m)).1
  | non => exact sw_le (lg_s (n := 0) (.inr (.inr (.inl rfl)))) (by decide) (by decide)
theorem leaf2 (h : lg d) : ∃ y, toPy d = some y ∧ Swy 2 2020 y := sw_le (lg_s (n := 0) h) (by decide) (by decide)
theorem Six.all (H : Six b m t n w l v) : ∀ z, z ∈ [m, t, n, w, l, v, .str ""] → ∃ y, toPy z = some y ∧ Swy 2 2020 y := fun z mz => by
  simp only [List.mem_cons, List.not_mem_nil, or_false] at mz
  rcases mz with rfl | rfl | rfl | rfl | rfl | rfl | rfl
  · exact leaf2 (ml_lg H.m)
  · exact leaf2 H.t
  · exact leaf2 (nl_lg H.n)
  · exact leaf2 (wl_lg H.w)
  · exact late_swR H.l
  · exact leaf2 (vl_lg H.v)
  · exact leaf2 (lgB_of (by decide +kernel))
theorem thing_sw (h : Thing b d) : ∃ y, toPy d = some y ∧ Swy 4 16200 y := by
  cases h with
  | six m t n w l v H => exact sw_le (sw_tup (n := 2) (b := 2020) (k := 6) (by show 6 ≤ 6; decide) fun z mz => H.all z (List.mem_append_left [Dat.str ("" : Str)] mz)) (by decide) (by decide)
  | lst m t n w l v H => exact sw_le (sw_lst (n := 2) (b := 2020) (k := 6) (by show 6 ≤ 6; decide) fun z mz => H.all z (List.mem_append_left [Dat.str ("" : Str)] mz)) (by decide) (by decide)
  | five m t n w l v H => exact sw_le (sw_tup (n := 2) (b := 2020) (k := 6) (by show 5 ≤ 6; decide) fun z mz => H.all z (List.mem_append_left [v, Dat.str ("" : Str)] mz)) (by decide) (by decide)
  | seven m t n w l v H => exact sw_le (sw_tup (n := 2) (b := 2020) (k := 7) (by show 7 ≤ 7; decide) H.all) (by decide) (by decide)
  | one m t n w l v H => exact sw_le (sw_tup (n := 3) (b := 12126) (k := 1) (by show 1 ≤ 1; decide) fun z mz => by
      rw [List.mem_singleton.mp mz]
      exact sw_tup (n := 2) (b := 2020) (k := 6) (by show 6 ≤ 6; decide) fun z mz => H.all z (List.mem_append_left [Dat.str ("" : Str)] mz)) (by decide) (by decide)
  | non => exact sw_le (lg_s (n := 0) (.inr (.inr (.inl rfl)))) (by decide) (by decide)
  | small => exact sw_le (lg_s (n := 0) (lgB_of (by decide +kernel))) (by decide) (by decide)
theorem thing_ok (h : Thing b d) : (∃ c : Bool, (∀ S, L_is_mark [woD kk b, d] S = .ok (.bl c) S) ∧ ∀ S, L__law_is_own_mark [wdD kk b, d] S = .ok (.bl c) S) ∧ (∃ z : Str, ∀ S, dRepr2 [d] S = .ok (.str z) S) ∧ noLoc d = true := by
  have sw := thing_sw h
  refine ⟨?_, sw_repr sw (by decide) (by decide), ?_⟩
  · cases h with
    | six m t n w l v H => exact ⟨_, fun S => l_mark6 (ml_sc H.m) (lg_sc H.t) (nl_sc H.n) (wl_sc H.w) (vl_sc H.v) H.l.v, fun S => l_own6 H.m (lg_sc H.t) H.n H.w H.v H.l.v⟩
    | _ => exact ⟨false, fun S => rfl, fun S => rfl⟩
  · obtain ⟨y, e, _⟩ := sw
    exact nl_py d y e
abbrev btE (ℓ : Nat) (w lats mk : Dat) (r lo hi mo : Int) (z8 z9 z10 z11 z12 z13 z14 z15 : Option Dat) : Env := [some (.loc ℓ), some w, some lats, some mk, some (.int r), some (.int lo), some (.int hi), some (.int mo), z8, z9, z10, z11, z12, z13, z14, z15, none]
abbrev partsB (kk : Ki × Ki) (ds : List Dat) (d : Dat) : Dat := .lst [.lst ML, .lst (topsB kk), .lst NL, .lst WL, .lst (lotsL ds d), .lst VL]
abbrev fdE : Env → M Dat := (xOp dCatT (xOp dCatT (jSl dCutT (xVar 3) oNone (oSome (xVar 4))) (xTup (xCons (xCall L__law_of (xCons (xVar 0) (xCons (xOp dIxL (xVar 14) (xVar 4)) xNil))) xNil))) (jSl dCutT (xVar 3) (oSome (xOp dAdd (xVar 4) (xC (.int 1)))) oNone))
theorem w_found {k : Nat} {r : Int} {wd lats : Dat} {z8 z9 z10 z11 z12 z13 z15 : Option Dat} {C : Dat → List Dat → Prop} (hk : kk ∈ kL) (r0 : 0 ≤ r) (r1 : r < 6) (H : Six b m t n w (.tup ds) v) (hd : d ∈ lates b) (hr : ∀ z, z ∈ ds → z ∈ lates b) (hl8 : ds.length ≤ 8) (h : Pot ℓ (k + 1) S)
    (q : ∀ m t n w l v S', Six b m t n w l v → Pot ℓ k S' → FrE ℓ S S' → C (.tup [m, t, n, w, l, v]) S') :
    wp (fdE (btE ℓ wd lats (.tup [m, t, n, w, .tup ds, v]) r kk.1.1 kk.1.2 kk.2.2 z8 z9 z10 z11 z12 z13 (some (partsB kk ds d)) z15)) S C := by
  have rc : r = 0 ∨ r = 1 ∨ r = 2 ∨ r = 3 ∨ r = 4 ∨ r = 5 := by omega
  rcases rc with rfl | rfl | rfl | rfl | rfl | rfl
  · refine wp_op (wp_op (wp_of (a := .tup []) (S' := S) rfl (wp_tup (wp_cons (wp_call (wp_cons (wp_of (a := .loc ℓ) (S' := S) rfl (wp_cons (wp_of (a := .lst ML) (S' := S) rfl (wp_nil ?_)))))))))) 
    refine w_ofE h (Nat.le_of_ble_eq_true rfl) (Nat.le_of_ble_eq_true rfl) fun x S1 hx hp f => wp_nil ⟨Nat.le_of_ble_eq_true rfl, wp_of (S' := S1) (a := .tup ([] ++ [x])) rfl (wp_of (a := .tup [t, n, w, .tup ds, v]) (S' := S1) rfl (wp_of (a := .tup [x, t, n, w, .tup ds, v]) (S' := S1) rfl ?_))⟩
    exact q _ _ _ _ _ _ S1 ⟨hx, H.t, H.n, H.w, H.l, H.v⟩ hp f
  · refine wp_op (wp_op (wp_of (a := .tup [m]) (S' := S) rfl (wp_tup (wp_cons (wp_call (wp_cons (wp_of (a := .loc ℓ) (S' := S) rfl (wp_cons (wp_of (a := .lst (topsB kk)) (S' := S) rfl (wp_nil ?_)))))))))) 
    refine w_ofE h (Nat.le_of_ble_eq_true rfl) (Nat.le_of_ble_eq_true rfl) fun x S1 hx hp f => wp_nil ⟨Nat.le_of_ble_eq_true rfl, wp_of (S' := S1) (a := .tup ([m] ++ [x])) rfl (wp_of (a := .tup [n, w, .tup ds, v]) (S' := S1) rfl (wp_of (a := .tup [m, x, n, w, .tup ds, v]) (S' := S1) rfl ?_))⟩
    exact q _ _ _ _ _ _ S1 ⟨H.m, topsB_lg hk hx, H.n, H.w, H.l, H.v⟩ hp f
  · refine wp_op (wp_op (wp_of (a := .tup [m, t]) (S' := S) rfl (wp_tup (wp_cons (wp_call (wp_cons (wp_of (a := .loc ℓ) (S' := S) rfl (wp_cons (wp_of (a := .lst NL) (S' := S) rfl (wp_nil ?_)))))))))) 
    refine w_ofE h (Nat.le_of_ble_eq_true rfl) (Nat.le_of_ble_eq_true rfl) fun x S1 hx hp f => wp_nil ⟨Nat.le_of_ble_eq_true rfl, wp_of (S' := S1) (a := .tup ([m, t] ++ [x])) rfl (wp_of (a := .tup [w, .tup ds, v]) (S' := S1) rfl (wp_of (a := .tup [m, t, x, w, .tup ds, v]) (S' := S1) rfl ?_))⟩
    exact q _ _ _ _ _ _ S1 ⟨H.m, H.t, hx, H.w, H.l, H.v⟩ hp f
  · refine wp_op (wp_op (wp_of (a := .tup [m, t, n]) (S' := S) rfl (wp_tup (wp_cons (wp_call (wp_cons (wp_of (a := .loc ℓ) (S' := S) rfl (wp_cons (wp_of (a := .lst WL) (S' := S) rfl (wp_nil ?_)))))))))) 
    refine w_ofE h (Nat.le_of_ble_eq_true rfl) (Nat.le_of_ble_eq_true rfl) fun x S1 hx hp f => wp_nil ⟨Nat.le_of_ble_eq_true rfl, wp_of (S' := S1) (a := .tup ([m, t, n] ++ [x])) rfl (wp_of (a := .tup [.tup ds, v]) (S' := S1) rfl (wp_of (a := .tup [m, t, n, x, .tup ds, v]) (S' := S1) rfl ?_))⟩
    exact q _ _ _ _ _ _ S1 ⟨H.m, H.t, H.n, hx, H.l, H.v⟩ hp f
  · refine wp_op (wp_op (wp_of (a := .tup [m, t, n, w]) (S' := S) rfl (wp_tup (wp_cons (wp_call (wp_cons (wp_of (a := .loc ℓ) (S' := S) rfl (wp_cons (wp_of (a := .lst (lotsL ds d)) (S' := S) rfl (wp_nil ?_)))))))))) 
    refine w_ofE h (Nat.le_of_ble_eq_true rfl) (Nat.le_of_ble_eq_true rfl) fun x S1 hx hp f => wp_nil ⟨Nat.le_of_ble_eq_true rfl, wp_of (S' := S1) (a := .tup ([m, t, n, w] ++ [x])) rfl (wp_of (a := .tup [v]) (S' := S1) rfl (wp_of (a := .tup [m, t, n, w, x, v]) (S' := S1) rfl ?_))⟩
    exact q _ _ _ _ _ _ S1 ⟨H.m, H.t, H.n, H.w, lots_ok hd hr hl8 hx, H.v⟩ hp f
  · refine wp_op (wp_op (wp_of (a := .tup [m, t, n, w, .tup ds]) (S' := S) rfl (wp_tup (wp_cons (wp_call (wp_cons (wp_of (a := .loc ℓ) (S' := S) rfl (wp_cons (wp_of (a := .lst VL) (S' := S) rfl (wp_nil ?_)))))))))) 
    refine w_ofE h (Nat.le_of_ble_eq_true rfl) (Nat.le_of_ble_eq_true rfl) fun x S1 hx hp f => wp_nil ⟨Nat.le_of_ble_eq_true rfl, wp_of (S' := S1) (a := .tup ([m, t, n, w, .tup ds] ++ [x])) rfl (wp_of (a := .tup []) (S' := S1) rfl (wp_of (a := .tup [m, t, n, w, .tup ds, x]) (S' := S1) rfl ?_))⟩
    exact q _ _ _ _ _ _ S1 ⟨H.m, H.t, H.n, H.w, H.l, hx⟩ hp f
theorem lstK_at {l : Env → M (List Dat)} {ds : List Dat} (hl : l ρ S = .ok ds S) (ln : ds.length ≤ 1000) : xLst l ρ S = .ok (.lst ds) S := by
  unfold xLst
  rw [m_bind, hl]
  show ((M.need (decide (ds.length ≤ 1000)) >>= fun _ => pure (Dat.lst ds)) : M Dat) S = _
  rw [decide_eq_true ln]
  rfl
theorem odd_in {p : Str × Int} (hp : p ∈ latL b) (h : d ∈ odds1 p) : d ∈ lates b := List.mem_append_right _ (List.mem_flatMap.mpr ⟨p, hp, h⟩)
theorem w_bent {k : Nat} {C : Dat → List Dat → Prop} (hk : kk ∈ kL) (H : Six b m t n w (.tup ds) v) (hr : ∀ z, z ∈ ds → z ∈ lates b) (hl8 : ds.length ≤ 8) (h : Pot ℓ (k + 5) S) (q : ∀ r S', Thing b r → Pot ℓ k S' → FrE ℓ S S' → C r S') :
    wp (L__law_bent [.loc ℓ, wdD kk b, latsD b, .tup [m, t, n, w, .tup ds, v]]) S C := by
  have h : Pot ℓ (k + 1 + 1 + 1 + 1 + 1) S := h
  refine wp_run (wp_seq (wp_asg (wp_tup (wp_cons (wp_call (wp_cons (wp_of (a := .loc ℓ) (S' := S) rfl (wp_cons (wp_of (a := .int 6) (S' := S) rfl (wp_nil ?_))))))))))
  refine w_takeE h (by decide) (by decide) fun r S1 r0 r1 hp1 f1 => ?_
  refine wp_of (a := [kP kk.1, .int kk.2.2]) (S' := S1) rfl ⟨by show 3 ≤ 1000; decide, btE ℓ (wdD kk b) (latsD b) (.tup [m, t, n, w, .tup ds, v]) r kk.1.1 kk.1.2 kk.2.2 none none none none none none none none, rfl, ?_⟩
  dsimp only
  refine wp_seq (wp_asg (wp_call (wp_cons (wp_of (a := .loc ℓ) (S' := S1) rfl (wp_cons (wp_of (a := latsD b) (S' := S1) rfl (wp_nil ?_)))))))
  refine w_ofE hp1 (by rw [List.length_map, latL_len]; decide) (by rw [List.length_map, latL_len]; decide) fun x S2 mx hp2 f2 => ?_
  obtain ⟨p, hp, rfl⟩ := List.mem_map.mp mx
  refine ⟨btE ℓ (wdD kk b) (latsD b) (.tup [m, t, n, w, .tup ds, v]) r kk.1.1 kk.1.2 kk.2.2 (some (.str p.1)) (some (.int p.2)) none none none none none none, rfl, ?_⟩
  dsimp only
  refine wp_seq (wp_asg (wp_of (a := .lst [triD p "none", triD p "cut", triD p "far", triD p "old", .tup [.str p.1, .int p.2, .non], .tup [.str p.1, .int p.2]]) (S' := S2) rfl ⟨btE ℓ (wdD kk b) (latsD b) (.tup [m, t, n, w, .tup ds, v]) r kk.1.1 kk.1.2 kk.2.2 (some (.str p.1)) (some (.int p.2)) (some (.lst [triD p "none", triD p "cut", triD p "far", triD p "old", .tup [.str p.1, .int p.2, .non], .tup [.str p.1, .int p.2]])) none none none none none, rfl, ?_⟩))
  dsimp only
  refine wp_seq (wp_asg (wp_of (a := .lst (odds1 p)) (S' := S2) rfl ⟨btE ℓ (wdD kk b) (latsD b) (.tup [m, t, n, w, .tup ds, v]) r kk.1.1 kk.1.2 kk.2.2 (some (.str p.1)) (some (.int p.2)) (some (.lst (odds1 p))) none none none none none, rfl, ?_⟩))
  dsimp only
  refine wp_seq (wp_asg (wp_call (wp_cons (wp_of (a := .loc ℓ) (S' := S2) rfl (wp_cons (wp_of (a := .lst (odds1 p)) (S' := S2) rfl (wp_nil ?_)))))))
  refine w_ofE hp2 (by show 0 < 11; decide) (by show 11 ≤ 1000; decide) fun d S3 md hp3 f3 => ?_
  have hd := odd_in hp md
  refine ⟨btE ℓ (wdD kk b) (latsD b) (.tup [m, t, n, w, .tup ds, v]) r kk.1.1 kk.1.2 kk.2.2 (some (.str p.1)) (some (.int p.2)) (some (.lst (odds1 p))) (some d) none none none none, rfl, ?_⟩
  dsimp only
  have ix : ∀ ρ, (ρ = btE ℓ (wdD kk b) (latsD b) (.tup [m, t, n, w, .tup ds, v]) r kk.1.1 kk.1.2 kk.2.2 (some (.str p.1)) (some (.int p.2)) (some (.lst (odds1 p))) (some d) none none none none) → xOp dIxT (xVar 3) (xC (.int 4)) ρ S3 = .ok (.tup ds) S3 ∧ xVar 11 ρ S3 = .ok d S3 := fun ρ e => by rw [e]; exact ⟨rfl, rfl⟩
  have lots : xLst (xCons (xTup (xCons (xVar 11) xNil)) (xCons (xOp dCatT (xOp dIxT (xVar 3) (xC (.int 4))) (xTup (xCons (xVar 11) xNil))) (xCons (xUn dRevT (xOp dIxT (xVar 3) (xC (.int 4)))) (xCons (xOp dCatT (xOp dIxT (xVar 3) (xC (.int 4))) (jSl dCutT (xOp dIxT (xVar 3) (xC (.int 4))) oNone (oSome (xC (.int 1))))) (xCons (xCB dList (xCons (xOp dIxT (xVar 3) (xC (.int 4))) xNil)) (xCons (xC .non) (xCons (xTup (xCons (xVar 11) (xCons (xVar 11) xNil))) (xCons (xTup xNil) xNil)))))))) (btE ℓ (wdD kk b) (latsD b) (.tup [m, t, n, w, .tup ds, v]) r kk.1.1 kk.1.2 kk.2.2 (some (.str p.1)) (some (.int p.2)) (some (.lst (odds1 p))) (some d) none none none none) S3 = .ok (.lst (lotsL ds d)) S3 := by
    generalize hρ : btE ℓ (wdD kk b) (latsD b) (.tup [m, t, n, w, .tup ds, v]) r kk.1.1 kk.1.2 kk.2.2 (some (.str p.1)) (some (.int p.2)) (some (.lst (odds1 p))) (some d) none none none none = ρ
    obtain ⟨i4, v11⟩ := ix ρ hρ.symm
    have t1 : xTup (xCons (xVar 11) xNil) ρ S3 = .ok (.tup [d]) S3 := tupK_at (one_at v11) (by show 1 ≤ 1000; decide)
    have t2 := op_at i4 t1 (catT_ok (S := S3) (xs := ds) (ys := [d]) (by show _ + 1 ≤ _; omega))
    have t3 : xUn dRevT (xOp dIxT (xVar 3) (xC (.int 4))) ρ S3 = .ok (.tup ds.reverse) S3 := by
      unfold xUn
      rw [m_bind, i4]
      rfl
    have c4 : jSl dCutT (xOp dIxT (xVar 3) (xC (.int 4))) oNone (oSome (xC (.int 1))) ρ S3 = .ok (.tup (cutD ds none (some 1))) S3 := by
      unfold jSl
      rw [m_bind, i4]
      rfl
    have t4 := op_at i4 c4 (catT_ok (S := S3) (xs := ds) (ys := cutD ds none (some 1)) (by have := cutD_len (ds := ds) (lo := none) (hi := some 1); omega))
    have t5 : xCB dList (xCons (xOp dIxT (xVar 3) (xC (.int 4))) xNil) ρ S3 = .ok (.lst ds) S3 := cb_at (S1 := S3) (one_at i4) rfl
    have t7 : xTup (xCons (xVar 11) (xCons (xVar 11) xNil)) ρ S3 = .ok (.tup [d, d]) S3 := tupK_at (cons_at v11 (one_at v11)) (by show 2 ≤ 1000; decide)
    exact lstK_at (cons_at t1 (cons_at t2 (cons_at t3 (cons_at t4 (cons_at t5 (cons_at (S1 := S3) rfl (cons_at t7 (one_at (S := S3) rfl)))))))) (by show 8 ≤ 1000; decide)
  refine wp_seq (wp_asg (wp_of lots ⟨btE ℓ (wdD kk b) (latsD b) (.tup [m, t, n, w, .tup ds, v]) r kk.1.1 kk.1.2 kk.2.2 (some (.str p.1)) (some (.int p.2)) (some (.lst (odds1 p))) (some d) (some (.lst (lotsL ds d))) none none none, rfl, ?_⟩))
  dsimp only
  refine wp_seq (wp_asg (wp_of (a := .lst (topsB kk)) (S' := S3) rfl ⟨btE ℓ (wdD kk b) (latsD b) (.tup [m, t, n, w, .tup ds, v]) r kk.1.1 kk.1.2 kk.2.2 (some (.str p.1)) (some (.int p.2)) (some (.lst (odds1 p))) (some d) (some (.lst (lotsL ds d))) (some (.lst (topsB kk))) none none, rfl, ?_⟩))
  dsimp only
  refine wp_seq (wp_asg (wp_of (a := .lst [.lst ML, .lst (topsB kk), .lst NL]) (S' := S3) rfl ⟨btE ℓ (wdD kk b) (latsD b) (.tup [m, t, n, w, .tup ds, v]) r kk.1.1 kk.1.2 kk.2.2 (some (.str p.1)) (some (.int p.2)) (some (.lst (odds1 p))) (some d) (some (.lst (lotsL ds d))) (some (.lst (topsB kk))) (some (.lst [.lst ML, .lst (topsB kk), .lst NL])) none, rfl, ?_⟩))
  dsimp only
  refine wp_seq (wp_asg (wp_of (a := partsB kk ds d) (S' := S3) rfl ⟨btE ℓ (wdD kk b) (latsD b) (.tup [m, t, n, w, .tup ds, v]) r kk.1.1 kk.1.2 kk.2.2 (some (.str p.1)) (some (.int p.2)) (some (.lst (odds1 p))) (some d) (some (.lst (lotsL ds d))) (some (.lst (topsB kk))) (some (partsB kk ds d)) none, rfl, ?_⟩))
  dsimp only
  refine wp_seq (wp_asg (w_found (k := k + 1) hk r0 r1 H hd hr hl8 hp3 fun m2 t2 n2 w2 l2 v2 S4 H2 hp4 f4 => ?_))
  refine ⟨btE ℓ (wdD kk b) (latsD b) (.tup [m, t, n, w, .tup ds, v]) r kk.1.1 kk.1.2 kk.2.2 (some (.str p.1)) (some (.int p.2)) (some (.lst (odds1 p))) (some d) (some (.lst (lotsL ds d))) (some (.lst (topsB kk))) (some (partsB kk ds d)) (some (.tup [m2, t2, n2, w2, l2, v2])), rfl, ?_⟩
  dsimp only
  refine wp_ret (wp_call (wp_cons (wp_of (a := .loc ℓ) (S' := S4) rfl (wp_cons (wp_of (a := .lst [.tup [m2, t2, n2, w2, l2, v2], .tup [m2, t2, n2, w2, l2, v2], .tup [m2, t2, n2, w2, l2, v2], .tup [m2, t2, n2, w2, l2, v2], .lst [m, t, n, w, .tup ds, v], .tup [m, t, n, w, .tup ds], .tup [m, t, n, w, .tup ds, v, .str ""], .tup [.tup [m, t, n, w, .tup ds, v]], .non, .str "small"]) (S' := S4) rfl (wp_nil ?_))))))
  refine w_ofE hp4 (Nat.le_of_ble_eq_true rfl) (Nat.le_of_ble_eq_true rfl) fun x S5 hx hp5 f5 => wp_of rfl (q x S5 ?_ hp5 ((((f1.trans f2).trans f3).trans f4).trans f5))
  simp only [List.mem_cons, List.not_mem_nil, or_false] at hx
  rcases hx with rfl | rfl | rfl | rfl | rfl | rfl | rfl | rfl | rfl | rfl
  · exact .six _ _ _ _ _ _ H2
  · exact .six _ _ _ _ _ _ H2
  · exact .six _ _ _ _ _ _ H2
  · exact .six _ _ _ _ _ _ H2
  · exact .lst _ _ _ _ _ _ H
  · exact .five _ _ _ _ _ _ H
  · exact .seven _ _ _ _ _ _ H
  · exact .one _ _ _ _ _ _ H
  · exact .non
  · exact .small
end
end Zd
namespace Zd
open PySem PySem.Spec PyProof.Rows L2 Zg
mutual
theorem frz_py {S : List Dat} : ∀ (d : Dat) (y : PyData) (n : Nat), toPy d = some y → y.depth ≤ n → frz S (n + 1) d = some d
  | .tup ds, y, n, h, l => by
    obtain ⟨ys, e, rfl⟩ := toPy_tup h
    rw [PyData.depth] at l
    obtain ⟨m, rfl⟩ : ∃ m, n = m + 1 := ⟨n - 1, by omega⟩
    have r := frzs_py (S := S) ds ys m e (by omega)
    unfold frz
    dsimp only
    rw [r]
  | .lst ds, y, n, h, l => by
    obtain ⟨ys, e, rfl⟩ := toPy_lst h
    rw [PyData.depth] at l
    obtain ⟨m, rfl⟩ : ∃ m, n = m + 1 := ⟨n - 1, by omega⟩
    have r := frzs_py (S := S) ds ys m e (by omega)
    unfold frz
    dsimp only
    rw [r]
  | .non, _, _, _, _ => rfl
  | .bl _, _, _, _, _ => rfl
  | .int _, _, _, _, _ => rfl
  | .str _, _, _, _, _ => rfl
  | .ty _, _, _, _, _ => rfl
  | .cls _, _, _, _, _ => rfl
  | .scr _, _, _, _, _ => rfl
  | .loc _, _, _, h, _ => by rw [toPy] at h <;> cases h
  | .dic _ _, _, _, h, _ => by rw [toPy] at h <;> cases h
  | .obj _ _ _, _, _, h, _ => by rw [toPy] at h <;> cases h
theorem frzs_py {S : List Dat} : ∀ (ds : List Dat) (ys : List PyData) (n : Nat), toPys ds = some ys → PyData.depthAll ys ≤ n → frzs (frz S (n + 1)) ds = some ds
  | [], _, _, _, _ => rfl
  | d :: ds, ys, n, h, l => by
    obtain ⟨x, xs, h1, h2, rfl⟩ := toPys_two h
    rw [PyData.depthAll] at l
    have a := Nat.max_le.mp l
    unfold frzs
    rw [frz_py d x n h1 a.1]
    dsimp only
    rw [frzs_py ds xs n h2 a.2]
end
def oddsM : List Dat := [.non, .bl true, .int 0, .tup [], .lst [], .dic [] [], .dic [.inr "a"] [.int 1], .tup [.tup [], .tup [], .tup [], .tup [], .tup [], .tup []], .tup [.lst [], .lst [], .lst [], .lst [], .lst [], .lst []], .str "marked"]
theorem odd_all (S : List Dat) : ((kbL.flatMap fun q => oddsM.map fun d => (q, d)).map fun r => callF L_is_mark [woD r.1.1 r.1.2, r.2] S) = (kbL.flatMap fun q => oddsM.map fun d => (q, d)).map fun _ => .ok (.bl false) S := by kernel_rfl
section
variable {ℓ : Nat} {b : Bool} {d : Dat} {S : List Dat} {kk : Ki × Ki} {ρ : Env} {ns : List Int} {i : Int}
theorem odd_F (hk : kk ∈ kL) (h : d ∈ oddsM) : callF L_is_mark [woD kk b, d] S = .ok (.bl false) S := map_eq (odd_all S) ((kk, b), d) (List.mem_flatMap.mpr ⟨(kk, b), kb_in hk b, List.mem_map.mpr ⟨d, h, rfl⟩⟩)
theorem nl_wo : noLoc (woD kk b) = true := by cases b <;> rfl
theorem nl_wd : noLoc (wdD kk b) = true := by cases b <;> rfl
theorem callF_b {F : List Dat → M Dat} {ds : List Dat} {c : Bool} (nl : noLocs ds = true) (h : ∀ S, F ds S = .ok (.bl c) S) : callF F ds S = .ok (.bl c) S := callF_ok nl (h []) rfl S
theorem nl_two {x y : Dat} (hx : noLoc x = true) (hy : noLoc y = true) : noLocs [x, y] = true := by
  rw [noLocs, noLocs, hx, hy]
  rfl
theorem neS_same2 {z : Str} : dNe (.str z) (.str z) S = .ok (.bl false) S := by
  show Out.ok (Dat.bl (!decide (_ = _))) S = _
  rw [decide_eq_true rfl]
  rfl
theorem bl_repr (c : Bool) : ∃ z : Str, ∀ S, dRepr2 [.bl c] S = .ok (.str z) S := sw_repr (n := 1) (b := 20) (lg_s (n := 0) (.inr (.inr (.inr ⟨c, rfl⟩)))) (by decide) (by decide)
abbrev lwB : Env → M Flow := (sSeq (sAsg (xCall (callP L__law_any_mark) (xCons (xVar 2) (xCons (xVar 3) (xCons (xVar 4) xNil)))) (gN 7))
    (sSeq (sIf (bOr (bTest (xOp (dIsB true) (xCall (callF L_is_mark) (xCons (xVar 5) (xCons (xVar 7) xNil))) (xC (.bl true)))) (bNot (bTest (xCall (callF L__law_is_own_mark) (xCons (xVar 3) (xCons (xVar 7) xNil)))))) (sRet (xC (.bl false))) sNx)
    (sSeq (sAsg (xCall L__law_bent (xCons (xVar 2) (xCons (xVar 3) (xCons (xVar 4) (xCons (xVar 7) xNil))))) (gN 8))
    (sSeq (sAsg (xCB dRepr2 (xCons (xVar 8) xNil)) (gN 9))
    (sIf (bOr (bTest (xOp dNe (xCB dRepr2 (xCons (xCall (callF L_is_mark) (xCons (xVar 5) (xCons (xVar 8) xNil))) xNil)) (xCB dRepr2 (xCons (xCall (callF L__law_is_own_mark) (xCons (xVar 3) (xCons (xVar 8) xNil))) xNil)))) (bTest (xOp dNe (xCB dRepr2 (xCons (xVar 8) xNil)) (xVar 9)))) (sRet (xC (.bl false))) sNx)))))
abbrev lwE (ns : List Int) (i : Int) (ℓ : Nat) (kk : Ki × Ki) (b : Bool) (z6 z7 z8 z9 z10 : Option Dat) : Env := [some (.scr ns), some (.int i), some (.loc ℓ), some (wdD kk b), some (latsD b), some (woD kk b), z6, z7, z8, z9, z10]
theorem w_lturn {k : Nat} {z6 z7 z8 z9 z10 : Option Dat} (hk : kk ∈ kL) (nl : noLocs S = true) (hp : Pot ℓ (k + 18) S) : wp (lwB (lwE ns i ℓ kk b z6 z7 z8 z9 z10)) S fun f S' => (∃ z7 z8 z9, f = .nx (lwE ns i ℓ kk b z6 z7 z8 z9 z10)) ∧ Pot ℓ k S' ∧ noLocs S' = true := by
  have hp : Pot ℓ (k + 5 + 13) S := hp
  refine wp_seq (wp_asg (wp_call (wp_cons (wp_of (a := .loc ℓ) (S' := S) rfl (wp_cons (wp_of (a := wdD kk b) (S' := S) rfl (wp_cons (wp_of (a := latsD b) (S' := S) rfl (wp_nil ?_)))))))))
  refine wp_callP (k := k + 5) nl hp (wp_mono (w_any hk hp) fun r S1 z => ?_)
  obtain ⟨hp1, f1, m, t, n, w, ds, v, rfl, H, hr, l8, mp⟩ := z
  obtain ⟨y, e, sw⟩ := thing_sw (.six _ _ _ _ _ _ H)
  have nm := nl_py _ _ e
  refine ⟨hp1, f1, .tup [m, t, n, w, .tup ds, v], frzN_of 40 _ nm _ (frz_py _ y 39 e (by have := sw.s.dp; omega)), fun S2 hp2 nl2 f2 => ⟨lwE ns i ℓ kk b z6 (some (.tup [m, t, n, w, .tup ds, v])) z8 z9 z10, rfl, ?_⟩⟩
  dsimp only
  have im : callF L_is_mark [woD kk b, .tup [m, t, n, w, .tup ds, v]] S2 = .ok (.bl true) S2 := callF_b (nl_two nl_wo nm) fun S => by
    rw [l_mark6 (ml_sc H.m) (lg_sc H.t) (nl_sc H.n) (wl_sc H.w) (vl_sc H.v) H.l.v, mp]
  have om : callF L__law_is_own_mark [wdD kk b, .tup [m, t, n, w, .tup ds, v]] S2 = .ok (.bl true) S2 := callF_b (nl_two nl_wd nm) fun S => by
    rw [l_own6 H.m (lg_sc H.t) H.n H.w H.v H.l.v, mp]
  have c1 := bor_b (S := S2) (ρ := lwE ns i ℓ kk b z6 (some (.tup [m, t, n, w, .tup ds, v])) z8 z9 z10) (x := false) (a := bTest (xOp (dIsB true) (xCall (callF L_is_mark) (xCons (xVar 5) (xCons (xVar 7) xNil))) (xC (.bl true)))) (test_at (op_at (S := S2) (call_at (S1 := S2) (ds := [woD kk b, .tup [m, t, n, w, .tup ds, v]]) rfl im) rfl rfl)) (not_at (test_at (call_at (S1 := S2) (l := xCons (xVar 3) (xCons (xVar 7) xNil)) (ds := [wdD kk b, .tup [m, t, n, w, .tup ds, v]]) rfl om)))
  refine wp_seqA ((if_f c1).trans rfl) ?_
  refine wp_seq (wp_asg (wp_call (wp_cons (wp_of (a := .loc ℓ) (S' := S2) rfl (wp_cons (wp_of (a := wdD kk b) (S' := S2) rfl (wp_cons (wp_of (a := latsD b) (S' := S2) rfl (wp_cons (wp_of (a := .tup [m, t, n, w, .tup ds, v]) (S' := S2) rfl (wp_nil ?_)))))))))))
  refine w_bent hk H (fun z mz => lates_of (hr z mz)) l8 hp2 fun r S3 th hp3 f3 => ?_
  obtain ⟨⟨c, h1, h2⟩, ⟨z, hz⟩, nr⟩ := thing_ok (kk := kk) th
  refine ⟨lwE ns i ℓ kk b z6 (some (.tup [m, t, n, w, .tup ds, v])) (some r) z9 z10, rfl, ?_⟩
  dsimp only
  have rz : ∀ z9, xCB dRepr2 (xCons (xVar 8) xNil) (lwE ns i ℓ kk b z6 (some (.tup [m, t, n, w, .tup ds, v])) (some r) z9 z10) S3 = .ok (.str z) S3 := fun z9 => cb_at (S1 := S3) (ds := [r]) rfl (hz S3)
  refine wp_seqA (asg_at (rz z9) (ρ' := lwE ns i ℓ kk b z6 (some (.tup [m, t, n, w, .tup ds, v])) (some r) (some (.str z)) z10) rfl) ?_
  obtain ⟨zb, hb⟩ := bl_repr c
  have r1 : xCB dRepr2 (xCons (xCall (callF L_is_mark) (xCons (xVar 5) (xCons (xVar 8) xNil))) xNil) (lwE ns i ℓ kk b z6 (some (.tup [m, t, n, w, .tup ds, v])) (some r) (some (.str z)) z10) S3 = .ok (.str zb) S3 := cb_at (S1 := S3) (one_at (call_at (S1 := S3) (ds := [woD kk b, r]) rfl (callF_b (nl_two nl_wo nr) h1))) (hb S3)
  have r2 : xCB dRepr2 (xCons (xCall (callF L__law_is_own_mark) (xCons (xVar 3) (xCons (xVar 8) xNil))) xNil) (lwE ns i ℓ kk b z6 (some (.tup [m, t, n, w, .tup ds, v])) (some r) (some (.str z)) z10) S3 = .ok (.str zb) S3 := cb_at (S1 := S3) (one_at (call_at (S1 := S3) (ds := [wdD kk b, r]) rfl (callF_b (nl_two nl_wd nr) h2))) (hb S3)
  have c2 := bor_b (test_at (op_at r1 r2 neS_same2)) (test_at (op_at (b := xVar 9) (y := .str z) (rz (some (.str z))) rfl neS_same2))
  exact wp_of ((if_f c2).trans rfl) ⟨⟨_, _, _, rfl⟩, hp3, f3.nl nl2 hp3⟩
abbrev bdB : Env → M Flow := (sSeq (sFor (iRg1 (xCons (xC (.int 12)) xNil)) (gN 6) lwB)
    (sSeq (sAsg (xCall L__law_of (xCons (xVar 2) (xCons (xLst (xCons (xC .non) (xCons (xC (.bl true)) (xCons (xC (.int 0)) (xCons (xTup xNil) (xCons (xLst xNil) (xCons xDic0 (xCons (xDisp [((xC (.str "a")), (xC (.int 1)))]) (xCons (xTup (xCons (xTup xNil) (xCons (xTup xNil) (xCons (xTup xNil) (xCons (xTup xNil) (xCons (xTup xNil) (xCons (xTup xNil) xNil))))))) (xCons (xOp dRepB (xTup (xCons (xLst xNil) xNil)) (xC (.int 6))) (xCons (xC (.str "marked")) xNil))))))))))) xNil))) (gN 10))
    (sIf (bTest (xOp (dIsB true) (xCall (callF L_is_mark) (xCons (xVar 5) (xCons (xVar 10) xNil))) (xC (.bl false)))) (sRet (xC (.bl false))) sNx)))
theorem w_body {k : Nat} {y6 y7 y8 y9 z10 : Option Dat} (hk : kk ∈ kL) (nl : noLocs S = true) (hp : Pot ℓ (k + 1 + 216) S) : wpS bdB (lwE ns i ℓ kk b y6 y7 y8 y9 z10) S fun f S' => (∃ z6 z7 z8 z9 z10, f = .nx (lwE ns i ℓ kk b z6 z7 z8 z9 z10)) ∧ noLocs S' = true := by
  obtain ⟨l12, it, len⟩ : ∃ l12 : List Dat, iRg1 (xCons (xC (.int 12)) xNil) (lwE ns i ℓ kk b y6 y7 y8 y9 z10) S = .ok l12 S ∧ l12.length = 12 := ⟨intsD 0 12, rfl, intsD_len⟩
  refine wpS_for it ?_
  refine wp_for (I := fun left ρ S2 => (∃ z6 z7 z8 z9, ρ = lwE ns i ℓ kk b z6 z7 z8 z9 z10) ∧ Pot ℓ (k + 1 + 18 * left.length) S2 ∧ noLocs S2 = true) (fun d left ρ S2 I => ?_) (fun ρ S2 I => ?_) _ _ _ ⟨⟨y6, y7, y8, y9, rfl⟩, by rw [len]; exact hp, nl⟩
  · obtain ⟨⟨z6, z7, z8, z9, rfl⟩, hp2, nl2⟩ := I
    refine ⟨lwE ns i ℓ kk b (some d) z7 z8 z9 z10, rfl, ?_⟩
    refine wp_mono (w_lturn (k := k + 1 + 18 * left.length) hk nl2 (hp2.le (by rw [List.length_cons]; omega))) fun f S3 z => ?_
    obtain ⟨⟨z7', z8', z9', rfl⟩, hp3, nl3⟩ := z
    exact ⟨⟨_, _, _, _, rfl⟩, hp3, nl3⟩
  · obtain ⟨⟨z6, z7, z8, z9, rfl⟩, hp2, nl2⟩ := I
    have hp2 : Pot ℓ (k + 1) S2 := hp2
    refine wpS_in (wp_seq (wp_asg (wp_call (wp_cons (wp_of (a := .loc ℓ) (S' := S2) rfl (wp_cons (wp_of (a := .lst oddsM) (S' := S2) rfl (wp_nil ?_))))))))
    refine w_ofE hp2 (by decide) (by decide) fun x S3 mx hp3 f3 => ?_
    refine ⟨lwE ns i ℓ kk b z6 z7 z8 z9 (some x), rfl, ?_⟩
    dsimp only
    have c := test_at (op_at (S := S3) (ρ := lwE ns i ℓ kk b z6 z7 z8 z9 (some x)) (f := dIsB true) (a := xCall (callF L_is_mark) (xCons (xVar 5) (xCons (xVar 10) xNil))) (b := xC (.bl false)) (x := .bl false) (y := .bl false) (d := .bl false) (call_at (S1 := S3) (ds := [woD kk b, x]) rfl (odd_F hk mx)) rfl rfl)
    exact wp_of ((if_f c).trans rfl) ⟨⟨_, _, _, _, _, rfl⟩, f3.nl nl2 hp3⟩
end
theorem w_pot2 {ns : List Int} {i : Nat} {S : List Dat} {C : Dat → List Dat → Prop} (h : i < 3) (q : ∀ o m, Pot S.length 100000 (S ++ [.lst [.int o, .int m, .int 0]]) → C (.loc S.length) (S ++ [.lst [.int o, .int m, .int 0]])) : wp (L__law_pot_of [.scr ns, .int (i : Int)]) S C := by
  have ih : -(2 ^ 64) < (i : Int) ∧ (i : Int) < 2 ^ 64 := by omega
  refine wp_run ?_
  have rest : ∀ c : Int, wp ((sSeq (sAsg potOwn (gN 3)) (sRetLo (xLst (xCons (xVar 3) (xCons potMid (xCons (xC (.int 0)) xNil))))) ) [some (.scr ns), some (.int (i : Int)), some (.int c), none]) S fun f S' => wp (outF f) S' C := fun c => by
    refine wp_seq (wp_asg (w_own fun o o0 => ⟨_, rfl, ?_⟩))
    refine wp_bind (wp_lst (wp_cons (wp_of (a := .int o) (S' := S) rfl (wp_cons ?_))))
    refine w_mid ih fun m m0 m1 => ?_
    refine wp_cons (wp_of (a := .int 0) (S' := S) rfl (wp_nil ⟨Nat.le_of_ble_eq_true rfl, ?_⟩))
    show wp (outF (.rt (.loc S.length))) (S ++ [.lst [.int o, .int m, .int 0]]) C
    refine wp_of rfl (q o m ⟨o, m, 0, ?_, o0, m0, m1, by decide, by decide⟩)
    rw [List.getElem?_append_right (Nat.le_refl _), Nat.sub_self]
    rfl
  by_cases c : i < ns.length
  · obtain ⟨v, hv⟩ := @scr_at ns i S c
    refine wp_seq (wp_asg (wp_xif (wp_of (a := true) (S' := S) ?_ ⟨fun _ => ?_, nofun⟩)))
    · show Out.ok (decide ((i : Int) < (ns.length : Int))) S = _
      rw [decide_eq_true (by omega)]
    · refine wp_op (wp_of (a := .scr ns) (S' := S) rfl (wp_of (a := .int (i : Int)) (S' := S) rfl (wp_of hv ⟨_, rfl, ?_⟩)))
      exact rest v
  · refine wp_seq (wp_asg (wp_xif (wp_of (a := false) (S' := S) ?_ ⟨nofun, fun _ => ?_⟩)))
    · show Out.ok (decide ((i : Int) < (ns.length : Int))) S = _
      rw [decide_eq_false (by omega)]
    · refine wp_op (wp_op (wp_of (a := .int 53) (S' := S) rfl (wp_of (a := .int (i : Int)) (S' := S) rfl (w_mul (.inl (by decide)) ?_))))
      refine wp_of (a := .int 29) (S' := S) rfl (w_add ⟨_, rfl, ?_⟩)
      generalize (53 * (i : Int) + 29) = v
      exact rest v
/-- the law's loop over its pots -/
theorem law_loop2 (Iv : List Dat → Prop) (iv : Iv []) {ns : List Int} {b : Env → M Flow} {u0 : Option Dat} {r : Env} {C : Flow → List Dat → Prop}
    (step : ∀ (r' : Env) (S : List Dat) (i : Nat), i < 3 → r'.length = r.length → Iv S → wp (b (some (.scr ns) :: some (.int (i : Int)) :: r')) S fun f S' => match f with
      | .nx ρ2 => (∃ u r2, ρ2 = some (.scr ns) :: u :: r2 ∧ r2.length = r.length) ∧ Iv S'
      | _ => False)
    (stop : ∀ ρ S, C (.nx ρ) S) : wp (sFor (iRg1 (xCons (xCB dMax (xCons (xC (.int 1)) (xCons (xCB dMin (xCons (xC (.int 3)) (xCons (xCB dLen (xCons (xVar 0) xNil)) xNil))) xNil))) xNil)) (gN 1) b (some (.scr ns) :: u0 :: r)) [] C := by
  obtain ⟨t, et, t3⟩ := loop_it ns (u0 :: r)
  refine wp_bind (wp_of et ?_)
  refine wp_for (I := fun left ρ S => (∀ d ∈ left, ∃ i : Nat, i < 3 ∧ d = .int (i : Int)) ∧ (∃ u r', ρ = some (.scr ns) :: u :: r' ∧ r'.length = r.length) ∧ Iv S) (fun d left ρ S ⟨el, ⟨u, r', eρ, lr⟩, ivS⟩ => ?_) (fun ρ S _ => stop ρ S) _ _ _ ⟨fun d m => ?_, ⟨_, _, rfl, rfl⟩, iv⟩
  · subst eρ
    obtain ⟨i, i3, rfl⟩ := el d List.mem_cons_self
    refine ⟨_, rfl, wp_mono (step r' S i i3 lr ivS) fun f S' k => ?_⟩
    cases f with
    | nx ρ2 =>
      obtain ⟨⟨u2, r2, k2, k3⟩, k4⟩ := k
      exact ⟨fun d m => el d (List.mem_cons_of_mem _ m), ⟨u2, r2, k2, k3⟩, k4⟩
    | rt d => exact k.elim
    | bk ρ => exact k.elim
    | ct ρ => exact k.elim
  · unfold intsD at m
    obtain ⟨i, mi, rfl⟩ := List.mem_map.mp m
    exact ⟨i, by have := List.mem_range.mp mi; omega, by rw [Int.zero_add]⟩
theorem law_true (ns : List Int) (few : ns.length ≤ 63) : ∃ S', L_law [.scr ns] [] = .ok (.bl true) S' := by
  have w : wp (L_law [.scr ns]) [] fun d _ => d = .bl true := by
    refine wp_run (wp_seq (law_loop2 (fun S => noLocs S = true) rfl (r := [none, none, none, none, none, none, none, none, none]) (fun r' S i i3 hr nl => ?_) fun ρ S => wp_ret (wp_of rfl rfl)))
    match r', hr with
    | [z2, z3, z4, z5, z6, z7, z8, z9, z10], _ =>
      refine wp_seq (wp_asg (wp_call (wp_cons (wp_of (a := .scr ns) (S' := S) rfl (wp_cons (wp_of (a := .int (i : Int)) (S' := S) rfl (wp_nil ?_)))))))
      refine w_pot2 i3 fun o m hp => ⟨_, rfl, ?_⟩
      dsimp only
      have nl1 : noLocs (S ++ [.lst [.int o, .int m, .int 0]]) = true := noLocs_push nl rfl
      generalize S ++ [.lst [.int o, .int m, .int 0]] = S1 at hp nl1 ⊢
      have hp : Pot S.length (0 + 1 + 216 + 2) S1 := hp.le (by decide)
      refine wp_seq (wp_asg (wp_call (wp_cons (wp_of (a := .loc S.length) (S' := S1) rfl (wp_nil ?_)))))
      refine w_lworld hp fun kk b S2 hk hp2 f2 => ?_
      have nl2 := f2.nl nl1 hp2
      refine ⟨[some (.scr ns), some (.int (i : Int)), some (.loc S.length), some (wdD kk b), some (latsD b), z5, z6, z7, z8, z9, z10], rfl, ?_⟩
      dsimp only
      refine wp_seqA (asg_at (call_at (S1 := S2) (ds := [wdD kk b]) rfl (made_F hk)) (ρ' := lwE ns (i : Int) S.length kk b z6 z7 z8 z9 z10) rfl) ?_
      apply wpS_out
      have e := w_body (k := 0) (ns := ns) (i := (i : Int)) (b := b) (y6 := z6) (y7 := z7) (y8 := z8) (y9 := z9) (z10 := z10) hk nl2 hp2
      refine wpS_in (wp_mono (wpS_out e) fun f S3 z => ?_)
      obtain ⟨⟨a6, a7, a8, a9, a10, rfl⟩, nl3⟩ := z
      exact ⟨⟨_, _, rfl, rfl⟩, nl3⟩
  obtain ⟨d, S', e, rfl⟩ := wp_ok w
  exact ⟨S', e⟩
end Zd
namespace Zd
open PySem PySem.Spec PyProof.Rows L2 Zg
def spLaw (K : PySem.W.Frag) : Sp := fun vs H Q _ => ∃ (a : Addr) (ns : List Int), vs = [.ref a] ∧ SqL K H a (ns.map V.int) ∧ ns.length ≤ 63 ∧ ∀ H', Q (.bl true) H'
theorem law_end {P : Program} {w : World} {K : PySem.W.Frag} {mg : Str → Option Value} {base : Heap} {κ : String → Addr} {k : Nat} {f : Addr} {fd : FuncData} {ps : List Str} (F : FnG P w K mg base CX0 k f fd ps (spD ⟨K, κ⟩ 1 L_law)) : FnG P w K mg base CX0 k f fd ps (spLaw K) := by
  have up : ∀ vs H Q E, spLaw K vs H Q E → spD ⟨K, κ⟩ 1 L_law vs H Q E := fun vs H Q E ⟨a, ns, ev, hs, few, k⟩ => by
    subst ev
    obtain ⟨S', e⟩ := law_true ns few
    refine ⟨rfl, ⟨[], [], []⟩, [.scr ns], [], rfl, .one (isD_scr.mpr ⟨a, rfl, ?_⟩), ⟨rfl, List.nodup_nil, nofun, nofun, fun x h => (h.elim nofun nofun), fun n x d h => by simp at h⟩, ?_⟩
    · rcases hs with hs | hs
      · exact .inl ⟨hs, fun h => h.elim nofun fun h => h.elim nofun nofun⟩
      · exact .inr fun _ => .inr hs
    · rw [e]
      exact fun H' p' _ _ v hv => by rw [isD_bl.mp hv]; exact k H'
  exact ⟨fun vs H Q E h => F.many vs H Q E (up vs H Q E h), fun A c fr s H args us vs Q E room e0 b rel h => F.goes A c fr s H args us vs Q E room e0 b rel (up vs H Q E h)⟩
theorem all_mk {l : PySem.W.OpenLaw} {w : World} {K : PySem.W.Frag} {h : Heap} {mg : Str → Option Value} {fa : Addr}
    {n_MOST_LETTERS n_LEAST_NARROW n_MOST_PACE n_MOST_IN_TWO_EVENTS : Tok}
    {C_World : Addr}
    {C_Kind : Addr}
    {a_SIDES : Addr}
    {a_RULES : Addr}
    {a_DEEDS : Addr}
    {a_READ_SIDES : Addr}
    {a_HOWS : Addr}
    {a_IN_TWO_EVENTS : Addr}
    {a_MEANT : Addr}
    {a_NARROW_WORDS : Addr}
    {a_WIDE_WORDS : Addr}
    {a_LATE_WORDS : Addr}
    {a_VISITS : Addr}
    {feditions_of : Addr} {odeditions_of aneditions_of : Option Addr} {sleditions_of : Array (Option Value)} {oceditions_of kVeditions_of dceditions_of pmeditions_of cdeditions_of cteditions_of : Value}
    {fedition_of : Addr} {odedition_of anedition_of : Option Addr} {sledition_of : Array (Option Value)} {ocedition_of kVedition_of dcedition_of pmedition_of cdedition_of ctedition_of : Value}
    {fis_integer : Addr} {odis_integer anis_integer : Option Addr} {slis_integer : Array (Option Value)} {ocis_integer kVis_integer dcis_integer pmis_integer cdis_integer ctis_integer : Value}
    {fis_between : Addr} {odis_between anis_between : Option Addr} {slis_between : Array (Option Value)} {ocis_between kVis_between dcis_between pmis_between cdis_between ctis_between : Value}
    {fis_name : Addr} {odis_name anis_name : Option Addr} {slis_name : Array (Option Value)} {ocis_name kVis_name dcis_name pmis_name cdis_name ctis_name : Value}
    {fis_tuple_of : Addr} {odis_tuple_of anis_tuple_of : Option Addr} {slis_tuple_of : Array (Option Value)} {ocis_tuple_of kVis_tuple_of dcis_tuple_of pmis_tuple_of cdis_tuple_of ctis_tuple_of : Value}
    {fis_ascending : Addr} {odis_ascending anis_ascending : Option Addr} {slis_ascending : Array (Option Value)} {ocis_ascending kVis_ascending dcis_ascending pmis_ascending cdis_ascending ctis_ascending : Value}
    {fis_count : Addr} {odis_count anis_count : Option Addr} {slis_count : Array (Option Value)} {ocis_count kVis_count dcis_count pmis_count cdis_count ctis_count : Value}
    {fKind___init__ : Addr} {odKind___init__ anKind___init__ : Option Addr} {slKind___init__ : Array (Option Value)} {ocKind___init__ kVKind___init__ dcKind___init__ pmKind___init__ cdKind___init__ ctKind___init__ : Value}
    {fKind___eq__ : Addr} {odKind___eq__ anKind___eq__ : Option Addr} {slKind___eq__ : Array (Option Value)} {ocKind___eq__ kVKind___eq__ dcKind___eq__ pmKind___eq__ cdKind___eq__ ctKind___eq__ : Value}
    {fKind___le__ : Addr} {odKind___le__ anKind___le__ : Option Addr} {slKind___le__ : Array (Option Value)} {ocKind___le__ kVKind___le__ dcKind___le__ pmKind___le__ cdKind___le__ ctKind___le__ : Value}
    {fKind___lt__ : Addr} {odKind___lt__ anKind___lt__ : Option Addr} {slKind___lt__ : Array (Option Value)} {ocKind___lt__ kVKind___lt__ dcKind___lt__ pmKind___lt__ cdKind___lt__ ctKind___lt__ : Value}
    {fWorld___init__ : Addr} {odWorld___init__ anWorld___init__ : Option Addr} {slWorld___init__ : Array (Option Value)} {ocWorld___init__ kVWorld___init__ dcWorld___init__ pmWorld___init__ cdWorld___init__ ctWorld___init__ : Value}
    {f_are_kinds : Addr} {od_are_kinds an_are_kinds : Option Addr} {sl_are_kinds : Array (Option Value)} {oc_are_kinds kV_are_kinds dc_are_kinds pm_are_kinds cd_are_kinds ct_are_kinds : Value}
    {f_are_columns : Addr} {od_are_columns an_are_columns : Option Addr} {sl_are_columns : Array (Option Value)} {oc_are_columns kV_are_columns dc_are_columns pm_are_columns cd_are_columns ct_are_columns : Value}
    {f_are_programs : Addr} {od_are_programs an_are_programs : Option Addr} {sl_are_programs : Array (Option Value)} {oc_are_programs kV_are_programs dc_are_programs pm_are_programs cd_are_programs ct_are_programs : Value}
    {f_is_program : Addr} {od_is_program an_is_program : Option Addr} {sl_is_program : Array (Option Value)} {oc_is_program kV_is_program dc_is_program pm_is_program cd_is_program ct_is_program : Value}
    {f_is_edition : Addr} {od_is_edition an_is_edition : Option Addr} {sl_is_edition : Array (Option Value)} {oc_is_edition kV_is_edition dc_is_edition pm_is_edition cd_is_edition ct_is_edition : Value}
    {f_are_rows : Addr} {od_are_rows an_are_rows : Option Addr} {sl_are_rows : Array (Option Value)} {oc_are_rows kV_are_rows dc_are_rows pm_are_rows cd_are_rows ct_are_rows : Value}
    {f_is_read : Addr} {od_is_read an_is_read : Option Addr} {sl_is_read : Array (Option Value)} {oc_is_read kV_is_read dc_is_read pm_is_read cd_is_read ct_is_read : Value}
    {f_is_write : Addr} {od_is_write an_is_write : Option Addr} {sl_is_write : Array (Option Value)} {oc_is_write kV_is_write dc_is_write pm_is_write cd_is_write ct_is_write : Value}
    {f_is_first_edition : Addr} {od_is_first_edition an_is_first_edition : Option Addr} {sl_is_first_edition : Array (Option Value)} {oc_is_first_edition kV_is_first_edition dc_is_first_edition pm_is_first_edition cd_is_first_edition ct_is_first_edition : Value}
    {f_many_in_two_events : Addr} {od_many_in_two_events an_many_in_two_events : Option Addr} {sl_many_in_two_events : Array (Option Value)} {oc_many_in_two_events kV_many_in_two_events dc_many_in_two_events pm_many_in_two_events cd_many_in_two_events ct_many_in_two_events : Value}
    {fis_mark : Addr} {odis_mark anis_mark : Option Addr} {slis_mark : Array (Option Value)} {ocis_mark kVis_mark dcis_mark pmis_mark cdis_mark ctis_mark : Value}
    {f_is_top : Addr} {od_is_top an_is_top : Option Addr} {sl_is_top : Array (Option Value)} {oc_is_top kV_is_top dc_is_top pm_is_top cd_is_top ct_is_top : Value}
    {f_are_late : Addr} {od_are_late an_are_late : Option Addr} {sl_are_late : Array (Option Value)} {oc_are_late kV_are_late dc_are_late pm_are_late cd_are_late ct_are_late : Value}
    {f_is_late : Addr} {od_is_late an_is_late : Option Addr} {sl_is_late : Array (Option Value)} {oc_is_late kV_is_late dc_is_late pm_is_late cd_is_late ct_is_late : Value}
    {f_law_in_order : Addr} {od_law_in_order an_law_in_order : Option Addr} {sl_law_in_order : Array (Option Value)} {oc_law_in_order kV_law_in_order dc_law_in_order pm_law_in_order cd_law_in_order ct_law_in_order : Value}
    {f_law_pot_of : Addr} {od_law_pot_of an_law_pot_of : Option Addr} {sl_law_pot_of : Array (Option Value)} {oc_law_pot_of kV_law_pot_of dc_law_pot_of pm_law_pot_of cd_law_pot_of ct_law_pot_of : Value}
    {f_law_take : Addr} {od_law_take an_law_take : Option Addr} {sl_law_take : Array (Option Value)} {oc_law_take kV_law_take dc_law_take pm_law_take cd_law_take ct_law_take : Value}
    {f_law_of : Addr} {od_law_of an_law_of : Option Addr} {sl_law_of : Array (Option Value)} {oc_law_of kV_law_of dc_law_of pm_law_of cd_law_of ct_law_of : Value}
    {f_law_made : Addr} {od_law_made an_law_made : Option Addr} {sl_law_made : Array (Option Value)} {oc_law_made kV_law_made dc_law_made pm_law_made cd_law_made ct_law_made : Value}
    {f_law_late_world : Addr} {od_law_late_world an_law_late_world : Option Addr} {sl_law_late_world : Array (Option Value)} {oc_law_late_world kV_law_late_world dc_law_late_world pm_law_late_world cd_law_late_world ct_law_late_world : Value}
    {f_law_any_mark : Addr} {od_law_any_mark an_law_any_mark : Option Addr} {sl_law_any_mark : Array (Option Value)} {oc_law_any_mark kV_law_any_mark dc_law_any_mark pm_law_any_mark cd_law_any_mark ct_law_any_mark : Value}
    {f_law_is_own_late : Addr} {od_law_is_own_late an_law_is_own_late : Option Addr} {sl_law_is_own_late : Array (Option Value)} {oc_law_is_own_late kV_law_is_own_late dc_law_is_own_late pm_law_is_own_late cd_law_is_own_late ct_law_is_own_late : Value}
    {f_law_is_own_mark : Addr} {od_law_is_own_mark an_law_is_own_mark : Option Addr} {sl_law_is_own_mark : Array (Option Value)} {oc_law_is_own_mark kV_law_is_own_mark dc_law_is_own_mark pm_law_is_own_mark cd_law_is_own_mark ct_law_is_own_mark : Value}
    {f_law_bent : Addr} {od_law_bent an_law_bent : Option Addr} {sl_law_bent : Array (Option Value)} {oc_law_bent kV_law_bent dc_law_bent pm_law_bent cd_law_bent ct_law_bent : Value}
    {flaw : Addr} {odlaw anlaw : Option Addr} {sllaw : Array (Option Value)} {oclaw kVlaw dclaw pmlaw cdlaw ctlaw : Value}
    (X : K.In h) (G : h.Ns mainGlobals mg) (hfa : mg "law" = some (.ref fa))
    (haCWorld : PySem.W.nsIn K mainGlobals "World" = some (some (.ref C_World)))
    (hpgWorld : PySem.W.plainGet K C_World Str.empty = true)
    (hhdWorld : PySem.W.hasDictIn K C_World = true)
    (hpoWorld : PySem.W.plainOver K C_World = true)
    (hsaWorld : PySem.W.findIn K (.ref C_World) "__setattr__" = some (some (.builtin "object.__setattr__")))
    (hmkWorld : PySem.W.makesIn K C_World = true)
    (hkcWorld : PySem.W.keepIn K (.ref C_World) = true)
    (hx1World : PySem.W.findIn K (.ref C_World) "__class__" = some (some (.builtin "object.__class__")))
    (hx4World : PySem.W.mroIn K C_World (.type "object") = some true)
    (hnWorld_narrow : PySem.W.findIn K (.ref C_World) "narrow" = some none)
    (hnWorld_wide : PySem.W.findIn K (.ref C_World) "wide" = some none)
    (hnWorld_columns : PySem.W.findIn K (.ref C_World) "columns" = some none)
    (hnWorld_programs : PySem.W.findIn K (.ref C_World) "programs" = some none)
    (haCKind : PySem.W.nsIn K mainGlobals "Kind" = some (some (.ref C_Kind)))
    (hpgKind : PySem.W.plainGet K C_Kind Str.empty = true)
    (hhdKind : PySem.W.hasDictIn K C_Kind = true)
    (hpoKind : PySem.W.plainOver K C_Kind = true)
    (hsaKind : PySem.W.findIn K (.ref C_Kind) "__setattr__" = some (some (.builtin "object.__setattr__")))
    (hmkKind : PySem.W.makesIn K C_Kind = true)
    (hkcKind : PySem.W.keepIn K (.ref C_Kind) = true)
    (hx1Kind : PySem.W.findIn K (.ref C_Kind) "__class__" = some (some (.builtin "object.__class__")))
    (hx4Kind : PySem.W.mroIn K C_Kind (.type "object") = some true)
    (hnKind_low : PySem.W.findIn K (.ref C_Kind) "low" = some none)
    (hnKind_high : PySem.W.findIn K (.ref C_Kind) "high" = some none)
    (hnKind_size : PySem.W.findIn K (.ref C_Kind) "size" = some none)
    (hgnMOST_LETTERS : PySem.W.nsIn K mainGlobals "MOST_LETTERS" = some (some (.int 8 n_MOST_LETTERS)))
    (hgnLEAST_NARROW : PySem.W.nsIn K mainGlobals "LEAST_NARROW" = some (some (.int 16 n_LEAST_NARROW)))
    (hgnMOST_PACE : PySem.W.nsIn K mainGlobals "MOST_PACE" = some (some (.int 99 n_MOST_PACE)))
    (hgnMOST_IN_TWO_EVENTS : PySem.W.nsIn K mainGlobals "MOST_IN_TWO_EVENTS" = some (some (.int 2 n_MOST_IN_TWO_EVENTS)))
    (hu0SIDES : PySem.W.nsIn K mainGlobals "SIDES" = some (some (.ref a_SIDES)))
    (hu1SIDES : tupW K a_SIDES = some (["narrow", "wide"] : List Str))
    (hu0RULES : PySem.W.nsIn K mainGlobals "RULES" = some (some (.ref a_RULES)))
    (hu1RULES : tupW K a_RULES = some (["cut", "empty", "refuse"] : List Str))
    (hu0DEEDS : PySem.W.nsIn K mainGlobals "DEEDS" = some (some (.ref a_DEEDS)))
    (hu1DEEDS : tupW K a_DEEDS = some (["match", "order", "show"] : List Str))
    (hu0READ_SIDES : PySem.W.nsIn K mainGlobals "READ_SIDES" = some (some (.ref a_READ_SIDES)))
    (hu1READ_SIDES : tupW K a_READ_SIDES = some (["narrow", "wide", "either"] : List Str))
    (hu0HOWS : PySem.W.nsIn K mainGlobals "HOWS" = some (some (.ref a_HOWS)))
    (hu1HOWS : tupW K a_HOWS = some (["narrow", "wide", "both", "narrow first", "wide first"] : List Str))
    (hu0IN_TWO_EVENTS : PySem.W.nsIn K mainGlobals "IN_TWO_EVENTS" = some (some (.ref a_IN_TWO_EVENTS)))
    (hu1IN_TWO_EVENTS : tupW K a_IN_TWO_EVENTS = some (["narrow first", "wide first"] : List Str))
    (hu0MEANT : PySem.W.nsIn K mainGlobals "MEANT" = some (some (.ref a_MEANT)))
    (hu1MEANT : tupW K a_MEANT = some (["small", "great"] : List Str))
    (hu0NARROW_WORDS : PySem.W.nsIn K mainGlobals "NARROW_WORDS" = some (some (.ref a_NARROW_WORDS)))
    (hu1NARROW_WORDS : tupW K a_NARROW_WORDS = some (["none", "same", "cut", "old"] : List Str))
    (hu0WIDE_WORDS : PySem.W.nsIn K mainGlobals "WIDE_WORDS" = some (some (.ref a_WIDE_WORDS)))
    (hu1WIDE_WORDS : tupW K a_WIDE_WORDS = some (["none", "same", "cut", "old", "far"] : List Str))
    (hu0LATE_WORDS : PySem.W.nsIn K mainGlobals "LATE_WORDS" = some (some (.ref a_LATE_WORDS)))
    (hu1LATE_WORDS : tupW K a_LATE_WORDS = some (["same", "cut", "old", "far"] : List Str))
    (hu0VISITS : PySem.W.nsIn K mainGlobals "VISITS" = some (some (.ref a_VISITS)))
    (hu1VISITS : tupW K a_VISITS = some (["ahead", "seen", ""] : List Str))
    (hzdict : PySem.W.nsIn K mainGlobals "dict" = some none)
    (heW4 : PySem.W.specialIn K (.builtin "object.__class__") "__get__" = some (some (.builtin "getset_descriptor.__get__")))
    (heW5 : PySem.W.takesIn K (.builtin "object.__class__") = some true)
    (haeditions_of : PySem.W.nsIn K mainGlobals "editions_of" = some (some (.ref feditions_of)))
    (hleditions_of : K.lookup feditions_of = some ⟨oceditions_of, odeditions_of, .func (PySem.W.fnOf "editions_of" "editions_of" (defArgs s_editions_of) (defBody s_editions_of) (defScope s_editions_of) .none kVeditions_of dceditions_of pmeditions_of aneditions_of cdeditions_of cteditions_of), sleditions_of⟩)
    (hceditions_of : PySem.W.codeIn K cdeditions_of "editions_of" = true)
    (hkeditions_of : PySem.W.keepIn K (.ref feditions_of) = true)
    (haedition_of : PySem.W.nsIn K mainGlobals "edition_of" = some (some (.ref fedition_of)))
    (hledition_of : K.lookup fedition_of = some ⟨ocedition_of, odedition_of, .func (PySem.W.fnOf "edition_of" "edition_of" (defArgs s_edition_of) (defBody s_edition_of) (defScope s_edition_of) .none kVedition_of dcedition_of pmedition_of anedition_of cdedition_of ctedition_of), sledition_of⟩)
    (hcedition_of : PySem.W.codeIn K cdedition_of "edition_of" = true)
    (hkedition_of : PySem.W.keepIn K (.ref fedition_of) = true)
    (hais_integer : PySem.W.nsIn K mainGlobals "is_integer" = some (some (.ref fis_integer)))
    (hlis_integer : K.lookup fis_integer = some ⟨ocis_integer, odis_integer, .func (PySem.W.fnOf "is_integer" "is_integer" (defArgs s_is_integer) (defBody s_is_integer) (defScope s_is_integer) .none kVis_integer dcis_integer pmis_integer anis_integer cdis_integer ctis_integer), slis_integer⟩)
    (hcis_integer : PySem.W.codeIn K cdis_integer "is_integer" = true)
    (hkis_integer : PySem.W.keepIn K (.ref fis_integer) = true)
    (hais_between : PySem.W.nsIn K mainGlobals "is_between" = some (some (.ref fis_between)))
    (hlis_between : K.lookup fis_between = some ⟨ocis_between, odis_between, .func (PySem.W.fnOf "is_between" "is_between" (defArgs s_is_between) (defBody s_is_between) (defScope s_is_between) .none kVis_between dcis_between pmis_between anis_between cdis_between ctis_between), slis_between⟩)
    (hcis_between : PySem.W.codeIn K cdis_between "is_between" = true)
    (hkis_between : PySem.W.keepIn K (.ref fis_between) = true)
    (hais_name : PySem.W.nsIn K mainGlobals "is_name" = some (some (.ref fis_name)))
    (hlis_name : K.lookup fis_name = some ⟨ocis_name, odis_name, .func (PySem.W.fnOf "is_name" "is_name" (defArgs s_is_name) (defBody s_is_name) (defScope s_is_name) .none kVis_name dcis_name pmis_name anis_name cdis_name ctis_name), slis_name⟩)
    (hcis_name : PySem.W.codeIn K cdis_name "is_name" = true)
    (hkis_name : PySem.W.keepIn K (.ref fis_name) = true)
    (hais_tuple_of : PySem.W.nsIn K mainGlobals "is_tuple_of" = some (some (.ref fis_tuple_of)))
    (hlis_tuple_of : K.lookup fis_tuple_of = some ⟨ocis_tuple_of, odis_tuple_of, .func (PySem.W.fnOf "is_tuple_of" "is_tuple_of" (defArgs s_is_tuple_of) (defBody s_is_tuple_of) (defScope s_is_tuple_of) .none kVis_tuple_of dcis_tuple_of pmis_tuple_of anis_tuple_of cdis_tuple_of ctis_tuple_of), slis_tuple_of⟩)
    (hcis_tuple_of : PySem.W.codeIn K cdis_tuple_of "is_tuple_of" = true)
    (hkis_tuple_of : PySem.W.keepIn K (.ref fis_tuple_of) = true)
    (hais_ascending : PySem.W.nsIn K mainGlobals "is_ascending" = some (some (.ref fis_ascending)))
    (hlis_ascending : K.lookup fis_ascending = some ⟨ocis_ascending, odis_ascending, .func (PySem.W.fnOf "is_ascending" "is_ascending" (defArgs s_is_ascending) (defBody s_is_ascending) (defScope s_is_ascending) .none kVis_ascending dcis_ascending pmis_ascending anis_ascending cdis_ascending ctis_ascending), slis_ascending⟩)
    (hcis_ascending : PySem.W.codeIn K cdis_ascending "is_ascending" = true)
    (hkis_ascending : PySem.W.keepIn K (.ref fis_ascending) = true)
    (hais_count : PySem.W.nsIn K mainGlobals "is_count" = some (some (.ref fis_count)))
    (hlis_count : K.lookup fis_count = some ⟨ocis_count, odis_count, .func (PySem.W.fnOf "is_count" "is_count" (defArgs s_is_count) (defBody s_is_count) (defScope s_is_count) .none kVis_count dcis_count pmis_count anis_count cdis_count ctis_count), slis_count⟩)
    (hcis_count : PySem.W.codeIn K cdis_count "is_count" = true)
    (hkis_count : PySem.W.keepIn K (.ref fis_count) = true)
    (haKind___init__ : PySem.W.findIn K (.ref C_Kind) "__init__" = some (some (.ref fKind___init__)))
    (hiKind___init__ : PySem.W.isFn K (.ref fKind___init__) = true)
    (hlKind___init__ : K.lookup fKind___init__ = some ⟨ocKind___init__, odKind___init__, .func (PySem.W.fnOf "__init__" "Kind.__init__" (defArgs s_Kind___init__) (defBody s_Kind___init__) (defScope s_Kind___init__) .none kVKind___init__ dcKind___init__ pmKind___init__ anKind___init__ cdKind___init__ ctKind___init__), slKind___init__⟩)
    (hcKind___init__ : PySem.W.codeIn K cdKind___init__ "Kind.__init__" = true)
    (hkKind___init__ : PySem.W.keepIn K (.ref fKind___init__) = true)
    (haKind___eq__ : PySem.W.findIn K (.ref C_Kind) "__eq__" = some (some (.ref fKind___eq__)))
    (hiKind___eq__ : PySem.W.isFn K (.ref fKind___eq__) = true)
    (hlKind___eq__ : K.lookup fKind___eq__ = some ⟨ocKind___eq__, odKind___eq__, .func (PySem.W.fnOf "__eq__" "Kind.__eq__" (defArgs s_Kind___eq__) (defBody s_Kind___eq__) (defScope s_Kind___eq__) .none kVKind___eq__ dcKind___eq__ pmKind___eq__ anKind___eq__ cdKind___eq__ ctKind___eq__), slKind___eq__⟩)
    (hcKind___eq__ : PySem.W.codeIn K cdKind___eq__ "Kind.__eq__" = true)
    (hkKind___eq__ : PySem.W.keepIn K (.ref fKind___eq__) = true)
    (haKind___le__ : PySem.W.findIn K (.ref C_Kind) "__le__" = some (some (.ref fKind___le__)))
    (hiKind___le__ : PySem.W.isFn K (.ref fKind___le__) = true)
    (hlKind___le__ : K.lookup fKind___le__ = some ⟨ocKind___le__, odKind___le__, .func (PySem.W.fnOf "__le__" "Kind.__le__" (defArgs s_Kind___le__) (defBody s_Kind___le__) (defScope s_Kind___le__) .none kVKind___le__ dcKind___le__ pmKind___le__ anKind___le__ cdKind___le__ ctKind___le__), slKind___le__⟩)
    (hcKind___le__ : PySem.W.codeIn K cdKind___le__ "Kind.__le__" = true)
    (hkKind___le__ : PySem.W.keepIn K (.ref fKind___le__) = true)
    (haKind___lt__ : PySem.W.findIn K (.ref C_Kind) "__lt__" = some (some (.ref fKind___lt__)))
    (hiKind___lt__ : PySem.W.isFn K (.ref fKind___lt__) = true)
    (hlKind___lt__ : K.lookup fKind___lt__ = some ⟨ocKind___lt__, odKind___lt__, .func (PySem.W.fnOf "__lt__" "Kind.__lt__" (defArgs s_Kind___lt__) (defBody s_Kind___lt__) (defScope s_Kind___lt__) .none kVKind___lt__ dcKind___lt__ pmKind___lt__ anKind___lt__ cdKind___lt__ ctKind___lt__), slKind___lt__⟩)
    (hcKind___lt__ : PySem.W.codeIn K cdKind___lt__ "Kind.__lt__" = true)
    (hkKind___lt__ : PySem.W.keepIn K (.ref fKind___lt__) = true)
    (haWorld___init__ : PySem.W.findIn K (.ref C_World) "__init__" = some (some (.ref fWorld___init__)))
    (hiWorld___init__ : PySem.W.isFn K (.ref fWorld___init__) = true)
    (hlWorld___init__ : K.lookup fWorld___init__ = some ⟨ocWorld___init__, odWorld___init__, .func (PySem.W.fnOf "__init__" "World.__init__" (defArgs s_World___init__) (defBody s_World___init__) (defScope s_World___init__) .none kVWorld___init__ dcWorld___init__ pmWorld___init__ anWorld___init__ cdWorld___init__ ctWorld___init__), slWorld___init__⟩)
    (hcWorld___init__ : PySem.W.codeIn K cdWorld___init__ "World.__init__" = true)
    (hkWorld___init__ : PySem.W.keepIn K (.ref fWorld___init__) = true)
    (ha_are_kinds : PySem.W.nsIn K mainGlobals "_are_kinds" = some (some (.ref f_are_kinds)))
    (hl_are_kinds : K.lookup f_are_kinds = some ⟨oc_are_kinds, od_are_kinds, .func (PySem.W.fnOf "_are_kinds" "_are_kinds" (defArgs s__are_kinds) (defBody s__are_kinds) (defScope s__are_kinds) .none kV_are_kinds dc_are_kinds pm_are_kinds an_are_kinds cd_are_kinds ct_are_kinds), sl_are_kinds⟩)
    (hc_are_kinds : PySem.W.codeIn K cd_are_kinds "_are_kinds" = true)
    (hk_are_kinds : PySem.W.keepIn K (.ref f_are_kinds) = true)
    (ha_are_columns : PySem.W.nsIn K mainGlobals "_are_columns" = some (some (.ref f_are_columns)))
    (hl_are_columns : K.lookup f_are_columns = some ⟨oc_are_columns, od_are_columns, .func (PySem.W.fnOf "_are_columns" "_are_columns" (defArgs s__are_columns) (defBody s__are_columns) (defScope s__are_columns) .none kV_are_columns dc_are_columns pm_are_columns an_are_columns cd_are_columns ct_are_columns), sl_are_columns⟩)
    (hc_are_columns : PySem.W.codeIn K cd_are_columns "_are_columns" = true)
    (hk_are_columns : PySem.W.keepIn K (.ref f_are_columns) = true)
    (ha_are_programs : PySem.W.nsIn K mainGlobals "_are_programs" = some (some (.ref f_are_programs)))
    (hl_are_programs : K.lookup f_are_programs = some ⟨oc_are_programs, od_are_programs, .func (PySem.W.fnOf "_are_programs" "_are_programs" (defArgs s__are_programs) (defBody s__are_programs) (defScope s__are_programs) .none kV_are_programs dc_are_programs pm_are_programs an_are_programs cd_are_programs ct_are_programs), sl_are_programs⟩)
    (hc_are_programs : PySem.W.codeIn K cd_are_programs "_are_programs" = true)
    (hk_are_programs : PySem.W.keepIn K (.ref f_are_programs) = true)
    (ha_is_program : PySem.W.nsIn K mainGlobals "_is_program" = some (some (.ref f_is_program)))
    (hl_is_program : K.lookup f_is_program = some ⟨oc_is_program, od_is_program, .func (PySem.W.fnOf "_is_program" "_is_program" (defArgs s__is_program) (defBody s__is_program) (defScope s__is_program) .none kV_is_program dc_is_program pm_is_program an_is_program cd_is_program ct_is_program), sl_is_program⟩)
    (hc_is_program : PySem.W.codeIn K cd_is_program "_is_program" = true)
    (hk_is_program : PySem.W.keepIn K (.ref f_is_program) = true)
    (ha_is_edition : PySem.W.nsIn K mainGlobals "_is_edition" = some (some (.ref f_is_edition)))
    (hl_is_edition : K.lookup f_is_edition = some ⟨oc_is_edition, od_is_edition, .func (PySem.W.fnOf "_is_edition" "_is_edition" (defArgs s__is_edition) (defBody s__is_edition) (defScope s__is_edition) .none kV_is_edition dc_is_edition pm_is_edition an_is_edition cd_is_edition ct_is_edition), sl_is_edition⟩)
    (hc_is_edition : PySem.W.codeIn K cd_is_edition "_is_edition" = true)
    (hk_is_edition : PySem.W.keepIn K (.ref f_is_edition) = true)
    (ha_are_rows : PySem.W.nsIn K mainGlobals "_are_rows" = some (some (.ref f_are_rows)))
    (hl_are_rows : K.lookup f_are_rows = some ⟨oc_are_rows, od_are_rows, .func (PySem.W.fnOf "_are_rows" "_are_rows" (defArgs s__are_rows) (defBody s__are_rows) (defScope s__are_rows) .none kV_are_rows dc_are_rows pm_are_rows an_are_rows cd_are_rows ct_are_rows), sl_are_rows⟩)
    (hc_are_rows : PySem.W.codeIn K cd_are_rows "_are_rows" = true)
    (hk_are_rows : PySem.W.keepIn K (.ref f_are_rows) = true)
    (ha_is_read : PySem.W.nsIn K mainGlobals "_is_read" = some (some (.ref f_is_read)))
    (hl_is_read : K.lookup f_is_read = some ⟨oc_is_read, od_is_read, .func (PySem.W.fnOf "_is_read" "_is_read" (defArgs s__is_read) (defBody s__is_read) (defScope s__is_read) .none kV_is_read dc_is_read pm_is_read an_is_read cd_is_read ct_is_read), sl_is_read⟩)
    (hc_is_read : PySem.W.codeIn K cd_is_read "_is_read" = true)
    (hk_is_read : PySem.W.keepIn K (.ref f_is_read) = true)
    (ha_is_write : PySem.W.nsIn K mainGlobals "_is_write" = some (some (.ref f_is_write)))
    (hl_is_write : K.lookup f_is_write = some ⟨oc_is_write, od_is_write, .func (PySem.W.fnOf "_is_write" "_is_write" (defArgs s__is_write) (defBody s__is_write) (defScope s__is_write) .none kV_is_write dc_is_write pm_is_write an_is_write cd_is_write ct_is_write), sl_is_write⟩)
    (hc_is_write : PySem.W.codeIn K cd_is_write "_is_write" = true)
    (hk_is_write : PySem.W.keepIn K (.ref f_is_write) = true)
    (ha_is_first_edition : PySem.W.nsIn K mainGlobals "_is_first_edition" = some (some (.ref f_is_first_edition)))
    (hl_is_first_edition : K.lookup f_is_first_edition = some ⟨oc_is_first_edition, od_is_first_edition, .func (PySem.W.fnOf "_is_first_edition" "_is_first_edition" (defArgs s__is_first_edition) (defBody s__is_first_edition) (defScope s__is_first_edition) .none kV_is_first_edition dc_is_first_edition pm_is_first_edition an_is_first_edition cd_is_first_edition ct_is_first_edition), sl_is_first_edition⟩)
    (hc_is_first_edition : PySem.W.codeIn K cd_is_first_edition "_is_first_edition" = true)
    (hk_is_first_edition : PySem.W.keepIn K (.ref f_is_first_edition) = true)
    (ha_many_in_two_events : PySem.W.nsIn K mainGlobals "_many_in_two_events" = some (some (.ref f_many_in_two_events)))
    (hl_many_in_two_events : K.lookup f_many_in_two_events = some ⟨oc_many_in_two_events, od_many_in_two_events, .func (PySem.W.fnOf "_many_in_two_events" "_many_in_two_events" (defArgs s__many_in_two_events) (defBody s__many_in_two_events) (defScope s__many_in_two_events) .none kV_many_in_two_events dc_many_in_two_events pm_many_in_two_events an_many_in_two_events cd_many_in_two_events ct_many_in_two_events), sl_many_in_two_events⟩)
    (hc_many_in_two_events : PySem.W.codeIn K cd_many_in_two_events "_many_in_two_events" = true)
    (hk_many_in_two_events : PySem.W.keepIn K (.ref f_many_in_two_events) = true)
    (hais_mark : PySem.W.nsIn K mainGlobals "is_mark" = some (some (.ref fis_mark)))
    (hlis_mark : K.lookup fis_mark = some ⟨ocis_mark, odis_mark, .func (PySem.W.fnOf "is_mark" "is_mark" (defArgs s_is_mark) (defBody s_is_mark) (defScope s_is_mark) .none kVis_mark dcis_mark pmis_mark anis_mark cdis_mark ctis_mark), slis_mark⟩)
    (hcis_mark : PySem.W.codeIn K cdis_mark "is_mark" = true)
    (hkis_mark : PySem.W.keepIn K (.ref fis_mark) = true)
    (ha_is_top : PySem.W.nsIn K mainGlobals "_is_top" = some (some (.ref f_is_top)))
    (hl_is_top : K.lookup f_is_top = some ⟨oc_is_top, od_is_top, .func (PySem.W.fnOf "_is_top" "_is_top" (defArgs s__is_top) (defBody s__is_top) (defScope s__is_top) .none kV_is_top dc_is_top pm_is_top an_is_top cd_is_top ct_is_top), sl_is_top⟩)
    (hc_is_top : PySem.W.codeIn K cd_is_top "_is_top" = true)
    (hk_is_top : PySem.W.keepIn K (.ref f_is_top) = true)
    (ha_are_late : PySem.W.nsIn K mainGlobals "_are_late" = some (some (.ref f_are_late)))
    (hl_are_late : K.lookup f_are_late = some ⟨oc_are_late, od_are_late, .func (PySem.W.fnOf "_are_late" "_are_late" (defArgs s__are_late) (defBody s__are_late) (defScope s__are_late) .none kV_are_late dc_are_late pm_are_late an_are_late cd_are_late ct_are_late), sl_are_late⟩)
    (hc_are_late : PySem.W.codeIn K cd_are_late "_are_late" = true)
    (hk_are_late : PySem.W.keepIn K (.ref f_are_late) = true)
    (ha_is_late : PySem.W.nsIn K mainGlobals "_is_late" = some (some (.ref f_is_late)))
    (hl_is_late : K.lookup f_is_late = some ⟨oc_is_late, od_is_late, .func (PySem.W.fnOf "_is_late" "_is_late" (defArgs s__is_late) (defBody s__is_late) (defScope s__is_late) .none kV_is_late dc_is_late pm_is_late an_is_late cd_is_late ct_is_late), sl_is_late⟩)
    (hc_is_late : PySem.W.codeIn K cd_is_late "_is_late" = true)
    (hk_is_late : PySem.W.keepIn K (.ref f_is_late) = true)
    (ha_law_in_order : PySem.W.nsIn K mainGlobals "_law_in_order" = some (some (.ref f_law_in_order)))
    (hl_law_in_order : K.lookup f_law_in_order = some ⟨oc_law_in_order, od_law_in_order, .func (PySem.W.fnOf "_law_in_order" "_law_in_order" (defArgs s__law_in_order) (defBody s__law_in_order) (defScope s__law_in_order) .none kV_law_in_order dc_law_in_order pm_law_in_order an_law_in_order cd_law_in_order ct_law_in_order), sl_law_in_order⟩)
    (hc_law_in_order : PySem.W.codeIn K cd_law_in_order "_law_in_order" = true)
    (hk_law_in_order : PySem.W.keepIn K (.ref f_law_in_order) = true)
    (ha_law_pot_of : PySem.W.nsIn K mainGlobals "_law_pot_of" = some (some (.ref f_law_pot_of)))
    (hl_law_pot_of : K.lookup f_law_pot_of = some ⟨oc_law_pot_of, od_law_pot_of, .func (PySem.W.fnOf "_law_pot_of" "_law_pot_of" (defArgs s__law_pot_of) (defBody s__law_pot_of) (defScope s__law_pot_of) .none kV_law_pot_of dc_law_pot_of pm_law_pot_of an_law_pot_of cd_law_pot_of ct_law_pot_of), sl_law_pot_of⟩)
    (hc_law_pot_of : PySem.W.codeIn K cd_law_pot_of "_law_pot_of" = true)
    (hk_law_pot_of : PySem.W.keepIn K (.ref f_law_pot_of) = true)
    (ha_law_take : PySem.W.nsIn K mainGlobals "_law_take" = some (some (.ref f_law_take)))
    (hl_law_take : K.lookup f_law_take = some ⟨oc_law_take, od_law_take, .func (PySem.W.fnOf "_law_take" "_law_take" (defArgs s__law_take) (defBody s__law_take) (defScope s__law_take) .none kV_law_take dc_law_take pm_law_take an_law_take cd_law_take ct_law_take), sl_law_take⟩)
    (hc_law_take : PySem.W.codeIn K cd_law_take "_law_take" = true)
    (hk_law_take : PySem.W.keepIn K (.ref f_law_take) = true)
    (ha_law_of : PySem.W.nsIn K mainGlobals "_law_of" = some (some (.ref f_law_of)))
    (hl_law_of : K.lookup f_law_of = some ⟨oc_law_of, od_law_of, .func (PySem.W.fnOf "_law_of" "_law_of" (defArgs s__law_of) (defBody s__law_of) (defScope s__law_of) .none kV_law_of dc_law_of pm_law_of an_law_of cd_law_of ct_law_of), sl_law_of⟩)
    (hc_law_of : PySem.W.codeIn K cd_law_of "_law_of" = true)
    (hk_law_of : PySem.W.keepIn K (.ref f_law_of) = true)
    (ha_law_made : PySem.W.nsIn K mainGlobals "_law_made" = some (some (.ref f_law_made)))
    (hl_law_made : K.lookup f_law_made = some ⟨oc_law_made, od_law_made, .func (PySem.W.fnOf "_law_made" "_law_made" (defArgs s__law_made) (defBody s__law_made) (defScope s__law_made) .none kV_law_made dc_law_made pm_law_made an_law_made cd_law_made ct_law_made), sl_law_made⟩)
    (hc_law_made : PySem.W.codeIn K cd_law_made "_law_made" = true)
    (hk_law_made : PySem.W.keepIn K (.ref f_law_made) = true)
    (ha_law_late_world : PySem.W.nsIn K mainGlobals "_law_late_world" = some (some (.ref f_law_late_world)))
    (hl_law_late_world : K.lookup f_law_late_world = some ⟨oc_law_late_world, od_law_late_world, .func (PySem.W.fnOf "_law_late_world" "_law_late_world" (defArgs s__law_late_world) (defBody s__law_late_world) (defScope s__law_late_world) .none kV_law_late_world dc_law_late_world pm_law_late_world an_law_late_world cd_law_late_world ct_law_late_world), sl_law_late_world⟩)
    (hc_law_late_world : PySem.W.codeIn K cd_law_late_world "_law_late_world" = true)
    (hk_law_late_world : PySem.W.keepIn K (.ref f_law_late_world) = true)
    (ha_law_any_mark : PySem.W.nsIn K mainGlobals "_law_any_mark" = some (some (.ref f_law_any_mark)))
    (hl_law_any_mark : K.lookup f_law_any_mark = some ⟨oc_law_any_mark, od_law_any_mark, .func (PySem.W.fnOf "_law_any_mark" "_law_any_mark" (defArgs s__law_any_mark) (defBody s__law_any_mark) (defScope s__law_any_mark) .none kV_law_any_mark dc_law_any_mark pm_law_any_mark an_law_any_mark cd_law_any_mark ct_law_any_mark), sl_law_any_mark⟩)
    (hc_law_any_mark : PySem.W.codeIn K cd_law_any_mark "_law_any_mark" = true)
    (hk_law_any_mark : PySem.W.keepIn K (.ref f_law_any_mark) = true)
    (ha_law_is_own_late : PySem.W.nsIn K mainGlobals "_law_is_own_late" = some (some (.ref f_law_is_own_late)))
    (hl_law_is_own_late : K.lookup f_law_is_own_late = some ⟨oc_law_is_own_late, od_law_is_own_late, .func (PySem.W.fnOf "_law_is_own_late" "_law_is_own_late" (defArgs s__law_is_own_late) (defBody s__law_is_own_late) (defScope s__law_is_own_late) .none kV_law_is_own_late dc_law_is_own_late pm_law_is_own_late an_law_is_own_late cd_law_is_own_late ct_law_is_own_late), sl_law_is_own_late⟩)
    (hc_law_is_own_late : PySem.W.codeIn K cd_law_is_own_late "_law_is_own_late" = true)
    (hk_law_is_own_late : PySem.W.keepIn K (.ref f_law_is_own_late) = true)
    (ha_law_is_own_mark : PySem.W.nsIn K mainGlobals "_law_is_own_mark" = some (some (.ref f_law_is_own_mark)))
    (hl_law_is_own_mark : K.lookup f_law_is_own_mark = some ⟨oc_law_is_own_mark, od_law_is_own_mark, .func (PySem.W.fnOf "_law_is_own_mark" "_law_is_own_mark" (defArgs s__law_is_own_mark) (defBody s__law_is_own_mark) (defScope s__law_is_own_mark) .none kV_law_is_own_mark dc_law_is_own_mark pm_law_is_own_mark an_law_is_own_mark cd_law_is_own_mark ct_law_is_own_mark), sl_law_is_own_mark⟩)
    (hc_law_is_own_mark : PySem.W.codeIn K cd_law_is_own_mark "_law_is_own_mark" = true)
    (hk_law_is_own_mark : PySem.W.keepIn K (.ref f_law_is_own_mark) = true)
    (ha_law_bent : PySem.W.nsIn K mainGlobals "_law_bent" = some (some (.ref f_law_bent)))
    (hl_law_bent : K.lookup f_law_bent = some ⟨oc_law_bent, od_law_bent, .func (PySem.W.fnOf "_law_bent" "_law_bent" (defArgs s__law_bent) (defBody s__law_bent) (defScope s__law_bent) .none kV_law_bent dc_law_bent pm_law_bent an_law_bent cd_law_bent ct_law_bent), sl_law_bent⟩)
    (hc_law_bent : PySem.W.codeIn K cd_law_bent "_law_bent" = true)
    (hk_law_bent : PySem.W.keepIn K (.ref f_law_bent) = true)
    (halaw : PySem.W.nsIn K mainGlobals "law" = some (some (.ref flaw)))
    (hllaw : K.lookup flaw = some ⟨oclaw, odlaw, .func (PySem.W.fnOf "law" "law" (defArgs s_law) (defBody s_law) (defScope s_law) .none kVlaw dclaw pmlaw anlaw cdlaw ctlaw), sllaw⟩)
    (hclaw : PySem.W.codeIn K cdlaw "law" = true)
    (hklaw : PySem.W.keepIn K (.ref flaw) = true)
    (hzint : PySem.W.nsIn K mainGlobals "int" = some none)
    (hzlen : PySem.W.nsIn K mainGlobals "len" = some none)
    (hzabs : PySem.W.nsIn K mainGlobals "abs" = some none)
    (hzbool : PySem.W.nsIn K mainGlobals "bool" = some none)
    (hztuple : PySem.W.nsIn K mainGlobals "tuple" = some none)
    (hzisinstance : PySem.W.nsIn K mainGlobals "isinstance" = some none)
    (hzrange : PySem.W.nsIn K mainGlobals "range" = some none)
    (hzmax : PySem.W.nsIn K mainGlobals "max" = some none)
    (hzmin : PySem.W.nsIn K mainGlobals "min" = some none)
    (hzall : PySem.W.nsIn K mainGlobals "all" = some none)
    (hzrepr : PySem.W.nsIn K mainGlobals "repr" = some none)
    (hzstr : PySem.W.nsIn K mainGlobals "str" = some none)
    (hzany : PySem.W.nsIn K mainGlobals "any" = some none)
    (hzlist : PySem.W.nsIn K mainGlobals "list" = some none)
    (hzzip : PySem.W.nsIn K mainGlobals "zip" = some none)
    (hzenumerate : PySem.W.nsIn K mainGlobals "enumerate" = some none) :
    ∃ fd : FuncData, (∀ (s : Shared) (v : Value), BindsTo s fd ⟨[v], []⟩ [("_law_script", v)]) ∧ ∀ base : Heap, K.In base → base.Ns mainGlobals mg → FnG l.prog w K mg base CX0 10 fa fd P_law (spLaw K) := by
  have e := hfa.symm.trans (PySem.W.mg_of X G halaw)
  cases e
  have T : TxD2 mg := ⟨⟨PySem.W.mg_none_of X G hzint, PySem.W.mg_none_of X G hzlen, PySem.W.mg_none_of X G hzabs, PySem.W.mg_none_of X G hzbool, PySem.W.mg_none_of X G hztuple, PySem.W.mg_none_of X G hzisinstance, PySem.W.mg_none_of X G hzrange, PySem.W.mg_none_of X G hzmax, PySem.W.mg_none_of X G hzmin, PySem.W.mg_none_of X G hzall, PySem.W.mg_none_of X G hzrepr, PySem.W.mg_none_of X G hzstr, PySem.W.mg_none_of X G hzany, PySem.W.mg_none_of X G hzlist, PySem.W.mg_none_of X G hzzip, PySem.W.mg_none_of X G hzenumerate⟩, PySem.W.mg_none_of X G hzdict⟩
  have Feditions_of := fun_mk (st := s_editions_of) hleditions_of hceditions_of hkeditions_of
  have beditions_of := Feditions_of.binds (ps := P_editions_of) fun _ _ _ _ _ _ us hl => match us, hl with | [_, _], _ => rfl
  have Fedition_of := fun_mk (st := s_edition_of) hledition_of hcedition_of hkedition_of
  have bedition_of := Fedition_of.binds (ps := P_edition_of) fun _ _ _ _ _ _ us hl => match us, hl with | [_, _, _], _ => rfl
  have Fis_integer := fun_mk (st := s_is_integer) hlis_integer hcis_integer hkis_integer
  have bis_integer := Fis_integer.binds (ps := P_is_integer) fun _ _ _ _ _ _ us hl => match us, hl with | [_], _ => rfl
  have Fis_between := fun_mk (st := s_is_between) hlis_between hcis_between hkis_between
  have bis_between := Fis_between.binds (ps := P_is_between) fun _ _ _ _ _ _ us hl => match us, hl with | [_, _, _], _ => rfl
  have Fis_name := fun_mk (st := s_is_name) hlis_name hcis_name hkis_name
  have bis_name := Fis_name.binds (ps := P_is_name) fun _ _ _ _ _ _ us hl => match us, hl with | [_], _ => rfl
  have Fis_tuple_of := fun_mk (st := s_is_tuple_of) hlis_tuple_of hcis_tuple_of hkis_tuple_of
  have bis_tuple_of := Fis_tuple_of.binds (ps := P_is_tuple_of) fun _ _ _ _ _ _ us hl => match us, hl with | [_, _, _], _ => rfl
  have Fis_ascending := fun_mk (st := s_is_ascending) hlis_ascending hcis_ascending hkis_ascending
  have bis_ascending := Fis_ascending.binds (ps := P_is_ascending) fun _ _ _ _ _ _ us hl => match us, hl with | [_], _ => rfl
  have Fis_count := fun_mk (st := s_is_count) hlis_count hcis_count hkis_count
  have bis_count := Fis_count.binds (ps := P_is_count) fun _ _ _ _ _ _ us hl => match us, hl with | [_], _ => rfl
  have FKind___init__ := fun_mk (st := s_Kind___init__) hlKind___init__ hcKind___init__ hkKind___init__
  have bKind___init__ := FKind___init__.binds (ps := P_Kind___init__) fun _ _ _ _ _ _ us hl => match us, hl with | [_, _, _], _ => rfl
  have FKind___eq__ := fun_mk (st := s_Kind___eq__) hlKind___eq__ hcKind___eq__ hkKind___eq__
  have bKind___eq__ := FKind___eq__.binds (ps := P_Kind___eq__) fun _ _ _ _ _ _ us hl => match us, hl with | [_, _], _ => rfl
  have FKind___le__ := fun_mk (st := s_Kind___le__) hlKind___le__ hcKind___le__ hkKind___le__
  have bKind___le__ := FKind___le__.binds (ps := P_Kind___le__) fun _ _ _ _ _ _ us hl => match us, hl with | [_, _], _ => rfl
  have FKind___lt__ := fun_mk (st := s_Kind___lt__) hlKind___lt__ hcKind___lt__ hkKind___lt__
  have bKind___lt__ := FKind___lt__.binds (ps := P_Kind___lt__) fun _ _ _ _ _ _ us hl => match us, hl with | [_, _], _ => rfl
  have FWorld___init__ := fun_mk (st := s_World___init__) hlWorld___init__ hcWorld___init__ hkWorld___init__
  have bWorld___init__ := FWorld___init__.binds (ps := P_World___init__) fun _ _ _ _ _ _ us hl => match us, hl with | [_, _, _, _, _], _ => rfl
  have F_are_kinds := fun_mk (st := s__are_kinds) hl_are_kinds hc_are_kinds hk_are_kinds
  have b_are_kinds := F_are_kinds.binds (ps := P__are_kinds) fun _ _ _ _ _ _ us hl => match us, hl with | [_, _], _ => rfl
  have F_are_columns := fun_mk (st := s__are_columns) hl_are_columns hc_are_columns hk_are_columns
  have b_are_columns := F_are_columns.binds (ps := P__are_columns) fun _ _ _ _ _ _ us hl => match us, hl with | [_], _ => rfl
  have F_are_programs := fun_mk (st := s__are_programs) hl_are_programs hc_are_programs hk_are_programs
  have b_are_programs := F_are_programs.binds (ps := P__are_programs) fun _ _ _ _ _ _ us hl => match us, hl with | [_, _], _ => rfl
  have F_is_program := fun_mk (st := s__is_program) hl_is_program hc_is_program hk_is_program
  have b_is_program := F_is_program.binds (ps := P__is_program) fun _ _ _ _ _ _ us hl => match us, hl with | [_, _], _ => rfl
  have F_is_edition := fun_mk (st := s__is_edition) hl_is_edition hc_is_edition hk_is_edition
  have b_is_edition := F_is_edition.binds (ps := P__is_edition) fun _ _ _ _ _ _ us hl => match us, hl with | [_, _], _ => rfl
  have F_are_rows := fun_mk (st := s__are_rows) hl_are_rows hc_are_rows hk_are_rows
  have b_are_rows := F_are_rows.binds (ps := P__are_rows) fun _ _ _ _ _ _ us hl => match us, hl with | [_, _, _], _ => rfl
  have F_is_read := fun_mk (st := s__is_read) hl_is_read hc_is_read hk_is_read
  have b_is_read := F_is_read.binds (ps := P__is_read) fun _ _ _ _ _ _ us hl => match us, hl with | [_], _ => rfl
  have F_is_write := fun_mk (st := s__is_write) hl_is_write hc_is_write hk_is_write
  have b_is_write := F_is_write.binds (ps := P__is_write) fun _ _ _ _ _ _ us hl => match us, hl with | [_, _], _ => rfl
  have F_is_first_edition := fun_mk (st := s__is_first_edition) hl_is_first_edition hc_is_first_edition hk_is_first_edition
  have b_is_first_edition := F_is_first_edition.binds (ps := P__is_first_edition) fun _ _ _ _ _ _ us hl => match us, hl with | [_], _ => rfl
  have F_many_in_two_events := fun_mk (st := s__many_in_two_events) hl_many_in_two_events hc_many_in_two_events hk_many_in_two_events
  have b_many_in_two_events := F_many_in_two_events.binds (ps := P__many_in_two_events) fun _ _ _ _ _ _ us hl => match us, hl with | [_], _ => rfl
  have Fis_mark := fun_mk (st := s_is_mark) hlis_mark hcis_mark hkis_mark
  have bis_mark := Fis_mark.binds (ps := P_is_mark) fun _ _ _ _ _ _ us hl => match us, hl with | [_, _], _ => rfl
  have F_is_top := fun_mk (st := s__is_top) hl_is_top hc_is_top hk_is_top
  have b_is_top := F_is_top.binds (ps := P__is_top) fun _ _ _ _ _ _ us hl => match us, hl with | [_, _, _], _ => rfl
  have F_are_late := fun_mk (st := s__are_late) hl_are_late hc_are_late hk_are_late
  have b_are_late := F_are_late.binds (ps := P__are_late) fun _ _ _ _ _ _ us hl => match us, hl with | [_, _], _ => rfl
  have F_is_late := fun_mk (st := s__is_late) hl_is_late hc_is_late hk_is_late
  have b_is_late := F_is_late.binds (ps := P__is_late) fun _ _ _ _ _ _ us hl => match us, hl with | [_, _], _ => rfl
  have F_law_in_order := fun_mk (st := s__law_in_order) hl_law_in_order hc_law_in_order hk_law_in_order
  have b_law_in_order := F_law_in_order.binds (ps := P__law_in_order) fun _ _ _ _ _ _ us hl => match us, hl with | [_], _ => rfl
  have F_law_pot_of := fun_mk (st := s__law_pot_of) hl_law_pot_of hc_law_pot_of hk_law_pot_of
  have b_law_pot_of := F_law_pot_of.binds (ps := P__law_pot_of) fun _ _ _ _ _ _ us hl => match us, hl with | [_, _], _ => rfl
  have F_law_take := fun_mk (st := s__law_take) hl_law_take hc_law_take hk_law_take
  have b_law_take := F_law_take.binds (ps := P__law_take) fun _ _ _ _ _ _ us hl => match us, hl with | [_, _], _ => rfl
  have F_law_of := fun_mk (st := s__law_of) hl_law_of hc_law_of hk_law_of
  have b_law_of := F_law_of.binds (ps := P__law_of) fun _ _ _ _ _ _ us hl => match us, hl with | [_, _], _ => rfl
  have F_law_made := fun_mk (st := s__law_made) hl_law_made hc_law_made hk_law_made
  have b_law_made := F_law_made.binds (ps := P__law_made) fun _ _ _ _ _ _ us hl => match us, hl with | [_], _ => rfl
  have F_law_late_world := fun_mk (st := s__law_late_world) hl_law_late_world hc_law_late_world hk_law_late_world
  have b_law_late_world := F_law_late_world.binds (ps := P__law_late_world) fun _ _ _ _ _ _ us hl => match us, hl with | [_], _ => rfl
  have F_law_any_mark := fun_mk (st := s__law_any_mark) hl_law_any_mark hc_law_any_mark hk_law_any_mark
  have b_law_any_mark := F_law_any_mark.binds (ps := P__law_any_mark) fun _ _ _ _ _ _ us hl => match us, hl with | [_, _, _], _ => rfl
  have F_law_is_own_late := fun_mk (st := s__law_is_own_late) hl_law_is_own_late hc_law_is_own_late hk_law_is_own_late
  have b_law_is_own_late := F_law_is_own_late.binds (ps := P__law_is_own_late) fun _ _ _ _ _ _ us hl => match us, hl with | [_, _, _], _ => rfl
  have F_law_is_own_mark := fun_mk (st := s__law_is_own_mark) hl_law_is_own_mark hc_law_is_own_mark hk_law_is_own_mark
  have b_law_is_own_mark := F_law_is_own_mark.binds (ps := P__law_is_own_mark) fun _ _ _ _ _ _ us hl => match us, hl with | [_, _], _ => rfl
  have F_law_bent := fun_mk (st := s__law_bent) hl_law_bent hc_law_bent hk_law_bent
  have b_law_bent := F_law_bent.binds (ps := P__law_bent) fun _ _ _ _ _ _ us hl => match us, hl with | [_, _, _, _], _ => rfl
  have Flaw := fun_mk (st := s_law) hllaw hclaw hklaw
  refine ⟨PySem.W.fnOf "law" "law" (defArgs s_law) (defBody s_law) (defScope s_law) .none kVlaw dclaw pmlaw anlaw cdlaw ctlaw, fun s v => .of_eq rfl, fun base _ _ => ?_⟩
  have GT_SIDES : GTup K mg "SIDES" a_SIDES (["narrow", "wide"] : List Str) := ⟨PySem.W.mg_of X G hu0SIDES, tupW_sq hu1SIDES (by decide)⟩
  have GT_RULES : GTup K mg "RULES" a_RULES (["cut", "empty", "refuse"] : List Str) := ⟨PySem.W.mg_of X G hu0RULES, tupW_sq hu1RULES (by decide)⟩
  have GT_DEEDS : GTup K mg "DEEDS" a_DEEDS (["match", "order", "show"] : List Str) := ⟨PySem.W.mg_of X G hu0DEEDS, tupW_sq hu1DEEDS (by decide)⟩
  have GT_READ_SIDES : GTup K mg "READ_SIDES" a_READ_SIDES (["narrow", "wide", "either"] : List Str) := ⟨PySem.W.mg_of X G hu0READ_SIDES, tupW_sq hu1READ_SIDES (by decide)⟩
  have GT_HOWS : GTup K mg "HOWS" a_HOWS (["narrow", "wide", "both", "narrow first", "wide first"] : List Str) := ⟨PySem.W.mg_of X G hu0HOWS, tupW_sq hu1HOWS (by decide)⟩
  have GT_IN_TWO_EVENTS : GTup K mg "IN_TWO_EVENTS" a_IN_TWO_EVENTS (["narrow first", "wide first"] : List Str) := ⟨PySem.W.mg_of X G hu0IN_TWO_EVENTS, tupW_sq hu1IN_TWO_EVENTS (by decide)⟩
  have GT_MEANT : GTup K mg "MEANT" a_MEANT (["small", "great"] : List Str) := ⟨PySem.W.mg_of X G hu0MEANT, tupW_sq hu1MEANT (by decide)⟩
  have GT_NARROW_WORDS : GTup K mg "NARROW_WORDS" a_NARROW_WORDS (["none", "same", "cut", "old"] : List Str) := ⟨PySem.W.mg_of X G hu0NARROW_WORDS, tupW_sq hu1NARROW_WORDS (by decide)⟩
  have GT_WIDE_WORDS : GTup K mg "WIDE_WORDS" a_WIDE_WORDS (["none", "same", "cut", "old", "far"] : List Str) := ⟨PySem.W.mg_of X G hu0WIDE_WORDS, tupW_sq hu1WIDE_WORDS (by decide)⟩
  have GT_LATE_WORDS : GTup K mg "LATE_WORDS" a_LATE_WORDS (["same", "cut", "old", "far"] : List Str) := ⟨PySem.W.mg_of X G hu0LATE_WORDS, tupW_sq hu1LATE_WORDS (by decide)⟩
  have GT_VISITS : GTup K mg "VISITS" a_VISITS (["ahead", "seen", ""] : List Str) := ⟨PySem.W.mg_of X G hu0VISITS, tupW_sq hu1VISITS (by decide)⟩
  have TN : TxN mg n_MOST_LETTERS n_LEAST_NARROW n_MOST_PACE n_MOST_IN_TWO_EVENTS := ⟨PySem.W.mg_of X G hgnMOST_LETTERS, PySem.W.mg_of X G hgnLEAST_NARROW, PySem.W.mg_of X G hgnMOST_PACE, PySem.W.mg_of X G hgnMOST_IN_TWO_EVENTS⟩
  obtain ⟨κ, κ_World, κ_Kind⟩ : ∃ κ : String → Addr, κ "World" = C_World ∧ κ "Kind" = C_Kind := ⟨fun n => if n = "World" then C_World else if n = "Kind" then C_Kind else C_World, if_pos rfl, (if_neg (by decide)).trans (if_pos rfl)⟩
  subst κ_World κ_Kind
  have CT_World : ClsI K mg ⟨K, κ⟩ "World" "World" ["narrow", "wide", "columns", "programs"] := ⟨⟨⟨hpgWorld, hhdWorld, hpoWorld, hsaWorld⟩, fun f m => by
    simp only [List.mem_cons, List.not_mem_nil, or_false] at m
    rcases m with rfl | rfl | rfl | rfl
    · exact hnWorld_narrow
    · exact hnWorld_wide
    · exact hnWorld_columns
    · exact hnWorld_programs⟩, ⟨⟨hpgWorld, hhdWorld, hpoWorld, hsaWorld⟩, hx1World, heW4, heW5, hx4World, if_pos (beq_self_eq_true _)⟩, PySem.W.mg_of X G haCWorld⟩
  have CT_Kind : ClsI K mg ⟨K, κ⟩ "Kind" "Kind" ["low", "high", "size"] := ⟨⟨⟨hpgKind, hhdKind, hpoKind, hsaKind⟩, fun f m => by
    simp only [List.mem_cons, List.not_mem_nil, or_false] at m
    rcases m with rfl | rfl | rfl
    · exact hnKind_low
    · exact hnKind_high
    · exact hnKind_size⟩, ⟨⟨hpgKind, hhdKind, hpoKind, hsaKind⟩, hx1Kind, heW4, heW5, hx4Kind, if_pos (beq_self_eq_true _)⟩, PySem.W.mg_of X G haCKind⟩
  have gL_is_integer : FnOk l.prog w K mg base CX0 1 fis_integer _ P_is_integer (spD ⟨K, κ⟩ 1 L_is_integer) := ok_is_integer Fis_integer T 
  have cL_is_integer : Cal l.prog w K mg base 1 "is_integer" P_is_integer (spD ⟨K, κ⟩ 1 L_is_integer) := ⟨fis_integer, _, gL_is_integer, bis_integer, PySem.W.mg_of X G hais_integer, hkis_integer⟩
  have gL_is_between : FnOk l.prog w K mg base CX0 2 fis_between _ P_is_between (spD ⟨K, κ⟩ 3 L_is_between) := ok_is_between Fis_between T cL_is_integer
  have cL_is_between : Cal l.prog w K mg base 2 "is_between" P_is_between (spD ⟨K, κ⟩ 3 L_is_between) := ⟨fis_between, _, gL_is_between, bis_between, PySem.W.mg_of X G hais_between, hkis_between⟩
  have gL_is_name : FnOk l.prog w K mg base CX0 1 fis_name _ P_is_name (spD ⟨K, κ⟩ 1 L_is_name) := ok_is_name Fis_name T TN 
  have cL_is_name : Cal l.prog w K mg base 1 "is_name" P_is_name (spD ⟨K, κ⟩ 1 L_is_name) := ⟨fis_name, _, gL_is_name, bis_name, PySem.W.mg_of X G hais_name, hkis_name⟩
  have gL_is_tuple_of : FnOk l.prog w K mg base CX0 1 fis_tuple_of _ P_is_tuple_of (spD ⟨K, κ⟩ 3 L_is_tuple_of) := ok_is_tuple_of Fis_tuple_of T 
  have cL_is_tuple_of : Cal l.prog w K mg base 1 "is_tuple_of" P_is_tuple_of (spD ⟨K, κ⟩ 3 L_is_tuple_of) := ⟨fis_tuple_of, _, gL_is_tuple_of, bis_tuple_of, PySem.W.mg_of X G hais_tuple_of, hkis_tuple_of⟩
  have gL_is_ascending : FnOk l.prog w K mg base CX0 1 fis_ascending _ P_is_ascending (spD ⟨K, κ⟩ 1 L_is_ascending) := ok_is_ascending Fis_ascending T 
  have cL_is_ascending : Cal l.prog w K mg base 1 "is_ascending" P_is_ascending (spD ⟨K, κ⟩ 1 L_is_ascending) := ⟨fis_ascending, _, gL_is_ascending, bis_ascending, PySem.W.mg_of X G hais_ascending, hkis_ascending⟩
  have gL_is_ascendingT : FnOk l.prog w K mg base CX0 1 fis_ascending _ P_is_ascending (spD ⟨K, κ⟩ 1 L_is_ascendingT) := ok_is_ascendingT Fis_ascending T 
  have cL_is_ascendingT : Cal l.prog w K mg base 1 "is_ascending" P_is_ascending (spD ⟨K, κ⟩ 1 L_is_ascendingT) := ⟨fis_ascending, _, gL_is_ascendingT, bis_ascending, PySem.W.mg_of X G hais_ascending, hkis_ascending⟩
  have gL_is_count : FnOk l.prog w K mg base CX0 2 fis_count _ P_is_count (spD ⟨K, κ⟩ 1 L_is_count) := ok_is_count Fis_count T cL_is_integer
  have cL_is_count : Cal l.prog w K mg base 2 "is_count" P_is_count (spD ⟨K, κ⟩ 1 L_is_count) := ⟨fis_count, _, gL_is_count, bis_count, PySem.W.mg_of X G hais_count, hkis_count⟩
  have gL_editions_of : FnOk l.prog w K mg base CX0 1 feditions_of _ P_editions_of (spD ⟨K, κ⟩ 2 L_editions_of) := ok_editions_of Feditions_of T CT_World
  have cL_editions_of : Cal l.prog w K mg base 1 "editions_of" P_editions_of (spD ⟨K, κ⟩ 2 L_editions_of) := ⟨feditions_of, _, gL_editions_of, beditions_of, PySem.W.mg_of X G haeditions_of, hkeditions_of⟩
  have gL_Kind___init__ : FnOk l.prog w K mg base CX0 2 fKind___init__ _ P_Kind___init__ (spD ⟨K, κ⟩ 3 L_Kind___init__) := ok_Kind___init__ FKind___init__ T cL_is_integer CT_Kind
  have cL_Kind___init__ : MkI l.prog w K mg base ⟨K, κ⟩ 2 "Kind" "Kind" P_Kind___init__ (spD ⟨K, κ⟩ 3 L_Kind___init__) := ⟨fKind___init__, _, ⟨hmkKind, haKind___init__, hiKind___init__, hkcKind⟩, gL_Kind___init__, bKind___init__, CT_Kind.g⟩
  have gL_Kind___le__ : FnOk l.prog w K mg base CX0 1 fKind___le__ _ P_Kind___le__ (spD ⟨K, κ⟩ 2 L_Kind___le__) := ok_Kind___le__ FKind___le__ T CT_Kind
  have cL_Kind___le__ : MeI l.prog w K mg base ⟨K, κ⟩ 1 "Kind" "__le__" P_Kind___le__ (spD ⟨K, κ⟩ 2 L_Kind___le__) := ⟨fKind___le__, _, ⟨haKind___le__, hiKind___le__, hkKind___le__⟩, gL_Kind___le__, bKind___le__⟩
  have gL_Kind___eq__ : FnOk l.prog w K mg base CX0 1 fKind___eq__ _ P_Kind___eq__ (spD ⟨K, κ⟩ 2 L_Kind___eq__) := ok_Kind___eq__ FKind___eq__ T CT_Kind
  have cL_Kind___eq__ : MeI l.prog w K mg base ⟨K, κ⟩ 1 "Kind" "__eq__" P_Kind___eq__ (spD ⟨K, κ⟩ 2 L_Kind___eq__) := ⟨fKind___eq__, _, ⟨haKind___eq__, hiKind___eq__, hkKind___eq__⟩, gL_Kind___eq__, bKind___eq__⟩
  have gL_Kind___lt__ : FnOk l.prog w K mg base CX0 2 fKind___lt__ _ P_Kind___lt__ (spD ⟨K, κ⟩ 2 L_Kind___lt__) := ok_Kind___lt__ FKind___lt__ T CT_Kind cL_Kind___le__ cL_Kind___eq__
  have cL_Kind___lt__ : MeI l.prog w K mg base ⟨K, κ⟩ 2 "Kind" "__lt__" P_Kind___lt__ (spD ⟨K, κ⟩ 2 L_Kind___lt__) := ⟨fKind___lt__, _, ⟨haKind___lt__, hiKind___lt__, hkKind___lt__⟩, gL_Kind___lt__, bKind___lt__⟩
  have gL__are_kinds : FnOk l.prog w K mg base CX0 3 f_are_kinds _ P__are_kinds (spD ⟨K, κ⟩ 2 L__are_kinds) := ok__are_kinds F_are_kinds T TN CT_Kind cL_Kind___lt__
  have cL__are_kinds : Cal l.prog w K mg base 3 "_are_kinds" P__are_kinds (spD ⟨K, κ⟩ 2 L__are_kinds) := ⟨f_are_kinds, _, gL__are_kinds, b_are_kinds, PySem.W.mg_of X G ha_are_kinds, hk_are_kinds⟩
  have gL__are_columns : FnOk l.prog w K mg base CX0 2 f_are_columns _ P__are_columns (spD ⟨K, κ⟩ 1 L__are_columns) := ok__are_columns F_are_columns T cL_is_tuple_of cL_is_name cL_is_ascendingT
  have cL__are_columns : Cal l.prog w K mg base 2 "_are_columns" P__are_columns (spD ⟨K, κ⟩ 1 L__are_columns) := ⟨f_are_columns, _, gL__are_columns, b_are_columns, PySem.W.mg_of X G ha_are_columns, hk_are_columns⟩
  have gL__are_rows : FnOk l.prog w K mg base CX0 2 f_are_rows _ P__are_rows (spD ⟨K, κ⟩ 3 L__are_rows) := ok__are_rows F_are_rows T cL_is_tuple_of cL_is_ascending
  have cL__are_rows : Cal l.prog w K mg base 2 "_are_rows" P__are_rows (spD ⟨K, κ⟩ 3 L__are_rows) := ⟨f_are_rows, _, gL__are_rows, b_are_rows, PySem.W.mg_of X G ha_are_rows, hk_are_rows⟩
  have gL__is_read : FnOk l.prog w K mg base CX0 2 f_is_read _ P__is_read (spD ⟨K, κ⟩ 1 L__is_read) := ok__is_read F_is_read T GT_DEEDS GT_READ_SIDES cL_is_ascendingT
  have cL__is_read : Cal l.prog w K mg base 2 "_is_read" P__is_read (spD ⟨K, κ⟩ 1 L__is_read) := ⟨f_is_read, _, gL__is_read, b_is_read, PySem.W.mg_of X G ha_is_read, hk_is_read⟩
  have gL__is_write : FnOk l.prog w K mg base CX0 3 f_is_write _ P__is_write (spD ⟨K, κ⟩ 2 L__is_write) := ok__is_write F_is_write T GT_RULES GT_HOWS TN cL_is_between
  have cL__is_write : Cal l.prog w K mg base 3 "_is_write" P__is_write (spD ⟨K, κ⟩ 2 L__is_write) := ⟨f_is_write, _, gL__is_write, b_is_write, PySem.W.mg_of X G ha_is_write, hk_is_write⟩
  have gL__is_edition : FnOk l.prog w K mg base CX0 4 f_is_edition _ P__is_edition (spD ⟨K, κ⟩ 2 L__is_edition) := ok__is_edition F_is_edition T GT_SIDES cL_is_tuple_of cL__are_rows cL__is_read cL__is_write
  have cL__is_edition : Cal l.prog w K mg base 4 "_is_edition" P__is_edition (spD ⟨K, κ⟩ 2 L__is_edition) := ⟨f_is_edition, _, gL__is_edition, b_is_edition, PySem.W.mg_of X G ha_is_edition, hk_is_edition⟩
  have gL__is_first_edition : FnOk l.prog w K mg base CX0 1 f_is_first_edition _ P__is_first_edition (spD ⟨K, κ⟩ 1 L__is_first_edition) := ok__is_first_edition F_is_first_edition T 
  have cL__is_first_edition : Cal l.prog w K mg base 1 "_is_first_edition" P__is_first_edition (spD ⟨K, κ⟩ 1 L__is_first_edition) := ⟨f_is_first_edition, _, gL__is_first_edition, b_is_first_edition, PySem.W.mg_of X G ha_is_first_edition, hk_is_first_edition⟩
  have gL__is_program : FnOk l.prog w K mg base CX0 5 f_is_program _ P__is_program (spD ⟨K, κ⟩ 2 L__is_program) := ok__is_program F_is_program T cL_is_tuple_of cL_is_name cL__is_edition cL__is_first_edition
  have cL__is_program : Cal l.prog w K mg base 5 "_is_program" P__is_program (spD ⟨K, κ⟩ 2 L__is_program) := ⟨f_is_program, _, gL__is_program, b_is_program, PySem.W.mg_of X G ha_is_program, hk_is_program⟩
  have gL__many_in_two_events : FnOk l.prog w K mg base CX0 1 f_many_in_two_events _ P__many_in_two_events (spD ⟨K, κ⟩ 1 L__many_in_two_events) := ok__many_in_two_events F_many_in_two_events T GT_IN_TWO_EVENTS 
  have cL__many_in_two_events : Cal l.prog w K mg base 1 "_many_in_two_events" P__many_in_two_events (spD ⟨K, κ⟩ 1 L__many_in_two_events) := ⟨f_many_in_two_events, _, gL__many_in_two_events, b_many_in_two_events, PySem.W.mg_of X G ha_many_in_two_events, hk_many_in_two_events⟩
  have gL__are_programs : FnOk l.prog w K mg base CX0 6 f_are_programs _ P__are_programs (spD ⟨K, κ⟩ 2 L__are_programs) := ok__are_programs F_are_programs T TN cL_is_tuple_of cL__is_program cL_is_ascending cL__many_in_two_events
  have cL__are_programs : Cal l.prog w K mg base 6 "_are_programs" P__are_programs (spD ⟨K, κ⟩ 2 L__are_programs) := ⟨f_are_programs, _, gL__are_programs, b_are_programs, PySem.W.mg_of X G ha_are_programs, hk_are_programs⟩
  have gL_World___init__ : FnOk l.prog w K mg base CX0 7 fWorld___init__ _ P_World___init__ (spD ⟨K, κ⟩ 5 L_World___init__) := ok_World___init__ FWorld___init__ T cL__are_kinds cL__are_columns cL__are_programs CT_World
  have cL_World___init__ : MkI l.prog w K mg base ⟨K, κ⟩ 7 "World" "World" P_World___init__ (spD ⟨K, κ⟩ 5 L_World___init__) := ⟨fWorld___init__, _, ⟨hmkWorld, haWorld___init__, hiWorld___init__, hkcWorld⟩, gL_World___init__, bWorld___init__, CT_World.g⟩
  have gL__law_pot_of : FnOk l.prog w K mg base CX0 1 f_law_pot_of _ P__law_pot_of (spD ⟨K, κ⟩ 2 L__law_pot_of) := ok__law_pot_of F_law_pot_of T 
  have cL__law_pot_of : Cal l.prog w K mg base 1 "_law_pot_of" P__law_pot_of (spD ⟨K, κ⟩ 2 L__law_pot_of) := ⟨f_law_pot_of, _, gL__law_pot_of, b_law_pot_of, PySem.W.mg_of X G ha_law_pot_of, hk_law_pot_of⟩
  have gL__law_take : FnOk l.prog w K mg base CX0 1 f_law_take _ P__law_take (spD ⟨K, κ⟩ 2 L__law_take) := ok__law_take F_law_take T 
  have cL__law_take : Cal l.prog w K mg base 1 "_law_take" P__law_take (spD ⟨K, κ⟩ 2 L__law_take) := ⟨f_law_take, _, gL__law_take, b_law_take, PySem.W.mg_of X G ha_law_take, hk_law_take⟩
  have gL__law_of : FnOk l.prog w K mg base CX0 2 f_law_of _ P__law_of (spD ⟨K, κ⟩ 2 L__law_of) := ok__law_of F_law_of T cL__law_take
  have cL__law_of : Cal l.prog w K mg base 2 "_law_of" P__law_of (spD ⟨K, κ⟩ 2 L__law_of) := ⟨f_law_of, _, gL__law_of, b_law_of, PySem.W.mg_of X G ha_law_of, hk_law_of⟩
  have gL_is_ascendingD : FnOk l.prog w K mg base CX0 1 fis_ascending _ P_is_ascending (spD ⟨K, κ⟩ 1 L_is_ascendingD) := ok_is_ascendingD Fis_ascending T 
  have cL_is_ascendingD : Cal l.prog w K mg base 1 "is_ascending" P_is_ascending (spD ⟨K, κ⟩ 1 L_is_ascendingD) := ⟨fis_ascending, _, gL_is_ascendingD, bis_ascending, PySem.W.mg_of X G hais_ascending, hkis_ascending⟩
  have gL_edition_of : FnOk l.prog w K mg base CX0 2 fedition_of _ P_edition_of (spD ⟨K, κ⟩ 3 L_edition_of) := ok_edition_of Fedition_of T cL_editions_of
  have cL_edition_of : Cal l.prog w K mg base 2 "edition_of" P_edition_of (spD ⟨K, κ⟩ 3 L_edition_of) := ⟨fedition_of, _, gL_edition_of, bedition_of, PySem.W.mg_of X G haedition_of, hkedition_of⟩
  have gL__is_late : FnOk l.prog w K mg base CX0 3 f_is_late _ P__is_late (spD ⟨K, κ⟩ 2 L__is_late) := ok__is_late F_is_late T GT_IN_TWO_EVENTS GT_LATE_WORDS cL_is_tuple_of cL_is_count cL_editions_of cL_edition_of
  have cL__is_late : Cal l.prog w K mg base 3 "_is_late" P__is_late (spD ⟨K, κ⟩ 2 L__is_late) := ⟨f_is_late, _, gL__is_late, b_is_late, PySem.W.mg_of X G ha_is_late, hk_is_late⟩
  have gL__are_late : FnOk l.prog w K mg base CX0 4 f_are_late _ P__are_late (spD ⟨K, κ⟩ 2 L__are_late) := ok__are_late F_are_late T cL__is_late cL_is_ascendingD
  have cL__are_late : Cal l.prog w K mg base 4 "_are_late" P__are_late (spD ⟨K, κ⟩ 2 L__are_late) := ⟨f_are_late, _, gL__are_late, b_are_late, PySem.W.mg_of X G ha_are_late, hk_are_late⟩
  have gL__is_top : FnOk l.prog w K mg base CX0 3 f_is_top _ P__is_top (spD ⟨K, κ⟩ 3 L__is_top) := ok__is_top F_is_top T cL_is_between CT_World CT_Kind
  have cL__is_top : Cal l.prog w K mg base 3 "_is_top" P__is_top (spD ⟨K, κ⟩ 3 L__is_top) := ⟨f_is_top, _, gL__is_top, b_is_top, PySem.W.mg_of X G ha_is_top, hk_is_top⟩
  have gL_is_mark : FnOk l.prog w K mg base CX0 5 fis_mark _ P_is_mark (spD ⟨K, κ⟩ 2 L_is_mark) := ok_is_mark Fis_mark T GT_MEANT GT_NARROW_WORDS GT_WIDE_WORDS GT_VISITS cL_is_tuple_of cL__is_top cL__are_late
  have cL_is_mark : Cal l.prog w K mg base 5 "is_mark" P_is_mark (spD ⟨K, κ⟩ 2 L_is_mark) := ⟨fis_mark, _, gL_is_mark, bis_mark, PySem.W.mg_of X G hais_mark, hkis_mark⟩
  have gL__law_in_order : FnOk l.prog w K mg base CX0 1 f_law_in_order _ P__law_in_order (spD ⟨K, κ⟩ 1 L__law_in_order) := ok__law_in_order F_law_in_order T 
  have cL__law_in_order : Cal l.prog w K mg base 1 "_law_in_order" P__law_in_order (spD ⟨K, κ⟩ 1 L__law_in_order) := ⟨f_law_in_order, _, gL__law_in_order, b_law_in_order, PySem.W.mg_of X G ha_law_in_order, hk_law_in_order⟩
  have gL__law_made : FnOk l.prog w K mg base CX0 9 f_law_made _ P__law_made (spD ⟨K, κ⟩ 1 L__law_made) := ok__law_made F_law_made T cL_World___init__ cL_Kind___init__
  have cL__law_made : Cal l.prog w K mg base 9 "_law_made" P__law_made (spD ⟨K, κ⟩ 1 L__law_made) := ⟨f_law_made, _, gL__law_made, b_law_made, PySem.W.mg_of X G ha_law_made, hk_law_made⟩
  have gL__law_late_world : FnOk l.prog w K mg base CX0 3 f_law_late_world _ P__law_late_world (spD ⟨K, κ⟩ 1 L__law_late_world) := ok__law_late_world F_law_late_world T cL__law_of cL__law_take
  have cL__law_late_world : Cal l.prog w K mg base 3 "_law_late_world" P__law_late_world (spD ⟨K, κ⟩ 1 L__law_late_world) := ⟨f_law_late_world, _, gL__law_late_world, b_law_late_world, PySem.W.mg_of X G ha_law_late_world, hk_law_late_world⟩
  have gL__law_any_mark : FnOk l.prog w K mg base CX0 3 f_law_any_mark _ P__law_any_mark (spD ⟨K, κ⟩ 3 L__law_any_mark) := ok__law_any_mark F_law_any_mark T cL__law_of cL__law_take cL__law_in_order
  have cL__law_any_mark : Cal l.prog w K mg base 3 "_law_any_mark" P__law_any_mark (spD ⟨K, κ⟩ 3 L__law_any_mark) := ⟨f_law_any_mark, _, gL__law_any_mark, b_law_any_mark, PySem.W.mg_of X G ha_law_any_mark, hk_law_any_mark⟩
  have gL__law_is_own_late : FnOk l.prog w K mg base CX0 1 f_law_is_own_late _ P__law_is_own_late (spD ⟨K, κ⟩ 3 L__law_is_own_late) := ok__law_is_own_late F_law_is_own_late T 
  have cL__law_is_own_late : Cal l.prog w K mg base 1 "_law_is_own_late" P__law_is_own_late (spD ⟨K, κ⟩ 3 L__law_is_own_late) := ⟨f_law_is_own_late, _, gL__law_is_own_late, b_law_is_own_late, PySem.W.mg_of X G ha_law_is_own_late, hk_law_is_own_late⟩
  have gL__law_is_own_mark : FnOk l.prog w K mg base CX0 2 f_law_is_own_mark _ P__law_is_own_mark (spD ⟨K, κ⟩ 2 L__law_is_own_mark) := ok__law_is_own_mark F_law_is_own_mark T cL__law_is_own_late
  have cL__law_is_own_mark : Cal l.prog w K mg base 2 "_law_is_own_mark" P__law_is_own_mark (spD ⟨K, κ⟩ 2 L__law_is_own_mark) := ⟨f_law_is_own_mark, _, gL__law_is_own_mark, b_law_is_own_mark, PySem.W.mg_of X G ha_law_is_own_mark, hk_law_is_own_mark⟩
  have gL__law_bent : FnOk l.prog w K mg base CX0 3 f_law_bent _ P__law_bent (spD ⟨K, κ⟩ 4 L__law_bent) := ok__law_bent F_law_bent T cL__law_take cL__law_of
  have cL__law_bent : Cal l.prog w K mg base 3 "_law_bent" P__law_bent (spD ⟨K, κ⟩ 4 L__law_bent) := ⟨f_law_bent, _, gL__law_bent, b_law_bent, PySem.W.mg_of X G ha_law_bent, hk_law_bent⟩
  exact law_end (ok_law Flaw T cL__law_pot_of cL__law_late_world cL__law_made cL__law_any_mark cL_is_mark cL__law_is_own_mark cL__law_bent cL__law_of)
theorem facts {l : PySem.W.OpenLaw} {w : World} {K : PySem.W.Frag} {h : Heap} {mg : Str → Option Value} {fa : Addr} (X : K.In h) (G : h.Ns mainGlobals mg) (hfa : mg "law" = some (.ref fa)) (c : He.SaysT [] fnl tsl w K ∧ exl K = true) :
    ∃ fd : FuncData, (∀ (s : Shared) (v : Value), BindsTo s fd ⟨[v], []⟩ [("_law_script", v)]) ∧ ∀ base : Heap, K.In base → base.Ns mainGlobals mg → FnG l.prog w K mg base CX0 10 fa fd P_law (spLaw K) := by
  obtain ⟨_, hgnMOST_LETTERS⟩ := numB_ok (ex_25 c.2)
  obtain ⟨_, hgnLEAST_NARROW⟩ := numB_ok (ex_26 c.2)
  obtain ⟨_, hgnMOST_PACE⟩ := numB_ok (ex_27 c.2)
  obtain ⟨_, hgnMOST_IN_TWO_EVENTS⟩ := numB_ok (ex_28 c.2)
  obtain ⟨_, _, _, _, _, _, _, _, _, hleditions_of, hceditions_of, hkeditions_of⟩ := rawD (K := K) (x := "editions_of") (qual := "editions_of") (st := s_editions_of) (kws := []) (f := (He.ga K "editions_of")) (c.1.d.def_ 0 (d := dd0) rfl)
  obtain ⟨_, _, _, _, _, _, _, _, _, hledition_of, hcedition_of, hkedition_of⟩ := rawD (K := K) (x := "edition_of") (qual := "edition_of") (st := s_edition_of) (kws := []) (f := (He.ga K "edition_of")) (c.1.d.def_ 1 (d := dd1) rfl)
  obtain ⟨_, _, _, _, _, _, _, _, _, hlis_integer, hcis_integer, hkis_integer⟩ := rawD (K := K) (x := "is_integer") (qual := "is_integer") (st := s_is_integer) (kws := []) (f := (He.ga K "is_integer")) (c.1.d.def_ 2 (d := dd2) rfl)
  obtain ⟨_, _, _, _, _, _, _, _, _, hlis_between, hcis_between, hkis_between⟩ := rawD (K := K) (x := "is_between") (qual := "is_between") (st := s_is_between) (kws := []) (f := (He.ga K "is_between")) (c.1.d.def_ 3 (d := dd3) rfl)
  obtain ⟨_, _, _, _, _, _, _, _, _, hlis_name, hcis_name, hkis_name⟩ := rawD (K := K) (x := "is_name") (qual := "is_name") (st := s_is_name) (kws := []) (f := (He.ga K "is_name")) (c.1.d.def_ 4 (d := dd4) rfl)
  obtain ⟨_, _, _, _, _, _, _, _, _, hlis_tuple_of, hcis_tuple_of, hkis_tuple_of⟩ := rawD (K := K) (x := "is_tuple_of") (qual := "is_tuple_of") (st := s_is_tuple_of) (kws := []) (f := (He.ga K "is_tuple_of")) (c.1.d.def_ 5 (d := dd5) rfl)
  obtain ⟨_, _, _, _, _, _, _, _, _, hlis_ascending, hcis_ascending, hkis_ascending⟩ := rawD (K := K) (x := "is_ascending") (qual := "is_ascending") (st := s_is_ascending) (kws := []) (f := (He.ga K "is_ascending")) (c.1.d.def_ 6 (d := dd6) rfl)
  obtain ⟨_, _, _, _, _, _, _, _, _, hlis_count, hcis_count, hkis_count⟩ := rawD (K := K) (x := "is_count") (qual := "is_count") (st := s_is_count) (kws := []) (f := (He.ga K "is_count")) (c.1.d.def_ 7 (d := dd7) rfl)
  obtain ⟨_, _, _, _, _, _, _, _, _, hlKind___init__, hcKind___init__, hkKind___init__⟩ := rawD (K := K) (x := "__init__") (qual := "Kind.__init__") (st := s_Kind___init__) (kws := []) (f := (He.ma K (He.ga K "Kind") "__init__")) (c.1.d.def_ 8 (d := dd8) rfl)
  obtain ⟨_, _, _, _, _, _, _, _, _, hlKind___eq__, hcKind___eq__, hkKind___eq__⟩ := rawD (K := K) (x := "__eq__") (qual := "Kind.__eq__") (st := s_Kind___eq__) (kws := []) (f := (He.ma K (He.ga K "Kind") "__eq__")) (c.1.d.def_ 9 (d := dd9) rfl)
  obtain ⟨_, _, _, _, _, _, _, _, _, hlKind___le__, hcKind___le__, hkKind___le__⟩ := rawD (K := K) (x := "__le__") (qual := "Kind.__le__") (st := s_Kind___le__) (kws := []) (f := (He.ma K (He.ga K "Kind") "__le__")) (c.1.d.def_ 10 (d := dd10) rfl)
  obtain ⟨_, _, _, _, _, _, _, _, _, hlKind___lt__, hcKind___lt__, hkKind___lt__⟩ := rawD (K := K) (x := "__lt__") (qual := "Kind.__lt__") (st := s_Kind___lt__) (kws := []) (f := (He.ma K (He.ga K "Kind") "__lt__")) (c.1.d.def_ 11 (d := dd11) rfl)
  obtain ⟨_, _, _, _, _, _, _, _, _, hlWorld___init__, hcWorld___init__, hkWorld___init__⟩ := rawD (K := K) (x := "__init__") (qual := "World.__init__") (st := s_World___init__) (kws := []) (f := (He.ma K (He.ga K "World") "__init__")) (c.1.d.def_ 12 (d := dd12) rfl)
  obtain ⟨_, _, _, _, _, _, _, _, _, hl_are_kinds, hc_are_kinds, hk_are_kinds⟩ := rawD (K := K) (x := "_are_kinds") (qual := "_are_kinds") (st := s__are_kinds) (kws := []) (f := (He.ga K "_are_kinds")) (c.1.d.def_ 13 (d := dd13) rfl)
  obtain ⟨_, _, _, _, _, _, _, _, _, hl_are_columns, hc_are_columns, hk_are_columns⟩ := rawD (K := K) (x := "_are_columns") (qual := "_are_columns") (st := s__are_columns) (kws := []) (f := (He.ga K "_are_columns")) (c.1.d.def_ 14 (d := dd14) rfl)
  obtain ⟨_, _, _, _, _, _, _, _, _, hl_are_programs, hc_are_programs, hk_are_programs⟩ := rawD (K := K) (x := "_are_programs") (qual := "_are_programs") (st := s__are_programs) (kws := []) (f := (He.ga K "_are_programs")) (c.1.d.def_ 15 (d := dd15) rfl)
  obtain ⟨_, _, _, _, _, _, _, _, _, hl_is_program, hc_is_program, hk_is_program⟩ := rawD (K := K) (x := "_is_program") (qual := "_is_program") (st := s__is_program) (kws := []) (f := (He.ga K "_is_program")) (c.1.d.def_ 16 (d := dd16) rfl)
  obtain ⟨_, _, _, _, _, _, _, _, _, hl_is_edition, hc_is_edition, hk_is_edition⟩ := rawD (K := K) (x := "_is_edition") (qual := "_is_edition") (st := s__is_edition) (kws := []) (f := (He.ga K "_is_edition")) (c.1.d.def_ 17 (d := dd17) rfl)
  obtain ⟨_, _, _, _, _, _, _, _, _, hl_are_rows, hc_are_rows, hk_are_rows⟩ := rawD (K := K) (x := "_are_rows") (qual := "_are_rows") (st := s__are_rows) (kws := []) (f := (He.ga K "_are_rows")) (c.1.d.def_ 18 (d := dd18) rfl)
  obtain ⟨_, _, _, _, _, _, _, _, _, hl_is_read, hc_is_read, hk_is_read⟩ := rawD (K := K) (x := "_is_read") (qual := "_is_read") (st := s__is_read) (kws := []) (f := (He.ga K "_is_read")) (c.1.d.def_ 19 (d := dd19) rfl)
  obtain ⟨_, _, _, _, _, _, _, _, _, hl_is_write, hc_is_write, hk_is_write⟩ := rawD (K := K) (x := "_is_write") (qual := "_is_write") (st := s__is_write) (kws := []) (f := (He.ga K "_is_write")) (c.1.d.def_ 20 (d := dd20) rfl)
  obtain ⟨_, _, _, _, _, _, _, _, _, hl_is_first_edition, hc_is_first_edition, hk_is_first_edition⟩ := rawD (K := K) (x := "_is_first_edition") (qual := "_is_first_edition") (st := s__is_first_edition) (kws := []) (f := (He.ga K "_is_first_edition")) (c.1.d.def_ 21 (d := dd21) rfl)
  obtain ⟨_, _, _, _, _, _, _, _, _, hl_many_in_two_events, hc_many_in_two_events, hk_many_in_two_events⟩ := rawD (K := K) (x := "_many_in_two_events") (qual := "_many_in_two_events") (st := s__many_in_two_events) (kws := []) (f := (He.ga K "_many_in_two_events")) (c.1.d.def_ 22 (d := dd22) rfl)
  obtain ⟨_, _, _, _, _, _, _, _, _, hlis_mark, hcis_mark, hkis_mark⟩ := rawD (K := K) (x := "is_mark") (qual := "is_mark") (st := s_is_mark) (kws := []) (f := (He.ga K "is_mark")) (c.1.d.def_ 23 (d := dd23) rfl)
  obtain ⟨_, _, _, _, _, _, _, _, _, hl_is_top, hc_is_top, hk_is_top⟩ := rawD (K := K) (x := "_is_top") (qual := "_is_top") (st := s__is_top) (kws := []) (f := (He.ga K "_is_top")) (c.1.d.def_ 24 (d := dd24) rfl)
  obtain ⟨_, _, _, _, _, _, _, _, _, hl_are_late, hc_are_late, hk_are_late⟩ := rawD (K := K) (x := "_are_late") (qual := "_are_late") (st := s__are_late) (kws := []) (f := (He.ga K "_are_late")) (c.1.d.def_ 25 (d := dd25) rfl)
  obtain ⟨_, _, _, _, _, _, _, _, _, hl_is_late, hc_is_late, hk_is_late⟩ := rawD (K := K) (x := "_is_late") (qual := "_is_late") (st := s__is_late) (kws := []) (f := (He.ga K "_is_late")) (c.1.d.def_ 26 (d := dd26) rfl)
  obtain ⟨_, _, _, _, _, _, _, _, _, hl_law_in_order, hc_law_in_order, hk_law_in_order⟩ := rawD (K := K) (x := "_law_in_order") (qual := "_law_in_order") (st := s__law_in_order) (kws := []) (f := (He.ga K "_law_in_order")) (c.1.d.def_ 27 (d := dd27) rfl)
  obtain ⟨_, _, _, _, _, _, _, _, _, hl_law_pot_of, hc_law_pot_of, hk_law_pot_of⟩ := rawD (K := K) (x := "_law_pot_of") (qual := "_law_pot_of") (st := s__law_pot_of) (kws := []) (f := (He.ga K "_law_pot_of")) (c.1.d.def_ 28 (d := dd28) rfl)
  obtain ⟨_, _, _, _, _, _, _, _, _, hl_law_take, hc_law_take, hk_law_take⟩ := rawD (K := K) (x := "_law_take") (qual := "_law_take") (st := s__law_take) (kws := []) (f := (He.ga K "_law_take")) (c.1.d.def_ 29 (d := dd29) rfl)
  obtain ⟨_, _, _, _, _, _, _, _, _, hl_law_of, hc_law_of, hk_law_of⟩ := rawD (K := K) (x := "_law_of") (qual := "_law_of") (st := s__law_of) (kws := []) (f := (He.ga K "_law_of")) (c.1.d.def_ 30 (d := dd30) rfl)
  obtain ⟨_, _, _, _, _, _, _, _, _, hl_law_made, hc_law_made, hk_law_made⟩ := rawD (K := K) (x := "_law_made") (qual := "_law_made") (st := s__law_made) (kws := []) (f := (He.ga K "_law_made")) (c.1.d.def_ 31 (d := dd31) rfl)
  obtain ⟨_, _, _, _, _, _, _, _, _, hl_law_late_world, hc_law_late_world, hk_law_late_world⟩ := rawD (K := K) (x := "_law_late_world") (qual := "_law_late_world") (st := s__law_late_world) (kws := []) (f := (He.ga K "_law_late_world")) (c.1.d.def_ 32 (d := dd32) rfl)
  obtain ⟨_, _, _, _, _, _, _, _, _, hl_law_any_mark, hc_law_any_mark, hk_law_any_mark⟩ := rawD (K := K) (x := "_law_any_mark") (qual := "_law_any_mark") (st := s__law_any_mark) (kws := []) (f := (He.ga K "_law_any_mark")) (c.1.d.def_ 33 (d := dd33) rfl)
  obtain ⟨_, _, _, _, _, _, _, _, _, hl_law_is_own_late, hc_law_is_own_late, hk_law_is_own_late⟩ := rawD (K := K) (x := "_law_is_own_late") (qual := "_law_is_own_late") (st := s__law_is_own_late) (kws := []) (f := (He.ga K "_law_is_own_late")) (c.1.d.def_ 34 (d := dd34) rfl)
  obtain ⟨_, _, _, _, _, _, _, _, _, hl_law_is_own_mark, hc_law_is_own_mark, hk_law_is_own_mark⟩ := rawD (K := K) (x := "_law_is_own_mark") (qual := "_law_is_own_mark") (st := s__law_is_own_mark) (kws := []) (f := (He.ga K "_law_is_own_mark")) (c.1.d.def_ 35 (d := dd35) rfl)
  obtain ⟨_, _, _, _, _, _, _, _, _, hl_law_bent, hc_law_bent, hk_law_bent⟩ := rawD (K := K) (x := "_law_bent") (qual := "_law_bent") (st := s__law_bent) (kws := []) (f := (He.ga K "_law_bent")) (c.1.d.def_ 36 (d := dd36) rfl)
  obtain ⟨_, _, _, _, _, _, _, _, _, hllaw, hclaw, hklaw⟩ := rawD (K := K) (x := "law") (qual := "law") (st := s_law) (kws := []) (f := (He.ga K "law")) (c.1.d.def_ 37 (d := dd37) rfl)
  exact all_mk (l := l) (w := w) X G hfa (of_decide_eq_true (ex_0 c.2)) (ex_1 c.2) (ex_2 c.2) (ex_3 c.2) (of_decide_eq_true (ex_4 c.2)) (ex_5 c.2) (ex_6 c.2) (of_decide_eq_true (ex_7 c.2)) (of_decide_eq_true (ex_8 c.2)) (of_decide_eq_true (ex_9 c.2)) (of_decide_eq_true (ex_10 c.2)) (of_decide_eq_true (ex_11 c.2)) (of_decide_eq_true (ex_12 c.2)) (of_decide_eq_true (ex_13 c.2)) (ex_14 c.2) (ex_15 c.2) (ex_16 c.2) (of_decide_eq_true (ex_17 c.2)) (ex_18 c.2) (ex_19 c.2) (of_decide_eq_true (ex_20 c.2)) (of_decide_eq_true (ex_21 c.2)) (of_decide_eq_true (ex_22 c.2)) (of_decide_eq_true (ex_23 c.2)) (of_decide_eq_true (ex_24 c.2)) hgnMOST_LETTERS hgnLEAST_NARROW hgnMOST_PACE hgnMOST_IN_TWO_EVENTS (of_decide_eq_true (ex_29 c.2)) (of_decide_eq_true (ex_30 c.2)) (of_decide_eq_true (ex_31 c.2)) (of_decide_eq_true (ex_32 c.2)) (of_decide_eq_true (ex_33 c.2)) (of_decide_eq_true (ex_34 c.2)) (of_decide_eq_true (ex_35 c.2)) (of_decide_eq_true (ex_36 c.2)) (of_decide_eq_true (ex_37 c.2)) (of_decide_eq_true (ex_38 c.2)) (of_decide_eq_true (ex_39 c.2)) (of_decide_eq_true (ex_40 c.2)) (of_decide_eq_true (ex_41 c.2)) (of_decide_eq_true (ex_42 c.2)) (of_decide_eq_true (ex_43 c.2)) (of_decide_eq_true (ex_44 c.2)) (of_decide_eq_true (ex_45 c.2)) (of_decide_eq_true (ex_46 c.2)) (of_decide_eq_true (ex_47 c.2)) (of_decide_eq_true (ex_48 c.2)) (of_decide_eq_true (ex_49 c.2)) (of_decide_eq_true (ex_50 c.2)) (of_decide_eq_true (ex_51 c.2)) (of_decide_eq_true (ex_52 c.2)) (of_decide_eq_true (ex_53 c.2)) (of_decide_eq_true (ex_54 c.2)) hleditions_of hceditions_of hkeditions_of (of_decide_eq_true (ex_55 c.2)) hledition_of hcedition_of hkedition_of (of_decide_eq_true (ex_56 c.2)) hlis_integer hcis_integer hkis_integer (of_decide_eq_true (ex_57 c.2)) hlis_between hcis_between hkis_between (of_decide_eq_true (ex_58 c.2)) hlis_name hcis_name hkis_name (of_decide_eq_true (ex_59 c.2)) hlis_tuple_of hcis_tuple_of hkis_tuple_of (of_decide_eq_true (ex_60 c.2)) hlis_ascending hcis_ascending hkis_ascending (of_decide_eq_true (ex_61 c.2)) hlis_count hcis_count hkis_count (of_decide_eq_true (ex_62 c.2)) (ex_63 c.2) hlKind___init__ hcKind___init__ hkKind___init__ (of_decide_eq_true (ex_64 c.2)) (ex_65 c.2) hlKind___eq__ hcKind___eq__ hkKind___eq__ (of_decide_eq_true (ex_66 c.2)) (ex_67 c.2) hlKind___le__ hcKind___le__ hkKind___le__ (of_decide_eq_true (ex_68 c.2)) (ex_69 c.2) hlKind___lt__ hcKind___lt__ hkKind___lt__ (of_decide_eq_true (ex_70 c.2)) (ex_71 c.2) hlWorld___init__ hcWorld___init__ hkWorld___init__ (of_decide_eq_true (ex_72 c.2)) hl_are_kinds hc_are_kinds hk_are_kinds (of_decide_eq_true (ex_73 c.2)) hl_are_columns hc_are_columns hk_are_columns (of_decide_eq_true (ex_74 c.2)) hl_are_programs hc_are_programs hk_are_programs (of_decide_eq_true (ex_75 c.2)) hl_is_program hc_is_program hk_is_program (of_decide_eq_true (ex_76 c.2)) hl_is_edition hc_is_edition hk_is_edition (of_decide_eq_true (ex_77 c.2)) hl_are_rows hc_are_rows hk_are_rows (of_decide_eq_true (ex_78 c.2)) hl_is_read hc_is_read hk_is_read (of_decide_eq_true (ex_79 c.2)) hl_is_write hc_is_write hk_is_write (of_decide_eq_true (ex_80 c.2)) hl_is_first_edition hc_is_first_edition hk_is_first_edition (of_decide_eq_true (ex_81 c.2)) hl_many_in_two_events hc_many_in_two_events hk_many_in_two_events (of_decide_eq_true (ex_82 c.2)) hlis_mark hcis_mark hkis_mark (of_decide_eq_true (ex_83 c.2)) hl_is_top hc_is_top hk_is_top (of_decide_eq_true (ex_84 c.2)) hl_are_late hc_are_late hk_are_late (of_decide_eq_true (ex_85 c.2)) hl_is_late hc_is_late hk_is_late (of_decide_eq_true (ex_86 c.2)) hl_law_in_order hc_law_in_order hk_law_in_order (of_decide_eq_true (ex_87 c.2)) hl_law_pot_of hc_law_pot_of hk_law_pot_of (of_decide_eq_true (ex_88 c.2)) hl_law_take hc_law_take hk_law_take (of_decide_eq_true (ex_89 c.2)) hl_law_of hc_law_of hk_law_of (of_decide_eq_true (ex_90 c.2)) hl_law_made hc_law_made hk_law_made (of_decide_eq_true (ex_91 c.2)) hl_law_late_world hc_law_late_world hk_law_late_world (of_decide_eq_true (ex_92 c.2)) hl_law_any_mark hc_law_any_mark hk_law_any_mark (of_decide_eq_true (ex_93 c.2)) hl_law_is_own_late hc_law_is_own_late hk_law_is_own_late (of_decide_eq_true (ex_94 c.2)) hl_law_is_own_mark hc_law_is_own_mark hk_law_is_own_mark (of_decide_eq_true (ex_95 c.2)) hl_law_bent hc_law_bent hk_law_bent (of_decide_eq_true (ex_96 c.2)) hllaw hclaw hklaw (of_decide_eq_true (ex_97 c.2)) (of_decide_eq_true (ex_98 c.2)) (of_decide_eq_true (ex_99 c.2)) (of_decide_eq_true (ex_100 c.2)) (of_decide_eq_true (ex_101 c.2)) (of_decide_eq_true (ex_102 c.2)) (of_decide_eq_true (ex_103 c.2)) (of_decide_eq_true (ex_104 c.2)) (of_decide_eq_true (ex_105 c.2)) (of_decide_eq_true (ex_106 c.2)) (of_decide_eq_true (ex_107 c.2)) (of_decide_eq_true (ex_108 c.2)) (of_decide_eq_true (ex_109 c.2)) (of_decide_eq_true (ex_110 c.2)) (of_decide_eq_true (ex_111 c.2)) (of_decide_eq_true (ex_112 c.2))
end Zd
open PySem PySem.W PySem.Calls PyProof.Rows in
set_option maxRecDepth 100000 in
set_option maxHeartbeats 0 in
theorem PySem.Challenge.cw_widerkeys_k35_what_is_a_mark_holds : PySem.Challenge.rw_widerkeys_k35_what_is_a_mark.Holds := by
  w_on; o_law
  refine HandSHeadRun.head_any (r := OpenLaw.row PySem.Challenge.rw_widerkeys_k35_what_is_a_mark) (q := view (OpenLaw.row PySem.Challenge.rw_widerkeys_k35_what_is_a_mark).prog [70]) (H := Zd.hk) (ob := Zd.ob) (M := 12000) (loose := Zd.los) (d := HandSHeadRun.topDef (OpenLaw.row PySem.Challenge.rw_widerkeys_k35_what_is_a_mark).prog 70) (kwd := []) Zd.ob_eq
    (by kernel_rfl) (fun s => by kernel_rfl) Zd.run (by kernel_rfl) (by kernel_rfl) (by kernel_rfl) (by rfl) (by first | assumption | decide +kernel) (by decide +kernel) ⟨rfl, rfl, rfl, rfl, rfl, by decide +kernel⟩ ?hw ?hc
  case hw => w_witness2
  case hc =>
    refine Zd.walkGE (l := PySem.Challenge.rw_widerkeys_k35_what_is_a_mark) (n := 63) (sp := Zd.spLaw) (x := "_law_script") (k := 10) rfl (by decide) (by kernel_rfl) ⟨rfl, by decide, by decide⟩ ?F (fun K H a ns hl hS => ⟨a, ns, rfl, hS, hl, fun _ => rfl⟩)
    intro w mg fa h Y G hmg0
    obtain ⟨K, KX, c⟩ := Y
    have hmg : mg ("law" : PySem.Str) = some (.ref fa) := by
      have e : (HandSHeadRun.topDef (OpenLaw.row PySem.Challenge.rw_widerkeys_k35_what_is_a_mark).prog 70).name = ("law" : PySem.Str) := by kernel_rfl
      rw [← e]
      exact hmg0
    obtain ⟨fd, hb, hF⟩ := Zd.facts (l := PySem.Challenge.rw_widerkeys_k35_what_is_a_mark) (w := w) KX G hmg c
    exact ⟨K, fd, KX, hb, hF⟩
