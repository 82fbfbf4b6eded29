import PyProof.Rows.All
import Wide.All
import OpenK.AllK
import Wide.FinOn
import HandS.ForMost
import HandS.Codes
import HandS.Walk
import HandS.DictComp
import HandS.ListItems
import HandS.Property
import HandS.Wide
import HandS.Style
import HandS.More
import HandS.Defaults
import HandS.MakeKwOnly
import HandS.IsInst
import HandS.SetBool
import HandS.Strs
import HandS.Zip
import HandS.SetFor
import HandS.TryOnly
import HandS.Star
import HandS.Conv
import HandS.Defaults
import HandS.SortInts
import HandS.MakeKw
import HandS.DeepEq
import HandS.OwnEq
import HandS.Set
import HandS.SortOrd
import HandS.ClsMeth
import HandS.Codes
import HandS.Style
import HandS.Wide
import KE.DatumOrd
import KE.KDictZip
import HandS.RaiseMore
import HandS.ExcInit
import HandS.IsInst
import PyProof.InstNe
import KE.DataMinKey
import KE.DataCmp
import KE.SortData
import HandS.SortKw
import PyProof.WalksMore
import PyProof.ListRange
import HandS.ExcIs
import HandS.WordsExc
import HandS.ExcOwn
import HandS.RepeatKit
import KE.GoesEnum
import KE.GoesZip
import KE.GoesMore
import PySem.Challenge.RW_dueclocks_k43_parting_in_turn
set_option Elab.async false
set_option linter.all false
set_option maxRecDepth 100000
set_option maxHeartbeats 4000000
namespace DK
open PySem PySem.Spec PyProof.Rows L2

/-- a def that is only run where no repr is under way -/
structure FnG (P : Program) (w : World) (K : PySem.W.Frag) (mg : Str → Option Value) (b0 : Heap) (k : Nat) (f : Addr)
    (fd : FuncData) (ps : List Str) (sp : Sp) : Prop where
  size : ∀ vs H Q E, sp vs H Q E → vs.length = ps.length
  go : ∀ (B : Around) (stk : List Env) (s : Shared) (H : Hp) (ar : Args) (us : List Value) (vs : List V) (Q : VK) (E : XK),
    B.guards = some [] → Room k B → Env0 P w K mg b0 B stk s H → BindsTo s fd ar (ps.zip us) → Vals vs us → sp vs H Q E →
      codeAny (model P w) B (.call (.ref f) ar) (CR CX0 stk P w H s Q E) s

section
variable {P : Program} {w : World} {K : PySem.W.Frag} {mg : Str → Option Value} {b0 : Heap}

theorem okG {x qual : Str} {st : Stmt} {f : Addr} {fd : FuncData} {N ps : List Str} {k : Nat} {sp : Sp}
    (F : Fun K x qual st f fd) (S : FnScope N ps (defScope st)) (size : ∀ vs H Q E, sp vs H Q E → vs.length = ps.length)
    (body : ∀ (cdv : Value) (B : Around) (stk : List Env) (s : Shared) (H : Hp) (vs : List V) (Q : VK) (E : XK),
      B.guards = some [] → Room k (B.deeper (envOfC qual (defScope st) s.heap.objs.size f cdv)) → sp vs H Q E →
      ∃ t, PSs (cxOf CX0 P w K mg b0 N qual (defScope st) f cdv B stk s H E).nox (defBody st) t ∧
        t { nx := fun _ J => Q .non J, rt := Q } (start N vs) H) : FnG P w K mg b0 (k + 1) f fd ps sp := by
  obtain ⟨oc, od, kV, dc, pm, an, cv, ct, osl, rfl, hf, hcode⟩ := F.ex
  refine ⟨size, fun B stk s H ar us vs Q E hgd hr env hbi hv hs => ?_⟩
  have hlen := size _ _ _ _ hs
  have inK : K.In s.heap := env.mod.kin.keeps fun c u g => (env.bs c u g).1
  have noL : s.heap.NoLimit := env.mod.nolimit.keeps fun c u g => (env.bs c u g).1
  have kinds : ∀ z ∈ ps.zip us, (defScope st).names.lookup z.1 = some .local ∨
      ((defScope st).names.lookup z.1 = some .cell ∧
        ((cellsFrom (s.heap.objs.size + 1) (defScope st).names []).lookup z.1).isSome = true) := by
    rintro ⟨n, v⟩ hz
    rcases S.par n (List.of_mem_zip hz).1 with g | g
    · exact Or.inl g
    · exact Or.inr ⟨g, PySem.W.cellsFrom_some _ _ _ (Or.inl g)⟩
  refine codeAny_call_function hr.depth (inK _ _ hf) rfl S.co S.gen rfl (PySem.W.codeRec_of inK hcode) (hbi _ _ _ _ ?_)
  refine wpAny_newFunctionEnv_cells S.kind kinds fun en hen s2 inc => ?_
  subst hen
  refine ⟨noL.keeps inc.toInCall.keep, codeAny_func ?_⟩
  obtain ⟨t, ht0, hq⟩ := body cv B stk s H vs Q E hgd (hr.deeper _) hs
  have ht := ht0.nox
  have I : Inv (cxOf CX0 P w K mg b0 N qual (defScope st) f cv B stk s H E) [] (start N vs) H s2 := inv_start S hr.hd env hlen hv inc
  refine wpAny_mono (ht.run [] s2 (start N vs) H _ I hq) (fun fl s3 h3 => ?_) fun e s3 h3 => h3
  have close : ∀ {τ : L2.St} {J : Hp} {v : V} {u : Value}, Inv (cxOf CX0 P w K mg b0 N qual (defScope st) f cv B stk s H E) [] τ J s3 →
      RelV v u → Q v J → CE stk P w H s Q u s3 := fun {τ J v u} I3 rv q => ⟨v, J, I3.os, I3.bare, I3.base, I3.hok, rv, q⟩
  cases fl with
  | next =>
    obtain ⟨τ, J, I3, q⟩ := h3
    exact close (v := V.non) (u := Value.none) I3 rfl q
  | ret u =>
    obtain ⟨v, τ, J, I3, rv, q⟩ := h3
    exact close I3 rv q
  | cont =>
    obtain ⟨_, _, _, q⟩ := h3
    exact q.elim
  | brk =>
    obtain ⟨_, _, _, q⟩ := h3
    exact q.elim
end

section
variable {X : Cx}
/-- f(e, ..) of such a def -/
theorem pe_callG {k : Nat} {f : Addr} {fd : FuncData} {ps : List Str} {sp : Sp} {x : Str} {p pos : Pos} {e : Expr} {es : List Expr} {t : TA}
    (F : FnG X.prog X.w X.K X.mg X.base k f fd ps sp) (hgd : X.A.guards = some []) (hr : Room k X.A) (hg : Gl X x)
    (hm : X.mg x = some (.ref f)) (hk : PySem.W.keepIn X.K (.ref f) = true) (hb : Binds X.K fd ps []) (ha : PA X (e :: es) t)
    (hdb : (x == ("__debug__" : Str)) = false := by decide)
    (he : starEach (e :: es) X.env = (false, eval e X.env) :: starEach es X.env := by rfl)
    (hpl : (backTo pos (starEach es X.env)).any (·.1) = false := by rfl) :
    PE X (.Call (.Name x p) (e :: es) [] pos) (tCall sp [] E0 t) := by
  refine ⟨fun pins s σ H Q I h => ?_⟩
  refine wpAny_Call_Name_kw (ld_glob I hg hm ?_ hdb)
  refine PySem.W.callWith_K (h₀ := X.base) I.ok.mod.kin hk (thn (ha.run pos pins s σ H _ I h) fun us s1 hh => ?_) he hpl
  obtain ⟨vs, J, I1, r, q⟩ := hh
  refine ⟨I1.kIn, ?_⟩
  rw [List.append_nil] at q
  have hl : us.length = ps.length := r.length.symm.trans (F.size _ _ _ _ q)
  have bi := hb s1 us I1.kIn (by rw [List.append_nil]; exact hl)
  rw [List.append_nil] at bi
  refine wpAny_call (codeAny_mono (F.go X.A X.stack s1 J ⟨us, []⟩ us vs Q E0 hgd hr I1.env0 bi r q) fun res s2 hq => ?_)
  cases res with
  | error er => exact False.elim hq
  | ok fl =>
    cases fl with
    | ret u => exact I1.after hq
    | next => exact False.elim hq
    | brk => exact False.elim hq
    | cont => exact False.elim hq

/-- repr(x), x a list or a tuple of data -/
def rRepr (K : PySem.W.Frag) : List V → Hp → VK → Prop := fun xs H Q => ∃ (a : Addr) (d : PyData), xs = [.ref a] ∧ Dp K H (.ref a) d ∧
  d.showable = true ∧ d.hasDict = false ∧ d.depth ≤ 60 ∧ d.shown.length ≤ sizeLine ∧ Q (.str d.shown) H
theorem call_repr (hgd : X.A.guards = some []) (hu : X.A.units + 64 < cLine) : CallR X (.builtin "repr") (rRepr X.K) := by
  intro pins s σ H xs us Q I r h
  obtain ⟨a, d, rfl, hd, hs, hn, hdp, hz, q⟩ := h
  cases r with
  | cons r1 r2 =>
    cases r2
    rename_i u
    obtain rfl : u = Value.ref a := r1
    obtain ⟨as, rd⟩ := Dp.reads I d _ _ hd (show RelV (V.ref a) (Value.ref a) from rfl)
    refine repr_of_reads' rd hs (PyData.noDict_hsm hn) hgd (by omega) (fun _ _ e => e) (fun h' u tk hk => ?_) hz
    exact ⟨.str d.shown, H, I.kept hk, ⟨u, rfl⟩, q⟩
end

/-- what is hidden of the heap behind the top: the script alone, where it is not the module's own -/
structure Veil (P : Program) (w : World) (K : PySem.W.Frag) (h : Heap) (a : Addr) (ns : List Int) (H : Hp) : Prop where
  only : Only H
  at_ : SqL K H a (ns.map V.int)
  ok : HOk P w H h
  one : ∀ c, H c ≠ none → c = a
  out : H a ≠ none → K.lookup a = none

theorem veil_of {P : Program} {w : World} {K : PySem.W.Frag} {h : Heap} {a : Addr} {us : List Value} {ns : List Int} (inK : K.In h)
    (ha : h.get? a = some { cls := .type "list", data := .seq us.toArray }) (hi : IntsAre us ns) (hz : ns.length ≤ sizeLine) :
    ∃ H, Veil P w K h a ns H := by
  have rv := vals_ints hi
  cases hk : K.lookup a with
  | some o =>
    have e := (inK a o hk).symm.trans ha
    cases e
    refine ⟨fun _ => none, fun _ => Or.inl rfl, Or.inr ⟨_, us.toArray, _, hk, rfl, rfl, rfl, ?_, ?_⟩, fun c u z => ?_, fun c z => absurd rfl z, fun z => absurd rfl z⟩
    · rw [List.size_toArray, hi.length]
      exact hz
    · simpa using rv
    · exact nomatch (show (none : Option HO) = some u from z)
  | none =>
    let O : Obj := { cls := .type "list", data := .seq us.toArray }
    let H : Hp := fun c => if c = a then some (.frz O (.lst (ns.map V.int))) else none
    have hA : H a = some (.frz O (.lst (ns.map V.int))) := if_pos rfl
    have hN : ∀ c, c ≠ a → H c = none := fun c g => if_neg g
    refine ⟨H, fun c => ?_, Or.inl (Or.inr ⟨O, hA⟩), fun c u z => ?_, fun c z => ?_, fun _ => hk⟩
    · by_cases g : c = a
      · subst g
        exact Or.inr ⟨_, _, hA⟩
      · exact Or.inl (hN c g)
    · by_cases g : c = a
      · subst g
        have z2 := hA.symm.trans z
        cases z2
        refine ⟨ha, ?_, us, _, rv, ha⟩
        rw [List.length_map]
        exact hz
      · exact nomatch (hN c g).symm.trans z
    · by_cases g : c = a
      · exact g
      · exact absurd (hN c g) z

theorem lawG {P : Program} {w : World} {K : PySem.W.Frag} {mg mb : Str → Option Value} {k : Nat} {fa a : Addr} {fd : FuncData} {x : Str} {sp : Sp} {s : Shared} {us : List Value} {ns : List Int}
    (inK : K.In s.heap) (hmg : s.heap.Ns mainGlobals mg) (hmb : s.heap.Ns builtinsNs mb) (hbo : ∀ y : Str, y ≠ "__name__" → mb y = bootBuiltins y)
    (noL : s.heap.NoLimit) (gen : s.gens = #[]) (ha : s.heap.get? a = some { cls := .type "list", data := .seq us.toArray })
    (hi : IntsAre us ns) (hz : ns.length ≤ sizeLine) (hr : Room k callerA)
    (F : ∀ b0 : Heap, K.In b0 → b0.Ns mainGlobals mg → FnG P w K mg b0 k fa fd [x] sp)
    (bind : ∀ (t : Shared) (u : Value), BindsTo t fd ⟨[u], []⟩ [(x, u)])
    (hsp : ∀ H : Hp, Only H → SqL K H a (ns.map V.int) → sp [.ref a] H (fun v _ => v = .bl true) E0) :
    codeAny (model P w) callerA (.call (.ref fa) ⟨[.ref a], []⟩)
      (fun r t => r = .ok (.ret (.bool true)) ∧ OldK s.heap t.heap ∧ t.os = s.os ∧ AllBare t.gens) s := by
  obtain ⟨H, W⟩ := veil_of (P := P) (w := w) inK ha hi hz
  have through : ∀ {c : Addr} {o : Obj}, s.heap.get? c = some o → H c = none → (hidT s.heap H).get? c = some o := fun g n => hidT_get g n
  have dicts : ∀ {c : Addr} {o : Obj} {es : Array DictEntry} {ep : Nat}, s.heap.get? c = some o → o.data = .dict es ep → H c = none := by
    intro c o es ep g d
    by_cases n : H c = none
    · exact n
    · have := W.one c n
      subst this
      rw [ha] at g
      cases g
      exact nomatch d
  have names : ∀ {c : Addr} {m : Str → Option Value}, s.heap.Ns c m → (hidT s.heap H).Ns c m := fun {c m} ⟨o, es, ep, g, d, r⟩ => ⟨o, es, ep, through g (dicts g d), d, r⟩
  have inB : K.In (hidT s.heap H) := by
    intro c o g
    refine through (inK c o g) ?_
    by_cases n : H c = none
    · exact n
    · have e := W.one c n
      subst e
      rw [W.out n] at g
      exact nomatch g
  have md : Mod K mg (hidT s.heap H) := ⟨inB, names hmg, ⟨mb, names hmb, hbo⟩, noL.elim fun mc q => ⟨mc, names q.1, q.2⟩⟩
  have nil : ∀ c : Addr, c ∉ ([] : List Addr) := fun c q => nomatch q
  have env : Env0 P w K mg (hidT s.heap H) callerA [] s H :=
    ⟨rfl, md, fun c o g => of_hidT g, Nat.le_of_eq (hidT_size _ _), trivial, fun c q => absurd q (nil c), W.ok, .of_eq gen⟩
  refine codeAny_mono ((F _ inB (names hmg)).go callerA [] s H ⟨[.ref a], []⟩ [.ref a] [.ref a] _ _ rfl hr env (bind s (.ref a)) (.cons rfl .nil) (hsp H W.only W.at_)) fun r t q => ?_
  rcases r with er | fl
  · exact False.elim q
  · rcases fl with _ | _ | _ | u
    iterate 3 exact False.elim q
    · obtain ⟨v, H', os, bare, un, ok2, rv, rfl⟩ := q
      obtain rfl : u = Value.bool true := rv
      refine ⟨rfl, OldK.of_keep fun c o g => ?_, os, bare⟩
      by_cases n : H c = none
      · exact un.keep c o g n (fun z => absurd z (nil c)) (nil c)
      · rcases W.only c with z | ⟨O, xs, z⟩
        · exact absurd z n
        · have e1 := (W.ok c _ z).1
          have e2 := (ok2 c _ (un.frzs c O _ z)).1
          rw [g] at e1
          cases e1
          exact e2
/-- the end of a law row -/
theorem walkG {l : PySem.W.OpenLaw} {n k : Nat} {q : Program} {loose : List Str} {XP : (Str → Option Value) → Heap → Prop} {YP : World → Heap → Prop} {d : DefRec} {K : Params → PySem.W.Frag} {sp : PySem.W.Frag → Sp} {x : Str}
    (hn : l.most = some n) (hn2 : n ≤ sizeLine) (hdf : d.params.defaults = []) (hr : Room k callerA)
    (hY : ∀ (w : World) (h : Heap), YP w h → (K w.params).In h)
    (F : ∀ (w : World) (mg : Str → Option Value) (fa : Addr) (h : Heap), (K w.params).In h → h.Ns mainGlobals mg → mg d.name = some (.ref fa) →
      ∃ fd : FuncData, (∀ (t : Shared) (u : Value), BindsTo t fd ⟨[u], []⟩ [(x, u)]) ∧
        ∀ b0 : Heap, (K w.params).In b0 → b0.Ns mainGlobals mg → FnG l.prog w (K w.params) mg b0 k fa fd [x] (sp (K w.params)))
    (hsp : ∀ (J : PySem.W.Frag) (H : Hp) (a : Addr) (ns : List Int), ns.length ≤ n → Only H → SqL J H a (ns.map V.int) → sp J [.ref a] H (fun v _ => v = .bl true) E0) :
    PySem.W.WalkO q loose XP YP l.row.toRowW d [] (fun f vs => PySem.call f vs) := by
  refine Att.attach_call hn hdf fun w s₀ s₁ mg mb fa o pm cd doc a vs ns G Y ho hd hcd hmg hobj hints hlen hg => ?_
  have inK := hY w _ Y
  obtain ⟨fd, bi, hF⟩ := F w mg fa _ inK G.T.g hmg
  exact lawG inK G.T.g G.T.b G.T.builtins G.T.nolimit hg hobj hints (Nat.le_trans hlen hn2) hr hF bi fun H hO hS => hsp _ H a ns hlen hO hS
def top (i : Nat) : Stmt := PySem.Challenge.pw_dueclocks_k43_parting_in_turn.main.body.getD i (.Pass ⟨0, 0, 0, 0⟩)
abbrev sWell : Stmt := top 36
abbrev sLaw : Stmt := top 56
abbrev sErr : Stmt := inClass (top 2) 0
abbrev sNear : Stmt := top 49
abbrev sAmount : Stmt := top 12
abbrev sWeeks : Stmt := top 11
abbrev sNearness : Stmt := top 16
abbrev sNearest : Stmt := top 17
abbrev sChanged : Stmt := top 15
abbrev sFirst : Stmt := top 51
abbrev sNearL : Stmt := top 46
abbrev sMovedL : Stmt := top 47
abbrev sChkWeek : Stmt := top 10
abbrev sBehind : Stmt := top 13
abbrev sRight : Stmt := top 55
abbrev sUpto : Stmt := top 20
abbrev sTelling : Stmt := top 21
abbrev sLanes : Stmt := top 22
abbrev sLaneI : Stmt := inClass (top 23) 0
abbrev sLaneOff : Stmt := inClass (top 23) 1
abbrev sLaneLat : Stmt := inClass (top 23) 2
abbrev sBeside : Stmt := top 18
abbrev sAscend : Stmt := top 25
abbrev sRising : Stmt := top 26
abbrev sRuI : Stmt := inClass (top 30) 0
abbrev sRuWeek : Stmt := inClass (top 30) 4
abbrev sRuBase : Stmt := inClass (top 30) 5
abbrev sRuChanges : Stmt := inClass (top 30) 6
abbrev sRuOff : Stmt := inClass (top 30) 7
abbrev sRuAns : Stmt := inClass (top 30) 8
abbrev sRuLat : Stmt := inClass (top 30) 9
abbrev sRuCall : Stmt := inClass (top 30) 10
abbrev sRuHas : Stmt := inClass (top 30) 11
abbrev sRuEq : Stmt := inClass (top 30) 12
abbrev sRuDelay : Stmt := inClass (top 30) 3
abbrev sOffL : Stmt := top 43
abbrev sRuOr : Stmt := inClass (top 30) 14
abbrev sRuAnd : Stmt := inClass (top 30) 15
abbrev sRuShr : Stmt := inClass (top 30) 13
abbrev sJoint : Stmt := top 27
abbrev sPassing : Stmt := top 28
abbrev sLatestCh : Stmt := top 29
abbrev sRuInv : Stmt := inClass (top 30) 16
abbrev sRuMul : Stmt := inClass (top 30) 17
abbrev sRuRmul : Stmt := inClass (top 30) 18
abbrev sDip : Stmt := top 37
abbrev sMore : Stmt := top 38
abbrev sLead : Stmt := top 39
abbrev sTable : Stmt := top 40
abbrev sMade : Stmt := top 41
abbrev sStays : Stmt := top 42
abbrev sListL : Stmt := top 44
abbrev sParting : Stmt := top 33
abbrev sTellingM : Stmt := top 32
abbrev sWindow : Stmt := top 45
abbrev sPartTurn : Stmt := top 34
abbrev sDelayedL : Stmt := top 50
abbrev sNearMv : Stmt := top 48
abbrev sLowered : Stmt := top 52
abbrev sStepsL : Stmt := top 53
abbrev sApartL : Stmt := top 54
/-! ### the well -/
def Fr (p : Addr) (H H' : Hp) : Prop := ∀ b o, H b = some o → b ≠ p → H' b = some o
theorem Fr.refl (p : Addr) (H : Hp) : Fr p H H := fun _ _ h _ => h
theorem Fr.trans {p : Addr} {H H1 H2 : Hp} (a : Fr p H H1) (b : Fr p H1 H2) : Fr p H H2 := fun c o h g => b c o (a c o h g) g
theorem Fr.of {p : Addr} {H H' : Hp} (a : Same H H') : Fr p H H' := fun c o h _ => a c o h
theorem Fr.at_ {p : Addr} {o : HO} {H : Hp} : Fr p H (upd H p o) := fun b u h g => by
  rw [upd_ne g]
  exact h
theorem Fr.new {p q : Addr} {o : HO} {H : Hp} (h : H q = none) : Fr p H (upd H q o) := fun b u e _ => by
  rw [upd_ne (ne_of_none e h)]
  exact e
theorem Fr.seq {K : PySem.W.Frag} {p a : Addr} {H H' : Hp} {xs : List V} (f : Fr p H H') (g : a ≠ p) (h : SqL K H a xs) : SqL K H' a xs := by
  rcases h with (h | ⟨o, h⟩) | h
  · exact .inl (.inl (f _ _ h g))
  · exact .inl (.inr ⟨o, f _ _ h g⟩)
  · exact .inr h
theorem same_new {H : Hp} {q : Addr} {o : HO} (h : H q = none) : Same H (upd H q o) := fun b u e => by
  rw [upd_ne (ne_of_none e h)]
  exact e
/-- a well at p, from which n or fewer draws were mixed -/
def Well (H : Hp) (p : Addr) (n : Nat) : Prop := ∃ a b c : Int, H p = some (.lst [.int a, .int b, .int c]) ∧ 0 ≤ b ∧ b < 2 ^ 62 ∧ 0 ≤ c ∧ c ≤ n
theorem Well.mono {H : Hp} {p : Addr} {n m : Nat} (h : Well H p n) (g : n ≤ m) : Well H p m := by
  obtain ⟨a, b, c, h1, h2, h3, h4, h5⟩ := h
  exact ⟨a, b, c, h1, h2, h3, h4, by omega⟩
theorem Well.same {H H' : Hp} {p : Addr} {n : Nat} (h : Well H p n) (g : Same H H') : Well H' p n := by
  obtain ⟨a, b, c, h1, h2⟩ := h
  exact ⟨a, b, c, g _ _ h1, h2⟩
theorem Well.new {H : Hp} {p q : Addr} {n : Nat} {o : HO} (h : Well H p n) (g : H q = none) : Well (upd H q o) p n := h.same (same_new g)
theorem Well.upd_ne {H : Hp} {p q : Addr} {n : Nat} {o : HO} (h : Well H p n) (g : p ≠ q) : Well (upd H q o) p n := by
  obtain ⟨a, b, c, h1, h2⟩ := h
  exact ⟨a, b, c, by rw [L2.upd_ne g]; exact h1, h2⟩
theorem Well.ne {H : Hp} {p q : Addr} {n : Nat} (h : Well H p n) (g : H q = none) : p ≠ q := by
  obtain ⟨a, b, c, h1, h2⟩ := h
  exact ne_of_none h1 g
/-- the built-in names are still the built-in ones -/
structure Blt (mg : Str → Option Value) : Prop where
  int : mg "int" = none
  len : mg "len" = none
  abs : mg "abs" = none
  max : mg "max" = none
  min : mg "min" = none
  range : mg "range" = none
  repr : mg "repr" = none
  list : mg "list" = none
theorem set0 (a b c v : V) : ([a, b, c] : List V).set 0 v = [v, b, c] := rfl
theorem set2 (a b c v : V) : ([a, b, c] : List V).set 2 v = [a, b, v] := rfl

/-! ### lists of numbers -/
theorem atI_ints {xs : List Int} {i : Int} (h0 : 0 ≤ i) (h1 : i < xs.length) : ∃ v, v ∈ xs ∧ xs[i.toNat]? = some v ∧ atI (xs.map V.int) i = some (.int v) := by
  obtain ⟨j, rfl⟩ : ∃ j : Nat, i = (j : Int) := ⟨i.toNat, by omega⟩
  have hj : j < xs.length := by omega
  refine ⟨xs[j], List.getElem_mem hj, by simp [hj], atI_nat (j := j) ?_⟩
  rw [List.getElem?_map, List.getElem?_eq_getElem hj]
  rfl

/-! ### the changes that a law draws: tuples of a moment and a speed -/
def Tups (H : Hp) : List Addr → List (Int × Int) → Prop
  | [], [] => True
  | t :: ts, m :: ms => H t = some (.tup [.int m.1, .int m.2]) ∧ Tups H ts ms
  | _, _ => False
theorem Tups.len {H : Hp} : ∀ {ts : List Addr} {ms : List (Int × Int)}, Tups H ts ms → ts.length = ms.length
  | [], [], _ => rfl
  | _ :: _, _ :: _, h => by
    rw [List.length_cons, List.length_cons, Tups.len h.2]
theorem Tups.imp {H H' : Hp} : ∀ {ts : List Addr} {ms : List (Int × Int)}, (∀ t xs, H t = some (.tup xs) → H' t = some (.tup xs)) → Tups H ts ms → Tups H' ts ms
  | [], [], _, _ => trivial
  | _ :: _, _ :: _, f, h => ⟨f _ _ h.1, Tups.imp f h.2⟩
theorem Tups.same {H H' : Hp} {ts : List Addr} {ms : List (Int × Int)} (h : Tups H ts ms) (f : Same H H') : Tups H' ts ms := h.imp fun _ _ e => f _ _ e
theorem Tups.fr {H H' : Hp} {p : Addr} {n : Nat} {ts : List Addr} {ms : List (Int × Int)} (h : Tups H ts ms) (w : Well H p n) (f : Fr p H H') : Tups H' ts ms := h.imp fun t xs e => f _ _ e fun z => by
  obtain ⟨a, b, c, g, _⟩ := w
  rw [z, g] at e
  cases e
theorem Tups.put {H : Hp} {q : Addr} {ys : List V} {o : HO} {ts : List Addr} {ms : List (Int × Int)} (h : Tups H ts ms) (g : H q = some (.lst ys)) : Tups (upd H q o) ts ms := h.imp fun t xs e => by
  rw [upd_ne (fun z => by rw [z, g] at e; cases e)]
  exact e
theorem Tups.snoc {H : Hp} {t : Addr} {m : Int × Int} : ∀ {ts : List Addr} {ms : List (Int × Int)}, Tups H ts ms → H t = some (.tup [.int m.1, .int m.2]) → Tups H (ts ++ [t]) (ms ++ [m])
  | [], [], _, g => ⟨g, trivial⟩
  | _ :: _, _ :: _, h, g => ⟨h.1, Tups.snoc h.2 g⟩
theorem Tups.get {H : Hp} : ∀ {ts : List Addr} {ms : List (Int × Int)} {i : Nat} {t : Addr}, Tups H ts ms → ts[i]? = some t → ∃ m, ms[i]? = some m ∧ H t = some (.tup [.int m.1, .int m.2])
  | _ :: _, m :: _, 0, t, h, e => by
    obtain rfl := Option.some.inj e
    exact ⟨m, rfl, h.1⟩
  | _ :: _, _ :: _, i + 1, t, h, e => Tups.get (i := i) h.2 e

/-- len of a list or a tuple, told by the written part -/
def rLen (K : PySem.W.Frag) : List V → Hp → VK → Prop := fun vs H Q => ∃ (p : Addr) (ys : List V), vs = [.ref p] ∧
  (SqL K H p ys ∨ SqT K H p ys) ∧ Q (.int (ys.length : Nat)) H

structure At (P : Program) (w : World) (K : PySem.W.Frag) (mg : Str → Option Value) (base : Heap) (k : Nat) (x : Str) (ps : List Str) (sp : Sp) (f : Addr) (fd : FuncData) : Prop where
  ok : FnOk P w K mg base CX0 k f fd ps sp
  at_ : mg x = some (.ref f)
  kp : PySem.W.keepIn K (.ref f) = true
  bi : Binds K fd ps []

structure Pp (P : Program) (w : World) (K : PySem.W.Frag) (mg : Str → Option Value) (base : Heap) (C : Addr) (x : Str) (sp : Sp) (p g : Addr) (fd : FuncData) : Prop where
  of : PropOf K C x p g
  ok : FnOk P w K mg base CX0 1 g fd ["self"] sp
  bi : Binds K fd ["self"] []

/-! ### what a week and changes are checked for -/
/-- whether a change stands behind the one ahead of it -/
def behind (ms : List (Int × Int)) (i : Nat) : Bool := decide (i = 0) || decide ((ms.getD (i - 1) (0, 0)).1 < (ms.getD i (0, 0)).1)
structure ConW (mg : Str → Option Value) : Prop where
  gw : ∃ t, mg "GREATEST_WEEK" = some (.int 12 t)
def spChkW : Sp := fun vs H Q _ => ∃ n : Int, vs = [.int n] ∧ 1 ≤ n ∧ n ≤ 12 ∧ Q .non H
def spBehind (K : PySem.W.Frag) : Sp := fun vs H Q _ => ∃ (a : Addr) (ts : List Addr) (ms : List (Int × Int)) (i : Nat), vs = [.ref a, .int (i : Int)] ∧ SqL K H a (ts.map V.ref) ∧ Tups H ts ms ∧ i < ms.length ∧ Q (.bl (behind ms i)) H
section
variable {P : Program} {w : World} {K : PySem.W.Frag} {mg : Str → Option Value} {base : Heap}
theorem scChkW : FnScope ["number"] ["number"] (defScope sChkWeek) := ⟨rfl, rfl, rfl, by decide +kernel, rfl, by decide +kernel, by decide +kernel⟩
theorem ok_chkW {f : Addr} {fd : FuncData} (F : Fun K "check_week" "check_week" sChkWeek f fd) (C : ConW mg) : FnOk P w K mg base CX0 1 f fd ["number"] spChkW := by
  refine F.ok scChkW (fun vs H Q E h => ?_) (fun cdv A outer s H vs Q E hr h => ?_)
  · obtain ⟨n, rfl, _⟩ := h
    rfl
  · obtain ⟨n, rfl, n1, n2, q⟩ := h
    obtain ⟨t, ht⟩ := C.gw
    refine ⟨_, pss_one (ps_if (pt_not (pt_chain op_le op_le pe_int (pv 0) (pe_glob (v := .int 12) (by rfl) ht ⟨t, rfl⟩))) (pss_one ps_never) pss_nil), ?_⟩
    refine ⟨_, rfl, _, _, rfl, rfl, _, rfl, ite2 (fun g => ?_) (fun g => absurd (decide_eq_true (by omega)) g)⟩
    refine ⟨_, _, rfl, rfl, _, rfl, ite2 (fun g2 => absurd g2 ?_) (fun _ => q)⟩
    rw [decide_eq_true (by omega)]
    decide
theorem scBehind : FnScope ["changes", "index"] ["changes", "index"] (defScope sBehind) := ⟨rfl, rfl, rfl, by decide +kernel, rfl, by decide +kernel, by decide +kernel⟩
theorem behind_fit {ms : List (Int × Int)} {i : Nat} (h : ms.Pairwise fun a b => a.1 < b.1) (hi : i < ms.length) : behind ms i = true := by
  unfold behind
  cases i with
  | zero => rfl
  | succ j =>
    have lt := List.pairwise_iff_getElem.mp h j (j + 1) (by omega) hi (by omega)
    simp only [Nat.add_sub_cancel]
    rw [List.getD_eq_getElem?_getD, List.getD_eq_getElem?_getD, List.getElem?_eq_getElem hi, List.getElem?_eq_getElem (by omega : j < ms.length)]
    simp [lt]
theorem ok_behind {f : Addr} {fd : FuncData} (F : Fun K "is_behind" "is_behind" sBehind f fd) : FnOk P w K mg base CX0 1 f fd ["changes", "index"] (spBehind K) := by
  refine F.ok scBehind (fun vs H Q E h => ?_) (fun cdv A outer s H vs Q E hr h => ?_)
  · obtain ⟨a, ts, ms, i, rfl, _⟩ := h
    rfl
  · obtain ⟨a, ts, ms, i, rfl, hS, tp, hi, q⟩ := h
    refine ⟨_, pss_one (ps_ret (pe_or (pe_cmpR op_eq (pv 1) pe_int (nomark _)) (pe_one (pe_cmpR op_lt
      (pe_ix ix_tup (pe_ix ix_list (pv 0) (pe_op op_sub (pv 1) pe_int) (fun _ _ => rfl)) pe_int (fun _ _ => rfl))
      (pe_ix ix_tup (pe_ix ix_list (pv 0) (pv 1) (fun _ _ => rfl)) pe_int (fun _ _ => rfl)) (nomark _))))), ?_⟩
    have tl := tp.len
    have ez : decide (V.int (i : Int) = V.int 0) = decide (i = 0) := by
      rw [decide_eq_decide]
      exact ⟨fun e => by injection e with e; omega, fun e => by rw [e]; rfl⟩
    refine ⟨_, rfl, rfl, _, rfl, ?_⟩
    rw [ez]
    cases i with
    | zero => exact q
    | succ j =>
      have hj : j < ts.length := by omega
      have hj1 : j + 1 < ts.length := by omega
      obtain ⟨m', hm', hm2'⟩ := tp.get (List.getElem?_eq_getElem hj)
      obtain ⟨m, hm, hm2⟩ := tp.get (List.getElem?_eq_getElem hj1)
      have ej : (((j + 1 : Nat) : Int) - 1) = (j : Nat) := by omega
      refine ⟨_, rfl, _, rfl, _, _, rfl, rfl, a, _, _, _, rfl, rfl, hS, at_of (j := j) (v := V.ref ts[j]) ej (by rw [List.getElem?_map, List.getElem?_eq_getElem hj]; rfl), ts[j], _, 0, _, rfl, rfl, SqT.of hm2', atI_nat (j := 0) rfl,
        _, rfl, _, rfl, a, _, _, _, rfl, rfl, hS, atI_nat (j := j + 1) (v := V.ref ts[j + 1]) (by rw [List.getElem?_map, List.getElem?_eq_getElem hj1]; rfl), ts[j + 1], _, 0, _, rfl, rfl, SqT.of hm2, atI_nat (j := 0) rfl, _, _, rfl, rfl, ?_⟩
      have e : behind ms (j + 1) = decide (m'.1 < m.1) := by
        unfold behind
        simp only [Nat.add_sub_cancel]
        rw [List.getD_eq_getElem?_getD, List.getD_eq_getElem?_getD, hm, hm']
        simp
      rw [e] at q
      exact q
end

/-! ### {e for x in ..} of ints -/
/-- the reading: as of a list's, the new set at D, what it has and how many -/
def tScI (w : World) (wi : TI) (g : TG) (tt : TT) (te : TE) (vs : List Nat) : TE := fun σ H Q =>
  wi σ H fun J Ha => ∀ D, Ha D = none → ∃ Wk : Nat → Nat → Hp → Prop, (∃ m, Wk 0 m (upd Ha D (SetO w D (fun _ => false) 0))) ∧
    ∀ i m Hb, Wk i m Hb → (J.stop i Hb ∧ Q (.ref D) Hb) ∨
      (J.go i Hb ∧ ∃ Go : Hp → Prop, (∀ Hc, Go Hc → ∃ m', m' < m ∧ Wk (i + 1) m' Hc) ∧
        ∀ x Hc, J.yld i Hb x Hc → g x (wipe σ vs) Hc fun τ Hd => wipe τ vs = wipe σ vs ∧ tt τ Hd fun b He =>
          if b = true then te τ He fun y Hf => ∃ (c : Int) (S : Int → Bool) (n : Nat), y = .int c ∧ Hf D = some (SetO w D S n) ∧ n + 1 < scanBound ∧
            Go (upd Hf D (SetO w D (fun j => S j || decide (j = c)) (if S c = true then n else n + 1))) else Go He)
section
variable {X : Cx}
theorem addI_ok {pins : List (Addr × Obj)} {τ : L2.St} {H : Hp} {s : Shared} {E : Value → Shared → Prop} {D : Addr} {S : Int → Bool} {n : Nat} {c : Int} {tk : Tok} {Q : Value → Shared → Prop}
    (I : Inv X pins τ H s) (at_ : H D = some (SetO X.w D S n)) (room : n + 1 < scanBound)
    (q : ∀ s', Inv X pins τ (upd H D (SetO X.w D (fun j => S j || decide (j = c)) (if S c = true then n else n + 1))) s' → Q .none s') :
    wpAny (model X.prog X.w) X.A (call (.builtin "set.add") [.ref D, .int c tk]) Q E s := by
  refine setR_add (setO_get I at_) room fun h' same fresh => ?_
  have there : ∃ u, h'.get? D = some u := let ⟨o, _, _, _, e, _⟩ := fresh; ⟨o, e⟩
  exact q _ (I.write (e := D) (t' := s.toks + 1) (by rw [at_]; trivial) (.inl rfl) (fun b u ne e => (same.2 b ne).trans e) there (setO_new fresh))
end

section
variable {X : Cx}
open PpSet in
theorem pe_scI {el tgt src : Expr} {conds : List Expr} {sc : Scope} {own : List (PySem.Str × Nat)} {pos : Pos} {wi : TI} {g : TG} {tt : TT} {te : TE} (calm : X.calm = true) (nd : X.N.Nodup)
    (walks : PI X tgt src wi) (blk : BlkOk X.N X.env.scope sc own)
    (gs : ∀ (s : Shared) (H : Hp) (C : Addr) (cl : List (PySem.Str × Addr)) (fp : List Addr), PG (X.blk s H sc (compEnvC sc cl C X.env) fp) tgt g)
    (cs : ∀ (s : Shared) (H : Hp) (C : Addr) (cl : List (PySem.Str × Addr)) (fp : List Addr), PTs (X.blk s H sc (compEnvC sc cl C X.env) fp) conds tt)
    (es : ∀ (s : Shared) (H : Hp) (C : Addr) (cl : List (PySem.Str × Addr)) (fp : List Addr), PE (X.blk s H sc (compEnvC sc cl C X.env) fp) el te)
    (src0 : ∀ x, foldedSetIterable src X.env x = pure x := by intro _; rfl) :
    PE X (.SetComp el [⟨tgt, src, conds, 0⟩] sc pos) (tScI X.w wi g tt te (own.map (·.2))) := by
  refine ⟨fun pins s0 σ Hz Q Iz reading => ?_⟩
  rw [eval_SetComp]
  have cells : ∀ y ∈ sc.names, y.2 = .free → ∃ c, X.env.cells.lookup y.1 = some c := fun y my ey =>
    (blk.free y my ey).elim (fun k => Iz.ok.has _ (.inl k)) (fun k => Iz.ok.has _ (.inr k))
  refine wpAny_comprehension_free (use := none) rfl src0 (closure_ok cells) blk.kind (fun y my ey => by rw [blk.uniq y my, ey]) (thn (walks.run pins s0 σ Hz _ Iz reading) fun _ sa gotIter => thn gotIter fun _ sb got => ?_)
  obtain ⟨it, fp, tn, J, Ha, rfl, Ia, T, sta, freeA, q⟩ := got
  refine newSet_ok (newEnv_comp ?_)
  -- the set's place, and the state that has it
  generalize place : sb.heap.objs.size = D
  have none0 : Ha D = none := Ia.hok.fresh (Nat.le_of_eq place)
  obtain ⟨Wk, ⟨m0, w0⟩, turn⟩ := q D none0
  have sized : ∀ b ∈ fp, b < sb.heap.objs.size := fun b mb => let ⟨_, e, _⟩ := T.obj _ _ sta b mb; Heap.lt_size e
  generalize pushed : ({ sb with heap := sb.heap.push { cls := .type "set", dict := none, data := .set #[] 0 (.fresh 0 0 (!X.w.params.followText "set-order")) } } : Shared) = sd
  have heapd : sd.heap = sb.heap.push { cls := .type "set", dict := none, data := .set #[] 0 (.fresh 0 0 (!X.w.params.followText "set-order")) } := by rw [← pushed]
  have Id : Inv X pins σ (upd Ha D (SetO X.w D (fun _ => false) 0)) sd := by
    rw [← pushed, ← place]
    exact Ia.laid (t' := sb.toks) (fun b o e => Heap.get?_push_of_some _ e) (Nat.le_refl _) (setO_new (setR_fresh X.w))
  have freeD : ∀ b ∈ fp, FpOk X pins (upd Ha D (SetO X.w D (fun _ => false) 0)) b ∧ b < sd.heap.objs.size := fun b mb => by
    have lt := sized b mb
    refine ⟨⟨by rw [upd_ne (by rw [← place]; exact Nat.ne_of_lt lt)]; exact (freeA b mb).1, (freeA b mb).2⟩, ?_⟩
    rw [heapd, Heap.size_push]
    exact Nat.lt_succ_of_lt lt
  have std : tn 0 sd.heap := T.keep _ _ _ sta fun b _ o e => by rw [heapd]; exact Heap.get?_push_of_some _ e
  have Ie := block_start Id blk nd freeD
  have pg := gs sd (upd Ha D (SetO X.w D (fun _ => false) 0)) sd.heap.objs.size (cellsFrom (sd.heap.objs.size + 1) sc.names (cloFrom X.env.cells sc.names [])) fp
  have pt := cs sd (upd Ha D (SetO X.w D (fun _ => false) 0)) sd.heap.objs.size (cellsFrom (sd.heap.objs.size + 1) sc.names (cloFrom X.env.cells sc.names [])) fp
  have pe := es sd (upd Ha D (SetO X.w D (fun _ => false) 0)) sd.heap.objs.size (cellsFrom (sd.heap.objs.size + 1) sc.names (cloFrom X.env.cells sc.names [])) fp
  show codeAny _ _ (.compStart (.SetComp el [⟨tgt, src, conds, 0⟩] sc pos) 0 (.ref it) (.ref D) (compEnvC sc (cellsFrom (sd.heap.objs.size + 1) sc.names (cloFrom X.env.cells sc.names [])) sd.heap.objs.size X.env)) (compPost (model X.prog X.w) X.A X.xe none (EP X pins σ Q) (.ref D) sd.heap.objs.size) { sd with heap := pushCells (sd.heap.push { cls := .type "dict", data := .dict #[] }) sc.names }
  have apart : ∀ b ∈ fp, (upd Ha D (SetO X.w D (fun _ => false) 0)) b = none := fun b mb => (freeD b mb).1.1
  generalize envIs : compEnvC sc (cellsFrom (sd.heap.objs.size + 1) sc.names (cloFrom X.env.cells sc.names [])) sd.heap.objs.size X.env = ce at Ie pg pt pe ⊢
  have local_ : ce.locals = sd.heap.objs.size := by rw [← envIs]; rfl
  generalize upd Ha D (SetO X.w D (fun _ => false) 0) = Hd at Id Ie pg pt pe w0 apart freeD
  generalize blockIs : ({ sd with heap := pushCells (sd.heap.push { cls := .type "dict", data := .dict #[] }) sc.names } : Shared) = se at Ie ⊢
  have ste : tn 0 se.heap := T.keep _ _ _ std fun b _ o e => by rw [← blockIs]; exact pushCells_keeps _ _ _ _ (Heap.get?_push_of_some _ e)
  have still : ∀ {τ : L2.St} {H' : Hp} {s' : Shared}, Inv (X.blk sd Hd sc ce fp) [] τ H' s' → (∀ b ∈ fp, H' b = none) → ∀ b ∈ fp, FpOk (X.blk sd Hd sc ce fp) [] H' b := fun {τ H' s'} I' free b mb =>
    ⟨free b mb, (I'.ok.exf b mb).1, I'.ok.exfs b mb, .inl mb, fun _ c e => (I'.ok.exf b mb).2 _ c e, fun p mp => absurd (show p ∈ ([] : List (Addr × Obj)) ++ [] from mp) (by simp)⟩
  have loop : codeAny (model X.prog X.w) X.A (.compLoop (.SetComp el [⟨tgt, src, conds, 0⟩] sc pos) 0 (.ref it) (.ref D) ce) (compPost (model X.prog X.w) X.A X.xe none (EP X pins σ Q) (.ref D) sd.heap.objs.size) se := by
    refine compLoopS_any (fun k s' => ∃ i H', Inv (X.blk sd Hd sc ce fp) [] (wipe σ (own.map (·.2))) H' s' ∧ tn i s'.heap ∧ (∀ b ∈ fp, H' b = none) ∧ Wk i k H') ?_ m0 ⟨0, Hd, Ie, ste, apart, w0⟩
    rintro k sf ⟨i, Hf, If, stf, freeF, wf⟩
    rcases turn i k Hf wf with ⟨ends, res⟩ | ⟨goes, Go, less, each⟩
    · refine thnF (T.done (X.blk sd Hd sc ce fp) rfl rfl rfl calm i [] sf _ Hf (fun _ _ => False) If (still If freeF) stf ends) fun r sg hh => ?_
      obtain ⟨rfl, Ig⟩ := hh
      have back : Inv X pins σ Hf sg := Id.call' (ch := fp) Ig.os Ig.base Ig.hok Ig.bare fun b mb => ⟨(freeD b mb).1.2.2.2.1, (freeD b mb).1.2.1, (freeD b mb).1.2.2.2.2.1, (freeD b mb).1.2.2.2.2.2⟩
      have gone : Hf sd.heap.objs.size = none := by rw [← local_]; exact Ig.free
      obtain ⟨m, ns, _⟩ := Ig.loc
      have ns : sg.heap.Ns ce.locals m := ns
      rw [local_] at ns
      obtain ⟨p0, p1, p2, p3, p4, p5⟩ := Id.fpOk (Nat.le_refl _) gone
      exact ⟨m, ns, fun h'' same => ⟨.ref D, Hf, back.turned (t' := sg.toks) (fun b o ne e => (same.2 b ne).trans e) p0 p1 p3 p4 p5, rfl, res⟩⟩
    · refine thnF (T.item (X.blk sd Hd sc ce fp) rfl rfl rfl calm i [] sf _ Hf (fun _ _ => False) If (still If freeF) stf goes) fun r sg hh => ?_
      obtain ⟨u, rfl, owned⟩ := hh
      refine thnF owned fun _ sh hh => ?_
      obtain ⟨x, Hh, Ih, rx, yl, sth, freeH⟩ := hh
      have Ip := Ih.pinned (still Ih freeH) (T.obj _ _ sth)
      refine thnF (pg.run _ sh _ Hh x u _ Ip rx (each x Hh yl)) fun _ si hh => ?_
      obtain ⟨τ, Hi, Ii, wiped, rest⟩ := hh
      refine thnF (pt.run _ si τ Hi _ Ii rest) fun b sj hh => ?_
      obtain ⟨Hj, Ij, rest⟩ := hh
      have next : ∀ {s' : Shared} {H' : Hp}, Inv (X.blk sd Hd sc ce fp) ([] ++ pinsAt fp sh.heap) τ H' s' → Go H' → ∃ m, m < k ∧ ∃ i H', Inv (X.blk sd Hd sc ce fp) [] (wipe σ (own.map (·.2))) H' s' ∧ tn i s'.heap ∧ (∀ b ∈ fp, H' b = none) ∧ Wk i m H' := fun {s' H'} I' go' => by
        obtain ⟨m', lt, w'⟩ := less H' go'
        have pinned : ∀ b ∈ fp, ∀ o, sh.heap.get? b = some o → s'.heap.get? b = some o ∧ H' b = none := fun b mb o e =>
          have z := I'.pin (b, o) (List.mem_append_right _ (List.mem_append_right _ (mem_pinsAt mb e)))
          ⟨z.1, z.2.1⟩
        refine ⟨m', lt, i + 1, H', (I'.unpinned (pins := [])).weak (by rw [← wiped, wipe_length]) (fun j v e => by rw [← wiped] at e; exact (wipe_some e).1), T.keep _ _ _ sth fun b mb o e => (pinned b mb o e).1, fun b mb => ?_, w'⟩
        obtain ⟨o, e, _⟩ := T.obj _ _ sth b mb
        exact (pinned b mb o e).2
      cases b with
      | false =>
        simp only [Bool.false_eq_true, if_false] at rest ⊢
        exact next Ij rest
      | true =>
        simp only [if_true] at rest ⊢
        refine thnF (pe.run _ sj τ Hj _ Ij rest) fun zv sk hh => ?_
        obtain ⟨yv, Hk, Ik, ry, c, S, n, rfl, hasD, room, go'⟩ := hh
        obtain ⟨tk, rfl⟩ := (show ∃ t, zv = Value.int c t from ry)
        exact addI_ok (X := X.blk sd Hd sc ce fp) Ik hasD room fun s' I' => next I' go'
  exact codeAny_compStart_set loop (T.self X.A 0 _ _ _ ste loop)
end
/-- over a list that the block leaves as it is -/
theorem scI_list {w : World} {K : PySem.W.Frag} {a : Addr} {xs : List V} {g : TG} {tt : TT} {te : TE} {vs : List Nat} {σ : L2.St} {H1 : Hp} {D : Addr} {Qd : Hp → Prop} (Pv : Nat → Hp → Prop) (h0 : Pv 0 (upd H1 D (SetO w D (fun _ => false) 0)))
    (stays : ∀ i H, i ≤ xs.length → Pv i H → SqL K H a xs)
    (each : ∀ i x H, xs[i]? = some x → Pv i H → g x (wipe σ vs) H fun τ Hd => wipe τ vs = wipe σ vs ∧ tt τ Hd fun b He =>
      if b = true then te τ He fun y Hf => ∃ (c : Int) (S : Int → Bool) (n : Nat), y = .int c ∧ Hf D = some (SetO w D S n) ∧ n + 1 < scanBound ∧ Pv (i + 1) (upd Hf D (SetO w D (fun j => S j || decide (j = c)) (if S c = true then n else n + 1))) else Pv (i + 1) He)
    (fin : ∀ H, Pv xs.length H → Qd H) :
    ∃ Wk : Nat → Nat → Hp → Prop, (∃ m, Wk 0 m (upd H1 D (SetO w D (fun _ => false) 0))) ∧ ∀ i m Hb, Wk i m Hb → ((Itl K a).stop i Hb ∧ Qd Hb) ∨
      ((Itl K a).go i Hb ∧ ∃ Go : Hp → Prop, (∀ Hc, Go Hc → ∃ m', m' < m ∧ Wk (i + 1) m' Hc) ∧ ∀ x Hc, (Itl K a).yld i Hb x Hc → g x (wipe σ vs) Hc fun τ Hd => wipe τ vs = wipe σ vs ∧ tt τ Hd fun b He =>
        if b = true then te τ He fun y Hf => ∃ (c : Int) (S : Int → Bool) (n : Nat), y = .int c ∧ Hf D = some (SetO w D S n) ∧ n + 1 < scanBound ∧ Go (upd Hf D (SetO w D (fun j => S j || decide (j = c)) (if S c = true then n else n + 1))) else Go He) := by
  refine ⟨fun i m H => m = xs.length - i ∧ i ≤ xs.length ∧ Pv i H, ⟨xs.length, by simp, Nat.zero_le _, h0⟩, ?_⟩
  rintro i m H ⟨rfl, hi, pv⟩
  have sq := stays i H hi pv
  by_cases lt : i < xs.length
  · exact .inr ⟨⟨xs, xs[i], sq, by simp [lt]⟩, Pv (i + 1), fun Hc p' => ⟨xs.length - (i + 1), by omega, rfl, lt, p'⟩, fun x Hc yl => by
      obtain ⟨rfl, yl⟩ := yl
      exact each i x _ (yl xs sq) pv⟩
  · obtain rfl : i = xs.length := by omega
    exact .inl ⟨⟨xs, sq, Nat.le_refl _⟩, fin H pv⟩

/-! ### {e for x in .. for y in ..} of ints -/
section
variable {el ta sa tb sb : Expr} {ca cb : List Expr} {sc : Scope} {pos : Pos} {ite set_ : Value} {en : Env}
abbrev two2 (el ta sa tb sb : Expr) (ca cb : List Expr) (sc : Scope) (pos : Pos) : Expr := .SetComp el [⟨ta, sa, ca, 0⟩, ⟨tb, sb, cb, 0⟩] sc pos
theorem turnA (el ta sa tb sb : Expr) (ca cb : List Expr) (sc : Scope) (pos : Pos) (ite set_ : Value) (en : Env) :
    compTurn (two2 el ta sa tb sb ca cb sc pos) 0 ite set_ en = (do
      standAt sa.pos
      match ← pyNext ite with
      | none => pure (.done .next)
      | some got =>
        letOwnedTupleGo ta ite got
        assign ta en got
        let mut go := true
        for q in ca do
          if go then go ← isTrue q en (eval q en)
        if go then
          let src ← eval sb en
          standAt sb.pos
          let src ← foldedSetIterable sb en src
          let _ ← runOwn (.compStart (two2 el ta sa tb sb ca cb sc pos) 1 (← holding [src] (pyIter src)) set_ en) en
        again (.compLoop (two2 el ta sa tb sb ca cb sc pos) 0 ite set_ en)) := by rfl
theorem turnB (el ta sa tb sb : Expr) (ca cb : List Expr) (sc : Scope) (pos : Pos) (ite set_ : Value) (en : Env) :
    compTurn (two2 el ta sa tb sb ca cb sc pos) 1 ite set_ en = (do
      standAt sb.pos
      match ← pyNext ite with
      | none => pure (.done .next)
      | some got =>
        letOwnedTupleGo tb ite got
        assign tb en got
        let mut go := true
        for q in cb do
          if go then go ← isTrue q en (eval q en)
        if go then
          (do let got ← eval el en; standAt el.pos; let _ ← call (.builtin "set.add") [set_, got])
        again (.compLoop (two2 el ta sa tb sb ca cb sc pos) 1 ite set_ en)) := by rfl
variable {prog : Program} {w : World} {A : Around} {Rs : Result → Shared → Prop} {s0 : Shared}
theorem loopA (plain : ∀ z, foldedSetIterable sb en z = pure z) (J : Nat → Shared → Prop)
    (each : ∀ k t, J k t → wpAny (model prog w) A (pyNext ite) (fun got t1 => match got with
      | none => Rs (.ok .next) t1
      | some v => wpAny (model prog w) A (letOwnedTupleGo ta ite v) (fun _ t2 => wpAny (model prog w) A (assign ta en v) (fun _ t3 =>
          wpAny (model prog w) A (forIn ca true fun q go => if go = true then do let yes ← isTrue q en (eval q en); pure (ForInStep.yield yes) else pure (ForInStep.yield go)) (fun yes t4 =>
            if yes = true then wpAny (model prog w) A (eval sb en) (fun src t5 => wpAny (model prog w) A (pyIter src) (fun ite1 t6 =>
              codeAny (model prog w) A (.compStart (two2 el ta sa tb sb ca cb sc pos) 1 ite1 set_ en) (fun res t7 => match res with
                | .ok _ => ∃ j, j < k ∧ J j t7
                | .error _ => False) t6) (notedBy (model prog w) A en fun er t7 => Rs (.error er) t7) t5) (notedBy (model prog w) A en fun er t7 => Rs (.error er) t7) t4
            else ∃ j, j < k ∧ J j t4) (notedBy (model prog w) A en fun er t7 => Rs (.error er) t7) t3) (notedBy (model prog w) A en fun er t7 => Rs (.error er) t7) t2) (notedBy (model prog w) A en fun er t7 => Rs (.error er) t7) t1) (notedBy (model prog w) A en fun er t7 => Rs (.error er) t7) t)
    (k : Nat) (at_ : J k s0) : codeAny (model prog w) A (.compLoop (two2 el ta sa tb sb ca cb sc pos) 0 ite set_ en) Rs s0 := by
  refine codeAny_loop rfl J (fun k t hk => ?_) k at_
  show wpAny _ A ((compTurn (two2 el ta sa tb sb ca cb sc pos) 0 ite set_ en).onRaise (fun z => do noteFrame z en; theTreesLotGoes z)) _ _ t
  refine wpAny_noted ?_
  rw [turnA]
  refine wpAny_bind (wpAny_standAt (wpAny_bind (wpAny_mono (each k t hk) (fun got t1 h1 => ?_) fun _ _ z => z)))
  cases got with
  | none => exact wpAny_pure h1
  | some v =>
    refine wpAny_bind (wpAny_mono h1 (fun _ t2 h2 => ?_) fun _ _ z => z)
    refine wpAny_bind (wpAny_mono h2 (fun _ t3 h3 => wpAny_bind (wpAny_mono h3 (fun yes t4 h4 => ?_) fun _ _ z => z)) fun _ _ z => z)
    cases yes with
    | false => exact wpAny_pure ⟨rfl, h4⟩
    | true =>
      refine wpAny_bind (wpAny_mono h4 (fun src t5 h5 => ?_) fun _ _ z => z)
      refine wpAny_bind (wpAny_standAt (wpAny_bind (wpAny_of_eq (plain src) (wpAny_bind (wpAny_holding (wpAny_mono h5 (fun ite1 t6 h6 => ?_) fun _ _ z => z))))))
      refine wpAny_bind (wpAny_runOwn ?_)
      rw [Around.mark_none]
      refine codeAny_mono h6 fun res t7 h7 => ?_
      cases res with
      | ok fl =>
        first
          | exact wpAny_pure ⟨rfl, h7⟩
          | exact wpAny_bind (wpAny_pure (wpAny_pure ⟨rfl, h7⟩))
      | error er => exact h7.elim
theorem loopB (J : Nat → Shared → Prop)
    (each : ∀ k t, J k t → wpAny (model prog w) A (pyNext ite) (fun got t1 => match got with
      | none => Rs (.ok .next) t1
      | some v => wpAny (model prog w) A (letOwnedTupleGo tb ite v) (fun _ t2 => wpAny (model prog w) A (assign tb en v) (fun _ t3 =>
          wpAny (model prog w) A (forIn cb true fun q go => if go = true then do let yes ← isTrue q en (eval q en); pure (ForInStep.yield yes) else pure (ForInStep.yield go)) (fun yes t4 =>
            if yes = true then wpAny (model prog w) A (eval el en) (fun z t5 =>
              wpAny (model prog w) A (call (.builtin "set.add") [set_, z]) (fun _ t6 => ∃ j, j < k ∧ J j t6) (notedBy (model prog w) A en fun er t7 => Rs (.error er) t7) t5) (notedBy (model prog w) A en fun er t7 => Rs (.error er) t7) t4
            else ∃ j, j < k ∧ J j t4) (notedBy (model prog w) A en fun er t7 => Rs (.error er) t7) t3) (notedBy (model prog w) A en fun er t7 => Rs (.error er) t7) t2) (notedBy (model prog w) A en fun er t7 => Rs (.error er) t7) t1) (notedBy (model prog w) A en fun er t7 => Rs (.error er) t7) t)
    (k : Nat) (at_ : J k s0) : codeAny (model prog w) A (.compLoop (two2 el ta sa tb sb ca cb sc pos) 1 ite set_ en) Rs s0 := by
  refine codeAny_loop rfl J (fun k t hk => ?_) k at_
  show wpAny _ A ((compTurn (two2 el ta sa tb sb ca cb sc pos) 1 ite set_ en).onRaise (fun z => do noteFrame z en; theTreesLotGoes z)) _ _ t
  refine wpAny_noted ?_
  rw [turnB]
  refine wpAny_bind (wpAny_standAt (wpAny_bind (wpAny_mono (each k t hk) (fun got t1 h1 => ?_) fun _ _ z => z)))
  cases got with
  | none => exact wpAny_pure h1
  | some v =>
    refine wpAny_bind (wpAny_mono h1 (fun _ t2 h2 => ?_) fun _ _ z => z)
    refine wpAny_bind (wpAny_mono h2 (fun _ t3 h3 => wpAny_bind (wpAny_mono h3 (fun yes t4 h4 => ?_) fun _ _ z => z)) fun _ _ z => z)
    cases yes with
    | false => exact wpAny_pure ⟨rfl, h4⟩
    | true =>
      exact wpAny_bind (wpAny_bind (wpAny_mono h4 (fun z t5 h5 => wpAny_bind (wpAny_standAt (wpAny_bind (wpAny_mono h5 (fun _ t6 h6 => wpAny_pure (wpAny_pure ⟨rfl, h6⟩)) fun _ _ z => z)))) fun _ _ z => z))
theorem startB (there : codeAny (model prog w) A (.compLoop (two2 el ta sa tb sb ca cb sc pos) 1 ite set_ en) Rs s0)
    (other : wpAny (model prog w) A (pyIter ite) (fun it2 t => codeAny (model prog w) A (.compLoop (two2 el ta sa tb sb ca cb sc pos) 1 it2 set_ en) Rs t) (notedBy (model prog w) A en fun er t => Rs (.error er) t) s0) :
    codeAny (model prog w) A (.compStart (two2 el ta sa tb sb ca cb sc pos) 1 ite set_ en) Rs s0 := by
  refine codeAny_of_tree ?_
  show wpAny _ _ ((compStart (two2 el ta sa tb sb ca cb sc pos) 1 ite set_ en).onRaise (fun z => do noteFrame z en; standAt theWindowsPlace)) _ _ s0
  refine wpAny_notedAt ?_
  unfold compStart
  show wpAny _ _ (ask >>= _) _ _ s0
  refine wpAny_bind (wpAny_askSetting (wpAny_ite ?_))
  split
  · first
      | exact wpAny_bind (wpAny_pure (wpAny_pure (And.intro rfl there)))
      | exact wpAny_pure (And.intro rfl there)
  · first
      | exact wpAny_bind (wpAny_rule (wpAny_bind (wpAny_standAt (wpAny_bind (wpAny_mono other (fun it2 t z => wpAny_pure (And.intro rfl z)) fun _ _ z => z)))))
      | (refine wpAny_bind (wpAny_rule ?_); show wpAny _ _ (standAt sb.pos >>= _) _ _ s0; exact wpAny_bind (wpAny_standAt (wpAny_bind (wpAny_mono other (fun it2 t z => wpAny_pure (And.intro rfl z)) fun _ _ z => z))))
end
/-- the reading: behind the first clause's store and tests the second source's own walk -/
def tSc2 (w : World) (wi : TI) (g : TG) (tt : TT) (wj : TI) (gj : TG) (tj : TT) (te : TE) (vs us : List Nat) : TE := fun σ H Q =>
  wi σ H fun J Ha => ∀ D, Ha D = none → ∃ Wk : Nat → Nat → Hp → Prop, (∃ m, Wk 0 m (upd Ha D (SetO w D (fun _ => false) 0))) ∧
    ∀ i m Hb, Wk i m Hb → (J.stop i Hb ∧ Q (.ref D) Hb) ∨
      (J.go i Hb ∧ ∃ Go : Hp → Prop, (∀ Hc, Go Hc → ∃ m', m' < m ∧ Wk (i + 1) m' Hc) ∧
        ∀ x Hc, J.yld i Hb x Hc → g x (wipe σ vs) Hc fun τ Hd => wipe τ vs = wipe σ vs ∧ tt τ Hd fun b He =>
          if b = true then wj τ He fun Jn Hf => ∃ Wn : Nat → Nat → Hp → Prop, (∃ k, Wn 0 k Hf) ∧ ∀ j k Hg, Wn j k Hg → (Jn.stop j Hg ∧ Go Hg) ∨
            (Jn.go j Hg ∧ ∃ Gn : Hp → Prop, (∀ Hh, Gn Hh → ∃ k', k' < k ∧ Wn (j + 1) k' Hh) ∧ ∀ y Hh, Jn.yld j Hg y Hh → gj y (wipe τ us) Hh fun υ Hi => wipe υ us = wipe τ us ∧ tj υ Hi fun b2 Hj =>
              if b2 = true then te υ Hj fun z Hk => ∃ (c : Int) (S : Int → Bool) (n : Nat), z = .int c ∧ Hk D = some (SetO w D S n) ∧ n + 1 < scanBound ∧
                Gn (upd Hk D (SetO w D (fun j => S j || decide (j = c)) (if S c = true then n else n + 1))) else Gn Hj)
          else Go He)
section
variable {X : Cx}
open PpSet in
theorem pe_sc2 {el ta sa tb sb : Expr} {ca cb : List Expr} {sc : Scope} {own : List (PySem.Str × Nat)} {us : List Nat} {pos : Pos} {wi wj : TI} {g gj : TG} {tt tj : TT} {te : TE} (calm : X.calm = true) (nd : X.N.Nodup)
    (walks : PI X ta sa wi) (blk : BlkOk X.N X.env.scope sc own) (sub : ∀ i ∈ us, i ∈ own.map (·.2))
    (gs : ∀ (s : Shared) (H : Hp) (C : Addr) (cl : List (PySem.Str × Addr)) (fp : List Addr), PG (X.blk s H sc (compEnvC sc cl C X.env) fp) ta g)
    (cs : ∀ (s : Shared) (H : Hp) (C : Addr) (cl : List (PySem.Str × Addr)) (fp : List Addr), PTs (X.blk s H sc (compEnvC sc cl C X.env) fp) ca tt)
    (walkj : ∀ (s : Shared) (H : Hp) (C : Addr) (cl : List (PySem.Str × Addr)) (fp : List Addr), PI (X.blk s H sc (compEnvC sc cl C X.env) fp) tb sb wj)
    (gsj : ∀ (s : Shared) (H : Hp) (C : Addr) (cl : List (PySem.Str × Addr)) (fp : List Addr), PG (X.blk s H sc (compEnvC sc cl C X.env) fp) tb gj)
    (csj : ∀ (s : Shared) (H : Hp) (C : Addr) (cl : List (PySem.Str × Addr)) (fp : List Addr), PTs (X.blk s H sc (compEnvC sc cl C X.env) fp) cb tj)
    (es : ∀ (s : Shared) (H : Hp) (C : Addr) (cl : List (PySem.Str × Addr)) (fp : List Addr), PE (X.blk s H sc (compEnvC sc cl C X.env) fp) el te)
    (src0 : ∀ x, foldedSetIterable sa X.env x = pure x := by intro _; rfl) (src1 : ∀ env x, foldedSetIterable sb env x = pure x := by intro _ _; rfl) :
    PE X (.SetComp el [⟨ta, sa, ca, 0⟩, ⟨tb, sb, cb, 0⟩] sc pos) (tSc2 X.w wi g tt wj gj tj te (own.map (·.2)) us) := by
  refine ⟨fun pins s0 σ Hz Q Iz reading => ?_⟩
  rw [eval_SetComp]
  have cells : ∀ y ∈ sc.names, y.2 = .free → ∃ c, X.env.cells.lookup y.1 = some c := fun y my ey =>
    (blk.free y my ey).elim (fun k => Iz.ok.has _ (.inl k)) (fun k => Iz.ok.has _ (.inr k))
  refine wpAny_comprehension_free (use := none) rfl src0 (closure_ok cells) blk.kind (fun y my ey => by rw [blk.uniq y my, ey]) (thn (walks.run pins s0 σ Hz _ Iz reading) fun _ sa' gotIter => thn gotIter fun _ sb' got => ?_)
  obtain ⟨it, fp, tn, J, Ha, rfl, Ia, T, sta, freeA, q⟩ := got
  refine newSet_ok (newEnv_comp ?_)
  generalize place : sb'.heap.objs.size = D
  have none0 : Ha D = none := Ia.hok.fresh (Nat.le_of_eq place)
  obtain ⟨Wk, ⟨m0, w0⟩, turn⟩ := q D none0
  have sized : ∀ b ∈ fp, b < sb'.heap.objs.size := fun b mb => let ⟨_, e, _⟩ := T.obj _ _ sta b mb; Heap.lt_size e
  generalize pushed : ({ sb' with heap := sb'.heap.push { cls := .type "set", dict := none, data := .set #[] 0 (.fresh 0 0 (!X.w.params.followText "set-order")) } } : Shared) = sd
  have heapd : sd.heap = sb'.heap.push { cls := .type "set", dict := none, data := .set #[] 0 (.fresh 0 0 (!X.w.params.followText "set-order")) } := by rw [← pushed]
  have Id : Inv X pins σ (upd Ha D (SetO X.w D (fun _ => false) 0)) sd := by
    rw [← pushed, ← place]
    exact Ia.laid (t' := sb'.toks) (fun b o e => Heap.get?_push_of_some _ e) (Nat.le_refl _) (setO_new (setR_fresh X.w))
  have freeD : ∀ b ∈ fp, FpOk X pins (upd Ha D (SetO X.w D (fun _ => false) 0)) b ∧ b < sd.heap.objs.size := fun b mb => by
    have lt := sized b mb
    refine ⟨⟨by rw [upd_ne (by rw [← place]; exact Nat.ne_of_lt lt)]; exact (freeA b mb).1, (freeA b mb).2⟩, ?_⟩
    rw [heapd, Heap.size_push]
    exact Nat.lt_succ_of_lt lt
  have std : tn 0 sd.heap := T.keep _ _ _ sta fun b _ o e => by rw [heapd]; exact Heap.get?_push_of_some _ e
  have Ie := block_start Id blk nd freeD
  have pg := gs sd (upd Ha D (SetO X.w D (fun _ => false) 0)) sd.heap.objs.size (cellsFrom (sd.heap.objs.size + 1) sc.names (cloFrom X.env.cells sc.names [])) fp
  have pt := cs sd (upd Ha D (SetO X.w D (fun _ => false) 0)) sd.heap.objs.size (cellsFrom (sd.heap.objs.size + 1) sc.names (cloFrom X.env.cells sc.names [])) fp
  have pe := es sd (upd Ha D (SetO X.w D (fun _ => false) 0)) sd.heap.objs.size (cellsFrom (sd.heap.objs.size + 1) sc.names (cloFrom X.env.cells sc.names [])) fp
  have pwj := walkj sd (upd Ha D (SetO X.w D (fun _ => false) 0)) sd.heap.objs.size (cellsFrom (sd.heap.objs.size + 1) sc.names (cloFrom X.env.cells sc.names [])) fp
  have pgj := gsj sd (upd Ha D (SetO X.w D (fun _ => false) 0)) sd.heap.objs.size (cellsFrom (sd.heap.objs.size + 1) sc.names (cloFrom X.env.cells sc.names [])) fp
  have ptj := csj sd (upd Ha D (SetO X.w D (fun _ => false) 0)) sd.heap.objs.size (cellsFrom (sd.heap.objs.size + 1) sc.names (cloFrom X.env.cells sc.names [])) fp
  show codeAny _ _ (.compStart (two2 el ta sa tb sb ca cb sc pos) 0 (.ref it) (.ref D) (compEnvC sc (cellsFrom (sd.heap.objs.size + 1) sc.names (cloFrom X.env.cells sc.names [])) sd.heap.objs.size X.env)) (compPost (model X.prog X.w) X.A X.xe none (EP X pins σ Q) (.ref D) sd.heap.objs.size) { sd with heap := pushCells (sd.heap.push { cls := .type "dict", data := .dict #[] }) sc.names }
  have apart : ∀ b ∈ fp, (upd Ha D (SetO X.w D (fun _ => false) 0)) b = none := fun b mb => (freeD b mb).1.1
  generalize envIs : compEnvC sc (cellsFrom (sd.heap.objs.size + 1) sc.names (cloFrom X.env.cells sc.names [])) sd.heap.objs.size X.env = ce at Ie pg pt pe pwj pgj ptj ⊢
  have local_ : ce.locals = sd.heap.objs.size := by rw [← envIs]; rfl
  generalize upd Ha D (SetO X.w D (fun _ => false) 0) = Hd at Id Ie pg pt pe pwj pgj ptj w0 apart freeD
  generalize blockIs : ({ sd with heap := pushCells (sd.heap.push { cls := .type "dict", data := .dict #[] }) sc.names } : Shared) = se at Ie ⊢
  have ste : tn 0 se.heap := T.keep _ _ _ std fun b _ o e => by rw [← blockIs]; exact pushCells_keeps _ _ _ _ (Heap.get?_push_of_some _ e)
  have still : ∀ {τ : L2.St} {H' : Hp} {s' : Shared}, Inv (X.blk sd Hd sc ce fp) [] τ H' s' → (∀ b ∈ fp, H' b = none) → ∀ b ∈ fp, FpOk (X.blk sd Hd sc ce fp) [] H' b := fun {τ H' s'} I' free b mb =>
    ⟨free b mb, (I'.ok.exf b mb).1, I'.ok.exfs b mb, .inl mb, fun _ c e => (I'.ok.exf b mb).2 _ c e, fun p mp => absurd (show p ∈ ([] : List (Addr × Obj)) ++ [] from mp) (by simp)⟩
  have loop : codeAny (model X.prog X.w) X.A (.compLoop (two2 el ta sa tb sb ca cb sc pos) 0 (.ref it) (.ref D) ce) (compPost (model X.prog X.w) X.A X.xe none (EP X pins σ Q) (.ref D) sd.heap.objs.size) se := by
    refine loopA (src1 ce) (fun k s' => ∃ i H', Inv (X.blk sd Hd sc ce fp) [] (wipe σ (own.map (·.2))) H' s' ∧ tn i s'.heap ∧ (∀ b ∈ fp, H' b = none) ∧ Wk i k H') ?_ m0 ⟨0, Hd, Ie, ste, apart, w0⟩
    rintro k sf ⟨i, Hf, If, stf, freeF, wf⟩
    rcases turn i k Hf wf with ⟨ends, res⟩ | ⟨goes, Go, less, each⟩
    · refine thnF (T.done (X.blk sd Hd sc ce fp) rfl rfl rfl calm i [] sf _ Hf (fun _ _ => False) If (still If freeF) stf ends) fun r sg hh => ?_
      obtain ⟨rfl, Ig⟩ := hh
      have back : Inv X pins σ Hf sg := Id.call' (ch := fp) Ig.os Ig.base Ig.hok Ig.bare fun b mb => ⟨(freeD b mb).1.2.2.2.1, (freeD b mb).1.2.1, (freeD b mb).1.2.2.2.2.1, (freeD b mb).1.2.2.2.2.2⟩
      have gone : Hf sd.heap.objs.size = none := by rw [← local_]; exact Ig.free
      obtain ⟨m, ns, _⟩ := Ig.loc
      have ns : sg.heap.Ns ce.locals m := ns
      rw [local_] at ns
      obtain ⟨p0, p1, p2, p3, p4, p5⟩ := Id.fpOk (Nat.le_refl _) gone
      exact ⟨m, ns, fun h'' same => ⟨.ref D, Hf, back.turned (t' := sg.toks) (fun b o ne e => (same.2 b ne).trans e) p0 p1 p3 p4 p5, rfl, res⟩⟩
    · refine thnF (T.item (X.blk sd Hd sc ce fp) rfl rfl rfl calm i [] sf _ Hf (fun _ _ => False) If (still If freeF) stf goes) fun r sg hh => ?_
      obtain ⟨u, rfl, owned⟩ := hh
      refine thnF owned fun _ sh hh => ?_
      obtain ⟨x, Hh, Ih, rx, yl, sth, freeH⟩ := hh
      have Ip := Ih.pinned (still Ih freeH) (T.obj _ _ sth)
      refine thnF (pg.run _ sh _ Hh x u _ Ip rx (each x Hh yl)) fun _ si hh => ?_
      obtain ⟨τ, Hi, Ii, wiped, rest⟩ := hh
      refine thnF (pt.run _ si τ Hi _ Ii rest) fun b sj hh => ?_
      obtain ⟨Hj, Ij, rest⟩ := hh
      have next : ∀ {υ : L2.St} {s' : Shared} {H' : Hp}, Inv (X.blk sd Hd sc ce fp) ([] ++ pinsAt fp sh.heap) υ H' s' → (wipe σ (own.map (·.2))).length = υ.length → (∀ (j : Nat) v, (wipe σ (own.map (·.2)))[j]? = some (some v) → υ[j]? = some (some v)) → Go H' → ∃ m, m < k ∧ ∃ i H', Inv (X.blk sd Hd sc ce fp) [] (wipe σ (own.map (·.2))) H' s' ∧ tn i s'.heap ∧ (∀ b ∈ fp, H' b = none) ∧ Wk i m H' := fun {υ s' H'} I' le le2 go' => by
        obtain ⟨m', lt, w'⟩ := less H' go'
        have pinned : ∀ b ∈ fp, ∀ o, sh.heap.get? b = some o → s'.heap.get? b = some o ∧ H' b = none := fun b mb o e =>
          have z := I'.pin (b, o) (List.mem_append_right _ (List.mem_append_right _ (mem_pinsAt mb e)))
          ⟨z.1, z.2.1⟩
        refine ⟨m', lt, i + 1, H', (I'.unpinned (pins := [])).weak le le2, T.keep _ _ _ sth fun b mb o e => (pinned b mb o e).1, fun b mb => ?_, w'⟩
        obtain ⟨o, e, _⟩ := T.obj _ _ sth b mb
        exact (pinned b mb o e).2
      have lenτ : (wipe σ (own.map (·.2))).length = τ.length := by rw [← wiped, wipe_length]
      have hasτ : ∀ (j : Nat) v, (wipe σ (own.map (·.2)))[j]? = some (some v) → τ[j]? = some (some v) := fun j v e => by
        rw [← wiped] at e
        exact (wipe_some e).1
      have hasυ : ∀ (j : Nat) v, (wipe σ (own.map (·.2)))[j]? = some (some v) → (wipe τ us)[j]? = some (some v) := fun j v e => by
        rw [← wiped] at e
        obtain ⟨e1, e2⟩ := wipe_some e
        rw [wipe_out fun z => e2 (sub j z)]
        exact e1
      cases b with
      | false =>
        simp only [Bool.false_eq_true, if_false] at rest ⊢
        exact next Ij lenτ hasτ rest
      | true =>
        simp only [if_true] at rest ⊢
        refine thnF (pwj.run _ sj τ Hj _ Ij rest) fun _ sk hh => thnF hh fun _ sl hh => ?_
        obtain ⟨itn, fpn, tnn, Jn, Hl, rfl, Il, Tn, stl, freeL, Wn, ⟨k1, wn⟩, turnn⟩ := hh
        have still1 : ∀ {H' : Hp}, (∀ b ∈ fpn, H' b = none) → ∀ b ∈ fpn, FpOk (X.blk sd Hd sc ce fp) ([] ++ pinsAt fp sh.heap) H' b := fun free b mb => ⟨free b mb, (freeL b mb).2⟩
        have inner : codeAny (model X.prog X.w) X.A (.compLoop (two2 el ta sa tb sb ca cb sc pos) 1 (.ref itn) (.ref D) ce) (fun res t => match res with
            | .ok _ => ∃ m, m < k ∧ ∃ i H', Inv (X.blk sd Hd sc ce fp) [] (wipe σ (own.map (·.2))) H' t ∧ tn i t.heap ∧ (∀ b ∈ fp, H' b = none) ∧ Wk i m H'
            | .error _ => False) sl := by
          refine loopB (fun kk t => ∃ j H', Inv (X.blk sd Hd sc ce fp) ([] ++ pinsAt fp sh.heap) (wipe τ us) H' t ∧ tnn j t.heap ∧ (∀ b ∈ fpn, H' b = none) ∧ Wn j kk H') ?_ k1 ⟨0, Hl, Il.weak (wipe_length _ _) (fun j v e => (wipe_some e).1), stl, fun b mb => (freeL b mb).1, wn⟩
          rintro kk sm ⟨j, Hm, Im, stm, freeM, wm⟩
          rcases turnn j kk Hm wm with ⟨stop1, go1⟩ | ⟨goes1, Gn, less1, each1⟩
          · refine thnF (Tn.done (X.blk sd Hd sc ce fp) rfl rfl rfl calm j _ sm (wipe τ us) Hm (fun _ _ => False) Im (still1 freeM) stm stop1) fun r sn hh => ?_
            obtain ⟨rfl, In⟩ := hh
            exact next In (lenτ.trans (wipe_length τ us).symm) hasυ go1
          · refine thnF (Tn.item (X.blk sd Hd sc ce fp) rfl rfl rfl calm j _ sm (wipe τ us) Hm (fun _ _ => False) Im (still1 freeM) stm goes1) fun r sn hh => ?_
            obtain ⟨u1, rfl, owned1⟩ := hh
            refine thnF owned1 fun _ so hh => ?_
            obtain ⟨y, Ho, Io, ry, yl1, sto, freeO⟩ := hh
            have Iq := Io.pinned (still1 freeO) (Tn.obj _ _ sto)
            refine thnF (pgj.run _ so (wipe τ us) Ho y u1 _ Iq ry (each1 y Ho yl1)) fun _ sp hh => ?_
            obtain ⟨υ, Hp_, Ip_, wiped1, rest1⟩ := hh
            refine thnF (ptj.run _ sp υ Hp_ _ Ip_ rest1) fun b1 sq hh => ?_
            obtain ⟨Hq, Iq2, rest1⟩ := hh
            have next1 : ∀ {s' : Shared} {H' : Hp}, Inv (X.blk sd Hd sc ce fp) (([] ++ pinsAt fp sh.heap) ++ pinsAt fpn so.heap) υ H' s' → Gn H' → ∃ m, m < kk ∧ ∃ j H', Inv (X.blk sd Hd sc ce fp) ([] ++ pinsAt fp sh.heap) (wipe τ us) H' s' ∧ tnn j s'.heap ∧ (∀ b ∈ fpn, H' b = none) ∧ Wn j m H' := fun {s' H'} I' go' => by
              obtain ⟨m', lt, w'⟩ := less1 H' go'
              have pinned : ∀ b ∈ fpn, ∀ o, so.heap.get? b = some o → s'.heap.get? b = some o ∧ H' b = none := fun b mb o e =>
                have z := I'.pin (b, o) (List.mem_append_right _ (List.mem_append_right _ (mem_pinsAt mb e)))
                ⟨z.1, z.2.1⟩
              refine ⟨m', lt, j + 1, H', I'.unpinned.weak (by rw [← wiped1, wipe_length]) (fun j v e => by rw [← wiped1] at e; exact (wipe_some e).1), Tn.keep _ _ _ sto fun b mb o e => (pinned b mb o e).1, fun b mb => ?_, w'⟩
              obtain ⟨o, e, _⟩ := Tn.obj _ _ sto b mb
              exact (pinned b mb o e).2
            cases b1 with
            | false =>
              simp only [Bool.false_eq_true, if_false] at rest1 ⊢
              exact next1 Iq2 rest1
            | true =>
              simp only [if_true] at rest1 ⊢
              refine thnF (pe.run _ sq υ Hq _ Iq2 rest1) fun zv sr hh => ?_
              obtain ⟨yv, Hr, Ir, rz, c, S, n, rfl, hasD, room, go'⟩ := hh
              obtain ⟨tk, rfl⟩ := (show ∃ t, zv = Value.int c t from rz)
              exact addI_ok (X := X.blk sd Hd sc ce fp) Ir hasD room fun s' I' => next1 I' go'
        exact startB inner (Tn.self X.A 0 _ _ _ stl inner)
  exact codeAny_compStart_set loop (T.self X.A 0 _ _ _ ste loop)
end

/-! ### sorted(s), s a set of ints, any number of them -/
theorem sorted_setI {P : Program} {w : World} {A : Around} {s : Shared} {a : Addr} {E : Value → Shared → Prop} {S : Int → Bool} {n : Nat} {Q : Value → Shared → Prop} (R : SetR w s.heap a S n) (hh : A.handled = none) (hn0 : n ≤ 4090)
    (hQ : ∀ s' p (out : Array Value) (c : Nat) (ns : List Int), (∀ b o, s.heap.get? b = some o → s'.heap.get? b = some o) → s'.gens = s.gens → s'.os = s.os → s.heap.objs.size ≤ p →
      s'.heap.get? p = some (seqObj "list" out c) → IntsAre out.toList ns → ns.Pairwise (· < ·) → (∀ k, k ∈ ns ↔ S k = true) → ns.length = n → Q (.ref p) s') :
    wpAny (model P w) A (call (.builtin "sorted") [.ref a]) Q E s := by
  obtain ⟨o, es, ep, t, ho, hex, hd, g, nd, hm, hb, hf, hn, hr, hl⟩ := R
  refine Calls.call_function_entry kind_sorted plain_sorted entry_sorted (args_sorted1 _) ?_
  unfold Builtin.«sorted»
  refine wpAny_bind (m := checkCount "sorted" 1 1 _) (wpAny_pure ?_)
  refine wpAny_bind (collect_set (A := A.in1) hh ⟨o, ho, hex.1, hd⟩ hf hb hr hl fun s1 vs k1 hz g1 o1 pm => ?_)
  have hvl : vs.length = n := by rw [pm.length_eq, List.length_map, Array.length_toList]; exact hn
  have hI : IntsAre vs (vs.map Builtin.Re.reRawOf) := ints_of vs fun v hv => by
    obtain ⟨e, he, q⟩ := List.mem_map.mp (pm.mem_iff.mp hv)
    obtain ⟨k, tk, h1, _⟩ := g e he
    exact ⟨k, tk, by rw [← q]; exact h1⟩
  have pk : (vs.map Builtin.Re.reRawOf).Perm (es.toList.map keyOf) := by
    have q := pm.map Builtin.Re.reRawOf
    rw [List.map_map] at q
    exact q
  have hsl : vs.length ≤ sizeLine := by rw [hvl, sizeLine_eq]; omega
  refine wpAny_bind (wpAny_newList ?_ hsl)
  have hoL : (s1.heap.push (seqObj "list" vs.toArray 0)).get? s1.heap.objs.size = some (seqObj "list" vs.toArray 0) := Heap.get?_push_size _ rfl
  refine wpAny_bind (wpAny_holding (wpAny_call_entry slot_list_sort ⟨_, hoL, rfl⟩ entry_list_sort (SrtO.list_sort_ord SrtO.swo_int hoL hsl (fun h2 => SrtO.ints_sortable hI h2) fun out a1 a2 => ⟨_, rfl, ?_⟩) (args_list_sort _)))
  obtain ⟨b1, b2, b3⟩ := SrtO.ints_out hI a1 a2
  obtain ⟨c, hc⟩ := sortedHeap_at (vs := vs) (out := out.toArray) hoL
  have pn : (out.map SrtO.iv).Perm (es.toList.map keyOf) := b2.trans pk
  refine wpAny_pure ⟨_, rfl, hQ _ s1.heap.objs.size out.toArray c (out.map SrtO.iv) (fun b u e => ?_) g1 o1 hz hc b1 (lt_of_le_nodup _ b3 (pn.nodup_iff.mpr nd)) (fun k => by rw [pn.mem_iff, ← hm k]) ?_⟩
  · have q := k1 b u e
    have hlt := Heap.lt_size q
    show (sortedHeap (s1.heap.push (seqObj "list" vs.toArray 0)) s1.heap.objs.size vs out.toArray).get? b = some u
    rw [sortedHeap_old (Nat.ne_of_lt hlt) (by rw [size_push']; exact Nat.lt_succ_of_lt hlt)]
    exact Heap.get?_push_of_some _ q
  · rw [pn.length_eq, List.length_map, Array.length_toList]; exact hn
def rSortedSetI (w : World) : List V → Hp → VK → Prop := fun vs H Q => ∃ (a : Addr) (S : Int → Bool) (n : Nat), vs = [V.ref a] ∧ H a = some (SetO w a S n) ∧ n ≤ 4090 ∧
  ∀ (ns : List Int) (p : Addr), ns.Pairwise (· < ·) → (∀ k : Int, k ∈ ns ↔ S k = true) → ns.length = n → H p = none → Q (.ref p) (upd H p (.lst (ns.map V.int)))
theorem cr_sortedSetI {X : Cx} (hc : X.calm = true) : CallR X (.builtin "sorted") (rSortedSetI X.w) := by
  intro pins s σ H vs us Q I r h
  obtain ⟨a, S, n, rfl, ha, h64, q⟩ := h
  have R := setO_get I ha
  rw [Vals.ref1 r]
  refine sorted_setI R (I.ok.hd hc) h64 fun s' p out c ns k g o hp hg hi hs hm hl => ?_
  have hlen : (ns.map V.int).length ≤ sizeLine := by rw [List.length_map, hl, sizeLine_eq]; omega
  have hn : H p = none := I.hok.fresh hp
  have J : Inv X pins σ (upd H p (.lst (ns.map V.int))) { s with heap := s'.heap, gens := s'.gens, drawn := s'.drawn, toks := s'.toks } :=
    I.call (ch := []) (Un.laid k hp hn) (I.hok.laid k hp ⟨hlen, out.toList, c, vals_of_ints hi, hg⟩) (by rw [g]; exact I.bare) (fun _ z => nomatch z)
  have e : s' = { s with heap := s'.heap, gens := s'.gens, drawn := s'.drawn, toks := s'.toks } := by
    cases s'
    cases s
    cases o
    rfl
  rw [e]
  exact ⟨.ref p, _, J, rfl, q ns p hs hm hl hn⟩

/-! ### a def called by its positional promise -/
section
variable {X : Cx} {CX : CXT} {k : Nat} {f : Addr} {sp : Sp} {E : XK} {x : Str} {e : Expr} {es : List Expr} {t : TA} {p pos : Pos}
theorem pe_callR (F : FnR X.prog X.w X.K X.mg X.base CX k f sp) (hr : Room k X.A) (hg : Gl X x) (hm : X.mg x = some (.ref f)) (hk : PySem.W.keepIn X.K (.ref f) = true) (hx : Passes CX X E)
    (ha : PA X (e :: es) t) (hdb : (x == ("__debug__" : Str)) = false := by decide) (he : starEach (e :: es) X.env = (false, eval e X.env) :: starEach es X.env := by rfl) (hpl : (backTo pos (starEach es X.env)).any (·.1) = false := by rfl) :
    PE X (.Call (.Name x p) (e :: es) [] pos) (fun σ H Q => t σ H fun vs H1 => sp vs H1 Q E) := by
  refine ⟨fun pins s σ H Q I h => ?_⟩
  refine wpAny_Call_Name_kw (ld_glob I hg hm ?_ hdb)
  refine PySem.W.callWith_K (h₀ := X.base) I.ok.mod.kin hk (thn (ha.run pos pins s σ H _ I h) fun us s1 ⟨vs, H1, I1, r, q⟩ => ⟨I1.kIn, ?_⟩) he hpl
  exact wpAny_call (run_fnR F hr hx I1 r q)
end
/-- .. under a name of its module -/
structure AtR (P : Program) (w : World) (K : PySem.W.Frag) (mg : Str → Option Value) (base : Heap) (k : Nat) (x : Str) (sp : Sp) (f : Addr) : Prop where
  ok : FnR P w K mg base CX0 k f sp
  at_ : mg x = some (.ref f)
  kp : PySem.W.keepIn K (.ref f) = true
/-! ### the walk of a tuple or a list, told by a word of its turns -/
theorem wk_tup {K : PySem.W.Frag} {a : Addr} {xs : List V} {H0 : Hp} {Qd : Hp → Prop} {F : V → Hp → (Hp → Prop) → Prop} (Pv : Nat → Hp → Prop) (h0 : Pv 0 H0) (stays : ∀ i H, i ≤ xs.length → Pv i H → SqT K H a xs)
    (each : ∀ i x H, xs[i]? = some x → Pv i H → F x H (Pv (i + 1))) (fin : ∀ H, Pv xs.length H → Qd H) :
    ∃ Wk : Nat → Nat → Hp → Prop, (∃ m, Wk 0 m H0) ∧ ∀ i m Hb, Wk i m Hb → ((Itt K a).stop i Hb ∧ Qd Hb) ∨
      ((Itt K a).go i Hb ∧ ∃ Go : Hp → Prop, (∀ Hc, Go Hc → ∃ m', m' < m ∧ Wk (i + 1) m' Hc) ∧ ∀ x Hc, (Itt K a).yld i Hb x Hc → F x Hc Go) := by
  refine ⟨fun i m H => m = xs.length - i ∧ i ≤ xs.length ∧ Pv i H, ⟨xs.length, by simp, Nat.zero_le _, h0⟩, ?_⟩
  rintro i m H ⟨rfl, hi, pv⟩
  have sq := stays i H hi pv
  by_cases lt : i < xs.length
  · exact .inr ⟨⟨xs, xs[i], sq, by simp [lt]⟩, Pv (i + 1), fun Hc p' => ⟨xs.length - (i + 1), by omega, rfl, lt, p'⟩, fun x Hc yl => by
      obtain ⟨rfl, yl⟩ := yl
      exact each i x _ (yl xs sq) pv⟩
  · obtain rfl : i = xs.length := by omega
    exact .inl ⟨⟨xs, sq, Nat.le_refl _⟩, fin H pv⟩
theorem wk_lst {K : PySem.W.Frag} {a : Addr} {xs : List V} {H0 : Hp} {Qd : Hp → Prop} {F : V → Hp → (Hp → Prop) → Prop} (Pv : Nat → Hp → Prop) (h0 : Pv 0 H0) (stays : ∀ i H, i ≤ xs.length → Pv i H → SqL K H a xs)
    (each : ∀ i x H, xs[i]? = some x → Pv i H → F x H (Pv (i + 1))) (fin : ∀ H, Pv xs.length H → Qd H) :
    ∃ Wk : Nat → Nat → Hp → Prop, (∃ m, Wk 0 m H0) ∧ ∀ i m Hb, Wk i m Hb → ((Itl K a).stop i Hb ∧ Qd Hb) ∨
      ((Itl K a).go i Hb ∧ ∃ Go : Hp → Prop, (∀ Hc, Go Hc → ∃ m', m' < m ∧ Wk (i + 1) m' Hc) ∧ ∀ x Hc, (Itl K a).yld i Hb x Hc → F x Hc Go) := by
  refine ⟨fun i m H => m = xs.length - i ∧ i ≤ xs.length ∧ Pv i H, ⟨xs.length, by simp, Nat.zero_le _, h0⟩, ?_⟩
  rintro i m H ⟨rfl, hi, pv⟩
  have sq := stays i H hi pv
  by_cases lt : i < xs.length
  · exact .inr ⟨⟨xs, xs[i], sq, by simp [lt]⟩, Pv (i + 1), fun Hc p' => ⟨xs.length - (i + 1), by omega, rfl, lt, p'⟩, fun x Hc yl => by
      obtain ⟨rfl, yl⟩ := yl
      exact each i x _ (yl xs sq) pv⟩
  · obtain rfl : i = xs.length := by omega
    exact .inl ⟨⟨xs, sq, Nat.le_refl _⟩, fin H pv⟩
/-! ### the moments that at least one of some things changes -/
structure Blt5 (mg : Str → Option Value) : Prop where
  sorted : mg "sorted" = none
theorem Tups.append {H : Hp} : ∀ {ts us : List Addr} {ms ns : List (Int × Int)}, Tups H ts ms → Tups H us ns → Tups H (ts ++ us) (ms ++ ns)
  | [], _, [], _, _, h => h
  | _ :: _, _, _ :: _, _, g, h => ⟨g.1, Tups.append g.2 h⟩
/-- things with changes, told by Th -/
def spChOf (Th : Hp → Addr → List (Int × Int) → Prop) : Sp := fun vs H Q _ => ∃ (x : Addr) (ms : List (Int × Int)), vs = [.ref x] ∧ Th H x ms ∧
  ∀ (H' : Hp) (q : Addr) (ts : List Addr), Same H H' → H q = none → H' q = some (.lst (ts.map V.ref)) → Tups H' ts ms → Q (.ref q) H'
structure ThOk (C : Addr) (Th : Hp → Addr → List (Int × Int) → Prop) : Prop where
  same : ∀ {H H' x ms}, Th H x ms → Same H H' → Th H' x ms
  ob : ∀ {H x ms}, Th H x ms → ∃ dx fs, H x = some (.ins C dx fs)
abbrev allOf (as : List (Addr × List (Int × Int))) : List (Int × Int) := as.flatMap (·.2)
def spMoms0 (Th : Hp → Addr → List (Int × Int) → Prop) : Sp := fun vs H Q _ => ∃ (p : Addr) (as : List (Addr × List (Int × Int))), vs = [.ref p] ∧ H p = some (.tup (as.map fun z => V.ref z.1)) ∧ (∀ z ∈ as, Th H z.1 z.2) ∧ (allOf as).length ≤ 2000 ∧
  ∀ (H' : Hp) (q : Addr) (ks : List Int), Same H H' → H q = none → ks.Pairwise (· < ·) → (∀ k, k ∈ ks ↔ k ∈ (allOf as).map (·.1)) → ks.length ≤ (allOf as).length → H' q = some (.lst (ks.map V.int)) → Q (.ref q) H'
def spMoms (Th : Hp → Addr → List (Int × Int) → Prop) : Sp := fun vs H Q _ => ∃ as : List (Addr × List (Int × Int)), vs = as.map (fun z => V.ref z.1) ∧ as.length ≤ 900 ∧ (∀ z ∈ as, Th H z.1 z.2) ∧ (allOf as).length ≤ 2000 ∧
  ∀ (H' : Hp) (q : Addr) (ks : List Int), Same H H' → H q = none → ks.Pairwise (· < ·) → (∀ k, k ∈ ks ↔ k ∈ (allOf as).map (·.1)) → ks.length ≤ (allOf as).length → H' q = some (.lst (ks.map V.int)) → Q (.ref q) H'
section
variable {P : Program} {w : World} {K : PySem.W.Frag} {mg : Str → Option Value} {base : Heap}
theorem scChanged : FnScope ["things", "thing", "moment", "_"] ((([] : List Str)) ++ [("things" : Str)]) (defScope sChanged) := ⟨rfl, rfl, rfl, by decide +kernel, rfl, by decide +kernel, by decide +kernel⟩
theorem allOf_succ {as : List (Addr × List (Int × Int))} {i : Nat} {z : Addr × List (Int × Int)} (h : as[i]? = some z) : allOf (as.take (i + 1)) = allOf (as.take i) ++ z.2 := by
  rw [List.take_add_one, h, allOf, List.flatMap_append]
  simp
theorem allOf_le {as : List (Addr × List (Int × Int))} {i : Nat} : (allOf (as.take i)).length ≤ (allOf as).length := by
  have e : allOf as = allOf (as.take i) ++ allOf (as.drop i) := by rw [allOf, allOf, allOf, ← List.flatMap_append, List.take_append_drop]
  rw [e, List.length_append]
  omega
theorem ok_moms {f C p3 g3 : Addr} {fd d3 : FuncData} {Th : Hp → Addr → List (Int × Int) → Prop} (F : Fun K "changed_moments" "changed_moments" sChanged f fd) (zc : Cls K C) (th : ThOk C Th) (T5 : Blt5 mg) (W3 : Pp P w K mg base C "changes" (spChOf Th) p3 g3 d3) : FnR P w K mg base CX0 3 f (spMoms Th) := by
  obtain ⟨oc, od, kV, doc, pm, an, cdv, ct, osl, rfl, lk, hcd⟩ := F.ex
  refine FnR.imp (StX.fn_star (ps := []) (sp := spMoms0 Th) lk hcd scChanged (fun _ _ _ _ _ _ _ _ _ _ _ z => z) (fun us rest hl => ?_) fun A outer s H vs Q E hr h => ?_) (fun vs H Q E h => ?_)
  · match us, hl with
    | [], _ => match rest with
      | [] => rfl
      | _ :: _ => rfl
  · obtain ⟨p, as, rfl, hp, tas, le, k⟩ := h
    suffices hh : ∃ t, PSs (cxOf CX0 P w K mg base ["things", "thing", "moment", "_"] "changed_moments" (defScope sChanged) f cdv A outer s H E).nox (defBody sChanged) t ∧ t { nx := fun _ H' => Q .non H', rt := Q } (start ["things", "thing", "moment", "_"] [V.ref p]) H by
      obtain ⟨t, h1, h2⟩ := hh
      exact ⟨t, h1.nox, h2⟩
    refine ⟨_, pss_one (ps_ret (pe_callB (cr_sortedSetI rfl) (by rfl) T5.sorted (by decide +kernel) (pa_cons (pe_sc2 (own := [("thing", 1), ("moment", 2), ("_", 3)]) (us := [2, 3]) (g := gName 1) (gj := gTup K 2 (gCons (gName 2) (gCons (gName 3) gNil))) (tt := tYes) (tj := tYes) (te := tVar 2) (wj := iList K (tProp C (spChOf Th) [] E0 (tVar 1))) rfl scChanged.nd
        (pi_tup (pv 0))
        (blkOk_by (N := ["things", "thing", "moment", "_"]) (sc := defScope sChanged) (by decide +kernel)) (by decide)
        (fun _ _ _ _ _ => pg_name (i := 1) scChanged.nd rfl (.inl rfl)) (fun _ _ _ _ _ => pts_nil)
        (fun _ _ _ _ _ => pi_list (pe_prop (pv 1) zc W3.of W3.ok (hr.mono (by decide)) W3.bi .nil pass0 rfl))
        (fun _ _ _ _ _ => pg_tup rfl (pgs_cons (pg_name (i := 2) scChanged.nd rfl (.inl rfl)) (pgs_cons (pg_name (i := 3) scChanged.nd rfl (.inl rfl)) pgs_nil))) (fun _ _ _ _ _ => pts_nil)
        (fun _ _ _ _ _ => pv 2)) pa_nil))), ?_⟩
    refine ⟨_, rfl, p, rfl, ⟨_, SqT.of hp⟩, fun D hD => wk_tup (K := K) (a := p) (xs := as.map fun z => V.ref z.1) (fun i J => ∃ (S : Int → Bool) (n : Nat), J D = some (SetO w D S n) ∧ (∀ k, S k = true ↔ k ∈ (allOf (as.take i)).map (·.1)) ∧ n ≤ (allOf (as.take i)).length ∧ Same H J)
      ⟨_, 0, upd_same, fun k => by simp, Nat.zero_le _, same_new hD⟩ (fun i J _ ⟨_, _, _, _, _, h⟩ => SqT.of (h _ _ hp)) ?_ ?_⟩
    · rintro i y J hi ⟨S, n, hJ, hS, hn, sJ⟩
      rw [List.getElem?_map] at hi
      cases hz : as[i]? with
      | none => rw [hz] at hi; cases hi
      | some z =>
      rw [hz] at hi
      obtain rfl := Option.some.inj hi
      have tz := th.same (tas z (List.mem_of_getElem? hz)) sJ
      obtain ⟨dx, fs, hx⟩ := th.ob tz
      have es := allOf_succ hz
      have le1 := allOf_le (as := as) (i := i + 1)
      rw [es, List.length_append] at le1
      refine ⟨rfl, _, rfl, z.1, dx, fs, rfl, hx, ⟨z.1, z.2, rfl, tz, fun H1 q1 ts s1 nq1 h1 tp => ?_⟩⟩
      have tl := tp.len
      have ne : q1 ≠ D := fun e => by rw [e, hJ] at nq1; cases nq1
      refine ⟨q1, rfl, ⟨_, SqL.of h1⟩, wk_lst (K := K) (a := q1) (xs := ts.map V.ref) (fun j I => ∃ (S : Int → Bool) (n : Nat), I D = some (SetO w D S n) ∧ (∀ k, S k = true ↔ k ∈ (allOf (as.take i) ++ z.2.take j).map (·.1)) ∧ n ≤ (allOf (as.take i)).length + j ∧ Fr D H1 I)
        ⟨S, n, s1 _ _ hJ, fun k => by rw [hS k]; simp, by omega, Fr.refl _ _⟩ (fun j I _ ⟨_, _, _, _, _, h⟩ => SqL.of (h _ _ h1 ne)) ?_ ?_⟩
      · rintro j y I hj ⟨S2, n2, hI, hS2, hn2, fI⟩
        have hj2 : j < ts.length := by
          have := (List.getElem?_eq_some_iff.mp hj).1
          simpa using this
        rw [List.getElem?_map, List.getElem?_eq_getElem hj2] at hj
        obtain rfl := Option.some.inj hj
        obtain ⟨m, hm, hm2⟩ := tp.get (List.getElem?_eq_getElem hj2)
        have nt : ts[j] ≠ D := fun e => by
          rw [e, s1 _ _ hJ] at hm2
          cases hm2
        have et : z.2.take (j + 1) = z.2.take j ++ [m] := by rw [List.take_add_one, hm]; rfl
        refine ⟨_, _, rfl, .inl (.inl (fI _ _ hm2 nt)), rfl, _, _, rfl, _, [], rfl, rfl, rfl, ?_⟩
        refine ⟨_, rfl, m.1, S2, n2, rfl, hI, (by show n2 + 1 < 4096; omega), _, _, upd_same, fun k => ?_, ?_, fI.trans Fr.at_⟩
        · rw [et, ← List.append_assoc, List.map_append, List.mem_append, ← hS2 k]
          simp
        · split <;> omega
      · rintro I ⟨S2, n2, hI, hS2, hn2, fI⟩
        rw [List.length_map] at hn2 hS2
        rw [tl, List.take_length, ← es] at hS2
        refine ⟨S2, n2, hI, hS2, ?_, fun c o e => fI _ _ (s1 _ _ (sJ _ _ e)) (ne_of_none e hD)⟩
        rw [es, List.length_append]
        omega
    · rintro J ⟨S, n, hJ, hS, hn, sJ⟩
      rw [List.length_map] at hn hS
      rw [List.take_length] at hS hn
      refine ⟨D, S, n, rfl, hJ, by omega, fun ks p asc mem len np => ?_⟩
      have s4 := same_new (o := .lst (ks.map V.int)) np
      exact k _ p ks (sJ.trans s4) (sJ.free np) asc (fun k => by rw [mem k, hS k]) (by omega) upd_same
  · obtain ⟨as, rfl, la, tas, le, k⟩ := h
    refine ⟨[], as.map (fun z => V.ref z.1), rfl, rfl, by rw [List.length_map, sizeLine_eq]; omega, fun p hp => ⟨p, as, rfl, upd_same, fun z hz => th.same (tas z hz) (same_new hp), le, fun H' q ks s nq => k H' q ks ((same_new hp).trans s) ?_⟩⟩
    exact (same_new hp).free nq
end

/-! ### lanes -/
def countUpto (ns : List Int) (v : Int) : Nat := (ns.filter fun n => decide (n ≤ v)).length
theorem upto_is {ns : List Int} {v : Int} {lo : Nat} (hl : lo ≤ ns.length) (h1 : ∀ i (h : i < ns.length), i < lo → ns[i] ≤ v) (h2 : ∀ i (h : i < ns.length), lo ≤ i → v < ns[i]) : countUpto ns v = lo := by
  have e : countUpto ns v = countUpto (ns.take lo ++ ns.drop lo) v := by rw [List.take_append_drop]
  rw [e]
  unfold countUpto
  rw [List.filter_append, List.filter_eq_self.mpr, List.filter_eq_nil_iff.mpr, List.append_nil, List.length_take]
  · omega
  · intro x hx
    obtain ⟨i, hi, e⟩ := List.getElem_of_mem hx
    rw [List.length_drop] at hi
    rw [List.getElem_drop] at e
    have := h2 (lo + i) (by omega) (by omega)
    rw [e] at this
    simp
    omega
  · intro x hx
    obtain ⟨i, hi, e⟩ := List.getElem_of_mem hx
    rw [List.length_take] at hi
    rw [List.getElem_take] at e
    have := h1 i (by omega) (by omega)
    rw [e] at this
    simp
    omega
def spUpto : Sp := fun vs H Q _ => ∃ (a : Addr) (ns : List Int) (v : Int), vs = [.ref a, .int v] ∧ H a = some (.lst (ns.map V.int)) ∧ ns.Pairwise (· ≤ ·) ∧ Q (.int (countUpto ns v : Nat)) H
def laneF (r n : Int) (m o g : Addr) : List (Str × V) := putF "goals" (.ref g) (putF "offsets" (.ref o) (putF "marks" (.ref m) (putF "step" (.int n) (putF "rest" (.int r) []))))
theorem laneF_m (r n : Int) (m o g : Addr) : (laneF r n m o g).lookup ("marks" : Str) = some (.ref m) := by
  unfold laneF
  rw [lookup_putF, if_neg (by decide +kernel), lookup_putF, if_neg (by decide +kernel), lookup_putF, if_pos rfl]
theorem laneF_o (r n : Int) (m o g : Addr) : (laneF r n m o g).lookup ("offsets" : Str) = some (.ref o) := by
  unfold laneF
  rw [lookup_putF, if_neg (by decide +kernel), lookup_putF, if_pos rfl]
theorem laneF_g (r n : Int) (m o g : Addr) : (laneF r n m o g).lookup ("goals" : Str) = some (.ref g) := by
  unfold laneF
  rw [lookup_putF, if_pos rfl]
theorem laneF_no (r n : Int) (m o g : Addr) {x : Str} (h1 : ¬ x = "goals") (h2 : ¬ x = "offsets") (h3 : ¬ x = "marks") (h4 : ¬ x = "step") (h5 : ¬ x = "rest") : (laneF r n m o g).lookup x = none := by
  unfold laneF
  rw [lookup_putF, if_neg h1, lookup_putF, if_neg h2, lookup_putF, if_neg h3, lookup_putF, if_neg h4, lookup_putF, if_neg h5]
  rfl
/-- a lane at a, apart from av -/
def LaneAt (L av : Addr) (H : Hp) (a : Addr) (r n off : Int) (ks : List (Int × Int)) : Prop := ∃ dx m o g, H a = some (.ins L dx (laneF r n m o g)) ∧ H m = some (.lst ((ks.map (·.1)).map V.int)) ∧ H o = some (.lst ((off :: ks.map (·.2)).map V.int)) ∧
  H g = some (.lst ((ks.map fun k => k.1 + k.2).map V.int)) ∧ a ≠ av ∧ m ≠ av ∧ o ≠ av ∧ g ≠ av
theorem LaneAt.fr {L av : Addr} {H H' : Hp} {a : Addr} {r n off : Int} {ks : List (Int × Int)} (h : LaneAt L av H a r n off ks) (f : Fr av H H') : LaneAt L av H' a r n off ks := by
  obtain ⟨dx, m, o, g, h1, h2, h3, h4, n1, n2, n3, n4⟩ := h
  exact ⟨dx, m, o, g, f _ _ h1 n1, f _ _ h2 n2, f _ _ h3 n3, f _ _ h4 n4, n1, n2, n3, n4⟩
theorem LaneAt.same {L av : Addr} {H H' : Hp} {a : Addr} {r n off : Int} {ks : List (Int × Int)} (h : LaneAt L av H a r n off ks) (f : Same H H') : LaneAt L av H' a r n off ks := h.fr (Fr.of f)
theorem LaneAt.mix {L av D : Addr} {H H' : Hp} {a : Addr} {r n off : Int} {ks : List (Int × Int)} (h : LaneAt L av H a r n off ks) (g : LaneAt L D H a r n off ks) (f : Fr D H H') : LaneAt L av H' a r n off ks := by
  obtain ⟨dx, m, o, g0, h1, h2, h3, h4, n1, n2, n3, n4⟩ := h
  obtain ⟨dx', m', o', g', k1, k2, k3, k4, l1, l2, l3, l4⟩ := g
  rw [h1] at k1
  have e := Option.some.inj k1
  injection e with e1 e2 e3
  have em : m = m' := by
    have := congrArg (List.lookup ("marks" : Str)) e3
    rw [laneF_m, laneF_m] at this
    injection this with this
    injection this
  have eo : o = o' := by
    have := congrArg (List.lookup ("offsets" : Str)) e3
    rw [laneF_o, laneF_o] at this
    injection this with this
    injection this
  have eg : g0 = g' := by
    have := congrArg (List.lookup ("goals" : Str)) e3
    rw [laneF_g, laneF_g] at this
    injection this with this
    injection this
  subst em eo eg
  exact ⟨dx, m, o, g0, f _ _ h1 l1, f _ _ h2 l2, f _ _ h3 l3, f _ _ h4 l4, n1, n2, n3, n4⟩
def laneOff (off : Int) (ks : List (Int × Int)) (t : Int) : Int := (off :: ks.map (·.2)).getD (countUpto (ks.map (·.1)) t) 0
def spLaneI (L : Addr) (K : PySem.W.Frag) : Sp := fun vs H Q _ => ∃ (x dx c : Addr) (r n off : Int) (ts : List Addr) (ks : List (Int × Int)), vs = [.ref x, .int r, .int n, .int off, .ref c] ∧ H x = some (.ins L dx []) ∧ SqL K H c (ts.map V.ref) ∧ c ≠ x ∧ Tups H ts ks ∧ ks.length ≤ 999 ∧
  ∀ H', (∀ av o, H av = some o → av ≠ x → LaneAt L av H' x r n off ks) → (∀ b o, H b = some o → b ≠ x → H' b = some o) → Q .non H'
def spLaneOff (L : Addr) : Sp := fun vs H Q _ => ∃ (x av : Addr) (r n off t : Int) (ks : List (Int × Int)), vs = [.ref x, .int t] ∧ LaneAt L av H x r n off ks ∧ (ks.map (·.1)).Pairwise (· ≤ ·) ∧ Q (.int (laneOff off ks t)) H
/-- a list of what each change of a list gives -/
theorem lc_chg {K : PySem.W.Frag} {c D : Addr} {ts : List Addr} {ks : List (Int × Int)} {J0 : Hp} {g : TG} {tt : TT} {te : TE} {vs : List Nat} {σ : L2.St} {Qd : Hp → Prop} (fn : Int × Int → Int) (hc : SqL K J0 c (ts.map V.ref)) (tp : Tups J0 ts ks) (le : ks.length ≤ 999) (hD : J0 D = none)
    (each : ∀ (t : Addr) (k : Int × Int) (J : Hp) (N : V → Hp → Prop) (M : Hp → Prop), J t = some (.tup [.int k.1, .int k.2]) → N (.int (fn k)) J → g (.ref t) (wipe σ vs) J fun σ2 H2 => wipe σ2 vs = wipe σ vs ∧ tt σ2 H2 fun b H3 => if b = true then te σ2 H3 N else M H3)
    (fin : ∀ J, J D = some (.lst ((ks.map fn).map V.int)) → Same J0 J → Qd J) :
    ∃ W : Nat → Nat → Hp → Prop, (∃ m, W 0 m (upd J0 D (.lst []))) ∧ ∀ i m H, W i m H →
      ((Itl K c).stop i H ∧ Qd H) ∨ ((Itl K c).go i H ∧ ∃ Nx : Hp → Prop, (∀ H', Nx H' → ∃ m', m' < m ∧ W (i + 1) m' H') ∧ ∀ x H', (Itl K c).yld i H x H' → g x (wipe σ vs) H' fun σ2 H2 => wipe σ2 vs = wipe σ vs ∧ tt σ2 H2 fun b H3 =>
        if b = true then te σ2 H3 fun y H4 => ∃ acc, H4 D = some (.lst acc) ∧ acc.length < sizeLine ∧ Nx (upd H4 D (.lst (acc ++ [y]))) else Nx H3) := by
  have tl := tp.len
  refine lc_list (K := K) (a := c) (xs := ts.map V.ref) (fun i J => J D = some (.lst (((ks.take i).map fn).map V.int)) ∧ Same J0 J) ⟨by rw [upd_same]; rfl, same_new hD⟩ (fun i J _ h => (show Same J0 J from h.2).seq hc) ?_ ?_
  · rintro i y J hi ⟨hJ, sJ⟩
    have hi2 : i < ts.length := by
      have := (List.getElem?_eq_some_iff.mp hi).1
      simpa using this
    rw [List.getElem?_map, List.getElem?_eq_getElem hi2] at hi
    obtain rfl := Option.some.inj hi
    obtain ⟨m, hm, hm2⟩ := (tp.same sJ).get (List.getElem?_eq_getElem hi2)
    have et : ks.take (i + 1) = ks.take i ++ [m] := by rw [List.take_add_one, hm]; rfl
    refine each _ m J _ _ hm2 ⟨_, hJ, ?_, ?_, fun b o e => ?_⟩
    · rw [List.length_map, List.length_map, List.length_take]
      exact small1000 (by omega)
    · rw [upd_same, et, List.map_append, List.map_append]
      rfl
    · rw [upd_ne (ne_of_none e hD)]
      exact sJ _ _ e
  · rintro J ⟨hJ, sJ⟩
    rw [List.length_map, tl, List.take_length] at hJ
    exact fin J hJ sJ
structure LaC (K : PySem.W.Frag) (mg : Str → Option Value) (L : Addr) : Prop where
  cl : Cls K L
  nr : NoAttr K L "rest"
  ns : NoAttr K L "step"
  nm : NoAttr K L "marks"
  no : NoAttr K L "offsets"
  ng : NoAttr K L "goals"
  at_ : mg "Lane" = some (.ref L)
section
variable {P : Program} {w : World} {K : PySem.W.Frag} {mg : Str → Option Value} {base : Heap}
theorem scUpto : FnScope ["numbers", "limit", "low", "high", "middle"] ["numbers", "limit"] (defScope sUpto) := ⟨rfl, rfl, rfl, by decide +kernel, rfl, by decide +kernel, by decide +kernel⟩
theorem ok_upto {f : Addr} {fd : FuncData} (F : Fun K "many_upto" "many_upto" sUpto f fd) (T : Blt mg) : FnOk P w K mg base CX0 1 f fd ["numbers", "limit"] spUpto := by
  refine F.ok scUpto (fun vs H Q E h => ?_) (fun cdv A outer s H vs Q E hr h => ?_)
  · obtain ⟨a, ns, v, rfl, _⟩ := h
    rfl
  · obtain ⟨a, ns, v, rfl, ha, asc, q⟩ := h
    refine ⟨_, pss_cons (ps_par (i := 2) (j := 3) rfl scUpto.nd rfl rfl (by decide) rfl rfl (pa_cons pe_int (pa_cons (pe_callB call_len_seq (by rfl) T.len PySem.boot_len (pa_cons (pv 0) pa_nil)) pa_nil)) (by rfl))
      (pss_cons (ps_while PassesOwn.never (pt_cmpR op_lt (pv 2) (pv 3) (nomark _))
        (pss_cons (ps_set (i := 4) scUpto.nd rfl (.inl rfl) (pe_op op_fdiv (pe_op op_add (pv 2) (pv 3)) pe_int))
        (pss_one (ps_if (pt_cmpR op_le (pe_ix ix_list (pv 0) (pv 4) (fun _ _ => rfl)) (pv 1) (nomark _))
          (pss_one (ps_set (i := 2) scUpto.nd rfl (.inl rfl) (pe_op op_add (pv 4) pe_int)))
          (pss_one (ps_set (i := 3) scUpto.nd rfl (.inl rfl) (pv 4)))))))
      (pss_one (ps_ret (pv 2)))), ?_⟩
    refine ⟨_, rfl, a, _, rfl, .inl (SqL.of ha), _, _, rfl, ?_⟩
    rw [List.length_map]
    refine while_by (fun σ J => J = H ∧ ∃ (lo hi : Nat) (md : Option V), σ = [some (.ref a), some (.int v), some (.int (lo : Nat)), some (.int (hi : Nat)), md] ∧ lo ≤ hi ∧ hi ≤ ns.length ∧ (∀ i (h : i < ns.length), i < lo → ns[i] ≤ v) ∧ (∀ i (h : i < ns.length), hi ≤ i → v < ns[i]))
      (fun σ _ => match σ with
        | [_, _, some (.int lo), some (.int hi), _] => (hi - lo).toNat
        | _ => 0) ⟨rfl, 0, ns.length, none, rfl, Nat.zero_le _, Nat.le_refl _, fun i _ h => by omega, fun i h1 h2 => by omega⟩ ?_ ?_
    · rintro σ J ⟨rfl, lo, hi, md, rfl, le, lh, h1, h2⟩
      refine ⟨_, rfl, _, rfl, _, _, rfl, rfl, _, rfl, ite2 (fun z => ?_) (fun z => ?_)⟩
      · have lt : lo < hi := by
          have := of_decide_eq_true z
          omega
        have hm : ((lo : Int) + (hi : Int)) / 2 = (((lo + hi) / 2 : Nat) : Int) := by omega
        refine ⟨_, rfl, _, rfl, _, _, rfl, rfl, _, _, rfl, rfl, ⟨by decide, by decide⟩, ?_⟩
        simp only [hm]
        generalize hmid : (lo + hi) / 2 = mid
        have m1 : mid < ns.length := by omega
        refine ⟨_, rfl, _, rfl, a, _, _, _, rfl, rfl, SqL.of ha, atI_nat (j := mid) (v := V.int ns[mid]) (by rw [List.getElem?_map, List.getElem?_eq_getElem m1]; rfl), _, rfl, _, _, rfl, rfl, _, rfl, ite2 (fun g => ?_) (fun g => ?_)⟩
        · have g1 : ns[mid] ≤ v := of_decide_eq_true g
          refine ⟨_, rfl, _, _, rfl, rfl, ⟨rfl, mid + 1, hi, _, rfl, by omega, lh, fun i hi1 hi2 => ?_, h2⟩, ?_⟩
          · rcases Nat.lt_or_ge i mid with z | z
            · have := List.pairwise_iff_getElem.mp asc i mid hi1 m1 z
              omega
            · obtain rfl : i = mid := by omega
              exact g1
          · show ((hi : Int) - ((mid : Int) + 1)).toNat < ((hi : Int) - (lo : Int)).toNat
            omega
        · have g1 : ¬ ns[mid] ≤ v := fun z => g (decide_eq_true z)
          refine ⟨_, rfl, ⟨rfl, lo, mid, _, rfl, by omega, by omega, h1, fun i hi1 hi2 => ?_⟩, ?_⟩
          · rcases Nat.lt_or_ge mid i with z | z
            · have := List.pairwise_iff_getElem.mp asc mid i m1 hi1 z
              omega
            · obtain rfl : i = mid := by omega
              omega
          · show ((mid : Int) - (lo : Int)).toNat < ((hi : Int) - (lo : Int)).toNat
            omega
      · obtain rfl : lo = hi := by
          have : ¬ ((lo : Int) < (hi : Int)) := fun y => z (decide_eq_true y)
          omega
        refine ⟨_, rfl, ?_⟩
        rw [upto_is lh h1 h2] at q
        exact q
    · rintro σ J Q1 Q2 g ⟨x, e1, y, e2, i, j, e3, e4, b, e5, q1⟩
      exact ⟨x, e1, y, e2, i, j, e3, e4, b, e5, g _ _ q1⟩
theorem scLaneI : FnScope ["self", "rest", "step", "offset", "changes", "moment", "_", "changed"] ["self", "rest", "step", "offset", "changes"] (defScope sLaneI) := ⟨rfl, rfl, rfl, by decide +kernel, rfl, by decide +kernel, by decide +kernel⟩
theorem ok_laneI {f L : Addr} {fd : FuncData} (F : Fun K "__init__" "Lane.__init__" sLaneI f fd) (Z : LaC K mg L) : FnOk P w K mg base CX0 1 f fd ["self", "rest", "step", "offset", "changes"] (spLaneI L K) := by
  refine F.ok scLaneI (fun vs H Q E h => ?_) (fun cdv A outer s H vs Q E hr h => ?_)
  · obtain ⟨x, dx, c, r, n, off, ts, ks, rfl, _⟩ := h
    rfl
  · obtain ⟨x, dx, c, r, n, off, ts, ks, rfl, hx, hc, cx, tp, le, k⟩ := h
    refine ⟨_, pss_cons (ps_fld (pv 0) (pv 1) rfl)
      (pss_cons (ps_fld (pv 0) (pv 2) rfl)
      (pss_cons (ps_fld (pv 0) (pe_lc (own := [("moment", 5), ("_", 6)]) (g := gTup K 2 (gCons (gName 5) (gCons (gName 6) gNil))) (tt := tYes) rfl scLaneI.nd (pi_list (pv 4))
          (blkOk_by (N := ["self", "rest", "step", "offset", "changes", "moment", "_", "changed"]) (sc := defScope sLaneI) (by decide +kernel)) (fun _ _ _ _ _ => pg_tup rfl (pgs_cons (pg_name (i := 5) scLaneI.nd rfl (.inl rfl)) (pgs_cons (pg_name (i := 6) scLaneI.nd rfl (.inl rfl)) pgs_nil))) (fun _ _ _ _ _ => pts_nil)
          (fun _ _ _ _ _ => (pv 5))) rfl)
      (pss_cons (ps_fld (pv 0) (pe_lst (pa_cons (pv 3) (StX.pa_star (pe_lc (own := [("_", 6), ("changed", 7)]) (g := gTup K 2 (gCons (gName 6) (gCons (gName 7) gNil))) (tt := tYes) rfl scLaneI.nd (pi_list (pv 4))
          (blkOk_by (N := ["self", "rest", "step", "offset", "changes", "moment", "_", "changed"]) (sc := defScope sLaneI) (by decide +kernel)) (fun _ _ _ _ _ => pg_tup rfl (pgs_cons (pg_name (i := 6) scLaneI.nd rfl (.inl rfl)) (pgs_cons (pg_name (i := 7) scLaneI.nd rfl (.inl rfl)) pgs_nil))) (fun _ _ _ _ _ => pts_nil)
          (fun _ _ _ _ _ => (pv 7))) pa_nil))) rfl)
      (pss_one (ps_fld (pv 0) (pe_lc (own := [("moment", 5), ("changed", 7)]) (g := gTup K 2 (gCons (gName 5) (gCons (gName 7) gNil))) (tt := tYes) rfl scLaneI.nd (pi_list (pv 4))
          (blkOk_by (N := ["self", "rest", "step", "offset", "changes", "moment", "_", "changed"]) (sc := defScope sLaneI) (by decide +kernel)) (fun _ _ _ _ _ => pg_tup rfl (pgs_cons (pg_name (i := 5) scLaneI.nd rfl (.inl rfl)) (pgs_cons (pg_name (i := 7) scLaneI.nd rfl (.inl rfl)) pgs_nil))) (fun _ _ _ _ _ => pts_nil)
          (fun _ _ _ _ _ => (pe_op op_add (pv 5) (pv 7)))) rfl))))), ?_⟩
    have tl := tp.len
    refine ⟨_, rfl, _, rfl, x, L, dx, _, rfl, hx, Z.cl, Z.nr, (by show 0 < 1000; decide), ?_⟩
    refine ⟨_, rfl, _, rfl, x, L, dx, _, rfl, upd_same, Z.cl, Z.ns, (by show 1 < 1000; decide), ?_⟩
    rw [upd_upd]
    generalize hH1 : upd H x (.ins L dx (putF "step" (.int n) (putF "rest" (.int r) []))) = H1
    have f1 : Fr x H H1 := by rw [← hH1]; exact Fr.at_
    have hx1 : H1 x = some (.ins L dx (putF "step" (.int n) (putF "rest" (.int r) []))) := by rw [← hH1]; exact upd_same
    have tx : ∀ t xs, H t = some (.tup xs) → t ≠ x := fun t xs e z => by rw [z, hx] at e; cases e
    have tp1 : Tups H1 ts ks := tp.imp fun t xs e => f1 _ _ e (tx t xs e)
    have hc1 := f1.seq cx hc
    refine ⟨_, rfl, c, rfl, ⟨_, hc1⟩, fun m hm => lc_chg (fun k => k.1) hc1 tp1 le hm (fun t k J N M e q => ⟨_, _, rfl, .inl (.inl e), rfl, _, _, rfl, _, [], rfl, rfl, rfl, _, rfl, q⟩) fun J1 h1 s1 => ?_⟩
    refine ⟨_, rfl, x, L, dx, _, rfl, s1 _ _ hx1, Z.cl, Z.nm, (by show 2 < 1000; decide), ?_⟩
    generalize hH2 : upd J1 x (.ins L dx (putF "marks" (.ref m) (putF "step" (.int n) (putF "rest" (.int r) [])))) = H2
    have f2' : Fr x J1 H2 := by rw [← hH2]; exact Fr.at_
    have f2 : Fr x H H2 := (f1.trans (Fr.of s1)).trans f2'
    have hx2 : H2 x = some (.ins L dx (putF "marks" (.ref m) (putF "step" (.int n) (putF "rest" (.int r) [])))) := by rw [← hH2]; exact upd_same
    have mx : m ≠ x := fun z => by rw [z, hx1] at hm; cases hm
    have h12 := f2' _ _ h1 mx
    have tp2 : Tups H2 ts ks := tp.imp fun t xs e => f2 _ _ e (tx t xs e)
    have hc2 := f2.seq cx hc
    refine ⟨_, rfl, _, rfl, c, rfl, ⟨_, hc2⟩, fun o' ho' => lc_chg (fun k => k.2) hc2 tp2 le ho' (fun t k J N M e q => ⟨_, _, rfl, .inl (.inl e), rfl, _, _, rfl, _, [], rfl, rfl, rfl, _, rfl, q⟩) fun J2 h2 s2 => ?_⟩
    refine ⟨o', _, rfl, .inr (SqL.of h2), (by rw [List.append_nil, List.length_cons, List.length_map, List.length_map, sizeLine_eq]; omega), fun o ho => ?_⟩
    rw [List.append_nil]
    have s3 := same_new (o := .lst (V.int off :: (ks.map fun k => k.2).map V.int)) ho
    have h3 := upd_same (H := J2) (a := o) (o := .lst (V.int off :: (ks.map fun k => k.2).map V.int))
    generalize upd J2 o (.lst (V.int off :: (ks.map fun k => k.2).map V.int)) = J3 at s3 h3 ⊢
    have s23 := s2.trans s3
    refine ⟨_, rfl, x, L, dx, _, rfl, s23 _ _ hx2, Z.cl, Z.no, (by show 3 < 1000; decide), ?_⟩
    generalize hH3 : upd J3 x (.ins L dx (putF "offsets" (.ref o) (putF "marks" (.ref m) (putF "step" (.int n) (putF "rest" (.int r) []))))) = H3
    have f3' : Fr x J3 H3 := by rw [← hH3]; exact Fr.at_
    have f3 : Fr x H H3 := (f2.trans (Fr.of s23)).trans f3'
    have hx3 : H3 x = some (.ins L dx (putF "offsets" (.ref o) (putF "marks" (.ref m) (putF "step" (.int n) (putF "rest" (.int r) []))))) := by rw [← hH3]; exact upd_same
    have ox : o ≠ x := fun z => by rw [z, s2 _ _ hx2] at ho; cases ho
    have tp3 : Tups H3 ts ks := tp.imp fun t xs e => f3 _ _ e (tx t xs e)
    have hc3 := f3.seq cx hc
    refine ⟨_, rfl, c, rfl, ⟨_, hc3⟩, fun g hg => lc_chg (fun k => k.1 + k.2) hc3 tp3 le hg (fun t k J N M e q => ⟨_, _, rfl, .inl (.inl e), rfl, _, _, rfl, _, [], rfl, rfl, rfl, _, rfl, _, rfl, _, _, rfl, rfl, q⟩) fun J4 h4 s4 => ?_⟩
    have gx : g ≠ x := fun z => by rw [z, hx3] at hg; cases hg
    refine ⟨_, rfl, x, L, dx, _, rfl, s4 _ _ hx3, Z.cl, Z.ng, (by show 4 < 1000; decide), ?_⟩
    generalize hH4 : upd J4 x (.ins L dx (putF "goals" (.ref g) (putF "offsets" (.ref o) (putF "marks" (.ref m) (putF "step" (.int n) (putF "rest" (.int r) [])))))) = H4
    have f4' : Fr x J4 H4 := by rw [← hH4]; exact Fr.at_
    have hx4 : H4 x = some (.ins L dx (laneF r n m o g)) := by rw [← hH4]; exact upd_same
    refine k H4 (fun av u hav nav => ⟨dx, m, o, g, hx4, f4' _ _ (s4 _ _ (f3' _ _ (s23 _ _ h12) mx)) mx, f4' _ _ (s4 _ _ (f3' _ _ h3 ox)) ox, f4' _ _ h4 gx, fun z => nav z.symm, fun z => ?_, fun z => ?_, fun z => ?_⟩) fun b u e nb => f4' _ _ (s4 _ _ (f3 _ _ e nb)) nb
    · rw [z, f1 _ _ hav nav] at hm
      cases hm
    · rw [z, s2 _ _ (f2 _ _ hav nav)] at ho
      cases ho
    · rw [z, f3 _ _ hav nav] at hg
      cases hg
theorem scLaneOff : FnScope ["self", "moment"] ["self", "moment"] (defScope sLaneOff) := ⟨rfl, rfl, rfl, by decide +kernel, rfl, by decide +kernel, by decide +kernel⟩
theorem ok_laneOff {f L fU : Addr} {fd dU : FuncData} (F : Fun K "offset" "Lane.offset" sLaneOff f fd) (Z : LaC K mg L) (U : At P w K mg base 1 "many_upto" ["numbers", "limit"] spUpto fU dU) : FnOk P w K mg base CX0 2 f fd ["self", "moment"] (spLaneOff L) := by
  refine F.ok scLaneOff (fun vs H Q E h => ?_) (fun cdv A outer s H vs Q E hr h => ?_)
  · obtain ⟨x, av, r, n, off, t, ks, rfl, _⟩ := h
    rfl
  · obtain ⟨x, av, r, n, off, t, ks, rfl, ⟨dx, m, o, g, hx, hm, ho, hg, _⟩, asc, q⟩ := h
    refine ⟨_, pss_one (ps_ret (pe_ix ix_list (pe_fld (pv 0) rfl) (pe_call U.ok hr (by rfl) U.at_ U.kp U.bi .nil pass0 (pa_cons (pe_fld (pv 0) rfl) (pa_cons (pv 1) pa_nil))) (fun _ _ => rfl))), ?_⟩
    refine ⟨_, rfl, x, L, dx, _, _, rfl, hx, Z.cl, Z.no, laneF_o r n m o g, _, rfl, x, L, dx, _, _, rfl, hx, Z.cl, Z.nm, laneF_m r n m o g, _, rfl, m, _, t, rfl, hm, asc, ?_⟩
    have lt : countUpto (ks.map (·.1)) t < (off :: ks.map (·.2)).length := by
      have := List.length_filter_le (fun n => decide (n ≤ t)) (ks.map (·.1))
      rw [List.length_map] at this
      rw [List.length_cons, List.length_map]
      unfold countUpto
      omega
    refine ⟨o, _, _, _, rfl, rfl, SqL.of ho, atI_nat (j := countUpto (ks.map (·.1)) t) (v := V.int (laneOff off ks t)) ?_, q⟩
    rw [List.getElem?_map, List.getElem?_eq_getElem lt]
    unfold laneOff
    rw [List.getD_eq_getElem?_getD, List.getElem?_eq_getElem lt]
    rfl
end

/-! ### rules -/
def ruF (b c l : Addr) : List (Str × V) := putF "_lanes" (.ref l) (putF "_changes" (.ref c) (putF "_base" (.ref b) []))
theorem ruF_b (b c l : Addr) : (ruF b c l).lookup ("_base" : Str) = some (.ref b) := by
  unfold ruF
  rw [lookup_putF, if_neg (by decide +kernel), lookup_putF, if_neg (by decide +kernel), lookup_putF, if_pos rfl]
theorem ruF_c (b c l : Addr) : (ruF b c l).lookup ("_changes" : Str) = some (.ref c) := by
  unfold ruF
  rw [lookup_putF, if_neg (by decide +kernel), lookup_putF, if_pos rfl]
theorem ruF_l (b c l : Addr) : (ruF b c l).lookup ("_lanes" : Str) = some (.ref l) := by
  unfold ruF
  rw [lookup_putF, if_pos rfl]
theorem ruF_no (b c l : Addr) {x : Str} (h1 : ¬ x = "_lanes") (h2 : ¬ x = "_changes") (h3 : ¬ x = "_base") : (ruF b c l).lookup x = none := by
  unfold ruF
  rw [lookup_putF, if_neg h1, lookup_putF, if_neg h2, lookup_putF, if_neg h3]
  rfl
/-- the changes of one lane -/
def share (cs : List (Int × Int)) (n i : Int) : List (Int × Int) := cs.filter fun k => decide (k.1 % n = i)
def LanesAt (L av : Addr) (H : Hp) (las : List Addr) (bs : List Int) (cs : List (Int × Int)) : Prop := ∀ (i : Nat) (a : Addr) (v : Int), las[i]? = some a → bs[i]? = some v → LaneAt L av H a i bs.length v (share cs bs.length i)
/-- a rule at x, apart from av -/
def RuAt (R L av : Addr) (H : Hp) (x : Addr) (bs : List Int) (cs : List (Int × Int)) : Prop := ∃ dx b c l ts las, H x = some (.ins R dx (ruF b c l)) ∧ H b = some (.lst (bs.map V.int)) ∧ H c = some (.lst (ts.map V.ref)) ∧ Tups H ts cs ∧ H l = some (.lst (las.map V.ref)) ∧ las.length = bs.length ∧
  LanesAt L av H las bs cs ∧ x ≠ av ∧ b ≠ av ∧ c ≠ av ∧ l ≠ av ∧ ∀ t ∈ ts, t ≠ av
theorem Tups.apart {H H' : Hp} {p : Addr} : ∀ {ts : List Addr} {ms : List (Int × Int)}, Tups H ts ms → Fr p H H' → (∀ t ∈ ts, t ≠ p) → Tups H' ts ms
  | [], [], _, _, _ => trivial
  | _ :: _, _ :: _, h, f, n => ⟨f _ _ h.1 (n _ List.mem_cons_self), Tups.apart h.2 f fun t m => n t (List.mem_cons_of_mem _ m)⟩
theorem RuAt.fr {R L av : Addr} {H H' : Hp} {x : Addr} {bs : List Int} {cs : List (Int × Int)} (h : RuAt R L av H x bs cs) (f : Fr av H H') : RuAt R L av H' x bs cs := by
  obtain ⟨dx, b, c, l, ts, las, h1, h2, h3, h4, h5, h6, h7, n1, n2, n3, n4, n5⟩ := h
  exact ⟨dx, b, c, l, ts, las, f _ _ h1 n1, f _ _ h2 n2, f _ _ h3 n3, h4.apart f n5, f _ _ h5 n4, h6, fun i a v e1 e2 => (h7 i a v e1 e2).fr f, n1, n2, n3, n4, n5⟩
theorem RuAt.same {R L av : Addr} {H H' : Hp} {x : Addr} {bs : List Int} {cs : List (Int × Int)} (h : RuAt R L av H x bs cs) (f : Same H H') : RuAt R L av H' x bs cs := h.fr (Fr.of f)
/-- the offset of the bare week, and with changes -/
def wkOff (bs : List Int) (t : Int) : Int := bs.getD (t % bs.length).toNat 0
def offAt (bs : List Int) (cs : List (Int × Int)) (t : Int) : Int := laneOff (wkOff bs t) (share cs bs.length (t % bs.length)) t
theorem offAt_nil (bs : List Int) (t : Int) : offAt bs [] t = wkOff bs t := rfl
def Asc (cs : List (Int × Int)) : Prop := (cs.map (·.1)).Pairwise (· ≤ ·)
theorem Asc.share {cs : List (Int × Int)} (h : Asc cs) (n i : Int) : ((share cs n i).map (·.1)).Pairwise (· ≤ ·) := h.sublist ((List.filter_sublist).map _)
structure RuC (K : PySem.W.Frag) (mg : Str → Option Value) (R : Addr) : Prop where
  cl : Cls K R
  nb : NoAttr K R "_base"
  nc : NoAttr K R "_changes"
  nl : NoAttr K R "_lanes"
  at_ : mg "Rule" = some (.ref R)
def spRuWeek (R L : Addr) : Sp := fun vs H Q _ => ∃ (x av : Addr) (bs : List Int) (cs : List (Int × Int)), vs = [.ref x] ∧ RuAt R L av H x bs cs ∧ Q (.int (bs.length : Nat)) H
def spRuBase (R L : Addr) : Sp := fun vs H Q _ => ∃ (x av : Addr) (bs : List Int) (cs : List (Int × Int)), vs = [.ref x] ∧ RuAt R L av H x bs cs ∧ ∀ q, H q = none → Q (.ref q) (upd H q (.lst (bs.map V.int)))
def ThR (R L : Addr) : Hp → Addr → List (Int × Int) → Prop := fun H x ms => ∃ av bs, RuAt R L av H x bs ms
theorem thR {R L : Addr} : ThOk R (ThR R L) := ⟨fun ⟨av, bs, h⟩ s => ⟨av, bs, h.same s⟩, fun ⟨av, bs, dx, b, c, l, ts, las, h, _⟩ => ⟨dx, _, h⟩⟩
def spRuOff (R L : Addr) : Sp := fun vs H Q _ => ∃ (x av : Addr) (t : Int) (bs : List Int) (cs : List (Int × Int)), vs = [.ref x, .int t] ∧ RuAt R L av H x bs cs ∧ 0 < bs.length ∧ Asc cs ∧ Q (.int (offAt bs cs t)) H
def spRuAns (R L : Addr) : Sp := fun vs H Q _ => ∃ (x av : Addr) (t : Int) (bs : List Int) (cs : List (Int × Int)), vs = [.ref x, .int t] ∧ RuAt R L av H x bs cs ∧ 0 < bs.length ∧ Asc cs ∧ Q (.int (t + offAt bs cs t)) H
section
variable {P : Program} {w : World} {K : PySem.W.Frag} {mg : Str → Option Value} {base : Heap}
theorem scRuWeek : FnScope ["self"] ["self"] (defScope sRuWeek) := ⟨rfl, rfl, rfl, by decide +kernel, rfl, by decide +kernel, by decide +kernel⟩
theorem scRuBase : FnScope ["self"] ["self"] (defScope sRuBase) := ⟨rfl, rfl, rfl, by decide +kernel, rfl, by decide +kernel, by decide +kernel⟩
theorem scRuChanges : FnScope ["self"] ["self"] (defScope sRuChanges) := ⟨rfl, rfl, rfl, by decide +kernel, rfl, by decide +kernel, by decide +kernel⟩
theorem ok_ruWeek {f R L : Addr} {fd : FuncData} (F : Fun K "week" "Rule.week" sRuWeek f fd) (Z : RuC K mg R) (T : Blt mg) : FnOk P w K mg base CX0 1 f fd ["self"] (spRuWeek R L) := by
  refine F.ok scRuWeek (fun vs H Q E h => ?_) (fun cdv A outer s H vs Q E hr h => ?_)
  · obtain ⟨x, av, bs, cs, rfl, _⟩ := h
    rfl
  · obtain ⟨x, av, bs, cs, rfl, ⟨dx, b, c, l, ts, las, hx, hb, _⟩, k⟩ := h
    refine ⟨_, pss_one (ps_ret (pe_callB call_len_seq (by rfl) T.len PySem.boot_len (pa_cons (pe_fld (pv 0) rfl) pa_nil))), ?_⟩
    refine ⟨_, rfl, x, R, dx, _, _, rfl, hx, Z.cl, Z.nb, ruF_b b c l, b, _, rfl, .inl (SqL.of hb), ?_⟩
    rw [List.length_map]
    exact k
theorem ok_ruBase {f R L : Addr} {fd : FuncData} (F : Fun K "base" "Rule.base" sRuBase f fd) (Z : RuC K mg R) (T : Blt mg) : FnOk P w K mg base CX0 1 f fd ["self"] (spRuBase R L) := by
  refine F.ok scRuBase (fun vs H Q E h => ?_) (fun cdv A outer s H vs Q E hr h => ?_)
  · obtain ⟨x, av, bs, cs, rfl, _⟩ := h
    rfl
  · obtain ⟨x, av, bs, cs, rfl, ⟨dx, b, c, l, ts, las, hx, hb, _⟩, k⟩ := h
    refine ⟨_, pss_one (ps_ret (pe_callTy call_list_of (by rfl) T.list (by decide +kernel) (pa_cons (pe_fld (pv 0) rfl) pa_nil))), ?_⟩
    exact ⟨_, rfl, x, R, dx, _, _, rfl, hx, Z.cl, Z.nb, ruF_b b c l, b, _, rfl, .inl (SqL.of hb), k⟩
theorem ok_ruChanges {f R L : Addr} {fd : FuncData} (F : Fun K "changes" "Rule.changes" sRuChanges f fd) (Z : RuC K mg R) (T : Blt mg) : FnOk P w K mg base CX0 1 f fd ["self"] (spChOf (ThR R L)) := by
  refine F.ok scRuChanges (fun vs H Q E h => ?_) (fun cdv A outer s H vs Q E hr h => ?_)
  · obtain ⟨x, ms, rfl, _⟩ := h
    rfl
  · obtain ⟨x, cs, rfl, ⟨av, bs, dx, b, c, l, ts, las, hx, hb, hc, tp, _⟩, k⟩ := h
    refine ⟨_, pss_one (ps_ret (pe_callTy call_list_of (by rfl) T.list (by decide +kernel) (pa_cons (pe_fld (pv 0) rfl) pa_nil))), ?_⟩
    refine ⟨_, rfl, x, R, dx, _, _, rfl, hx, Z.cl, Z.nc, ruF_c b c l, c, _, rfl, .inl (SqL.of hc), fun q hq => ?_⟩
    exact k _ q ts (same_new hq) hq upd_same (tp.same (same_new hq))
theorem scRuOff : FnScope ["self", "moment"] ["self", "moment"] (defScope sRuOff) := ⟨rfl, rfl, rfl, by decide +kernel, rfl, by decide +kernel, by decide +kernel⟩
theorem ok_ruOff {f R L fO : Addr} {fd dO : FuncData} (F : Fun K "offset" "Rule.offset" sRuOff f fd) (Z : RuC K mg R) (T : Blt mg) (ZL : LaC K mg L) (hLO : Meth K L "offset" fO) (GLO : FnOk P w K mg base CX0 2 fO dO ["self", "moment"] (spLaneOff L)) (bLO : Binds K dO ["self", "moment"] []) :
    FnOk P w K mg base CX0 3 f fd ["self", "moment"] (spRuOff R L) := by
  refine F.ok scRuOff (fun vs H Q E h => ?_) (fun cdv A outer s H vs Q E hr h => ?_)
  · obtain ⟨x, av, t, bs, cs, rfl, _⟩ := h
    rfl
  · obtain ⟨x, av, t, bs, cs, rfl, ⟨dx, b, c, l, ts, las, hx, hb, hc, tp, hl, ll, la, _⟩, l0, asc, q⟩ := h
    refine ⟨_, pss_one (ps_ret (pe_meth (pe_ix ix_list (pe_fld (pv 0) rfl) (pe_op op_mod (pv 1) (pe_callB call_len_seq (by rfl) T.len PySem.boot_len (pa_cons (pe_fld (pv 0) rfl) pa_nil))) (fun _ _ => rfl)) ZL.cl hLO GLO hr bLO .nil pass0 (pa_cons (pv 1) pa_nil))), ?_⟩
    have h0 := Int.emod_nonneg t (show (bs.length : Int) ≠ 0 by omega)
    have h1 := Int.emod_lt_of_pos t (show (0 : Int) < bs.length by omega)
    have hj : (t % (bs.length : Int)).toNat < las.length := by omega
    have hj2 : (t % (bs.length : Int)).toNat < bs.length := by omega
    have ej : t % ((las.map V.ref).length : Nat) = (((t % (bs.length : Int)).toNat : Nat) : Int) := by
      rw [List.length_map, ll]
      omega
    have lane := la _ _ _ (List.getElem?_eq_getElem hj) (List.getElem?_eq_getElem hj2)
    have lane' := lane
    obtain ⟨da, m, o, g, ha, _⟩ := lane'
    refine ⟨_, rfl, x, R, dx, _, _, rfl, hx, Z.cl, Z.nl, ruF_l b c l, _, rfl, _, rfl, x, R, dx, _, _, rfl, hx, Z.cl, Z.nl, ruF_l b c l, l, _, rfl, .inl (SqL.of hl), _, _, rfl, rfl, (by rw [List.length_map]; omega),
      l, _, _, _, rfl, rfl, SqL.of hl, at_of (j := (t % (bs.length : Int)).toNat) (v := V.ref las[(t % (bs.length : Int)).toNat]) ej (by rw [List.getElem?_map, List.getElem?_eq_getElem hj]; rfl),
      _, da, _, rfl, ha, laneF_no _ _ _ _ _ (by decide +kernel) (by decide +kernel) (by decide +kernel) (by decide +kernel) (by decide +kernel), _, rfl, ⟨_, av, _, _, _, t, _, rfl, lane, asc.share _ _, ?_⟩⟩
    have e : offAt bs cs t = laneOff bs[(t % (bs.length : Int)).toNat] (share cs bs.length ((t % (bs.length : Int)).toNat : Nat)) t := by
      unfold offAt wkOff
      rw [List.getD_eq_getElem?_getD, List.getElem?_eq_getElem hj2, Int.toNat_of_nonneg h0]
      rfl
    rw [e] at q
    exact q
theorem scRuAns : FnScope ["self", "moment"] ["self", "moment"] (defScope sRuAns) := ⟨rfl, rfl, rfl, by decide +kernel, rfl, by decide +kernel, by decide +kernel⟩
theorem ok_ruAns {f R L fO : Addr} {fd dO : FuncData} (F : Fun K "answer" "Rule.answer" sRuAns f fd) (Z : RuC K mg R) (hRO : Meth K R "offset" fO) (GRO : FnOk P w K mg base CX0 3 fO dO ["self", "moment"] (spRuOff R L)) (bRO : Binds K dO ["self", "moment"] []) :
    FnOk P w K mg base CX0 4 f fd ["self", "moment"] (spRuAns R L) := by
  refine F.ok scRuAns (fun vs H Q E h => ?_) (fun cdv A outer s H vs Q E hr h => ?_)
  · obtain ⟨x, av, t, bs, cs, rfl, _⟩ := h
    rfl
  · obtain ⟨x, av, t, bs, cs, rfl, ru, l0, asc, q⟩ := h
    refine ⟨_, pss_one (ps_ret (pe_op op_add (pv 1) (pe_meth (pv 0) Z.cl hRO GRO hr bRO .nil pass0 (pa_cons (pv 1) pa_nil)))), ?_⟩
    obtain ⟨dx, b, c, l, _, _, hx, _⟩ := id ru
    exact ⟨_, rfl, _, rfl, x, dx, _, rfl, hx, ruF_no b c l (by decide +kernel) (by decide +kernel) (by decide +kernel), _, rfl, ⟨x, av, t, bs, cs, rfl, ru, l0, asc, _, _, rfl, rfl, q⟩⟩
theorem scRuCall : FnScope ["self", "moment"] ["self", "moment"] (defScope sRuCall) := ⟨rfl, rfl, rfl, by decide +kernel, rfl, by decide +kernel, by decide +kernel⟩
theorem ok_ruCall {f R L fA : Addr} {fd dA : FuncData} (F : Fun K "__call__" "Rule.__call__" sRuCall f fd) (Z : RuC K mg R) (hRA : Meth K R "answer" fA) (GRA : FnOk P w K mg base CX0 4 fA dA ["self", "moment"] (spRuAns R L)) (bRA : Binds K dA ["self", "moment"] []) :
    FnOk P w K mg base CX0 5 f fd ["self", "moment"] (spRuAns R L) := by
  refine F.ok scRuCall (fun vs H Q E h => ?_) (fun cdv A outer s H vs Q E hr h => ?_)
  · obtain ⟨x, av, t, bs, cs, rfl, _⟩ := h
    rfl
  · obtain ⟨x, av, t, bs, cs, rfl, ru, l0, asc, q⟩ := h
    refine ⟨_, pss_one (ps_ret (pe_meth (pv 0) Z.cl hRA GRA hr bRA .nil pass0 (pa_cons (pv 1) pa_nil))), ?_⟩
    obtain ⟨dx, b, c, l, _, _, hx, _⟩ := id ru
    exact ⟨_, rfl, x, dx, _, rfl, hx, ruF_no b c l (by decide +kernel) (by decide +kernel) (by decide +kernel), _, rfl, ⟨x, av, t, bs, cs, rfl, ru, l0, asc, q⟩⟩
end

/-! ### rules without changes: how they are made -/
def spTelling0 (K : PySem.W.Frag) : Sp := fun vs H Q _ => ∃ (a c : Addr) (bs : List Int), vs = [.ref a, .ref c] ∧ SqL K H a (bs.map V.int) ∧ SqL K H c [] ∧ ∀ (H' : Hp) (q : Addr), Same H H' → H q = none → H' q = some (.lst []) → Q (.ref q) H'
def spLanes0 (L : Addr) (K : PySem.W.Frag) : Sp := fun vs H Q _ => ∃ (a c : Addr) (bs : List Int), vs = [.ref a, .ref c] ∧ SqL K H a (bs.map V.int) ∧ SqL K H c [] ∧ bs.length ≤ 12 ∧
  ∀ (H' : Hp) (q : Addr) (las : List Addr), Same H H' → H q = none → H' q = some (.lst (las.map V.ref)) → las.length = bs.length → (∀ l ∈ las, H l = none) → (∀ av o, H av = some o → LanesAt L av H' las bs []) → Q (.ref q) H'
def spAscend0 (K : PySem.W.Frag) : Sp := fun vs H Q _ => ∃ c : Addr, vs = [.ref c] ∧ SqL K H c [] ∧ Q .non H
def spBeside : Sp := fun vs H Q _ => ∃ (a : Addr) (cs : List Int) (n z : Int), vs = [.ref a, .int n, .int z] ∧ H a = some (.lst (cs.map V.int)) ∧ 0 ≤ n ∧ cs.length + n.toNat ≤ 30 ∧ (-(2 ^ 60) ≤ z ∧ z ≤ 2 ^ 60 ∧ n ≤ 12) ∧
  ∀ (H' : Hp) (q : Addr) (ks : List Int), Same H H' → H q = none → H' q = some (.lst (ks.map V.int)) → ks.length ≤ 60 → Q (.ref q) H'
/-- values rise from each moment to the next one -/
def Rises (bs : List Int) : Prop := ∀ t : Int, wkOff bs t ≤ wkOff bs (t + 1) + 1
def spRising0 (R L : Addr) : Sp := fun vs H Q _ => ∃ (x av : Addr) (bs : List Int), vs = [.ref x] ∧ RuAt R L av H x bs [] ∧ 0 < bs.length ∧ bs.length ≤ 12 ∧ Rises bs ∧ ∀ H', Same H H' → Q .non H'
def spRuI0 (R L : Addr) (K : PySem.W.Frag) : Sp := fun vs H Q _ => ∃ (x dx a c : Addr) (bs : List Int), vs = [.ref x, .ref a, .ref c] ∧ H x = some (.ins R dx []) ∧ H dx = some (.own x) ∧ dx ≠ x ∧ SqL K H a (bs.map V.int) ∧ SqL K H c [] ∧ a ≠ x ∧ c ≠ x ∧ 0 < bs.length ∧ bs.length ≤ 12 ∧ Rises bs ∧
  ∀ H', (∀ av o, H av = some o → av ≠ x → RuAt R L av H' x bs []) → (∀ b o, H b = some o → b ≠ x → H' b = some o) → Q .non H'
section
variable {P : Program} {w : World} {K : PySem.W.Frag} {mg : Str → Option Value} {base : Heap}
theorem scAscend : FnScope ["changes", "index"] ["changes"] (defScope sAscend) := ⟨rfl, rfl, rfl, by decide +kernel, rfl, by decide +kernel, by decide +kernel⟩
theorem ok_ascend0 {f fB : Addr} {fd dB : FuncData} (F : Fun K "check_ascending" "check_ascending" sAscend f fd) (T : Blt mg) (B : At P w K mg base 1 "is_behind" ["changes", "index"] (spBehind K) fB dB) : FnOk P w K mg base CX0 2 f fd ["changes"] (spAscend0 K) := by
  refine F.ok scAscend (fun vs H Q E h => ?_) (fun cdv A outer s H vs Q E hr h => ?_)
  · obtain ⟨c, rfl, _⟩ := h
    rfl
  · obtain ⟨c, rfl, hc, q⟩ := h
    refine ⟨_, pss_one (ps_for PassesOwn.never rfl (pi_range1 (by rfl) T.range (pa_cons (pe_callB call_len_seq (by rfl) T.len PySem.boot_len (pa_cons (pv 0) pa_nil)) pa_nil)) (pg_name (i := 1) scAscend.nd rfl (.inl rfl))
        (pss_one (ps_if (pt_not (pt_val (pe_call B.ok hr (by rfl) B.at_ B.kp B.bi .nil pass0 (pa_cons (pv 0) (pa_cons (pv 1) pa_nil)))))
          (pss_one ps_never)
          pss_nil))), ?_⟩
    refine ⟨_, rfl, c, _, rfl, .inl hc, _, rfl, (by decide), (by decide), for_it walk_range (fun i σ J => J = H) rfl (fun i σ J _ _ => trivial) ?_ ?_⟩
    · rintro i v σ J J' hi rfl _
      simp at hi
    · rintro σ J rfl
      exact q
theorem scTelling : FnScope ["base", "changes", "offsets", "told", "moment", "offset", "rest"] ["base", "changes"] (defScope sTelling) := ⟨rfl, rfl, rfl, by decide +kernel, rfl, by decide +kernel, by decide +kernel⟩
theorem ok_telling0 {f : Addr} {fd : FuncData} (F : Fun K "telling_changes" "telling_changes" sTelling f fd) (T : Blt mg) : FnOk P w K mg base CX0 1 f fd ["base", "changes"] (spTelling0 K) := by
  refine F.ok scTelling (fun vs H Q E h => ?_) (fun cdv A outer s H vs Q E hr h => ?_)
  · obtain ⟨a, c, bs, rfl, _⟩ := h
    rfl
  · obtain ⟨a, c, bs, rfl, ha, hc, k⟩ := h
    refine ⟨_, pss_cons (ps_set (i := 2) scTelling.nd rfl (.inl rfl) (pe_callTy call_list_of (by rfl) T.list (by decide +kernel) (pa_cons (pv 0) pa_nil)))
      (pss_cons (ps_set (i := 3) scTelling.nd rfl (.inl rfl) (pe_lst pa_nil))
      (pss_cons (ps_for PassesOwn.never rfl (pi_list (pv 1)) (pg_tup rfl (pgs_cons (pg_name (i := 4) scTelling.nd rfl (.inl rfl)) (pgs_cons (pg_name (i := 5) scTelling.nd rfl (.inl rfl)) pgs_nil)))
        (pss_cons (ps_set (i := 6) scTelling.nd rfl (.inl rfl) (pe_op op_mod (pv 4) (pe_callB call_len_seq (by rfl) T.len PySem.boot_len (pa_cons (pv 2) pa_nil))))
        (C8.pss_cut (ps_if (pt_cmpR op_ne (pv 5) (pe_ix ix_list (pv 2) (pv 6) (fun _ _ => rfl)) (nomark _))
          (pss_one (ps_expr (pe_bm PySem.F.plainAttrs_list PySem.F.slot_list_append PySem.F.type_list_append mt_append (pv 3) (pa_cons (pe_tup (pa_cons (pv 4) (pa_cons (pv 5) pa_nil))) pa_nil))))
          pss_nil)
        (pss_one (ps_asg (pv 5) (pg_sub (pv 2) (pv 6) set_list))))))
      (pss_one (ps_ret (pv 3))))), ?_⟩
    refine ⟨_, rfl, a, _, rfl, .inl ha, fun o ho => ?_⟩
    have s1 := same_new (o := .lst (bs.map V.int)) ho
    refine ⟨(by show 0 ≤ sizeLine; decide), fun q hq => ?_⟩
    have s2 := same_new (o := .lst []) hq
    have s12 := s1.trans s2
    refine ⟨_, rfl, c, rfl, ⟨_, s12.seq hc⟩, for_it (walk_list (K := K) (a := c) (xs := [])) (fun i σ J => σ = [some (.ref a), some (.ref c), some (.ref o), some (.ref q), none, none, none] ∧ J = upd (upd H o (.lst (bs.map V.int))) q (.lst [])) ⟨rfl, rfl⟩ (fun i σ J _ ⟨_, e⟩ => by rw [e]; exact s12.seq hc) ?_ ?_⟩
    · rintro i v σ J J' hi _ _
      exact absurd hi (Nat.not_lt_zero _)
    · rintro σ J ⟨rfl, rfl⟩
      exact ⟨_, rfl, k _ q s12 (s1.free hq) upd_same⟩
theorem scLanes : FnScope ["base", "changes", "shares", "moment", "offset", "_", "rest", "share"] ["base", "changes"] (defScope sLanes) := ⟨rfl, rfl, rfl, by decide +kernel, rfl, by decide +kernel, by decide +kernel⟩
theorem ok_lanes0 {f L fI : Addr} {fd dI : FuncData} (F : Fun K "lanes_of" "lanes_of" sLanes f fd) (T : Blt mg) (ne : mg "enumerate" = none) (ZL : LaC K mg L) (ML : Mk K L fI) (GLI : FnOk P w K mg base CX0 1 fI dI ["self", "rest", "step", "offset", "changes"] (spLaneI L K)) (bLI : Binds K dI ["self", "rest", "step", "offset", "changes"] []) :
    FnOk P w K mg base CX0 3 f fd ["base", "changes"] (spLanes0 L K) := by
  refine F.ok scLanes (fun vs H Q E h => ?_) (fun cdv A outer s H vs Q E hr h => ?_)
  · obtain ⟨a, c, bs, rfl, _⟩ := h
    rfl
  · obtain ⟨a, c, bs, rfl, ha, hc, l1, k⟩ := h
    refine ⟨_, pss_cons (ps_setLc (i := 2) (own := [("_", 5)]) (g := gName 5) (tt := tYes) rfl scLanes.nd rfl rfl (sw_true rfl rfl rfl (by decide +kernel)) (pi_list (pv 0))
          (blkOk_by (N := ["base", "changes", "shares", "moment", "offset", "_", "rest", "share"]) (sc := defScope sLanes) (by decide +kernel)) (fun _ _ _ _ _ => pg_name (i := 5) scLanes.nd rfl (.inl rfl)) (fun _ _ _ _ _ => pts_nil)
          (fun _ _ _ _ _ => (pe_lst pa_nil)))
      (pss_cons (ps_for PassesOwn.never rfl (pi_list (pv 1)) (pg_tup rfl (pgs_cons (pg_name (i := 3) scLanes.nd rfl (.inl rfl)) (pgs_cons (pg_name (i := 4) scLanes.nd rfl (.inl rfl)) pgs_nil)))
        (pss_one (ps_expr (pe_bm PySem.F.plainAttrs_list PySem.F.slot_list_append PySem.F.type_list_append mt_append (pe_ix ix_list (pv 2) (pe_op op_mod (pv 3) (pe_callB call_len_seq (by rfl) T.len PySem.boot_len (pa_cons (pv 0) pa_nil))) (fun _ _ => rfl)) (pa_cons (pe_tup (pa_cons (pv 3) (pa_cons (pv 4) pa_nil))) pa_nil)))))
      (pss_one (ps_ret (pe_lc (own := [("rest", 6), ("share", 7)]) (g := gTup K 2 (gCons (gName 6) (gCons (gName 7) gNil))) (tt := tYes) rfl scLanes.nd (pi_enum (by rfl) ne (pa_cons (pv 2) pa_nil))
          (blkOk_by (N := ["base", "changes", "shares", "moment", "offset", "_", "rest", "share"]) (sc := defScope sLanes) (by decide +kernel)) (fun _ _ _ _ _ => pg_tup rfl (pgs_cons (pg_name (i := 6) scLanes.nd rfl (.inl rfl)) (pgs_cons (pg_name (i := 7) scLanes.nd rfl (.inl rfl)) pgs_nil))) (fun _ _ _ _ _ => pts_nil)
          (fun _ _ _ _ _ => (pe_make ML GLI hr (by rfl) ZL.at_ bLI .nil pass0 (pa_cons (pv 6) (pa_cons (pe_callB (r := rLen K) call_len_seq (by rfl) T.len PySem.boot_len (pa_cons (pv 0) pa_nil)) (pa_cons (pe_ix (r := rIxL K) ix_list (pv 0) (pv 6) (fun _ _ => rfl)) (pa_cons (pv 7) pa_nil)))))))))), ?_⟩
    refine ⟨_, rfl, a, rfl, ⟨_, ha⟩, fun D hD => lc_list (K := K) (a := a) (xs := bs.map V.int) (fun i J => ∃ ss : List Addr, J D = some (.lst (ss.map V.ref)) ∧ ss.length = i ∧ (∀ t ∈ ss, J t = some (.lst []) ∧ t ≠ D) ∧ Same H J) ⟨[], upd_same, rfl, (fun t ht => nomatch ht), same_new hD⟩
      (fun i J _ ⟨_, _, _, _, h⟩ => h.seq ha) ?_ ?_⟩
    · rintro i v J hi ⟨ss, hJ, hl, hs, sJ⟩
      refine ⟨rfl, (by show 0 ≤ sizeLine; decide), fun e ne => ?_⟩
      have De : D ≠ e := ne_of_none hJ ne
      have hi2 : i < bs.length := by
        have := (List.getElem?_eq_some_iff.mp hi).1
        simpa using this
      refine ⟨_, by rw [upd_ne De]; exact hJ, by rw [List.length_map, hl]; exact small1000 (by omega), ss ++ [e], ?_, ?_, fun t ht => ?_, fun b o h => ?_⟩
      · rw [upd_same, List.map_append]
        rfl
      · rw [List.length_append, hl]
        rfl
      · rcases List.mem_append.mp ht with ht | ht
        · obtain ⟨h1, h2⟩ := hs t ht
          refine ⟨?_, h2⟩
          rw [upd_ne h2, upd_ne (ne_of_none h1 ne)]
          exact h1
        · obtain rfl := List.mem_singleton.mp ht
          refine ⟨?_, De.symm⟩
          rw [upd_ne De.symm]
          exact upd_same
      · rw [upd_ne (ne_of_none h hD), upd_ne (ne_of_none (sJ _ _ h) ne)]
        exact sJ _ _ h
    · rintro J ⟨ss, hJ, hl, hs, sJ⟩
      rw [List.length_map] at hl
      refine ⟨_, rfl, c, rfl, ⟨_, sJ.seq hc⟩, for_it (walk_list (K := K) (a := c) (xs := [])) (fun i σ J2 => σ = [some (.ref a), some (.ref c), some (.ref D), none, none, none, none, none] ∧ J2 = J) ⟨rfl, rfl⟩ (fun i σ J2 _ ⟨_, e⟩ => by rw [e]; exact sJ.seq hc) ?_ ?_⟩
      · rintro i v σ J2 J' hi _ _
        exact absurd hi (Nat.not_lt_zero _)
      · rintro σ J2 ⟨rfl, rfl⟩
        refine ⟨_, rfl, D, _, rfl, SqL.of hJ, fun D2 hD2 => ?_⟩
        refine lc_it (walk_enum (K := K) (a := D) (xs := ss.map V.ref)) (fun i I => ∃ las : List Addr, I D2 = some (.lst (las.map V.ref)) ∧ las.length = i ∧ (∀ l ∈ las, H l = none) ∧ (∀ av, (av = D2 ∨ ∃ o, H av = some o) → ∀ (j : Nat) (a : Addr) (v : Int), las[j]? = some a → bs[j]? = some v → LaneAt L av I a j bs.length v []) ∧ Same J2 I)
          ⟨[], upd_same, rfl, (fun t ht => nomatch ht), (fun av _ j a v e => by rw [List.getElem?_nil] at e; cases e), same_new hD2⟩ (fun i I _ ⟨_, _, _, _, _, h⟩ => SqL.of (h _ _ hJ)) ?_ ?_
        · rintro i v I I' hi ⟨las, hI, lI, fr, la, sI⟩ ⟨T', x1, x2, rfl, nT, rfl, e1, e2⟩
          obtain rfl := Option.some.inj e1
          have hi' : i < ss.length := by simpa using hi
          replace e2 : (List.map _ _)[i]? = some x2 := e2
          rw [List.getElem?_map, List.getElem?_eq_getElem hi'] at e2
          obtain rfl := Option.some.inj e2
          have sT := same_new (o := .tup [.int (i : Nat), .ref ss[i]]) nT
          have hb : i < bs.length := by omega
          have sIT := sI.trans sT
          have sA := (sJ.trans sIT)
          have hS := sIT _ _ (hs _ (List.getElem_mem hi')).1
          refine ⟨T', _, rfl, .inl (.inl upd_same), rfl, _, _, rfl, _, [], rfl, rfl, rfl, ?_⟩
          refine ⟨_, rfl, _, rfl, a, _, rfl, .inl (sA.seq ha), _, rfl, _, rfl, a, _, _, _, rfl, rfl, sA.seq ha, atI_nat (j := i) (v := V.int bs[i]) (by rw [List.getElem?_map, List.getElem?_eq_getElem hb]; rfl), _, rfl, fun x dx hx hd dn => ?_⟩
          have s1 := same_new (o := HO.own x) hd
          have hx1 : upd (upd I T' (.tup [.int (i : Nat), .ref ss[i]])) dx (.own x) x = none := by rw [upd_ne dn.symm]; exact hx
          have s2 := same_new (o := .ins L dx []) hx1
          have s012 := sIT.trans (s1.trans s2)
          have hxn := (sT.trans s1).trans s2
          refine ⟨x, dx, ss[i], _, _, _, [], [], rfl, upd_same, SqL.of ((s1.trans s2) _ _ hS), ne_of_none hS hx, trivial, (by show 0 ≤ 999; decide), fun H' lane keep => ⟨rfl, ?_⟩⟩
          · have D2x : D2 ≠ x := fun z => by rw [← z, sT _ _ hI] at hx; cases hx
            have nx : ∀ {b o}, I b = some o → b ≠ x := fun {b o} e z => by rw [← z, sT _ _ e] at hx; cases hx
            have kp : ∀ b o, I b = some o → H' b = some o := fun b o e => keep _ _ (hxn _ _ e) (nx e)
            have hI' := kp _ _ hI
            refine ⟨_, hI', by rw [List.length_map, lI]; exact small1000 (by omega), las ++ [x], ?_, ?_, fun l hl => ?_, fun av hav j a' v' ea eb => ?_, fun b o e => ?_⟩
            · rw [upd_same, List.map_append]
              rfl
            · rw [List.length_append, lI]
              rfl
            · rcases List.mem_append.mp hl with hl | hl
              · exact fr l hl
              · obtain rfl := List.mem_singleton.mp hl
                exact sA.free hx
            · have fD : Fr D2 H' (upd H' D2 (.lst (las.map V.ref ++ [.ref x]))) := Fr.at_
              have avx : av ≠ x := by
                rcases hav with rfl | ⟨o, ho⟩
                · exact D2x
                · exact nx (sI _ _ (sJ _ _ ho))
              have avs : ∃ o, upd (upd (upd I T' (.tup [.int (i : Nat), .ref ss[i]])) dx (.own x)) x (.ins L dx []) av = some o := by
                rcases hav with rfl | ⟨o, ho⟩
                · exact ⟨_, hxn _ _ hI⟩
                · exact ⟨_, hxn _ _ (sI _ _ (sJ _ _ ho))⟩
              obtain ⟨o2, ho2⟩ := avs
              have both : LaneAt L av H' a' j bs.length v' [] ∧ LaneAt L D2 H' a' j bs.length v' [] := by
                rcases Nat.lt_or_ge j las.length with hj | hj
                · rw [List.getElem?_append_left hj] at ea
                  have h1 := la av hav j a' v' ea eb
                  have h2 := la D2 (.inl rfl) j a' v' ea eb
                  exact ⟨h1.same kp, h2.same kp⟩
                · have hj2 : j = las.length := by
                    have := (List.getElem?_eq_some_iff.mp ea).1
                    rw [List.length_append] at this
                    simp at this
                    omega
                  subst hj2
                  rw [List.getElem?_append_right (Nat.le_refl _), Nat.sub_self] at ea
                  obtain rfl := Option.some.inj ea
                  rw [lI, List.getElem?_eq_getElem hb] at eb
                  obtain rfl := Option.some.inj eb
                  rw [lI]
                  have z1 := lane av _ ho2 avx
                  have z2 := lane D2 _ (hxn _ _ hI) D2x
                  rw [List.length_map] at z1 z2
                  exact ⟨z1, z2⟩
              obtain ⟨z1, z2⟩ := both
              exact z1.mix z2 fD
            · have := kp _ _ (sI _ _ e)
              rw [upd_ne (ne_of_none e hD2)]
              exact this
        · rintro I ⟨las, hI, lI, fr, la, sI⟩
          rw [List.length_map, hl] at lI
          exact k I D2 las (sJ.trans sI) (sJ.free hD2) hI lI fr fun av o ho i a v e1 e2 => la av (.inr ⟨o, ho⟩) i a v e1 e2
end

/-! ### rules with changes: how they are made -/
/-- one change told: the week's offsets behind it, and the changes that tell something so far -/
def tellStep (n : Int) (p : List Int × List (Int × Int)) (c : Int × Int) : List Int × List (Int × Int) := (p.1.set (c.1 % n).toNat c.2, if c.2 = p.1.getD (c.1 % n).toNat 0 then p.2 else p.2 ++ [c])
def tell (bs : List Int) (cs : List (Int × Int)) : List Int × List (Int × Int) := cs.foldl (tellStep bs.length) (bs, [])
theorem tell_snoc (bs : List Int) (cs : List (Int × Int)) (c : Int × Int) : tell bs (cs ++ [c]) = tellStep bs.length (tell bs cs) c := by
  unfold tell
  rw [List.foldl_append]
  rfl
theorem tell_len (bs : List Int) (cs : List (Int × Int)) : (tell bs cs).1.length = bs.length := by
  suffices h : ∀ (p : List Int × List (Int × Int)) (n : Int), (cs.foldl (tellStep n) p).1.length = p.1.length from h (bs, []) bs.length
  induction cs with
  | nil => intro p n; rfl
  | cons c cs ih =>
    intro p n
    rw [List.foldl_cons, ih]
    unfold tellStep
    rw [List.length_set]
theorem tell_le (bs : List Int) (cs : List (Int × Int)) : (tell bs cs).2.length ≤ cs.length := by
  suffices h : ∀ (p : List Int × List (Int × Int)) (n : Int), (cs.foldl (tellStep n) p).2.length ≤ p.2.length + cs.length by
    have := h (bs, []) bs.length
    simpa [tell] using this
  induction cs with
  | nil => intro p n; exact Nat.le_refl _
  | cons c cs ih =>
    intro p n
    rw [List.foldl_cons]
    refine Nat.le_trans (ih _ _) ?_
    have : (tellStep n p c).2.length ≤ p.2.length + 1 := by
      unfold tellStep
      show (if c.2 = p.1.getD (c.1 % n).toNat 0 then p.2 else p.2 ++ [c]).length ≤ _
      split
      · omega
      · rw [List.length_append]
        exact Nat.le_refl _
    rw [List.length_cons]
    omega
def spTelling (K : PySem.W.Frag) : Sp := fun vs H Q _ => ∃ (a c : Addr) (bs : List Int) (ts : List Addr) (cs : List (Int × Int)), vs = [.ref a, .ref c] ∧ SqL K H a (bs.map V.int) ∧ SqL K H c (ts.map V.ref) ∧ Tups H ts cs ∧ 0 < bs.length ∧ bs.length ≤ 999 ∧ cs.length ≤ 999 ∧
  ∀ (H' : Hp) (q : Addr) (us : List Addr), Same H H' → H q = none → (∀ t ∈ us, H t = none) → H' q = some (.lst (us.map V.ref)) → Tups H' us (tell bs cs).2 → Q (.ref q) H'
theorem ixN_at {n r : Nat} (h : r < n) : ixN n (r : Nat) = some r := by
  unfold ixN
  simp [h]
section
variable {P : Program} {w : World} {K : PySem.W.Frag} {mg : Str → Option Value} {base : Heap}
theorem ok_telling {f : Addr} {fd : FuncData} (F : Fun K "telling_changes" "telling_changes" sTelling f fd) (T : Blt mg) : FnOk P w K mg base CX0 1 f fd ["base", "changes"] (spTelling K) := by
  refine F.ok scTelling (fun vs H Q E h => ?_) (fun cdv A outer s H vs Q E hr h => ?_)
  · obtain ⟨a, c, bs, ts, cs, rfl, _⟩ := h
    rfl
  · obtain ⟨a, c, bs, ts, cs, rfl, ha, hc, tp, l0, l1, l2, k⟩ := h
    refine ⟨_, pss_cons (ps_set (i := 2) scTelling.nd rfl (.inl rfl) (pe_callTy call_list_of (by rfl) T.list (by decide +kernel) (pa_cons (pv 0) pa_nil)))
      (pss_cons (ps_set (i := 3) scTelling.nd rfl (.inl rfl) (pe_lst pa_nil))
      (pss_cons (ps_for PassesOwn.never rfl (pi_list (pv 1)) (pg_tup rfl (pgs_cons (pg_name (i := 4) scTelling.nd rfl (.inl rfl)) (pgs_cons (pg_name (i := 5) scTelling.nd rfl (.inl rfl)) pgs_nil)))
        (pss_cons (ps_set (i := 6) scTelling.nd rfl (.inl rfl) (pe_op op_mod (pv 4) (pe_callB call_len_seq (by rfl) T.len PySem.boot_len (pa_cons (pv 2) pa_nil))))
        (C8.pss_cut (ps_if (pt_cmpR op_ne (pv 5) (pe_ix ix_list (pv 2) (pv 6) (fun _ _ => rfl)) (nomark _))
          (pss_one (ps_expr (pe_bm PySem.F.plainAttrs_list PySem.F.slot_list_append PySem.F.type_list_append mt_append (pv 3) (pa_cons (pe_tup (pa_cons (pv 4) (pa_cons (pv 5) pa_nil))) pa_nil))))
          pss_nil)
        (pss_one (ps_asg (pv 5) (pg_sub (pv 2) (pv 6) set_list))))))
      (pss_one (ps_ret (pv 3))))), ?_⟩
    have tl := tp.len
    refine ⟨_, rfl, a, _, rfl, .inl ha, fun o ho => ?_⟩
    have s1 := same_new (o := .lst (bs.map V.int)) ho
    have ho1 := upd_same (H := H) (a := o) (o := .lst (bs.map V.int))
    generalize upd H o (.lst (bs.map V.int)) = H1 at s1 ho1 ⊢
    refine ⟨(by show 0 ≤ sizeLine; decide), fun q hq => ?_⟩
    have s2 := same_new (o := .lst []) hq
    have oq : o ≠ q := ne_of_none ho1 hq
    have hqH := s1.free hq
    refine ⟨_, rfl, c, rfl, ⟨_, (s1.trans s2).seq hc⟩, for_it (walk_list (K := K) (a := c) (xs := ts.map V.ref)) (fun i σ J => ∃ (y1 y2 y3 : Option V) (us : List Addr), σ = [some (.ref a), some (.ref c), some (.ref o), some (.ref q), y1, y2, y3] ∧ J o = some (.lst ((tell bs (cs.take i)).1.map V.int)) ∧ J q = some (.lst (us.map V.ref)) ∧
      Tups J us (tell bs (cs.take i)).2 ∧ (∀ t ∈ us, H t = none) ∧ us.length ≤ i ∧ Same H J) ⟨none, none, none, [], rfl, s2 _ _ ho1, upd_same, trivial, (fun t ht => nomatch ht), Nat.zero_le _, s1.trans s2⟩ (fun i σ J _ ⟨_, _, _, _, _, _, _, _, _, _, h⟩ => h.seq hc) ?_ ?_⟩
    · rintro i v σ J J' hi ⟨y1, y2, y3, us, rfl, jo, jq, ju, jf, jl, sJ⟩ ⟨rfl, hy⟩
      have hi' : i < ts.length := by simpa using hi
      rw [List.getElem?_map, List.getElem?_eq_getElem hi'] at hy
      obtain rfl := Option.some.inj hy
      obtain ⟨m, hm, hm2⟩ := (tp.same sJ).get (List.getElem?_eq_getElem hi')
      have et : cs.take (i + 1) = cs.take i ++ [m] := by rw [List.take_add_one, hm]; rfl
      have wl := tell_len bs (cs.take i)
      have tn := tell_snoc bs (cs.take i) m
      rw [← et] at tn
      generalize tell bs (cs.take i) = tw at jo ju wl tn
      have h0 := Int.emod_nonneg m.1 (show (bs.length : Int) ≠ 0 by omega)
      have h1 := Int.emod_lt_of_pos m.1 (show (0 : Int) < bs.length by omega)
      have hr1 : (m.1 % (bs.length : Int)).toNat < tw.1.length := by omega
      refine ⟨_, _, rfl, .inl (.inl hm2), rfl, _, _, rfl, _, [], rfl, rfl, ?_⟩
      have el : (((tw.1.map V.int).length : Nat) : Int) = bs.length := by rw [List.length_map, wl]
      refine ⟨_, rfl, _, rfl, o, _, rfl, .inl (SqL.of jo), _, _, rfl, rfl, (by rw [el]; omega), ?_⟩
      have ev : (fun i j : Int => V.int (i % j)) m.1 (((tw.1.map V.int).length : Nat) : Int) = V.int (((m.1 % (bs.length : Int)).toNat : Nat) : Int) := by
        show V.int _ = _
        rw [el, Int.toNat_of_nonneg h0]
      rw [ev]
      generalize hr : (m.1 % (bs.length : Int)).toNat = r at hr1
      have nm : tellStep bs.length tw m = (tw.1.set r m.2, if m.2 = tw.1.getD r 0 then tw.2 else tw.2 ++ [m]) := by
        unfold tellStep
        rw [hr]
      rw [nm] at tn
      have gd : tw.1.getD r 0 = tw.1[r] := by rw [List.getD_eq_getElem?_getD, List.getElem?_eq_getElem hr1]; rfl
      refine ⟨fun σ J2 => ∃ us : List Addr, σ = [some (.ref a), some (.ref c), some (.ref o), some (.ref q), some (.int m.1), some (.int m.2), some (.int (r : Nat))] ∧ J2 o = some (.lst (tw.1.map V.int)) ∧ J2 q = some (.lst (us.map V.ref)) ∧
        Tups J2 us (if m.2 = tw.1.getD r 0 then tw.2 else tw.2 ++ [m]) ∧ (∀ t ∈ us, H t = none) ∧ us.length ≤ i + 1 ∧ Same H J2, ?_, ?_⟩
      · refine ⟨_, rfl, _, rfl, _, rfl, o, _, _, _, rfl, rfl, SqL.of jo, atI_nat (j := r) (v := V.int tw.1[r]) (by rw [List.getElem?_map, List.getElem?_eq_getElem hr1]; rfl), rfl, _, rfl, ?_⟩
        have ei : decide (V.int m.2 = V.int tw.1[r]) = decide (m.2 = tw.1.getD r 0) := by
          rw [gd, decide_eq_decide]
          exact ⟨fun e => by injection e, fun e => by rw [e]⟩
        rw [ei]
        by_cases hc' : m.2 = tw.1.getD r 0
        · rw [decide_eq_true hc']
          refine ⟨us, rfl, jo, jq, ?_, jf, by omega, sJ⟩
          rw [if_pos hc']
          exact ju
        · rw [decide_eq_false hc']
          refine ⟨_, rfl, .inl ⟨rfl, _, SqL.of jq⟩, _, rfl, _, rfl, (by show 2 ≤ sizeLine; decide), fun e ne => ⟨q, _, _, rfl, rfl, by rw [upd_ne (ne_of_none jq ne)]; exact jq, by rw [List.length_map]; exact small1000 (by omega), us ++ [e], rfl, ?_, ?_, ?_, fun t ht => ?_, by rw [List.length_append]; show us.length + 1 ≤ i + 1; omega, fun b u hb => ?_⟩⟩
          · rw [upd_ne oq, upd_ne (ne_of_none jo ne)]
            exact jo
          · rw [upd_same, List.map_append]
            rfl
          · rw [if_neg hc']
            refine Tups.put (q := q) (ys := us.map V.ref) (Tups.snoc (ju.same (same_new ne)) upd_same) ?_
            rw [upd_ne (ne_of_none jq ne)]
            exact jq
          · rcases List.mem_append.mp ht with ht | ht
            · exact jf t ht
            · obtain rfl := List.mem_singleton.mp ht
              exact sJ.free ne
          · rw [upd_ne (ne_of_none hb hqH), upd_ne (ne_of_none (sJ _ _ hb) ne)]
            exact sJ _ _ hb
      · rintro σ J2 ⟨us2, rfl, ko, kq, ku, kf, kl, sK⟩
        refine ⟨_, rfl, _, rfl, _, rfl, o, _, (r : Nat), r, rfl, rfl, ko, ?_, ?_⟩
        · exact ixN_at (by rw [List.length_map]; exact hr1)
        have hob : ∀ {b u}, H b = some u → b ≠ o := fun {b u} hb => ne_of_none hb ho
        refine ⟨_, _, _, us2, rfl, ?_, ?_, ?_, kf, kl, fun b u hb => ?_⟩
        · rw [upd_same, tn, ← List.map_set]
        · rw [upd_ne oq.symm]
          exact kq
        · rw [tn]
          refine Tups.put (ys := tw.1.map V.int) ku ko
        · rw [upd_ne (hob hb)]
          exact sK _ _ hb
    · rintro σ J ⟨y1, y2, y3, us, rfl, jo, jq, ju, jf, jl, sJ⟩
      rw [List.length_map, tl, List.take_length] at ju
      exact ⟨_, rfl, k _ q us sJ hqH jf jq ju⟩
end

def spLanes (L : Addr) (K : PySem.W.Frag) : Sp := fun vs H Q _ => ∃ (a c : Addr) (bs : List Int) (ts : List Addr) (cs : List (Int × Int)), vs = [.ref a, .ref c] ∧ SqL K H a (bs.map V.int) ∧ SqL K H c (ts.map V.ref) ∧ Tups H ts cs ∧ 0 < bs.length ∧ bs.length ≤ 12 ∧ cs.length ≤ 999 ∧
  ∀ (H' : Hp) (q : Addr) (las : List Addr), Same H H' → H q = none → H' q = some (.lst (las.map V.ref)) → las.length = bs.length → (∀ l ∈ las, H l = none) → (∀ av o, H av = some o → LanesAt L av H' las bs cs) → Q (.ref q) H'
section
variable {P : Program} {w : World} {K : PySem.W.Frag} {mg : Str → Option Value} {base : Heap}
theorem ok_lanes {f L fI : Addr} {fd dI : FuncData} (F : Fun K "lanes_of" "lanes_of" sLanes f fd) (T : Blt mg) (ne : mg "enumerate" = none) (ZL : LaC K mg L) (ML : Mk K L fI) (GLI : FnOk P w K mg base CX0 1 fI dI ["self", "rest", "step", "offset", "changes"] (spLaneI L K)) (bLI : Binds K dI ["self", "rest", "step", "offset", "changes"] []) :
    FnOk P w K mg base CX0 3 f fd ["base", "changes"] (spLanes L K) := by
  refine F.ok scLanes (fun vs H Q E h => ?_) (fun cdv A outer s H vs Q E hr h => ?_)
  · obtain ⟨a, c, bs, ts, cs, rfl, _⟩ := h
    rfl
  · obtain ⟨a, c, bs, ts, cs, rfl, ha, hc, tp, l0, l1, l2, k⟩ := h
    refine ⟨_, pss_cons (ps_setLc (i := 2) (own := [("_", 5)]) (g := gName 5) (tt := tYes) rfl scLanes.nd rfl rfl (sw_true rfl rfl rfl (by decide +kernel)) (pi_list (pv 0))
          (blkOk_by (N := ["base", "changes", "shares", "moment", "offset", "_", "rest", "share"]) (sc := defScope sLanes) (by decide +kernel)) (fun _ _ _ _ _ => pg_name (i := 5) scLanes.nd rfl (.inl rfl)) (fun _ _ _ _ _ => pts_nil)
          (fun _ _ _ _ _ => (pe_lst pa_nil)))
      (pss_cons (ps_for PassesOwn.never rfl (pi_list (pv 1)) (pg_tup rfl (pgs_cons (pg_name (i := 3) scLanes.nd rfl (.inl rfl)) (pgs_cons (pg_name (i := 4) scLanes.nd rfl (.inl rfl)) pgs_nil)))
        (pss_one (ps_expr (pe_bm PySem.F.plainAttrs_list PySem.F.slot_list_append PySem.F.type_list_append mt_append (pe_ix ix_list (pv 2) (pe_op op_mod (pv 3) (pe_callB call_len_seq (by rfl) T.len PySem.boot_len (pa_cons (pv 0) pa_nil))) (fun _ _ => rfl)) (pa_cons (pe_tup (pa_cons (pv 3) (pa_cons (pv 4) pa_nil))) pa_nil)))))
      (pss_one (ps_ret (pe_lc (own := [("rest", 6), ("share", 7)]) (g := gTup K 2 (gCons (gName 6) (gCons (gName 7) gNil))) (tt := tYes) rfl scLanes.nd (pi_enum (by rfl) ne (pa_cons (pv 2) pa_nil))
          (blkOk_by (N := ["base", "changes", "shares", "moment", "offset", "_", "rest", "share"]) (sc := defScope sLanes) (by decide +kernel)) (fun _ _ _ _ _ => pg_tup rfl (pgs_cons (pg_name (i := 6) scLanes.nd rfl (.inl rfl)) (pgs_cons (pg_name (i := 7) scLanes.nd rfl (.inl rfl)) pgs_nil))) (fun _ _ _ _ _ => pts_nil)
          (fun _ _ _ _ _ => (pe_make ML GLI hr (by rfl) ZL.at_ bLI .nil pass0 (pa_cons (pv 6) (pa_cons (pe_callB (r := rLen K) call_len_seq (by rfl) T.len PySem.boot_len (pa_cons (pv 0) pa_nil)) (pa_cons (pe_ix (r := rIxL K) ix_list (pv 0) (pv 6) (fun _ _ => rfl)) (pa_cons (pv 7) pa_nil)))))))))), ?_⟩
    refine ⟨_, rfl, a, rfl, ⟨_, ha⟩, fun D hD => lc_list (K := K) (a := a) (xs := bs.map V.int) (fun i J => ∃ ss : List Addr, J D = some (.lst (ss.map V.ref)) ∧ ss.length = i ∧ (∀ t ∈ ss, J t = some (.lst []) ∧ t ≠ D ∧ H t = none) ∧ ss.Nodup ∧ Same H J) ⟨[], upd_same, rfl, (fun t ht => nomatch ht), .nil, same_new hD⟩
      (fun i J _ ⟨_, _, _, _, _, h⟩ => h.seq ha) ?_ ?_⟩
    · rintro i v J hi ⟨ss, hJ, hl, hs, nd, sJ⟩
      refine ⟨rfl, (by show 0 ≤ sizeLine; decide), fun e ne => ?_⟩
      have De : D ≠ e := ne_of_none hJ ne
      have hi2 : i < bs.length := by
        have := (List.getElem?_eq_some_iff.mp hi).1
        simpa using this
      refine ⟨_, by rw [upd_ne De]; exact hJ, by rw [List.length_map, hl]; exact small1000 (by omega), ss ++ [e], ?_, ?_, fun t ht => ?_, ?_, fun b o h => ?_⟩
      · rw [upd_same, List.map_append]
        rfl
      · rw [List.length_append, hl]
        rfl
      · rcases List.mem_append.mp ht with ht | ht
        · obtain ⟨h1, h2, h3⟩ := hs t ht
          refine ⟨?_, h2, h3⟩
          rw [upd_ne h2, upd_ne (ne_of_none h1 ne)]
          exact h1
        · obtain rfl := List.mem_singleton.mp ht
          refine ⟨?_, De.symm, sJ.free ne⟩
          rw [upd_ne De.symm]
          exact upd_same
      · refine List.nodup_append.mpr ⟨nd, by simp, fun x hx y hy e2 => ?_⟩
        obtain rfl := List.mem_singleton.mp hy
        exact ne_of_none (hs x hx).1 ne e2
      · rw [upd_ne (ne_of_none h hD), upd_ne (ne_of_none (sJ _ _ h) ne)]
        exact sJ _ _ h
    · rintro J ⟨ss, hJ, hl, hs, nd, sJ⟩
      rw [List.length_map] at hl
      have tl := tp.len
      refine ⟨_, rfl, c, rfl, ⟨_, sJ.seq hc⟩, for_it (walk_list (K := K) (a := c) (xs := ts.map V.ref)) (fun i σ J2 => ∃ (y3 y4 : Option V) (us : Nat → List Addr), σ = [some (.ref a), some (.ref c), some (.ref D), y3, y4, none, none, none] ∧ J2 D = some (.lst (ss.map V.ref)) ∧
        (∀ (j : Nat) (t : Addr), ss[j]? = some t → J2 t = some (.lst ((us j).map V.ref)) ∧ Tups J2 (us j) (share (cs.take i) bs.length j) ∧ (us j).length ≤ i) ∧ Same H J2) ⟨none, none, fun _ => [], rfl, hJ, (fun j t e => ⟨(hs t (List.mem_of_getElem? e)).1, trivial, Nat.zero_le _⟩), sJ⟩ (fun i σ J2 _ ⟨_, _, _, _, _, _, h⟩ => h.seq hc) ?_ ?_⟩
      · rintro i v σ J2 J' hi ⟨y3, y4, us, rfl, hJ2, hu, sK⟩ ⟨rfl, hy⟩
        have hi' : i < ts.length := by simpa using hi
        rw [List.getElem?_map, List.getElem?_eq_getElem hi'] at hy
        obtain rfl := Option.some.inj hy
        obtain ⟨m, hm, hm2⟩ := (tp.same sK).get (List.getElem?_eq_getElem hi')
        have et : cs.take (i + 1) = cs.take i ++ [m] := by rw [List.take_add_one, hm]; rfl
        have h0 := Int.emod_nonneg m.1 (show (bs.length : Int) ≠ 0 by omega)
        have h1 := Int.emod_lt_of_pos m.1 (show (0 : Int) < bs.length by omega)
        have hr1 : (m.1 % (bs.length : Int)).toNat < ss.length := by omega
        have ej : m.1 % (((bs.map V.int).length : Nat) : Int) = (((m.1 % (bs.length : Int)).toNat : Nat) : Int) := by
          rw [List.length_map]
          omega
        have er : ((m.1 % (bs.length : Int)).toNat : Int) = m.1 % (bs.length : Int) := Int.toNat_of_nonneg h0
        generalize hrr : (m.1 % (bs.length : Int)).toNat = r at hr1 ej er
        obtain ⟨hr2, hr3, hr4⟩ := hu r ss[r] (List.getElem?_eq_getElem hr1)
        refine ⟨_, _, rfl, .inl (.inl hm2), rfl, _, _, rfl, _, [], rfl, rfl, ?_⟩
        refine ⟨_, rfl, _, rfl, _, rfl, a, _, rfl, .inl (sK.seq ha), _, _, rfl, rfl, (by rw [List.length_map]; omega), D, _, _, _, rfl, rfl, SqL.of hJ2, at_of (j := r) (v := V.ref ss[r]) ej (by rw [List.getElem?_map, List.getElem?_eq_getElem hr1]; rfl),
          .inl ⟨rfl, _, SqL.of hr2⟩, _, rfl, _, rfl, (by show 2 ≤ sizeLine; decide), fun e ne => ⟨ss[r], _, _, rfl, rfl, by rw [upd_ne (ne_of_none hr2 ne)]; exact hr2, by rw [List.length_map]; exact small1000 (by omega), ?_⟩⟩
        have hsD : ss[r] ≠ D := (hs _ (List.getElem_mem hr1)).2.1
        have sE := same_new (o := .tup [.int m.1, .int m.2]) ne
        have hsE := sE _ _ hr2
        refine ⟨_, _, fun j => if j = r then us j ++ [e] else us j, rfl, ?_, fun j t ht => ?_, fun b u hb => ?_⟩
        · rw [upd_ne hsD.symm]
          exact sE _ _ hJ2
        · obtain ⟨k1, k2, k3⟩ := hu j t ht
          have sh : share (cs.take (i + 1)) bs.length j = share (cs.take i) bs.length j ++ if (r : Int) = j then [m] else [] := by
            rw [et]
            unfold share
            rw [List.filter_append]
            congr 1
            rw [List.filter_cons, List.filter_nil, ← er]
            by_cases q : (r : Int) = j
            · rw [if_pos q, if_pos (decide_eq_true q)]
            · rw [if_neg q, if_neg (by rw [decide_eq_false q]; decide)]
          rw [sh]
          by_cases q : j = r
          · subst q
            rw [List.getElem?_eq_getElem hr1] at ht
            obtain rfl := Option.some.inj ht
            have q1 : (fun k => if k = j then us k ++ [e] else us k) j = us j ++ [e] := if_pos rfl
            rw [if_pos rfl, q1]
            refine ⟨by rw [upd_same, List.map_append]; rfl, ?_, by rw [List.length_append]; show _ + 1 ≤ i + 1; omega⟩
            exact Tups.put (Tups.snoc (k2.same sE) upd_same) hsE
          · have tr : t ≠ ss[r] := fun z => by
              have hjl := (List.getElem?_eq_some_iff.mp ht).1
              have z2 : ss[j] = ss[r] := by
                have := (List.getElem?_eq_some_iff.mp ht).2
                rw [this, z]
              exact q ((List.getElem_inj nd).mp z2)
            have q1 : (fun k => if k = r then us k ++ [e] else us k) j = us j := if_neg q
            rw [q1, if_neg (fun z => q (by omega)), List.append_nil]
            refine ⟨by rw [upd_ne tr]; exact sE _ _ k1, Tups.put (k2.same sE) hsE, by omega⟩
        · have hn := (hs _ (List.getElem_mem hr1)).2.2
          rw [upd_ne (ne_of_none hb hn)]
          exact sE _ _ (sK _ _ hb)
      · rintro σ J2 ⟨y3, y4, us, rfl, hJ, hu, sJ⟩
        rw [List.length_map, tl, List.take_length] at hu
        refine ⟨_, rfl, D, _, rfl, SqL.of hJ, fun D2 hD2 => ?_⟩
        refine lc_it (walk_enum (K := K) (a := D) (xs := ss.map V.ref)) (fun i I => ∃ las : List Addr, I D2 = some (.lst (las.map V.ref)) ∧ las.length = i ∧ (∀ l ∈ las, H l = none) ∧ (∀ av, (av = D2 ∨ ∃ o, H av = some o) → ∀ (j : Nat) (a : Addr) (v : Int), las[j]? = some a → bs[j]? = some v → LaneAt L av I a j bs.length v (share cs bs.length j)) ∧ Same J2 I)
          ⟨[], upd_same, rfl, (fun t ht => nomatch ht), (fun av _ j a v e => by rw [List.getElem?_nil] at e; cases e), same_new hD2⟩ (fun i I _ ⟨_, _, _, _, _, h⟩ => SqL.of (h _ _ hJ)) ?_ ?_
        · rintro i v I I' hi ⟨las, hI, lI, fr, la, sI⟩ ⟨T', x1, x2, rfl, nT, rfl, e1, e2⟩
          obtain rfl := Option.some.inj e1
          have hi' : i < ss.length := by simpa using hi
          replace e2 : (List.map _ _)[i]? = some x2 := e2
          rw [List.getElem?_map, List.getElem?_eq_getElem hi'] at e2
          obtain rfl := Option.some.inj e2
          have sT := same_new (o := .tup [.int (i : Nat), .ref ss[i]]) nT
          have hb : i < bs.length := by omega
          have sIT := sI.trans sT
          have sA := (sJ.trans sIT)
          obtain ⟨hS0, tpS, lnS⟩ := hu i ss[i] (List.getElem?_eq_getElem hi')
          have hS := sIT _ _ hS0
          refine ⟨T', _, rfl, .inl (.inl upd_same), rfl, _, _, rfl, _, [], rfl, rfl, rfl, ?_⟩
          refine ⟨_, rfl, _, rfl, a, _, rfl, .inl (sA.seq ha), _, rfl, _, rfl, a, _, _, _, rfl, rfl, sA.seq ha, atI_nat (j := i) (v := V.int bs[i]) (by rw [List.getElem?_map, List.getElem?_eq_getElem hb]; rfl), _, rfl, fun x dx hx hd dn => ?_⟩
          have s1 := same_new (o := HO.own x) hd
          have hx1 : upd (upd I T' (.tup [.int (i : Nat), .ref ss[i]])) dx (.own x) x = none := by rw [upd_ne dn.symm]; exact hx
          have s2 := same_new (o := .ins L dx []) hx1
          have s012 := sIT.trans (s1.trans s2)
          have hxn := (sT.trans s1).trans s2
          refine ⟨x, dx, ss[i], _, _, _, us i, share cs bs.length i, rfl, upd_same, SqL.of ((s1.trans s2) _ _ hS), ne_of_none hS hx, tpS.same s012, by have := tpS.len; omega, fun H' lane keep => ⟨rfl, ?_⟩⟩
          · have D2x : D2 ≠ x := fun z => by rw [← z, sT _ _ hI] at hx; cases hx
            have nx : ∀ {b o}, I b = some o → b ≠ x := fun {b o} e z => by rw [← z, sT _ _ e] at hx; cases hx
            have kp : ∀ b o, I b = some o → H' b = some o := fun b o e => keep _ _ (hxn _ _ e) (nx e)
            have hI' := kp _ _ hI
            refine ⟨_, hI', by rw [List.length_map, lI]; exact small1000 (by omega), las ++ [x], ?_, ?_, fun l hl => ?_, fun av hav j a' v' ea eb => ?_, fun b o e => ?_⟩
            · rw [upd_same, List.map_append]
              rfl
            · rw [List.length_append, lI]
              rfl
            · rcases List.mem_append.mp hl with hl | hl
              · exact fr l hl
              · obtain rfl := List.mem_singleton.mp hl
                exact sA.free hx
            · have fD : Fr D2 H' (upd H' D2 (.lst (las.map V.ref ++ [.ref x]))) := Fr.at_
              have avx : av ≠ x := by
                rcases hav with rfl | ⟨o, ho⟩
                · exact D2x
                · exact nx (sI _ _ (sJ _ _ ho))
              have avs : ∃ o, upd (upd (upd I T' (.tup [.int (i : Nat), .ref ss[i]])) dx (.own x)) x (.ins L dx []) av = some o := by
                rcases hav with rfl | ⟨o, ho⟩
                · exact ⟨_, hxn _ _ hI⟩
                · exact ⟨_, hxn _ _ (sI _ _ (sJ _ _ ho))⟩
              obtain ⟨o2, ho2⟩ := avs
              have both : LaneAt L av H' a' j bs.length v' (share cs bs.length j) ∧ LaneAt L D2 H' a' j bs.length v' (share cs bs.length j) := by
                rcases Nat.lt_or_ge j las.length with hj | hj
                · rw [List.getElem?_append_left hj] at ea
                  have h1 := la av hav j a' v' ea eb
                  have h2 := la D2 (.inl rfl) j a' v' ea eb
                  exact ⟨h1.same kp, h2.same kp⟩
                · have hj2 : j = las.length := by
                    have := (List.getElem?_eq_some_iff.mp ea).1
                    rw [List.length_append] at this
                    simp at this
                    omega
                  subst hj2
                  rw [List.getElem?_append_right (Nat.le_refl _), Nat.sub_self] at ea
                  obtain rfl := Option.some.inj ea
                  rw [lI, List.getElem?_eq_getElem hb] at eb
                  obtain rfl := Option.some.inj eb
                  rw [lI]
                  have z1 := lane av _ ho2 avx
                  have z2 := lane D2 _ (hxn _ _ hI) D2x
                  rw [List.length_map] at z1 z2
                  exact ⟨z1, z2⟩
              obtain ⟨z1, z2⟩ := both
              exact z1.mix z2 fD
            · have := kp _ _ (sI _ _ e)
              rw [upd_ne (ne_of_none e hD2)]
              exact this
        · rintro I ⟨las, hI, lI, fr, la, sI⟩
          rw [List.length_map, hl] at lI
          exact k I D2 las (sJ.trans sI) (sJ.free hD2) hI lI fr fun av o ho i a v e1 e2 => la av (.inr ⟨o, ho⟩) i a v e1 e2
end

def spBesideG : Sp := fun vs H Q _ => ∃ (a : Addr) (cs : List Int) (n z : Int), vs = [.ref a, .int n, .int z] ∧ H a = some (.lst (cs.map V.int)) ∧ 0 ≤ n ∧ cs.length + n.toNat ≤ 2030 ∧ (-(2 ^ 60) ≤ z ∧ z ≤ 2 ^ 60 ∧ n ≤ 12) ∧
  ∀ (H' : Hp) (q : Addr) (ks : List Int), Same H H' → H q = none → H' q = some (.lst (ks.map V.int)) → ks.length ≤ 4060 → Q (.ref q) H'
/-- values rise from each moment to the next one -/
def RisesC (bs : List Int) (cs : List (Int × Int)) : Prop := ∀ t : Int, offAt bs cs t ≤ offAt bs cs (t + 1) + 1
def spAscend (K : PySem.W.Frag) : Sp := fun vs H Q _ => ∃ (c : Addr) (ts : List Addr) (cs : List (Int × Int)), vs = [.ref c] ∧ SqL K H c (ts.map V.ref) ∧ Tups H ts cs ∧ cs.length ≤ 990 ∧ (cs.Pairwise fun a b => a.1 < b.1) ∧ Q .non H
def spRising (R L : Addr) : Sp := fun vs H Q _ => ∃ (x av : Addr) (bs : List Int) (cs : List (Int × Int)), vs = [.ref x] ∧ RuAt R L av H x bs cs ∧ 0 < bs.length ∧ bs.length ≤ 12 ∧ cs.length ≤ 990 ∧ Asc cs ∧ RisesC bs cs ∧ ∀ H', Same H H' → Q .non H'
section
variable {P : Program} {w : World} {K : PySem.W.Frag} {mg : Str → Option Value} {base : Heap}
theorem ok_ascend {f fB : Addr} {fd dB : FuncData} (F : Fun K "check_ascending" "check_ascending" sAscend f fd) (T : Blt mg) (B : At P w K mg base 1 "is_behind" ["changes", "index"] (spBehind K) fB dB) : FnOk P w K mg base CX0 2 f fd ["changes"] (spAscend K) := by
  refine F.ok scAscend (fun vs H Q E h => ?_) (fun cdv A outer s H vs Q E hr h => ?_)
  · obtain ⟨c, ts, cs, rfl, _⟩ := h
    rfl
  · obtain ⟨c, ts, cs, rfl, hc, tp, l1, asc, q⟩ := h
    refine ⟨_, pss_one (ps_for PassesOwn.never rfl (pi_range1 (by rfl) T.range (pa_cons (pe_callB call_len_seq (by rfl) T.len PySem.boot_len (pa_cons (pv 0) pa_nil)) pa_nil)) (pg_name (i := 1) scAscend.nd rfl (.inl rfl))
        (pss_one (ps_if (pt_not (pt_val (pe_call B.ok hr (by rfl) B.at_ B.kp B.bi .nil pass0 (pa_cons (pv 0) (pa_cons (pv 1) pa_nil)))))
          (pss_one ps_never)
          pss_nil))), ?_⟩
    have tl := tp.len
    refine ⟨_, rfl, c, _, rfl, .inl hc, _, rfl, (by rw [List.length_map]; omega), (by rw [List.length_map]; omega), for_range (lo := 0) (fun i σ J => J = H ∧ ∃ y : Option V, σ = [some (.ref c), y]) ⟨rfl, _, rfl⟩ ?_ ?_⟩
    · rintro i σ J hi ⟨rfl, y, rfl⟩
      have hi' : i < cs.length := by
        rw [List.length_map, Int.toNat_natCast] at hi
        omega
      refine ⟨_, rfl, _, rfl, ⟨c, ts, cs, i, (by rw [Int.zero_add]; rfl), hc, tp, hi', ?_⟩⟩
      rw [behind_fit asc hi']
      exact ⟨_, rfl, rfl, _, rfl⟩
    · rintro σ J ⟨rfl, y, rfl⟩
      exact q
theorem scBeside : FnScope ["cuts", "week", "centre", "parted", "cut", "moment"] ["cuts", "week", "centre"] (defScope sBeside) := ⟨rfl, rfl, rfl, by decide +kernel, rfl, by decide +kernel, by decide +kernel⟩
theorem rgV_ints (a b : Int) : rgV a b = ((List.range (b - a).toNat).map fun i : Nat => a + (i : Int)).map V.int := by
  unfold rgV
  rw [List.map_map]
  rfl
theorem ok_besideG {f : Addr} {fd : FuncData} (F : FunD K "beside" "beside" (defArgs sBeside) (defBody sBeside) (defScope sBeside) [.int 0] [] f fd) (T : Blt mg) (T5 : Blt5 mg) : FnOk P w K mg base CX0 1 f fd ["cuts", "week", "centre"] spBesideG := by
  refine F.ok scBeside (fun vs H Q E h => ?_) (fun cdv A outer s H vs Q E hr h => ?_)
  · obtain ⟨a, cs, n, z, rfl, _⟩ := h
    rfl
  · obtain ⟨a, cs, n, z, rfl, ha, n0, le, zb, k⟩ := h
    suffices hh : ∃ t, PSs (cxOf CX0 P w K mg base ["cuts", "week", "centre", "parted", "cut", "moment"] "beside" (defScope sBeside) f cdv A outer s H E).nox (defBody sBeside) t ∧ t { nx := fun _ H' => Q .non H', rt := Q } (start ["cuts", "week", "centre", "parted", "cut", "moment"] [V.ref a, V.int n, V.int z]) H by
      obtain ⟨t, h1, h2⟩ := hh
      exact ⟨t, h1.nox, h2⟩
    refine ⟨_, pss_cons (ps_set (i := 3) scBeside.nd rfl (.inl rfl) (pe_op op_cat (pv 0) (pe_listRg rfl (by rfl) T.list (prg_2 (by rfl) T.range (pv 2) (pe_op op_add (pv 2) (pv 1))))))
      (pss_one (ps_ret (pe_callB (cr_sortedSetI rfl) (by rfl) T5.sorted (by decide +kernel) (pa_cons (pe_sc2 (own := [("cut", 4), ("moment", 5)]) (us := [5]) (g := gName 4) (gj := gName 5) (tt := tYes) (tj := tYes) (te := tVar 5) (wj := iTup K _) rfl scBeside.nd
        (pi_list (pv 3))
        (blkOk_by (N := ["cuts", "week", "centre", "parted", "cut", "moment"]) (sc := defScope sBeside) (by decide +kernel)) (by decide)
        (fun _ _ _ _ _ => pg_name (i := 4) scBeside.nd rfl (.inl rfl)) (fun _ _ _ _ _ => pts_nil)
        (fun _ _ _ _ _ => pi_tup (pe_tup (pa_cons (pv 4) (pa_cons (pe_op op_sub (pv 4) (pv 1)) pa_nil))))
        (fun _ _ _ _ _ => pg_name (i := 5) scBeside.nd rfl (.inl rfl)) (fun _ _ _ _ _ => pts_nil)
        (fun _ _ _ _ _ => pv 5)) pa_nil)))), ?_⟩
    refine ⟨_, rfl, _, rfl, _, rfl, _, rfl, _, _, rfl, rfl, _, _, rfl, rfl, ⟨by omega, by omega, by omega, by omega, by omega⟩, fun r hr1 => ?_⟩
    have s1 := same_new (o := .lst (rgV z (z + n))) hr1
    have hrl : (rgV z (z + n)).length = n.toNat := by rw [rgV_length]; omega
    refine ⟨a, r, _, _, rfl, rfl, s1 _ _ ha, upd_same, by rw [List.length_map, hrl, sizeLine_eq]; omega, fun G nG => ?_⟩
    have eG : cs.map V.int ++ rgV z (z + n) = (cs ++ ((List.range (z + n - z).toNat).map fun i : Nat => z + (i : Int))).map V.int := by rw [rgV_ints, List.map_append]
    rw [eG]
    have gl : (cs ++ ((List.range (z + n - z).toNat).map fun i : Nat => z + (i : Int))).length ≤ 2030 := by
      rw [List.length_append, List.length_map, List.length_range]
      omega
    generalize cs ++ ((List.range (z + n - z).toNat).map fun i : Nat => z + (i : Int)) = gs at gl ⊢
    have s2 := same_new (o := .lst (gs.map V.int)) nG
    have hG := upd_same (H := upd H r (.lst (rgV z (z + n)))) (a := G) (o := .lst (gs.map V.int))
    have s12 := s1.trans s2
    generalize upd (upd H r (.lst (rgV z (z + n)))) G (.lst (gs.map V.int)) = H3 at hG s2 s12 ⊢
    refine ⟨_, rfl, G, rfl, ⟨_, SqL.of hG⟩, fun D hD => wk_lst (K := K) (a := G) (xs := gs.map V.int) (fun i J => ∃ (S : Int → Bool) (m : Nat), J D = some (SetO w D S m) ∧ m ≤ 2 * i ∧ Same H3 J)
      ⟨_, 0, upd_same, Nat.zero_le _, same_new hD⟩ (fun i J _ ⟨_, _, _, _, h⟩ => SqL.of (h _ _ hG)) ?_ ?_⟩
    · rintro i y J hi ⟨S, m, hJ, hm, sJ⟩
      have hi2 : i < gs.length := by
        have := (List.getElem?_eq_some_iff.mp hi).1
        simpa using this
      rw [List.getElem?_map, List.getElem?_eq_getElem hi2] at hi
      obtain rfl := Option.some.inj hi
      refine ⟨rfl, _, rfl, _, rfl, _, rfl, _, _, rfl, rfl, (by show 2 ≤ sizeLine; decide), fun q hq => ?_⟩
      have sq := same_new (o := .tup [.int gs[i], .int (gs[i] - n)]) hq
      have Dq : D ≠ q := ne_of_none hJ hq
      have hq2 := upd_same (H := J) (a := q) (o := .tup [.int gs[i], .int (gs[i] - n)])
      refine ⟨q, rfl, ⟨_, SqT.of hq2⟩, wk_tup (K := K) (a := q) (xs := [.int gs[i], .int (gs[i] - n)]) (fun j I => ∃ (S : Int → Bool) (m : Nat), I D = some (SetO w D S m) ∧ m ≤ 2 * i + j ∧ Fr D (upd J q (.tup [.int gs[i], .int (gs[i] - n)])) I)
        ⟨S, m, sq _ _ hJ, by omega, Fr.refl _ _⟩ (fun j I _ ⟨_, _, _, _, h⟩ => SqT.of (h _ _ hq2 Dq.symm)) ?_ ?_⟩
      · rintro j y I hj ⟨S2, m2, hI, hm2, fI⟩
        have hj2 := (List.getElem?_eq_some_iff.mp hj).1
        have hj3 : j < 2 := hj2
        have hv : ∃ v : Int, y = .int v := by
          match j, hj with
          | 0, e => exact ⟨_, (Option.some.inj e).symm⟩
          | 1, e => exact ⟨_, (Option.some.inj e).symm⟩
        obtain ⟨v, rfl⟩ := hv
        refine ⟨rfl, _, rfl, v, S2, m2, rfl, hI, (by show m2 + 1 < 4096; omega), _, _, upd_same, ?_, fI.trans Fr.at_⟩
        split <;> omega
      · rintro I ⟨S2, m2, hI, hm2, fI⟩
        have hm3 : m2 ≤ 2 * i + 2 := hm2
        exact ⟨S2, m2, hI, by omega, fun c o e => fI _ _ (sq _ _ (sJ _ _ e)) (ne_of_none e hD)⟩
    · rintro J ⟨S, m, hJ, hm, sJ⟩
      rw [List.length_map] at hm
      refine ⟨D, S, m, rfl, hJ, by omega, fun ks p asc mem len np => ?_⟩
      have s4 := same_new (o := .lst (ks.map V.int)) np
      exact k _ p ks ((s12.trans sJ).trans s4) ((s12.trans sJ).free np) upd_same (by omega)
theorem scRising : FnScope ["rule", "cuts", "falls", "moment", "cut"] ["rule"] (defScope sRising) := ⟨rfl, rfl, rfl, by decide +kernel, rfl, by decide +kernel, by decide +kernel⟩
theorem ok_rising {f R L fC fB fO p1 g1 : Addr} {fd dB dO d1 : FuncData} {dd : List Value} (F : Fun K "check_rising" "check_rising" sRising f fd) (Z : RuC K mg R) (Ch : AtR P w K mg base 3 "changed_moments" (spMoms (ThR R L)) fC)
    (Be : FnOk P w K mg base CX0 1 fB dB ["cuts", "week", "centre"] spBesideG) (mB : mg "beside" = some (.ref fB)) (kB : PySem.W.keepIn K (.ref fB) = true) (bB : Binds K dB ["cuts", "week", "centre"] dd) (rB : Vals [V.int 0] dd)
    (W1 : Pp P w K mg base R "week" (spRuWeek R L) p1 g1 d1) (hRO : Meth K R "offset" fO) (GRO : FnOk P w K mg base CX0 3 fO dO ["self", "moment"] (spRuOff R L)) (bRO : Binds K dO ["self", "moment"] []) :
    FnOk P w K mg base CX0 4 f fd ["rule"] (spRising R L) := by
  refine F.ok scRising (fun vs H Q E h => ?_) (fun cdv A outer s H vs Q E hr h => ?_)
  · obtain ⟨x, av, bs, cs, rfl, _⟩ := h
    rfl
  · obtain ⟨x, av, bs, cs, rfl, ru, l0, l1, l2, asc, rise, k⟩ := h
    have hr2 : Room 2 _ := hr.mono (by decide)
    have hr1 : Room 1 _ := hr.mono (by decide)
    refine ⟨_, pss_cons (ps_setLc2 (i := 1) (own := [("moment", 3), ("cut", 4)]) (vs1 := [4]) (g := gName 3) (g1 := gName 4) (tt := tYes) (tt1 := tYes) (wi1 := iTup K _) rfl scRising.nd rfl rfl (sw_true rfl rfl rfl (by decide +kernel)) (pi_list (pe_callR Ch.ok hr (by rfl) Ch.at_ Ch.kp pass0 (pa_cons (pv 0) pa_nil)))
          (blkOk_by (N := ["rule", "cuts", "falls", "moment", "cut"]) (sc := defScope sRising) (by decide +kernel)) (by decide) (fun _ _ _ _ _ => pg_name (i := 3) scRising.nd rfl (.inl rfl)) (fun _ _ _ _ _ => pts_nil)
          (fun _ _ _ _ _ => pi_tup (pe_tup (pa_cons (pe_op op_sub (pv 3) pe_int) (pa_cons (pv 3) pa_nil)))) (fun _ _ _ _ _ => pg_name (i := 4) scRising.nd rfl (.inl rfl)) (fun _ _ _ _ _ => pts_nil)
          (fun _ _ _ _ _ => (pv 4)))
      (pss_cons (ps_setLc (i := 2) (own := [("moment", 3)]) (g := gName 3) rfl scRising.nd rfl rfl (sw_true rfl rfl rfl (by decide +kernel)) (pi_list (pe_call Be hr1 (by rfl) mB kB bB rB pass0 (pa_cons (pv 1) (pa_cons (pe_prop (pv 0) Z.cl W1.of W1.ok hr2 W1.bi .nil pass0 rfl) pa_nil))))
          (blkOk_by (N := ["rule", "cuts", "falls", "moment", "cut"]) (sc := defScope sRising) (by decide +kernel)) (fun _ _ _ _ _ => pg_name (i := 3) scRising.nd rfl (.inl rfl)) (fun _ _ _ _ _ => pts_one ((pt_cmpR op_gt (pe_meth (pv 0) Z.cl hRO GRO hr bRO .nil pass0 (pa_cons (pv 3) pa_nil)) (pe_op op_add (pe_meth (pv 0) Z.cl hRO GRO hr bRO .nil pass0 (pa_cons (pe_op op_add (pv 3) pe_int) pa_nil)) pe_int) (nomark _))))
          (fun _ _ _ _ _ => (pv 3)))
      (pss_one (ps_if (pt_truth (pv 2) (fun _ => rfl))
        (pss_one ps_never)
        pss_nil))), ?_⟩
    refine ⟨_, rfl, [(x, cs)], rfl, (by show 1 ≤ 900; decide), fun z hz => ?_, (by show (allOf [(x, cs)]).length ≤ 2000; simp [allOf]; omega), fun H1 q1 ks s1 nq1 _ mem len h1 => ?_⟩
    · obtain rfl := List.mem_singleton.mp hz
      exact ⟨av, bs, ru⟩
    have kl : ks.length ≤ 990 := by
      have : (allOf [(x, cs)]).length = cs.length := by simp [allOf]
      omega
    refine ⟨q1, rfl, ⟨_, SqL.of h1⟩, fun D hD => wk_lst (K := K) (a := q1) (xs := ks.map V.int) (fun i J => ∃ xs : List Int, J D = some (.lst (xs.map V.int)) ∧ xs.length = 2 * i ∧ Same H1 J) ⟨[], upd_same, rfl, same_new hD⟩ (fun i J _ ⟨_, _, _, h⟩ => SqL.of (h _ _ h1)) ?_ ?_⟩
    · rintro i y J hi ⟨xs, hJ, xl, sJ⟩
      have hi2 : i < ks.length := by
        have := (List.getElem?_eq_some_iff.mp hi).1
        simpa using this
      rw [List.getElem?_map, List.getElem?_eq_getElem hi2] at hi
      obtain rfl := Option.some.inj hi
      refine ⟨rfl, _, rfl, _, _, rfl, rfl, _, rfl, (by show 2 ≤ sizeLine; decide), fun q hq => ?_⟩
      have sq := same_new (o := .tup [.int (ks[i] - 1), .int ks[i]]) hq
      have Dq : D ≠ q := ne_of_none hJ hq
      have hq2 := upd_same (H := J) (a := q) (o := .tup [.int (ks[i] - 1), .int ks[i]])
      refine ⟨q, rfl, ⟨_, SqT.of hq2⟩, wk_tup (K := K) (a := q) (xs := [.int (ks[i] - 1), .int ks[i]]) (fun j I => ∃ xs : List Int, I D = some (.lst (xs.map V.int)) ∧ xs.length = 2 * i + j ∧ Fr D (upd J q (.tup [.int (ks[i] - 1), .int ks[i]])) I)
        ⟨xs, sq _ _ hJ, by omega, Fr.refl _ _⟩ (fun j I _ ⟨_, _, _, h⟩ => SqT.of (h _ _ hq2 Dq.symm)) ?_ ?_⟩
      · rintro j y I hj ⟨xs2, hI, xl2, fI⟩
        have hj3 : j < 2 := (List.getElem?_eq_some_iff.mp hj).1
        have hv : ∃ v : Int, y = .int v := by
          match j, hj with
          | 0, e => exact ⟨_, (Option.some.inj e).symm⟩
          | 1, e => exact ⟨_, (Option.some.inj e).symm⟩
        obtain ⟨v, rfl⟩ := hv
        refine ⟨rfl, _, rfl, _, hI, by rw [List.length_map]; rw [sizeLine_eq]; omega, xs2 ++ [v], ?_, by rw [List.length_append, xl2]; rfl, fI.trans Fr.at_⟩
        rw [upd_same, List.map_append]
        rfl
      · rintro I ⟨xs2, hI, xl2, fI⟩
        have xl3 : xs2.length = 2 * i + 2 := xl2
        exact ⟨xs2, hI, by omega, fun c o e => fI _ _ (sq _ _ (sJ _ _ e)) (ne_of_none e hD)⟩
    rintro J ⟨xs, hJ, xl, sJ⟩
    rw [List.length_map] at xl
    have s12 := s1.trans sJ
    have hD2 := hJ
    have ru2 := ru.same s12
    obtain ⟨dx, b, c, l, _, _, hx, _⟩ := id ru2
    refine ⟨_, rfl, _, rfl, x, dx, _, rfl, hx, ⟨x, av, bs, cs, rfl, ru2, ⟨D, xs, _, 0, rfl, hD2, by omega, by omega, ⟨by decide, by decide, by omega⟩, fun H3 q3 ks s3 nq3 h3 lk => ?_⟩⟩⟩
    have s13 := s12.trans s3
    have ru3 := ru2.same s3
    have hx3 := s3 _ _ hx
    have nm := ruF_no b c l (x := "offset") (by decide +kernel) (by decide +kernel) (by decide +kernel)
    refine ⟨q3, rfl, ⟨_, SqL.of h3⟩, fun D2 hD2 => lc_list (K := K) (a := q3) (xs := ks.map V.int) (fun i J => J D2 = some (.lst []) ∧ Same H3 J) ⟨upd_same, same_new hD2⟩ (fun i J _ ⟨_, h⟩ => SqL.of (h _ _ h3)) ?_ ?_⟩
    · rintro i y J hi ⟨hJ, sJ⟩
      have hi2 : i < ks.length := by
        have := (List.getElem?_eq_some_iff.mp hi).1
        simpa using this
      rw [List.getElem?_map, List.getElem?_eq_getElem hi2] at hi
      obtain rfl := Option.some.inj hi
      have ruJ := ru3.same sJ
      have hxJ := sJ _ _ hx3
      refine ⟨rfl, _, rfl, x, dx, _, rfl, hxJ, nm, _, rfl, ⟨x, av, _, bs, cs, rfl, ruJ, l0, asc, ?_⟩⟩
      refine ⟨_, rfl, x, dx, _, rfl, hxJ, nm, _, rfl, _, _, rfl, rfl, ⟨x, av, _, bs, cs, rfl, ruJ, l0, asc, ?_⟩⟩
      refine ⟨_, _, rfl, rfl, _, _, rfl, rfl, false, ?_, hJ, sJ⟩
      have := rise ks[i]
      show V.bl _ = V.bl false
      rw [decide_eq_false (by omega)]
    · rintro J ⟨hJ, sJ⟩
      exact ⟨_, rfl, false, .inl ⟨[], SqL.of hJ, rfl⟩, ite2 (fun g => by cases g) (fun _ => k _ (s13.trans sJ))⟩
end

theorem tell_sub (bs : List Int) (cs : List (Int × Int)) : (tell bs cs).2.Sublist cs := by
  suffices h : ∀ (p : List Int × List (Int × Int)) (n : Int) (ds : List (Int × Int)), p.2.Sublist ds → (cs.foldl (tellStep n) p).2.Sublist (ds ++ cs) from by
    have := h (bs, []) bs.length [] (List.Sublist.refl _)
    simpa [tell] using this
  induction cs with
  | nil => intro p n ds h; simpa using h
  | cons c cs ih =>
    intro p n ds h
    rw [List.foldl_cons]
    have : (tellStep n p c).2.Sublist (ds ++ [c]) := by
      unfold tellStep
      show (if c.2 = p.1.getD (c.1 % n).toNat 0 then p.2 else p.2 ++ [c]).Sublist _
      split
      · exact h.trans (List.sublist_append_left _ _)
      · exact h.append (List.Sublist.refl _)
    have := ih _ n _ this
    simpa using this
theorem tell_asc {bs : List Int} {cs : List (Int × Int)} (h : cs.Pairwise fun a b => a.1 < b.1) : Asc (tell bs cs).2 := by
  refine List.pairwise_map.mpr ((h.sublist (tell_sub bs cs)).imp fun {a b} q => ?_)
  omega
def spRuI (R L : Addr) (K : PySem.W.Frag) : Sp := fun vs H Q _ => ∃ (x dx a c : Addr) (bs : List Int) (ts : List Addr) (cs : List (Int × Int)), vs = [.ref x, .ref a, .ref c] ∧ H x = some (.ins R dx []) ∧ H dx = some (.own x) ∧ dx ≠ x ∧ SqL K H a (bs.map V.int) ∧ SqL K H c (ts.map V.ref) ∧ Tups H ts cs ∧ a ≠ x ∧ c ≠ x ∧
  0 < bs.length ∧ bs.length ≤ 12 ∧ cs.length ≤ 990 ∧ (cs.Pairwise fun a b => a.1 < b.1) ∧ RisesC bs (tell bs cs).2 ∧
  ∀ H', (∀ av o, H av = some o → av ≠ x → RuAt R L av H' x bs (tell bs cs).2) → (∀ b o, H b = some o → b ≠ x → H' b = some o) → Q .non H'
section
variable {P : Program} {w : World} {K : PySem.W.Frag} {mg : Str → Option Value} {base : Heap}
theorem scRuI : FnScope ["self", "base", "changes"] ["self", "base", "changes"] (defScope sRuI) := ⟨rfl, rfl, rfl, by decide +kernel, rfl, by decide +kernel, by decide +kernel⟩
theorem ok_ruI {f R L fW fA fT fN fR : Addr} {fd dW dA dT dN dR : FuncData} (F : Fun K "__init__" "Rule.__init__" sRuI f fd) (Z : RuC K mg R) (T : Blt mg) (W : At P w K mg base 1 "check_week" ["number"] spChkW fW dW) (Ac : At P w K mg base 2 "check_ascending" ["changes"] (spAscend K) fA dA)
    (Te : At P w K mg base 1 "telling_changes" ["base", "changes"] (spTelling K) fT dT) (La : At P w K mg base 3 "lanes_of" ["base", "changes"] (spLanes L K) fN dN) (Ri : At P w K mg base 4 "check_rising" ["rule"] (spRising R L) fR dR) :
    FnOk P w K mg base CX0 5 f fd ["self", "base", "changes"] (spRuI R L K) := by
  refine F.ok scRuI (fun vs H Q E h => ?_) (fun cdv A outer s H vs Q E hr h => ?_)
  · obtain ⟨x, dx, a, c, bs, ts, cs, rfl, _⟩ := h
    rfl
  · obtain ⟨x, dx, a, c, bs, ts, cs, rfl, hx, hdx, dxx, ha, hc, tp, ax, cx, l0, l1, l2, asc, rise, k⟩ := h
    have tsub := tell_le bs cs
    have tasc := tell_asc (bs := bs) asc
    have hr1 : Room 1 _ := hr.mono (by decide)
    have hr2 : Room 2 _ := hr.mono (by decide)
    have hr3 : Room 3 _ := hr.mono (by decide)
    refine ⟨_, pss_cons (ps_expr (pe_call W.ok hr1 (by rfl) W.at_ W.kp W.bi .nil pass0 (pa_cons (pe_callB call_len_seq (by rfl) T.len PySem.boot_len (pa_cons (pv 1) pa_nil)) pa_nil)))
      (pss_cons (ps_expr (pe_call Ac.ok hr2 (by rfl) Ac.at_ Ac.kp Ac.bi .nil pass0 (pa_cons (pv 2) pa_nil)))
      (pss_cons (ps_fld (pv 0) (pe_callTy call_list_of (by rfl) T.list (by decide +kernel) (pa_cons (pv 1) pa_nil)) rfl)
      (pss_cons (ps_fld (pv 0) (pe_call Te.ok hr1 (by rfl) Te.at_ Te.kp Te.bi .nil pass0 (pa_cons (pv 1) (pa_cons (pv 2) pa_nil))) rfl)
      (pss_cons (ps_fld (pv 0) (pe_call La.ok hr3 (by rfl) La.at_ La.kp La.bi .nil pass0 (pa_cons (pe_fld (pv 0) rfl) (pa_cons (pe_fld (pv 0) rfl) pa_nil))) rfl)
      (pss_one (ps_expr (pe_call Ri.ok hr (by rfl) Ri.at_ Ri.kp Ri.bi .nil pass0 (pa_cons (pv 0) pa_nil)))))))), ?_⟩
    have el : (((bs.map V.int).length : Nat) : Int) = bs.length := by rw [List.length_map]
    refine ⟨_, rfl, a, _, rfl, .inl ha, ⟨_, rfl, by rw [el]; omega, by rw [el]; omega, ?_⟩⟩
    refine ⟨_, rfl, ⟨c, ts, cs, rfl, hc, tp, by omega, asc, ?_⟩⟩
    refine ⟨_, rfl, a, _, rfl, .inl ha, fun b hb => ?_⟩
    have s1 := same_new (o := .lst (bs.map V.int)) hb
    have bx : b ≠ x := fun z => by rw [z, hx] at hb; cases hb
    refine ⟨_, rfl, x, R, dx, _, rfl, s1 _ _ hx, Z.cl, Z.nb, (by show 0 < 1000; decide), ?_⟩
    have hb1 := upd_same (H := H) (a := b) (o := .lst (bs.map V.int))
    generalize upd H b (.lst (bs.map V.int)) = G1 at s1 hb1 ⊢
    generalize hH1 : upd G1 x (.ins R dx (putF "_base" (.ref b) [])) = H1
    have f1' : Fr x G1 H1 := by rw [← hH1]; exact Fr.at_
    have f1 : Fr x H H1 := (Fr.of s1).trans f1'
    have hx1 : H1 x = some (.ins R dx (putF "_base" (.ref b) [])) := by rw [← hH1]; exact upd_same
    have tp1 : Tups H1 ts cs := tp.imp fun t xs e => f1 _ _ e fun z => by rw [z, hx] at e; cases e
    refine ⟨_, rfl, _, rfl, ⟨a, c, bs, ts, cs, rfl, f1.seq ax ha, f1.seq cx hc, tp1, l0, by omega, by omega, fun G2 q us s2 nq uf hq tq => ?_⟩⟩
    generalize tell bs cs = told at rise k tsub tasc tq
    have qx : q ≠ x := fun z => by rw [z, hx1] at nq; cases nq
    refine ⟨_, rfl, x, R, dx, _, rfl, s2 _ _ hx1, Z.cl, Z.nc, (by show 1 < 1000; decide), ?_⟩
    generalize hH2 : upd G2 x (.ins R dx (putF "_changes" (.ref q) (putF "_base" (.ref b) []))) = H2
    have f2' : Fr x G2 H2 := by rw [← hH2]; exact Fr.at_
    have f2 : Fr x H H2 := (f1.trans (Fr.of s2)).trans f2'
    have hx2 : H2 x = some (.ins R dx (putF "_changes" (.ref q) (putF "_base" (.ref b) []))) := by rw [← hH2]; exact upd_same
    have hb2 := f2' _ _ (s2 _ _ (f1' _ _ hb1 bx)) bx
    have hq2 := f2' _ _ hq qx
    have tq2 : Tups H2 us told.2 := tq.imp fun t xs e => f2' _ _ e fun z => by rw [z, s2 _ _ hx1] at e; cases e
    refine ⟨_, rfl, x, R, dx, _, _, rfl, hx2, Z.cl, Z.nb, (by rw [lookup_putF, if_neg (by decide +kernel), lookup_putF, if_pos rfl]), _, rfl, x, R, dx, _, _, rfl, hx2, Z.cl, Z.nc, (by rw [lookup_putF, if_pos rfl]), ⟨b, q, bs, us, told.2, rfl, SqL.of hb2, SqL.of hq2, tq2, l0, l1, by omega, fun G3 l las s3 nl hl ll fr la => ?_⟩⟩
    have lx : l ≠ x := fun z => by rw [z, hx2] at nl; cases nl
    refine ⟨_, rfl, x, R, dx, _, rfl, s3 _ _ hx2, Z.cl, Z.nl, (by show 2 < 1000; decide), ?_⟩
    generalize hH3 : upd G3 x (.ins R dx (putF "_lanes" (.ref l) (putF "_changes" (.ref q) (putF "_base" (.ref b) [])))) = H3
    have f3' : Fr x G3 H3 := by rw [← hH3]; exact Fr.at_
    have f3 : Fr x H H3 := (f2.trans (Fr.of s3)).trans f3'
    have hx3 : H3 x = some (.ins R dx (ruF b q l)) := by rw [← hH3]; exact upd_same
    have hb3 := f3' _ _ (s3 _ _ hb2) bx
    have hq3 := f3' _ _ (s3 _ _ hq2) qx
    have hl3 := f3' _ _ hl lx
    have tq3 : Tups H3 us told.2 := (tq2.same s3).imp fun t xs e => f3' _ _ e fun z => by rw [z, s3 _ _ hx2] at e; cases e
    have ru : ∀ av, (∃ o, H av = some o) → av ≠ x → RuAt R L av H3 x bs told.2 := fun av ⟨o, ho⟩ nav => by
      refine ⟨dx, b, q, l, us, las, hx3, hb3, hq3, tq3, hl3, ll, fun i a v e1 e2 => ?_, fun z => nav z.symm, (fun z => ?_), (fun z => ?_), (fun z => ?_), fun t ht z => ?_⟩
      · exact (la av o (f2 _ _ ho nav) i a v e1 e2).mix (la x _ hx2 i a v e1 e2) f3'
      · rw [z, ho] at hb
        cases hb
      · rw [z, f1 _ _ ho nav] at nq
        cases nq
      · rw [z, f2 _ _ ho nav] at nl
        cases nl
      · have := uf t ht
        rw [z, f1 _ _ ho nav] at this
        cases this
    have ru0 := ru dx ⟨_, hdx⟩ dxx
    refine ⟨_, rfl, ⟨x, dx, bs, told.2, rfl, ru0, l0, l1, by omega, tasc, rise, fun H4 s4 => k H4 (fun av o ho nav => (ru av ⟨o, ho⟩ nav).same s4) fun c' o ho nc => s4 _ _ (f3 _ _ ho nc)⟩⟩
end

/-! ### data whose repr is short -/
structure Rp (d : PyData) (n k : Nat) : Prop where
  lv : d.leavesShort 42 = true
  sh : d.showable = true
  nd : d.hasDict = false
  dp : d.depth ≤ k
  bk : d.bulk ≤ n
structure RpA (xs : List PyData) (n k : Nat) : Prop where
  lv : PyData.leavesShortAll 42 xs = true
  sh : PyData.showableAll xs = true
  nd : PyData.hasDictAll xs = false
  dp : PyData.depthAll xs ≤ k
  bk : PyData.bulkAll xs ≤ n
theorem Rp.int {i : Int} (h0 : -10 ^ 40 < i) (h1 : i < 10 ^ 40) : Rp (.int i) 0 0 := by
  have h : i.natAbs < 10 ^ 40 := by omega
  refine ⟨?_, ?_, rfl, Nat.le_refl _, Nat.le_refl _⟩
  · refine decide_eq_true ?_
    have e := int_text_length_le10 (k := 40) (by decide) h
    show (Str.ofString (toString i)).length ≤ 42
    rw [PySem.ofString_length]
    omega
  · refine decide_eq_true ?_
    by_cases z : i.natAbs = 0
    · rw [z]
      decide
    · have : i.natAbs < 2 ^ 1920 := Nat.lt_trans h (by decide)
      exact (Nat.log2_lt z).mpr this
theorem Rp.bool (b : Bool) : Rp (.bool b) 0 0 := ⟨rfl, rfl, rfl, Nat.le_refl _, Nat.le_refl _⟩
theorem Rp.none : Rp .none 0 0 := ⟨rfl, rfl, rfl, Nat.le_refl _, Nat.le_refl _⟩
theorem Rp.mono {d : PyData} {n k n' k' : Nat} (h : Rp d n k) (g1 : n ≤ n') (g2 : k ≤ k') : Rp d n' k' := ⟨h.lv, h.sh, h.nd, Nat.le_trans h.dp g2, Nat.le_trans h.bk g1⟩
theorem RpA.mono {d : List PyData} {n k n' k' : Nat} (h : RpA d n k) (g1 : n ≤ n') (g2 : k ≤ k') : RpA d n' k' := ⟨h.lv, h.sh, h.nd, Nat.le_trans h.dp g2, Nat.le_trans h.bk g1⟩
theorem Rp.list {xs : List PyData} {n k : Nat} (h : RpA xs n k) : Rp (.list xs) n (k + 1) :=
  ⟨by simp only [PyData.leavesShort, h.lv], by simp only [PyData.showable, h.sh], by simp only [PyData.hasDict, h.nd], by simp only [PyData.depth]; have := h.dp; omega, by simp only [PyData.bulk]; exact h.bk⟩
theorem Rp.tup {xs : List PyData} {n k : Nat} (h : RpA xs n k) : Rp (.tuple xs) n (k + 1) :=
  ⟨by simp only [PyData.leavesShort, h.lv], by simp only [PyData.showable, h.sh], by simp only [PyData.hasDict, h.nd], by simp only [PyData.depth]; have := h.dp; omega, by simp only [PyData.bulk]; exact h.bk⟩
theorem RpA.nil : RpA [] 0 0 := ⟨rfl, rfl, rfl, Nat.le_refl _, Nat.le_refl _⟩
theorem RpA.cons {d : PyData} {xs : List PyData} {n k m j : Nat} (h : Rp d n k) (g : RpA xs m j) : RpA (d :: xs) (n + 1 + m) (k + j) :=
  ⟨by simp only [PyData.leavesShortAll, h.lv, g.lv, Bool.and_self], by simp only [PyData.showableAll, h.sh, g.sh, Bool.and_self], by simp only [PyData.hasDictAll, h.nd, g.nd, Bool.or_self],
    by simp only [PyData.depthAll]; have := h.dp; have := g.dp; omega, by simp only [PyData.bulkAll]; have := h.bk; have := g.bk; omega⟩
theorem RpA.all {n k : Nat} : ∀ {xs : List PyData}, (∀ d ∈ xs, Rp d n k) → RpA xs (xs.length * (n + 1)) k
  | [], _ => RpA.nil.mono (Nat.zero_le _) (Nat.zero_le _)
  | d :: xs, h => by
    have h1 := h d List.mem_cons_self
    have h2 := RpA.all (xs := xs) fun e he => h e (List.mem_cons_of_mem _ he)
    refine ⟨by simp only [PyData.leavesShortAll, h1.lv, h2.lv, Bool.and_self], by simp only [PyData.showableAll, h1.sh, h2.sh, Bool.and_self], by simp only [PyData.hasDictAll, h1.nd, h2.nd, Bool.or_self], ?_, ?_⟩
    · simp only [PyData.depthAll]
      have := h1.dp
      have := h2.dp
      omega
    · simp only [PyData.bulkAll]
      have := h1.bk
      have := h2.bk
      rw [List.length_cons, Nat.add_mul]
      omega
theorem Rp.fits {d : PyData} {n k : Nat} (h : Rp d n k) (g : n ≤ 300000) : d.shown.length ≤ sizeLine := by
  have e := PyData.shown_le_bulk 42 (by decide) d h.lv
  have := h.bk
  rw [sizeLine_eq]
  omega
def rRep2 (K : PySem.W.Frag) : List V → Hp → VK → Prop := fun xs H Q => ∃ (a : Addr) (d : PyData) (n k : Nat), xs = [.ref a] ∧ Dp K H (.ref a) d ∧ Rp d n k ∧ k ≤ 60 ∧ n ≤ 300000 ∧ Q (.str d.shown) H
theorem call_rep2 {X : Cx} (hgd : X.A.guards = some []) (hu : X.A.units + 64 < cLine) : CallR X (.builtin "repr") (rRep2 X.K) := by
  intro pins s σ H xs us Q I r h
  obtain ⟨a, d, n, k, e, hd, hr, hk, hn, q⟩ := h
  exact call_repr hgd hu pins s σ H xs us Q I r ⟨a, d, e, hd, hr.sh, hr.nd, Nat.le_trans hr.dp hk, hr.fits hn, q⟩
/-! ### which data stand where -/
def dInts (xs : List Int) : PyData := .list (xs.map PyData.int)
def dMarks (ms : List (Int × Int)) : PyData := .list (ms.map fun m => PyData.tuple [.int m.1, .int m.2])
theorem dpAll_ints {K : PySem.W.Frag} {H : Hp} : ∀ xs : List Int, DpAll K H (xs.map V.int) (xs.map PyData.int)
  | [] => .nil
  | x :: xs => .cons (.int x) (dpAll_ints xs)
theorem dp_ints {K : PySem.W.Frag} {H : Hp} {a : Addr} {xs : List Int} (h : SqL K H a (xs.map V.int)) : Dp K H (.ref a) (dInts xs) := .lst h (dpAll_ints xs)
theorem dpAll_marks {K : PySem.W.Frag} {H : Hp} : ∀ {ts : List Addr} {ms : List (Int × Int)}, Tups H ts ms → DpAll K H (ts.map V.ref) (ms.map fun m => PyData.tuple [.int m.1, .int m.2])
  | [], [], _ => .nil
  | _ :: _, m :: _, h => .cons (.tup (SqT.of h.1) (.cons (.int m.1) (.cons (.int m.2) .nil))) (dpAll_marks h.2)
theorem dp_marks {K : PySem.W.Frag} {H : Hp} {a : Addr} {ts : List Addr} {ms : List (Int × Int)} (h : SqL K H a (ts.map V.ref)) (g : Tups H ts ms) : Dp K H (.ref a) (dMarks ms) := .lst h (dpAll_marks g)
theorem rp_ints {xs : List Int} (h : ∀ v ∈ xs, -10 ^ 40 < v ∧ v < 10 ^ 40) : Rp (dInts xs) xs.length 1 := by
  have := RpA.all (xs := xs.map PyData.int) (n := 0) (k := 0) fun d hd => by
    obtain ⟨v, hv, rfl⟩ := List.mem_map.mp hd
    exact Rp.int (h v hv).1 (h v hv).2
  refine (Rp.list this).mono ?_ (Nat.le_refl _)
  rw [List.length_map]
  omega
theorem rp_marks {ms : List (Int × Int)} (h : ∀ m ∈ ms, -10 ^ 40 < m.1 ∧ m.1 < 10 ^ 40 ∧ -10 ^ 40 < m.2 ∧ m.2 < 10 ^ 40) : Rp (dMarks ms) (ms.length * 3) 2 := by
  have := RpA.all (xs := ms.map fun m => PyData.tuple [.int m.1, .int m.2]) (n := 2) (k := 1) fun d hd => by
    obtain ⟨m, hm, rfl⟩ := List.mem_map.mp hd
    have g := h m hm
    exact (Rp.tup (.cons (Rp.int g.1 g.2.1) (.cons (Rp.int g.2.2.1 g.2.2.2) .nil))).mono (by omega) (by omega)
  refine (Rp.list this).mono ?_ (Nat.le_refl _)
  rw [List.length_map]
  omega

/-! ### data without a heap -/
inductive OV where
  | rul (bs : List Int) (cs : List (Int × Int))
  | cal (ps : List Int) (ms : List (Int × Int))
  | cls
  | dic (cs : List (Int × Int))
inductive DV where
  | int (i : Int) | bl (b : Bool) | non | str (s : Str) | tup (xs : List DV) | lst (xs : List DV) | obj (o : OV) | pool
mutual
def DV.py : DV → PyData
  | .int i => .int i
  | .bl b => .bool b
  | .non => .none
  | .str s => .str s
  | .tup xs => .tuple (DV.pyAll xs)
  | .lst xs => .list (DV.pyAll xs)
  | .obj _ => .none
  | .pool => .none
def DV.pyAll : List DV → List PyData
  | [] => []
  | x :: xs => x.py :: DV.pyAll xs
end
mutual
def DV.pu : DV → Bool
  | .tup xs => DV.puAll xs
  | .lst xs => DV.puAll xs
  | .obj _ => false
  | .pool => false
  | _ => true
def DV.puAll : List DV → Bool
  | [] => true
  | x :: xs => x.pu && DV.puAll xs
end
def FrS (M : Addr → Prop) (H H' : Hp) : Prop := ∀ b o, H b = some o → ¬ M b → H' b = some o
theorem FrS.refl {M : Addr → Prop} {H : Hp} : FrS M H H := fun _ _ h _ => h
theorem FrS.trans {M : Addr → Prop} {H H1 H2 : Hp} (a : FrS M H H1) (b : FrS M H1 H2) : FrS M H H2 := fun c o h n => b c o (a c o h n) n
theorem FrS.mono {M M' : Addr → Prop} {H H' : Hp} (a : FrS M H H') (h : ∀ b, M b → M' b) : FrS M' H H' := fun c o e n => a c o e fun z => n (h c z)
theorem FrS.of {M : Addr → Prop} {H H' : Hp} (a : Same H H') : FrS M H H' := fun c o e _ => a c o e
theorem FrS.upd {M : Addr → Prop} {H H' : Hp} {q : Addr} {o : HO} (a : FrS M H H') (h : H q = none ∨ M q) : FrS M H (upd H' q o) := fun c u e n => by
  rw [upd_ne]
  · exact a c u e n
  · intro z
    subst z
    rcases h with h | h
    · rw [h] at e
      cases e
    · exact n h
structure Wo where
  p : Option Addr
  ob : (Addr → Prop) → Hp → Addr → OV → Prop
  mono : ∀ {M H H' x o}, ob M H x o → FrS M H H' → ob M H' x o
  sub : ∀ {M M' H x o}, ob M H x o → (∀ a, M' a → M a ∨ H a = none) → ob M' H x o
def pl (W : Wo) : Addr → Prop := fun a => W.p = some a
def Pl (W : Wo) (H : Hp) (n : Nat) : Prop := ∀ p, W.p = some p → Well H p n
inductive Rep (W : Wo) (M : Addr → Prop) (H : Hp) : V → DV → Prop
  | int (i : Int) : Rep W M H (.int i) (.int i)
  | bl (b : Bool) : Rep W M H (.bl b) (.bl b)
  | non : Rep W M H .non .non
  | str (s : Str) : Rep W M H (.str s) (.str s)
  | lst {q : Addr} {vs : List V} {ds : List DV} : H q = some (.lst vs) → ¬ M q → vs.length = ds.length → (∀ (i : Nat) (v : V) (d : DV), vs[i]? = some v → ds[i]? = some d → Rep W M H v d) → Rep W M H (.ref q) (.lst ds)
  | tup {q : Addr} {vs : List V} {ds : List DV} : H q = some (.tup vs) → ¬ M q → vs.length = ds.length → (∀ (i : Nat) (v : V) (d : DV), vs[i]? = some v → ds[i]? = some d → Rep W M H v d) → Rep W M H (.ref q) (.tup ds)
  | obj {x : Addr} {o : OV} : W.ob M H x o → Rep W M H (.ref x) (.obj o)
  | pool {p : Addr} : W.p = some p → Rep W M H (.ref p) .pool
def RepA (W : Wo) (M : Addr → Prop) (H : Hp) (vs : List V) (ds : List DV) : Prop := vs.length = ds.length ∧ ∀ (i : Nat) (v : V) (d : DV), vs[i]? = some v → ds[i]? = some d → Rep W M H v d
section
variable {W : Wo} {M M' : Addr → Prop} {H H' : Hp}
theorem Rep.mono {v : V} {d : DV} (h : Rep W M H v d) (f : FrS M H H') : Rep W M H' v d := by
  induction h with
  | int i => exact .int i
  | bl b => exact .bl b
  | non => exact .non
  | str s => exact .str s
  | lst h1 h2 h3 h4 ih => exact .lst (f _ _ h1 h2) h2 h3 fun i v d e1 e2 => ih i v d e1 e2
  | tup h1 h2 h3 h4 ih => exact .tup (f _ _ h1 h2) h2 h3 fun i v d e1 e2 => ih i v d e1 e2
  | obj h => exact .obj (W.mono h f)
  | pool h => exact .pool h
theorem Rep.sub {v : V} {d : DV} (h : Rep W M H v d) (s : ∀ a, M' a → M a ∨ H a = none) : Rep W M' H v d := by
  have nn : ∀ {q o}, H q = some o → ¬ M q → ¬ M' q := fun e n z => by
    rcases s _ z with z | z
    · exact n z
    · rw [z] at e
      cases e
  induction h with
  | int i => exact .int i
  | bl b => exact .bl b
  | non => exact .non
  | str s => exact .str s
  | lst h1 h2 h3 h4 ih => exact .lst h1 (nn h1 h2) h3 fun i v d e1 e2 => ih i v d e1 e2
  | tup h1 h2 h3 h4 ih => exact .tup h1 (nn h1 h2) h3 fun i v d e1 e2 => ih i v d e1 e2
  | obj h => exact .obj (W.sub h s)
  | pool h => exact .pool h
theorem RepA.mono {vs : List V} {ds : List DV} (h : RepA W M H vs ds) (f : FrS M H H') : RepA W M H' vs ds := ⟨h.1, fun i v d e1 e2 => (h.2 i v d e1 e2).mono f⟩
theorem RepA.sub {vs : List V} {ds : List DV} (h : RepA W M H vs ds) (s : ∀ a, M' a → M a ∨ H a = none) : RepA W M' H vs ds := ⟨h.1, fun i v d e1 e2 => (h.2 i v d e1 e2).sub s⟩
theorem RepA.nil : RepA W M H [] [] := ⟨rfl, fun i v d e => by simp at e⟩
theorem RepA.cons {v : V} {d : DV} {vs : List V} {ds : List DV} (h : Rep W M H v d) (t : RepA W M H vs ds) : RepA W M H (v :: vs) (d :: ds) := by
  refine ⟨by simp [t.1], fun i u e h1 h2 => ?_⟩
  cases i with
  | zero =>
    obtain rfl : v = u := by simpa using h1
    obtain rfl : d = e := by simpa using h2
    exact h
  | succ i => exact t.2 i u e (by simpa using h1) (by simpa using h2)
theorem RepA.head {v : V} {d : DV} {vs : List V} {ds : List DV} (h : RepA W M H (v :: vs) (d :: ds)) : Rep W M H v d ∧ RepA W M H vs ds :=
  ⟨h.2 0 v d rfl rfl, by have := h.1; simpa using this, fun i u e h1 h2 => h.2 (i + 1) u e (by simpa using h1) (by simpa using h2)⟩
theorem RepA.append {vs us : List V} {ds es : List DV} (h : RepA W M H vs ds) (t : RepA W M H us es) : RepA W M H (vs ++ us) (ds ++ es) := by
  induction vs generalizing ds with
  | nil =>
    cases ds with
    | nil => exact t
    | cons d ds => have := h.1; simp at this
  | cons v vs ih =>
    cases ds with
    | nil => have := h.1; simp at this
    | cons d ds => exact .cons h.head.1 (ih h.head.2)
theorem RepA.nil_inv {vs : List V} (h : RepA W M H vs []) : vs = [] := List.length_eq_zero_iff.mp h.1
theorem RepA.one_inv {vs : List V} {d : DV} (h : RepA W M H vs [d]) : ∃ v, vs = [v] ∧ Rep W M H v d := by
  match vs, h.1 with
  | [v], _ => exact ⟨v, rfl, h.head.1⟩
theorem RepA.cons_inv {vs : List V} {d : DV} {ds : List DV} (h : RepA W M H vs (d :: ds)) : ∃ v us, vs = v :: us ∧ Rep W M H v d ∧ RepA W M H us ds := by
  match vs, h.1 with
  | v :: us, _ => exact ⟨v, us, rfl, h.head⟩
theorem RepA.get {vs : List V} {ds : List DV} {i : Nat} {d : DV} (h : RepA W M H vs ds) (e : ds[i]? = some d) : ∃ v, vs[i]? = some v ∧ Rep W M H v d := by
  obtain ⟨hi, _⟩ := List.getElem?_eq_some_iff.mp e
  have hv : i < vs.length := by rw [h.1]; exact hi
  exact ⟨vs[i], List.getElem?_eq_getElem hv, h.2 i _ _ (List.getElem?_eq_getElem hv) e⟩
theorem RepA.of {vs : List V} {ds : List DV} (h : vs.length = ds.length) (g : ∀ (i : Nat) (v : V) (d : DV), vs[i]? = some v → ds[i]? = some d → Rep W M H v d) : RepA W M H vs ds := ⟨h, g⟩
theorem RepA.take {vs : List V} {ds : List DV} (h : RepA W M H vs ds) (n : Nat) : RepA W M H (vs.take n) (ds.take n) := by
  refine ⟨by simp [h.1], fun i v d e1 e2 => ?_⟩
  rw [List.getElem?_take] at e1 e2
  split at e1
  · exact h.2 i v d e1 (by simpa [*] using e2)
  · cases e1
theorem RepA.drop {vs : List V} {ds : List DV} (h : RepA W M H vs ds) (n : Nat) : RepA W M H (vs.drop n) (ds.drop n) := by
  refine ⟨by simp [h.1], fun i v d e1 e2 => ?_⟩
  rw [List.getElem?_drop] at e1 e2
  exact h.2 _ v d e1 e2
theorem RepA.set {vs : List V} {ds : List DV} {v : V} {d : DV} (h : RepA W M H vs ds) (r : Rep W M H v d) (n : Nat) : RepA W M H (vs.set n v) (ds.set n d) := by
  refine ⟨by simp [h.1], fun i u e e1 e2 => ?_⟩
  rw [List.getElem?_set] at e1 e2
  have := h.1
  split at e1
  · rename_i hn
    rw [if_pos hn] at e2
    split at e1
    · obtain rfl := Option.some.inj e1
      split at e2
      · obtain rfl := Option.some.inj e2
        exact r
      · cases e2
    · cases e1
  · rename_i hn
    rw [if_neg hn] at e2
    exact h.2 i u e e1 e2
theorem RepA.reverse {vs : List V} {ds : List DV} (h : RepA W M H vs ds) : RepA W M H vs.reverse ds.reverse := by
  induction vs generalizing ds with
  | nil =>
    cases ds with
    | nil => exact .nil
    | cons d ds => have := h.1; simp at this
  | cons v vs ih =>
    cases ds with
    | nil => have := h.1; simp at this
    | cons d ds =>
      rw [List.reverse_cons, List.reverse_cons]
      exact (ih h.head.2).append (.cons h.head.1 .nil)
theorem RepA.rep {vs : List V} {ds : List DV} (h : RepA W M H vs ds) (n : Nat) : RepA W M H (List.replicate n vs).flatten (List.replicate n ds).flatten := by
  induction n with
  | zero => exact .nil
  | succ n ih =>
    rw [List.replicate_succ, List.replicate_succ, List.flatten_cons, List.flatten_cons]
    exact h.append ih
theorem Rep.int_inv {v : V} {i : Int} (h : Rep W M H v (.int i)) : v = .int i := by cases h; rfl
theorem Rep.bl_inv {v : V} {b : Bool} (h : Rep W M H v (.bl b)) : v = .bl b := by cases h; rfl
theorem Rep.str_inv {v : V} {s : Str} (h : Rep W M H v (.str s)) : v = .str s := by cases h; rfl
theorem Rep.lst_inv {v : V} {ds : List DV} (h : Rep W M H v (.lst ds)) : ∃ q vs, v = .ref q ∧ H q = some (.lst vs) ∧ ¬ M q ∧ RepA W M H vs ds := by
  cases h with
  | lst a b c d => exact ⟨_, _, rfl, a, b, c, d⟩
theorem Rep.tup_inv {v : V} {ds : List DV} (h : Rep W M H v (.tup ds)) : ∃ q vs, v = .ref q ∧ H q = some (.tup vs) ∧ ¬ M q ∧ RepA W M H vs ds := by
  cases h with
  | tup a b c d => exact ⟨_, _, rfl, a, b, c, d⟩
theorem RepA.ints {vs : List V} {xs : List Int} (h : RepA W M H vs (xs.map DV.int)) : vs = xs.map V.int := by
  induction xs generalizing vs with
  | nil => exact h.nil_inv
  | cons x xs ih =>
    obtain ⟨v, us, rfl, h1, h2⟩ := h.cons_inv
    rw [h1.int_inv, ih h2]
    rfl
theorem repA_ints (xs : List Int) : RepA W M H (xs.map V.int) (xs.map DV.int) := by
  induction xs with
  | nil => exact .nil
  | cons x xs ih => exact .cons (.int x) ih
theorem pyAll_map (ds : List DV) : DV.pyAll ds = ds.map DV.py := by
  induction ds with
  | nil => rfl
  | cons d ds ih => rw [DV.pyAll, ih]; rfl
theorem puAll_iff (ds : List DV) : DV.puAll ds = true ↔ ∀ d ∈ ds, d.pu = true := by
  induction ds with
  | nil => simp [DV.puAll]
  | cons d ds ih => simp [DV.puAll, ih]
theorem dpAll_of {K : PySem.W.Frag} {vs : List V} {ds : List DV} (l : vs.length = ds.length) (h : ∀ (i : Nat) (v : V) (d : DV), vs[i]? = some v → ds[i]? = some d → Dp K H v d.py) : DpAll K H vs (DV.pyAll ds) := by
  induction vs generalizing ds with
  | nil =>
    cases ds with
    | nil => exact .nil
    | cons d ds => simp at l
  | cons v vs ih =>
    cases ds with
    | nil => simp at l
    | cons d ds => exact .cons (h 0 v d rfl rfl) (ih (by simpa using l) fun i u e h1 h2 => h (i + 1) u e (by simpa using h1) (by simpa using h2))
theorem Rep.dp {K : PySem.W.Frag} {v : V} {d : DV} (h : Rep W M H v d) (p : d.pu = true) : Dp K H v d.py := by
  induction h with
  | int i => exact .int i
  | bl b => exact .bl b
  | non => exact .non
  | str s => exact .str s
  | lst h1 h2 h3 h4 ih => exact .lst (SqL.of h1) (dpAll_of h3 fun i v d e1 e2 => ih i v d e1 e2 ((puAll_iff _).mp p d (List.mem_of_getElem? e2)))
  | tup h1 h2 h3 h4 ih => exact .tup (SqT.of h1) (dpAll_of h3 fun i v d e1 e2 => ih i v d e1 e2 ((puAll_iff _).mp p d (List.mem_of_getElem? e2)))
  | obj h => exact nomatch p
  | pool h => exact nomatch p
end
def IsL (H : Hp) (a : Addr) : Prop := ∃ vs, H a = some (.lst vs)
theorem IsL.ne {H : Hp} {a : Addr} (h : IsL H a) : H a ≠ none := by
  obtain ⟨vs, e⟩ := h
  rw [e]
  simp
/-! ### the state of a def -/
inductive SV where
  | dat (d : DV) | own (ds : List DV)
abbrev En := List (Option SV)
def Later (W : Wo) (B : Addr → Prop) (M : Addr → Prop) (H : Hp) (M' : Addr → Prop) (H' : Hp) : Prop :=
  (∀ b o, H b = some o → ¬ (M b ∧ ¬ B b) → W.p ≠ some b → H' b = some o) ∧ (∀ a, M' a → M a ∨ H a = none) ∧ (∀ a, B a → M' a)
structure Ok (W : Wo) (B : Addr → Prop) (Φ : (Addr → Prop) → Hp → Prop) (M : Addr → Prop) (σ : L2.St) (H : Hp) (δ : En) (n : Nat) : Prop where
  len : σ.length = δ.length
  dat : ∀ (i : Nat) (d : DV), δ[i]? = some (some (.dat d)) → ∃ v, σ[i]? = some (some v) ∧ Rep W M H v d
  own : ∀ (i : Nat) (ds : List DV), δ[i]? = some (some (.own ds)) → ∃ q vs, σ[i]? = some (some (.ref q)) ∧ M q ∧ ¬ B q ∧ H q = some (.lst vs) ∧ RepA W M H vs ds
  apart : ∀ (i j : Nat) (ds es : List DV) (q : Addr), δ[i]? = some (some (.own ds)) → δ[j]? = some (some (.own es)) → σ[i]? = some (some (.ref q)) → σ[j]? = some (some (.ref q)) → i = j
  base : ∀ a, B a → M a
  dom : ∀ a, M a → IsL H a
  pool : ∀ p, W.p = some p → B p ∧ Well H p n
  phi : Φ M H
  cl : ∀ M H M' H', Φ M H → Later W B M H M' H' → Φ M' H'
section
variable {W : Wo} {B M : Addr → Prop} {Φ : (Addr → Prop) → Hp → Prop} {σ : L2.St} {H H' : Hp} {δ : En} {n m : Nat}
theorem Ok.plM (k : Ok W B Φ M σ H δ n) : ∀ a, pl W a → M a := fun a h => k.base a (k.pool a h).1
theorem Ok.frM (k : Ok W B Φ M σ H δ n) {H1 H2 : Hp} (f : FrS (pl W) H1 H2) : FrS M H1 H2 := f.mono k.plM
theorem dom_fr (f : FrS (pl W) H H') (p : Pl W H' m) {a : Addr} (h : IsL H a) : IsL H' a := by
  obtain ⟨vs, e⟩ := h
  by_cases z : W.p = some a
  · obtain ⟨_, _, _, e2, _⟩ := p a z
    exact ⟨_, e2⟩
  · exact ⟨_, f a _ e z⟩
theorem Ok.expr (k : Ok W B Φ M σ H δ n) (f : FrS (pl W) H H') (p : Pl W H' m) : Ok W B Φ M σ H' δ m where
  len := k.len
  dat := fun i d e => let ⟨v, e1, r⟩ := k.dat i d e; ⟨v, e1, r.mono (k.frM f)⟩
  own := fun i ds e => by
    obtain ⟨q, vs, e1, h1, h2, h3, h4⟩ := k.own i ds e
    exact ⟨q, vs, e1, h1, h2, f _ _ h3 (fun z => h2 (k.pool q z).1), h4.mono (k.frM f)⟩
  apart := k.apart
  base := k.base
  dom := fun a h => dom_fr f p (k.dom a h)
  pool := fun q e => ⟨(k.pool q e).1, p q e⟩
  phi := k.cl _ _ _ _ k.phi ⟨fun b o e _ h => f b o e h, fun a h => .inl h, k.base⟩
  cl := k.cl
theorem Ok.plOf (k : Ok W B Φ M σ H δ n) : Pl W H n := fun p e => (k.pool p e).2
theorem get_set {α : Type} {l : List α} {i j : Nat} {x y : α} (h : (l.set i x)[j]? = some y) : (i = j ∧ y = x ∧ i < l.length) ∨ (i ≠ j ∧ l[j]? = some y) := by
  rw [List.getElem?_set] at h
  split at h
  · rename_i e
    split at h
    · exact .inl ⟨e, (Option.some.inj h).symm, by assumption⟩
    · cases h
  · exact .inr ⟨by assumption, h⟩
theorem Ok.set (k : Ok W B Φ M σ H δ n) {v : V} {d : DV} (r : Rep W M H v d) (i : Nat) : Ok W B Φ M (σ.set i (some v)) H (δ.set i (some (.dat d))) n where
  len := by simp [k.len]
  dat := fun j e h => by
    rcases get_set h with ⟨rfl, e1, hl⟩ | ⟨ne, h⟩
    · obtain rfl : e = d := by simpa using e1
      exact ⟨v, by rw [List.getElem?_set_self (by rw [k.len]; exact hl)], r⟩
    · obtain ⟨u, e1, r1⟩ := k.dat j e h
      exact ⟨u, by rw [List.getElem?_set_ne ne]; exact e1, r1⟩
  own := fun j e h => by
    rcases get_set h with ⟨rfl, e1, hl⟩ | ⟨ne, h⟩
    · simp at e1
    · obtain ⟨q, vs, e1, r1⟩ := k.own j e h
      exact ⟨q, vs, by rw [List.getElem?_set_ne ne]; exact e1, r1⟩
  apart := fun a b ds es q h1 h2 h3 h4 => by
    rcases get_set h1 with ⟨rfl, e1, hl⟩ | ⟨ne, h1⟩
    · simp at e1
    · rcases get_set h2 with ⟨rfl, e1, hl⟩ | ⟨ne2, h2⟩
      · simp at e1
      · rw [List.getElem?_set_ne ne] at h3
        rw [List.getElem?_set_ne ne2] at h4
        exact k.apart a b ds es q h1 h2 h3 h4
  base := k.base
  dom := k.dom
  pool := k.pool
  phi := k.phi
  cl := k.cl
/-- a new list that stays one's own -/
theorem Ok.setOwn (k : Ok W B Φ M σ H δ n) (f : FrS (pl W) H H') (p : Pl W H' m) {q : Addr} {vs : List V} {ds : List DV} (nq : H q = none) (hq : H' q = some (.lst vs)) (r : RepA W (fun a => M a ∨ a = q) H' vs ds) (i : Nat) :
    Ok W B Φ (fun a => M a ∨ a = q) (σ.set i (some (.ref q))) H' (δ.set i (some (.own ds))) m := by
  have nM : ¬ M q := fun z => (k.dom q z).ne nq
  have nB : ¬ B q := fun z => nM (k.base q z)
  have sub : ∀ a, (M a ∨ a = q) → M a ∨ H a = none := fun a h => h.imp id fun e => by rw [e]; exact nq
  have old : ∀ {v d}, Rep W M H v d → Rep W (fun a => M a ∨ a = q) H' v d := fun h => (h.sub sub).mono (fun b o e z => f b o e fun z2 => z (.inl (k.plM b z2)))
  have oldA : ∀ {vs ds}, RepA W M H vs ds → RepA W (fun a => M a ∨ a = q) H' vs ds := fun h => ⟨h.1, fun i v d e1 e2 => old (h.2 i v d e1 e2)⟩
  
  refine ⟨by simp [k.len], fun j e h => ?_, fun j e h => ?_, fun a b ds es t h1 h2 h3 h4 => ?_, fun a h => .inl (k.base a h), fun a h => ?_, fun t e => ⟨(k.pool t e).1, p t e⟩, k.cl _ _ _ _ k.phi ⟨fun b o e _ h => f b o e h, sub, fun a h => .inl (k.base a h)⟩, k.cl⟩
  · rcases get_set h with ⟨rfl, e1, hl⟩ | ⟨ne, h⟩
    · simp at e1
    · obtain ⟨v, e1, r1⟩ := k.dat j e h
      exact ⟨v, by rw [List.getElem?_set_ne ne]; exact e1, old r1⟩
  · rcases get_set h with ⟨rfl, e1, hl⟩ | ⟨ne, h⟩
    · obtain rfl : e = ds := by simpa using e1
      exact ⟨q, vs, by rw [List.getElem?_set_self (by rw [k.len]; exact hl)], .inr rfl, nB, hq, r⟩
    · obtain ⟨t, us, e1, h1, h2, h3, h4⟩ := k.own j e h
      exact ⟨t, us, by rw [List.getElem?_set_ne ne]; exact e1, .inl h1, h2, f _ _ h3 (fun z => h2 (k.pool t z).1), oldA h4⟩
  · have own1 : ∀ {j : Nat} {es : List DV}, δ[j]? = some (some (.own es)) → σ[j]? = some (some (.ref t)) → t ≠ q := fun {j es} h g z => by
      obtain ⟨t2, us, e1, _, _, h5, _⟩ := k.own j es h
      rw [e1] at g
      obtain rfl : t2 = t := by simpa using g
      rw [z, nq] at h5
      cases h5
    rcases get_set h1 with ⟨rfl, e1, hl⟩ | ⟨ne, h1⟩
    · rw [List.getElem?_set_self (by rw [k.len]; exact hl)] at h3
      obtain rfl : q = t := by simpa using h3
      rcases get_set h2 with ⟨e2, _, _⟩ | ⟨ne2, h2⟩
      · exact e2
      · rw [List.getElem?_set_ne ne2] at h4
        exact absurd rfl (own1 h2 h4)
    · rw [List.getElem?_set_ne ne] at h3
      rcases get_set h2 with ⟨rfl, e2, hl⟩ | ⟨ne2, h2⟩
      · rw [List.getElem?_set_self (by rw [k.len]; exact hl)] at h4
        obtain rfl : q = t := by simpa using h4
        exact absurd rfl (own1 h1 h3)
      · rw [List.getElem?_set_ne ne2] at h4
        exact k.apart a b _ _ t h1 h2 h3 h4
  · rcases h with h | h
    · exact dom_fr f p (k.dom a h)
    · rw [h]
      exact ⟨_, hq⟩
/-- one's own list at slot i is written -/
theorem Ok.write (k : Ok W B Φ M σ H δ n) {i : Nat} {q : Addr} {vs : List V} {ds ds' : List DV} (e : δ[i]? = some (some (.own ds))) (s : σ[i]? = some (some (.ref q))) (r : RepA W M H vs ds') :
    Ok W B Φ M σ (upd H q (.lst vs)) (δ.set i (some (.own ds'))) n := by
  obtain ⟨q2, us, e1, hM, hB, hq, r0⟩ := k.own i ds e
  rw [s] at e1
  obtain rfl : q = q2 := by simpa using e1
  have hi : i < δ.length := (List.getElem?_eq_some_iff.mp e).1
  have f : FrS M H (upd H q (.lst vs)) := FrS.refl.upd (.inr hM)
  refine ⟨by simp [k.len], fun j d h => ?_, fun j es h => ?_, fun a b ds es t h1 h2 h3 h4 => ?_, k.base, fun a h => ?_, fun t e => ⟨(k.pool t e).1, ?_⟩, k.cl _ _ _ _ k.phi ⟨fun b o e n _ => ?_, fun a h => .inl h, k.base⟩, k.cl⟩
  · rcases get_set h with ⟨rfl, e1, hl⟩ | ⟨ne, h⟩
    · simp at e1
    · obtain ⟨v, e1, r1⟩ := k.dat j d h
      exact ⟨v, e1, r1.mono f⟩
  · rcases get_set h with ⟨rfl, e1, hl⟩ | ⟨ne, h⟩
    · obtain rfl : es = ds' := by simpa using e1
      exact ⟨q, vs, s, hM, hB, upd_same, r.mono f⟩
    · obtain ⟨t, us, e1, h1, h2, h3, h4⟩ := k.own j es h
      have tq : t ≠ q := fun z => ne (k.apart i j ds es q e h s (by rw [e1, z]))
      exact ⟨t, us, e1, h1, h2, by rw [upd_ne tq]; exact h3, h4.mono f⟩
  · have back : ∀ {j : Nat} {es : List DV}, (δ.set i (some (SV.own ds')))[j]? = some (some (.own es)) → ∃ fs, δ[j]? = some (some (.own fs)) := fun {j es} h => by
      rcases get_set h with ⟨rfl, _, _⟩ | ⟨_, h⟩
      · exact ⟨_, e⟩
      · exact ⟨_, h⟩
    obtain ⟨_, h1⟩ := back h1
    obtain ⟨_, h2⟩ := back h2
    exact k.apart a b _ _ t h1 h2 h3 h4
  · by_cases z : a = q
    · rw [z]
      exact ⟨_, upd_same⟩
    · obtain ⟨us, e2⟩ := k.dom a h
      exact ⟨us, by rw [upd_ne z]; exact e2⟩
  · have tq : t ≠ q := fun z => hB (by rw [← z]; exact (k.pool t e).1)
    exact (k.pool t e).2.upd_ne tq
  · rw [upd_ne]
    · exact e
    · intro z
      exact n (by rw [z]; exact ⟨hM, hB⟩)
/-- one's own list is written no more -/
theorem Ok.frz (k : Ok W B Φ M σ H δ n) {i : Nat} {ds : List DV} (e : δ[i]? = some (some (.own ds))) : ∃ M', Ok W B Φ M' σ H (δ.set i (some (.dat (.lst ds)))) n := by
  obtain ⟨q, vs, s, hM, hB, hq, r⟩ := k.own i ds e
  have hi : i < δ.length := (List.getElem?_eq_some_iff.mp e).1
  have sub : ∀ a, (M a ∧ a ≠ q) → M a ∨ H a = none := fun a h => .inl h.1
  refine ⟨fun a => M a ∧ a ≠ q, by simp [k.len], fun j d h => ?_, fun j es h => ?_, fun a b fs es t h1 h2 h3 h4 => ?_, fun a h => ⟨k.base a h, fun z => hB (by rw [← z]; exact h)⟩, fun a h => k.dom a h.1, k.pool, k.cl _ _ _ _ k.phi ⟨fun b o e n _ => e, sub, fun a h => ⟨k.base a h, fun z => hB (by rw [← z]; exact h)⟩⟩, k.cl⟩
  · rcases get_set h with ⟨rfl, e1, hl⟩ | ⟨ne, h⟩
    · obtain rfl : d = .lst ds := by simpa using e1
      have r2 := r.sub sub
      exact ⟨.ref q, s, .lst hq (fun z => z.2 rfl) r2.1 r2.2⟩
    · obtain ⟨v, e1, r1⟩ := k.dat j d h
      exact ⟨v, e1, r1.sub sub⟩
  · rcases get_set h with ⟨rfl, e1, hl⟩ | ⟨ne, h⟩
    · simp at e1
    · obtain ⟨t, us, e1, h1, h2, h3, h4⟩ := k.own j es h
      have tq : t ≠ q := fun z => ne (k.apart i j ds es q e h s (by rw [e1, z]))
      exact ⟨t, us, e1, ⟨h1, tq⟩, h2, h3, h4.sub sub⟩
  · have back : ∀ {j : Nat} {es : List DV}, (δ.set i (some (SV.dat (.lst ds))))[j]? = some (some (.own es)) → δ[j]? = some (some (.own es)) := fun {j es} h => by
      rcases get_set h with ⟨rfl, e1, _⟩ | ⟨_, h⟩
      · simp at e1
      · exact h
    exact k.apart a b _ _ t (back h1) (back h2) h3 h4
/-- a wider wish about the heap -/
theorem Ok.more (k : Ok W B Φ M σ H δ n) (Ψ : (Addr → Prop) → Hp → Prop) (h : Ψ M H) (c : ∀ M H M' H', Ψ M H → Later W B M H M' H' → Ψ M' H') : Ok W B (fun M H => Φ M H ∧ Ψ M H) M σ H δ n :=
  ⟨k.len, k.dat, k.own, k.apart, k.base, k.dom, k.pool, ⟨k.phi, h⟩, fun M H M' H' q l => ⟨k.cl _ _ _ _ q.1 l, c _ _ _ _ q.2 l⟩⟩
theorem Ok.less {Ψ : (Addr → Prop) → Hp → Prop} (k : Ok W B (fun M H => Φ M H ∧ Ψ M H) M σ H δ n) (c : ∀ M H M' H', Φ M H → Later W B M H M' H' → Φ M' H') : Ok W B Φ M σ H δ n :=
  ⟨k.len, k.dat, k.own, k.apart, k.base, k.dom, k.pool, k.phi.1, c⟩
/-- what stood at some time, apart from what was then changing -/
def Sin (M1 : Addr → Prop) (H1 : Hp) : (Addr → Prop) → Hp → Prop := fun M H => FrS M1 H1 H ∧ (∀ a, M a → M1 a ∨ H1 a = none)
theorem sin_cl {M1 : Addr → Prop} {H1 : Hp} (b1 : ∀ a, B a → M1 a) (pb : ∀ a, W.p = some a → B a) : ∀ M H M' H', Sin M1 H1 M H → Later W B M H M' H' → Sin M1 H1 M' H' := fun M H M' H' ⟨f, s⟩ ⟨l1, l2, _⟩ =>
  ⟨fun b o e n => l1 b o (f b o e n) (fun z => by
      rcases s b z.1 with q | q
      · exact n q
      · rw [q] at e
        cases e) (fun z => n (b1 b (pb b z))), fun a h => by
    rcases l2 a h with q | q
    · exact s a q
    · by_cases z : M1 a
      · exact .inl z
      · refine .inr ?_
        cases e : H1 a with
        | none => rfl
        | some o =>
          rw [f a o e z] at q
          cases q⟩
end

/-! ### readings without a heap: expressions -/
abbrev TD := En → Nat → (DV → Nat → Prop) → Prop
abbrev TDA := En → Nat → (List DV → Nat → Prop) → Prop
abbrev TDT := En → Nat → (Bool → Nat → Prop) → Prop
abbrev WPhi := (Addr → Prop) → Hp → Prop
def TrE (W : Wo) (t : TE) (d : TD) : Prop := ∀ (B : Addr → Prop) (Φ : WPhi) (M : Addr → Prop) (σ : L2.St) (H : Hp) (δ : En) (n : Nat) (Q : VK) (K : DV → Nat → Prop), Ok W B Φ M σ H δ n →
  (∀ r m v H', FrS (pl W) H H' → Pl W H' m → Rep W M H' v r → K r m → Q v H') → d δ n K → t σ H Q
def TrA (W : Wo) (t : TA) (d : TDA) : Prop := ∀ (B : Addr → Prop) (Φ : WPhi) (M : Addr → Prop) (σ : L2.St) (H : Hp) (δ : En) (n : Nat) (Q : List V → Hp → Prop) (K : List DV → Nat → Prop), Ok W B Φ M σ H δ n →
  (∀ r m v H', FrS (pl W) H H' → Pl W H' m → RepA W M H' v r → K r m → Q v H') → d δ n K → t σ H Q
def TrT (W : Wo) (t : TT) (d : TDT) : Prop := ∀ (B : Addr → Prop) (Φ : WPhi) (M : Addr → Prop) (σ : L2.St) (H : Hp) (δ : En) (n : Nat) (Q : Bool → Hp → Prop) (K : Bool → Nat → Prop), Ok W B Φ M σ H δ n →
  (∀ b m H', FrS (pl W) H H' → Pl W H' m → K b m → Q b H') → d δ n K → t σ H Q
/-- a new list -/
def TrF (W : Wo) (t : TE) (d : TDA) : Prop := ∀ (B : Addr → Prop) (Φ : WPhi) (M : Addr → Prop) (σ : L2.St) (H : Hp) (δ : En) (n : Nat) (Q : VK) (K : List DV → Nat → Prop), Ok W B Φ M σ H δ n →
  (∀ r m q vs H', FrS (pl W) H H' → Pl W H' m → H q = none → H' q = some (.lst vs) → RepA W (fun a => M a ∨ a = q) H' vs r → K r m → Q (.ref q) H') → d δ n K → t σ H Q
/-- a list that is read -/
def TrQ (W : Wo) (t : TE) (d : TDA) : Prop := ∀ (B : Addr → Prop) (Φ : WPhi) (M : Addr → Prop) (σ : L2.St) (H : Hp) (δ : En) (n : Nat) (Q : VK) (K : List DV → Nat → Prop), Ok W B Φ M σ H δ n →
  (∀ r m q vs H', FrS (pl W) H H' → Pl W H' m → H' q = some (.lst vs) → ¬ B q → RepA W M H' vs r → K r m → Q (.ref q) H') → d δ n K → t σ H Q
structure DE (X : Cx) (W : Wo) (e : Expr) (t : TE) (d : TD) : Prop where
  pe : PE X e t
  tr : TrE W t d
structure DF (X : Cx) (W : Wo) (e : Expr) (t : TE) (d : TDA) : Prop where
  pe : PE X e t
  tr : TrF W t d
structure DQ (X : Cx) (W : Wo) (e : Expr) (t : TE) (d : TDA) : Prop where
  pe : PE X e t
  tr : TrQ W t d
structure DA (X : Cx) (W : Wo) (es : List Expr) (t : TA) (d : TDA) : Prop where
  pa : PA X es t
  tr : TrA W t d
structure DT (X : Cx) (W : Wo) (e : Expr) (t : TT) (d : TDT) : Prop where
  pt : PT X e t
  tr : TrT W t d
structure DW (X : Cx) (W : Wo) (e : Expr) (t : TT) (d : TDT) : Prop where
  pw : PW X e t
  tr : TrT W t d
def DV.asI : DV → (Int → Prop) → Prop
  | .int i, k => k i
  | _, _ => False
def DV.asB : DV → (Bool → Prop) → Prop
  | .bl i, k => k i
  | _, _ => False
def DV.asL : DV → (List DV → Prop) → Prop
  | .lst i, k => k i
  | _, _ => False
def DV.asT : DV → (List DV → Prop) → Prop
  | .tup i, k => k i
  | _, _ => False
theorem DV.asI_inv {d : DV} {k : Int → Prop} (h : d.asI k) : ∃ i, d = .int i ∧ k i := by cases d <;> first | exact ⟨_, rfl, h⟩ | exact h.elim
theorem DV.asB_inv {d : DV} {k : Bool → Prop} (h : d.asB k) : ∃ i, d = .bl i ∧ k i := by cases d <;> first | exact ⟨_, rfl, h⟩ | exact h.elim
theorem DV.asL_inv {d : DV} {k : List DV → Prop} (h : d.asL k) : ∃ i, d = .lst i ∧ k i := by cases d <;> first | exact ⟨_, rfl, h⟩ | exact h.elim
theorem DV.asT_inv {d : DV} {k : List DV → Prop} (h : d.asT k) : ∃ i, d = .tup i ∧ k i := by cases d <;> first | exact ⟨_, rfl, h⟩ | exact h.elim
def dvar (δ : En) (i : Nat) (k : DV → Prop) : Prop := match δ[i]? with
  | some (some (.dat d)) => k d
  | _ => False
def down (δ : En) (i : Nat) (k : List DV → Prop) : Prop := match δ[i]? with
  | some (some (.own ds)) => k ds
  | _ => False
theorem dvar_inv {δ : En} {i : Nat} {k : DV → Prop} (h : dvar δ i k) : ∃ d, δ[i]? = some (some (.dat d)) ∧ k d := by
  unfold dvar at h
  split at h
  · exact ⟨_, by assumption, h⟩
  · exact h.elim
theorem down_inv {δ : En} {i : Nat} {k : List DV → Prop} (h : down δ i k) : ∃ d, δ[i]? = some (some (.own d)) ∧ k d := by
  unfold down at h
  split at h
  · exact ⟨_, by assumption, h⟩
  · exact h.elim
def dVar (i : Nat) : TD := fun δ n K => dvar δ i fun d => K d n
def dOwn (i : Nat) : TDA := fun δ n K => down δ i fun d => K d n
def dC (d : DV) : TD := fun _ n K => K d n
def dL (d : TD) : TDA := fun δ n K => d δ n fun x m => x.asL fun ds => K ds m
def dFE (d : TDA) : TD := fun δ n K => d δ n fun ds m => K (.lst ds) m
def dNil : TDA := fun _ n K => K [] n
def dCons (a : TD) (b : TDA) : TDA := fun δ n K => a δ n fun x m => b δ m fun xs k => K (x :: xs) k
def dOp (f : DV → DV → (DV → Prop) → Prop) (a b : TD) : TD := fun δ n K => a δ n fun x m => b δ m fun y k => f x y fun z => K z k
def dUn (f : DV → (DV → Prop) → Prop) (a : TD) : TD := fun δ n K => a δ n fun x m => f x fun z => K z m
def dTup (a : TDA) : TD := fun δ n K => a δ n fun xs m => xs.length ≤ 1000 ∧ K (.tup xs) m
def dLst (a : TDA) : TDA := fun δ n K => a δ n fun xs m => xs.length ≤ 1000 ∧ K xs m
section
variable {X : Cx} {W : Wo} {e a b : Expr} {es : List Expr} {t ta tb : TE} {d da db : TD} {pos : Pos} {tA : TA} {dA : TDA}
theorem trE_var (i : Nat) : TrE W (tVar i) (dVar i) := fun B Φ M σ H δ n Q K ok c h => by
  obtain ⟨d, e, h⟩ := dvar_inv h
  obtain ⟨v, e1, r⟩ := ok.dat i d e
  exact ⟨v, e1, c _ _ _ _ .refl ok.plOf r h⟩
theorem trE_c {v : V} {d : DV} (h : ∀ M H, Rep W M H v d) : TrE W (tC v) (dC d) := fun B Φ M σ H δ n Q K ok c q => c _ _ _ _ .refl ok.plOf (h M H) q
theorem trF_E {t : TE} {d : TDA} (h : TrF W t d) : TrE W t (dFE d) := fun B Φ M σ H δ n Q K ok c q =>
  h B Φ M σ H δ n Q _ ok (fun r m a vs H' f p n1 h1 ra k => c _ _ _ _ f p (.lst h1 (fun z => (ok.dom a z).ne n1) ra.1 (ra.sub fun b z => .inl (.inl z)).2) k) q
theorem trE_Q {t : TE} {d : TD} (h : TrE W t d) : TrQ W t (dL d) := fun B Φ M σ H δ n Q K ok c q =>
  h B Φ M σ H δ n Q _ ok (fun r m v H' f p ra k => by
    obtain ⟨ds, rfl, k⟩ := DV.asL_inv k
    obtain ⟨a, vs, rfl, h1, h2, h3⟩ := ra.lst_inv
    exact c _ _ _ _ _ f p h1 (fun z => h2 (ok.base a z)) h3 k) q
theorem trQ_own (i : Nat) : TrQ W (tVar i) (dOwn i) := fun B Φ M σ H δ n Q K ok c h => by
  obtain ⟨d, e, h⟩ := down_inv h
  obtain ⟨q, vs, e1, h1, h2, h3, h4⟩ := ok.own i d e
  exact ⟨.ref q, e1, c _ _ _ _ _ .refl ok.plOf h3 h2 h4 h⟩
theorem dv (i : Nat) {x : Str} {pos : Pos} (hN : X.N[i]? = some x := by rfl) (hv : Vis X.env.scope x := by first | exact Or.inl rfl | exact Or.inr (Or.inl rfl) | exact Or.inr (Or.inr rfl)) (hd : (x == ("__debug__" : Str)) = false := by decide)
    (hcd : (x == ("__classdict__" : Str)) = false := by decide) : DE X W (.Name x pos) (tVar i) (dVar i) := ⟨pe_var hN hv hd hcd, trE_var i⟩
theorem do_ (i : Nat) {x : Str} {pos : Pos} (hN : X.N[i]? = some x := by rfl) (hv : Vis X.env.scope x := by first | exact Or.inl rfl | exact Or.inr (Or.inl rfl) | exact Or.inr (Or.inr rfl)) (hd : (x == ("__debug__" : Str)) = false := by decide)
    (hcd : (x == ("__classdict__" : Str)) = false := by decide) : DQ X W (.Name x pos) (tVar i) (dOwn i) := ⟨pe_var hN hv hd hcd, trQ_own i⟩
theorem de_int {i j pos} : DE X W (.Constant (.int i) j pos) (tC (.int i)) (dC (.int i)) := ⟨pe_int, trE_c fun _ _ => .int i⟩
theorem de_bl {b j pos} : DE X W (.Constant (.bool b) j pos) (tC (.bl b)) (dC (.bl b)) := ⟨pe_bl, trE_c fun _ _ => .bl b⟩
theorem de_non {j pos} : DE X W (.Constant .none j pos) (tC .non) (dC .non) := ⟨pe_non, trE_c fun _ _ => .non⟩
theorem de_str {x j pos} : DE X W (.Constant (.str x) j pos) (tC (.str x)) (dC (.str x)) := ⟨pe_str, trE_c fun _ _ => .str x⟩
theorem de_f {t : TE} {d : TDA} (h : DF X W e t d) : DE X W e t (dFE d) := ⟨h.pe, trF_E h.tr⟩
theorem dq {t : TE} {d : TD} (h : DE X W e t d) : DQ X W e t (dL d) := ⟨h.pe, trE_Q h.tr⟩
theorem da_nil : DA X W [] tNil dNil := ⟨pa_nil, fun B Φ M σ H δ n Q K ok c h => c _ _ _ _ .refl ok.plOf .nil h⟩
theorem da_cons (ha : DE X W e t d) (hr : DA X W es tA dA) (hs : starEach (e :: es) X.env = (false, eval e X.env) :: starEach es X.env := by rfl) : DA X W (e :: es) (tCons t tA) (dCons d dA) :=
  ⟨pa_cons ha.pe hr.pa hs, fun B Φ M σ H δ n Q K ok c h => ha.tr B Φ M σ H δ n _ _ ok (fun r m v H1 f p ra h => hr.tr B Φ M σ H1 δ m _ _ (ok.expr f p) (fun rs k vs H2 f2 p2 rb h =>
    c _ _ _ _ (f.trans f2) p2 (.cons (ra.mono (ok.frM f2)) rb) h) h) h⟩
theorem repA_new {M : Addr → Prop} {H : Hp} {q : Addr} {o : HO} {vs : List V} {ds : List DV} (r : RepA W M H vs ds) (h : H q = none) : RepA W (fun a => M a ∨ a = q) (upd H q o) vs ds :=
  (r.sub fun a z => z.imp id fun e => by rw [e]; exact h).mono (FrS.refl.upd (.inl h))
theorem pl_new {H : Hp} {q : Addr} {o : HO} {n : Nat} (p : Pl W H n) (h : H q = none) : Pl W (upd H q o) n := fun a e => (p a e).new h
theorem none_fr {H H' : Hp} {n : Nat} {q : Addr} (f : FrS (pl W) H H') (p : Pl W H' n) (h : H' q = none) : H q = none := by
  cases e : H q with
  | none => rfl
  | some o =>
    by_cases z : W.p = some q
    · obtain ⟨a, b, c, hw, _⟩ := p q z
      rw [hw] at h
      cases h
    · rw [f q o e z] at h
      cases h
theorem le_size {n : Nat} (h : n ≤ 1000) : n ≤ sizeLine := Nat.le_trans h (by decide)
theorem df_lst (h : DA X W es tA dA) : DF X W (.List es pos) (tLst tA) (dLst dA) := ⟨pe_lst h.pa, fun B Φ M σ H δ n Q K ok c q => h.tr B Φ M σ H δ n _ _ ok (fun r m v H' f p ra k =>
  ⟨by rw [ra.1]; exact le_size k.1, fun a na => c _ _ _ _ _ (f.upd (.inl (none_fr f p na))) (pl_new p na) (none_fr f p na) upd_same (repA_new ra na) k.2⟩) q⟩
theorem de_tup {x1} (h : DA X W es tA dA) : DE X W (.Tuple es x1 pos) (tTup tA) (dTup dA) := ⟨pe_tup h.pa, fun B Φ M σ H δ n Q K ok c q => h.tr B Φ M σ H δ n _ _ ok (fun r m v H' f p ra k => by
  refine ⟨by rw [ra.1]; exact le_size k.1, fun a na => ?_⟩
  have na0 := none_fr f p na
  have r2 := ra.mono (H' := upd H' a (.tup v)) (FrS.refl.upd (.inl na))
  exact c _ _ _ _ (f.upd (.inl na0)) (pl_new p na) (.tup upd_same (fun z => (ok.dom a z).ne na0) r2.1 r2.2) k.2) q⟩
def RdOp (W : Wo) (r : R2) (f : DV → DV → (DV → Prop) → Prop) : Prop := ∀ (M : Addr → Prop) (H : Hp) (x y : V) (dx dy : DV) (Q : VK) (K : DV → Prop), (∀ a, M a → IsL H a) → Rep W M H x dx → Rep W M H y dy →
  (∀ z v H', Same H H' → Rep W M H' v z → K z → Q v H') → f dx dy K → r x y H Q
theorem pl_same {H H' : Hp} {n : Nat} (p : Pl W H n) (s : Same H H') : Pl W H' n := fun a e => (p a e).same s
theorem trE_op {r : R2} {f : DV → DV → (DV → Prop) → Prop} (hr : RdOp W r f) (ha : TrE W ta da) (hb : TrE W tb db) : TrE W (tOp r ta tb) (dOp f da db) := fun B Φ M σ H δ n Q K ok c h =>
  ha B Φ M σ H δ n _ _ ok (fun x m v H1 f1 p1 r1 h => hb B Φ M σ H1 δ m _ _ (ok.expr f1 p1) (fun y k u H2 f2 p2 r2 h =>
    hr M H2 v u x y Q (fun z => K z k) (fun a z => dom_fr (f1.trans f2) p2 (ok.dom a z)) (r1.mono (ok.frM f2)) r2 (fun z w H3 s r3 q => c _ _ _ _ ((f1.trans f2).trans (.of s)) (pl_same p2 s) r3 q) h) h) h
theorem de_op {op : Operator} {r : R2} {f : DV → DV → (DV → Prop) → Prop} (ho : OpR X (binaryOp op) r) (hr : RdOp W r f) (ha : DE X W a ta da) (hb : DE X W b tb db) : DE X W (.BinOp a op b pos) (tOp r ta tb) (dOp f da db) :=
  ⟨pe_op ho ha.pe hb.pe, trE_op hr ha.tr hb.tr⟩
theorem de_cmp {op : CmpOp} {r : R2} {f : DV → DV → (DV → Prop) → Prop} (ho : OpR X (compareOp op) r) (hr : RdOp W r f) (ha : DE X W a ta da) (hb : DE X W b tb db) (hm : behindInMarks op b = false := by exact nomark _) : DE X W (.Compare a [op] [b] pos) (tOp r ta tb) (dOp f da db) :=
  ⟨pe_cmpR ho ha.pe hb.pe hm, trE_op hr ha.tr hb.tr⟩
def RdUn (W : Wo) (r : V → Hp → VK → Prop) (f : DV → (DV → Prop) → Prop) : Prop := ∀ (M : Addr → Prop) (H : Hp) (x : V) (dx : DV) (Q : VK) (K : DV → Prop), (∀ a, M a → IsL H a) → Rep W M H x dx →
  (∀ z v H', Same H H' → Rep W M H' v z → K z → Q v H') → f dx K → r x H Q
theorem de_un {op : UnaryOp} {r : V → Hp → VK → Prop} {f : DV → (DV → Prop) → Prop} (ho : UnR X (unaryOp op) r) (hr : RdUn W r f) (ha : DE X W a ta da) : DE X W (.UnaryOp op a pos) (tUn r ta) (dUn f da) :=
  ⟨pe_un ho ha.pe, fun B Φ M σ H δ n Q K ok c h => ha.tr B Φ M σ H δ n _ _ ok (fun x m v H1 f1 p1 r1 h =>
    hr M H1 v x Q (fun z => K z m) (fun a z => dom_fr f1 p1 (ok.dom a z)) r1 (fun z w H3 s r3 q => c _ _ _ _ (f1.trans (.of s)) (pl_same p1 s) r3 q) h) h⟩
/-- two ints in -/
def fI (C : Int → Int → Prop) (g : Int → Int → DV) : DV → DV → (DV → Prop) → Prop := fun x y K => x.asI fun i => y.asI fun j => C i j ∧ K (g i j)
def fI0 (g : Int → Int → DV) : DV → DV → (DV → Prop) → Prop := fun x y K => x.asI fun i => y.asI fun j => K (g i j)
theorem rd_I {C : Int → Int → Prop} {g : Int → Int → Int} : RdOp W (rI C fun i j => .int (g i j)) (fI C fun i j => .int (g i j)) := fun M H x y dx dy Q K _ hx hy c h => by
  obtain ⟨i, rfl, h1⟩ := DV.asI_inv h
  obtain ⟨j, rfl, h⟩ := DV.asI_inv h1
  exact ⟨i, j, hx.int_inv, hy.int_inv, h.1, c _ _ _ (fun _ _ e => e) (.int _) h.2⟩
theorem rd_I0 {g : Int → Int → Int} : RdOp W (rI0 fun i j => .int (g i j)) (fI0 fun i j => .int (g i j)) := fun M H x y dx dy Q K _ hx hy c h => by
  obtain ⟨i, rfl, h1⟩ := DV.asI_inv h
  obtain ⟨j, rfl, h⟩ := DV.asI_inv h1
  exact ⟨i, j, hx.int_inv, hy.int_inv, c _ _ _ (fun _ _ e => e) (.int _) h⟩
theorem rd_B0 {g : Int → Int → Bool} : RdOp W (rI0 fun i j => .bl (g i j)) (fI0 fun i j => .bl (g i j)) := fun M H x y dx dy Q K _ hx hy c h => by
  obtain ⟨i, rfl, h1⟩ := DV.asI_inv h
  obtain ⟨j, rfl, h⟩ := DV.asI_inv h1
  exact ⟨i, j, hx.int_inv, hy.int_inv, c _ _ _ (fun _ _ e => e) (.bl _) h⟩
def fU (g : Int → Int) : DV → (DV → Prop) → Prop := fun x K => x.asI fun i => K (.int (g i))
theorem rd_U {g : Int → Int} : RdUn W (rU fun i => .int (g i)) (fU g) := fun M H x dx Q K _ hx c h => by
  obtain ⟨i, rfl, h⟩ := DV.asI_inv h
  exact ⟨i, hx.int_inv, c _ _ _ (fun _ _ e => e) (.int _) h⟩
/-- scalars compared -/
def DV.sc : DV → Option V
  | .int i => some (.int i)
  | .bl b => some (.bl b)
  | .str s => some (.str s)
  | .non => some .non
  | _ => none
def fEq : DV → DV → (DV → Prop) → Prop := fun x y K => match x.sc, y.sc with
  | some u, some v => scal u v = true ∧ K (.bl (decide (u = v)))
  | _, _ => False
def fNe : DV → DV → (DV → Prop) → Prop := fun x y K => match x.sc, y.sc with
  | some u, some v => scal u v = true ∧ K (.bl (!decide (u = v)))
  | _, _ => False
theorem Rep.sc_inv {M : Addr → Prop} {H : Hp} {v : V} {d : DV} {u : V} (h : Rep W M H v d) (e : d.sc = some u) : v = u := by
  cases h <;> simp [DV.sc] at e <;> exact e
theorem rd_Eq : RdOp W rEq fEq := fun M H x y dx dy Q K _ hx hy c h => by
  unfold fEq at h
  split at h
  · rename_i u v e1 e2
    rw [hx.sc_inv e1, hy.sc_inv e2]
    exact ⟨h.1, c _ _ _ (fun _ _ e => e) (.bl _) h.2⟩
  · exact h.elim
theorem rd_Ne : RdOp W rNe fNe := fun M H x y dx dy Q K _ hx hy c h => by
  unfold fNe at h
  split at h
  · rename_i u v e1 e2
    rw [hx.sc_inv e1, hy.sc_inv e2]
    exact ⟨h.1, c _ _ _ (fun _ _ e => e) (.bl _) h.2⟩
  · exact h.elim
def DV.isN : DV → Bool
  | .non => true
  | _ => false
def fIsN : DV → DV → (DV → Prop) → Prop := fun x y K => y.isN = true ∧ K (.bl x.isN)
def fNotN : DV → DV → (DV → Prop) → Prop := fun x y K => y.isN = true ∧ K (.bl (!x.isN))
theorem Rep.isN {M : Addr → Prop} {H : Hp} {v : V} {d : DV} (h : Rep W M H v d) : decide (v = .non) = d.isN := by cases h <;> rfl
theorem rd_IsN : RdOp W (fun x y H Q => y = .non ∧ Q (.bl (decide (x = .non))) H) fIsN := fun M H x y dx dy Q K _ hx hy c h => by
  refine ⟨of_decide_eq_true (by rw [hy.isN]; exact h.1), ?_⟩
  rw [hx.isN]
  exact c _ _ _ (fun _ _ e => e) (.bl _) h.2
theorem rd_NotN : RdOp W (fun x y H Q => y = .non ∧ Q (.bl (!decide (x = .non))) H) fNotN := fun M H x y dx dy Q K _ hx hy c h => by
  refine ⟨of_decide_eq_true (by rw [hy.isN]; exact h.1), ?_⟩
  rw [hx.isN]
  exact c _ _ _ (fun _ _ e => e) (.bl _) h.2
/-! index, length and the like -/
theorem atI_rel {M : Addr → Prop} {H : Hp} {vs : List V} {ds : List DV} {i : Int} {d : DV} (h : RepA W M H vs ds) (e : atI ds i = some d) : ∃ v, atI vs i = some v ∧ Rep W M H v d := by
  unfold atI at e ⊢
  rw [h.1]
  cases z : ixN ds.length i with
  | none => rw [z] at e; cases e
  | some j =>
    rw [z] at e
    exact h.get e
def dIxL (a : TDA) (b : TD) : TD := fun δ n K => a δ n fun ds m => b δ m fun y k => y.asI fun i => ∃ z, atI ds i = some z ∧ K z k
def dIxT (a b : TD) : TD := fun δ n K => a δ n fun x m => b δ m fun y k => x.asT fun ds => y.asI fun i => ∃ z, atI ds i = some z ∧ K z k
theorem de_ixL {dQ : TDA} (ha : DQ X W a ta dQ) (hb : DE X W b tb db) (hs : PlainIx b := by exact fun _ _ => rfl) : DE X W (.Subscript a b pos) (tOp (rIxL X.K) ta tb) (dIxL dQ db) :=
  ⟨pe_ix ix_list ha.pe hb.pe hs, fun B Φ M σ H δ n Q K ok c h => ha.tr B Φ M σ H δ n _ _ ok (fun ds m q vs H1 f1 p1 hq nb ra h => hb.tr B Φ M σ H1 δ m _ _ (ok.expr f1 p1) (fun y k u H2 f2 p2 r2 h => by
    obtain ⟨i, rfl, z, e, h⟩ := DV.asI_inv h
    have hq2 : H2 q = some (.lst vs) := f2 _ _ hq fun z => nb (ok.pool q z).1
    obtain ⟨v, e1, r1⟩ := atI_rel (ra.mono (ok.frM f2)) e
    exact ⟨q, vs, i, v, rfl, r2.int_inv, SqL.of hq2, e1, c _ _ _ _ (f1.trans f2) p2 r1 h⟩) h) h⟩
theorem de_ixT (ha : DE X W a ta da) (hb : DE X W b tb db) (hs : PlainIx b := by exact fun _ _ => rfl) : DE X W (.Subscript a b pos) (tOp (rIxT X.K) ta tb) (dIxT da db) :=
  ⟨pe_ix ix_tup ha.pe hb.pe hs, fun B Φ M σ H δ n Q K ok c h => ha.tr B Φ M σ H δ n _ _ ok (fun x m v H1 f1 p1 ra h => hb.tr B Φ M σ H1 δ m _ _ (ok.expr f1 p1) (fun y k u H2 f2 p2 r2 h => by
    obtain ⟨ds, rfl, h1⟩ := DV.asT_inv h
    obtain ⟨i, rfl, z, e, h⟩ := DV.asI_inv h1
    obtain ⟨q, vs, rfl, hq, nq, r3⟩ := (ra.mono (ok.frM f2)).tup_inv
    obtain ⟨v, e1, r1⟩ := atI_rel r3 e
    exact ⟨q, vs, i, v, rfl, r2.int_inv, SqT.of hq, e1, c _ _ _ _ (f1.trans f2) p2 r1 h⟩) h) h⟩
/-- a built-in over one list -/
def RdQ (W : Wo) (r : List V → Hp → VK → Prop) (f : List DV → (DV → Prop) → Prop) : Prop := ∀ (M : Addr → Prop) (H : Hp) (q : Addr) (vs : List V) (ds : List DV) (Q : VK) (K : DV → Prop), (∀ a, M a → IsL H a) → H q = some (.lst vs) → RepA W M H vs ds →
  (∀ z v H', Same H H' → Rep W M H' v z → K z → Q v H') → f ds K → r [.ref q] H Q
/-- .. that gives a new list -/
def RdQF (W : Wo) (r : List V → Hp → VK → Prop) (f : List DV → (List DV → Prop) → Prop) : Prop := ∀ (M : Addr → Prop) (H : Hp) (q : Addr) (vs : List V) (ds : List DV) (Q : VK) (K : List DV → Prop), (∀ a, M a → IsL H a) → H q = some (.lst vs) → RepA W M H vs ds →
  (∀ zs us p, H p = none → RepA W M H us zs → K zs → Q (.ref p) (upd H p (.lst us))) → f ds K → r [.ref q] H Q
/-- a built-in over values -/
def RdC (W : Wo) (r : List V → Hp → VK → Prop) (f : List DV → (DV → Prop) → Prop) : Prop := ∀ (M : Addr → Prop) (H : Hp) (vs : List V) (ds : List DV) (Q : VK) (K : DV → Prop), (∀ a, M a → IsL H a) → RepA W M H vs ds →
  (∀ z v H', Same H H' → Rep W M H' v z → K z → Q v H') → f ds K → r vs H Q
def dCQ (f : List DV → (DV → Prop) → Prop) (a : TDA) : TD := fun δ n K => a δ n fun ds m => f ds fun z => K z m
def dCQF (f : List DV → (List DV → Prop) → Prop) (a : TDA) : TDA := fun δ n K => a δ n fun ds m => f ds fun z => K z m
theorem trE_Q1 {r : List V → Hp → VK → Prop} {f : List DV → (DV → Prop) → Prop} (hr : RdQ W r f) (ha : TrQ W ta dA) : TrE W (tCB r (tCons ta tNil)) (dCQ f dA) := fun B Φ M σ H δ n Q K ok c h =>
  ha B Φ M σ H δ n _ _ ok (fun ds m q vs H1 f1 p1 hq nb ra h => hr M H1 q vs ds Q _ (fun a z => dom_fr f1 p1 (ok.dom a z)) hq ra (fun z v H' s r1 k => c _ _ _ _ (f1.trans (.of s)) (pl_same p1 s) r1 k) h) h
theorem trF_Q1 {r : List V → Hp → VK → Prop} {f : List DV → (List DV → Prop) → Prop} (hr : RdQF W r f) (ha : TrQ W ta dA) : TrF W (tCB r (tCons ta tNil)) (dCQF f dA) := fun B Φ M σ H δ n Q K ok c h =>
  ha B Φ M σ H δ n _ _ ok (fun ds m q vs H1 f1 p1 hq nb ra h => hr M H1 q vs ds Q _ (fun a z => dom_fr f1 p1 (ok.dom a z)) hq ra
    (fun zs us p np r1 k => c _ _ _ _ _ (f1.upd (.inl (none_fr f1 p1 np))) (pl_new p1 np) (none_fr f1 p1 np) upd_same (repA_new r1 np) k) h) h
theorem trE_C {r : List V → Hp → VK → Prop} {f : List DV → (DV → Prop) → Prop} (hr : RdC W r f) (ha : TrA W tA dA) : TrE W (tCB r tA) (dCQ f dA) := fun B Φ M σ H δ n Q K ok c h =>
  ha B Φ M σ H δ n _ _ ok (fun ds m vs H1 f1 p1 ra h => hr M H1 vs ds Q _ (fun a z => dom_fr f1 p1 (ok.dom a z)) ra (fun z v H' s r1 k => c _ _ _ _ (f1.trans (.of s)) (pl_same p1 s) r1 k) h) h
section
variable {id x : Str} {ids : String} {r : List V → Hp → VK → Prop} {p : Pos}
theorem de_bQ {f : List DV → (DV → Prop) → Prop} (hc : CallR X (.builtin ids) r) (hg : Gl X x) (hm : X.mg x = none) (hv : bootBuiltins x = some (.builtin ids)) (hr : RdQ W r f) (ha : DQ X W a ta dA) (hn : x ≠ "__name__" := by decide) (hdb : (x == ("__debug__" : Str)) = false := by decide)
    (hs : starEach [a] X.env = (false, eval a X.env) :: starEach [] X.env := by rfl) (hpl : (backTo pos (starEach [] X.env)).any (·.1) = false := by rfl) : DE X W (.Call (.Name x p) [a] [] pos) (tCB r (tCons ta tNil)) (dCQ f dA) :=
  ⟨pe_callB hc hg hm hv (pa_cons ha.pe pa_nil hs) hn hdb hs hpl, trE_Q1 hr ha.tr⟩
theorem df_bQ {f : List DV → (List DV → Prop) → Prop} (hc : CallR X (.builtin ids) r) (hg : Gl X x) (hm : X.mg x = none) (hv : bootBuiltins x = some (.builtin ids)) (hr : RdQF W r f) (ha : DQ X W a ta dA) (hn : x ≠ "__name__" := by decide) (hdb : (x == ("__debug__" : Str)) = false := by decide)
    (hs : starEach [a] X.env = (false, eval a X.env) :: starEach [] X.env := by rfl) (hpl : (backTo pos (starEach [] X.env)).any (·.1) = false := by rfl) : DF X W (.Call (.Name x p) [a] [] pos) (tCB r (tCons ta tNil)) (dCQF f dA) :=
  ⟨pe_callB hc hg hm hv (pa_cons ha.pe pa_nil hs) hn hdb hs hpl, trF_Q1 hr ha.tr⟩
theorem df_tQ {f : List DV → (List DV → Prop) → Prop} (hc : CallR X (.type ids) r) (hg : Gl X x) (hm : X.mg x = none) (hv : bootBuiltins x = some (.type ids)) (hr : RdQF W r f) (ha : DQ X W a ta dA) (hn : x ≠ "__name__" := by decide) (hdb : (x == ("__debug__" : Str)) = false := by decide)
    (hs : starEach [a] X.env = (false, eval a X.env) :: starEach [] X.env := by rfl) (hpl : (backTo pos (starEach [] X.env)).any (·.1) = false := by rfl) : DF X W (.Call (.Name x p) [a] [] pos) (tCB r (tCons ta tNil)) (dCQF f dA) :=
  ⟨pe_callTy hc hg hm hv (pa_cons ha.pe pa_nil hs) hn hdb hs hpl, trF_Q1 hr ha.tr⟩
theorem de_b {f : List DV → (DV → Prop) → Prop} (hc : CallR X (.builtin ids) r) (hg : Gl X x) (hm : X.mg x = none) (hv : bootBuiltins x = some (.builtin ids)) (hr : RdC W r f) (ha : DA X W (a :: es) tA dA) (hn : x ≠ "__name__" := by decide) (hdb : (x == ("__debug__" : Str)) = false := by decide)
    (hs : starEach (a :: es) X.env = (false, eval a X.env) :: starEach es X.env := by rfl) (hpl : (backTo pos (starEach es X.env)).any (·.1) = false := by rfl) : DE X W (.Call (.Name x p) (a :: es) [] pos) (tCB r tA) (dCQ f dA) :=
  ⟨pe_callB hc hg hm hv ha.pa hn hdb hs hpl, trE_C hr ha.tr⟩
theorem de_t {f : List DV → (DV → Prop) → Prop} (hc : CallR X (.type ids) r) (hg : Gl X x) (hm : X.mg x = none) (hv : bootBuiltins x = some (.type ids)) (hr : RdC W r f) (ha : DA X W (a :: es) tA dA) (hn : x ≠ "__name__" := by decide) (hdb : (x == ("__debug__" : Str)) = false := by decide)
    (hs : starEach (a :: es) X.env = (false, eval a X.env) :: starEach es X.env := by rfl) (hpl : (backTo pos (starEach es X.env)).any (·.1) = false := by rfl) : DE X W (.Call (.Name x p) (a :: es) [] pos) (tCB r tA) (dCQ f dA) :=
  ⟨pe_callTy hc hg hm hv ha.pa hn hdb hs hpl, trE_C hr ha.tr⟩
end
def fLen : List DV → (DV → Prop) → Prop := fun ds K => K (.int (ds.length : Nat))
theorem rd_len {K0 : PySem.W.Frag} : RdQ W (fun xs H Q => ∃ p ys, xs = [.ref p] ∧ (SqL K0 H p ys ∨ SqT K0 H p ys) ∧ Q (.int ys.length) H) fLen := fun M H q vs ds Q K _ hq ra c h =>
  ⟨q, vs, rfl, .inl (SqL.of hq), by rw [ra.1]; exact c _ _ _ (fun _ _ e => e) (.int _) h⟩
def fLenT : List DV → (DV → Prop) → Prop := fun ds K => match ds with
  | [.tup xs] => K (.int (xs.length : Nat))
  | _ => False
def fList : List DV → (List DV → Prop) → Prop := fun ds K => K ds
theorem rd_list {K0 : PySem.W.Frag} : RdQF W (fun xs H Q => ∃ p ys, xs = [.ref p] ∧ (SqL K0 H p ys ∨ SqT K0 H p ys) ∧ ∀ l, H l = none → Q (.ref l) (upd H l (.lst ys))) fList := fun M H q vs ds Q K _ hq ra c h =>
  ⟨q, vs, rfl, .inl (SqL.of hq), fun l nl => c _ _ _ nl ra h⟩
/-- a list of ints -/
def DV.intsOf (ds : List DV) (k : List Int → Prop) : Prop := ∃ xs : List Int, ds = xs.map DV.int ∧ k xs
def fSum : List DV → (DV → Prop) → Prop := fun ds K => DV.intsOf ds fun xs => K (.int xs.sum)
theorem rd_sum {K0 : PySem.W.Frag} : RdQ W (rSum K0) fSum := fun M H q vs ds Q K _ hq ra c h => by
  obtain ⟨xs, rfl, h⟩ := h
  rw [ra.ints] at hq
  exact ⟨q, xs, rfl, SqL.of hq, c _ _ _ (fun _ _ e => e) (.int _) h⟩
def fMax : List DV → (DV → Prop) → Prop := fun ds K => DV.intsOf ds fun xs => 0 < xs.length ∧ ∀ m, m ∈ xs → (∀ y, y ∈ xs → y ≤ m) → K (.int m)
def fMin : List DV → (DV → Prop) → Prop := fun ds K => DV.intsOf ds fun xs => 0 < xs.length ∧ ∀ m, m ∈ xs → (∀ y, y ∈ xs → m ≤ y) → K (.int m)
theorem rd_max {K0 : PySem.W.Frag} : RdQ W (rMax K0) fMax := fun M H q vs ds Q K _ hq ra c h => by
  obtain ⟨xs, rfl, l, h⟩ := h
  rw [ra.ints] at hq
  exact ⟨q, xs, rfl, SqL.of hq, l, fun m h1 h2 => c _ _ _ (fun _ _ e => e) (.int _) (h m h1 h2)⟩
theorem rd_min {K0 : PySem.W.Frag} : RdQ W (rMin K0) fMin := fun M H q vs ds Q K _ hq ra c h => by
  obtain ⟨xs, rfl, l, h⟩ := h
  rw [ra.ints] at hq
  exact ⟨q, xs, rfl, SqL.of hq, l, fun m h1 h2 => c _ _ _ (fun _ _ e => e) (.int _) (h m h1 h2)⟩
def fSorted : List DV → (List DV → Prop) → Prop := fun ds K => DV.intsOf ds fun xs => xs.length < 64 ∧ ∀ ys : List Int, ys.Perm xs → ys.Pairwise (· ≤ ·) → K (ys.map DV.int)
theorem rd_sorted {K0 : PySem.W.Frag} : RdQF W (rSorted K0) fSorted := fun M H q vs ds Q K _ hq ra c h => by
  obtain ⟨xs, rfl, l, h⟩ := h
  rw [ra.ints] at hq
  exact ⟨q, xs, rfl, SqL.of hq, l, fun ys p h1 h2 np => c _ _ _ np (repA_ints ys) (h ys h1 h2)⟩
def fC1 (g : Int → Int) : List DV → (DV → Prop) → Prop := fun ds K => match ds with
  | [x] => x.asI fun i => K (.int (g i))
  | _ => False
def fC2 (g : Int → Int → Int) : List DV → (DV → Prop) → Prop := fun ds K => match ds with
  | [x, y] => x.asI fun i => y.asI fun j => K (.int (g i j))
  | _ => False
theorem rd_C1 {g : Int → Int} : RdC W (fun xs H Q => ∃ i, xs = [.int i] ∧ Q (.int (g i)) H) (fC1 g) := fun M H vs ds Q K _ ra c h => by
  unfold fC1 at h
  split at h
  · obtain ⟨i, rfl, h⟩ := DV.asI_inv h
    obtain ⟨v, rfl, r⟩ := ra.one_inv
    exact ⟨i, by rw [r.int_inv], c _ _ _ (fun _ _ e => e) (.int _) h⟩
  · exact h.elim
theorem rd_C2 {g : Int → Int → Int} : RdC W (fun xs H Q => ∃ i j, xs = [.int i, .int j] ∧ Q (.int (g i j)) H) (fC2 g) := fun M H vs ds Q K _ ra c h => by
  unfold fC2 at h
  split at h
  · obtain ⟨i, rfl, h1⟩ := DV.asI_inv h
    obtain ⟨j, rfl, h⟩ := DV.asI_inv h1
    obtain ⟨v, us, rfl, r, rs⟩ := ra.cons_inv
    obtain ⟨u, rfl, r2⟩ := rs.one_inv
    exact ⟨i, j, by rw [r.int_inv, r2.int_inv], c _ _ _ (fun _ _ e => e) (.int _) h⟩
  · exact h.elim
def fInt : List DV → (DV → Prop) → Prop := fun ds K => match ds with
  | [.int i] => K (.int i)
  | [.bl k] => K (.int (if k then 1 else 0))
  | _ => False
theorem rd_int : RdC W (fun xs H Q => (∃ i, xs = [.int i] ∧ Q (.int i) H) ∨ ∃ k, xs = [.bl k] ∧ Q (.int (if k then 1 else 0)) H) fInt := fun M H vs ds Q K _ ra c h => by
  unfold fInt at h
  split at h
  · obtain ⟨v, rfl, r⟩ := ra.one_inv
    exact .inl ⟨_, by rw [r.int_inv], c _ _ _ (fun _ _ e => e) (.int _) h⟩
  · obtain ⟨v, rfl, r⟩ := ra.one_inv
    exact .inr ⟨_, by rw [r.bl_inv], c _ _ _ (fun _ _ e => e) (.int _) h⟩
  · exact h.elim
/-! list + list, list * int, slices -/
def dCat (a b : TDA) : TDA := fun δ n K => a δ n fun xs m => b δ m fun ys k => xs.length + ys.length ≤ 100000 ∧ K (xs ++ ys) k
def dRep (a : TDA) (b : TD) : TDA := fun δ n K => a δ n fun xs m => b δ m fun y k => y.asI fun i => -(2 ^ 63) ≤ i ∧ i < 2 ^ 63 ∧ xs.length * i.toNat ≤ 100000 ∧ K (List.replicate i.toNat xs).flatten k
theorem le_size2 {n : Nat} (h : n ≤ 100000) : n ≤ sizeLine := Nat.le_trans h (by decide)
theorem df_cat {qa qb : TDA} (ha : DQ X W a ta qa) (hb : DQ X W b tb qb) : DF X W (.BinOp a .Add b pos) (tOp rCat ta tb) (dCat qa qb) :=
  ⟨pe_op op_cat ha.pe hb.pe, fun B Φ M σ H δ n Q K ok c h => ha.tr B Φ M σ H δ n _ _ ok (fun xs m q vs H1 f1 p1 hq nb ra h => hb.tr B Φ M σ H1 δ m _ _ (ok.expr f1 p1) (fun ys k q2 us H2 f2 p2 hq2 nb2 rb h => by
    have f12 := f1.trans f2
    have hq1 : H2 q = some (.lst vs) := f2 _ _ hq fun z => nb (ok.pool q z).1
    refine ⟨q, q2, vs, us, rfl, rfl, hq1, hq2, by rw [ra.1, rb.1]; exact le_size2 h.1, fun p np => ?_⟩
    exact c _ _ _ _ _ (f12.upd (.inl (none_fr f12 p2 np))) (pl_new p2 np) (none_fr f12 p2 np) upd_same (repA_new ((ra.mono (ok.frM f2)).append rb) np) h.2) h) h⟩
theorem df_rep {qa : TDA} (ha : DQ X W a ta qa) (hb : DE X W b tb db) : DF X W (.BinOp a .Mult b pos) (tOp rRep ta tb) (dRep qa db) :=
  ⟨pe_op op_rep ha.pe hb.pe, fun B Φ M σ H δ n Q K ok c h => ha.tr B Φ M σ H δ n _ _ ok (fun xs m q vs H1 f1 p1 hq nb ra h => hb.tr B Φ M σ H1 δ m _ _ (ok.expr f1 p1) (fun y k u H2 f2 p2 r2 h => by
    obtain ⟨i, rfl, h1, h2, h3, h⟩ := DV.asI_inv h
    have f12 := f1.trans f2
    have hq1 : H2 q = some (.lst vs) := f2 _ _ hq fun z => nb (ok.pool q z).1
    refine ⟨q, i, vs, rfl, r2.int_inv, hq1, h1, h2, by rw [ra.1]; exact le_size2 h3, fun p np => ?_⟩
    exact c _ _ _ _ _ (f12.upd (.inl (none_fr f12 p2 np))) (pl_new p2 np) (none_fr f12 p2 np) upd_same (repA_new ((ra.mono (ok.frM f2)).rep _) np) h) h) h⟩
abbrev TDO := En → Nat → (Option Int → Nat → Prop) → Prop
def TrO (W : Wo) (t : TO) (d : TDO) : Prop := ∀ (B : Addr → Prop) (Φ : WPhi) (M : Addr → Prop) (σ : L2.St) (H : Hp) (δ : En) (n : Nat) (Q : Option Int → Hp → Prop) (K : Option Int → Nat → Prop), Ok W B Φ M σ H δ n →
  (∀ b m H', FrS (pl W) H H' → Pl W H' m → K b m → Q b H') → d δ n K → t σ H Q
structure DO (X : Cx) (W : Wo) (e : Option Expr) (t : TO) (d : TDO) : Prop where
  po : PO X e t
  tr : TrO W t d
def dNoPart : TDO := fun _ n K => K none n
def dPart (d : TD) : TDO := fun δ n K => d δ n fun x m => x.asI fun i => K (some i) m
theorem do_none : DO X W none tNoPart dNoPart := ⟨po_none, fun B Φ M σ H δ n Q K ok c h => c _ _ _ .refl ok.plOf h⟩
theorem do_some (h : DE X W e t d) : DO X W (some e) (tPart t) (dPart d) := ⟨po_some h.pe, fun B Φ M σ H δ n Q K ok c q => h.tr B Φ M σ H δ n _ _ ok (fun r m v H' f p ra k => by
  obtain ⟨i, rfl, k⟩ := DV.asI_inv k
  exact ⟨i, ra.int_inv, c _ _ _ f p k⟩) q⟩
def cutD (xs : List DV) (lo hi : Option Int) : List DV := (xs.drop (HT.sIx xs.length 0 lo)).take (HT.sIx xs.length xs.length hi - HT.sIx xs.length 0 lo)
def dSl (a : TDA) (l h : TDO) : TDA := fun δ n K => a δ n fun xs m => l δ m fun lo k => h δ k fun hi j => K (cutD xs lo hi) j
theorem df_sl {lo hi : Option Expr} {tl th : TO} {dl dh : TDO} {p2 : Pos} (ha : DQ X W a ta dA) (hl : DO X W lo tl dl) (hh : DO X W hi th dh) : DF X W (.Subscript a (.Slice lo hi none p2) pos) (tSl (rSlL X.K) ta tl th) (dSl dA dl dh) :=
  ⟨pe_slice sl_list ha.pe hl.po hh.po, fun B Φ M σ H δ n Q K ok c h => ha.tr B Φ M σ H δ n _ _ ok (fun xs m q vs H1 f1 p1 hq nb ra h => hl.tr B Φ M σ H1 δ m _ _ (ok.expr f1 p1) (fun lo k H2 f2 p2 h =>
    hh.tr B Φ M σ H2 δ k _ _ ((ok.expr f1 p1).expr f2 p2) (fun hi j H3 f3 p3 h => by
      have f23 := f2.trans f3
      have f13 := f1.trans f23
      have hq1 : H3 q = some (.lst vs) := f23 _ _ hq fun z => nb (ok.pool q z).1
      refine ⟨q, vs, rfl, SqL.of hq1, fun p np => ?_⟩
      have r3 := ra.mono (ok.frM f23)
      refine c _ _ _ _ _ (f13.upd (.inl (none_fr f13 p3 np))) (pl_new p3 np) (none_fr f13 p3 np) upd_same (repA_new ?_ np) h
      unfold cutV cutD
      rw [r3.1]
      exact (r3.drop _).take _) h) h) h⟩
def dRev (a : TDA) : TDA := fun δ n K => a δ n fun xs m => K xs.reverse m
theorem df_rev {k : Nat} {p1 p2 p3 : Pos} (ha : DQ X W a ta dA) : DF X W (.Subscript a (.Slice none none (some (.UnaryOp .USub (.Constant (.int 1) k p1) p2)) p3) pos) (tRevL X.K ta) (dRev dA) :=
  ⟨pe_revL ha.pe, fun B Φ M σ H δ n Q K ok c h => ha.tr B Φ M σ H δ n _ _ ok (fun xs m q vs H1 f1 p1 hq nb ra h =>
    ⟨q, vs, rfl, SqL.of hq, fun p np => c _ _ _ _ _ (f1.upd (.inl (none_fr f1 p1 np))) (pl_new p1 np) (none_fr f1 p1 np) upd_same (repA_new ra.reverse np) h⟩) h⟩
/-! tests -/
def dB (d : TD) : TDT := fun δ n K => d δ n fun x m => x.asB fun b => K b m
def dAnd (a b : TDT) : TDT := fun δ n K => a δ n fun x m => (x = true → b δ m K) ∧ (x = false → K false m)
def dOr (a b : TDT) : TDT := fun δ n K => a δ n fun x m => (x = true → K true m) ∧ (x = false → b δ m K)
def dNot (a : TDT) : TDT := fun δ n K => a δ n fun x m => K (!x) m
def dYes : TDT := fun _ n K => K true n
variable {t1 t2 : TT} {d1 d2 : TDT}
theorem trT_B (h : TrE W t d) : TrT W (tB t) (dB d) := fun B Φ M σ H δ n Q K ok c q => h B Φ M σ H δ n _ _ ok (fun r m v H' f p ra k => by
  obtain ⟨b, rfl, k⟩ := DV.asB_inv k
  exact ⟨b, ra.bl_inv, c _ _ _ f p k⟩) q
theorem dt_val (h : DE X W e t d) (he : ∀ whole, isTrue e X.env whole = (do let v ← whole; standAt e.pos; holding [v] (truthy v)) := by intro _; rfl) : DT X W e (tB t) (dB d) := ⟨pt_val h.pe he, trT_B h.tr⟩
theorem dt_cmp {op : CmpOp} {r : R2} {f : DV → DV → (DV → Prop) → Prop} (ho : OpR X (compareOp op) r) (hr : RdOp W r f) (ha : DE X W a ta da) (hb : DE X W b tb db) (hm : behindInMarks op b = false := by exact nomark _) : DT X W (.Compare a [op] [b] pos) (tTest (tOp r ta tb)) (dB (dOp f da db)) :=
  ⟨pt_cmpR ho ha.pe hb.pe hm, trT_B (trE_op hr ha.tr hb.tr)⟩
theorem ite_split {c : Bool} {A A' : Prop} (h1 : c = true → A) (h2 : c = false → A') : if c = true then A else A' := by cases c <;> simp_all
theorem trT_and (h1 : TrT W t1 d1) (h2 : TrT W t2 d2) : TrT W (tAnd t1 t2) (dAnd d1 d2) := fun B Φ M σ H δ n Q K ok c q => h1 B Φ M σ H δ n _ _ ok (fun b m H' f p k =>
  ite_split (fun z => h2 B Φ M σ H' δ m _ _ (ok.expr f p) (fun b2 m2 H2 f2 p2 k2 => c _ _ _ (f.trans f2) p2 k2) (k.1 z)) (fun z => c _ _ _ f p (k.2 z))) q
theorem trT_or (h1 : TrT W t1 d1) (h2 : TrT W t2 d2) : TrT W (tOr t1 t2) (dOr d1 d2) := fun B Φ M σ H δ n Q K ok c q => h1 B Φ M σ H δ n _ _ ok (fun b m H' f p k =>
  ite_split (fun z => c _ _ _ f p (k.1 z)) (fun z => h2 B Φ M σ H' δ m _ _ (ok.expr f p) (fun b2 m2 H2 f2 p2 k2 => c _ _ _ (f.trans f2) p2 k2) (k.2 z))) q
variable {rest : List Expr}
theorem dw_and1 (ha : DT X W a t1 d1) : DW X W (.BoolOp .And [a] pos) t1 d1 := ⟨pw_and1 ha.pt, ha.tr⟩
theorem dw_or1 (ha : DT X W a t1 d1) : DW X W (.BoolOp .Or [a] pos) t1 d1 := ⟨pw_or1 ha.pt, ha.tr⟩
theorem dw_and (ha : DT X W a t1 d1) (hb : DW X W (.BoolOp .And (b :: rest) pos) t2 d2) : DW X W (.BoolOp .And (a :: b :: rest) pos) (tAnd t1 t2) (dAnd d1 d2) := ⟨pw_and ha.pt hb.pw, trT_and ha.tr hb.tr⟩
theorem dw_or (ha : DT X W a t1 d1) (hb : DW X W (.BoolOp .Or (b :: rest) pos) t2 d2) : DW X W (.BoolOp .Or (a :: b :: rest) pos) (tOr t1 t2) (dOr d1 d2) := ⟨pw_or ha.pt hb.pw, trT_or ha.tr hb.tr⟩
theorem DW.dt (h : DW X W e t1 d1) : DT X W e t1 d1 := ⟨h.pw.pt, h.tr⟩
theorem dt_not (h : DT X W a t1 d1) : DT X W (.UnaryOp .Not a pos) (tNot t1) (dNot d1) := ⟨pt_not h.pt, fun B Φ M σ H δ n Q K ok c q => h.tr B Φ M σ H δ n _ _ ok (fun b m H' f p k => c _ _ _ f p k) q⟩
def dAndV (a b : TD) : TD := fun δ n K => a δ n fun x m => x.asB fun c => (c = true → b δ m K) ∧ (c = false → K (.bl false) m)
def dOrV (a b : TD) : TD := fun δ n K => a δ n fun x m => x.asB fun c => (c = true → K (.bl true) m) ∧ (c = false → b δ m K)
def dNotV (a : TD) : TD := fun δ n K => a δ n fun x m => x.asB fun c => K (.bl (!c)) m
theorem de_one {op} (h : DE X W a ta da) : DE X W (.BoolOp op [a] pos) ta da := ⟨pe_one h.pe, h.tr⟩
theorem de_and (ha : DE X W a ta da) (hb : DE X W (.BoolOp .And (b :: rest) pos) tb db) : DE X W (.BoolOp .And (a :: b :: rest) pos) (tAndV ta tb) (dAndV da db) :=
  ⟨pe_and ha.pe hb.pe, fun B Φ M σ H δ n Q K ok c q => ha.tr B Φ M σ H δ n _ _ ok (fun x m v H' f p r k => by
    obtain ⟨b, rfl, k⟩ := DV.asB_inv k
    exact ⟨b, r.bl_inv, ite_split (fun z => hb.tr B Φ M σ H' δ m _ _ (ok.expr f p) (fun x2 m2 v2 H2 f2 p2 r2 k2 => c _ _ _ _ (f.trans f2) p2 r2 k2) (k.1 z)) (fun z => c _ _ _ _ f p (.bl _) (k.2 z))⟩) q⟩
theorem de_or (ha : DE X W a ta da) (hb : DE X W (.BoolOp .Or (b :: rest) pos) tb db) : DE X W (.BoolOp .Or (a :: b :: rest) pos) (tOrV ta tb) (dOrV da db) :=
  ⟨pe_or ha.pe hb.pe, fun B Φ M σ H δ n Q K ok c q => ha.tr B Φ M σ H δ n _ _ ok (fun x m v H' f p r k => by
    obtain ⟨b, rfl, k⟩ := DV.asB_inv k
    exact ⟨b, r.bl_inv, ite_split (fun z => c _ _ _ _ f p (.bl _) (k.1 z)) (fun z => hb.tr B Φ M σ H' δ m _ _ (ok.expr f p) (fun x2 m2 v2 H2 f2 p2 r2 k2 => c _ _ _ _ (f.trans f2) p2 r2 k2) (k.2 z))⟩) q⟩
theorem de_not (ha : DE X W a ta da) : DE X W (.UnaryOp .Not a pos) (tNotV ta) (dNotV da) :=
  ⟨pe_not ha.pe, fun B Φ M σ H δ n Q K ok c q => ha.tr B Φ M σ H δ n _ _ ok (fun x m v H' f p r k => by
    obtain ⟨b, rfl, k⟩ := DV.asB_inv k
    exact ⟨b, r.bl_inv, c _ _ _ _ f p (.bl _) k⟩) q⟩
def dIf (c : TDT) (a b : TD) : TD := fun δ n K => c δ n fun x m => (x = true → a δ m K) ∧ (x = false → b δ m K)
theorem de_if {c : Expr} (hc : DT X W c t1 d1) (ha : DE X W a ta da) (hb : DE X W b tb db) : DE X W (.IfExp c a b pos) (tIf t1 ta tb) (dIf d1 da db) :=
  ⟨pe_ifExp hc.pt ha.pe hb.pe, fun B Φ M σ H δ n Q K ok c q => hc.tr B Φ M σ H δ n _ _ ok (fun x m H' f p k =>
    ite_split (fun z => ha.tr B Φ M σ H' δ m _ _ (ok.expr f p) (fun x2 m2 v2 H2 f2 p2 r2 k2 => c _ _ _ _ (f.trans f2) p2 r2 k2) (k.1 z)) (fun z => hb.tr B Φ M σ H' δ m _ _ (ok.expr f p) (fun x2 m2 v2 H2 f2 p2 r2 k2 => c _ _ _ _ (f.trans f2) p2 r2 k2) (k.2 z))) q⟩
/-! repr -/
def fRepr : List DV → (DV → Prop) → Prop := fun ds K => match ds with
  | [.lst xs] => (∃ n k, Rp (DV.lst xs).py n k ∧ k ≤ 60 ∧ n ≤ 300000) ∧ (DV.lst xs).pu = true ∧ K (.str (DV.lst xs).py.shown)
  | [.tup xs] => (∃ n k, Rp (DV.tup xs).py n k ∧ k ≤ 60 ∧ n ≤ 300000) ∧ (DV.tup xs).pu = true ∧ K (.str (DV.tup xs).py.shown)
  | _ => False
theorem rd_repr {K0 : PySem.W.Frag} : RdC W (rRep2 K0) fRepr := fun M H vs ds Q K _ ra c h => by
  unfold fRepr at h
  split at h
  · obtain ⟨⟨n, k, h1, h2, h3⟩, h4, h⟩ := h
    obtain ⟨v, rfl, r⟩ := ra.one_inv
    obtain ⟨q, us, rfl, _⟩ := r.lst_inv
    exact ⟨q, _, n, k, rfl, r.dp h4, h1, h2, h3, c _ _ _ (fun _ _ e => e) (.str _) h⟩
  · obtain ⟨⟨n, k, h1, h2, h3⟩, h4, h⟩ := h
    obtain ⟨v, rfl, r⟩ := ra.one_inv
    obtain ⟨q, us, rfl, _⟩ := r.tup_inv
    exact ⟨q, _, n, k, rfl, r.dp h4, h1, h2, h3, c _ _ _ (fun _ _ e => e) (.str _) h⟩
  · exact h.elim
end

/-! ### readings without a heap: targets, statements, loops -/
structure DEn where
  nx : En → Nat → Prop
  rt : DV → Nat → Prop
  bk : En → Nat → Prop := fun _ _ => False
  ct : En → Nat → Prop := fun _ _ => False
abbrev TDS := DEn → En → Nat → Prop
structure Sim (W : Wo) (B : Addr → Prop) (Φ : WPhi) (DD : DEn) (D : Ends) : Prop where
  nx : ∀ M σ H δ n, Ok W B Φ M σ H δ n → DD.nx δ n → D.nx σ H
  rt : ∀ M H v r n, Φ M H → (∀ a, B a → M a) → Pl W H n → Rep W M H v r → DD.rt r n → D.rt v H
  bk : ∀ M σ H δ n, Ok W B Φ M σ H δ n → DD.bk δ n → D.bk σ H
  ct : ∀ M σ H δ n, Ok W B Φ M σ H δ n → DD.ct δ n → D.ct σ H
def TrS (W : Wo) (t : TS) (d : TDS) : Prop := ∀ (B : Addr → Prop) (Φ : WPhi) (M : Addr → Prop) (σ : L2.St) (H : Hp) (δ : En) (n : Nat) (D : Ends) (DD : DEn), Ok W B Φ M σ H δ n → Sim W B Φ DD D → d DD δ n → t D σ H
structure DS (X : Cx) (W : Wo) (s : Stmt) (t : TS) (d : TDS) : Prop where
  ps : PS X s t
  tr : TrS W t d
structure DSs (X : Cx) (W : Wo) (s : List Stmt) (t : TS) (d : TDS) : Prop where
  pss : PSs X s t
  tr : TrS W t d
abbrev TDG := DV → En → (En → Prop) → Prop
abbrev TDGs := List DV → En → (En → Prop) → Prop
def TrG (W : Wo) (vs : List Nat) (g : TG) (d : TDG) : Prop := ∀ (B : Addr → Prop) (Φ : WPhi) (M : Addr → Prop) (σ : L2.St) (H : Hp) (δ : En) (n : Nat) (v : V) (r : DV) (Q : L2.St → Hp → Prop) (K : En → Prop), Ok W B Φ M σ H δ n → Rep W M H v r →
  (∀ σ' δ', Ok W B Φ M σ' H δ' n → wipe σ' vs = wipe σ vs → K δ' → Q σ' H) → d r δ K → g v σ H Q
def TrGs (W : Wo) (vs : List Nat) (g : TGs) (d : TDGs) : Prop := ∀ (B : Addr → Prop) (Φ : WPhi) (M : Addr → Prop) (σ : L2.St) (H : Hp) (δ : En) (n : Nat) (v : List V) (r : List DV) (Q : L2.St → Hp → Prop) (K : En → Prop), Ok W B Φ M σ H δ n → RepA W M H v r →
  (∀ σ' δ', Ok W B Φ M σ' H δ' n → wipe σ' vs = wipe σ vs → K δ' → Q σ' H) → d r δ K → g v σ H Q
structure DG (X : Cx) (W : Wo) (vs : List Nat) (e : Expr) (g : TG) (d : TDG) : Prop where
  pg : PG X e g
  tr : TrG W vs g d
structure DGs (X : Cx) (W : Wo) (vs : List Nat) (e : List Expr) (g : TGs) (d : TDGs) : Prop where
  pgs : PGs X e g
  tr : TrGs W vs g d
def dgN (i : Nat) : TDG := fun r δ K => K (δ.set i (some (.dat r)))
def dgT (d : TDGs) : TDG := fun r δ K => r.asT fun xs => d xs δ K
def dgNil : TDGs := fun rs δ K => match rs with
  | [] => K δ
  | _ => False
def dgCons (a : TDG) (b : TDGs) : TDGs := fun rs δ K => match rs with
  | r :: rs => a r δ fun δ2 => b rs δ2 K
  | _ => False
theorem wipe_set {σ : L2.St} {i : Nat} {x : Option V} : ∀ {vs : List Nat}, i ∈ vs → wipe (σ.set i x) vs = wipe σ vs
  | v :: vs, h => by
    unfold wipe
    by_cases e : i ∈ vs
    · rw [wipe_set e]
    · have e2 : i = v := by
        rcases List.mem_cons.mp h with h | h
        · exact h
        · exact absurd h e
      subst e2
      have : ∀ {ws : List Nat}, i ∉ ws → wipe (σ.set i x) ws = (wipe σ ws).set i x := by
        intro ws hw
        induction ws with
        | nil => rfl
        | cons w ws ih =>
          unfold wipe
          rw [ih fun z => hw (List.mem_cons_of_mem _ z)]
          rw [List.set_comm]
          intro z
          exact hw (by rw [z]; exact List.mem_cons_self)
      rw [this e, List.set_set]
section
variable {X : Cx} {W : Wo} {e : Expr} {es : List Expr} {vs : List Nat} {g : TG} {gs : TGs} {dg : TDG} {dgs : TDGs} {pos : Pos}
theorem trG_name {i : Nat} (hi : i ∈ vs) : TrG W vs (gName i) (dgN i) := fun B Φ M σ H δ n v r Q K ok ra c h => c _ _ (ok.set ra i) (wipe_set hi) h
theorem trG_tup {K0 : PySem.W.Frag} {k : Nat} (h : TrGs W vs gs dgs) (len : ∀ xs δ K, dgs xs δ K → xs.length = k) : TrG W vs (gTup K0 k gs) (dgT dgs) := fun B Φ M σ H δ n v r Q K ok ra c q => by
  obtain ⟨xs, rfl, q⟩ := DV.asT_inv q
  obtain ⟨a, us, rfl, h1, h2, h3⟩ := ra.tup_inv
  exact ⟨a, us, rfl, SqT.of h1, by rw [h3.1]; exact len _ _ _ q, h B Φ M σ H δ n _ _ _ _ ok h3 c q⟩
theorem trGs_nil : TrGs W vs gNil dgNil := fun B Φ M σ H δ n v r Q K ok ra c q => by
  unfold dgNil at q
  split at q
  · exact ⟨ra.nil_inv, c _ _ ok rfl q⟩
  · exact q.elim
theorem trGs_cons (h1 : TrG W vs g dg) (h2 : TrGs W vs gs dgs) : TrGs W vs (gCons g gs) (dgCons dg dgs) := fun B Φ M σ H δ n v r Q K ok ra c q => by
  unfold dgCons at q
  split at q
  · obtain ⟨u, us, rfl, r1, r2⟩ := ra.cons_inv
    refine ⟨u, us, rfl, h1 B Φ M σ H δ n _ _ _ _ ok r1 (fun σ' δ' ok' e k => ?_) q⟩
    exact h2 B Φ M σ' H δ' n _ _ _ _ ok' r2 (fun σ2 δ2 ok2 e2 k2 => c _ _ ok2 (e2.trans e) k2) k
  · exact q.elim
theorem dg_name {i : Nat} {x : Str} (hN : X.N.Nodup) (hi : X.N[i]? = some x) (hx : Loc X.env.scope x) (hv : i ∈ vs := by decide) (hf : X.fn x = true ∨ X.env.scope.names.lookup x = some .local := by first | exact .inl rfl | exact .inr rfl | assumption) : DG X W vs (.Name x pos) (gName i) (dgN i) :=
  ⟨pg_name hN hi hx hf, trG_name hv⟩
theorem dgs_nil : DGs X W vs [] gNil dgNil := ⟨pgs_nil, trGs_nil⟩
theorem dgs_cons (h1 : DG X W vs e g dg) (h2 : DGs X W vs es gs dgs) (hs : (assignEach (e :: es) X.env).map (·.2) = assign e X.env :: (assignEach es X.env).map (·.2) := by rfl) : DGs X W vs (e :: es) (gCons g gs) (dgCons dg dgs) :=
  ⟨pgs_cons h1.pg h2.pgs hs, trGs_cons h1.tr h2.tr⟩
end
section
variable {X : Cx} {W : Wo} {e : Expr} {vs : List Nat} {t : TE} {d : TD} {dA : TDA} {g : TG} {gs : TGs} {dg : TDG} {dgs : TDGs} {pos : Pos} {s : Stmt} {rest : List Stmt} {t1 t2 : TS} {d1 d2 : TDS}
/-- how many targets there are -/
inductive GLen : TDGs → Nat → Prop
  | nil : GLen dgNil 0
  | cons {i : Nat} {b : TDGs} {k : Nat} : GLen b k → GLen (dgCons (dgN i) b) (k + 1)
  | tup {c b : TDGs} {k j : Nat} : GLen c j → GLen b k → GLen (dgCons (dgT c) b) (k + 1)
theorem GLen.len {b : TDGs} {k : Nat} (h : GLen b k) : ∀ xs δ K, b xs δ K → xs.length = k := by
  induction h with
  | nil =>
    intro xs δ K q
    unfold dgNil at q
    split at q
    · rfl
    · exact q.elim
  | cons hb ih =>
    intro xs δ K q
    unfold dgCons at q
    split at q
    · rw [List.length_cons, ih _ _ _ q]
    · exact q.elim
  | tup hc hb ih1 ih2 =>
    intro xs δ K q
    unfold dgCons at q
    split at q
    · obtain ⟨ys, rfl, q⟩ := DV.asT_inv q
      have : ∀ {c : TDGs} {j : Nat}, GLen c j → ∀ {ys : List DV} {δ : En} {K : En → Prop}, c ys δ K → ∃ δ2, K δ2 := by
        intro c j h
        induction h with
        | nil =>
          intro ys δ K q
          unfold dgNil at q
          split at q
          · exact ⟨_, q⟩
          · exact q.elim
        | cons hb ih =>
          intro ys δ K q
          unfold dgCons at q
          split at q
          · exact ih q
          · exact q.elim
        | tup hc hb ih1 ih2 =>
          intro ys δ K q
          unfold dgCons at q
          split at q
          · obtain ⟨zs, rfl, q⟩ := DV.asT_inv q
            obtain ⟨_, q⟩ := ih1 q
            exact ih2 q
          · exact q.elim
      obtain ⟨δ2, q⟩ := this hc q
      rw [List.length_cons, ih2 _ _ _ q]
    · exact q.elim
theorem dg_tup {es : List Expr} {k : Nat} {n : Nat} (hc : X.calm = true) (h : DGs X W vs es gs dgs) (hl : GLen dgs n) (hn : (assignEach es X.env).length = n := by rfl) (hst : (assignEach es X.env).findIdx? (·.1) = none := by rfl) : DG X W vs (.Tuple es k pos) (gTup X.K n gs) (dgT dgs) :=
  ⟨pg_tup hc h.pgs hn hst, trG_tup h.tr hl.len⟩
/-! statements -/
def dSet (i : Nat) (d : TD) : TDS := fun DD δ n => d δ n fun x m => DD.nx (δ.set i (some (.dat x))) m
def dSetO (i : Nat) (d : TDA) : TDS := fun DD δ n => d δ n fun x m => DD.nx (δ.set i (some (.own x))) m
def dSetG (d : TD) (g : TDG) : TDS := fun DD δ n => d δ n fun x m => g x δ fun δ2 => DD.nx δ2 m
def dSeq (a b : TDS) : TDS := fun DD δ n => a { DD with nx := b DD } δ n
def dNext : TDS := fun DD δ n => DD.nx δ n
def dDrop (d : TD) : TDS := fun DD δ n => d δ n fun _ m => DD.nx δ m
def dRet (d : TD) : TDS := fun DD δ n => d δ n DD.rt
def dIfS (c : TDT) (a b : TDS) : TDS := fun DD δ n => c δ n fun x m => (x = true → a DD δ m) ∧ (x = false → b DD δ m)
def dFrz (i : Nat) (a : TDS) : TDS := fun DD δ n => down δ i fun ds => a DD (δ.set i (some (.dat (.lst ds)))) n
theorem trS_set (i : Nat) (h : TrE W t d) : TrS W (tAsg t (gName i)) (dSet i d) := fun B Φ M σ H δ n D DD ok sm q => h B Φ M σ H δ n _ _ ok (fun r m v H' f p ra k => sm.nx _ _ _ _ _ ((ok.expr f p).set ra i) k) q
theorem ds_set {i : Nat} {x : Str} {pos' : Pos} (hN : X.N.Nodup) (hi : X.N[i]? = some x) (hx : Loc X.env.scope x) (he : DE X W e t d) (hs : swapsWith e (some (.Name x pos')) pos.line X.env = pure false := by rfl) (hf : X.fn x = true ∨ X.env.scope.names.lookup x = some .local := by first | exact .inl rfl | exact .inr rfl | assumption) :
    DS X W (.Assign [.Name x pos'] e pos) (tAsg t (gName i)) (dSet i d) := ⟨ps_set hN hi hx he.pe hs hf, trS_set i he.tr⟩
theorem trS_setO (i : Nat) (h : TrF W t dA) : TrS W (tAsg t (gName i)) (dSetO i dA) := fun B Φ M σ H δ n D DD ok sm q => h B Φ M σ H δ n _ _ ok (fun r m a vs H' f p n1 h1 ra k => sm.nx _ _ _ _ _ (ok.setOwn f p n1 h1 ra i) k) q
theorem ds_setO {i : Nat} {x : Str} {pos' : Pos} (hN : X.N.Nodup) (hi : X.N[i]? = some x) (hx : Loc X.env.scope x) (he : DF X W e t dA) (hs : swapsWith e (some (.Name x pos')) pos.line X.env = pure false := by rfl) (hf : X.fn x = true ∨ X.env.scope.names.lookup x = some .local := by first | exact .inl rfl | exact .inr rfl | assumption) :
    DS X W (.Assign [.Name x pos'] e pos) (tAsg t (gName i)) (dSetO i dA) := ⟨ps_set hN hi hx he.pe hs hf, trS_setO i he.tr⟩
theorem trS_setG (h : TrE W t d) (hg : TrG W vs g dg) : TrS W (tAsg t g) (dSetG d dg) := fun B Φ M σ H δ n D DD ok sm q => h B Φ M σ H δ n _ _ ok (fun r m v H' f p ra k =>
  hg B Φ M σ H' δ m _ _ _ _ (ok.expr f p) ra (fun σ' δ' ok' _ k' => sm.nx _ _ _ _ _ ok' k') k) q
theorem ds_asg {tg : Expr} (vs : List Nat) (he : DE X W e t d) (hg : DG X W vs tg g dg) (hs : swapsWithSole [tg] e pos.line X.env = pure false := by rfl) (hw : swappedStores [tg] e X.env = pure none := by rfl)
    (h1 : (assignEach [tg] X.env).map (·.2) = [assign tg X.env] := by rfl) : DS X W (.Assign [tg] e pos) (tAsg t g) (dSetG d dg) := ⟨ps_asg he.pe hg.pg hs hw h1, trS_setG he.tr hg.tr⟩
theorem Sim.nxt {B : Addr → Prop} {Φ : WPhi} {DD : DEn} {D : Ends} (h : Sim W B Φ DD D) {p : L2.St → Hp → Prop} {q : En → Nat → Prop} (g : ∀ M σ H δ n, Ok W B Φ M σ H δ n → q δ n → p σ H) : Sim W B Φ { DD with nx := q } { D with nx := p } := ⟨g, h.rt, h.bk, h.ct⟩
theorem dss_nil : DSs X W [] tNext dNext := ⟨pss_nil, fun B Φ M σ H δ n D DD ok sm q => sm.nx _ _ _ _ _ ok q⟩
theorem dss_cons (h1 : DS X W s t1 d1) (h2 : DSs X W rest t2 d2) : DSs X W (s :: rest) (tSeq t1 t2) (dSeq d1 d2) := ⟨pss_cons h1.ps h2.pss, fun B Φ M σ H δ n D DD ok sm q =>
  h1.tr B Φ M σ H δ n _ _ ok (sm.nxt fun M' σ' H' δ' n' ok' q' => h2.tr B Φ M' σ' H' δ' n' _ _ ok' sm q') q⟩
theorem dss_one (h1 : DS X W s t1 d1) : DSs X W [s] t1 d1 := ⟨pss_one h1.ps, h1.tr⟩
/-- a statement with one meeting point behind it -/
def dCut (a b : TDS) : TDS := fun DD δ n => ∃ Mid : En → Nat → Prop, a { DD with nx := Mid } δ n ∧ ∀ δ' n', Mid δ' n' → b DD δ' n'
theorem dss_cut (h1 : DS X W s t1 d1) (h2 : DSs X W rest t2 d2) : DSs X W (s :: rest) (tSeq t1 t2) (dCut d1 d2) := ⟨pss_cons h1.ps h2.pss, fun B Φ M σ H δ n D DD ok sm ⟨Mid, q, qm⟩ =>
  h1.tr B Φ M σ H δ n _ _ ok (sm.nxt fun M' σ' H' δ' n' ok' q' => h2.tr B Φ M' σ' H' δ' n' _ _ ok' sm (qm _ _ q')) q⟩
theorem dss_frz (i : Nat) {sts : List Stmt} (h : DSs X W sts t1 d1) : DSs X W sts t1 (dFrz i d1) := ⟨h.pss, fun B Φ M σ H δ n D DD ok sm q => by
  obtain ⟨ds, e, q⟩ := down_inv q
  obtain ⟨M', ok'⟩ := ok.frz e
  exact h.tr B Φ M' σ H _ n _ _ ok' sm q⟩
theorem ds_expr (he : DE X W e t d) (hs : swapsWith e none pos.line X.env = pure false := by rfl) : DS X W (.Expr e pos) (tDrop t) (dDrop d) := ⟨ps_expr he.pe hs, fun B Φ M σ H δ n D DD ok sm q =>
  he.tr B Φ M σ H δ n _ _ ok (fun r m v H' f p ra k => sm.nx _ _ _ _ _ (ok.expr f p) k) q⟩
theorem ds_ret (he : DE X W e t d) : DS X W (.Return (some e) pos) (tRet t) (dRet d) := ⟨ps_ret he.pe, fun B Φ M σ H δ n D DD ok sm q =>
  he.tr B Φ M σ H δ n _ _ ok (fun r m v H' f p ra k => sm.rt M H' v r m (ok.expr f p).phi ok.base p ra k) q⟩
theorem ds_if {c : Expr} {a b : List Stmt} {tc : TT} {dc : TDT} (hc : DT X W c tc dc) (ha : DSs X W a t1 d1) (hb : DSs X W b t2 d2) : DS X W (.If c a b pos) (tIfS tc t1 t2) (dIfS dc d1 d2) := ⟨ps_if hc.pt ha.pss hb.pss, fun B Φ M σ H δ n D DD ok sm q =>
  hc.tr B Φ M σ H δ n _ _ ok (fun b m H' f p k => ite_split (fun z => ha.tr B Φ M σ H' δ m _ _ (ok.expr f p) sm (k.1 z)) (fun z => hb.tr B Φ M σ H' δ m _ _ (ok.expr f p) sm (k.2 z))) q⟩
def dNever : TDS := fun _ _ _ => False
theorem ds_never : DS X W s tNever dNever := ⟨ps_never, fun _ _ _ _ _ _ _ _ _ _ _ h => h.elim⟩
def dBreak : TDS := fun DD δ n => DD.bk δ n
def dCont : TDS := fun DD δ n => DD.ct δ n
theorem ds_break : DS X W (.Break pos) tBreak dBreak := ⟨ps_break, fun B Φ M σ H δ n D DD ok sm q => sm.bk _ _ _ _ _ ok q⟩
theorem ds_continue : DS X W (.Continue pos) tCont dCont := ⟨ps_continue, fun B Φ M σ H δ n D DD ok sm q => sm.ct _ _ _ _ _ ok q⟩
/-! a, b = x, y -/
def dPar (i j : Nat) (a : TDA) : TDS := fun DD δ n => a δ n fun xs m => match xs with
  | [x, y] => DD.nx ((δ.set i (some (.dat x))).set j (some (.dat y))) m
  | _ => False
theorem ds_par {i j : Nat} {x y : Str} {a b : Expr} {ta : TA} {da : TDA} {px py pt : Pos} {kt k2 pt2} (hc : X.calm = true) (hN : X.N.Nodup) (hi : X.N[i]? = some x) (hj : X.N[j]? = some y) (hij : i ≠ j)
    (hx : X.env.scope.names.lookup x = some .local) (hy : X.env.scope.names.lookup y = some .local) (ha : DA X W [a, b] ta da)
    (hw : swappedStores [.Tuple [.Name x px, .Name y py] kt pt] (.Tuple [a, b] k2 pt2) X.env = pure (some [x, y]))
    (hs : swapsWithSole [.Tuple [.Name x px, .Name y py] kt pt] (.Tuple [a, b] k2 pt2) pos.line X.env = pure false := by rfl) :
    DS X W (.Assign [.Tuple [.Name x px, .Name y py] kt pt] (.Tuple [a, b] k2 pt2) pos) (tPar i j ta) (dPar i j da) := ⟨ps_par hc hN hi hj hij hx hy ha.pa hw hs, fun B Φ M σ H δ n D DD ok sm q =>
  ha.tr B Φ M σ H δ n _ _ ok (fun r m v H' f p ra k => by
    match r, k with
    | [x, y], k =>
      obtain ⟨u, us, rfl, r1, rs⟩ := ra.cons_inv
      obtain ⟨w, rfl, r2⟩ := rs.one_inv
      exact ⟨u, w, rfl, sm.nx _ _ _ _ _ (((ok.expr f p).set r1 i).set r2 j) k⟩) q⟩
def dPar3 (i j l : Nat) (a : TDA) : TDS := fun DD δ n => a δ n fun xs m => match xs with
  | [x, y, z] => DD.nx (((δ.set i (some (.dat x))).set j (some (.dat y))).set l (some (.dat z))) m
  | _ => False
theorem ds_par3 {i j l : Nat} {x y z : Str} {a b c : Expr} {ta : TA} {da : TDA} {px py pz pt pos : Pos} {kt k2 pt2} (hc : X.calm = true) (hN : X.N.Nodup) (hi : X.N[i]? = some x) (hj : X.N[j]? = some y) (hl : X.N[l]? = some z) (hij : i ≠ j) (hil : i ≠ l) (hjl : j ≠ l)
    (hx : X.env.scope.names.lookup x = some .local) (hy : X.env.scope.names.lookup y = some .local) (hz : X.env.scope.names.lookup z = some .local) (ha : DA X W [a, b, c] ta da)
    (hw : swappedStores [.Tuple [.Name x px, .Name y py, .Name z pz] kt pt] (.Tuple [a, b, c] k2 pt2) X.env = pure (some [x, y, z]))
    (hs : swapsWithSole [.Tuple [.Name x px, .Name y py, .Name z pz] kt pt] (.Tuple [a, b, c] k2 pt2) pos.line X.env = pure false := by rfl) :
    DS X W (.Assign [.Tuple [.Name x px, .Name y py, .Name z pz] kt pt] (.Tuple [a, b, c] k2 pt2) pos) (tPar3 i j l ta) (dPar3 i j l da) := ⟨ps_par3 hc hN hi hj hl hij hil hjl hx hy hz ha.pa hw hs, fun B Φ M σ H δ n D DD ok sm q =>
  ha.tr B Φ M σ H δ n _ _ ok (fun r m v H' f p ra k => by
    match r, k with
    | [x, y, z], k =>
      obtain ⟨u, us, rfl, r1, rs⟩ := ra.cons_inv
      obtain ⟨w, ws, rfl, r2, rs⟩ := rs.cons_inv
      obtain ⟨w2, rfl, r3⟩ := rs.one_inv
      exact ⟨u, w, w2, rfl, sm.nx _ _ _ _ _ ((((ok.expr f p).set r1 i).set r2 j).set r3 l) k⟩) q⟩
def dApp (i : Nat) (a : TD) : TDS := fun DD δ n => down δ i fun ds => a δ n fun x m => ds.length < 100000 ∧ DD.nx (δ.set i (some (.own (ds ++ [x])))) m
theorem lt_size2 {n : Nat} (h : n < 100000) : n < sizeLine := Nat.lt_of_lt_of_le h (by decide)
/-- xs.append(e), xs one's own -/
theorem trS_app {K0 : PySem.W.Frag} (i : Nat) (h : TrE W t d) : TrS W (tDrop (tBM K0 "list" rAppend (tVar i) (tCons t tNil))) (dApp i d) := fun B Φ M σ H δ n D DD ok sm q => by
  obtain ⟨ds, e, q⟩ := down_inv q
  obtain ⟨l, us, s, hM, hB, hl, r0⟩ := ok.own i ds e
  refine ⟨.ref l, s, .inl ⟨rfl, us, SqL.of hl⟩, h B Φ M σ H δ n _ _ ok (fun x m v H' f p ra k => ?_) q⟩
  have ok' := ok.expr f p
  have hl' : H' l = some (.lst us) := f _ _ hl fun z => hB (ok.pool l z).1
  exact ⟨l, us, v, rfl, rfl, hl', by rw [r0.1]; exact lt_size2 k.1, sm.nx _ _ _ _ _ (ok'.write e s ((r0.mono (ok.frM f)).append (.cons ra .nil))) k.2⟩
theorem ds_app {x : Str} {e : Expr} {p2 p3 p4 : Pos} (i : Nat) (hi : X.N[i]? = some x := by rfl) (hv : Vis X.env.scope x := by first | exact Or.inl rfl | exact Or.inr (Or.inl rfl)) (he : DE X W e t d)
    (hbase : attributeBase (.Name x p2) "append" X.env (eval (.Name x p2) X.env) = eval (.Name x p2) X.env := by rfl)
    (hfew : ((backTo p4 (starEach [e] X.env)).all (fun x => !x.1) && (backToKw p4 (keywordEach [] X.env)).all (fun x => x.1.isSome) && decide ([e].length + ([] : List Keyword).length + (if ([] : List Keyword).isEmpty then 0 else 1) < 30)) = true := by rfl)
    (hline : (p3.endLine == p4.line) = true := by rfl) (hs : starEach [e] X.env = (false, eval e X.env) :: starEach [] X.env := by rfl) (hplain : (backTo p4 (starEach [] X.env)).any (·.1) = false := by rfl)
    (hsw : swapsWith (.Call (.Attribute (.Name x p2) "append" p3) [e] [] p4) none pos.line X.env = pure false := by rfl) (hd : (x == ("__debug__" : Str)) = false := by decide) (hcd : (x == ("__classdict__" : Str)) = false := by decide) :
    DS X W (.Expr (.Call (.Attribute (.Name x p2) "append" p3) [e] [] p4) pos) (tDrop (tBM X.K "list" rAppend (tVar i) (tCons t tNil))) (dApp i d) :=
  ⟨ps_expr (pe_bm PySem.F.plainAttrs_list PySem.F.slot_list_append PySem.F.type_list_append mt_append (pe_var hi hv hd hcd) (pa_cons he.pe pa_nil hs) hbase hfew hline hs hplain) hsw, trS_app i he.tr⟩
/-- xs[k] = v, xs one's own -/
def dSto (i : Nat) (v k : TD) : TDS := fun DD δ n => down δ i fun ds => v δ n fun x m => k δ m fun y j => y.asI fun z => ∃ p, ixN ds.length z = some p ∧ DD.nx (δ.set i (some (.own (ds.set p x)))) j
theorem trS_sto {tv tk : TE} {v k : TD} (i : Nat) (hv : TrE W tv v) (hk : TrE W tk k) : TrS W (tAsg tv (gSub (tVar i) tk rSetL)) (dSto i v k) := fun B Φ M σ H δ n D DD ok sm q => by
  obtain ⟨ds, e, q⟩ := down_inv q
  obtain ⟨l, us, s, hM, hB, hl, r0⟩ := ok.own i ds e
  refine hv B Φ M σ H δ n _ _ ok (fun x m u H1 f1 p1 r1 q => ⟨.ref l, s, ?_⟩) q
  refine hk B Φ M σ H1 δ m _ _ (ok.expr f1 p1) (fun y j w H2 f2 p2 r2 q => ?_) q
  obtain ⟨z, rfl, p, hp, q⟩ := DV.asI_inv q
  have f12 := f1.trans f2
  have ok' := (ok.expr f1 p1).expr f2 p2
  have hl' : H2 l = some (.lst us) := f12 _ _ hl fun z => hB (ok.pool l z).1
  refine ⟨l, us, z, p, rfl, r2.int_inv, hl', by rw [r0.1]; exact hp, sm.nx _ _ _ _ _ (ok'.write e s ?_) q⟩
  exact (r0.mono (ok.frM f12)).set (r1.mono (ok.frM f2)) p
theorem ds_sto {x : Str} {e k : Expr} {tk : TE} {dk : TD} {p2 p3 : Pos} (i : Nat) (hi : X.N[i]? = some x := by rfl) (hv : Vis X.env.scope x := by first | exact Or.inl rfl | exact Or.inr (Or.inl rfl)) (he : DE X W e t d) (hk : DE X W k tk dk)
    (ha : ∀ v, assign (.Subscript (.Name x p2) k p3) X.env v = (do
      let ov ← holding [v] (eval (.Name x p2) X.env)
      let iv ← holding [v, ov] (eval k X.env)
      standAt p3
      holding [v, ov, iv] (setItem ov iv v)
      release [v, ov, iv] []) := by intro _; rfl)
    (hs : swapsWithSole [.Subscript (.Name x p2) k p3] e pos.line X.env = pure false := by rfl) (hw : swappedStores [.Subscript (.Name x p2) k p3] e X.env = pure none := by rfl)
    (h1 : (assignEach [.Subscript (.Name x p2) k p3] X.env).map (·.2) = [assign (.Subscript (.Name x p2) k p3) X.env] := by rfl) (hd : (x == ("__debug__" : Str)) = false := by decide) (hcd : (x == ("__classdict__" : Str)) = false := by decide) :
    DS X W (.Assign [.Subscript (.Name x p2) k p3] e pos) (tAsg t (gSub (tVar i) tk rSetL)) (dSto i d dk) :=
  ⟨ps_asg he.pe (pg_sub (pe_var hi hv hd hcd) hk.pe set_list ha) hs hw h1, trS_sto i he.tr hk.tr⟩
/-! ### what is walked -/
abbrev TDI := En → Nat → (Nat → (Nat → DV) → Nat → Prop) → Prop
structure WalkD (W : Wo) (M : Addr → Prop) (H1 : Hp) (J : It) (N : Nat) (f : Nat → DV) (G : Hp → Prop) (Y : Nat → Hp → V → Hp → Prop) : Prop where
  wk : Walk J N G Y
  gd : ∀ (M' : Addr → Prop) (H' : Hp), FrS M H1 H' → (∀ a, M' a → M a ∨ H1 a = none) → G H'
  yd : ∀ (M' : Addr → Prop) (i : Nat) (H : Hp) (v : V) (H' : Hp), i < N → FrS M H1 H → (∀ a, M' a → M a ∨ H1 a = none) → (∀ a, M' a → IsL H a) → Y i H v H' → Same H H' ∧ Rep W M' H' v (f i)
def TrI (W : Wo) (wi : TI) (d : TDI) : Prop := ∀ (B : Addr → Prop) (Φ : WPhi) (M : Addr → Prop) (σ : L2.St) (H : Hp) (δ : En) (n : Nat) (R : It → Hp → Prop) (K : Nat → (Nat → DV) → Nat → Prop), Ok W B Φ M σ H δ n →
  (∀ N f m J H1 G Y, FrS (pl W) H H1 → Pl W H1 m → WalkD W M H1 J N f G Y → K N f m → R J H1) → d δ n K → wi σ H R
structure DI (X : Cx) (W : Wo) (tg e : Expr) (wi : TI) (d : TDI) : Prop where
  pi : PI X tg e wi
  tr : TrI W wi d
def diL (a : TD) : TDI := fun δ n K => a δ n fun x m => x.asL fun ds => K ds.length (fun i => ds.getD i .non) m
def diR1 (a : TDA) : TDI := fun δ n K => a δ n fun xs m => match xs with
  | [x] => x.asI fun j => -(2 ^ 62) ≤ j ∧ j < 2 ^ 62 ∧ K j.toNat (fun i => .int (0 + (i : Int))) m
  | _ => False
def diR2 (a : TDA) : TDI := fun δ n K => a δ n fun xs m => match xs with
  | [x, y] => x.asI fun i => y.asI fun j => (-(2 ^ 62) ≤ i ∧ i < 2 ^ 62 ∧ -(2 ^ 62) ≤ j ∧ j < 2 ^ 62) ∧ K (j - i).toNat (fun k => .int (i + (k : Int))) m
  | _ => False
def diE (a : TDA) : TDI := fun δ n K => a δ n fun xs m => match xs with
  | [x] => x.asL fun ds => K ds.length (fun i => .tup [.int (i : Nat), ds.getD i .non]) m
  | _ => False
def diZ (a : TDA) : TDI := fun δ n K => a δ n fun xs m => match xs with
  | [x, y] => x.asL fun ds => y.asL fun es => K (min ds.length es.length) (fun i => .tup [ds.getD i .non, es.getD i .non]) m
  | _ => False
theorem getD_get {α : Type} {l : List α} {i : Nat} {z : α} (h : i < l.length) : l[i]? = some (l.getD i z) := by
  rw [List.getD_eq_getElem?_getD, List.getElem?_eq_getElem h]
  rfl
theorem sq_fr {K0 : PySem.W.Frag} {M : Addr → Prop} {H1 H' : Hp} {q : Addr} {vs : List V} (h : H1 q = some (.lst vs)) (n : ¬ M q) (f : FrS M H1 H') : SqL K0 H' q vs := SqL.of (f _ _ h n)
theorem rep_later {M M' : Addr → Prop} {H1 H : Hp} {v : V} {d : DV} (r : Rep W M H1 v d) (f : FrS M H1 H) (s : ∀ a, M' a → M a ∨ H1 a = none) : Rep W M' H v d :=
  ((r.sub (M' := fun a => M a ∨ M' a) fun a z => z.elim .inl (s a)).mono (f.mono fun b hb => .inl hb)).sub fun a z => .inl (.inr z)
theorem walkD_list {K0 : PySem.W.Frag} {M : Addr → Prop} {H1 : Hp} {q : Addr} {vs : List V} {ds : List DV} (h : H1 q = some (.lst vs)) (n : ¬ M q) (r : RepA W M H1 vs ds) :
    WalkD W M H1 (Itl K0 q) ds.length (fun i => ds.getD i .non) (fun H => SqL K0 H q vs) (YAt vs) := by
  rw [← r.1]
  refine ⟨walk_list, fun M' H' f _ => sq_fr h n f, fun M' i H v H' hi f s _ y => ?_⟩
  obtain ⟨rfl, y⟩ := y
  exact ⟨fun _ _ e => e, rep_later (r.2 i v _ y (getD_get (by rw [← r.1]; exact hi))) f s⟩
theorem walkD_range {M : Addr → Prop} {H1 : Hp} {lo : Int} {N : Nat} : WalkD W M H1 (Itr lo N) N (fun i => .int (lo + (i : Int))) (fun _ => True) (YFn fun i => .int (lo + i)) :=
  ⟨walk_range, fun _ _ _ _ => trivial, fun M' i H v H' hi f s _ y => by
    obtain ⟨rfl, rfl⟩ := y
    exact ⟨fun _ _ e => e, .int _⟩⟩
theorem rep_pair {M : Addr → Prop} {H : Hp} {T : Addr} {x y : V} {a b : DV} (dom : ∀ a, M a → IsL H a) (nT : H T = none) (h1 : Rep W M H x a) (h2 : Rep W M H y b) : Rep W M (upd H T (.tup [x, y])) (.ref T) (.tup [a, b]) := by
  have f : FrS M H (upd H T (.tup [x, y])) := FrS.refl.upd (.inl nT)
  have r : RepA W M (upd H T (.tup [x, y])) [x, y] [a, b] := .cons (h1.mono f) (.cons (h2.mono f) .nil)
  exact .tup upd_same (fun z => (dom T z).ne nT) r.1 r.2
theorem walkD_enum {K0 : PySem.W.Frag} {M : Addr → Prop} {H1 : Hp} {q : Addr} {vs : List V} {ds : List DV} (h : H1 q = some (.lst vs)) (n : ¬ M q) (r : RepA W M H1 vs ds) :
    WalkD W M H1 (Ite K0 q) ds.length (fun i => .tup [.int (i : Nat), ds.getD i .non]) (fun H => SqL K0 H q vs) (YPair (fun i => some (.int (i : Nat))) (fun i => vs[i]?)) := by
  rw [← r.1]
  refine ⟨walk_enum, fun M' H' f _ => sq_fr h n f, fun M' i H v H' hi f s dm y => ?_⟩
  obtain ⟨T, x, y, rfl, nT, rfl, e1, e2⟩ := y
  obtain rfl := Option.some.inj e1
  exact ⟨same_new nT, rep_pair dm nT (.int _) (rep_later (r.2 i y _ e2 (getD_get (by rw [← r.1]; exact hi))) f s)⟩
theorem walkD_zip {K0 : PySem.W.Frag} {M : Addr → Prop} {H1 : Hp} {q p : Addr} {vs us : List V} {ds es : List DV} (h : H1 q = some (.lst vs)) (n : ¬ M q) (r : RepA W M H1 vs ds) (h2 : H1 p = some (.lst us)) (n2 : ¬ M p) (r2 : RepA W M H1 us es) :
    WalkD W M H1 (Itz K0 q p) (min ds.length es.length) (fun i => .tup [ds.getD i .non, es.getD i .non]) (fun H => SqL K0 H q vs ∧ SqL K0 H p us) (YPair (fun i => vs[i]?) (fun i => us[i]?)) := by
  refine ⟨walk_zip (by rw [r.1, r2.1]), fun M' H' f _ => ⟨sq_fr h n f, sq_fr h2 n2 f⟩, fun M' i H v H' hi f s dm y => ?_⟩
  obtain ⟨T, x, y, rfl, nT, rfl, e1, e2⟩ := y
  exact ⟨same_new nT, rep_pair dm nT (rep_later (r.2 i x _ e1 (getD_get (by omega))) f s) (rep_later (r2.2 i y _ e2 (getD_get (by omega))) f s)⟩
theorem di_list {l tg : Expr} (hl : DE X W l t d) : DI X W tg l (iList X.K t) (diL d) := ⟨pi_list hl.pe, fun B Φ M σ H δ n R K ok c q => hl.tr B Φ M σ H δ n _ _ ok (fun r m v H' f p ra k => by
  obtain ⟨ds, rfl, k⟩ := DV.asL_inv k
  obtain ⟨a, vs, rfl, h1, h2, h3⟩ := ra.lst_inv
  exact ⟨a, rfl, ⟨vs, SqL.of h1⟩, c _ _ _ _ _ _ _ f p (walkD_list h1 h2 h3) k⟩) q⟩
theorem di_range1 {a tg : Expr} {ta : TA} {da : TDA} {p pos : Pos} (hg : Gl X "range") (hm : X.mg "range" = none) (ha : DA X W [a] ta da) (hs : starEach [a] X.env = [(false, eval a X.env)] := by rfl) : DI X W tg (.Call (.Name "range" p) [a] [] pos) (iRng1 ta) (diR1 da) :=
  ⟨pi_range1 hg hm ha.pa hs, fun B Φ M σ H δ n R K ok c q => ha.tr B Φ M σ H δ n _ _ ok (fun r m v H' f p ra k => by
    match r, k with
    | [x], k =>
      obtain ⟨j, rfl, h1, h2, k⟩ := DV.asI_inv k
      obtain ⟨u, rfl, r1⟩ := ra.one_inv
      exact ⟨j, by rw [r1.int_inv], h1, h2, c _ _ _ _ _ _ _ f p walkD_range k⟩) q⟩
theorem di_range2 {a b tg : Expr} {ta : TA} {da : TDA} {p pos : Pos} (hg : Gl X "range") (hm : X.mg "range" = none) (ha : DA X W [a, b] ta da) (hs : starEach [a, b] X.env = [(false, eval a X.env), (false, eval b X.env)] := by rfl) (hs2 : starEach [b] X.env = [(false, eval b X.env)] := by rfl) :
    DI X W tg (.Call (.Name "range" p) [a, b] [] pos) (iRng2 ta) (diR2 da) :=
  ⟨pi_range2 hg hm ha.pa hs hs2, fun B Φ M σ H δ n R K ok c q => ha.tr B Φ M σ H δ n _ _ ok (fun r m v H' f p ra k => by
    match r, k with
    | [x, y], k =>
      obtain ⟨i, rfl, k1⟩ := DV.asI_inv k
      obtain ⟨j, rfl, h, k2⟩ := DV.asI_inv k1
      obtain ⟨u, us, rfl, r1, rs⟩ := ra.cons_inv
      obtain ⟨w, rfl, r2⟩ := rs.one_inv
      exact ⟨i, j, by rw [r1.int_inv, r2.int_inv], h, c _ _ _ _ _ _ _ f p walkD_range k2⟩) q⟩
theorem di_enum {e : Expr} {ta : TA} {da : TDA} {p pos tpos : Pos} {elts : List Expr} {kk : Nat} (hg : Gl X "enumerate") (hm : X.mg "enumerate" = none) (ha : DA X W [e] ta da) (hs : starEach [e] X.env = [(false, eval e X.env)] := by rfl) :
    DI X W (.Tuple elts kk tpos) (.Call (.Name "enumerate" p) [e] [] pos) (iEnum X.K ta) (diE da) :=
  ⟨pi_enum hg hm ha.pa hs, fun B Φ M σ H δ n R K ok c q => ha.tr B Φ M σ H δ n _ _ ok (fun r m v H' f p ra k => by
    match r, k with
    | [x], k =>
      obtain ⟨ds, rfl, k⟩ := DV.asL_inv k
      obtain ⟨u, rfl, r1⟩ := ra.one_inv
      obtain ⟨a, vs, rfl, h1, h2, h3⟩ := r1.lst_inv
      exact ⟨a, vs, rfl, SqL.of h1, c _ _ _ _ _ _ _ f p (walkD_enum h1 h2 h3) k⟩) q⟩
theorem di_zip {e e2 : Expr} {ta : TA} {da : TDA} {p pos tpos : Pos} {elts : List Expr} {kk : Nat} (hg : Gl X "zip") (hm : X.mg "zip" = none) (ha : DA X W [e, e2] ta da)
    (hs : starEach [e, e2] X.env = (false, eval e X.env) :: starEach [e2] X.env := by rfl) (hpl : (backTo pos (starEach [e2] X.env)).any (·.1) = false := by rfl) :
    DI X W (.Tuple elts kk tpos) (.Call (.Name "zip" p) [e, e2] [] pos) (iZip X.K ta) (diZ da) :=
  ⟨pi_zip hg hm ha.pa hs hpl, fun B Φ M σ H δ n R K ok c q => ha.tr B Φ M σ H δ n _ _ ok (fun r m v H' f p ra k => by
    match r, k with
    | [x, y], k =>
      obtain ⟨ds, rfl, k1⟩ := DV.asL_inv k
      obtain ⟨es, rfl, k2⟩ := DV.asL_inv k1
      obtain ⟨u, us, rfl, r1, rs⟩ := ra.cons_inv
      obtain ⟨w, rfl, r2⟩ := rs.one_inv
      obtain ⟨a, vs, rfl, h1, h2, h3⟩ := r1.lst_inv
      obtain ⟨b, ws, rfl, g1, g2, g3⟩ := r2.lst_inv
      exact ⟨a, b, vs, ws, rfl, SqL.of h1, SqL.of g1, c _ _ _ _ _ _ _ f p (walkD_zip h1 h2 h3 g1 g2 g3) k2⟩) q⟩
/-! ### for -/
def dFor (it : TDI) (g : TDG) (b : TDS) : TDS := fun DD δ n => it δ n fun N f m => ∃ I : Nat → En → Nat → Prop, I 0 δ m ∧ (∀ i δ' m', i < N → I i δ' m' → g (f i) δ' fun δ2 => b { DD with nx := I (i + 1), ct := I (i + 1), bk := DD.nx } δ2 m') ∧ ∀ δ' m', I N δ' m' → DD.nx δ' m'
theorem trS_for {wi : TI} {it : TDI} (hi : TrI W wi it) (hg : TrG W vs g dg) (hb : TrS W t1 d1) : TrS W (tFor wi g t1) (dFor it dg d1) := fun B Φ M0 σ H δ n D DD ok sm q => by
  refine hi B Φ M0 σ H δ n _ _ ok (fun N f m J H1 G Y f1 p1 w ⟨I, i0, is, id⟩ => ?_) q
  have ok1 := ok.expr f1 p1
  have pb : ∀ a, W.p = some a → B a := fun a e => (ok.pool a e).1
  have cl0 := ok.cl
  refine for_it w.wk (fun i σ H => ∃ M' δ' m', Ok W B (fun M H => Φ M H ∧ Sin M0 H1 M H) M' σ H δ' m' ∧ I i δ' m') ?_ ?_ ?_ ?_
  · exact ⟨M0, δ, m, ok1.more (Sin M0 H1) ⟨.refl, fun a z => .inl z⟩ (sin_cl ok.base pb), i0⟩
  · rintro i σ H hi ⟨M', δ', m', ok', _⟩
    exact w.gd M' H ok'.phi.2.1 ok'.phi.2.2
  · rintro i x σ H H' hi ⟨M', δ', m', ok', inv⟩ y
    obtain ⟨s, r⟩ := w.yd M' i H x H' hi ok'.phi.2.1 ok'.phi.2.2 ok'.dom y
    refine hg B _ M' σ H' δ' m' x (f i) _ _ (ok'.expr (.of s) (pl_same ok'.plOf s)) r (fun σ2 δ2 ok3 _ k => hb B _ M' σ2 H' δ2 m' _ _ ok3 ⟨?_, ?_, ?_, ?_⟩ k) (is i δ' m' hi inv)
    · exact fun M σ H δ n ok inv => ⟨M, δ, n, ok, inv⟩
    · exact fun M H v r n ph => sm.rt M H v r n ph.1
    · exact fun M σ H δ n ok k => sm.nx _ _ _ _ _ (ok.less cl0) k
    · exact fun M σ H δ n ok inv => ⟨M, δ, n, ok, inv⟩
  · rintro σ H ⟨M', δ', m', ok', inv⟩
    exact sm.nx _ _ _ _ _ (ok'.less cl0) (id _ _ inv)
theorem ds_for {iter tg : Expr} {body : List Stmt} {wi : TI} {it : TDI} (vs : List Nat) (hp : PassesOwn (model X.prog X.w) X.A X.env X.xe) (hc : X.calm = true) (hi : DI X W tg iter wi it) (hg : DG X W vs tg g dg) (hb : DSs X W body t1 d1)
    (hs : ∀ x, foldedSetIterable iter X.env x = pure x := by intro _; rfl) : DS X W (.For tg iter body [] pos) (tFor wi g t1) (dFor it dg d1) := ⟨ps_for hp hc hi.pi hg.pg hb.pss hs, trS_for hi.tr hg.tr hb.tr⟩
/-! ### while -/
def dWhile (c : TDT) (b : TDS) : TDS := fun DD δ n => ∃ I : Nat → En → Nat → Prop, (∃ k, I k δ n) ∧ ∀ k δ' n', I k δ' n' → c δ' n' fun x m => (x = true → b { DD with nx := fun δ2 n2 => ∃ j, j < k ∧ I j δ2 n2, ct := fun δ2 n2 => ∃ j, j < k ∧ I j δ2 n2, bk := DD.nx } δ' m) ∧ (x = false → DD.nx δ' m)
theorem trS_while {tc : TT} {dc : TDT} (hc : TrT W tc dc) (hb : TrS W t1 d1) : TrS W (tWhile tc t1) (dWhile dc d1) := fun B Φ M σ H δ n D DD ok sm ⟨I, ⟨k0, i0⟩, is⟩ => by
  refine ⟨fun k σ H => ∃ M δ n, Ok W B Φ M σ H δ n ∧ I k δ n, ⟨k0, M, δ, n, ok, i0⟩, ?_⟩
  rintro k σ H ⟨M, δ, n, ok, inv⟩
  refine hc B Φ M σ H δ n _ _ ok (fun b m H' f p q => ite_split (fun z => ?_) (fun z => sm.nx _ _ _ _ _ (ok.expr f p) (q.2 z))) (is k δ n inv)
  refine ⟨fun σ' H' => ∃ j, j < k ∧ ∃ M δ n, Ok W B Φ M σ' H' δ n ∧ I j δ n, fun σ' H' h => h, hb B Φ M σ H' δ m _ _ (ok.expr f p) ⟨?_, ?_, ?_, ?_⟩ (q.1 z)⟩
  · exact fun M σ H δ n ok ⟨j, hj, inv⟩ => ⟨j, hj, M, δ, n, ok, inv⟩
  · exact sm.rt
  · exact sm.nx
  · exact fun M σ H δ n ok ⟨j, hj, inv⟩ => ⟨j, hj, M, δ, n, ok, inv⟩
theorem ds_while {c : Expr} {body : List Stmt} {tc : TT} {dc : TDT} (hp : PassesOwn (model X.prog X.w) X.A X.env X.xe) (hc : DT X W c tc dc) (hb : DSs X W body t1 d1) : DS X W (.While c body [] pos) (tWhile tc t1) (dWhile dc d1) := ⟨ps_while hp hc.pt hb.pss, trS_while hc.tr hb.tr⟩
/-! ### comprehensions -/
def dwipe (δ : En) : List Nat → En
  | [] => δ
  | v :: vs => (dwipe δ vs).set v none
theorem Ok.unset {B M : Addr → Prop} {Φ : WPhi} {σ : L2.St} {H : Hp} {δ : En} {n : Nat} (k : Ok W B Φ M σ H δ n) (i : Nat) : Ok W B Φ M (σ.set i none) H (δ.set i none) n where
  len := by simp [k.len]
  dat := fun j e h => by
    rcases get_set h with ⟨rfl, e1, hl⟩ | ⟨ne, h⟩
    · simp at e1
    · obtain ⟨u, e1, r1⟩ := k.dat j e h
      exact ⟨u, by rw [List.getElem?_set_ne ne]; exact e1, r1⟩
  own := fun j e h => by
    rcases get_set h with ⟨rfl, e1, hl⟩ | ⟨ne, h⟩
    · simp at e1
    · obtain ⟨q, vs, e1, r1⟩ := k.own j e h
      exact ⟨q, vs, by rw [List.getElem?_set_ne ne]; exact e1, r1⟩
  apart := fun a b ds es q h1 h2 h3 h4 => by
    rcases get_set h1 with ⟨rfl, e1, hl⟩ | ⟨ne, h1⟩
    · simp at e1
    · rcases get_set h2 with ⟨rfl, e1, hl⟩ | ⟨ne2, h2⟩
      · simp at e1
      · rw [List.getElem?_set_ne ne] at h3
        rw [List.getElem?_set_ne ne2] at h4
        exact k.apart a b ds es q h1 h2 h3 h4
  base := k.base
  dom := k.dom
  pool := k.pool
  phi := k.phi
  cl := k.cl
theorem Ok.wipe {B M : Addr → Prop} {Φ : WPhi} {σ : L2.St} {H : Hp} {δ : En} {n : Nat} (k : Ok W B Φ M σ H δ n) : ∀ vs : List Nat, Ok W B Φ M (L2.wipe σ vs) H (dwipe δ vs) n
  | [] => k
  | v :: vs => (Ok.wipe k vs).unset v
theorem Ok.any {B M : Addr → Prop} {Φ : WPhi} {σ : L2.St} {H : Hp} {δ : En} {n : Nat} (k : Ok W B Φ M σ H δ n) : Ok W B (fun _ _ => True) M σ H δ n := ⟨k.len, k.dat, k.own, k.apart, k.base, k.dom, k.pool, trivial, fun _ _ _ _ _ _ => trivial⟩
theorem wipe_in {σ : L2.St} {i : Nat} : ∀ {vs : List Nat}, i ∈ vs → (L2.wipe σ vs)[i]? = if i < σ.length then some none else none
  | v :: vs, h => by
    unfold L2.wipe
    rw [List.getElem?_set, wipe_length]
    by_cases e : v = i
    · rw [if_pos e, e]
    · rw [if_neg e]
      exact wipe_in ((List.mem_cons.mp h).resolve_left fun z => e z.symm)
theorem wipe_idem (σ : L2.St) (vs : List Nat) : L2.wipe (L2.wipe σ vs) vs = L2.wipe σ vs := by
  apply List.ext_getElem?
  intro i
  by_cases h : i ∈ vs
  · rw [wipe_in h, wipe_in h, wipe_length]
  · rw [wipe_out h]
/-- a new list that no slot holds -/
theorem Ok.grow {B M : Addr → Prop} {Φ : WPhi} {σ : L2.St} {H : Hp} {δ : En} {n : Nat} (k : Ok W B Φ M σ H δ n) {q : Addr} (nq : H q = none) : Ok W B Φ (fun a => M a ∨ a = q) σ (upd H q (.lst [])) δ n := by
  have := k.setOwn (H' := upd H q (.lst [])) (FrS.refl.upd (.inl nq)) (pl_new k.plOf nq) (vs := []) (ds := []) nq upd_same .nil σ.length
  rw [List.set_eq_of_length_le (Nat.le_refl _), List.set_eq_of_length_le (by rw [k.len]; exact Nat.le_refl _)] at this
  exact this
/-- a list that no slot holds is written -/
theorem Ok.put {B M : Addr → Prop} {σ : L2.St} {H : Hp} {δ : En} {n : Nat} (k : Ok W B (fun _ _ => True) M σ H δ n) {q : Addr} {us0 : List V} (hM : M q) (hB : ¬ B q) (hs : ∀ (i : Nat) (ds : List DV), δ[i]? = some (some (SV.own ds)) → σ[i]? ≠ some (some (.ref q))) :
    Ok W B (fun _ _ => True) M σ (upd H q (.lst us0)) δ n := by
  have f : FrS M H (upd H q (.lst us0)) := FrS.refl.upd (.inr hM)
  refine ⟨k.len, fun i d e => ?_, fun i ds e => ?_, k.apart, k.base, fun a h => ?_, fun p e => ⟨(k.pool p e).1, ?_⟩, trivial, fun _ _ _ _ _ _ => trivial⟩
  · obtain ⟨v, e1, r⟩ := k.dat i d e
    exact ⟨v, e1, r.mono f⟩
  · obtain ⟨t, us, e1, h1, h2, h3, h4⟩ := k.own i ds e
    have tq : t ≠ q := fun z => hs i ds e (by rw [e1, z])
    exact ⟨t, us, e1, h1, h2, by rw [upd_ne tq]; exact h3, h4.mono f⟩
  · by_cases z : a = q
    · rw [z]
      exact ⟨_, upd_same⟩
    · obtain ⟨us, e2⟩ := k.dom a h
      exact ⟨us, by rw [upd_ne z]; exact e2⟩
  · have pq : p ≠ q := fun z => hB (by rw [← z]; exact (k.pool p e).1)
    exact (k.pool p e).2.upd_ne pq
def dLc (it : TDI) (g : TDG) (c : TDT) (e : TD) (vs : List Nat) : TDA := fun δ n K => it δ n fun N f m => N ≤ 100000 ∧ ∃ I : Nat → List DV → Nat → Prop, I 0 [] m ∧
  (∀ i acc m', i < N → I i acc m' → g (f i) (dwipe δ vs) fun δ2 => c δ2 m' fun b m2 => (b = true → e δ2 m2 fun y m3 => I (i + 1) (acc ++ [y]) m3) ∧ (b = false → I (i + 1) acc m2)) ∧ ∀ acc m', I N acc m' → K acc m'
theorem trF_lc {wi : TI} {it : TDI} {tt : TT} {dt : TDT} {te : TE} {de : TD} (vs : List Nat) (hi : TrI W wi it) (hg : TrG W vs g dg) (ht : TrT W tt dt) (he : TrE W te de) : TrF W (tLc wi g tt te vs) (dLc it dg dt de vs) := fun B Φ M σ H δ n Q K ok c q => by
  refine hi B Φ M σ H δ n _ _ ok (fun N f m J H1 G Y f1 p1 w ⟨hN, I, i0, is, id⟩ D nD => ?_) q
  have ok1 := (ok.expr f1 p1).wipe vs
  have nM : ¬ M D := fun z => (ok1.dom D z).ne nD
  have nB : ¬ B D := fun z => nM (ok.base D z)
  have nP : W.p ≠ some D := fun z => nB (ok.pool D z).1
  have sub2 : ∀ a, (M a ∨ a = D) → M a ∨ H1 a = none := fun a z => z.imp (fun h => h) fun e => by rw [e]; exact nD
  have hs0 : ∀ (i : Nat) (ds : List DV), (dwipe δ vs)[i]? = some (some (SV.own ds)) → (L2.wipe σ vs)[i]? ≠ some (some (.ref D)) := fun i ds e z => by
    obtain ⟨t, us, e1, h1, _⟩ := ok1.own i ds e
    rw [z] at e1
    obtain rfl : D = t := by simpa using e1
    exact nM h1
  refine lc_it w.wk (fun i H => ∃ m accv acc, Ok W B (fun _ _ => True) (fun a => M a ∨ a = D) (L2.wipe σ vs) H (dwipe δ vs) m ∧ FrS (pl W) H1 H ∧ H D = some (.lst accv) ∧ RepA W (fun a => M a ∨ a = D) H accv acc ∧ acc.length ≤ i ∧ I i acc m) ?_ ?_ ?_ ?_
  · exact ⟨m, [], [], (ok1.grow nD).any, FrS.refl.upd (.inl nD), upd_same, .nil, Nat.le_refl _, i0⟩
  · rintro i H hi ⟨m', accv, acc, ok', fr, _⟩
    exact w.gd _ H (ok.frM fr) (fun a (z : M a) => .inl z)
  · rintro i x H H' hi ⟨m', accv, acc, ok', fr, hD, ra, hl, inv⟩ y
    obtain ⟨s, r⟩ := w.yd (fun a => M a ∨ a = D) i H x H' hi (ok.frM fr) sub2 ok'.dom y
    have ok2 := ok'.expr (.of s) (pl_same ok'.plOf s)
    refine hg B _ _ _ H' _ m' x (f i) _ _ ok2 r (fun σ2 δ2 ok3 ew k => ⟨ew.trans (wipe_idem σ vs), ?_⟩) (is i acc m' hi inv)
    have frH : FrS (pl W) H H' := .of s
    have Dk : ∀ {Ha Hb : Hp} {o : HO}, FrS (pl W) Ha Hb → Ha D = some o → Hb D = some o := fun f e => f _ _ e nP
    refine ht B _ _ σ2 H' δ2 m' _ _ ok3 (fun b m2 H3 f3 p3 q => ite_split (fun z => ?_) (fun z => ?_)) k
    · refine he B _ _ σ2 H3 δ2 m2 _ _ (ok3.expr f3 p3) (fun y m3 v H4 f4 p4 ry q => ?_) (q.1 z)
      have f34 := (frH.trans f3).trans f4
      have ok4 := (ok2.expr f3 p3).expr f4 p4
      have fM : FrS (fun a => M a ∨ a = D) H H4 := ok'.frM f34
      refine ⟨accv, Dk f34 hD, by rw [ra.1]; exact lt_size2 (by omega), m3, accv ++ [v], acc ++ [y], ok4.put (.inr rfl) nB hs0, (fr.trans f34).upd (.inl nD), upd_same, ?_, by rw [List.length_append]; show acc.length + 1 ≤ i + 1; omega, q⟩
      exact ((ra.mono fM).append (.cons ry .nil)).mono (FrS.refl.upd (.inr (.inr rfl)))
    · have f23 := frH.trans f3
      exact ⟨m2, accv, acc, ok2.expr f3 p3, fr.trans f23, Dk f23 hD, ra.mono (ok'.frM f23), by omega, q.2 z⟩
  · rintro H ⟨m', accv, acc, ok', fr, hD, ra, hl, inv⟩
    exact c _ _ _ _ _ (f1.trans fr) ok'.plOf (none_fr f1 p1 nD) hD ra (id _ _ inv)
structure DTs (X : Cx) (W : Wo) (e : List Expr) (t : TT) (d : TDT) : Prop where
  pts : PTs X e t
  tr : TrT W t d
theorem dts_nil : DTs X W [] tYes dYes := ⟨pts_nil, fun B Φ M σ H δ n Q K ok c h => c _ _ _ .refl ok.plOf h⟩
theorem dts_one {c : Expr} {t : TT} {d : TDT} (h : DT X W c t d) : DTs X W [c] t d := ⟨pts_one h.pt, h.tr⟩
section
variable {elt tg iter : Expr} {ifs : List Expr} {scope : Scope} {own : List (Str × Nat)} {wi : TI} {it : TDI} {tt : TT} {dt : TDT} {te : TE} {de : TD}
theorem df_lc (hc : X.calm = true) (hN : X.N.Nodup) (hi : DI X W tg iter wi it) (ok : BlkOk X.N X.env.scope scope own)
    (hg : ∀ (s : Shared) (H : Hp) (C : Addr) (cl : List (Str × Addr)) (fp : List Addr), DG (X.blk s H scope (compEnvC scope cl C X.env) fp) W (own.map (·.2)) tg g dg) (ht : ∀ (s : Shared) (H : Hp) (C : Addr) (cl : List (Str × Addr)) (fp : List Addr), DTs (X.blk s H scope (compEnvC scope cl C X.env) fp) W ifs tt dt)
    (he : ∀ (s : Shared) (H : Hp) (C : Addr) (cl : List (Str × Addr)) (fp : List Addr), DE (X.blk s H scope (compEnvC scope cl C X.env) fp) W elt te de) (hs : ∀ x, foldedSetIterable iter X.env x = pure x := by intro _; rfl) :
    DF X W (.ListComp elt [⟨tg, iter, ifs, 0⟩] scope pos) (tLc wi g tt te (own.map (·.2))) (dLc it dg dt de (own.map (·.2))) :=
  ⟨pe_lc hc hN hi.pi ok (fun s H C cl fp => (hg s H C cl fp).pg) (fun s H C cl fp => (ht s H C cl fp).pts) (fun s H C cl fp => (he s H C cl fp).pe) hs,
    trF_lc _ hi.tr (hg X.s_0 X.H_0 0 [] []).tr (ht X.s_0 X.H_0 0 [] []).tr (he X.s_0 X.H_0 0 [] []).tr⟩
theorem ds_setLc {i : Nat} {y : Str} {py : Pos} {spos : Pos} (hc : X.calm = true) (hN : X.N.Nodup) (hy : X.N[i]? = some y) (hyl : X.env.scope.names.lookup y = some .local)
    (hsw : swapsWith (.ListComp elt [⟨tg, iter, ifs, 0⟩] scope pos) (some (.Name y py)) spos.line X.env = pure true) (hi : DI X W tg iter wi it) (ok : BlkOk X.N X.env.scope scope own)
    (hg : ∀ (s : Shared) (H : Hp) (C : Addr) (cl : List (Str × Addr)) (fp : List Addr), DG (X.blk s H scope (compEnvC scope cl C X.env) fp) W (own.map (·.2)) tg g dg) (ht : ∀ (s : Shared) (H : Hp) (C : Addr) (cl : List (Str × Addr)) (fp : List Addr), DTs (X.blk s H scope (compEnvC scope cl C X.env) fp) W ifs tt dt)
    (he : ∀ (s : Shared) (H : Hp) (C : Addr) (cl : List (Str × Addr)) (fp : List Addr), DE (X.blk s H scope (compEnvC scope cl C X.env) fp) W elt te de) (hs : ∀ x, foldedSetIterable iter X.env x = pure x := by intro _; rfl) :
    DS X W (.Assign [.Name y py] (.ListComp elt [⟨tg, iter, ifs, 0⟩] scope pos) spos) (tAsg (tLc wi g tt te (own.map (·.2))) (gName i)) (dSet i (dFE (dLc it dg dt de (own.map (·.2))))) :=
  ⟨ps_setLc hc hN hy hyl hsw hi.pi ok (fun s H C cl fp => (hg s H C cl fp).pg) (fun s H C cl fp => (ht s H C cl fp).pts) (fun s H C cl fp => (he s H C cl fp).pe) hs,
    trS_set i (trF_E (trF_lc _ hi.tr (hg X.s_0 X.H_0 0 [] []).tr (ht X.s_0 X.H_0 0 [] []).tr (he X.s_0 X.H_0 0 [] []).tr))⟩
theorem ds_setLcO {i : Nat} {y : Str} {py : Pos} {spos : Pos} (hc : X.calm = true) (hN : X.N.Nodup) (hy : X.N[i]? = some y) (hyl : X.env.scope.names.lookup y = some .local)
    (hsw : swapsWith (.ListComp elt [⟨tg, iter, ifs, 0⟩] scope pos) (some (.Name y py)) spos.line X.env = pure true) (hi : DI X W tg iter wi it) (ok : BlkOk X.N X.env.scope scope own)
    (hg : ∀ (s : Shared) (H : Hp) (C : Addr) (cl : List (Str × Addr)) (fp : List Addr), DG (X.blk s H scope (compEnvC scope cl C X.env) fp) W (own.map (·.2)) tg g dg) (ht : ∀ (s : Shared) (H : Hp) (C : Addr) (cl : List (Str × Addr)) (fp : List Addr), DTs (X.blk s H scope (compEnvC scope cl C X.env) fp) W ifs tt dt)
    (he : ∀ (s : Shared) (H : Hp) (C : Addr) (cl : List (Str × Addr)) (fp : List Addr), DE (X.blk s H scope (compEnvC scope cl C X.env) fp) W elt te de) (hs : ∀ x, foldedSetIterable iter X.env x = pure x := by intro _; rfl) :
    DS X W (.Assign [.Name y py] (.ListComp elt [⟨tg, iter, ifs, 0⟩] scope pos) spos) (tAsg (tLc wi g tt te (own.map (·.2))) (gName i)) (dSetO i (dLc it dg dt de (own.map (·.2)))) :=
  ⟨ps_setLc hc hN hy hyl hsw hi.pi ok (fun s H C cl fp => (hg s H C cl fp).pg) (fun s H C cl fp => (ht s H C cl fp).pts) (fun s H C cl fp => (he s H C cl fp).pe) hs,
    trS_setO i (trF_lc _ hi.tr (hg X.s_0 X.H_0 0 [] []).tr (ht X.s_0 X.H_0 0 [] []).tr (he X.s_0 X.H_0 0 [] []).tr)⟩
end
end

/-! ### readings without a heap: calls, and what a def is worth -/
abbrev Wo.at (W : Wo) (p : Option Addr) : Wo := { W with p := p }
abbrev FD := List DV → Nat → (DV → Nat → Prop) → Prop
/-- a def that is worth f -/
def spD (W : Wo) (f : FD) : Sp := fun vs H Q _ => ∃ (p : Option Addr) (M : Addr → Prop) (ds : List DV) (n : Nat) (K : DV → Nat → Prop), (∀ a, M a → IsL H a) ∧ (∀ a, p = some a → M a ∧ Well H a n) ∧ RepA (W.at p) M H vs ds ∧
  (∀ r m v H', FrS (pl (W.at p)) H H' → Pl (W.at p) H' m → Rep (W.at p) M H' v r → K r m → Q v H') ∧ f ds n K
/-- .. as a callee's promise -/
def RdFn (W : Wo) (sp : Sp) (f : FD) : Prop := ∀ (M : Addr → Prop) (H : Hp) (vs : List V) (ds : List DV) (n : Nat) (Q : VK) (E : XK) (K : DV → Nat → Prop), (∀ a, M a → IsL H a) → (∀ a, W.p = some a → M a ∧ Well H a n) → RepA W M H vs ds →
  (∀ r m v H', FrS (pl W) H H' → Pl W H' m → Rep W M H' v r → K r m → Q v H') → f ds n K → sp vs H Q E
theorem rd_spD {W0 W : Wo} {f : FD} (h : W0.at W.p = W) : RdFn W (spD W0 f) f := fun M H vs ds n Q E K d p r c q => ⟨W.p, M, ds, n, K, d, p, by rw [h]; exact r, by rw [h]; exact c, q⟩
def dCall (f : FD) (a : TDA) : TD := fun δ n K => a δ n fun xs m => f xs m K
def dstart (N : List Str) (ds : List DV) : En := ds.map (fun d => some (SV.dat d)) ++ List.replicate (N.length - ds.length) none
theorem start_get {N : List Str} {vs : List V} {i : Nat} {v : V} (h : vs[i]? = some v) : (L2.start N vs)[i]? = some (some v) := by
  unfold L2.start
  have hi := (List.getElem?_eq_some_iff.mp h).1
  rw [List.getElem?_append_left (by simpa using hi), List.getElem?_map, h]
  rfl
theorem dstart_get {N : List Str} {ds : List DV} {i : Nat} {s : SV} (h : (dstart N ds)[i]? = some (some s)) : ∃ d, ds[i]? = some d ∧ s = .dat d := by
  unfold dstart at h
  by_cases hi : i < ds.length
  · rw [List.getElem?_append_left (by simpa using hi), List.getElem?_map, List.getElem?_eq_getElem hi] at h
    have h2 : some (SV.dat ds[i]) = some s := Option.some.inj h
    exact ⟨ds[i], List.getElem?_eq_getElem hi, (Option.some.inj h2).symm⟩
  · rw [List.getElem?_append_right (by simpa using hi), List.getElem?_replicate] at h
    split at h
    · cases h
    · cases h
theorem ok_start {W : Wo} {M : Addr → Prop} {H : Hp} {vs : List V} {ds : List DV} {n : Nat} {N : List Str} (dm : ∀ a, M a → IsL H a) (p : ∀ a, W.p = some a → M a ∧ Well H a n) (r : RepA W M H vs ds) :
    Ok W M (fun M' H' => (∀ a, M' a → M a ∨ H a = none) ∧ FrS (pl W) H H') M (L2.start N vs) H (dstart N ds) n := by
  refine ⟨?_, fun i d e => ?_, fun i es e => ?_, fun i j es fs q e => ?_, fun a h => h, dm, p, ⟨fun a h => .inl h, .refl⟩, ?_⟩
  · unfold L2.start dstart
    simp [r.1]
  · obtain ⟨d2, e1, e2⟩ := dstart_get e
    obtain rfl : d = d2 := by simpa using e2
    obtain ⟨v, e3, r3⟩ := r.get e1
    exact ⟨v, start_get e3, r3⟩
  · obtain ⟨d2, e1, e2⟩ := dstart_get e
    cases e2
  · obtain ⟨d2, e1, e2⟩ := dstart_get e
    cases e2
  · rintro M1 H1 M2 H2 ⟨s1, f1⟩ ⟨l1, l2, l3⟩
    have up : ∀ a, H1 a = none → M a ∨ H a = none := fun a h => by
      by_cases z : W.p = some a
      · exact .inl (p a z).1
      · right
        cases e : H a with
        | none => rfl
        | some o =>
          rw [f1 a o e z] at h
          cases h
    refine ⟨fun a h => (l2 a h).elim (s1 a) (up a), fun b o e n => l1 b o (f1 b o e n) (fun z => ?_) n⟩
    rcases s1 b z.1 with q | q
    · exact z.2 q
    · rw [q] at e
      cases e
section
variable {P : Program} {w : World} {K : PySem.W.Frag} {mg : Str → Option Value} {base : Heap}
theorem okD {x qual : Str} {st : Stmt} {f : Addr} {fd : FuncData} {N ps : List Str} {k : Nat} (F : Fun K x qual st f fd) (S : FnScope N ps (defScope st)) (W : Wo) (g : FD) (len : ∀ ds n K, g ds n K → ds.length = ps.length)
    (body : ∀ (p : Option Addr) (cdv : Value) (A : Around) (outer : List Env) (s : Shared) (H : Hp) (E : XK), Room k (A.deeper (envOfC qual (defScope st) s.heap.objs.size f cdv)) →
      ∃ t d, DSs (cxOf CX0 P w K mg base N qual (defScope st) f cdv A outer s H E).nox (W.at p) (defBody st) t d ∧ ∀ ds n K, g ds n K → d { nx := fun _ m => K .non m, rt := K } (dstart N ds) n) : FnOk P w K mg base CX0 (k + 1) f fd ps (spD W g) := by
  refine F.ok S (fun vs H Q E h => ?_) (fun cdv A outer s H vs Q E hr h => ?_)
  · obtain ⟨p, M, ds, n, K, _, _, r, _, q⟩ := h
    rw [r.1]
    exact len _ _ _ q
  · obtain ⟨p, M, ds, n, KK, dm, pp, r, c, q⟩ := h
    obtain ⟨t, d, D, g2⟩ := body p cdv A outer s H E hr
    refine ⟨t, D.pss, D.tr M _ M _ H _ n _ _ (ok_start dm pp r) ⟨?_, ?_, ?_, ?_⟩ (g2 ds n KK q)⟩
    · exact fun M' σ H' δ m ok k => c _ _ _ _ ok.phi.2 ok.plOf .non k
    · exact fun M' H' v r m ph bs p' ra k => c _ _ _ _ ph.2 p' (ra.sub fun a h => .inl (bs a h)) k
    · exact fun _ _ _ _ _ _ h => h.elim
    · exact fun _ _ _ _ _ _ h => h.elim
theorem okGD {x qual : Str} {st : Stmt} {f : Addr} {fd : FuncData} {N ps : List Str} {k : Nat} (F : Fun K x qual st f fd) (S : FnScope N ps (defScope st)) (W : Wo) (g : FD) (len : ∀ ds n K, g ds n K → ds.length = ps.length)
    (body : ∀ (p : Option Addr) (cdv : Value) (A : Around) (outer : List Env) (s : Shared) (H : Hp) (E : XK), A.guards = some [] → Room k (A.deeper (envOfC qual (defScope st) s.heap.objs.size f cdv)) →
      ∃ t d, DSs (cxOf CX0 P w K mg base N qual (defScope st) f cdv A outer s H E).nox (W.at p) (defBody st) t d ∧ ∀ ds n K, g ds n K → d { nx := fun _ m => K .non m, rt := K } (dstart N ds) n) : FnG P w K mg base (k + 1) f fd ps (spD W g) := by
  refine okG F S (fun vs H Q E h => ?_) (fun cdv A outer s H vs Q E hgd hr h => ?_)
  · obtain ⟨p, M, ds, n, K, _, _, r, _, q⟩ := h
    rw [r.1]
    exact len _ _ _ q
  · obtain ⟨p, M, ds, n, KK, dm, pp, r, c, q⟩ := h
    obtain ⟨t, d, D, g2⟩ := body p cdv A outer s H E hgd hr
    refine ⟨t, D.pss, D.tr M _ M _ H _ n _ _ (ok_start dm pp r) ⟨?_, ?_, ?_, ?_⟩ (g2 ds n KK q)⟩
    · exact fun M' σ H' δ m ok k => c _ _ _ _ ok.phi.2 ok.plOf .non k
    · exact fun M' H' v r m ph bs p' ra k => c _ _ _ _ ph.2 p' (ra.sub fun a h => .inl (bs a h)) k
    · exact fun _ _ _ _ _ _ h => h.elim
    · exact fun _ _ _ _ _ _ h => h.elim
end
section
variable {X : Cx} {W : Wo} {e : Expr} {es : List Expr} {tA : TA} {dA : TDA} {sp : Sp} {f : FD} {ps : List Str} {fd : FuncData} {a : Addr} {k : Nat} {x : Str} {p pos : Pos}
theorem Ok.poolM {B M : Addr → Prop} {Φ : WPhi} {σ : L2.St} {H : Hp} {δ : En} {n : Nat} (ok : Ok W B Φ M σ H δ n) : ∀ a, W.p = some a → M a ∧ Well H a n := fun a e => ⟨ok.base a (ok.pool a e).1, (ok.pool a e).2⟩
theorem trE_call (rd : RdFn W sp f) (ha : TrA W tA dA) : TrE W (tCall sp [] E0 tA) (dCall f dA) := fun B Φ M σ H δ n Q K ok c q => ha B Φ M σ H δ n _ _ ok (fun ds m vs H1 f1 p1 ra q => by
  have ok1 := ok.expr f1 p1
  rw [List.append_nil]
  exact rd M H1 vs ds m Q E0 K ok1.dom ok1.poolM ra (fun r j v H' f2 p2 r2 k => c _ _ _ _ (f1.trans f2) p2 r2 k) q) q
theorem de_call (F : FnOk X.prog X.w X.K X.mg X.base CX0 k a fd ps sp) (rd : RdFn W sp f) (hr : Room k X.A) (hm : X.mg x = some (.ref a)) (hk : PySem.W.keepIn X.K (.ref a) = true) (hb : Binds X.K fd ps []) (ha : DA X W (e :: es) tA dA) (hg : Gl X x := by rfl)
    (hdb : (x == ("__debug__" : Str)) = false := by decide) (he : starEach (e :: es) X.env = (false, eval e X.env) :: starEach es X.env := by rfl) (hpl : (backTo pos (starEach es X.env)).any (·.1) = false := by rfl) :
    DE X W (.Call (.Name x p) (e :: es) [] pos) (tCall sp [] E0 tA) (dCall f dA) := ⟨pe_call F hr hg hm hk hb .nil pass0 ha.pa hdb he hpl, trE_call rd ha.tr⟩
theorem de_callG (F : FnG X.prog X.w X.K X.mg X.base k a fd ps sp) (rd : RdFn W sp f) (hgd : X.A.guards = some []) (hr : Room k X.A) (hm : X.mg x = some (.ref a)) (hk : PySem.W.keepIn X.K (.ref a) = true) (hb : Binds X.K fd ps []) (ha : DA X W (e :: es) tA dA) (hg : Gl X x := by rfl)
    (hdb : (x == ("__debug__" : Str)) = false := by decide) (he : starEach (e :: es) X.env = (false, eval e X.env) :: starEach es X.env := by rfl) (hpl : (backTo pos (starEach es X.env)).any (·.1) = false := by rfl) :
    DE X W (.Call (.Name x p) (e :: es) [] pos) (tCall sp [] E0 tA) (dCall f dA) := ⟨pe_callG F hgd hr hg hm hk hb ha.pa hdb he hpl, trE_call rd ha.tr⟩
/-- C(..) -/
theorem de_make {C i : Addr} (M : Mk X.K C i) (F : FnOk X.prog X.w X.K X.mg X.base CX0 k i fd ps sp) (rd : TrE W (tMake C sp [] E0 tA) (dCall f dA)) (hr : Room (k + 1) X.A) (hm : X.mg x = some (.ref C)) (hb : Binds X.K fd ps []) (ha : PA X (e :: es) tA) (hg : Gl X x := by rfl)
    (hdb : (x == ("__debug__" : Str)) = false := by decide) (he : starEach (e :: es) X.env = (false, eval e X.env) :: starEach es X.env := by rfl) (hpl : (backTo pos (starEach es X.env)).any (·.1) = false := by rfl) :
    DE X W (.Call (.Name x p) (e :: es) [] pos) (tMake C sp [] E0 tA) (dCall f dA) := ⟨pe_make M F hr hg hm hb .nil pass0 ha hdb he hpl, rd⟩
/-- a call of the pool's draw -/
def fDraw : FD := fun ds n K => match ds with
  | [.pool, .int m] => n ≤ 10 ^ 9 ∧ 0 < m ∧ m < 2 ^ 200 ∧ ∀ r : Int, 0 ≤ r → r < m → K (.int r) (n + 1)
  | _ => False
end

/-! ### rules as data -/
theorem laneF_inj {r n r' n' : Int} {m o g m' o' g' : Addr} (e3 : laneF r n m o g = laneF r' n' m' o' g') : m = m' ∧ o = o' ∧ g = g' := by
  refine ⟨?_, ?_, ?_⟩
  · have := congrArg (List.lookup ("marks" : Str)) e3
    rw [laneF_m, laneF_m] at this
    injection this with this
    injection this
  · have := congrArg (List.lookup ("offsets" : Str)) e3
    rw [laneF_o, laneF_o] at this
    injection this with this
    injection this
  · have := congrArg (List.lookup ("goals" : Str)) e3
    rw [laneF_g, laneF_g] at this
    injection this with this
    injection this
theorem ruF_inj {b c l b' c' l' : Addr} (e3 : ruF b c l = ruF b' c' l') : b = b' ∧ c = c' ∧ l = l' := by
  refine ⟨?_, ?_, ?_⟩
  · have := congrArg (List.lookup ("_base" : Str)) e3
    rw [ruF_b, ruF_b] at this
    injection this with this
    injection this
  · have := congrArg (List.lookup ("_changes" : Str)) e3
    rw [ruF_c, ruF_c] at this
    injection this with this
    injection this
  · have := congrArg (List.lookup ("_lanes" : Str)) e3
    rw [ruF_l, ruF_l] at this
    injection this with this
    injection this
def LaneS (L : Addr) (M : Addr → Prop) (H : Hp) (a : Addr) (r n off : Int) (ks : List (Int × Int)) : Prop := ∃ dx m o g, H a = some (.ins L dx (laneF r n m o g)) ∧ H m = some (.lst ((ks.map (·.1)).map V.int)) ∧ H o = some (.lst ((off :: ks.map (·.2)).map V.int)) ∧
  H g = some (.lst ((ks.map fun k => k.1 + k.2).map V.int)) ∧ ¬ M a ∧ ¬ M m ∧ ¬ M o ∧ ¬ M g
theorem laneS_of {L av : Addr} {M : Addr → Prop} {H : Hp} {a : Addr} {r n off : Int} {ks : List (Int × Int)} (h : LaneAt L av H a r n off ks) (g : ∀ b, M b → LaneAt L b H a r n off ks) : LaneS L (fun b => b = av ∨ M b) H a r n off ks := by
  obtain ⟨dx, m, o, g0, h1, h2, h3, h4, n1, n2, n3, n4⟩ := h
  have key : ∀ b, M b → a ≠ b ∧ m ≠ b ∧ o ≠ b ∧ g0 ≠ b := fun b hb => by
    obtain ⟨dx', m', o', g', k1, k2, k3, k4, l1, l2, l3, l4⟩ := g b hb
    rw [h1] at k1
    have e := Option.some.inj k1
    injection e with e1 e2 e3
    obtain ⟨rfl, rfl, rfl⟩ := laneF_inj e3
    exact ⟨l1, l2, l3, l4⟩
  exact ⟨dx, m, o, g0, h1, h2, h3, h4, fun z => z.elim n1 fun z => (key _ z).1 rfl, fun z => z.elim n2 fun z => (key _ z).2.1 rfl, fun z => z.elim n3 fun z => (key _ z).2.2.1 rfl, fun z => z.elim n4 fun z => (key _ z).2.2.2 rfl⟩
theorem LaneS.fr {L : Addr} {M : Addr → Prop} {H H' : Hp} {a : Addr} {r n off : Int} {ks : List (Int × Int)} (h : LaneS L M H a r n off ks) (f : FrS M H H') : LaneS L M H' a r n off ks := by
  obtain ⟨dx, m, o, g, h1, h2, h3, h4, n1, n2, n3, n4⟩ := h
  exact ⟨dx, m, o, g, f _ _ h1 n1, f _ _ h2 n2, f _ _ h3 n3, f _ _ h4 n4, n1, n2, n3, n4⟩
theorem LaneS.sub {L : Addr} {M M' : Addr → Prop} {H : Hp} {a : Addr} {r n off : Int} {ks : List (Int × Int)} (h : LaneS L M H a r n off ks) (s : ∀ b, M' b → M b ∨ H b = none) : LaneS L M' H a r n off ks := by
  obtain ⟨dx, m, o, g, h1, h2, h3, h4, n1, n2, n3, n4⟩ := h
  have nn : ∀ {q o}, H q = some o → ¬ M q → ¬ M' q := fun e n z => by
    rcases s _ z with z | z
    · exact n z
    · rw [z] at e
      cases e
  exact ⟨dx, m, o, g, h1, h2, h3, h4, nn h1 n1, nn h2 n2, nn h3 n3, nn h4 n4⟩
theorem LaneS.at_ {L b : Addr} {M : Addr → Prop} {H : Hp} {a : Addr} {r n off : Int} {ks : List (Int × Int)} (h : LaneS L M H a r n off ks) (hb : M b) : LaneAt L b H a r n off ks := by
  obtain ⟨dx, m, o, g, h1, h2, h3, h4, n1, n2, n3, n4⟩ := h
  exact ⟨dx, m, o, g, h1, h2, h3, h4, fun z => n1 (by rw [z]; exact hb), fun z => n2 (by rw [z]; exact hb), fun z => n3 (by rw [z]; exact hb), fun z => n4 (by rw [z]; exact hb)⟩
/-- a rule at x, apart from M -/
def RuS (R L : Addr) (M : Addr → Prop) (H : Hp) (x : Addr) (bs : List Int) (cs : List (Int × Int)) : Prop := ∃ (dx b c l : Addr) (ts las : List Addr), H x = some (.ins R dx (ruF b c l)) ∧ H b = some (.lst (bs.map V.int)) ∧ H c = some (.lst (ts.map V.ref)) ∧ Tups H ts cs ∧ H l = some (.lst (las.map V.ref)) ∧ las.length = bs.length ∧
  (∀ (i : Nat) (a : Addr) (v : Int), las[i]? = some a → bs[i]? = some v → LaneS L M H a i bs.length v (share cs bs.length i)) ∧ ¬ M x ∧ ¬ M b ∧ ¬ M c ∧ ¬ M l ∧ ∀ t ∈ ts, ¬ M t
theorem refs_inj {xs ys : List Addr} (h : xs.map V.ref = ys.map V.ref) : xs = ys := (List.map_inj_right fun a b e => V.ref.inj e).mp h
theorem ruS_of {R L av : Addr} {M : Addr → Prop} {H : Hp} {x : Addr} {bs : List Int} {cs : List (Int × Int)} (h : RuAt R L av H x bs cs) (g : ∀ a, M a → RuAt R L a H x bs cs) : RuS R L (fun b => b = av ∨ M b) H x bs cs := by
  obtain ⟨dx, b, c, l, ts, las, h1, h2, h3, h4, h5, h6, h7, n1, n2, n3, n4, n5⟩ := h
  have key : ∀ d, M d → (∀ (i : Nat) (a : Addr) (v : Int), las[i]? = some a → bs[i]? = some v → LaneAt L d H a i bs.length v (share cs bs.length i)) ∧ x ≠ d ∧ b ≠ d ∧ c ≠ d ∧ l ≠ d ∧ ∀ t ∈ ts, t ≠ d := fun d hd => by
    obtain ⟨dx', b', c', l', ts', las', k1, k2, k3, k4, k5, k6, k7, m1, m2, m3, m4, m5⟩ := g d hd
    rw [h1] at k1
    have e := Option.some.inj k1
    injection e with e1 e2 e3
    obtain ⟨rfl, rfl, rfl⟩ := ruF_inj e3
    rw [h3] at k3
    have e := Option.some.inj k3
    injection e with e
    obtain rfl := refs_inj e
    rw [h5] at k5
    have e := Option.some.inj k5
    injection e with e
    obtain rfl := refs_inj e
    exact ⟨k7, m1, m2, m3, m4, m5⟩
  exact ⟨dx, b, c, l, ts, las, h1, h2, h3, h4, h5, h6, fun i a v e1 e2 => laneS_of (h7 i a v e1 e2) fun d hd => (key d hd).1 i a v e1 e2, fun z => z.elim n1 fun z => (key _ z).2.1 rfl, fun z => z.elim n2 fun z => (key _ z).2.2.1 rfl,
    fun z => z.elim n3 fun z => (key _ z).2.2.2.1 rfl, fun z => z.elim n4 fun z => (key _ z).2.2.2.2.1 rfl, fun t ht z => z.elim (n5 t ht) fun z => (key _ z).2.2.2.2.2 t ht rfl⟩
theorem tups_apart {M : Addr → Prop} {H H' : Hp} : ∀ {ts : List Addr} {ms : List (Int × Int)}, Tups H ts ms → FrS M H H' → (∀ t ∈ ts, ¬ M t) → Tups H' ts ms
  | [], [], _, _, _ => trivial
  | _ :: _, _ :: _, h, f, n => ⟨f _ _ h.1 (n _ List.mem_cons_self), tups_apart h.2 f fun t m => n t (List.mem_cons_of_mem _ m)⟩
theorem RuS.fr {R L : Addr} {M : Addr → Prop} {H H' : Hp} {x : Addr} {bs : List Int} {cs : List (Int × Int)} (h : RuS R L M H x bs cs) (f : FrS M H H') : RuS R L M H' x bs cs := by
  obtain ⟨dx, b, c, l, ts, las, h1, h2, h3, h4, h5, h6, h7, n1, n2, n3, n4, n5⟩ := h
  exact ⟨dx, b, c, l, ts, las, f _ _ h1 n1, f _ _ h2 n2, f _ _ h3 n3, tups_apart h4 f n5, f _ _ h5 n4, h6, fun i a v e1 e2 => (h7 i a v e1 e2).fr f, n1, n2, n3, n4, n5⟩
theorem tups_mem {H : Hp} : ∀ {ts : List Addr} {ms : List (Int × Int)}, Tups H ts ms → ∀ t ∈ ts, ∃ o, H t = some o
  | _ :: _, _ :: _, h, t, ht => by
    rcases List.mem_cons.mp ht with rfl | ht
    · exact ⟨_, h.1⟩
    · exact tups_mem h.2 t ht
theorem RuS.sub {R L : Addr} {M M' : Addr → Prop} {H : Hp} {x : Addr} {bs : List Int} {cs : List (Int × Int)} (h : RuS R L M H x bs cs) (s : ∀ b, M' b → M b ∨ H b = none) : RuS R L M' H x bs cs := by
  obtain ⟨dx, b, c, l, ts, las, h1, h2, h3, h4, h5, h6, h7, n1, n2, n3, n4, n5⟩ := h
  have nn : ∀ {q o}, H q = some o → ¬ M q → ¬ M' q := fun e n z => by
    rcases s _ z with z | z
    · exact n z
    · rw [z] at e
      cases e
  exact ⟨dx, b, c, l, ts, las, h1, h2, h3, h4, h5, h6, fun i a v e1 e2 => (h7 i a v e1 e2).sub s, nn h1 n1, nn h2 n2, nn h3 n3, nn h5 n4, fun t ht => by
    obtain ⟨o, e⟩ := tups_mem h4 t ht
    exact nn e (n5 t ht)⟩
theorem RuS.at_ {R L d : Addr} {M : Addr → Prop} {H : Hp} {x : Addr} {bs : List Int} {cs : List (Int × Int)} (h : RuS R L M H x bs cs) (hd : M d) : RuAt R L d H x bs cs := by
  obtain ⟨dx, b, c, l, ts, las, h1, h2, h3, h4, h5, h6, h7, n1, n2, n3, n4, n5⟩ := h
  exact ⟨dx, b, c, l, ts, las, h1, h2, h3, h4, h5, h6, fun i a v e1 e2 => (h7 i a v e1 e2).at_ hd, fun z => n1 (by rw [z]; exact hd), fun z => n2 (by rw [z]; exact hd), fun z => n3 (by rw [z]; exact hd), fun z => n4 (by rw [z]; exact hd), fun t ht z => n5 t ht (by rw [z]; exact hd)⟩
/-- what a rule is told by -/
structure RuOk (bs : List Int) (cs : List (Int × Int)) : Prop where
  l0 : 0 < bs.length
  l1 : bs.length ≤ 12
  asc : cs.Pairwise fun a b => a.1 < b.1
  rise : RisesC bs cs
  norm : (tell bs cs).2 = cs
def obR (R L : Addr) : (Addr → Prop) → Hp → Addr → OV → Prop := fun M H x o => match o with
  | .rul bs cs => (∃ av, RuS R L (fun b => b = av ∨ M b) H x bs cs) ∧ RuOk bs cs
  | .cls => x = R
  | .dic cs => H x = some (.dK (cs.map fun c => (Sum.inl c.1, V.int c.2))) ∧ ¬ M x
  | _ => False
def Wr (R L : Addr) : Wo where
  p := none
  ob := obR R L
  mono := fun {M H H' x o} h f => by
    cases o with
    | rul bs cs =>
      obtain ⟨⟨av, h⟩, k⟩ := h
      exact ⟨⟨av, h.fr (f.mono fun b hb => .inr hb)⟩, k⟩
    | cal _ _ => exact h.elim
    | cls => exact h
    | dic cs => exact ⟨f _ _ h.1 h.2, h.2⟩
  sub := fun {M M' H x o} h s => by
    cases o with
    | rul bs cs =>
      obtain ⟨⟨av, h⟩, k⟩ := h
      exact ⟨⟨av, h.sub fun b hb => hb.elim (fun z => .inl (.inl z)) fun z => (s b z).imp .inr id⟩, k⟩
    | cal _ _ => exact h.elim
    | cls => exact h
    | dic cs => exact ⟨h.1, fun z => (s _ z).elim h.2 fun e => by have h1 := h.1; rw [e] at h1; cases h1⟩
section
variable {R L : Addr} {p : Option Addr} {M : Addr → Prop} {H H' : Hp}
theorem rul_inv {v : V} {bs : List Int} {cs : List (Int × Int)} (h : Rep ((Wr R L).at p) M H v (.obj (.rul bs cs))) : ∃ x av, v = .ref x ∧ RuAt R L av H x bs cs ∧ RuOk bs cs := by
  cases h with
  | obj h =>
    obtain ⟨⟨av, h⟩, k⟩ := h
    exact ⟨_, av, rfl, h.at_ (.inl rfl), k⟩
theorem RuOk.ascL {bs : List Int} {cs : List (Int × Int)} (h : RuOk bs cs) : Asc cs := List.pairwise_map.mpr (h.asc.imp fun q => Int.le_of_lt q)
/-- a list of changes as data -/
def dPr (m : Int × Int) : DV := .tup [.int m.1, .int m.2]
def dInt (xs : List Int) : DV := .lst (xs.map DV.int)
def dPrs (ms : List (Int × Int)) : DV := .lst (ms.map dPr)
theorem tups_rep {W : Wo} {ts : List Addr} {ms : List (Int × Int)} (h : Tups H ts ms) (n : ∀ t ∈ ts, ¬ M t) : RepA W M H (ts.map V.ref) (ms.map dPr) := by
  induction ts generalizing ms with
  | nil =>
    cases ms with
    | nil => exact .nil
    | cons m ms => exact h.elim
  | cons t ts ih =>
    cases ms with
    | nil => exact h.elim
    | cons m ms =>
      refine .cons ?_ (ih h.2 fun t ht => n t (List.mem_cons_of_mem _ ht))
      have r : RepA W M H [V.int m.1, V.int m.2] [.int m.1, .int m.2] := .cons (.int _) (.cons (.int _) .nil)
      exact .tup h.1 (n t List.mem_cons_self) r.1 r.2
theorem prs_inv {W : Wo} {vs : List V} {ms : List (Int × Int)} (h : RepA W M H vs (ms.map dPr)) : ∃ ts, vs = ts.map V.ref ∧ Tups H ts ms ∧ ∀ t ∈ ts, ¬ M t := by
  induction ms generalizing vs with
  | nil => exact ⟨[], h.nil_inv, trivial, fun t ht => nomatch ht⟩
  | cons m ms ih =>
    obtain ⟨v, us, rfl, h1, h2⟩ := h.cons_inv
    obtain ⟨ts, rfl, tp, nt⟩ := ih h2
    obtain ⟨q, ws, rfl, hq, nq, r⟩ := h1.tup_inv
    obtain ⟨a, xs, rfl, ra, r⟩ := r.cons_inv
    obtain ⟨b, rfl, rb⟩ := r.one_inv
    rw [ra.int_inv, rb.int_inv] at hq
    refine ⟨q :: ts, rfl, ⟨hq, tp⟩, fun t ht => ?_⟩
    rcases List.mem_cons.mp ht with rfl | ht
    · exact nq
    · exact nt t ht
/-- the answer, the offset -/
def fAns : FD := fun ds n K => match ds with
  | [.obj (.rul bs cs), .int t] => K (.int (t + offAt bs cs t)) n
  | _ => False
def fOff : FD := fun ds n K => match ds with
  | [.obj (.rul bs cs), .int t] => K (.int (offAt bs cs t)) n
  | _ => False
theorem poolPl {W : Wo} {n : Nat} (p : ∀ a, W.p = some a → M a ∧ Well H a n) : Pl W H n := fun a e => (p a e).2
theorem rd_ans : RdFn ((Wr R L).at p) (spRuAns R L) fAns := fun M H vs ds n Q E K dm pp r c h => by
  unfold fAns at h
  split at h
  · obtain ⟨v, us, rfl, r1, rs⟩ := r.cons_inv
    obtain ⟨u, rfl, r2⟩ := rs.one_inv
    obtain ⟨x, av, rfl, ru, k⟩ := rul_inv r1
    exact ⟨x, av, _, _, _, by rw [r2.int_inv], ru, k.l0, k.ascL, c _ _ _ _ .refl (poolPl pp) (.int _) h⟩
  · exact h.elim
theorem rd_off : RdFn ((Wr R L).at p) (spRuOff R L) fOff := fun M H vs ds n Q E K dm pp r c h => by
  unfold fOff at h
  split at h
  · obtain ⟨v, us, rfl, r1, rs⟩ := r.cons_inv
    obtain ⟨u, rfl, r2⟩ := rs.one_inv
    obtain ⟨x, av, rfl, ru, k⟩ := rul_inv r1
    exact ⟨x, av, _, _, _, by rw [r2.int_inv], ru, k.l0, k.ascL, c _ _ _ _ .refl (poolPl pp) (.int _) h⟩
  · exact h.elim
/-- its properties -/
def fWeek : DV → (DV → Prop) → Prop := fun x K => match x with
  | .obj (.rul bs _) => K (.int (bs.length : Nat))
  | _ => False
def fBase : DV → (List DV → Prop) → Prop := fun x K => match x with
  | .obj (.rul bs _) => K (bs.map DV.int)
  | _ => False
def fChanges : DV → (List DV → Prop) → Prop := fun x K => match x with
  | .obj (.rul _ cs) => K (cs.map dPr)
  | _ => False
def dP (f : DV → (DV → Prop) → Prop) (a : TD) : TD := fun δ n K => a δ n fun x m => f x fun z => K z m
def dPF (f : DV → (List DV → Prop) → Prop) (a : TD) : TDA := fun δ n K => a δ n fun x m => f x fun z => K z m
end

/-! ### the offset at a moment, as a law finds it -/
def lawStep (n t : Int) (f : Int) (c : Int × Int) : Int := if c.1 ≤ t ∧ (t - c.1) % n = 0 then c.2 else f
def lawOff (bs : List Int) (cs : List (Int × Int)) (t : Int) : Int := cs.foldl (lawStep bs.length t) (wkOff bs t)
def lastOff (off : Int) (ks : List (Int × Int)) (t : Int) : Int := ks.foldl (fun f k => if k.1 ≤ t then k.2 else f) off
theorem snoc_ind {α : Type} {P : List α → Prop} (h0 : P []) (h1 : ∀ xs x, P xs → P (xs ++ [x])) : ∀ xs, P xs := fun xs => by
  have h : ∀ ys : List α, P ys.reverse := fun ys => by
    induction ys with
    | nil => exact h0
    | cons y ys ih =>
      rw [List.reverse_cons]
      exact h1 _ _ ih
  have := h xs.reverse
  rw [List.reverse_reverse] at this
  exact this
theorem countUpto_all {ns : List Int} {v : Int} (h : ∀ n ∈ ns, n ≤ v) : countUpto ns v = ns.length := by
  unfold countUpto
  rw [List.filter_eq_self.mpr fun n hn => decide_eq_true (h n hn)]
theorem laneOff_last {off t : Int} : ∀ ks : List (Int × Int), (ks.map (·.1)).Pairwise (· ≤ ·) → laneOff off ks t = lastOff off ks t := by
  refine snoc_ind (fun _ => rfl) fun ks k ih asc => ?_
  rw [List.map_append, List.pairwise_append] at asc
  obtain ⟨a1, _, a3⟩ := asc
  have e : lastOff off (ks ++ [k]) t = if k.1 ≤ t then k.2 else lastOff off ks t := by
    unfold lastOff
    rw [List.foldl_append]
    rfl
  rw [e]
  have cnt : countUpto ((ks ++ [k]).map (·.1)) t = countUpto (ks.map (·.1)) t + (if k.1 ≤ t then 1 else 0) := by
    unfold countUpto
    rw [List.map_append, List.filter_append, List.length_append]
    congr 1
    by_cases q : k.1 ≤ t
    · simp [q]
    · simp [q]
  have cl : countUpto (ks.map (·.1)) t ≤ ks.length := by
    unfold countUpto
    refine Nat.le_trans (List.length_filter_le _ _) ?_
    rw [List.length_map]
    exact Nat.le_refl _
  by_cases q : k.1 ≤ t
  · rw [if_pos q]
    have all : countUpto (ks.map (·.1)) t = ks.length := by
      rw [countUpto_all fun n hn => ?_, List.length_map]
      have := a3 n hn k.1 (by simp)
      omega
    unfold laneOff
    rw [cnt, if_pos q, all, List.map_append, ← List.cons_append, List.getD_eq_getElem?_getD, List.getElem?_append_right (by simp)]
    simp
  · rw [if_neg q, ← ih a1]
    unfold laneOff
    rw [cnt, if_neg q, Nat.add_zero, List.map_append, ← List.cons_append, List.getD_eq_getElem?_getD, List.getD_eq_getElem?_getD, List.getElem?_append_left (by simp; omega)]
theorem mod_lane {n t m : Int} (hn : 0 < n) : m % n = t % n ↔ (t - m) % n = 0 := by
  rw [Int.emod_eq_emod_iff_emod_sub_eq_zero]
  constructor
  · intro h
    have : n ∣ m - t := Int.dvd_of_emod_eq_zero h
    have h2 : n ∣ t - m := by
      have := Int.dvd_neg.mpr this
      rwa [Int.neg_sub] at this
    exact Int.emod_eq_zero_of_dvd h2
  · intro h
    have : n ∣ t - m := Int.dvd_of_emod_eq_zero h
    have h2 : n ∣ m - t := by
      have := Int.dvd_neg.mpr this
      rwa [Int.neg_sub] at this
    exact Int.emod_eq_zero_of_dvd h2
theorem share_fold {n t : Int} (hn : 0 < n) : ∀ (cs : List (Int × Int)) (off : Int), lastOff off (share cs n (t % n)) t = cs.foldl (lawStep n t) off
  | [], _ => rfl
  | c :: cs, off => by
    unfold share
    rw [List.filter_cons, List.foldl_cons]
    have ml := mod_lane (n := n) (t := t) (m := c.1) hn
    by_cases q : c.1 % n = t % n
    · rw [if_pos (decide_eq_true q)]
      have e : lawStep n t off c = if c.1 ≤ t then c.2 else off := by
        unfold lawStep
        by_cases z : c.1 ≤ t
        · rw [if_pos ⟨z, ml.mp q⟩, if_pos z]
        · rw [if_neg (fun w => z w.1), if_neg z]
      rw [e]
      exact share_fold hn cs _
    · rw [if_neg (by rw [decide_eq_false q]; decide)]
      have e : lawStep n t off c = off := by
        unfold lawStep
        rw [if_neg fun w => q (ml.mpr w.2)]
      rw [e]
      exact share_fold hn cs _
/-- the rule's own offset is the law's -/
theorem offAt_law {bs : List Int} {cs : List (Int × Int)} (l0 : 0 < bs.length) (asc : Asc cs) (t : Int) : offAt bs cs t = lawOff bs cs t := by
  unfold offAt lawOff
  rw [laneOff_last _ (asc.share _ _), share_fold (by omega)]
theorem lawOff_snoc (bs : List Int) (cs : List (Int × Int)) (c : Int × Int) (t : Int) : lawOff bs (cs ++ [c]) t = lawStep bs.length t (lawOff bs cs t) c := by
  unfold lawOff
  rw [List.foldl_append]
  rfl
/-- behind all changes the week's last offsets hold -/
theorem tell_week {bs : List Int} (l0 : 0 < bs.length) : ∀ (cs : List (Int × Int)) (t : Int), (∀ c ∈ cs, c.1 ≤ t) → lawOff bs cs t = (tell bs cs).1.getD (t % bs.length).toNat 0 := by
  refine snoc_ind (fun t _ => rfl) fun cs c ih t h => ?_
  have hn : (0 : Int) < bs.length := by omega
  have wl := tell_len bs cs
  rw [lawOff_snoc, tell_snoc, ih t fun d hd => h d (List.mem_append_left _ hd)]
  have hc := h c (List.mem_append_right _ List.mem_cons_self)
  unfold lawStep tellStep
  have ml := mod_lane (n := bs.length) (t := t) (m := c.1) hn
  have a0 := Int.emod_nonneg t (show (bs.length : Int) ≠ 0 by omega)
  have a1 := Int.emod_lt_of_pos t hn
  have b0 := Int.emod_nonneg c.1 (show (bs.length : Int) ≠ 0 by omega)
  have b1 := Int.emod_lt_of_pos c.1 hn
  show _ = ((tell bs cs).1.set (c.1 % bs.length).toNat c.2).getD (t % bs.length).toNat 0
  rw [List.getD_eq_getElem?_getD (l := (tell bs cs).1.set _ _)]
  by_cases q : c.1 % (bs.length : Int) = t % bs.length
  · rw [if_pos ⟨hc, ml.mp q⟩, q, List.getElem?_set_self (by omega)]
    rfl
  · rw [if_neg (fun w => q (ml.mpr w.2)), List.getElem?_set_ne (by omega), ← List.getD_eq_getElem?_getD]
/-- idle changes change nothing -/
theorem tell_law {bs : List Int} (l0 : 0 < bs.length) : ∀ cs : List (Int × Int), (cs.Pairwise fun a b => a.1 < b.1) → ∀ t, lawOff bs (tell bs cs).2 t = lawOff bs cs t := by
  refine snoc_ind (fun _ t => rfl) fun cs c ih asc t => ?_
  have hn : (0 : Int) < bs.length := by omega
  rw [List.pairwise_append] at asc
  obtain ⟨a1, _, a3⟩ := asc
  rw [lawOff_snoc, tell_snoc]
  unfold tellStep
  show lawOff bs (if c.2 = (tell bs cs).1.getD (c.1 % bs.length).toNat 0 then (tell bs cs).2 else (tell bs cs).2 ++ [c]) t = _
  by_cases q : c.2 = (tell bs cs).1.getD (c.1 % bs.length).toNat 0
  · rw [if_pos q, ih a1 t]
    unfold lawStep
    by_cases z : c.1 ≤ t ∧ (t - c.1) % (bs.length : Int) = 0
    · rw [if_pos z, tell_week l0 cs t fun d hd => by have := a3 d hd c (by simp); omega, q, (mod_lane hn).mpr z.2]
    · rw [if_neg z]
  · rw [if_neg q, lawOff_snoc, ih a1 t]
/-- so a rule told with changes answers as the law says -/
theorem offAt_tell {bs : List Int} {cs : List (Int × Int)} (l0 : 0 < bs.length) (asc : cs.Pairwise fun a b => a.1 < b.1) (t : Int) : offAt bs (tell bs cs).2 t = lawOff bs cs t := by
  rw [offAt_law l0 (tell_asc asc), tell_law l0 cs asc]
/-- the changes that are needed, as a law finds them -/
def needed (bs : List Int) (cs : List (Int × Int)) : List (Int × Int) := cs.filter fun c => !decide (lawOff bs (cs.filter fun d => decide (d.1 < c.1)) c.1 = c.2)
theorem tell_needed {bs : List Int} (l0 : 0 < bs.length) : ∀ cs : List (Int × Int), (cs.Pairwise fun a b => a.1 < b.1) → (tell bs cs).2 = needed bs cs := by
  refine snoc_ind (fun _ => rfl) fun cs c ih asc => ?_
  rw [List.pairwise_append] at asc
  obtain ⟨a1, _, a3⟩ := asc
  have last : (cs ++ [c]).filter (fun d => decide (d.1 < c.1)) = cs := by
    rw [List.filter_append, List.filter_eq_self.mpr fun d hd => decide_eq_true (a3 d hd c (by simp))]
    simp
  have same : ∀ x ∈ cs, (cs ++ [c]).filter (fun d => decide (d.1 < x.1)) = cs.filter fun d => decide (d.1 < x.1) := fun x hx => by
    have := a3 x hx c (by simp)
    rw [List.filter_append, List.filter_cons, if_neg (by rw [decide_eq_false (by omega)]; decide), List.filter_nil, List.append_nil]
  have e : needed bs (cs ++ [c]) = needed bs cs ++ if c.2 = (tell bs cs).1.getD (c.1 % bs.length).toNat 0 then [] else [c] := by
    unfold needed
    rw [List.filter_append]
    congr 1
    · exact List.filter_congr fun x hx => by rw [same x hx]
    · rw [List.filter_cons, List.filter_nil, last, tell_week l0 cs c.1 fun d hd => by have := a3 d hd c (by simp); omega]
      by_cases q : c.2 = (tell bs cs).1.getD (c.1 % bs.length).toNat 0
      · rw [if_pos q, if_neg (by rw [decide_eq_true q.symm]; decide)]
      · rw [if_neg q, if_pos (by rw [decide_eq_false fun z => q z.symm]; rfl)]
  rw [e, tell_snoc, ← ih a1]
  unfold tellStep
  show (if c.2 = (tell bs cs).1.getD (c.1 % bs.length).toNat 0 then (tell bs cs).2 else (tell bs cs).2 ++ [c]) = _
  by_cases q : c.2 = (tell bs cs).1.getD (c.1 % bs.length).toNat 0
  · rw [if_pos q, if_pos q, List.append_nil]
  · rw [if_neg q, if_neg q]

theorem tell_idem {bs : List Int} (l0 : 0 < bs.length) : ∀ cs : List (Int × Int), tell bs (tell bs cs).2 = tell bs cs := by
  refine snoc_ind rfl fun cs c ih => ?_
  have wl := tell_len bs cs
  have b0 := Int.emod_nonneg c.1 (show (bs.length : Int) ≠ 0 by omega)
  have b1 := Int.emod_lt_of_pos c.1 (show (0 : Int) < bs.length by omega)
  rw [tell_snoc]
  show tell bs (tellStep bs.length (tell bs cs) c).2 = _
  unfold tellStep
  show tell bs (if c.2 = (tell bs cs).1.getD (c.1 % bs.length).toNat 0 then (tell bs cs).2 else (tell bs cs).2 ++ [c]) = _
  by_cases q : c.2 = (tell bs cs).1.getD (c.1 % bs.length).toNat 0
  · rw [if_pos q, ih, q]
    have hr : (c.1 % (bs.length : Int)).toNat < (tell bs cs).1.length := by omega
    have e : (tell bs cs).1.set (c.1 % bs.length).toNat ((tell bs cs).1.getD (c.1 % bs.length).toNat 0) = (tell bs cs).1 := by
      rw [List.getD_eq_getElem?_getD, List.getElem?_eq_getElem hr]
      exact List.set_getElem_self hr
    rw [e]
  · rw [if_neg q, tell_snoc, ih]
    unfold tellStep
    rw [if_neg q]
def fRule : FD := fun ds n K => ∃ bs cs, ds = [dInt bs, dPrs cs] ∧ 0 < bs.length ∧ bs.length ≤ 12 ∧ cs.length ≤ 990 ∧ (cs.Pairwise fun a b => a.1 < b.1) ∧ RisesC bs (tell bs cs).2 ∧ K (.obj (.rul bs (tell bs cs).2)) n
section
variable {R L : Addr} {p : Option Addr} {X : Cx} {e : Expr} {es : List Expr} {tA : TA} {dA : TDA} {ta : TE} {da : TD} {pos : Pos} {k : Nat} {a : Addr} {fd : FuncData} {ps : List Str}
theorem ruOk_of {bs : List Int} {cs : List (Int × Int)} (l0 : 0 < bs.length) (l1 : bs.length ≤ 12) (asc : cs.Pairwise fun a b => a.1 < b.1) (rise : RisesC bs (tell bs cs).2) : RuOk bs (tell bs cs).2 :=
  ⟨l0, l1, asc.sublist (tell_sub bs cs), rise, by rw [tell_idem l0]⟩
theorem trE_rule {K0 : PySem.W.Frag} (ha : TrA ((Wr R L).at p) tA dA) : TrE ((Wr R L).at p) (tMake R (spRuI R L K0) [] E0 tA) (dCall fRule dA) := fun B Φ M σ H δ n Q K ok c q => ha B Φ M σ H δ n _ _ ok (fun ds m vs H1 f1 p1 ra q x dx nx ndx dn => by
  obtain ⟨bs, cs, rfl, l0, l1, l2, asc, rise, q⟩ := q
  obtain ⟨va, us, rfl, r1, rs⟩ := ra.cons_inv
  obtain ⟨vc, rfl, r2⟩ := rs.one_inv
  obtain ⟨a, vs1, rfl, ha1, na, ra1⟩ := r1.lst_inv
  obtain ⟨b, vs2, rfl, hb1, nb, ra2⟩ := r2.lst_inv
  obtain rfl := ra1.ints
  obtain ⟨ts, rfl, tp, nt⟩ := prs_inv ra2
  have dom := (ok.expr f1 p1).dom
  have s0 : Same H1 (upd (upd H1 dx (.own x)) x (.ins R dx [])) := fun c o e => by
    rw [upd_ne (ne_of_none e nx), upd_ne (ne_of_none e ndx)]
    exact e
  rw [List.append_nil]
  refine ⟨x, dx, a, b, bs, ts, cs, rfl, upd_same, (by rw [upd_ne dn]; exact upd_same), dn, SqL.of (s0 _ _ ha1), SqL.of (s0 _ _ hb1), tp.same s0, ne_of_none ha1 nx, ne_of_none hb1 nx, l0, l1, l2, asc, rise, fun H2 ru f => ⟨rfl, ?_⟩⟩
  have s2 : Same H1 H2 := fun c o e => f _ _ (s0 _ _ e) (ne_of_none e nx)
  have hdx : upd (upd H1 dx (.own x)) x (.ins R dx []) dx = some (.own x) := by rw [upd_ne dn]; exact upd_same
  have old : ∀ d, M d → RuAt R L d H2 x bs (tell bs cs).2 := fun d hd => by
    obtain ⟨us, e⟩ := dom d hd
    exact ru d _ (s0 _ _ e) (ne_of_none e nx)
  exact c (.obj (.rul bs (tell bs cs).2)) _ _ _ (f1.trans (.of s2)) (pl_same p1 s2) (.obj ⟨⟨dx, ruS_of (ru dx _ hdx dn) old⟩, ruOk_of l0 l1 asc rise⟩) q) q
theorem trE_week (ha : TrE ((Wr R L).at p) ta da) : TrE ((Wr R L).at p) (tProp R (spRuWeek R L) [] E0 ta) (dP fWeek da) := fun B Φ M σ H δ n Q K ok c q => ha B Φ M σ H δ n _ _ ok (fun x m v H1 f1 p1 ra q => by
  unfold fWeek at q
  split at q
  · obtain ⟨x, av, rfl, ru, kk⟩ := rul_inv ra
    obtain ⟨dx, b, c', l, ts, las, h1, _⟩ := id ru
    exact ⟨x, dx, _, rfl, h1, ⟨x, av, _, _, rfl, ru, c _ _ _ _ f1 p1 (.int _) q⟩⟩
  · exact q.elim) q
theorem trF_base (ha : TrE ((Wr R L).at p) ta da) : TrF ((Wr R L).at p) (tProp R (spRuBase R L) [] E0 ta) (dPF fBase da) := fun B Φ M σ H δ n Q K ok c q => ha B Φ M σ H δ n _ _ ok (fun x m v H1 f1 p1 ra q => by
  unfold fBase at q
  split at q
  · obtain ⟨x, av, rfl, ru, kk⟩ := rul_inv ra
    obtain ⟨dx, b, c', l, ts, las, h1, _⟩ := id ru
    exact ⟨x, dx, _, rfl, h1, ⟨x, av, _, _, rfl, ru, fun q' nq => c _ _ _ _ _ (f1.upd (.inl (none_fr f1 p1 nq))) (pl_new p1 nq) (none_fr f1 p1 nq) upd_same (repA_new (repA_ints _) nq) q⟩⟩
  · exact q.elim) q
theorem trF_changes (ha : TrE ((Wr R L).at p) ta da) : TrF ((Wr R L).at p) (tProp R (spChOf (ThR R L)) [] E0 ta) (dPF fChanges da) := fun B Φ M σ H δ n Q K ok c q => ha B Φ M σ H δ n _ _ ok (fun x m v H1 f1 p1 ra q => by
  unfold fChanges at q
  split at q
  · obtain ⟨x, av, rfl, ru, kk⟩ := rul_inv ra
    obtain ⟨dx, b, c', l, ts, las, h1, _⟩ := id ru
    refine ⟨x, dx, _, rfl, h1, ⟨x, _, rfl, ⟨av, _, ru⟩, fun H2 q' ts' s2 nq hq tp => ?_⟩⟩
    refine c _ _ _ _ _ (f1.trans (.of s2)) (pl_same p1 s2) (none_fr f1 p1 nq) hq (tups_rep tp fun t ht z => ?_) q
    obtain ⟨xs, e⟩ : ∃ xs, H2 t = some (.tup xs) := by
      have : ∀ {ts : List Addr} {ms : List (Int × Int)}, Tups H2 ts ms → t ∈ ts → ∃ xs, H2 t = some (.tup xs) := by
        intro ts
        induction ts with
        | nil => intro ms _ h; cases h
        | cons u us ih =>
          intro ms h h2
          cases ms with
          | nil => exact h.elim
          | cons m ms =>
            rcases List.mem_cons.mp h2 with rfl | h2
            · exact ⟨_, h.1⟩
            · exact ih h.2 h2
      exact this tp ht
    rcases z with z | z
    · obtain ⟨us, e2⟩ := (ok.expr f1 p1).dom t z
      rw [s2 _ _ e2] at e
      cases e
    · rw [z, hq] at e
      cases e
  · exact q.elim) q
theorem de_week {g p1 : Addr} (he : DE X ((Wr R L).at p) e ta da) (c : Cls X.K R) (hp : PropOf X.K R "week" p1 g) (F : FnOk X.prog X.w X.K X.mg X.base CX0 k g fd ps (spRuWeek R L)) (hr : Room (k + 1) X.A) (hb : Binds X.K fd ps [])
    (hab : attributeBase e "week" X.env (eval e X.env) = eval e X.env := by rfl) : DE X ((Wr R L).at p) (.Attribute e "week" pos) (tProp R (spRuWeek R L) [] E0 ta) (dP fWeek da) := ⟨pe_prop he.pe c hp F hr hb .nil pass0 hab, trE_week he.tr⟩
theorem df_base {g p1 : Addr} (he : DE X ((Wr R L).at p) e ta da) (c : Cls X.K R) (hp : PropOf X.K R "base" p1 g) (F : FnOk X.prog X.w X.K X.mg X.base CX0 k g fd ps (spRuBase R L)) (hr : Room (k + 1) X.A) (hb : Binds X.K fd ps [])
    (hab : attributeBase e "base" X.env (eval e X.env) = eval e X.env := by rfl) : DF X ((Wr R L).at p) (.Attribute e "base" pos) (tProp R (spRuBase R L) [] E0 ta) (dPF fBase da) := ⟨pe_prop he.pe c hp F hr hb .nil pass0 hab, trF_base he.tr⟩
theorem df_changes {g p1 : Addr} (he : DE X ((Wr R L).at p) e ta da) (c : Cls X.K R) (hp : PropOf X.K R "changes" p1 g) (F : FnOk X.prog X.w X.K X.mg X.base CX0 k g fd ps (spChOf (ThR R L))) (hr : Room (k + 1) X.A) (hb : Binds X.K fd ps [])
    (hab : attributeBase e "changes" X.env (eval e X.env) = eval e X.env := by rfl) : DF X ((Wr R L).at p) (.Attribute e "changes" pos) (tProp R (spChOf (ThR R L)) [] E0 ta) (dPF fChanges da) := ⟨pe_prop he.pe c hp F hr hb .nil pass0 hab, trF_changes he.tr⟩
def DV.isR : DV → Bool
  | .obj (.rul _ _) => true
  | _ => false
def dMeth (f : FD) (a : TD) (b : TDA) : TD := fun δ n K => a δ n fun x m => x.isR = true ∧ b δ m fun xs k => f (x :: xs) k K
theorem trE_meth {m : Str} {sp : Sp} {f : FD} (rd : RdFn ((Wr R L).at p) sp f) (n1 : ¬ m = "_lanes") (n2 : ¬ m = "_changes") (n3 : ¬ m = "_base") (ha : TrE ((Wr R L).at p) ta da) (hA : TrA ((Wr R L).at p) tA dA) : TrE ((Wr R L).at p) (tMeth R m sp [] E0 ta tA) (dMeth f da dA) :=
  fun B Φ M σ H δ n Q K ok c q => ha B Φ M σ H δ n _ _ ok (fun x m v H1 f1 p1 ra q => by
    obtain ⟨hx, q⟩ := q
    unfold DV.isR at hx
    split at hx
    · obtain ⟨x, av, rfl, ru, kk⟩ := rul_inv ra
      obtain ⟨dx, b, c', l, ts, las, h1, _⟩ := id ru
      refine ⟨x, dx, _, rfl, h1, ruF_no b c' l n1 n2 n3, hA B Φ M σ H1 δ m _ _ (ok.expr f1 p1) (fun ys j us H2 f2 p2 rb q => ?_) q⟩
      have ok2 := (ok.expr f1 p1).expr f2 p2
      rw [List.append_nil]
      exact rd M H2 _ _ j Q E0 K ok2.dom ok2.poolM (.cons (ra.mono (ok.frM f2)) rb) (fun r j v H' f3 p3 r3 k => c _ _ _ _ ((f1.trans f2).trans f3) p3 r3 k) q
    · cases hx) q
theorem de_meth {o : Expr} {m : Str} {sp : Sp} {f : FD} {pl0 : Sem Bool} {apos : Pos} (he : DE X ((Wr R L).at p) o ta da) (c : Cls X.K R) (hm : Meth X.K R m a) (F : FnOk X.prog X.w X.K X.mg X.base CX0 k a fd ps sp) (rd : RdFn ((Wr R L).at p) sp f) (hr : Room k X.A) (hb : Binds X.K fd ps []) (ha : DA X ((Wr R L).at p) (e :: es) tA dA)
    (n1 : ¬ m = "_lanes" := by decide +kernel) (n2 : ¬ m = "_changes" := by decide +kernel) (n3 : ¬ m = "_base" := by decide +kernel)
    (hst : starEach (e :: es) X.env = (false, eval e X.env) :: starEach es X.env := by rfl) (hpl : (backTo pos (starEach es X.env)).any (·.1) = false := by rfl)
    (ht : eval (.Call (.Attribute o m apos) (e :: es) [] pos) X.env = (do
      let ov ← eval o X.env
      standAt apos.atName
      let (f, first) ← holding [ov] (getMethod ov m pl0)
      callWith pos f first (backTo pos (starEach (e :: es) X.env)) (backToKw pos (keywordEach [] X.env))) := by rfl) :
    DE X ((Wr R L).at p) (.Call (.Attribute o m apos) (e :: es) [] pos) (tMeth R m sp [] E0 ta tA) (dMeth f da dA) := ⟨pe_meth he.pe c hm F hr hb .nil pass0 ha.pa hst hpl ht, trE_meth rd n1 n2 n3 he.tr ha.tr⟩
theorem trE_callO {sp : Sp} {f : FD} (rd : RdFn ((Wr R L).at p) sp f) (ha : TrE ((Wr R L).at p) ta da) (hA : TrA ((Wr R L).at p) tA dA) : TrE ((Wr R L).at p) (StX.tCallO X R sp E0 ta tA) (dMeth f da dA) :=
  fun B Φ M σ H δ n Q K ok c q => ha B Φ M σ H δ n _ _ ok (fun x m v H1 f1 p1 ra q => by
    obtain ⟨hx, q⟩ := q
    unfold DV.isR at hx
    split at hx
    · obtain ⟨x, av, rfl, ru, kk⟩ := rul_inv ra
      refine ⟨x, rfl, hA B Φ M σ H1 δ m _ _ (ok.expr f1 p1) (fun ys j us H2 f2 p2 rb q => ?_) q⟩
      have ok2 := (ok.expr f1 p1).expr f2 p2
      obtain ⟨x2, av2, e2, ru2, _⟩ := rul_inv (ra.mono (ok.frM f2))
      obtain rfl : x = x2 := by injection e2
      obtain ⟨dx, b, c', l, ts, las, h2, _⟩ := id ru2
      exact ⟨.inr ⟨dx, _, h2⟩, rd M H2 _ _ j Q E0 K ok2.dom ok2.poolM (.cons (ra.mono (ok.frM f2)) rb) (fun r j v H' f3 p3 r3 k => c _ _ _ _ ((f1.trans f2).trans f3) p3 r3 k) q⟩
    · cases hx) q
theorem rd_nil {W : Wo} {sp : Sp} {f : FD} (h : RdFn W sp f) : RdFn W (fun vs H Q E => sp (vs ++ []) H Q E) f := fun M H vs ds n Q E K d p r c q => by
  show sp (vs ++ []) H Q E
  rw [List.append_nil]
  exact h M H vs ds n Q E K d p r c q
/-- made(t) -/
theorem de_callO {fe : Expr} {g : Addr} {sp : Sp} {f : FD} (hf : DE X ((Wr R L).at p) fe ta da) (c : StX.CallO X.K R g) (F : FnOk X.prog X.w X.K X.mg X.base CX0 k g fd ps sp) (rd : RdFn ((Wr R L).at p) sp f) (hr : Room k X.A) (hb : Binds X.K fd ps []) (ha : DA X ((Wr R L).at p) (e :: es) tA dA)
    (ht : eval (.Call fe (e :: es) [] pos) X.env = (do callWith pos (← eval fe X.env) [] (backTo pos (starEach (e :: es) X.env)) (backToKw pos (keywordEach [] X.env))) := by rfl)
    (he : starEach (e :: es) X.env = (false, eval e X.env) :: starEach es X.env := by rfl) (hpl : (backTo pos (starEach es X.env)).any (·.1) = false := by rfl) : DE X ((Wr R L).at p) (.Call fe (e :: es) [] pos) (StX.tCallO X R (fun vs H Q E => sp (vs ++ []) H Q E) E0 ta tA) (dMeth f da dA) :=
  ⟨StX.pe_callO hf.pe c (F.raw hb .nil) hr pass0 ha.pa ht he hpl, trE_callO (rd_nil rd) hf.tr ha.tr⟩
end

/-! ### rules as maps: their normal forms -/
theorem fold_skip {n t : Int} : ∀ (cs : List (Int × Int)) (f : Int), (∀ c ∈ cs, ¬ (c.1 ≤ t ∧ (t - c.1) % n = 0)) → cs.foldl (lawStep n t) f = f
  | [], _, _ => rfl
  | c :: cs, f, h => by
    rw [List.foldl_cons]
    have : lawStep n t f c = f := by
      unfold lawStep
      rw [if_neg (h c List.mem_cons_self)]
    rw [this]
    exact fold_skip cs f fun d hd => h d (List.mem_cons_of_mem _ hd)
theorem lawOff_lo {bs : List Int} {cs : List (Int × Int)} {t : Int} (h : ∀ c ∈ cs, t < c.1) : lawOff bs cs t = wkOff bs t := fold_skip cs _ fun c hc z => by have := h c hc; omega
theorem lawOff_at {bs : List Int} {cs : List (Int × Int)} {t v : Int} (asc : cs.Pairwise fun a b => a.1 < b.1) (h : (t, v) ∈ cs) : lawOff bs cs t = v := by
  obtain ⟨A, B, rfl⟩ := List.append_of_mem h
  rw [List.pairwise_append, List.pairwise_cons] at asc
  obtain ⟨_, ⟨a2, _⟩, _⟩ := asc
  unfold lawOff
  rw [List.foldl_append, List.foldl_cons, fold_skip B _ fun c hc z => by have := a2 c hc; simp at this; omega]
  unfold lawStep
  rw [if_pos ⟨Int.le_refl _, by rw [Int.sub_self]; exact Int.zero_emod _⟩]
theorem wk_prev {bs : List Int} (t : Int) : wkOff bs (t - (bs.length : Nat)) = wkOff bs t := by
  unfold wkOff
  rw [Int.sub_emod_right]
theorem match_prev {n t m : Int} (hn : 0 < n) (h : m ≠ t) : (m ≤ t ∧ (t - m) % n = 0) ↔ (m ≤ t - n ∧ (t - n - m) % n = 0) := by
  have e : (t - n - m) % n = (t - m) % n := by
    rw [show t - n - m = t - m - n by omega, Int.sub_emod_right]
  rw [e]
  constructor
  · rintro ⟨h1, h2⟩
    refine ⟨?_, h2⟩
    obtain ⟨k, hk⟩ := Int.dvd_of_emod_eq_zero h2
    have : 0 < k := by
      rcases Int.lt_or_le 0 k with z | z
      · exact z
      · have := Int.mul_le_mul_of_nonneg_left z (Int.le_of_lt hn)
        omega
    have := Int.mul_le_mul_of_nonneg_left (show (1 : Int) ≤ k by omega) (Int.le_of_lt hn)
    omega
  · rintro ⟨h1, h2⟩
    exact ⟨by omega, h2⟩
theorem fold_congr {α β : Type} {f g : β → α → β} : ∀ (l : List α) (b : β), (∀ b, ∀ a ∈ l, f b a = g b a) → l.foldl f b = l.foldl g b
  | [], _, _ => rfl
  | a :: l, b, h => by
    rw [List.foldl_cons, List.foldl_cons, h b a List.mem_cons_self]
    exact fold_congr l _ fun b c hc => h b c (List.mem_cons_of_mem _ hc)
theorem lawOff_prev {bs : List Int} {cs : List (Int × Int)} {t : Int} (l0 : 0 < bs.length) (h : t ∉ cs.map (·.1)) : lawOff bs cs t = lawOff bs cs (t - (bs.length : Nat)) := by
  unfold lawOff
  rw [wk_prev]
  refine fold_congr cs _ fun b c hc => ?_
  have ne : c.1 ≠ t := fun z => h (by rw [← z]; exact List.mem_map_of_mem hc)
  have := match_prev (n := bs.length) (by omega) ne
  unfold lawStep
  by_cases q : c.1 ≤ t ∧ (t - c.1) % (bs.length : Int) = 0
  · rw [if_pos q, if_pos (this.mp q)]
  · rw [if_neg q, if_neg fun z => q (this.mpr z)]
theorem lawOff_cut {bs : List Int} {cs : List (Int × Int)} {m : Int} (l0 : 0 < bs.length) : lawOff bs (cs.filter fun d => decide (d.1 < m)) m = lawOff bs cs (m - (bs.length : Nat)) := by
  unfold lawOff
  rw [wk_prev, List.foldl_filter]
  refine fold_congr cs _ fun b c hc => ?_
  by_cases q : c.1 < m
  · rw [if_pos (decide_eq_true q)]
    have := match_prev (n := bs.length) (t := m) (m := c.1) (by omega) (by omega)
    unfold lawStep
    by_cases z : c.1 ≤ m ∧ (m - c.1) % (bs.length : Int) = 0
    · rw [if_pos z, if_pos (this.mp z)]
    · rw [if_neg z, if_neg fun w => z (this.mpr w)]
  · rw [if_neg (by rw [decide_eq_false q]; decide)]
    unfold lawStep
    rw [if_neg fun z => q (by omega)]
theorem norm_ne {bs : List Int} {cs : List (Int × Int)} (l0 : 0 < bs.length) (asc : cs.Pairwise fun a b => a.1 < b.1) (h : (tell bs cs).2 = cs) : ∀ c ∈ cs, lawOff bs cs (c.1 - (bs.length : Nat)) ≠ c.2 := fun c hc => by
  rw [tell_needed l0 cs asc] at h
  have := List.filter_eq_self.mp h c hc
  rw [lawOff_cut l0] at this
  simpa using this
theorem norm_of {bs : List Int} {cs : List (Int × Int)} (l0 : 0 < bs.length) (asc : cs.Pairwise fun a b => a.1 < b.1) (h : ∀ c ∈ cs, lawOff bs cs (c.1 - (bs.length : Nat)) ≠ c.2) : (tell bs cs).2 = cs := by
  rw [tell_needed l0 cs asc]
  refine List.filter_eq_self.mpr fun c hc => ?_
  rw [lawOff_cut l0]
  simpa using h c hc
/-- the least of the changes and 0 -/
theorem low_of (cs : List (Int × Int)) (x : Int) : ∃ lo : Int, lo ≤ x ∧ ∀ c ∈ cs, lo < c.1 := by
  induction cs with
  | nil => exact ⟨x, Int.le_refl _, fun c hc => nomatch hc⟩
  | cons d cs ih =>
    obtain ⟨lo, h1, h2⟩ := ih
    refine ⟨min lo (d.1 - 1), by omega, fun c hc => ?_⟩
    rcases List.mem_cons.mp hc with rfl | hc
    · omega
    · have := h2 c hc
      omega
/-- whatever a map's offsets are: told at the changes, the same as a week ahead elsewhere, the base's at first -/
theorem tells {bs : List Int} {cs : List (Int × Int)} {g : Int → Int} (l0 : 0 < bs.length) (asc : cs.Pairwise fun a b => a.1 < b.1) (h1 : ∀ c ∈ cs, c.2 = g c.1) (h2 : ∀ t, t ∉ cs.map (·.1) → g t = g (t - (bs.length : Nat)))
    (h3 : ∃ lo, ∀ t, t ≤ lo → g t = wkOff bs t) : ∀ t, lawOff bs cs t = g t := by
  obtain ⟨lo0, h3⟩ := h3
  obtain ⟨lo, le, hlo⟩ := low_of cs lo0
  intro t
  suffices H : ∀ (k : Nat) (t : Int), t ≤ lo + k → lawOff bs cs t = g t from H (t - lo).toNat t (by omega)
  intro k
  induction k with
  | zero =>
    intro t ht
    rw [h3 t (by omega), lawOff_lo fun c hc => by have := hlo c hc; omega]
  | succ k ih =>
    intro t ht
    by_cases q : t ∈ cs.map (·.1)
    · obtain ⟨c, hc, rfl⟩ := List.mem_map.mp q
      rw [lawOff_at (v := c.2) asc hc, h1 c hc]
    · rw [lawOff_prev l0 q, h2 t q]
      exact ih _ (by omega)
theorem asc_eq {xs ys : List (Int × Int)} (h1 : xs.Pairwise fun a b => a.1 < b.1) (h2 : ys.Pairwise fun a b => a.1 < b.1) (h : ∀ c, c ∈ xs ↔ c ∈ ys) : xs = ys := by
  induction xs generalizing ys with
  | nil =>
    cases ys with
    | nil => rfl
    | cons y ys => exact absurd ((h y).mpr List.mem_cons_self) List.not_mem_nil
  | cons x xs ih =>
    cases ys with
    | nil => exact absurd ((h x).mp List.mem_cons_self) List.not_mem_nil
    | cons y ys =>
      rw [List.pairwise_cons] at h1 h2
      have e : x = y := by
        rcases List.mem_cons.mp ((h x).mp List.mem_cons_self) with e | e
        · exact e
        · rcases List.mem_cons.mp ((h y).mpr List.mem_cons_self) with e2 | e2
          · exact e2.symm
          · have a := h1.1 y e2
            have b := h2.1 x e
            omega
      subst e
      rw [ih h1.2 h2.2 fun c => ?_]
      constructor
      · intro hc
        rcases List.mem_cons.mp ((h c).mp (List.mem_cons_of_mem _ hc)) with e | e
        · have := h1.1 c hc
          rw [e] at this
          omega
        · exact e
      · intro hc
        rcases List.mem_cons.mp ((h c).mpr (List.mem_cons_of_mem _ hc)) with e | e
        · have := h2.1 c hc
          rw [e] at this
          omega
        · exact e
theorem mem_of_norm {bs : List Int} {cs : List (Int × Int)} (k : RuOk bs cs) (c : Int × Int) : c ∈ cs ↔ lawOff bs cs c.1 = c.2 ∧ lawOff bs cs (c.1 - (bs.length : Nat)) ≠ c.2 := by
  constructor
  · intro hc
    exact ⟨lawOff_at k.asc hc, norm_ne k.l0 k.asc k.norm c hc⟩
  · rintro ⟨h1, h2⟩
    by_cases q : c.1 ∈ cs.map (·.1)
    · obtain ⟨d, hd, e⟩ := List.mem_map.mp q
      have e2 : lawOff bs cs d.1 = d.2 := lawOff_at k.asc hd
      have : d = c := Prod.ext e (by rw [← e2, e, h1])
      rwa [this] at hd
    · exact absurd (by rw [← lawOff_prev k.l0 q]; exact h1) h2
/-- two rules of one week with the same values have the same normal form -/
theorem rule_uniq {bs bs' : List Int} {cs cs' : List (Int × Int)} (k : RuOk bs cs) (k' : RuOk bs' cs') (hl : bs.length = bs'.length) (h : ∀ t, lawOff bs cs t = lawOff bs' cs' t) : bs = bs' ∧ cs = cs' := by
  have ec : cs = cs' := asc_eq k.asc k'.asc fun c => by rw [mem_of_norm k, mem_of_norm k', h, h, hl]
  refine ⟨?_, ec⟩
  refine List.ext_getElem hl fun i h1 h2 => ?_
  obtain ⟨lo, _, hlo⟩ := low_of cs 0
  obtain ⟨lo', hle, hlo'⟩ := low_of cs' lo
  have hn : (0 : Int) < bs.length := by omega
  have hL : ∃ t : Int, t ≤ lo' ∧ t % (bs.length : Int) = i := by
    have q0 := Int.emod_nonneg lo' (show (bs.length : Int) ≠ 0 by omega)
    have q1 := Int.emod_lt_of_pos lo' hn
    refine ⟨lo' - lo' % bs.length - bs.length + i, by omega, ?_⟩
    have : lo' - lo' % (bs.length : Int) - bs.length + i = i + (bs.length : Int) * (lo' / bs.length - 1) := by
      have := Int.mul_ediv_add_emod lo' bs.length
      rw [Int.mul_sub]
      omega
    rw [this, Int.add_mul_emod_self_left]
    exact Int.emod_eq_of_lt (by omega) (by omega)
  obtain ⟨t, ht, et⟩ := hL
  have a := h t
  rw [lawOff_lo fun c hc => by have := hlo c hc; omega, lawOff_lo fun c hc => by have := hlo' c hc; omega] at a
  unfold wkOff at a
  rw [← hl, et, Int.toNat_natCast, List.getD_eq_getElem?_getD, List.getD_eq_getElem?_getD, List.getElem?_eq_getElem h1, List.getElem?_eq_getElem h2] at a
  exact a
/-- the value at a moment -/
def val (bs : List Int) (cs : List (Int × Int)) (t : Int) : Int := t + lawOff bs cs t
theorem RuOk.off {bs : List Int} {cs : List (Int × Int)} (k : RuOk bs cs) (t : Int) : offAt bs cs t = lawOff bs cs t := offAt_law k.l0 k.ascL t
theorem RuOk.step {bs : List Int} {cs : List (Int × Int)} (k : RuOk bs cs) (t : Int) : lawOff bs cs t ≤ lawOff bs cs (t + 1) + 1 := by
  have := k.rise t
  rwa [k.off, k.off] at this
theorem RuOk.monoN {bs : List Int} {cs : List (Int × Int)} (k : RuOk bs cs) (s : Int) : ∀ n : Nat, val bs cs s ≤ val bs cs (s + n)
  | 0 => by rw [Int.natCast_zero, Int.add_zero]; exact Int.le_refl _
  | n + 1 => by
    have a := RuOk.monoN k s n
    have b := k.step (s + n)
    unfold val at *
    rw [show s + ((n + 1 : Nat) : Int) = s + n + 1 by omega]
    omega
theorem RuOk.le {bs : List Int} {cs : List (Int × Int)} (k : RuOk bs cs) {s t : Int} (h : s ≤ t) : val bs cs s ≤ val bs cs t := by
  have := k.monoN s (t - s).toNat
  rwa [show s + ((t - s).toNat : Int) = t by omega] at this
theorem risesC_of {bs : List Int} {cs : List (Int × Int)} {g : Int → Int} (l0 : 0 < bs.length) (asc : cs.Pairwise fun a b => a.1 < b.1) (h : ∀ t, lawOff bs cs t = g t) (st : ∀ t, g t ≤ g (t + 1) + 1) : RisesC bs (tell bs cs).2 := fun t => by
  rw [offAt_tell l0 asc, offAt_tell l0 asc, h, h]
  exact st t
theorem lawOff_mem {bs : List Int} {cs : List (Int × Int)} {t : Int} (l0 : 0 < bs.length) : lawOff bs cs t ∈ bs ∨ ∃ c ∈ cs, lawOff bs cs t = c.2 := by
  have w : wkOff bs t ∈ bs := by
    have a0 := Int.emod_nonneg t (show (bs.length : Int) ≠ 0 by omega)
    have a1 := Int.emod_lt_of_pos t (show (0 : Int) < bs.length by omega)
    have h : (t % (bs.length : Int)).toNat < bs.length := by omega
    unfold wkOff
    rw [List.getD_eq_getElem?_getD, List.getElem?_eq_getElem h]
    exact List.getElem_mem h
  suffices H : ∀ (ds : List (Int × Int)) (f : Int), (f ∈ bs ∨ ∃ c ∈ cs, f = c.2) → (∀ c ∈ ds, c ∈ cs) → (ds.foldl (lawStep bs.length t) f ∈ bs ∨ ∃ c ∈ cs, ds.foldl (lawStep bs.length t) f = c.2) from H cs _ (.inl w) fun c hc => hc
  intro ds
  induction ds with
  | nil => exact fun f hf _ => hf
  | cons d ds ih =>
    intro f hf hd
    rw [List.foldl_cons]
    refine ih _ ?_ fun c hc => hd c (List.mem_cons_of_mem _ hc)
    unfold lawStep
    split
    · exact .inr ⟨d, hd d List.mem_cons_self, rfl⟩
    · exact hf
/-- the latest start -/
def IsLate (bs : List Int) (cs : List (Int × Int)) (u s : Int) : Prop := val bs cs s ≤ u ∧ u < val bs cs (s + 1)
theorem IsLate.iff {bs : List Int} {cs : List (Int × Int)} (k : RuOk bs cs) {u s : Int} (h : IsLate bs cs u s) (t : Int) : val bs cs t ≤ u ↔ t ≤ s := by
  constructor
  · intro ht
    rcases Int.lt_or_le s t with z | z
    · have := k.le (show s + 1 ≤ t by omega)
      have := h.2
      omega
    · exact z
  · intro ht
    have := k.le ht
    have := h.1
    omega
theorem IsLate.uniq {bs : List Int} {cs : List (Int × Int)} (k : RuOk bs cs) {u s s' : Int} (h : IsLate bs cs u s) (h' : IsLate bs cs u s') : s = s' := by
  have a := (h.iff k s').mp h'.1
  have b := (h'.iff k s).mp h.1
  omega

/-! ### the latest start of a lane -/
theorem cu_le (ns : List Int) (v : Int) : countUpto ns v ≤ ns.length := List.length_filter_le _ _
theorem cu_iff {v : Int} : ∀ {ns : List Int}, ns.Pairwise (· ≤ ·) → ∀ (j : Nat) (h : j < ns.length), j < countUpto ns v ↔ ns[j] ≤ v
  | [], _, j, h => by simp at h
  | x :: xs, asc, j, h => by
    rw [List.pairwise_cons] at asc
    unfold countUpto
    rw [List.filter_cons]
    by_cases q : x ≤ v
    · rw [if_pos (decide_eq_true q), List.length_cons]
      cases j with
      | zero => simp [q]
      | succ j =>
        have := cu_iff (v := v) asc.2 j (by simpa using h)
        unfold countUpto at this
        rw [List.getElem_cons_succ, ← this]
        omega
    · rw [if_neg (by rw [decide_eq_false q]; decide)]
      have z : xs.filter (fun n => decide (n ≤ v)) = [] := List.filter_eq_nil_iff.mpr fun y hy => by
        have := asc.1 y hy
        simp
        omega
      rw [z]
      cases j with
      | zero => simp; omega
      | succ j =>
        have hj : j < xs.length := by simpa using h
        have := asc.1 xs[j] (List.getElem_mem hj)
        rw [List.getElem_cons_succ]
        simp
        omega
def laneLat (r n off : Int) (ks : List (Int × Int)) (u : Int) : Int :=
  let i := countUpto (ks.map fun k => k.1 + k.2) u
  let s0 := u - (off :: ks.map (·.2)).getD i 0
  let s := s0 - (s0 - r) % n
  if i = ks.length then s else min s ((ks.map (·.1)).getD i 0 - n)
theorem share_mem {cs : List (Int × Int)} {n i : Int} {c : Int × Int} : c ∈ share cs n i ↔ c ∈ cs ∧ c.1 % n = i := by
  unfold share
  rw [List.mem_filter]
  simp
theorem share_asc {cs : List (Int × Int)} (h : cs.Pairwise fun a b => a.1 < b.1) (n i : Int) : (share cs n i).Pairwise fun a b => a.1 < b.1 := h.sublist List.filter_sublist
theorem mod_down {n r s : Int} (hn : 0 < n) (r0 : 0 ≤ r) (r1 : r < n) : (s - (s - r) % n) % n = r ∧ s - (s - r) % n ≤ s ∧ ∀ t, t % n = r → t ≤ s → t ≤ s - (s - r) % n := by
  have a0 := Int.emod_nonneg (s - r) (show n ≠ 0 by omega)
  have a1 := Int.emod_lt_of_pos (s - r) hn
  have e : s - (s - r) % n = r + n * ((s - r) / n) := by
    have := Int.mul_ediv_add_emod (s - r) n
    omega
  refine ⟨?_, by omega, fun t ht hl => ?_⟩
  · rw [e, Int.add_mul_emod_self_left]
    exact Int.emod_eq_of_lt r0 r1
  · rw [e]
    have et : t = r + n * (t / n) := by
      have := Int.mul_ediv_add_emod t n
      omega
    have : t / n ≤ (s - r) / n := by
      rw [Int.le_ediv_iff_mul_le hn, Int.mul_comm]
      omega
    have := Int.mul_le_mul_of_nonneg_left this (Int.le_of_lt hn)
    omega
theorem lane_off {bs : List Int} {cs : List (Int × Int)} (k : RuOk bs cs) {i : Nat} {v : Int} (hv : bs[i]? = some v) {t : Int} (ht : t % (bs.length : Int) = i) : lawOff bs cs t = laneOff v (share cs bs.length i) t := by
  rw [← k.off]
  unfold offAt wkOff
  rw [ht, Int.toNat_natCast, List.getD_eq_getElem?_getD, hv]
  rfl
theorem gap_lane {n a b : Int} (hn : 0 < n) (h : a % n = b % n) (l : a < b) : a ≤ b - n := by
  have h2 : (b - a) % n = 0 := by
    rw [Int.sub_emod, h, Int.sub_self]
    exact Int.zero_emod _
  obtain ⟨k, hk⟩ := Int.dvd_of_emod_eq_zero h2
  have : 0 < k := by
    rcases Int.lt_or_le 0 k with z | z
    · exact z
    · have := Int.mul_le_mul_of_nonneg_left z (Int.le_of_lt hn)
      omega
  have := Int.mul_le_mul_of_nonneg_left (show (1 : Int) ≤ k by omega) (Int.le_of_lt hn)
  omega
theorem laneLat_ok {bs : List Int} {cs : List (Int × Int)} (k : RuOk bs cs) {i : Nat} {v : Int} (hv : bs[i]? = some v) (u : Int) :
    laneLat i bs.length v (share cs bs.length i) u % (bs.length : Int) = i ∧ val bs cs (laneLat i bs.length v (share cs bs.length i) u) ≤ u ∧ ∀ t, t % (bs.length : Int) = i → val bs cs t ≤ u → t ≤ laneLat i bs.length v (share cs bs.length i) u := by
  have hi : i < bs.length := (List.getElem?_eq_some_iff.mp hv).1
  have hn : (0 : Int) < bs.length := by have := k.l0; omega
  have sm : ∀ c ∈ share cs bs.length i, c ∈ cs ∧ c.1 % (bs.length : Int) = i := fun c hc => share_mem.mp hc
  have sa := share_asc k.asc bs.length i
  have off := fun {t : Int} (ht : t % (bs.length : Int) = i) => lane_off k hv ht
  have fin : ∀ c ∈ share cs bs.length i, val bs cs c.1 = c.1 + c.2 := fun c hc => by
    unfold val
    rw [lawOff_at (v := c.2) k.asc (sm c hc).1]
  generalize share cs bs.length i = ks at sm sa off fin ⊢
  have ga : (ks.map fun k => k.1 + k.2).Pairwise (· ≤ ·) := by
    refine List.pairwise_map.mpr (sa.imp_of_mem fun {a b} ha hb h => ?_)
    rw [← fin a ha, ← fin b hb]
    exact k.le (Int.le_of_lt h)
  have ma : (ks.map (·.1)).Pairwise (· ≤ ·) := List.pairwise_map.mpr (sa.imp fun h => Int.le_of_lt h)
  have gi := fun (j : Nat) (hj : j < ks.length) => cu_iff (v := u) ga j (by simpa using hj)
  have gl := cu_le (ks.map fun k => k.1 + k.2) u
  rw [List.length_map] at gl
  unfold laneLat
  generalize countUpto (ks.map fun k => k.1 + k.2) u = q at gi gl
  simp only
  -- the offset behind q marks
  have offq : ∀ t, t % (bs.length : Int) = i → (∀ (j : Nat) (hj : j < ks.length), j < q → ks[j].1 ≤ t) → (∀ (j : Nat) (hj : j < ks.length), q ≤ j → t < ks[j].1) → val bs cs t = t + (v :: ks.map (·.2)).getD q 0 := fun t ht h1 h2 => by
    unfold val
    rw [off ht]
    unfold laneOff
    rw [upto_is (lo := q) (by simpa using gl) (fun j hj hq => by rw [List.getElem_map]; exact h1 j (by simpa using hj) hq) (fun j hj hq => by rw [List.getElem_map]; exact h2 j (by simpa using hj) hq)]
  generalize (v :: ks.map (·.2)).getD q 0 = o at offq ⊢
  obtain ⟨d1, d2, d3⟩ := mod_down (n := bs.length) (r := i) (s := u - o) hn (by omega) (by omega)
  generalize u - o - (u - o - (i : Int)) % (bs.length : Int) = s at d1 d2 d3 ⊢
  have asc : ∀ (a b : Nat) (ha : a < ks.length) (hb : b < ks.length), a < b → ks[a].1 < ks[b].1 := fun a b ha hb h => List.pairwise_iff_getElem.mp sa a b ha hb h
  have gv : ∀ (j : Nat) (hj : j < ks.length), (j < q ↔ val bs cs ks[j].1 ≤ u) := fun j hj => by
    rw [gi j hj, List.getElem_map, fin _ (List.getElem_mem hj)]
  -- what lies behind the last of the q marks
  have mark : ∀ t, t % (bs.length : Int) = i → (∀ (j : Nat) (hj : j < ks.length), q ≤ j → t < ks[j].1) → (∀ (j : Nat) (hj : j < ks.length), j < q → ks[j].1 ≤ t) ∨ ∃ (j : Nat) (hj : j < ks.length), j < q ∧ t < ks[j].1 := fun t ht h2 => by
    by_cases z : ∀ (j : Nat) (hj : j < ks.length), j < q → ks[j].1 ≤ t
    · exact .inl z
    · refine .inr ?_
      obtain ⟨j, hj⟩ := Classical.not_forall.mp z
      obtain ⟨hj1, hj2⟩ := Classical.not_forall.mp hj
      obtain ⟨hj3, hj4⟩ := Classical.not_imp.mp hj2
      exact ⟨j, hj1, hj3, Int.not_le.mp hj4⟩
  by_cases qe : q = ks.length
  · rw [if_pos qe]
    have s1 : ∀ (j : Nat) (hj : j < ks.length), j < q → ks[j].1 ≤ s := fun j hj _ => by
      -- all marks are ahead of the last one
      have hl : q - 1 < ks.length := by omega
      have lastq := offq ks[q - 1].1 (sm _ (List.getElem_mem hl)).2 (fun a ha hq => by
        rcases Nat.lt_or_ge a (q - 1) with z | z
        · exact Int.le_of_lt (asc a (q - 1) ha hl z)
        · have : a = q - 1 := by omega
          subst this
          exact Int.le_refl _) (fun a ha hq => absurd ha (by omega))
      have vu := (gv (q - 1) hl).mp (by omega)
      have := d3 ks[q - 1].1 (sm _ (List.getElem_mem hl)).2 (by omega)
      rcases Nat.lt_or_ge j (q - 1) with z | z
      · have := asc j (q - 1) hj hl z
        omega
      · have : j = q - 1 := by omega
        subst this
        omega
    have s2 : ∀ (j : Nat) (hj : j < ks.length), q ≤ j → s < ks[j].1 := fun j hj h => absurd hj (by omega)
    refine ⟨d1, ?_, fun t ht hu => ?_⟩
    · rw [offq s d1 s1 s2]
      clear gv mark offq
      omega
    · have none : ∀ (j : Nat) (hj : j < ks.length), q ≤ j → t < ks[j].1 := fun j hj h => absurd hj (by omega)
      rcases mark t ht none with z | ⟨j, hj, h1, h2⟩
      · rw [offq t ht z none] at hu
        exact d3 t ht (by omega)
      · have := s1 j hj h1
        omega
  · rw [if_neg qe]
    have hq : q < ks.length := by omega
    have eq : (ks.map (·.1)).getD q 0 = ks[q].1 := by
      rw [List.getD_eq_getElem?_getD, List.getElem?_map, List.getElem?_eq_getElem hq]
      rfl
    rw [eq]
    have mq := (sm _ (List.getElem_mem hq)).2
    have mm : (ks[q].1 - (bs.length : Int)) % (bs.length : Int) = i := by rw [Int.sub_emod_right]; exact mq
    have lt_q : ∀ t, t % (bs.length : Int) = i → t < ks[q].1 → t ≤ ks[q].1 - bs.length := fun t ht hl => gap_lane hn (by rw [ht, mq]) hl
    have hb : ∀ (j : Nat) (hj : j < ks.length), j < q → ks[j].1 ≤ ks[q].1 - bs.length := fun j hj h => lt_q _ (sm _ (List.getElem_mem hj)).2 (asc j q hj hq h)
    have s1 : ∀ (j : Nat) (hj : j < ks.length), j < q → ks[j].1 ≤ s := fun j hj hjq => by
      have hl : q - 1 < ks.length := by omega
      have lastq := offq ks[q - 1].1 (sm _ (List.getElem_mem hl)).2 (fun a ha hq2 => by
        rcases Nat.lt_or_ge a (q - 1) with z | z
        · exact Int.le_of_lt (asc a (q - 1) ha hl z)
        · have : a = q - 1 := by omega
          subst this
          exact Int.le_refl _) (fun a ha hq2 => asc (q - 1) a hl ha (by omega))
      have vu := (gv (q - 1) hl).mp (by omega)
      have := d3 ks[q - 1].1 (sm _ (List.getElem_mem hl)).2 (by omega)
      rcases Nat.lt_or_ge j (q - 1) with z | z
      · have := asc j (q - 1) hj hl z
        omega
      · have : j = q - 1 := by omega
        subst this
        omega
    have up : ∀ t, t ≤ ks[q].1 - (bs.length : Int) → ∀ (j : Nat) (hj : j < ks.length), q ≤ j → t < ks[j].1 := fun t ht j hj h => by
      rcases Nat.lt_or_ge q j with z | z
      · have := asc q j hq hj z
        omega
      · have : j = q := by omega
        subst this
        omega
    have lm : (min s (ks[q].1 - bs.length)) % (bs.length : Int) = i := by
      rcases Int.le_total s (ks[q].1 - bs.length) with z | z
      · rw [Int.min_eq_left z]; exact d1
      · rw [Int.min_eq_right z]; exact mm
    refine ⟨lm, ?_, fun t ht hu => ?_⟩
    · rw [offq _ lm (fun j hj h => by have := s1 j hj h; have := hb j hj h; omega) (up _ (Int.min_le_right _ _))]
      have := Int.min_le_left s (ks[q].1 - (bs.length : Int))
      omega
    · have tq : t < ks[q].1 := by
        rcases Int.lt_or_le t ks[q].1 with z | z
        · exact z
        · have a := k.le z
          have b := mt (gv q hq).mpr (Nat.lt_irrefl q)
          omega
      have tl := lt_q t ht tq
      have ts : t ≤ s := by
        rcases mark t ht (up t tl) with z | ⟨j, hj, h1, h2⟩
        · rw [offq t ht z (up t tl)] at hu
          exact d3 t ht (by omega)
        · have := s1 j hj h1
          omega
      exact Int.le_min.mpr ⟨ts, tl⟩

def spLaneLat (L : Addr) : Sp := fun vs H Q _ => ∃ (x av : Addr) (r n off u : Int) (ks : List (Int × Int)), vs = [.ref x, .int u] ∧ LaneAt L av H x r n off ks ∧ 0 < n ∧ (ks.map fun k => k.1 + k.2).Pairwise (· ≤ ·) ∧ Q (.int (laneLat r n off ks u)) H
def spRuLat (R L : Addr) : Sp := fun vs H Q _ => ∃ (x av : Addr) (u : Int) (bs : List Int) (cs : List (Int × Int)), vs = [.ref x, .int u] ∧ RuAt R L av H x bs cs ∧ RuOk bs cs ∧ ∀ s H', IsLate bs cs u s → Same H H' → Q (.int s) H'
theorem min_swap (a b : Int) : (if b < a then b else a) = if a ≤ b then a else b := by split <;> split <;> omega
section
variable {P : Program} {w : World} {K : PySem.W.Frag} {mg : Str → Option Value} {base : Heap}
theorem scLaneLat : FnScope ["self", "goal", "index", "start"] ["self", "goal"] (defScope sLaneLat) := ⟨rfl, rfl, rfl, by decide +kernel, rfl, by decide +kernel, by decide +kernel⟩
theorem ok_laneLat {f L fU : Addr} {fd dU : FuncData} (F : Fun K "latest_start" "Lane.latest_start" sLaneLat f fd) (Z : LaC K mg L) (T : Blt mg) (U : At P w K mg base 1 "many_upto" ["numbers", "limit"] spUpto fU dU) : FnOk P w K mg base CX0 2 f fd ["self", "goal"] (spLaneLat L) := by
  refine F.ok scLaneLat (fun vs H Q E h => ?_) (fun cdv A outer s H vs Q E hr h => ?_)
  · obtain ⟨x, av, r, n, off, u, ks, rfl, _⟩ := h
    rfl
  · obtain ⟨x, av, r, n, off, u, ks, rfl, ⟨dx, m, o, g, hx, hm, ho, hg, _⟩, n0, asc, q⟩ := h
    have hr1 : Room 1 _ := hr.mono (by decide)
    refine ⟨_, pss_cons (ps_set (i := 2) scLaneLat.nd rfl (.inl rfl) (pe_call U.ok hr1 (by rfl) U.at_ U.kp U.bi .nil pass0 (pa_cons (pe_fld (pv 0) rfl) (pa_cons (pv 1) pa_nil))))
      (pss_cons (ps_set (i := 3) scLaneLat.nd rfl (.inl rfl) (pe_op op_sub (pv 1) (pe_ix ix_list (pe_fld (pv 0) rfl) (pv 2) (fun _ _ => rfl))))
      (pss_cons (ps_set (i := 3) scLaneLat.nd rfl (.inl rfl) (pe_op op_sub (pv 3) (pe_op op_mod (pe_op op_sub (pv 3) (pe_fld (pv 0) rfl)) (pe_fld (pv 0) rfl))))
      (pss_cons (ps_if (pt_cmpR op_eq (pv 2) (pe_callB call_len_seq (by rfl) T.len PySem.boot_len (pa_cons (pe_fld (pv 0) rfl) pa_nil)) (nomark _))
        (pss_one (ps_ret (pv 3)))
        pss_nil)
      (pss_one (ps_ret (pe_callB (call_min2 rfl) (by rfl) T.min (by decide +kernel) (pa_cons (pv 3) (pa_cons (pe_op op_sub (pe_ix ix_list (pe_fld (pv 0) rfl) (pv 2) (fun _ _ => rfl)) (pe_fld (pv 0) rfl)) pa_nil)))))))), ?_⟩
    have cl := cu_le (ks.map fun k => k.1 + k.2) u
    rw [List.length_map] at cl
    unfold laneLat at q
    simp only at q
    refine ⟨_, rfl, x, L, dx, _, _, rfl, hx, Z.cl, Z.ng, laneF_g r n m o g, _, rfl, g, _, u, rfl, hg, asc, ?_⟩
    generalize hi : countUpto (ks.map fun k => k.1 + k.2) u = i at q cl ⊢
    have lt : i < (off :: ks.map (·.2)).length := by rw [List.length_cons, List.length_map]; omega
    have eo : (off :: ks.map (·.2)).getD i 0 = (off :: ks.map (·.2))[i] := by rw [List.getD_eq_getElem?_getD, List.getElem?_eq_getElem lt]; rfl
    rw [eo] at q
    refine ⟨_, rfl, _, rfl, x, L, dx, _, _, rfl, hx, Z.cl, Z.no, laneF_o r n m o g, _, rfl, o, _, _, _, rfl, rfl, SqL.of ho, atI_nat (j := i) (v := V.int (off :: ks.map (·.2))[i]) (by rw [List.getElem?_map, List.getElem?_eq_getElem lt]; rfl), _, _, rfl, rfl, ?_⟩
    generalize (off :: ks.map (·.2))[i] = ov at q ⊢
    refine ⟨_, rfl, _, rfl, _, rfl, x, L, dx, _, .int r, rfl, hx, Z.cl, Z.nr, ?_, _, _, rfl, rfl, _, rfl, x, L, dx, _, .int n, rfl, hx, Z.cl, Z.ns, ?_, _, _, rfl, rfl, n0, _, _, rfl, rfl, ?_⟩
    · unfold laneF
      rw [lookup_putF, if_neg (by decide +kernel), lookup_putF, if_neg (by decide +kernel), lookup_putF, if_neg (by decide +kernel), lookup_putF, if_neg (by decide +kernel), lookup_putF, if_pos rfl]
    · unfold laneF
      rw [lookup_putF, if_neg (by decide +kernel), lookup_putF, if_neg (by decide +kernel), lookup_putF, if_neg (by decide +kernel), lookup_putF, if_pos rfl]
    · refine ⟨_, rfl, _, rfl, x, L, dx, _, _, rfl, hx, Z.cl, Z.nm, laneF_m r n m o g, m, _, rfl, .inl (SqL.of hm), rfl, _, rfl, ite2 (fun z => ?_) (fun z => ?_)⟩
      · have e : i = ks.length := by
          have := of_decide_eq_true z
          injection this with this
          rw [List.length_map, List.length_map] at this
          omega
        rw [if_pos e] at q
        exact ⟨_, rfl, q⟩
      · have e : ¬ i = ks.length := fun e => z (decide_eq_true (by rw [List.length_map, List.length_map, e]))
        rw [if_neg e] at q
        have lt2 : i < ks.length := by omega
        have em : (ks.map (·.1)).getD i 0 = (ks.map (·.1))[i]'(by simpa using lt2) := by rw [List.getD_eq_getElem?_getD, List.getElem?_eq_getElem (by simpa using lt2)]; rfl
        rw [em] at q
        refine ⟨_, rfl, _, rfl, x, L, dx, _, _, rfl, hx, Z.cl, Z.nm, laneF_m r n m o g, _, rfl, m, _, _, _, rfl, rfl, SqL.of hm, atI_nat (j := i) (v := V.int ((ks.map (·.1))[i]'(by simpa using lt2))) (by rw [List.getElem?_map, List.getElem?_eq_getElem (by simpa using lt2)]; rfl), _, rfl, x, L, dx, _, .int n, rfl, hx, Z.cl, Z.ns, ?_, _, _, rfl, rfl, _, _, rfl, ?_⟩
        · unfold laneF
          rw [lookup_putF, if_neg (by decide +kernel), lookup_putF, if_neg (by decide +kernel), lookup_putF, if_neg (by decide +kernel), lookup_putF, if_pos rfl]
        · rw [Int.min_def] at q
          rw [min_swap]
          exact q
theorem scRuLat : FnScope ["self", "goal", "lane"] ["self", "goal"] (defScope sRuLat) := ⟨rfl, rfl, rfl, by decide +kernel, rfl, by decide +kernel, by decide +kernel⟩
theorem ok_ruLat {f R L fL : Addr} {fd dL : FuncData} (F : Fun K "latest_start" "Rule.latest_start" sRuLat f fd) (Z : RuC K mg R) (T : Blt mg) (ZL : LaC K mg L) (hLL : Meth K L "latest_start" fL) (GLL : FnOk P w K mg base CX0 2 fL dL ["self", "goal"] (spLaneLat L)) (bLL : Binds K dL ["self", "goal"] []) :
    FnOk P w K mg base CX0 3 f fd ["self", "goal"] (spRuLat R L) := by
  refine F.ok scRuLat (fun vs H Q E h => ?_) (fun cdv A outer s H vs Q E hr h => ?_)
  · obtain ⟨x, av, u, bs, cs, rfl, _⟩ := h
    rfl
  · obtain ⟨x, av, u, bs, cs, rfl, ⟨dx, b, c, l, ts, las, hx, hb, hc, tp, hl, ll, la, _⟩, ok, k⟩ := h
    refine ⟨_, pss_one (ps_ret (pe_callB (cr_max rfl) (by rfl) T.max (by decide +kernel) (pa_cons (pe_lc (own := [("lane", 2)]) (g := gName 2) (tt := tYes) rfl scRuLat.nd (pi_list (pe_fld (pv 0) rfl))
          (blkOk_by (N := ["self", "goal", "lane"]) (sc := defScope sRuLat) (by decide +kernel)) (fun _ _ _ _ _ => pg_name (i := 2) scRuLat.nd rfl (.inl rfl)) (fun _ _ _ _ _ => pts_nil)
          (fun _ _ _ _ _ => (pe_meth (pv 2) ZL.cl hLL GLL hr bLL .nil pass0 (pa_cons (pv 1) pa_nil)))) pa_nil))), ?_⟩
    have l0 := ok.l0
    let LL : Nat → Int := fun j => laneLat j bs.length (bs.getD j 0) (share cs bs.length j) u
    refine ⟨_, rfl, x, R, dx, _, _, rfl, hx, Z.cl, Z.nl, ruF_l b c l, l, rfl, ⟨_, SqL.of hl⟩, fun D hD => lc_list (K := K) (a := l) (xs := las.map V.ref) (fun i J => J D = some (.lst (((List.range i).map LL).map V.int)) ∧ Same H J) ⟨upd_same, same_new hD⟩ (fun i J _ h => SqL.of (h.2 _ _ hl)) ?_ ?_⟩
    · rintro i y J hi ⟨hJ, sJ⟩
      have hi2 : i < las.length := by
        have := (List.getElem?_eq_some_iff.mp hi).1
        simpa using this
      rw [List.getElem?_map, List.getElem?_eq_getElem hi2] at hi
      obtain rfl := Option.some.inj hi
      have hb2 : i < bs.length := by omega
      have lane := (la i las[i] bs[i] (List.getElem?_eq_getElem hi2) (List.getElem?_eq_getElem hb2)).same sJ
      obtain ⟨da, m, o, g, ha, _⟩ := id lane
      have eb : bs.getD i 0 = bs[i] := by rw [List.getD_eq_getElem?_getD, List.getElem?_eq_getElem hb2]; rfl
      have ga : ((share cs bs.length i).map fun k => k.1 + k.2).Pairwise (· ≤ ·) := by
        have sm : ∀ c ∈ share cs bs.length i, c ∈ cs := fun c hc => (share_mem.mp hc).1
        refine List.pairwise_map.mpr ((share_asc ok.asc bs.length i).imp_of_mem fun {a b} ha hb h => ?_)
        have e1 : val bs cs a.1 = a.1 + a.2 := by unfold val; rw [lawOff_at (v := a.2) ok.asc (sm a ha)]
        have e2 : val bs cs b.1 = b.1 + b.2 := by unfold val; rw [lawOff_at (v := b.2) ok.asc (sm b hb)]
        rw [← e1, ← e2]
        exact ok.le (Int.le_of_lt h)
      refine ⟨rfl, _, rfl, _, da, _, rfl, ha, laneF_no _ _ _ _ _ (by decide +kernel) (by decide +kernel) (by decide +kernel) (by decide +kernel) (by decide +kernel), _, rfl, ⟨_, av, _, _, _, u, _, rfl, lane, by omega, ga, ?_⟩⟩
      refine ⟨_, hJ, by rw [List.length_map, List.length_map, List.length_range]; exact small1000 (by have := ok.l1; omega), ?_, fun b o e => ?_⟩
      · rw [upd_same, List.range_succ, List.map_append, List.map_append]
        show some (HO.lst (_ ++ [V.int (laneLat i bs.length bs[i] (share cs bs.length i) u)])) = some (HO.lst (_ ++ [V.int (laneLat i bs.length (bs.getD i 0) (share cs bs.length i) u)]))
        rw [eb]
      · rw [upd_ne (ne_of_none e hD)]
        exact sJ _ _ e
    · rintro J ⟨hJ, sJ⟩
      rw [List.length_map, ll] at hJ
      refine ⟨D, (List.range bs.length).map LL, rfl, SqL.of hJ, by rw [List.length_map, List.length_range]; exact l0, fun s hs mx => k s J ?_ sJ⟩
      obtain ⟨j, hj, rfl⟩ := List.mem_map.mp hs
      rw [List.mem_range] at hj
      have at_ := fun (i : Nat) (hi : i < bs.length) => laneLat_ok ok (v := bs.getD i 0) (i := i) (by rw [List.getD_eq_getElem?_getD, List.getElem?_eq_getElem hi]; rfl) u
      refine ⟨(at_ j hj).2.1, ?_⟩
      rcases Int.lt_or_le u (val bs cs (LL j + 1)) with z | z
      · exact z
      · exfalso
        have a0 := Int.emod_nonneg (LL j + 1) (show (bs.length : Int) ≠ 0 by omega)
        have a1 := Int.emod_lt_of_pos (LL j + 1) (show (0 : Int) < bs.length by omega)
        have hi : ((LL j + 1) % (bs.length : Int)).toNat < bs.length := by omega
        have a := (at_ _ hi).2.2 (LL j + 1) (by omega) z
        have b := mx (LL ((LL j + 1) % (bs.length : Int)).toNat) (List.mem_map.mpr ⟨_, List.mem_range.mpr hi, rfl⟩)
        have : LL ((LL j + 1) % (bs.length : Int)).toNat = laneLat ((LL j + 1) % (bs.length : Int)).toNat bs.length (bs.getD ((LL j + 1) % (bs.length : Int)).toNat 0) (share cs bs.length ((LL j + 1) % (bs.length : Int)).toNat) u := rfl
        omega
end

/-! ### max and min of a pair of ints -/
def rMaxT (K : PySem.W.Frag) : List V → Hp → VK → Prop := fun vs H Q => ∃ (t : Addr) (i j : Int), vs = [.ref t] ∧ SqT K H t [.int i, .int j] ∧ Q (.int (if i < j then j else i)) H
def rMinT (K : PySem.W.Frag) : List V → Hp → VK → Prop := fun vs H Q => ∃ (t : Addr) (i j : Int), vs = [.ref t] ∧ SqT K H t [.int i, .int j] ∧ Q (.int (if j < i then j else i)) H
section
variable {X : Cx}
theorem cr_maxT (hc : X.calm = true) (hu : X.A.units + 64 < cLine) : CallR X (.builtin "max") (rMaxT X.K) := by
  intro pins s σ H vs us Q I r h
  obtain ⟨t, i, j, rfl, hs, q⟩ := h
  obtain ⟨its, rv, ht, _⟩ := I.tuple hs
  rw [Vals.ref1 r]
  have hold : PySem.W.HoldAll s.heap its [i, j] := by
    cases rv with
    | cons a b =>
      cases b with
      | cons a' b' =>
        cases b'
        obtain ⟨u, rfl⟩ := a
        obtain ⟨u', rfl⟩ := a'
        exact .cons (PySem.W.holds_int i u) (.cons (PySem.W.holds_int j u') ⟨_, .nil⟩)
  refine PySem.W.max_tuple_datum (α := Int) (x := i) (xs := [j]) (I.ok.hd hc) ht hold (by show X.A.units + 1 + 0 < cLine; omega) fun _ v h' tk _ hv hk => ?_
  obtain ⟨u, rfl⟩ := PySem.W.int_of_holds hv
  have e : PySem.W.maxOf i [j] = if i < j then j else i := by
    show (if decide (i < j) = true then j else i) = _
    by_cases c : i < j
    · rw [if_pos (decide_eq_true c), if_pos c]
    · rw [if_neg (by rw [decide_eq_false c]; exact Bool.false_ne_true), if_neg c]
  rw [e]
  exact ⟨.int _, H, I.kept hk, ⟨_, rfl⟩, q⟩
theorem cr_minT (hc : X.calm = true) (hu : X.A.units + 64 < cLine) : CallR X (.builtin "min") (rMinT X.K) := by
  intro pins s σ H vs us Q I r h
  obtain ⟨t, i, j, rfl, hs, q⟩ := h
  obtain ⟨its, rv, ht, _⟩ := I.tuple hs
  rw [Vals.ref1 r]
  have hold : PySem.W.HoldAll s.heap its [i, j] := by
    cases rv with
    | cons a b =>
      cases b with
      | cons a' b' =>
        cases b'
        obtain ⟨u, rfl⟩ := a
        obtain ⟨u', rfl⟩ := a'
        exact .cons (PySem.W.holds_int i u) (.cons (PySem.W.holds_int j u') ⟨_, .nil⟩)
  refine PySem.W.min_tuple_datum (α := Int) (x := i) (xs := [j]) (I.ok.hd hc) ht hold (by show X.A.units + 1 + 0 < cLine; omega) fun _ v h' tk _ hv hk => ?_
  obtain ⟨u, rfl⟩ := PySem.W.int_of_holds hv
  have e : PySem.W.minOf i [j] = if j < i then j else i := by
    show (if decide (j < i) = true then j else i) = _
    by_cases c : j < i
    · rw [if_pos (decide_eq_true c), if_pos c]
    · rw [if_neg (by rw [decide_eq_false c]; exact Bool.false_ne_true), if_neg c]
  rw [e]
  exact ⟨.int _, H, I.kept hk, ⟨_, rfl⟩, q⟩
end

/-! ### more of the program's defs over data -/
section
variable {X : Cx} {C f : Addr} {CX : CXT} {k : Nat} {fd : FuncData} {ps : List Str} {sp : Sp} {ds : List Value} {dvs : List V} {E : XK} {fe e : Expr} {es : List Expr} {tf : TE} {t : TA} {pos : Pos}
/-- c(..), c a name that holds the class at C -/
def tMakeV (C : Addr) (sp : Sp) (dvs : List V) (E : XK) (tf : TE) (t : TA) : TE := fun σ H Q => tf σ H fun y H1 => y = .ref C ∧ tMake C sp dvs E t σ H1 Q
theorem pe_makeV (hf : PE X fe tf) (M : Mk X.K C f) (F : FnOk X.prog X.w X.K X.mg X.base CX k f fd ps sp) (hr : Room (k + 1) X.A) (hb : Binds X.K fd ps ds) (hd : Vals dvs ds) (hx : Passes CX X E) (ha : PA X (e :: es) t)
    (ht : eval (.Call fe (e :: es) [] pos) X.env = (do callWith pos (← eval fe X.env) [] (backTo pos (starEach (e :: es) X.env)) (backToKw pos (keywordEach [] X.env))) := by rfl)
    (he : starEach (e :: es) X.env = (false, eval e X.env) :: starEach es X.env := by rfl) (hpl : (backTo pos (starEach es X.env)).any (·.1) = false := by rfl) : PE X (.Call fe (e :: es) [] pos) (tMakeV C sp dvs E tf t) := by
  refine ⟨fun pins s σ H Q I h => ?_⟩
  refine Call_ (thn (hf.run pins s σ H _ I h) fun u s1 ⟨y, H1, I1, ry, ey, q⟩ => ?_) ht
  subst ey
  obtain rfl : u = Value.ref C := ry
  refine PySem.W.callWith_K (h₀ := X.base) I1.ok.mod.kin M.kp (thn (ha.run pos pins s1 σ H1 _ I1 q) fun us s2 ⟨vs, H2, I2, r, q2⟩ => ⟨I2.kIn, ?_⟩) he hpl
  exact run_make M F hr hb hd hx I2 r q2
end
def fLat : FD := fun ds n K => match ds with
  | [.obj (.rul bs cs), .int u] => ∀ s, IsLate bs cs u s → K (.int s) n
  | _ => False
def fChkW : FD := fun ds n K => match ds with
  | [.int z] => 1 ≤ z ∧ z ≤ 12 ∧ K .non n
  | _ => False
/-- all changed moments of some rules -/
def movesOf : List DV → List (Int × Int)
  | [] => []
  | .obj (.rul _ cs) :: ds => cs ++ movesOf ds
  | _ :: ds => movesOf ds
def fMoms : FD := fun ds n K => (∀ d ∈ ds, d.isR = true) ∧ ds.length ≤ 900 ∧ (movesOf ds).length ≤ 2000 ∧ ∀ ks : List Int, ks.Pairwise (· < ·) → (∀ k, k ∈ ks ↔ k ∈ (movesOf ds).map (·.1)) → ks.length ≤ (movesOf ds).length → K (dInt ks) n
def fMaxT : List DV → (DV → Prop) → Prop := fun ds K => match ds with
  | [.tup [.int i, .int j]] => K (.int (if i < j then j else i))
  | _ => False
def fMinT : List DV → (DV → Prop) → Prop := fun ds K => match ds with
  | [.tup [.int i, .int j]] => K (.int (if j < i then j else i))
  | _ => False
def fBaseE : DV → (DV → Prop) → Prop := fun x K => match x with
  | .obj (.rul bs _) => K (dInt bs)
  | _ => False
def fChangesE : DV → (DV → Prop) → Prop := fun x K => match x with
  | .obj (.rul _ cs) => K (dPrs cs)
  | _ => False
def DV.isC : DV → Bool
  | .obj .cls => true
  | _ => false
def dMakeV (f : FD) (a : TD) (b : TDA) : TD := fun δ n K => a δ n fun x m => x.isC = true ∧ dCall f b δ m K
def dCMeth (f : FD) (b : TDA) : TD := fun δ n K => b δ n fun xs k => f (.obj .cls :: xs) k K
section
variable {R L : Addr} {p : Option Addr} {X : Cx} {e : Expr} {es : List Expr} {tA : TA} {dA : TDA} {ta : TE} {da : TD} {pos : Pos} {k : Nat} {a : Addr} {fd : FuncData} {ps : List Str} {sp : Sp} {f : FD}
theorem rd_lat : RdFn ((Wr R L).at p) (spRuLat R L) fLat := fun M H vs ds n Q E K dm pp r c h => by
  unfold fLat at h
  split at h
  · obtain ⟨v, us, rfl, r1, rs⟩ := r.cons_inv
    obtain ⟨u, rfl, r2⟩ := rs.one_inv
    obtain ⟨x, av, rfl, ru, k⟩ := rul_inv r1
    exact ⟨x, av, _, _, _, by rw [r2.int_inv], ru, k, fun s H' hs sm => c _ _ _ _ (.of sm) (pl_same (poolPl pp) sm) (.int _) (h s hs)⟩
  · exact h.elim
theorem rd_chkW {W : Wo} : RdFn W spChkW fChkW := fun M H vs ds n Q E K dm pp r c h => by
  unfold fChkW at h
  split at h
  · obtain ⟨v, rfl, r1⟩ := r.one_inv
    exact ⟨_, by rw [r1.int_inv], h.1, h.2.1, c _ _ _ _ .refl (poolPl pp) .non h.2.2⟩
  · exact h.elim
theorem moms_inv {M : Addr → Prop} {H : Hp} : ∀ {ds : List DV} {vs : List V}, (∀ d ∈ ds, d.isR = true) → RepA ((Wr R L).at p) M H vs ds → ∃ as : List (Addr × List (Int × Int)), vs = as.map (fun z => V.ref z.1) ∧ (∀ z ∈ as, ThR R L H z.1 z.2) ∧ allOf as = movesOf ds
  | [], vs, _, r => ⟨[], r.nil_inv, (fun z hz => nomatch hz), rfl⟩
  | d :: ds, vs, h, r => by
    obtain ⟨v, us, rfl, r1, rs⟩ := r.cons_inv
    obtain ⟨as, e1, e2, e3⟩ := moms_inv (fun d hd => h d (List.mem_cons_of_mem _ hd)) rs
    have hd := h d List.mem_cons_self
    unfold DV.isR at hd
    split at hd
    · rename_i bs cs
      obtain ⟨x, av, rfl, ru, _⟩ := rul_inv r1
      refine ⟨(x, cs) :: as, by rw [e1]; rfl, fun z hz => ?_, ?_⟩
      · rcases List.mem_cons.mp hz with rfl | hz
        · exact ⟨av, bs, ru⟩
        · exact e2 z hz
      · show cs ++ allOf as = cs ++ movesOf ds
        rw [e3]
    · cases hd
theorem rd_moms : RdFn ((Wr R L).at p) (spMoms (ThR R L)) fMoms := fun M H vs ds n Q E K dm pp r c h => by
  obtain ⟨h1, h2, h3, h⟩ := h
  obtain ⟨as, rfl, e2, e3⟩ := moms_inv h1 r
  have l : as.length = ds.length := by rw [← r.1, List.length_map]
  refine ⟨as, rfl, by omega, e2, by rw [e3]; exact h3, fun H' q ks s nq asc mem le hq => ?_⟩
  rw [e3] at mem le
  have ra := repA_ints (W := (Wr R L).at p) (M := M) (H := H') ks
  exact c (dInt ks) _ _ _ (.of s) (pl_same (poolPl pp) s) (.lst hq (fun z => (dm q z).ne nq) ra.1 ra.2) (h ks asc mem le)
theorem de_moms {x : Str} {pp : Pos} (F : FnR X.prog X.w X.K X.mg X.base CX0 k a (spMoms (ThR R L))) (hr : Room k X.A) (hm : X.mg x = some (.ref a)) (hk : PySem.W.keepIn X.K (.ref a) = true) (ha : DA X ((Wr R L).at p) (e :: es) tA dA) (hg : Gl X x := by rfl)
    (hdb : (x == ("__debug__" : Str)) = false := by decide) (he : starEach (e :: es) X.env = (false, eval e X.env) :: starEach es X.env := by rfl) (hpl : (backTo pos (starEach es X.env)).any (·.1) = false := by rfl) :
    DE X ((Wr R L).at p) (.Call (.Name x pp) (e :: es) [] pos) (fun σ H Q => tA σ H fun vs H1 => spMoms (ThR R L) vs H1 Q E0) (dCall fMoms dA) := ⟨pe_callR F hr hg hm hk pass0 ha.pa hdb he hpl, fun B Φ M σ H δ n Q K ok c q => ha.tr B Φ M σ H δ n _ _ ok (fun ds m vs H1 f1 p1 ra q => by
    have ok1 := ok.expr f1 p1
    exact rd_moms M H1 vs ds m Q E0 K ok1.dom ok1.poolM ra (fun r j v H' f2 p2 r2 k => c _ _ _ _ (f1.trans f2) p2 r2 k) q) q⟩
theorem rd_maxT {W : Wo} {K0 : PySem.W.Frag} : RdC W (rMaxT K0) fMaxT := fun M H vs ds Q K _ ra c h => by
  unfold fMaxT at h
  split at h
  · obtain ⟨v, rfl, r⟩ := ra.one_inv
    obtain ⟨q, us, rfl, hq, _, r⟩ := r.tup_inv
    obtain ⟨u1, ws, rfl, r1, r⟩ := r.cons_inv
    obtain ⟨u2, rfl, r2⟩ := r.one_inv
    rw [r1.int_inv, r2.int_inv] at hq
    exact ⟨q, _, _, rfl, SqT.of hq, c _ _ _ (fun _ _ e => e) (.int _) h⟩
  · exact h.elim
theorem rd_minT {W : Wo} {K0 : PySem.W.Frag} : RdC W (rMinT K0) fMinT := fun M H vs ds Q K _ ra c h => by
  unfold fMinT at h
  split at h
  · obtain ⟨v, rfl, r⟩ := ra.one_inv
    obtain ⟨q, us, rfl, hq, _, r⟩ := r.tup_inv
    obtain ⟨u1, ws, rfl, r1, r⟩ := r.cons_inv
    obtain ⟨u2, rfl, r2⟩ := r.one_inv
    rw [r1.int_inv, r2.int_inv] at hq
    exact ⟨q, _, _, rfl, SqT.of hq, c _ _ _ (fun _ _ e => e) (.int _) h⟩
  · exact h.elim
theorem rul_fields {M : Addr → Prop} {H : Hp} {v : V} {bs : List Int} {cs : List (Int × Int)} (h : Rep ((Wr R L).at p) M H v (.obj (.rul bs cs))) : ∃ x dx b c l, v = .ref x ∧ H x = some (.ins R dx (ruF b c l)) ∧ Rep ((Wr R L).at p) M H (.ref b) (dInt bs) ∧ Rep ((Wr R L).at p) M H (.ref c) (dPrs cs) := by
  cases h with
  | obj h =>
    obtain ⟨⟨av, h⟩, k⟩ := h
    obtain ⟨dx, b, c, l, ts, las, h1, h2, h3, h4, h5, h6, h7, n1, n2, n3, n4, n5⟩ := h.sub (M' := M) fun z hz => .inl (.inr hz)
    have ra := repA_ints (W := (Wr R L).at p) (M := M) (H := H) bs
    have rb := tups_rep (W := (Wr R L).at p) h4 n5
    exact ⟨_, dx, b, c, l, rfl, h1, .lst h2 n2 ra.1 ra.2, .lst h3 n3 rb.1 rb.2⟩
/-- rule._base, rule._changes -/
theorem de_baseF {mg : Str → Option Value} (Z : RuC X.K mg R) (he : DE X ((Wr R L).at p) e ta da) (hb : attributeBase e "_base" X.env (eval e X.env) = eval e X.env := by rfl) : DE X ((Wr R L).at p) (.Attribute e "_base" pos) (tFld X.K ta "_base") (dP fBaseE da) :=
  ⟨pe_fld he.pe hb, fun B Φ M σ H δ n Q K ok c q => he.tr B Φ M σ H δ n _ _ ok (fun x m v H1 f1 p1 ra q => by
    unfold fBaseE at q
    split at q
    · obtain ⟨x, dx, b, c', l, rfl, h1, h2, _⟩ := rul_fields ra
      exact ⟨x, R, dx, _, _, rfl, h1, Z.cl, Z.nb, ruF_b b c' l, c _ _ _ _ f1 p1 h2 q⟩
    · exact q.elim) q⟩
theorem de_changesF {mg : Str → Option Value} (Z : RuC X.K mg R) (he : DE X ((Wr R L).at p) e ta da) (hb : attributeBase e "_changes" X.env (eval e X.env) = eval e X.env := by rfl) : DE X ((Wr R L).at p) (.Attribute e "_changes" pos) (tFld X.K ta "_changes") (dP fChangesE da) :=
  ⟨pe_fld he.pe hb, fun B Φ M σ H δ n Q K ok c q => he.tr B Φ M σ H δ n _ _ ok (fun x m v H1 f1 p1 ra q => by
    unfold fChangesE at q
    split at q
    · obtain ⟨x, dx, b, c', l, rfl, h1, _, h2⟩ := rul_fields ra
      exact ⟨x, R, dx, _, _, rfl, h1, Z.cl, Z.nc, ruF_c b c' l, c _ _ _ _ f1 p1 h2 q⟩
    · exact q.elim) q⟩
/-- cls(..) -/
theorem de_makeV {i : Addr} {fe : Expr} {tf : TE} {df : TD} {K0 : PySem.W.Frag} (hf : DE X ((Wr R L).at p) fe tf df) (M : Mk X.K R i) (F : FnOk X.prog X.w X.K X.mg X.base CX0 k i fd ps (spRuI R L K0)) (hr : Room (k + 1) X.A) (hb : Binds X.K fd ps []) (ha : DA X ((Wr R L).at p) (e :: es) tA dA)
    (ht : eval (.Call fe (e :: es) [] pos) X.env = (do callWith pos (← eval fe X.env) [] (backTo pos (starEach (e :: es) X.env)) (backToKw pos (keywordEach [] X.env))) := by rfl)
    (he : starEach (e :: es) X.env = (false, eval e X.env) :: starEach es X.env := by rfl) (hpl : (backTo pos (starEach es X.env)).any (·.1) = false := by rfl) : DE X ((Wr R L).at p) (.Call fe (e :: es) [] pos) (tMakeV R (spRuI R L K0) [] E0 tf tA) (dMakeV fRule df dA) :=
  ⟨pe_makeV hf.pe M F hr hb .nil pass0 ha.pa ht he hpl, fun B Φ M σ H δ n Q K ok c q => hf.tr B Φ M σ H δ n _ _ ok (fun x m v H1 f1 p1 ra ⟨hc, q⟩ => by
    unfold DV.isC at hc
    split at hc
    · have e : v = .ref R := by
        cases ra with
        | obj h => rw [show _ = R from h]
      exact ⟨e, trE_rule ha.tr B Φ M σ H1 δ m Q K (ok.expr f1 p1) (fun r j v H' f2 p2 r2 k => c _ _ _ _ (f1.trans f2) p2 r2 k) q⟩
    · cases hc) q⟩
/-- Rule.delay(..) and the like -/
theorem de_cmeth {g p1 : Addr} {mc : Value} {m : Str} {apos p2 : Pos} {pl0 : Sem Bool} (hm : X.mg "Rule" = some (.ref R)) (r : ClX.CRead X.K R mc) (c : ClX.CMet X.K R mc m p1 g) (F : FnOk X.prog X.w X.K X.mg X.base CX0 k g fd ps sp) (hb : Binds X.K fd ps []) (rd : RdFn ((Wr R L).at p) sp f) (hr : Room k X.A) (ha : DA X ((Wr R L).at p) (e :: es) tA dA)
    (hg : Gl X "Rule" := by rfl) (hst : starEach (e :: es) X.env = (false, eval e X.env) :: starEach es X.env := by rfl) (hpl : (backTo pos (starEach es X.env)).any (·.1) = false := by rfl)
    (ht : eval (.Call (.Attribute (.Name "Rule" p2) m apos) (e :: es) [] pos) X.env = (do
      let ov ← eval (.Name "Rule" p2) X.env
      standAt apos.atName
      let (f, first) ← holding [ov] (getMethod ov m pl0)
      callWith pos f first (backTo pos (starEach (e :: es) X.env)) (backToKw pos (keywordEach [] X.env))) := by rfl) :
    DE X ((Wr R L).at p) (.Call (.Attribute (.Name "Rule" p2) m apos) (e :: es) [] pos) (ClX.tCMeth R (fun vs H Q E => sp (vs ++ []) H Q E) E0 (tC (.ref R)) tA) (dCMeth f dA) :=
  ⟨ClX.pe_cmeth (pe_glob hg hm rfl) r c (F.raw hb .nil) hr pass0 ha.pa hst hpl ht, fun B Φ M σ H δ n Q K ok c q => ⟨rfl, ha.tr B Φ M σ H δ n _ _ ok (fun ds m vs H1 f1 p1 ra q => by
    have ok1 := ok.expr f1 p1
    exact rd_nil rd M H1 _ _ m Q E0 K ok1.dom ok1.poolM (.cons (.obj (o := .cls) rfl) ra) (fun r j v H' f2 p2 r2 k => c _ _ _ _ (f1.trans f2) p2 r2 k) q) q⟩⟩
end

/-! ### comprehensions with two sources, sorted sets -/
theorem walk_W {J : It} {n : Nat} {G : Hp → Prop} {Y : Nat → Hp → V → Hp → Prop} {body : (Hp → Prop) → V → Hp → Prop} {H0 : Hp} {Qd : Hp → Prop} (w : Walk J n G Y) (Pv : Nat → Hp → Prop) (h0 : Pv 0 H0) (hG : ∀ i H, i ≤ n → Pv i H → G H)
    (hs : ∀ i x H H', i < n → Pv i H → Y i H x H' → body (Pv (i + 1)) x H') (hd : ∀ H, Pv n H → Qd H) :
    ∃ W : Nat → Nat → Hp → Prop, (∃ m, W 0 m H0) ∧ ∀ i m H, W i m H → (J.stop i H ∧ Qd H) ∨ (J.go i H ∧ ∃ Nx : Hp → Prop, (∀ H', Nx H' → ∃ m', m' < m ∧ W (i + 1) m' H') ∧ ∀ x H', J.yld i H x H' → body Nx x H') := by
  refine ⟨fun i m H => m = n - i ∧ i ≤ n ∧ Pv i H, ⟨n, by simp, Nat.zero_le _, h0⟩, ?_⟩
  rintro i m H ⟨rfl, hi, p⟩
  have q := hG i H hi p
  by_cases hlt : i < n
  · exact .inr ⟨w.goes i H hlt q, Pv (i + 1), fun H' p' => ⟨n - (i + 1), by omega, rfl, hlt, p'⟩, fun x H' y => hs i x H H' hlt p (w.yields i H x H' hlt q y)⟩
  · have e : i = n := by omega
    subst e
    exact .inl ⟨w.stops H q, hd H p⟩
section
variable {W : Wo} {B M : Addr → Prop} {Φ : WPhi} {σ : L2.St} {H : Hp} {δ : En} {n : Nat}
/-- a new list that no slot holds, among those that others write -/
theorem Ok.growB (k : Ok W B Φ M σ H δ n) {q : Addr} {us : List V} (nq : H q = none) : Ok W (fun a => B a ∨ a = q) (fun _ _ => True) (fun a => M a ∨ a = q) σ (upd H q (.lst us)) δ n := by
  have sub : ∀ a, (M a ∨ a = q) → M a ∨ H a = none := fun a h => h.imp id fun e => by rw [e]; exact nq
  have f : FrS M H (upd H q (.lst us)) := FrS.refl.upd (.inl nq)
  have old : ∀ {v d}, Rep W M H v d → Rep W (fun a => M a ∨ a = q) (upd H q (.lst us)) v d := fun h => (h.sub sub).mono (FrS.refl.upd (.inl nq))
  have nM : ¬ M q := fun z => (k.dom q z).ne nq
  refine ⟨k.len, fun i d e => ?_, fun i ds e => ?_, k.apart, fun a h => h.imp (k.base a) id, fun a h => ?_, fun p e => ⟨.inl (k.pool p e).1, ?_⟩, trivial, fun _ _ _ _ _ _ => trivial⟩
  · obtain ⟨v, e1, r⟩ := k.dat i d e
    exact ⟨v, e1, old r⟩
  · obtain ⟨t, ws, e1, h1, h2, h3, h4⟩ := k.own i ds e
    have tq : t ≠ q := fun z => nM (by rw [← z]; exact h1)
    exact ⟨t, ws, e1, .inl h1, fun z => z.elim h2 tq, by rw [upd_ne tq]; exact h3, h4.1, fun j v d e1 e2 => old (h4.2 j v d e1 e2)⟩
  · by_cases z : a = q
    · rw [z]
      exact ⟨_, upd_same⟩
    · obtain ⟨ws, e2⟩ := k.dom a (h.resolve_right z)
      exact ⟨ws, by rw [upd_ne z]; exact e2⟩
  · exact (k.pool p e).2.new nq
/-- .. is written -/
theorem Ok.putB (k : Ok W B (fun _ _ => True) M σ H δ n) {q : Addr} {us : List V} (hq : B q) (hp : W.p ≠ some q) : Ok W B (fun _ _ => True) M σ (upd H q (.lst us)) δ n := by
  have hM := k.base q hq
  have f : FrS M H (upd H q (.lst us)) := FrS.refl.upd (.inr hM)
  refine ⟨k.len, fun i d e => ?_, fun i ds e => ?_, k.apart, k.base, fun a h => ?_, fun p e => ⟨(k.pool p e).1, ?_⟩, trivial, fun _ _ _ _ _ _ => trivial⟩
  · obtain ⟨v, e1, r⟩ := k.dat i d e
    exact ⟨v, e1, r.mono f⟩
  · obtain ⟨t, ws, e1, h1, h2, h3, h4⟩ := k.own i ds e
    have tq : t ≠ q := fun z => h2 (by rw [z]; exact hq)
    exact ⟨t, ws, e1, h1, h2, by rw [upd_ne tq]; exact h3, h4.mono f⟩
  · by_cases z : a = q
    · rw [z]
      exact ⟨_, upd_same⟩
    · obtain ⟨ws, e2⟩ := k.dom a h
      exact ⟨ws, by rw [upd_ne z]; exact e2⟩
  · exact (k.pool p e).2.upd_ne fun z => hp (by rw [← z]; exact e)
end
def dLc2 (it : TDI) (g : TDG) (c : TDT) (it1 : TDI) (g1 : TDG) (c1 : TDT) (e : TD) (vs vs1 : List Nat) : TDA := fun δ n K => it δ n fun N f m => ∃ I : Nat → List DV → Nat → Prop, I 0 [] m ∧
  (∀ i acc m', i < N → I i acc m' → g (f i) (dwipe δ vs) fun δ2 => c δ2 m' fun b m2 => (b = true → it1 δ2 m2 fun N1 f1 m3 => ∃ I1 : Nat → List DV → Nat → Prop, I1 0 acc m3 ∧
    (∀ j acc1 m4, j < N1 → I1 j acc1 m4 → g1 (f1 j) (dwipe δ2 vs1) fun δ3 => c1 δ3 m4 fun b1 m5 => (b1 = true → e δ3 m5 fun y m6 => acc1.length < 100000 ∧ I1 (j + 1) (acc1 ++ [y]) m6) ∧ (b1 = false → I1 (j + 1) acc1 m5)) ∧ ∀ acc1 m4, I1 N1 acc1 m4 → I (i + 1) acc1 m4) ∧
    (b = false → I (i + 1) acc m2)) ∧ ∀ acc m', I N acc m' → K acc m'
section
variable {X : Cx} {W : Wo} {vs vs1 : List Nat} {t : TE} {d : TD} {dA : TDA} {g g1 : TG} {dg dg1 : TDG} {pos : Pos}
theorem trF_lc2 {wi wi1 : TI} {it it1 : TDI} {tt tt1 : TT} {dt dt1 : TDT} {te : TE} {de : TD} (hi : TrI W wi it) (hg : TrG W vs g dg) (ht : TrT W tt dt) (hi1 : TrI W wi1 it1) (hg1 : TrG W vs1 g1 dg1) (ht1 : TrT W tt1 dt1) (he : TrE W te de) :
    TrF W (tLc2 wi g tt wi1 g1 tt1 te vs vs1) (dLc2 it dg dt it1 dg1 dt1 de vs vs1) := fun B Φ M σ H δ n Q K ok c q => by
  refine hi B Φ M σ H δ n _ _ ok (fun N f m J H1 G Y f1 p1 w ⟨I, i0, is, id⟩ D nD => ?_) q
  have ok1 := (ok.expr f1 p1).wipe vs
  have nM : ¬ M D := fun z => (ok1.dom D z).ne nD
  have nB : ¬ B D := fun z => nM (ok.base D z)
  have nP : W.p ≠ some D := fun z => nB (ok.pool D z).1
  have sub2 : ∀ a, (M a ∨ a = D) → M a ∨ H1 a = none := fun a z => z.imp (fun h => h) fun e => by rw [e]; exact nD
  have Dk : ∀ {Ha Hb : Hp} {o : HO}, FrS (pl W) Ha Hb → Ha D = some o → Hb D = some o := fun f e => f _ _ e nP
  refine walk_W w.wk (fun i H => ∃ m accv acc, Ok W (fun a => B a ∨ a = D) (fun _ _ => True) (fun a => M a ∨ a = D) (L2.wipe σ vs) H (dwipe δ vs) m ∧ FrS (pl W) H1 H ∧ H D = some (.lst accv) ∧ RepA W (fun a => M a ∨ a = D) H accv acc ∧ I i acc m) ?_ ?_ ?_ ?_
  · exact ⟨m, [], [], ok1.growB nD, FrS.refl.upd (.inl nD), upd_same, .nil, i0⟩
  · rintro i H hi ⟨m', accv, acc, ok', fr, _⟩
    exact w.gd _ H (ok.frM fr) (fun a (z : M a) => .inl z)
  · rintro i x H H' hi ⟨m', accv, acc, ok', fr, hD, ra, inv⟩ y
    obtain ⟨s, r⟩ := w.yd (fun a => M a ∨ a = D) i H x H' hi (ok.frM fr) sub2 ok'.dom y
    have ok2 := ok'.expr (.of s) (pl_same ok'.plOf s)
    have frH : FrS (pl W) H H' := .of s
    refine hg (fun a => B a ∨ a = D) _ _ _ H' _ m' x (f i) _ _ ok2 r (fun σ2 δ2 ok3 ew k => ⟨ew.trans (wipe_idem σ vs), ?_⟩) (is i acc m' hi inv)
    refine ht (fun a => B a ∨ a = D) _ _ σ2 H' δ2 m' _ _ ok3 (fun b m2 H3 f3 p3 q => ite_split (fun z => ?_) (fun z => ?_)) k
    · -- the second source
      have ok4 := ok3.expr f3 p3
      refine hi1 (fun a => B a ∨ a = D) _ _ σ2 H3 δ2 m2 _ _ ok4 (fun N1 f1' m3 J1 H4 G1 Y1 f4 p4 w1 ⟨I1, i10, i1s, i1d⟩ => ?_) (q.1 z)
      have f34 := (frH.trans f3).trans f4
      have okH := (ok2.expr f3 p3).expr f4 p4
      have ok5 := (ok4.expr f4 p4).wipe vs1
      have toM : ∀ {Ha Hb : Hp}, FrS (fun a => pl W a ∨ a = D) Ha Hb → FrS (fun a => M a ∨ a = D) Ha Hb := fun fr => fr.mono fun b hb => hb.elim (fun h => .inl (ok.plM b h)) .inr
      refine walk_W w1.wk (fun j H => ∃ m accv acc, Ok W (fun a => B a ∨ a = D) (fun _ _ => True) (fun a => M a ∨ a = D) (L2.wipe σ2 vs1) H (dwipe δ2 vs1) m ∧ Ok W (fun a => B a ∨ a = D) (fun _ _ => True) (fun a => M a ∨ a = D) (L2.wipe σ vs) H (dwipe δ vs) m ∧ FrS (fun a => pl W a ∨ a = D) H4 H ∧ H D = some (.lst accv) ∧ RepA W (fun a => M a ∨ a = D) H accv acc ∧ I1 j acc m) ?_ ?_ ?_ ?_
      · exact ⟨m3, accv, acc, ok5, okH, .refl, Dk f34 hD, ra.mono (ok'.frM f34), i10⟩
      · rintro j H5 hj ⟨m5, accv5, acc5, ok5', _, fr5, _⟩
        exact w1.gd _ H5 (toM fr5) (fun a (z : M a ∨ a = D) => .inl z)
      · rintro j x1 H5 H5' hj ⟨m5, accv5, acc5, ok6, okO, fr5, hD5, ra5, inv5⟩ y1
        obtain ⟨s1, r1⟩ := w1.yd (fun a => M a ∨ a = D) j H5 x1 H5' hj (toM fr5) (fun a z => .inl z) ok6.dom y1
        have ok7 := ok6.expr (.of s1) (pl_same ok6.plOf s1)
        have frS5 : FrS (pl W) H5 H5' := .of s1
        refine hg1 (fun a => B a ∨ a = D) _ _ _ H5' _ m5 x1 (f1' j) _ _ ok7 r1 (fun σ3 δ3 ok8 ew1 k1 => ⟨ew1.trans (wipe_idem σ2 vs1), ?_⟩) (i1s j acc5 m5 hj inv5)
        refine ht1 (fun a => B a ∨ a = D) _ _ σ3 H5' δ3 m5 _ _ ok8 (fun b1 m6 H6 f6 p6 q6 => ite_split (fun z1 => ?_) (fun z1 => ?_)) k1
        · refine he (fun a => B a ∨ a = D) _ _ σ3 H6 δ3 m6 _ _ (ok8.expr f6 p6) (fun y2 m7 v H7 f7 p7 ry q7 => ?_) (q6.1 z1)
          have f57 := (frS5.trans f6).trans f7
          have oka := (ok7.expr f6 p6).expr f7 p7
          have okb := (((okO.expr (.of s1) (pl_same okO.plOf s1)).expr f6 p6).expr f7 p7)
          refine ⟨accv5, Dk f57 hD5, by rw [ra5.1]; exact lt_size2 q7.1, m7, accv5 ++ [v], acc5 ++ [y2], oka.putB (.inr rfl) nP, okb.putB (.inr rfl) nP, (fr5.trans (f57.mono fun b hb => .inl hb)).upd (.inr (.inr rfl)), upd_same, ?_, q7.2⟩
          exact ((ra5.mono (ok6.frM f57)).append (.cons ry .nil)).mono (FrS.refl.upd (.inr (.inr rfl)))
        · have f56 := frS5.trans f6
          exact ⟨m6, accv5, acc5, ok7.expr f6 p6, (okO.expr (.of s1) (pl_same okO.plOf s1)).expr f6 p6, fr5.trans (f56.mono fun b hb => .inl hb), Dk f56 hD5, ra5.mono (ok6.frM f56), q6.2 z1⟩
      · rintro H5 ⟨m5, accv5, acc5, ok6, okO, fr5, hD5, ra5, inv5⟩
        refine ⟨m5, accv5, acc5, okO, fun b o e nb => ?_, hD5, ra5, i1d _ _ inv5⟩
        have bD : b ≠ D := fun z => by rw [z, nD] at e; cases e
        exact fr5 b o ((fr.trans f34) b o e nb) fun z => z.elim nb bD
    · have f23 := frH.trans f3
      exact ⟨m2, accv, acc, ok2.expr f3 p3, fr.trans f23, Dk f23 hD, ra.mono (ok'.frM f23), q.2 z⟩
  · rintro H ⟨m', accv, acc, ok', fr, hD, ra, inv⟩
    exact c _ _ _ _ _ (f1.trans fr) ok'.plOf (none_fr f1 p1 nD) hD ra (id _ _ inv)
variable {elt tg iter tg1 iter1 : Expr} {ifs ifs1 : List Expr} {scope : Scope} {own : List (Str × Nat)} {wi wi1 : TI} {it it1 : TDI} {tt tt1 : TT} {dt dt1 : TDT} {te : TE} {de : TD}
theorem df_lc2 (hc : X.calm = true) (hN : X.N.Nodup) (hi : DI X W tg iter wi it) (ok : BlkOk X.N X.env.scope scope own) (hv : ∀ i ∈ vs1, i ∈ own.map (·.2))
    (hg : ∀ (s : Shared) (H : Hp) (C : Addr) (cl : List (Str × Addr)) (fp : List Addr), DG (X.blk s H scope (compEnvC scope cl C X.env) fp) W (own.map (·.2)) tg g dg) (ht : ∀ (s : Shared) (H : Hp) (C : Addr) (cl : List (Str × Addr)) (fp : List Addr), DTs (X.blk s H scope (compEnvC scope cl C X.env) fp) W ifs tt dt)
    (hi1 : ∀ (s : Shared) (H : Hp) (C : Addr) (cl : List (Str × Addr)) (fp : List Addr), DI (X.blk s H scope (compEnvC scope cl C X.env) fp) W tg1 iter1 wi1 it1)
    (hg1 : ∀ (s : Shared) (H : Hp) (C : Addr) (cl : List (Str × Addr)) (fp : List Addr), DG (X.blk s H scope (compEnvC scope cl C X.env) fp) W vs1 tg1 g1 dg1) (ht1 : ∀ (s : Shared) (H : Hp) (C : Addr) (cl : List (Str × Addr)) (fp : List Addr), DTs (X.blk s H scope (compEnvC scope cl C X.env) fp) W ifs1 tt1 dt1)
    (he : ∀ (s : Shared) (H : Hp) (C : Addr) (cl : List (Str × Addr)) (fp : List Addr), DE (X.blk s H scope (compEnvC scope cl C X.env) fp) W elt te de) (hs : ∀ x, foldedSetIterable iter X.env x = pure x := by intro _; rfl) (hs1 : ∀ env x, foldedSetIterable iter1 env x = pure x := by intro _ _; rfl) :
    DF X W (.ListComp elt [⟨tg, iter, ifs, 0⟩, ⟨tg1, iter1, ifs1, 0⟩] scope pos) (tLc2 wi g tt wi1 g1 tt1 te (own.map (·.2)) vs1) (dLc2 it dg dt it1 dg1 dt1 de (own.map (·.2)) vs1) :=
  ⟨pe_lc2 hc hN hi.pi ok hv (fun s H C cl fp => (hg s H C cl fp).pg) (fun s H C cl fp => (ht s H C cl fp).pts) (fun s H C cl fp => (hi1 s H C cl fp).pi) (fun s H C cl fp => (hg1 s H C cl fp).pg) (fun s H C cl fp => (ht1 s H C cl fp).pts) (fun s H C cl fp => (he s H C cl fp).pe) hs hs1,
    trF_lc2 hi.tr (hg X.s_0 X.H_0 0 [] []).tr (ht X.s_0 X.H_0 0 [] []).tr (hi1 X.s_0 X.H_0 0 [] []).tr (hg1 X.s_0 X.H_0 0 [] []).tr (ht1 X.s_0 X.H_0 0 [] []).tr (he X.s_0 X.H_0 0 [] []).tr⟩
theorem ds_setLc2 {i : Nat} {y : Str} {py : Pos} {spos : Pos} (hc : X.calm = true) (hN : X.N.Nodup) (hy : X.N[i]? = some y) (hyl : X.env.scope.names.lookup y = some .local)
    (hsw : swapsWith (.ListComp elt [⟨tg, iter, ifs, 0⟩, ⟨tg1, iter1, ifs1, 0⟩] scope pos) (some (.Name y py)) spos.line X.env = pure true) (hi : DI X W tg iter wi it) (ok : BlkOk X.N X.env.scope scope own) (hv : ∀ i ∈ vs1, i ∈ own.map (·.2))
    (hg : ∀ (s : Shared) (H : Hp) (C : Addr) (cl : List (Str × Addr)) (fp : List Addr), DG (X.blk s H scope (compEnvC scope cl C X.env) fp) W (own.map (·.2)) tg g dg) (ht : ∀ (s : Shared) (H : Hp) (C : Addr) (cl : List (Str × Addr)) (fp : List Addr), DTs (X.blk s H scope (compEnvC scope cl C X.env) fp) W ifs tt dt)
    (hi1 : ∀ (s : Shared) (H : Hp) (C : Addr) (cl : List (Str × Addr)) (fp : List Addr), DI (X.blk s H scope (compEnvC scope cl C X.env) fp) W tg1 iter1 wi1 it1)
    (hg1 : ∀ (s : Shared) (H : Hp) (C : Addr) (cl : List (Str × Addr)) (fp : List Addr), DG (X.blk s H scope (compEnvC scope cl C X.env) fp) W vs1 tg1 g1 dg1) (ht1 : ∀ (s : Shared) (H : Hp) (C : Addr) (cl : List (Str × Addr)) (fp : List Addr), DTs (X.blk s H scope (compEnvC scope cl C X.env) fp) W ifs1 tt1 dt1)
    (he : ∀ (s : Shared) (H : Hp) (C : Addr) (cl : List (Str × Addr)) (fp : List Addr), DE (X.blk s H scope (compEnvC scope cl C X.env) fp) W elt te de) (hs : ∀ x, foldedSetIterable iter X.env x = pure x := by intro _; rfl) (hs1 : ∀ env x, foldedSetIterable iter1 env x = pure x := by intro _ _; rfl) :
    DS X W (.Assign [.Name y py] (.ListComp elt [⟨tg, iter, ifs, 0⟩, ⟨tg1, iter1, ifs1, 0⟩] scope pos) spos) (tAsg (tLc2 wi g tt wi1 g1 tt1 te (own.map (·.2)) vs1) (gName i)) (dSet i (dFE (dLc2 it dg dt it1 dg1 dt1 de (own.map (·.2)) vs1))) :=
  ⟨ps_setLc2 hc hN hy hyl hsw hi.pi ok hv (fun s H C cl fp => (hg s H C cl fp).pg) (fun s H C cl fp => (ht s H C cl fp).pts) (fun s H C cl fp => (hi1 s H C cl fp).pi) (fun s H C cl fp => (hg1 s H C cl fp).pg) (fun s H C cl fp => (ht1 s H C cl fp).pts) (fun s H C cl fp => (he s H C cl fp).pe) hs hs1,
    trS_set i (trF_E (trF_lc2 hi.tr (hg X.s_0 X.H_0 0 [] []).tr (ht X.s_0 X.H_0 0 [] []).tr (hi1 X.s_0 X.H_0 0 [] []).tr (hg1 X.s_0 X.H_0 0 [] []).tr (ht1 X.s_0 X.H_0 0 [] []).tr (he X.s_0 X.H_0 0 [] []).tr))⟩
/-! sorted(set(xs)) -/
def dSS (a : TDA) : TDA := fun δ n K => a δ n fun ds m => DV.intsOf ds fun xs => xs.length ≤ 4000 ∧ ∀ ys : List Int, ys.Pairwise (· < ·) → (∀ k, k ∈ ys ↔ k ∈ xs) → ys.length ≤ xs.length → K (ys.map DV.int) m
end

/-! ### for x in zip(a, b): its tuple stays with the name, so the zip finds it still out, or gone -/
abbrev ZipG (h : Heap) (z TI TO : Addr) (f0 : Value) (f : Bool) : Prop :=
  h.get? z = some { cls := .type "zip", dict := none, data := .fields #[f0, .bool f, .bool false, .ref TI, .ref TO], slots := #[] }
section
variable {prog : Program} {w : World} {A : Around} {E : Value → Shared → Prop} {s : Shared}
/-- its own tuple is free: none is out, or the one that was is gone -/
theorem zip_free {z TI TO : Addr} {f0 : Value} {f : Bool} {Q : Bool → Shared → Prop} (hz : ZipG s.heap z TI TO f0 f) (h0 : f0 = .none ∨ ∃ T : Addr, f0 = rawInt T ∧ s.heap.get? T = none) (h : Q true s) : wpAny (model prog w) A (Builtin.SmallTypes.ownedTupleIsFree (.ref z)) Q E s := by
  unfold Builtin.SmallTypes.ownedTupleIsFree
  rcases h0 with rfl | ⟨T, rfl, hT⟩
  · exact wpAny_bind (wpAny_field hz rfl (x := .none) rfl (wpAny_pure h))
  · refine wpAny_bind (wpAny_field hz rfl (x := rawInt T) rfl ?_)
    show wpAny _ _ (loadIfAlive ((T : Int).toNat) >>= _) _ _ _
    rw [Int.toNat_natCast]
    refine wpAny_bind ?_
    have k : wpAny (model prog w) A (if (s.heap.get? T).isNone = true then pure true else (do
        if (← field (.ref z) 1) != .bool true then setField (.ref z) 1 (.bool true)
        return false)) Q E s := by
      rw [hT]
      exact wpAny_pure h
    exact fun _ _ _ => k
theorem zipG_item {z TI TO i1 i2 l1 l2 : Addr} {f0 : Value} {f : Bool} {k1 k2 : Nat} {xs ys : Array Value} {x y a b : Value} {Q : Value → Shared → Prop} (D : ZipApart z TI TO i1 i2 l1 l2)
    (hz : ZipG s.heap z TI TO f0 f) (h0 : f0 = .none ∨ ∃ T : Addr, f0 = rawInt T ∧ s.heap.get? T = none) (hTI : IsPair s.heap TI (.ref i1) (.ref i2)) (hTO : IsPair s.heap TO a b)
    (h1 : s.heap.IsListIter i1 l1 k1) (h2 : s.heap.IsListIter i2 l2 k2) (hl1 : s.heap.IsList l1 xs) (hl2 : s.heap.IsList l2 ys) (hx : xs[k1]? = some x) (hy : ys[k2]? = some y)
    (hQ : ∀ h', ZipG h' z TI TO (rawInt s.heap.objs.size) false → IsPair h' TO x y → h'.IsListIter i1 l1 (k1 + 1) → h'.IsListIter i2 l2 (k2 + 1) → IsPair h' s.heap.objs.size x y → h'.objs.size = s.heap.objs.size + 1 →
      (∀ c o, c ≠ z → c ≠ TO → c ≠ i1 → c ≠ i2 → s.heap.get? c = some o → h'.get? c = some o) → Q (.ref s.heap.objs.size) { s with heap := h' }) :
    wpAny (model prog w) A (Builtin.«zip.__next__» ⟨[.ref z], []⟩) (fun fin s' => ∃ v, fin = .done (.ret v) ∧ Q v s') E s := by
  show wpAny _ _ (field (.ref z) 2 >>= _) _ _ _
  refine wpAny_bind (wpAny_field hz rfl (x := .bool false) rfl ?_)
  show wpAny _ _ (field (.ref z) 3 >>= _) _ _ _
  refine wpAny_bind (wpAny_field hz rfl (x := .ref TI) rfl ?_)
  refine wpAny_bind (wpAny_seqItems hTI rfl ?_)
  show wpAny _ _ (Builtin.SmallTypes.ownedTupleIsFree (.ref z) >>= _) _ _ _
  refine wpAny_bind (zip_free hz h0 ?_)
  simp only [if_true]
  refine wpAny_bind (wpAny_rule ?_)
  refine wpAny_bind (wpAny_field hz rfl (x := .ref TO) rfl ?_)
  refine wpAny_bind (wpAny_setField_rec hz (by simp) fun g1 hz1 s1 => ?_)
  replace hz1 : ZipG g1 z TI TO .ellipsis f := hz1
  refine wpAny_bind ?_
  simp only [List.zipIdx_cons, List.zipIdx_nil, List.forIn_cons, List.forIn_nil]
  refine wpAny_bind (wpAny_bind (wpAny_onRaise ?_))
  show wpAny _ _ (Builtin.SmallTypes.nextOf (.ref i1) >>= _) _ _ _
  refine wpAny_bind (wpAny_nextOf_list_item (h1.extBut s1.extBut D.i1z) (hl1.extBut s1.extBut D.l1z) hx fun g2 j1 s2 => wpAny_pure ?_)
  have o2 : IsPair g2 TO a b := s2.extBut _ _ D.TOi1 (s1.extBut _ _ D.TOz hTO)
  refine wpAny_bind (wpAny_seqItems o2 rfl ?_)
  refine wpAny_bind (wpAny_updateSeq_pair o2 fun g3 o3 s3 => ?_)
  replace o3 : IsPair g3 TO x b := o3
  refine wpAny_bind (wpAny_letGo (wpAny_pure ?_))
  refine wpAny_bind (wpAny_bind (wpAny_onRaise ?_))
  show wpAny _ _ (Builtin.SmallTypes.nextOf (.ref i2) >>= _) _ _ _
  refine wpAny_bind (wpAny_nextOf_list_item (((h2.extBut s1.extBut D.i2z).extBut s2.extBut D.i12.symm).extBut s3.extBut D.TOi2.symm) (((hl2.extBut s1.extBut D.l2z).extBut s2.extBut D.l2i1).extBut s3.extBut D.l2TO) hy fun g4 j2 s4 => wpAny_pure ?_)
  have o4 : IsPair g4 TO x b := s4.extBut _ _ D.TOi2 o3
  refine wpAny_bind (wpAny_seqItems o4 rfl ?_)
  refine wpAny_bind (wpAny_updateSeq_pair o4 fun g5 o5 s5 => ?_)
  replace o5 : IsPair g5 TO x y := o5
  refine wpAny_bind (wpAny_letGo (wpAny_pure (wpAny_pure ?_)))
  refine wpAny_bind (wpAny_seqItems o5 rfl ?_)
  refine wpAny_bind (wpAny_newTuple ?_)
  have sz : g5.objs.size = s.heap.objs.size := by rw [s5.1, s4.1, s3.1, s2.1, s1.1]
  have z5 : ZipG g5 z TI TO .ellipsis f := s5.extBut _ _ D.TOz.symm (s4.extBut _ _ D.i2z.symm (s3.extBut _ _ D.TOz.symm (s2.extBut _ _ D.i1z.symm hz1)))
  have k5 : ∀ c o, c ≠ z → c ≠ TO → c ≠ i1 → c ≠ i2 → s.heap.get? c = some o → g5.get? c = some o := fun c o c1 c2 c3 c4 e => s5.extBut _ _ c2 (s4.extBut _ _ c4 (s3.extBut _ _ c2 (s2.extBut _ _ c3 (s1.extBut _ _ c1 e))))
  have j15 : g5.IsListIter i1 l1 (k1 + 1) := ((j1.extBut s3.extBut D.TOi1.symm).extBut s4.extBut D.i12).extBut s5.extBut D.TOi1.symm
  have j25 : g5.IsListIter i2 l2 (k2 + 1) := j2.extBut s5.extBut D.TOi2.symm
  have zlt : z < g5.objs.size := Heap.lt_size z5
  show wpAny _ _ (Builtin.SmallTypes.ownedTupleHandOut (.ref z) (.ref g5.objs.size) >>= _) _ _ _
  refine wpAny_bind ?_
  unfold Builtin.SmallTypes.ownedTupleHandOut
  have z6 : ZipG (g5.push { cls := .type "tuple", data := .seq #[x, y] }) z TI TO .ellipsis f := Heap.get?_push_of_some _ z5
  refine wpAny_bind (wpAny_setField_rec z6 (by simp) fun g7 z7 s7 => ?_)
  replace z7 : ZipG g7 z TI TO (rawInt g5.objs.size) f := z7
  refine wpAny_setField_rec z7 (by simp) fun g8 z8 s8 => ?_
  replace z8 : ZipG g8 z TI TO (rawInt g5.objs.size) false := z8
  have up : ∀ c o, c ≠ z → g5.get? c = some o → g8.get? c = some o := fun c o c1 e => s8.extBut _ _ c1 (s7.extBut _ _ c1 (Heap.get?_push_of_some _ e))
  have t8 : IsPair g8 g5.objs.size x y := s8.extBut _ _ (Nat.ne_of_gt zlt) (s7.extBut _ _ (Nat.ne_of_gt zlt) (Heap.get?_push_size _ rfl))
  have sz8 : g8.objs.size = g5.objs.size + 1 := by rw [s8.1, s7.1, Heap.size_push]
  rw [sz] at z8 t8 sz8
  refine wpAny_pure ⟨_, rfl, ?_⟩
  show Q (.ref g5.objs.size) _
  rw [sz]
  exact hQ g8 z8 (up _ _ D.TOz o5) (j15.at fun o e => up _ o D.i1z e) (j25.at fun o e => up _ o D.i2z e) t8 sz8 fun c o c1 c2 c3 c4 e => up c o c1 (k5 c o c1 c2 c3 c4 e)
theorem zipG_end {z TI TO i1 i2 l1 l2 : Addr} {f0 : Value} {f : Bool} {k1 k2 : Nat} {xs ys : Array Value} {a b : Value} {Q : Fin → Shared → Prop} (hh : A.handled = none) (D : ZipApart z TI TO i1 i2 l1 l2)
    (hz : ZipG s.heap z TI TO f0 f) (h0 : f0 = .none ∨ ∃ T : Addr, f0 = rawInt T ∧ s.heap.get? T = none) (hTI : IsPair s.heap TI (.ref i1) (.ref i2)) (hTO : IsPair s.heap TO a b)
    (h1 : s.heap.IsListIter i1 l1 k1) (h2 : s.heap.IsListIter i2 l2 k2) (hl1 : s.heap.IsList l1 xs) (hl2 : s.heap.IsList l2 ys) (hend : xs[k1]? = none)
    (hE : ∀ h' e, (∀ c o, c ≠ z → c ≠ i1 → s.heap.get? c = some o → h'.get? c = some o) → (∃ o, h'.get? e = some o ∧ o.cls = .type "StopIteration") → E (.ref e) { s with heap := h' }) :
    wpAny (model prog w) A (Builtin.«zip.__next__» ⟨[.ref z], []⟩) Q E s := by
  show wpAny _ _ (field (.ref z) 2 >>= _) _ _ _
  refine wpAny_bind (wpAny_field hz rfl (x := .bool false) rfl ?_)
  show wpAny _ _ (field (.ref z) 3 >>= _) _ _ _
  refine wpAny_bind (wpAny_field hz rfl (x := .ref TI) rfl ?_)
  refine wpAny_bind (wpAny_seqItems hTI rfl ?_)
  show wpAny _ _ (Builtin.SmallTypes.ownedTupleIsFree (.ref z) >>= _) _ _ _
  refine wpAny_bind (zip_free hz h0 ?_)
  simp only [if_true]
  refine wpAny_bind (wpAny_rule ?_)
  refine wpAny_bind (wpAny_field hz rfl (x := .ref TO) rfl ?_)
  refine wpAny_bind (wpAny_setField_rec hz (by simp) fun g1 hz1 s1 => ?_)
  replace hz1 : ZipG g1 z TI TO .ellipsis f := hz1
  refine wpAny_bind ?_
  simp only [List.zipIdx_cons, List.zipIdx_nil, List.forIn_cons, List.forIn_nil]
  refine wpAny_bind (wpAny_bind (wpAny_onRaise ?_))
  show wpAny _ _ (Builtin.SmallTypes.nextOf (.ref i1) >>= _) _ _ _
  refine wpAny_bind (wpAny_nextOf_list_end hh (h1.extBut s1.extBut D.i1z) (hl1.extBut s1.extBut D.l1z) hend fun g2 e s2 he => ?_)
  obtain ⟨oe, hoe, hce⟩ := he
  have z2 : ZipG g2 z TI TO .ellipsis f := s2 _ _ D.i1z.symm hz1
  have hez : e ≠ z := fun x => by subst x; rw [z2] at hoe; cases hoe; simp at hce
  exact wpAny_setField_rec z2 (by simp) fun g3 _ s3 => hE g3 e (fun c o c1 c3 x => s3.extBut _ _ c1 (s2 _ _ c3 (s1.extBut _ _ c1 x))) ⟨oe, s3.extBut _ _ hez hoe, hce⟩
end

section
variable {prog : Program} {w : World} {A : Around} {E : Value → Shared → Prop} {s : Shared}
theorem pyNext_zipG_item {z TI TO i1 i2 l1 l2 : Addr} {f0 : Value} {f : Bool} {k1 k2 : Nat} {xs ys : Array Value} {x y a b : Value} {Q : Option Value → Shared → Prop} (D : ZipApart z TI TO i1 i2 l1 l2)
    (hz : ZipG s.heap z TI TO f0 f) (h0 : f0 = .none ∨ ∃ T : Addr, f0 = rawInt T) (hTI : IsPair s.heap TI (.ref i1) (.ref i2)) (hTO : IsPair s.heap TO a b)
    (h1 : s.heap.IsListIter i1 l1 k1) (h2 : s.heap.IsListIter i2 l2 k2) (hl1 : s.heap.IsList l1 xs) (hl2 : s.heap.IsList l2 ys) (hx : xs[k1]? = some x) (hy : ys[k2]? = some y)
    (hQ : ∀ h' f1 f', ZipG h' z TI TO f1 f' → (∃ T : Addr, f1 = rawInt T) → (∃ a b, IsPair h' TO a b) → h'.IsListIter i1 l1 (k1 + 1) → h'.IsListIter i2 l2 (k2 + 1) → IsPair h' s.heap.objs.size x y →
      IsPair h' TI (.ref i1) (.ref i2) → (∀ c o, c ≠ z → c ≠ TO → c ≠ i1 → c ≠ i2 → s.heap.get? c = some o → h'.get? c = some o) → Q (some (.ref s.heap.objs.size)) { s with heap := h' }) :
    wpAny (model prog w) A (pyNext (.ref z)) Q E s := by
  have free : (f0 = .none ∨ ∃ T : Addr, f0 = rawInt T ∧ s.heap.get? T = none) → wpAny (model prog w) A (pyNext (.ref z)) Q E s := fun h0 => by
    have hT : s.TypeIs (.ref z) "zip" := ⟨_, hz, rfl⟩
    unfold pyNext
    exact wpAny_bind (wpAny_attempt (wpAny_callSpecial?_slot (name := Str.ofString "__next__") hT F.slot_zip_next
      (wpAny_call_entry F.slot_zip_next hT F.entry_zip_next
        (zipG_item D hz h0 hTI hTO h1 h2 hl1 hl2 hx hy fun h' a1 a2 a3 a4 a5 a6 a7 => wpAny_pure (hQ h' _ _ a1 ⟨_, rfl⟩ ⟨_, _, a2⟩ a3 a4 a5 (a7 _ _ D.TIz D.TITO D.TIi1 D.TIi2 hTI) a7)) (F.args_zip_next_1 _))))
  rcases h0 with h0 | ⟨T, rfl⟩
  · exact free (.inl h0)
  · cases e : s.heap.get? T with
    | none => exact free (.inr ⟨T, rfl, e⟩)
    | some oT => exact wpAny_pyNext_zip_item_held D hz e hTI h1 h2 hl1 hl2 hx hy fun h' a1 a3 a4 a5 a6 a7 => hQ h' _ _ a1 ⟨_, rfl⟩ ⟨_, _, a7 _ _ D.TOz D.TOi1 D.TOi2 hTO⟩ a3 a4 a5 (a7 _ _ D.TIz D.TIi1 D.TIi2 hTI) fun c o c1 _ c3 c4 => a7 c o c1 c3 c4
theorem pyNext_zipG_end {z TI TO i1 i2 l1 l2 : Addr} {f0 : Value} {f : Bool} {k1 k2 : Nat} {xs ys : Array Value} {a b : Value} {Q : Option Value → Shared → Prop} (hh : A.handled = none) (D : ZipApart z TI TO i1 i2 l1 l2)
    (hz : ZipG s.heap z TI TO f0 f) (h0 : f0 = .none ∨ ∃ T : Addr, f0 = rawInt T) (hTI : IsPair s.heap TI (.ref i1) (.ref i2)) (hTO : IsPair s.heap TO a b)
    (h1 : s.heap.IsListIter i1 l1 k1) (h2 : s.heap.IsListIter i2 l2 k2) (hl1 : s.heap.IsList l1 xs) (hl2 : s.heap.IsList l2 ys) (hend : xs[k1]? = none)
    (hQ : ∀ h', (∀ c o, c ≠ z → c ≠ i1 → c ≠ i2 → s.heap.get? c = some o → h'.get? c = some o) → Q none { s with heap := h' }) : wpAny (model prog w) A (pyNext (.ref z)) Q E s := by
  have free : (f0 = .none ∨ ∃ T : Addr, f0 = rawInt T ∧ s.heap.get? T = none) → wpAny (model prog w) A (pyNext (.ref z)) Q E s := fun h0 => by
    have hT : s.TypeIs (.ref z) "zip" := ⟨_, hz, rfl⟩
    unfold pyNext
    refine wpAny_bind (wpAny_attempt (wpAny_callSpecial?_slot (name := Str.ofString "__next__") hT F.slot_zip_next
      (wpAny_call_entry F.slot_zip_next hT F.entry_zip_next (zipG_end hh D hz h0 hTI hTO h1 h2 hl1 hl2 hend fun h' e hk he => ?_) (F.args_zip_next_1 _))))
    obtain ⟨o, ho, hc⟩ := he
    refine wpAny_bind (wpAny_isInstance (T := "StopIteration") (b := true) ⟨o, ho, hc⟩ isSubtype_stop ?_)
    exact wpAny_pure (hQ _ fun c o c1 c2 c3 => hk c o c1 c2)
  rcases h0 with h0 | ⟨T, rfl⟩
  · exact free (.inl h0)
  · cases e : s.heap.get? T with
    | none => exact free (.inr ⟨T, rfl, e⟩)
    | some oT => exact wpAny_pyNext_zip_end_held hh D hz e hTI h1 h2 hl1 hl2 (.inl hend) hQ
end
def ItzN (K : PySem.W.Frag) (a b : Addr) : It :=
  ⟨(Itz K a b).go, (Itz K a b).yld, fun i H => ∃ xs ys : List V, SqL K H a xs ∧ SqL K H b ys ∧ xs.length ≤ i⟩
theorem pyIter_zipG {prog : Program} {w : World} {A : Around} {E Q : Value → Shared → Prop} {s : Shared} {z TI TO : Addr} {f0 : Value} {f : Bool} (hz : ZipG s.heap z TI TO f0 f) (h : Q (.ref z) s) : wpAny (model prog w) A (pyIter (.ref z)) Q E s := by
  have hT : s.TypeIs (.ref z) "zip" := ⟨_, hz, rfl⟩
  refine wpAny_pyIter_slot hT F.slot_zip_iter (wpAny_call_entry F.slot_zip_iter hT F.entry_zip_iter ?_ (F.args_zip_iter_1 _))
  show wpAny _ _ (ret (.ref z)) _ _ s
  exact wpAny_pure ⟨_, rfl, "zip", _, hT, F.slot_zip_next.lookup, h⟩
theorem turn_zipN {P : Program} {w : World} {K : PySem.W.Frag} {x : Str} {tpos : Pos} {a b z TI TO i1 i2 : Addr} (D : ZipApart z TI TO i1 i2 a b) :
    Turn P w K (.Name x tpos) (ItzN K a b) [z, TI, TO, i1, i2] z (fun i h => (∃ f0 f, ZipG h z TI TO f0 f ∧ (f0 = .none ∨ ∃ T : Addr, f0 = rawInt T)) ∧ IsPair h TI (.ref i1) (.ref i2) ∧ (∃ x y, IsPair h TO x y) ∧ h.IsListIter i1 a i ∧ h.IsListIter i2 b i) where
  mem := by simp
  obj := fun i h st c hc => by
    obtain ⟨⟨f0, f, hz, _⟩, hTI, ⟨x, y, hTO⟩, ⟨o1, e1, _, d1⟩, ⟨o2, e2, _, d2⟩⟩ := st
    have e' : c = z ∨ c = TI ∨ c = TO ∨ c = i1 ∨ c = i2 := by simpa using hc
    rcases e' with q | q | q | q | q
    · rw [q]; exact ⟨_, hz, fun v q => nomatch q⟩
    · rw [q]; exact ⟨_, hTI, fun v q => nomatch q⟩
    · rw [q]; exact ⟨_, hTO, fun v q => nomatch q⟩
    · rw [q]; exact ⟨o1, e1, fun v q => by rw [d1] at q; cases q⟩
    · rw [q]; exact ⟨o2, e2, fun v q => by rw [d2] at q; cases q⟩
  keep := fun i h h' st k => by
    obtain ⟨⟨f0, f, hz, hf⟩, hTI, ⟨x, y, hTO⟩, h1, h2⟩ := st
    exact ⟨⟨f0, f, k z (by simp) _ hz, hf⟩, k TI (by simp) _ hTI, ⟨x, y, k TO (by simp) _ hTO⟩, h1.at fun o q => k i1 (by simp) o q, h2.at fun o q => k i2 (by simp) o q⟩
  item := by
    intro X hP hw hK hc i pins s σ H E I hf st hg
    subst hP hw hK
    obtain ⟨⟨f0, f, hz, h0⟩, hTI, ⟨x0, y0, hTO⟩, h1, h2⟩ := st
    obtain ⟨xs, ys, x, y, hqx, hqy, hx, hy⟩ := hg
    obtain ⟨its, rv, p, _⟩ := I.list hqx
    obtain ⟨its2, rv2, p2, _⟩ := I.list hqy
    obtain ⟨u, hu, ru⟩ := rv.get hx
    obtain ⟨u2, hu2, ru2⟩ := rv2.get hy
    have hzl : z < s.heap.objs.size := Heap.lt_size hz
    have hTOl : TO < s.heap.objs.size := Heap.lt_size hTO
    refine pyNext_zipG_item D hz h0 hTI hTO h1 h2 p.isList p2.isList (x := u) (y := u2) (by simpa using hu) (by simpa using hu2) fun h' f1 f' z' hf1 TO' h1' h2' hT hTI' hk => ?_
    refine ⟨_, rfl, wpAny_pure ?_⟩
    have new : ObjOk X.prog X.w (upd H s.heap.objs.size (.tup [x, y])) h' s.heap.objs.size (.tup [x, y]) :=
      ⟨by show 2 ≤ sizeLine; decide, [u, u2], .cons ru (.cons ru2 .nil), ⟨_, hT, rfl, _, rfl⟩⟩
    have I1 : Inv X pins σ (upd H s.heap.objs.size (.tup [x, y])) { s with heap := h' } :=
      I.turnedNew (t' := s.toks) (ch := [z, TI, TO, i1, i2]) (fun c o hb q => hk c o (fun q' => hb (by simp [q'])) (fun q' => hb (by simp [q'])) (fun q' => hb (by simp [q'])) (fun q' => hb (by simp [q'])) q) hf (Nat.le_refl _) new
    refine ⟨.ref s.heap.objs.size, _, I1, rfl, ⟨_, x, y, rfl, I.hok.fresh (Nat.le_refl _), rfl, fun l hl => by rw [I.list_inj hl hqx]; exact hx, fun l hl => by rw [I.list_inj hl hqy]; exact hy⟩, ⟨⟨f1, f', z', .inr hf1⟩, hTI', TO', h1', h2'⟩, fun c hcm => ?_⟩
    have hlt : c < s.heap.objs.size := by
      have e' : c = z ∨ c = TI ∨ c = TO ∨ c = i1 ∨ c = i2 := by simpa using hcm
      rcases e' with q | q | q | q | q
      · rw [q]; exact hzl
      · rw [q]; exact Heap.lt_size hTI
      · rw [q]; exact hTOl
      · rw [q]; obtain ⟨_, e1, _⟩ := h1; exact Heap.lt_size e1
      · rw [q]; obtain ⟨_, e2, _⟩ := h2; exact Heap.lt_size e2
    rw [upd_ne (Nat.ne_of_lt hlt)]
    exact (hf c hcm).1
  done := by
    intro X hP hw hK hc i pins s σ H E I hf st hg
    subst hP hw hK
    obtain ⟨⟨f0, f, hz, h0⟩, hTI, ⟨x0, y0, hTO⟩, h1, h2⟩ := st
    obtain ⟨xs, ys, hqx, hqy, hend⟩ := hg
    obtain ⟨its, rv, p, _⟩ := I.list hqx
    obtain ⟨its2, rv2, p2, _⟩ := I.list hqy
    have l1 := rv.length
    have he : its.toArray[i]? = none := by simp; omega
    exact pyNext_zipG_end (I.ok.hd hc) D hz h0 hTI hTO h1 h2 p.isList p2.isList he fun h' hk => ⟨rfl, I.turnedL (t' := s.toks) (ch := [z, TI, TO, i1, i2]) (fun c o hb q =>
      hk c o (fun q' => hb (by simp [q'])) (fun q' => hb (by simp [q'])) (fun q' => hb (by simp [q'])) q) hf⟩
  self := fun A i s Q E st h => by
    obtain ⟨⟨f0, f, hz, _⟩, _⟩ := st
    exact pyIter_zipG hz h
def iZipN (K : PySem.W.Frag) (ta : TA) : TI := fun σ H R => ta σ H fun vs H1 => ∃ a b xs ys, vs = [.ref a, .ref b] ∧ SqL K H1 a xs ∧ SqL K H1 b ys ∧ R (ItzN K a b) H1
theorem pi_zipN {X : Cx} {e e2 : Expr} {ta : TA} {p pos tpos : Pos} {x : Str} (hg : Gl X "zip") (hm : X.mg "zip" = none) (ha : PA X [e, e2] ta)
    (hs : starEach [e, e2] X.env = (false, eval e X.env) :: starEach [e2] X.env := by rfl) (hpl : (backTo pos (starEach [e2] X.env)).any (·.1) = false := by rfl) :
    PI X (.Name x tpos) (.Call (.Name "zip" p) [e, e2] [] pos) (iZipN X.K ta) := by
  refine ⟨fun pins s σ H R I h => ?_⟩
  refine Call_ (ld_blt I hg hm PyProof.Rows.boot_zip (PyProof.Rows.callWith_type1 (thn (ha.run pos pins s σ H _ I h) fun us s1 ⟨vs, H1, I1, r1, q1⟩ => ?_) hs hpl))
  obtain ⟨a, b, xs, ys, ex, hqx, hqy, q⟩ := q1
  subst ex
  obtain ⟨u, u2, rfl, r, r'⟩ := vals2 r1
  cases r
  cases r'
  obtain ⟨its, rv, p1, _⟩ := I1.list hqx
  obtain ⟨its2, rv2, p2, _⟩ := I1.list hqy
  have la : a < s1.heap.objs.size := p1.lt
  have lb : b < s1.heap.objs.size := p2.lt
  refine call_zip_2 p1.isList p2.isList fun h' hz hTI hTO h1 h2 hsz hk => wpAny_pyIter_zip hz ?_
  have I2 : Inv X pins σ H1 { s1 with heap := h' } := I1.kept (t' := s1.toks) hk
  refine ⟨s1.heap.objs.size + 4, [s1.heap.objs.size + 4, s1.heap.objs.size + 2, s1.heap.objs.size + 3, s1.heap.objs.size, s1.heap.objs.size + 1], _, _, H1, rfl, I2, turn_zipN (PySem.W.ktu_apart s1.heap.objs.size a b la lb), ⟨⟨_, _, hz, .inl rfl⟩, hTI, ⟨_, _, hTO⟩, h1, h2⟩, fun c hcm => ?_, q⟩
  have e' : c = s1.heap.objs.size + 4 ∨ c = s1.heap.objs.size + 2 ∨ c = s1.heap.objs.size + 3 ∨ c = s1.heap.objs.size ∨ c = s1.heap.objs.size + 1 := by simpa using hcm
  have hle : s1.heap.objs.size ≤ c := by
    rcases e' with z | z | z | z | z
    · rw [z]; exact Nat.le_add_right _ _
    · rw [z]; exact Nat.le_add_right _ _
    · rw [z]; exact Nat.le_add_right _ _
    · rw [z]; exact Nat.le_refl _
    · rw [z]; exact Nat.le_add_right _ _
  exact I1.fpOk hle (I1.hok.fresh hle)
def diZN (a : TDA) : TDI := fun δ n K => a δ n fun xs m => match xs with
  | [x, y] => x.asL fun ds => y.asL fun es => ds.length = es.length ∧ K ds.length (fun i => .tup [ds.getD i .non, es.getD i .non]) m
  | _ => False
theorem di_zipN {X : Cx} {W : Wo} {e e2 : Expr} {ta : TA} {da : TDA} {p pos tpos : Pos} {x : Str} (hg : Gl X "zip") (hm : X.mg "zip" = none) (ha : DA X W [e, e2] ta da)
    (hs : starEach [e, e2] X.env = (false, eval e X.env) :: starEach [e2] X.env := by rfl) (hpl : (backTo pos (starEach [e2] X.env)).any (·.1) = false := by rfl) :
    DI X W (.Name x tpos) (.Call (.Name "zip" p) [e, e2] [] pos) (iZipN X.K ta) (diZN da) :=
  ⟨pi_zipN hg hm ha.pa hs hpl, fun B Φ M σ H δ n R K ok c q => ha.tr B Φ M σ H δ n _ _ ok (fun r m v H' f p ra k => by
    match r, k with
    | [x, y], k =>
      obtain ⟨ds, rfl, k1⟩ := DV.asL_inv k
      obtain ⟨es, rfl, hl, k2⟩ := DV.asL_inv k1
      obtain ⟨u, us, rfl, r1, rs⟩ := ra.cons_inv
      obtain ⟨w, rfl, r2⟩ := rs.one_inv
      obtain ⟨a, vs, rfl, h1, h2, h3⟩ := r1.lst_inv
      obtain ⟨b, ws, rfl, g1, g2, g3⟩ := r2.lst_inv
      have wd := walkD_zip (K0 := X.K) h1 h2 h3 g1 g2 g3
      refine ⟨a, b, vs, ws, rfl, SqL.of h1, SqL.of g1, c _ _ _ (ItzN X.K a b) _ (fun H => SqL X.K H a vs ∧ SqL X.K H b ws) (YPair (fun i => vs[i]?) (fun i => ws[i]?)) f p ⟨⟨fun i H hi g => wd.wk.goes i H (by omega) g, fun H g => ⟨vs, ws, g.1, g.2, by rw [h3.1]; exact Nat.le_refl _⟩, fun i H x H' hi g y => wd.wk.yields i H x H' (by omega) g y⟩, wd.gd, fun M' i H v H' hi => wd.yd M' i H v H' (by omega)⟩ k2⟩) q⟩

/-! ### two rules joined moment by moment -/
theorem wk_range {n : Nat} {f : Nat → Int} (h0 : 0 < n) (t : Int) : ∃ i : Nat, i < n ∧ (i : Int) = t % n ∧ wkOff ((List.range n).map f) t = f i := by
  have a := Int.emod_nonneg t (show (n : Int) ≠ 0 by omega)
  have b := Int.emod_lt_of_pos t (show (0 : Int) < n by omega)
  refine ⟨(t % (n : Int)).toNat, by omega, by omega, ?_⟩
  unfold wkOff
  rw [List.length_map, List.length_range, List.getD_eq_getElem?_getD, List.getElem?_map, List.getElem?_range (by omega)]
  rfl
theorem wk_getD {bs : List Int} {t : Int} {i : Nat} (e : (i : Int) = t % bs.length) : wkOff bs t = bs.getD i 0 := by
  unfold wkOff
  rw [← e, Int.toNat_natCast]
theorem not_keys {c1 c2 : List (Int × Int)} {t : Int} (h : t ∉ (c1 ++ c2).map (·.1)) : t ∉ c1.map (·.1) ∧ t ∉ c2.map (·.1) := by
  rw [List.map_append, List.mem_append] at h
  exact ⟨fun z => h (.inl z), fun z => h (.inr z)⟩
theorem keys_of {ks : List Int} {f : Int → Int} : (ks.map fun t => (t, f t)).map (·.1) = ks := by
  rw [List.map_map]
  exact List.map_id _
theorem joined {b1 b2 : List Int} {c1 c2 : List (Int × Int)} (k1 : RuOk b1 c1) (k2 : RuOk b2 c2) (hl : b1.length = b2.length) (h : Int → Int → Int) (hh : ∀ a b a' b', a ≤ a' + 1 → b ≤ b' + 1 → h a b ≤ h a' b' + 1) {ks : List Int} (asc : ks.Pairwise (· < ·)) (mem : ∀ k, k ∈ ks ↔ k ∈ (c1 ++ c2).map (·.1))
    {bs : List Int} {cs : List (Int × Int)} (eb : bs = (List.range b1.length).map fun (i : Nat) => h (b1.getD i 0) (b2.getD i 0)) (ec : cs = ks.map fun t => (t, h (lawOff b1 c1 t) (lawOff b2 c2 t))) :
    bs.length = b1.length ∧ (cs.Pairwise fun a b => a.1 < b.1) ∧ RisesC bs (tell bs cs).2 ∧ RuOk bs (tell bs cs).2 ∧ ∀ t, lawOff bs (tell bs cs).2 t = h (lawOff b1 c1 t) (lawOff b2 c2 t) := by
  have lb : bs.length = b1.length := by rw [eb, List.length_map, List.length_range]
  have l0 : 0 < bs.length := by rw [lb]; exact k1.l0
  have ac : cs.Pairwise fun a b => a.1 < b.1 := by
    rw [ec]
    exact List.pairwise_map.mpr asc
  have key : ∀ t, lawOff bs cs t = h (lawOff b1 c1 t) (lawOff b2 c2 t) := by
    refine tells (g := fun t => h (lawOff b1 c1 t) (lawOff b2 c2 t)) l0 ac (fun c hc => ?_) (fun t ht => ?_) ?_
    · rw [ec] at hc
      obtain ⟨t, _, rfl⟩ := List.mem_map.mp hc
      rfl
    · rw [ec, keys_of] at ht
      have ht2 : t ∉ (c1 ++ c2).map (·.1) := fun z => ht ((mem t).mpr z)
      obtain ⟨n1, n2⟩ := not_keys ht2
      show h _ _ = h _ _
      rw [lawOff_prev k1.l0 n1, lawOff_prev k2.l0 n2, lb, hl]
    · obtain ⟨lo, le, hlo⟩ := low_of (c1 ++ c2) 0
      refine ⟨lo, fun t ht => ?_⟩
      show h _ _ = _
      rw [lawOff_lo fun c hc => by have := hlo c (List.mem_append_left _ hc); omega, lawOff_lo fun c hc => by have := hlo c (List.mem_append_right _ hc); omega]
      obtain ⟨i, hi, e1, e2⟩ := wk_range (f := fun (i : Nat) => h (b1.getD i 0) (b2.getD i 0)) k1.l0 t
      rw [eb, e2, wk_getD e1, wk_getD (bs := b2) (by rw [← hl]; exact e1)]
  have rise := risesC_of l0 ac key fun t => hh _ _ _ _ (k1.step t) (k2.step t)
  exact ⟨lb, ac, rise, ruOk_of l0 (by rw [lb]; exact k1.l1) ac rise, fun t => by rw [tell_law l0 cs ac]; exact key t⟩
def mx (i j : Int) : Int := if i < j then j else i
def mn (i j : Int) : Int := if j < i then j else i
theorem mx_step {a b a' b' : Int} (h1 : a ≤ a' + 1) (h2 : b ≤ b' + 1) : mx a b ≤ mx a' b' + 1 := by unfold mx; split <;> split <;> omega
theorem mn_step {a b a' b' : Int} (h1 : a ≤ a' + 1) (h2 : b ≤ b' + 1) : mn a b ≤ mn a' b' + 1 := by unfold mn; split <;> split <;> omega
/-- rule | rule, rule & rule -/
def fJoin (h : Int → Int → Int) : FD := fun ds n K => ∃ b1 c1 b2 c2, ds = [.obj (.rul b1 c1), .obj (.rul b2 c2)] ∧ RuOk b1 c1 ∧ RuOk b2 c2 ∧ b1.length = b2.length ∧ c1.length + c2.length ≤ 990 ∧ ∀ bs cs, RuOk bs cs → bs.length = b1.length → (∀ t, lawOff bs cs t = h (lawOff b1 c1 t) (lawOff b2 c2 t)) → cs.length ≤ c1.length + c2.length → K (.obj (.rul bs cs)) n
def fWeeks : FD := fun ds n K => ∃ b1 c1 b2 c2, ds = [.obj (.rul b1 c1), .obj (.rul b2 c2)] ∧ b1.length = b2.length ∧ K .non n

theorem getD_intr {xs : List Int} {i : Nat} (h : i < xs.length) : (xs.map DV.int).getD i .non = .int (xs.getD i 0) := by
  rw [List.getD_eq_getElem?_getD, List.getElem?_map, List.getD_eq_getElem?_getD, List.getElem?_eq_getElem h]
  rfl
theorem acc_mapr {α : Type} {f : Nat → α} {i : Nat} {y : α} (h : y = f i) : (List.range i).map f ++ [y] = (List.range (i + 1)).map f := by
  rw [List.range_succ, List.map_append, h]
  rfl
theorem two1000r : 2 ≤ 1000 := by decide
theorem range_mapr {α β : Type} (l : List α) (z : α) (f : α → β) : (List.range l.length).map (fun (i : Nat) => f (l.getD i z)) = l.map f := by
  refine List.ext_getElem? fun i => ?_
  rw [List.getElem?_map, List.getElem?_map]
  by_cases h : i < l.length
  · rw [List.getElem?_range h, List.getElem?_eq_getElem h]
    show some (f (l.getD i z)) = _
    rw [List.getD_eq_getElem?_getD, List.getElem?_eq_getElem h]
    rfl
  · rw [List.getElem?_eq_none (by rw [List.length_range]; omega), List.getElem?_eq_none (by omega)]
    rfl
theorem ne_intr (a : Int) : (!decide (V.int a = V.int a)) = false := by simp
theorem isR_two {b1 b2 : List Int} {c1 c2 : List (Int × Int)} : ∀ d ∈ [DV.obj (.rul b1 c1), .obj (.rul b2 c2)], d.isR = true := fun d hd => by
  rcases List.mem_cons.mp hd with rfl | hd
  · rfl
  · obtain rfl := List.mem_singleton.mp hd
    rfl
section
variable {P : Program} {w : World} {K : PySem.W.Frag} {mg : Str → Option Value} {base : Heap}
theorem scWeeks : FnScope ["one", "other"] ["one", "other"] (defScope sWeeks) := ⟨rfl, rfl, rfl, by decide +kernel, rfl, by decide +kernel, by decide +kernel⟩
theorem ok_weeks {f R L p1 g1 : Addr} {fd d1 : FuncData} (F : Fun K "check_weeks" "check_weeks" sWeeks f fd) (ZR : RuC K mg R) (V1 : Pp P w K mg base R "week" (spRuWeek R L) p1 g1 d1) : FnOk P w K mg base CX0 3 f fd ["one", "other"] (spD (Wr R L) fWeeks) := by
  refine okD F scWeeks (Wr R L) fWeeks (fun ds n K h => ?_) (fun p cdv A outer s H E hr => ?_)
  · obtain ⟨b1, c1, b2, c2, rfl, _⟩ := h
    rfl
  · 
    have hr2 : Room 2 _ := hr.mono (by decide)
    refine ⟨_, _, (dss_one (ds_if (dt_cmp op_ne rd_Ne (de_week (dv 0) ZR.cl V1.of V1.ok hr2 V1.bi) (de_week (dv 1) ZR.cl V1.of V1.ok hr2 V1.bi))
        (dss_one ds_never)
        dss_nil)), fun ds n K h => ?_⟩
    obtain ⟨b1, c1, b2, c2, rfl, hl, k⟩ := h
    refine ⟨rfl, fun g => ?_, fun _ => k⟩
    have g2 : (!decide (V.int (b1.length : Nat) = V.int (b2.length : Nat))) = true := g
    rw [hl, ne_intr] at g2
    cases g2
theorem scRuOr : FnScope ["self", "other", "base", "moments", "pair", "at"] ["self", "other"] (defScope sRuOr) := ⟨rfl, rfl, rfl, by decide +kernel, rfl, by decide +kernel, by decide +kernel⟩
theorem ok_ruOr {f R L fW fC fO fI p2 g2 : Addr} {fd dW dO dI d2 : FuncData} (F : Fun K "__or__" "Rule.__or__" sRuOr f fd) (ZR : RuC K mg R) (T : Blt mg) (nz : mg "zip" = none) (Wk : At P w K mg base 3 "check_weeks" ["one", "other"] (spD (Wr R L) fWeeks) fW dW) (ChM : AtR P w K mg base 3 "changed_moments" (spMoms (ThR R L)) fC)
    (V2 : Pp P w K mg base R "base" (spRuBase R L) p2 g2 d2) (hRO : Meth K R "offset" fO) (GRO : FnOk P w K mg base CX0 3 fO dO ["self", "moment"] (spRuOff R L)) (bRO : Binds K dO ["self", "moment"] [])
    (MKR : Mk K R fI) (GRI : FnOk P w K mg base CX0 5 fI dI ["self", "base", "changes"] (spRuI R L K)) (bRI : Binds K dI ["self", "base", "changes"] []) : FnOk P w K mg base CX0 7 f fd ["self", "other"] (spD (Wr R L) (fJoin mx)) := by
  refine okD F scRuOr (Wr R L) (fJoin mx) (fun ds n K h => ?_) (fun p cdv A outer s H E hr => ?_)
  · obtain ⟨b1, c1, b2, c2, rfl, _⟩ := h
    rfl
  · have hu := hr.units
    have hr2 : Room 2 _ := hr.mono (by decide)
    have hr3 : Room 3 _ := hr.mono (by decide)
    have hr6 : Room 6 _ := hr.mono (by decide)
    refine ⟨_, _, (dss_cons (ds_expr (de_call Wk.ok (rd_spD rfl) hr3 Wk.at_ Wk.kp Wk.bi (da_cons (dv 0) (da_cons (dv 1) da_nil))))
      (dss_cons (ds_setLc (i := 2) (te := tCB (rMaxT K) (tCons (tVar 4) tNil)) (own := [("pair", 4)]) rfl scRuOr.nd rfl rfl (sw_true rfl rfl rfl (by decide +kernel)) (di_zipN (by rfl) nz (da_cons (de_baseF ZR (dv 0)) (da_cons (de_f (df_base (dv 1) ZR.cl V2.of V2.ok hr2 V2.bi)) da_nil)))
          (blkOk_by (N := ["self", "other", "base", "moments", "pair", "at"]) (sc := defScope sRuOr) (by decide +kernel)) (fun _ _ _ _ _ => (dg_name (i := 4) scRuOr.nd rfl (.inl rfl))) (fun _ _ _ _ _ => dts_nil)
          (fun _ _ _ _ _ => (de_b (cr_maxT rfl hu) (by rfl) T.max (by decide +kernel) rd_maxT (da_cons (dv 4) da_nil))))
      (dss_cons (ds_set (i := 3) scRuOr.nd rfl (.inl rfl) (de_moms ChM.ok hr3 ChM.at_ ChM.kp (da_cons (dv 0) (da_cons (dv 1) da_nil))))
      (dss_one (ds_ret (let A := (da_cons (dv 2) (da_cons (de_f (df_lc (own := [("at", 5)]) rfl scRuOr.nd (di_list (dv 3))
          (blkOk_by (N := ["self", "other", "base", "moments", "pair", "at"]) (sc := defScope sRuOr) (by decide +kernel)) (fun _ _ _ _ _ => (dg_name (i := 5) scRuOr.nd rfl (.inl rfl))) (fun _ _ _ _ _ => dts_nil)
          (fun _ _ _ _ _ => (de_tup (da_cons (dv 5) (da_cons (de_b (call_max2 rfl) (by rfl) T.max (by decide +kernel) rd_C2 (da_cons (de_meth (dv 0) ZR.cl hRO GRO rd_off hr3 bRO (da_cons (dv 5) da_nil)) (da_cons (de_meth (dv 1) ZR.cl hRO GRO rd_off hr3 bRO (da_cons (dv 5) da_nil)) da_nil))) da_nil)))))) da_nil)); de_make MKR GRI (trE_rule A.tr) hr6 ZR.at_ bRI A.pa)))))), fun ds n K h => ?_⟩
    obtain ⟨b1, c1, b2, c2, rfl, k1, k2, hl, hc, k⟩ := h
    refine ⟨b1, c1, b2, c2, rfl, hl, ?_⟩
    have l12 := k1.l1
    refine ⟨by rw [List.length_map, List.length_map]; exact hl, by rw [List.length_map]; omega, fun i acc m => acc = (List.range i).map (fun (i : Nat) => DV.int (mx (b1.getD i 0) (b2.getD i 0))) ∧ m = n, ⟨rfl, rfl⟩, ?_, ?_⟩
    · rintro i acc m hi ⟨rfl, rfl⟩
      rw [List.length_map] at hi
      simp only [getD_intr (show i < b1.length by omega), getD_intr (show i < b2.length by omega)]
      exact ⟨fun _ => ⟨acc_mapr rfl, rfl⟩, fun z => nomatch z⟩
    rintro acc m ⟨rfl, rfl⟩
    have em : movesOf [DV.obj (.rul b1 c1), .obj (.rul b2 c2)] = c1 ++ c2 := by
      show c1 ++ (c2 ++ []) = _
      rw [List.append_nil]
    refine ⟨isR_two, (by decide : 2 ≤ 900), by rw [em, List.length_append]; omega, fun ks asc mem le => ?_⟩
    rw [em] at mem le
    rw [List.length_append] at le
    refine ⟨by rw [List.length_map]; omega, fun i acc m' => acc = (List.range i).map (fun (i : Nat) => dPr (ks.getD i 0, mx (offAt b1 c1 (ks.getD i 0)) (offAt b2 c2 (ks.getD i 0)))) ∧ m' = m, ⟨rfl, rfl⟩, ?_, ?_⟩
    · rintro i acc m' hi ⟨rfl, rfl⟩
      rw [List.length_map] at hi
      simp only [getD_intr hi]
      exact ⟨fun _ => ⟨rfl, rfl, two1000r, acc_mapr rfl, rfl⟩, fun z => nomatch z⟩
    rintro acc m' ⟨rfl, rfl⟩
    have e1 : (List.range (b1.map DV.int).length).map (fun (i : Nat) => DV.int (mx (b1.getD i 0) (b2.getD i 0))) = ((List.range b1.length).map fun (i : Nat) => mx (b1.getD i 0) (b2.getD i 0)).map DV.int := by
      rw [List.length_map, List.map_map]
      rfl
    have e2 : (List.range (ks.map DV.int).length).map (fun (i : Nat) => dPr (ks.getD i 0, mx (offAt b1 c1 (ks.getD i 0)) (offAt b2 c2 (ks.getD i 0)))) = (ks.map fun t => (t, mx (lawOff b1 c1 t) (lawOff b2 c2 t))).map dPr := by
      rw [List.length_map, List.map_map, range_mapr ks 0 fun t => dPr (t, mx (offAt b1 c1 t) (offAt b2 c2 t))]
      refine List.map_congr_left fun t _ => ?_
      show dPr (t, mx (offAt b1 c1 t) (offAt b2 c2 t)) = dPr (t, mx (lawOff b1 c1 t) (lawOff b2 c2 t))
      rw [k1.off, k2.off]
    obtain ⟨lb, ac, rise, ro, key⟩ := joined k1 k2 hl mx (fun _ _ _ _ => mx_step) asc mem rfl rfl
    rw [e1, e2]
    refine ⟨_, _, rfl, by rw [lb]; exact k1.l0, by rw [lb]; omega, by rw [List.length_map]; omega, ac, rise, k _ _ ro lb key ?_⟩
    have := (tell_sub ((List.range b1.length).map fun (i : Nat) => mx (b1.getD i 0) (b2.getD i 0)) (ks.map fun t => (t, mx (lawOff b1 c1 t) (lawOff b2 c2 t)))).length_le
    rw [List.length_map] at this
    omega
end

section
variable {P : Program} {w : World} {K : PySem.W.Frag} {mg : Str → Option Value} {base : Heap}
theorem scRuAnd : FnScope ["self", "other", "base", "moments", "pair", "at"] ["self", "other"] (defScope sRuAnd) := ⟨rfl, rfl, rfl, by decide +kernel, rfl, by decide +kernel, by decide +kernel⟩
theorem ok_ruAnd {f R L fW fC fO fI p2 g2 : Addr} {fd dW dO dI d2 : FuncData} (F : Fun K "__and__" "Rule.__and__" sRuAnd f fd) (ZR : RuC K mg R) (T : Blt mg) (nz : mg "zip" = none) (Wk : At P w K mg base 3 "check_weeks" ["one", "other"] (spD (Wr R L) fWeeks) fW dW) (ChM : AtR P w K mg base 3 "changed_moments" (spMoms (ThR R L)) fC)
    (V2 : Pp P w K mg base R "base" (spRuBase R L) p2 g2 d2) (hRO : Meth K R "offset" fO) (GRO : FnOk P w K mg base CX0 3 fO dO ["self", "moment"] (spRuOff R L)) (bRO : Binds K dO ["self", "moment"] [])
    (MKR : Mk K R fI) (GRI : FnOk P w K mg base CX0 5 fI dI ["self", "base", "changes"] (spRuI R L K)) (bRI : Binds K dI ["self", "base", "changes"] []) : FnOk P w K mg base CX0 7 f fd ["self", "other"] (spD (Wr R L) (fJoin mn)) := by
  refine okD F scRuAnd (Wr R L) (fJoin mn) (fun ds n K h => ?_) (fun p cdv A outer s H E hr => ?_)
  · obtain ⟨b1, c1, b2, c2, rfl, _⟩ := h
    rfl
  · have hu := hr.units
    have hr2 : Room 2 _ := hr.mono (by decide)
    have hr3 : Room 3 _ := hr.mono (by decide)
    have hr6 : Room 6 _ := hr.mono (by decide)
    refine ⟨_, _, (dss_cons (ds_expr (de_call Wk.ok (rd_spD rfl) hr3 Wk.at_ Wk.kp Wk.bi (da_cons (dv 0) (da_cons (dv 1) da_nil))))
      (dss_cons (ds_setLc (i := 2) (te := tCB (rMinT K) (tCons (tVar 4) tNil)) (own := [("pair", 4)]) rfl scRuAnd.nd rfl rfl (sw_true rfl rfl rfl (by decide +kernel)) (di_zipN (by rfl) nz (da_cons (de_baseF ZR (dv 0)) (da_cons (de_f (df_base (dv 1) ZR.cl V2.of V2.ok hr2 V2.bi)) da_nil)))
          (blkOk_by (N := ["self", "other", "base", "moments", "pair", "at"]) (sc := defScope sRuAnd) (by decide +kernel)) (fun _ _ _ _ _ => (dg_name (i := 4) scRuAnd.nd rfl (.inl rfl))) (fun _ _ _ _ _ => dts_nil)
          (fun _ _ _ _ _ => (de_b (cr_minT rfl hu) (by rfl) T.min (by decide +kernel) rd_minT (da_cons (dv 4) da_nil))))
      (dss_cons (ds_set (i := 3) scRuAnd.nd rfl (.inl rfl) (de_moms ChM.ok hr3 ChM.at_ ChM.kp (da_cons (dv 0) (da_cons (dv 1) da_nil))))
      (dss_one (ds_ret (let A := (da_cons (dv 2) (da_cons (de_f (df_lc (own := [("at", 5)]) rfl scRuAnd.nd (di_list (dv 3))
          (blkOk_by (N := ["self", "other", "base", "moments", "pair", "at"]) (sc := defScope sRuAnd) (by decide +kernel)) (fun _ _ _ _ _ => (dg_name (i := 5) scRuAnd.nd rfl (.inl rfl))) (fun _ _ _ _ _ => dts_nil)
          (fun _ _ _ _ _ => (de_tup (da_cons (dv 5) (da_cons (de_b (call_min2 rfl) (by rfl) T.min (by decide +kernel) rd_C2 (da_cons (de_meth (dv 0) ZR.cl hRO GRO rd_off hr3 bRO (da_cons (dv 5) da_nil)) (da_cons (de_meth (dv 1) ZR.cl hRO GRO rd_off hr3 bRO (da_cons (dv 5) da_nil)) da_nil))) da_nil)))))) da_nil)); de_make MKR GRI (trE_rule A.tr) hr6 ZR.at_ bRI A.pa)))))), fun ds n K h => ?_⟩
    obtain ⟨b1, c1, b2, c2, rfl, k1, k2, hl, hc, k⟩ := h
    refine ⟨b1, c1, b2, c2, rfl, hl, ?_⟩
    have l12 := k1.l1
    refine ⟨by rw [List.length_map, List.length_map]; exact hl, by rw [List.length_map]; omega, fun i acc m => acc = (List.range i).map (fun (i : Nat) => DV.int (mn (b1.getD i 0) (b2.getD i 0))) ∧ m = n, ⟨rfl, rfl⟩, ?_, ?_⟩
    · rintro i acc m hi ⟨rfl, rfl⟩
      rw [List.length_map] at hi
      simp only [getD_intr (show i < b1.length by omega), getD_intr (show i < b2.length by omega)]
      exact ⟨fun _ => ⟨acc_mapr rfl, rfl⟩, fun z => nomatch z⟩
    rintro acc m ⟨rfl, rfl⟩
    have em : movesOf [DV.obj (.rul b1 c1), .obj (.rul b2 c2)] = c1 ++ c2 := by
      show c1 ++ (c2 ++ []) = _
      rw [List.append_nil]
    refine ⟨isR_two, (by decide : 2 ≤ 900), by rw [em, List.length_append]; omega, fun ks asc mem le => ?_⟩
    rw [em] at mem le
    rw [List.length_append] at le
    refine ⟨by rw [List.length_map]; omega, fun i acc m' => acc = (List.range i).map (fun (i : Nat) => dPr (ks.getD i 0, mn (offAt b1 c1 (ks.getD i 0)) (offAt b2 c2 (ks.getD i 0)))) ∧ m' = m, ⟨rfl, rfl⟩, ?_, ?_⟩
    · rintro i acc m' hi ⟨rfl, rfl⟩
      rw [List.length_map] at hi
      simp only [getD_intr hi]
      exact ⟨fun _ => ⟨rfl, rfl, two1000r, acc_mapr rfl, rfl⟩, fun z => nomatch z⟩
    rintro acc m' ⟨rfl, rfl⟩
    have e1 : (List.range (b1.map DV.int).length).map (fun (i : Nat) => DV.int (mn (b1.getD i 0) (b2.getD i 0))) = ((List.range b1.length).map fun (i : Nat) => mn (b1.getD i 0) (b2.getD i 0)).map DV.int := by
      rw [List.length_map, List.map_map]
      rfl
    have e2 : (List.range (ks.map DV.int).length).map (fun (i : Nat) => dPr (ks.getD i 0, mn (offAt b1 c1 (ks.getD i 0)) (offAt b2 c2 (ks.getD i 0)))) = (ks.map fun t => (t, mn (lawOff b1 c1 t) (lawOff b2 c2 t))).map dPr := by
      rw [List.length_map, List.map_map, range_mapr ks 0 fun t => dPr (t, mn (offAt b1 c1 t) (offAt b2 c2 t))]
      refine List.map_congr_left fun t _ => ?_
      show dPr (t, mn (offAt b1 c1 t) (offAt b2 c2 t)) = dPr (t, mn (lawOff b1 c1 t) (lawOff b2 c2 t))
      rw [k1.off, k2.off]
    obtain ⟨lb, ac, rise, ro, key⟩ := joined k1 k2 hl mn (fun _ _ _ _ => mn_step) asc mem rfl rfl
    rw [e1, e2]
    refine ⟨_, _, rfl, by rw [lb]; exact k1.l0, by rw [lb]; omega, by rw [List.length_map]; omega, ac, rise, k _ _ ro lb key ?_⟩
    have := (tell_sub ((List.range b1.length).map fun (i : Nat) => mn (b1.getD i 0) (b2.getD i 0)) (ks.map fun t => (t, mn (lawOff b1 c1 t) (lawOff b2 c2 t)))).length_le
    rw [List.length_map] at this
    omega
end

/-! ### set(xs) of a list of ints -/
section
variable {P : Program} {w : World} {A : Around} {E : Value → Shared → Prop} {s : Shared}
set_option maxHeartbeats 3200000 in
theorem call_setL {l : Addr} {items : Array Value} (ks : List Int) {Q : Value → Shared → Prop} (noErr : A.handled = none) (at_ : s.heap.IsList l items) (iA : IntsAre items.toList ks) (few : ks.length + 1 < scanBound)
    (h : ∀ (h' : Heap) (tk c : Nat), SetR w h' s.heap.objs.size (fun j => decide (j ∈ ks)) c → c ≤ ks.length → (∀ b o, s.heap.get? b = some o → h'.get? b = some o) → Q (.ref s.heap.objs.size) { s with heap := h', toks := tk }) :
    wpAny (model P w) A (call (.type "set") [.ref l]) Q E s := by
  have sz : items.size = ks.length := Array.length_toList.symm.trans (IntsAre.length iA)
  obtain ⟨c, tl, mro⟩ := F.called_set.mro
  have mk1 := F.called_set.made
  have mk2 := F.called_set.sub
  refine wpAny_call (codeAny_of_tree ?_)
  show wpAny _ _ (callAny (.type "set") _) _ _ _
  refine wpAny_pure ⟨Code.quiet_builtin _ (by decide +kernel), codeAny_builtin F.entry_type_call ?_⟩
  rw [Around.under_plain (weight_type_call_type "set" [.ref l] []) rfl]
  have mk3 := F.called_set.notType
  have mk4 := F.called_set.canCreate
  have mk5 := F.typeCall_set_1 (.ref l)
  repeat (any_goals (first | assumption | wp_step))
  refine codeAny_mono (code_set_led1 (.ref l) (E := E) (Q₁ := fun obj sa => obj = .ref s.heap.objs.size ∧ sa = { s with heap := s.heap.push { cls := .type "set", dict := none, data := .set #[] 0 (.fresh 0 0 (!w.params.followText "set-order")) } }) ⟨rfl, rfl⟩) fun r sa made => ?_
  rcases r with e | fl
  · exact made
  rcases fl with _ | _ | _ | obj
  iterate 3 exact made.elim
  obtain ⟨rfl, rfl⟩ := made
  generalize grown : s.heap.push { cls := .type "set", dict := none, data := .set #[] 0 (.fresh 0 0 (!w.params.followText "set-order")) } = g0
  have here : g0.get? s.heap.objs.size = some { cls := .type "set", dict := none, data := .set #[] 0 (.fresh 0 0 (!w.params.followText "set-order")) } := by rw [← grown]; exact Heap.get?_push_size _ rfl
  have kept0 : ∀ b o, s.heap.get? b = some o → g0.get? b = some o := fun b o e => by rw [← grown]; exact Heap.get?_push_of_some _ e
  have total : g0.objs.size = s.heap.objs.size + 1 := by rw [← grown]; exact Heap.size_push ..
  have isSet : Shared.TypeIs { s with heap := g0 } (.ref s.heap.objs.size) "set" := ⟨_, here, rfl⟩
  have look := F.called_set.init.lookup
  have bnd := F.called_set.init.bind (.ref s.heap.objs.size)
  repeat (any_goals (first | assumption | wp_step))
  refine codeAny_mono (codeAny_call_builtin (R := wants (fun r sb => r = .none ∧ ∃ h' tk c, sb = { s with heap := h', toks := tk } ∧ SetR w h' s.heap.objs.size (fun j => decide (j ∈ ks)) c ∧ c ≤ ks.length ∧ ∀ b o, s.heap.get? b = some o → h'.get? b = some o) E)
    F.called_set.init.plain F.entry_set_init (check_set_init_1 isSet ?_)) fun r sb done => ?_
  · obtain ⟨ol, eol, cl, nl, dl⟩ := at_
    obtain ⟨oc, od, odt, osl⟩ := ol
    simp only at cl dl
    subst cl
    subst dl
    have eol0 : g0.get? l = some { cls := .type "list", dict := od, data := .seq items nl, slots := osl } := kept0 _ _ eol
    have sub1 := F.sub_list_set
    have sub2 := F.sub_list_frozenset
    have noDict : (Value.type "list" == Value.type "dict") = false := by decide
    have list0 : g0.IsList l items := ⟨_, eol0, rfl, nl, rfl⟩
    unfold Builtin.«set.__init__» noKeywords Builtin.Frozenset.updateFrom
    generalize iterIs : pyIter = PI
    wp_walk
    subst iterIs
    refine wpAny_pyIter_list list0 ?_
    refine wpAny_bind (wpAny_runValue ?_)
    have lS : l < s.heap.objs.size := Heap.lt_size eol
    have noErr3 : A.in1.in1.in1.handled = none := by simp [noErr]
    have ne1 : l ≠ g0.objs.size := by
      rw [total]
      exact Nat.ne_of_lt (Nat.lt_succ_of_lt lS)
    have outside : s.heap.objs.size ∉ [g0.objs.size, l] := by
      rw [total]
      simp only [List.mem_cons, List.not_mem_nil, or_false, not_or]
      exact ⟨Nat.ne_of_lt (Nat.lt_succ_self _), Nat.ne_of_gt lS⟩
    refine set_update_ints ((Walks.list noErr3 _ l ne1 items).toS) s.heap.objs.size outside ks sz few (fun i v e => ?_) (items.size - 0) 0 _ (by omega) (Nat.zero_le _) ⟨⟨_, Heap.get?_push_size _ rfl, rfl, rfl⟩, list0.push _⟩
      ⟨0, Nat.le_refl 0, setR_new_at (Heap.get?_push_of_some _ here)⟩ (fun s' c' mv le isR => ?_)
    · have lt : i < ks.length := by
        rw [← sz]
        exact (Array.getElem?_eq_some_iff.mp e).1
      obtain ⟨t, et⟩ := PyProof.Rows.IntsAre.int_at iA i v (by rw [Array.getElem?_toList]; exact e)
      refine ⟨ks[i], t, List.getElem?_eq_getElem lt, ?_⟩
      rw [et, List.getD_eq_getElem?_getD, List.getElem?_eq_getElem lt] <;> rfl
    · obtain ⟨h', gn, dr, tk', oss⟩ := s'
      obtain rfl : gn = s.gens := mv.gens
      obtain rfl : dr = s.drawn := mv.drawn
      obtain rfl : oss = s.os := mv.os
      show wpAny _ _ _ _ _ _
      refine wpAny_pure ?_
      show wpAny _ _ (ret Value.none) _ _ _
      rw [sz] at le
      refine wpAny_pure ⟨rfl, h', tk', c', rfl, isR, le, fun b o e => mv.heap b o ?_ (Heap.get?_push_of_some _ (kept0 b o e))⟩
      have lt := Heap.lt_size e
      simp only [List.mem_cons, List.not_mem_nil, or_false, not_or]
      exact ⟨Nat.ne_of_lt lt, by rw [total]; exact Nat.ne_of_lt (Nat.lt_succ_of_lt lt)⟩
  · rcases r with e | fl
    · exact done
    rcases fl with _ | _ | _ | v
    iterate 3 exact done.elim
    obtain ⟨rfl, h', tk, c', rfl, isR, le, kp⟩ := done
    repeat (any_goals (first | assumption | wp_step))
    exact h _ _ _ isR le kp
end
section
variable {X : Cx}
def rSetL (X : Cx) : List V → Hp → VK → Prop := fun xs H Q => ∃ (l : Addr) (ks : List Int), xs = [.ref l] ∧ SqL X.K H l (ks.map V.int) ∧ ks.length + 1 < scanBound ∧
  ∀ (a : Addr) (n : Nat), H a = none → n ≤ ks.length → Q (.ref a) (upd H a (SetO X.w a (fun j => decide (j ∈ ks)) n))
theorem cr_setL (calm : X.calm = true) : CallR X (.type "set") (rSetL X) := by
  intro pins s σ H xs us Q I r h
  obtain ⟨l, ks, rfl, hs, few, q⟩ := h
  obtain ⟨its, rv, hl, _⟩ := I.list hs
  rw [Vals.ref1 r]
  refine call_setL ks (I.ok.hd calm) hl.isList rv.ints few fun h' tk c isR le kp => ?_
  exact ⟨.ref s.heap.objs.size, _, I.laid (t' := tk) kp (Nat.le_refl _) (setO_new isR), rfl, q _ c (I.hok.fresh (Nat.le_refl _)) le⟩
end

/-! ### sorted(set(xs)) of a list of ints -/
section
variable {X : Cx} {W : Wo} {e : Expr} {ta : TA} {dA : TDA} {p p2 pos pos2 : Pos}
theorem dss_tr {t : TE} (hc : X.calm = true) (ha : TrQ W t dA) : TrF W (tCB (rSortedSetI X.w) (tCons (tCB (rSetL X) (tCons t tNil)) tNil)) (dSS dA) := fun B Φ M σ H δ n Q K ok c h =>
  ha B Φ M σ H δ n _ _ ok (fun ds m q vs H1 f1 p1 hq nb ra h => by
    obtain ⟨xs, rfl, lx, h⟩ := h
    rw [ra.ints] at hq
    refine ⟨q, xs, rfl, SqL.of hq, Nat.lt_of_le_of_lt (Nat.succ_le_succ lx) (by decide), fun a z na zl => ?_⟩
    refine ⟨a, fun j => decide (j ∈ xs), z, rfl, upd_same, Nat.le_trans (Nat.le_trans zl lx) (by decide), fun ns b asc mem nl nbn => ?_⟩
    have ba : b ≠ a := fun w => by
      rw [w, upd_same] at nbn
      cases nbn
    have nb1 : H1 b = none := by
      rw [upd_ne ba] at nbn
      exact nbn
    refine c _ _ _ _ _ ((f1.upd (.inl (none_fr f1 p1 na))).upd (.inl (none_fr f1 p1 nb1))) (pl_new (pl_new p1 na) nbn) (none_fr f1 p1 nb1) upd_same (repA_ints ns) (h ns asc (fun k => ?_) (by omega))
    rw [mem k]
    exact decide_eq_true_iff) h
theorem df_SS {t : TE} (hc : X.calm = true) (hg : Gl X "sorted") (hm : X.mg "sorted" = none) (hg2 : Gl X "set") (hm2 : X.mg "set" = none) (ha : DQ X W e t dA)
    (hs : starEach [e] X.env = (false, eval e X.env) :: starEach [] X.env := by rfl) (hs2 : starEach [.Call (.Name "set" p2) [e] [] pos2] X.env = (false, eval (.Call (.Name "set" p2) [e] [] pos2) X.env) :: starEach [] X.env := by rfl) (hpl : (backTo pos (starEach [] X.env)).any (·.1) = false := by rfl) (hpl2 : (backTo pos2 (starEach [] X.env)).any (·.1) = false := by rfl) :
    DF X W (.Call (.Name "sorted" p) [.Call (.Name "set" p2) [e] [] pos2] [] pos) (tCB (rSortedSetI X.w) (tCons (tCB (rSetL X) (tCons t tNil)) tNil)) (dSS dA) :=
  ⟨pe_callB (cr_sortedSetI hc) hg hm (by decide +kernel) (pa_cons (pe_callTy (cr_setL hc) hg2 hm2 (by decide +kernel) (pa_cons ha.pe pa_nil hs) (by decide) (by decide) hs hpl2) pa_nil hs2) (by decide) (by decide) hs2 hpl, dss_tr hc ha.tr⟩
end

theorem one1000r : 1 ≤ 1000 := by decide
theorem atI_wkD {bs : List Int} {t : Int} (h : 0 < bs.length) : atI (bs.map DV.int) (t % bs.length) = some (.int (wkOff bs t)) := by
  have h0 := Int.emod_nonneg t (show (bs.length : Int) ≠ 0 by omega)
  have h1 := Int.emod_lt_of_pos t (show (0 : Int) < bs.length by omega)
  obtain ⟨j, hj⟩ : ∃ j : Nat, t % (bs.length : Int) = (j : Int) := ⟨(t % (bs.length : Int)).toNat, by omega⟩
  have hj2 : j < bs.length := by omega
  unfold wkOff
  rw [hj]
  refine atI_nat (j := j) ?_
  rw [List.getElem?_map, List.getElem?_eq_getElem hj2, List.getD_eq_getElem?_getD, Int.toNat_natCast, List.getElem?_eq_getElem hj2]
  rfl
/-- what two rules give one after the other -/
def compOff (b1 : List Int) (c1 : List (Int × Int)) (b2 : List Int) (c2 : List (Int × Int)) (t : Int) : Int := lawOff b1 c1 t + lawOff b2 c2 (t + lawOff b1 c1 t)
theorem composed {b1 b2 : List Int} {c1 : List (Int × Int)} (k1 : RuOk b1 c1) (k2 : RuOk b2 []) (hl : b1.length = b2.length) {ks : List Int} (asc : ks.Pairwise (· < ·)) (mem : ∀ k, k ∈ ks ↔ k ∈ c1.map (·.1))
    {bs : List Int} {cs : List (Int × Int)} (eb : bs = (List.range b1.length).map fun (i : Nat) => b1.getD i 0 + wkOff b2 ((i : Int) + b1.getD i 0)) (ec : cs = ks.map fun t => (t, compOff b1 c1 b2 [] t)) :
    bs.length = b1.length ∧ (cs.Pairwise fun a b => a.1 < b.1) ∧ RisesC bs (tell bs cs).2 ∧ RuOk bs (tell bs cs).2 ∧ ∀ t, lawOff bs (tell bs cs).2 t = compOff b1 c1 b2 [] t := by
  have lb : bs.length = b1.length := by rw [eb, List.length_map, List.length_range]
  have l0 : 0 < bs.length := by rw [lb]; exact k1.l0
  have ac : cs.Pairwise fun a b => a.1 < b.1 := by
    rw [ec]
    exact List.pairwise_map.mpr asc
  have key : ∀ t, lawOff bs cs t = compOff b1 c1 b2 [] t := by
    refine tells (g := fun t => compOff b1 c1 b2 [] t) l0 ac (fun c hc => ?_) (fun t ht => ?_) ?_
    · rw [ec] at hc
      obtain ⟨t, _, rfl⟩ := List.mem_map.mp hc
      rfl
    · rw [ec, keys_of] at ht
      have n1 : t ∉ c1.map (·.1) := fun z => ht ((mem t).mpr z)
      show compOff _ _ _ _ _ = compOff _ _ _ _ _
      unfold compOff
      rw [lawOff_prev k1.l0 n1, lb]
      congr 1
      show wkOff b2 _ = wkOff b2 _
      rw [← wk_prev (bs := b2) (t + _), ← hl]
      congr 1
      omega
    · obtain ⟨lo, le, hlo⟩ := low_of c1 0
      refine ⟨lo, fun t ht => ?_⟩
      show compOff _ _ _ _ _ = _
      unfold compOff
      rw [lawOff_lo fun c hc => by have := hlo c hc; omega]
      obtain ⟨i, hi, e1, e2⟩ := wk_range (f := fun (i : Nat) => b1.getD i 0 + wkOff b2 ((i : Int) + b1.getD i 0)) k1.l0 t
      rw [eb, e2, wk_getD e1]
      congr 1
      show wkOff b2 _ = wkOff b2 _
      unfold wkOff
      rw [e1, ← hl, Int.emod_add_emod]
  have rise := risesC_of l0 ac key fun t => by
    have a := k2.le (show val b1 c1 t ≤ val b1 c1 (t + 1) from k1.le (by omega))
    unfold compOff
    unfold val at a
    omega
  exact ⟨lb, ac, rise, ruOk_of l0 (by rw [lb]; exact k1.l1) ac rise, fun t => by rw [tell_law l0 cs ac]; exact key t⟩
def fPass0 : FD := fun ds n K => ∃ b1 c1 b2, ds = [.obj (.rul b1 c1), .obj (.rul b2 [])] ∧ c1.length ≤ 990 ∧ ∀ ks : List Int, ks.Pairwise (· < ·) → (∀ k, k ∈ ks ↔ k ∈ c1.map (·.1)) → ks.length ≤ c1.length → K (dInt ks) n
def fJointC : FD := fun ds n K => ∃ b1 c1 b2 c2 ks, ds = [.obj (.rul b1 c1), .obj (.rul b2 c2), dInt ks] ∧ RuOk b1 c1 ∧ RuOk b2 c2 ∧ ks.length ≤ 1000 ∧ K (dPrs (ks.map fun t => (t, compOff b1 c1 b2 c2 t))) n
def fShr0 : FD := fun ds n K => ∃ b1 c1 b2, ds = [.obj (.rul b1 c1), .obj (.rul b2 [])] ∧ RuOk b1 c1 ∧ RuOk b2 [] ∧ b1.length = b2.length ∧ c1.length ≤ 990 ∧ ∀ bs cs, RuOk bs cs → bs.length = b1.length → (∀ t, lawOff bs cs t = compOff b1 c1 b2 [] t) → cs.length ≤ c1.length → K (.obj (.rul bs cs)) n
theorem isR_one {b1 : List Int} {c1 : List (Int × Int)} : ∀ d ∈ [DV.obj (.rul b1 c1)], d.isR = true := fun d hd => by
  obtain rfl := List.mem_singleton.mp hd
  rfl
section
variable {P : Program} {w : World} {K : PySem.W.Frag} {mg : Str → Option Value} {base : Heap}
theorem scPassing : FnScope ["one", "other", "passed", "moment", "start"] ["one", "other"] (defScope sPassing) := ⟨rfl, rfl, rfl, by decide +kernel, rfl, by decide +kernel, by decide +kernel⟩
theorem ok_pass0 {f R L fC fL : Addr} {fd dL : FuncData} (F : Fun K "passing_moments" "passing_moments" sPassing f fd) (ZR : RuC K mg R) (T : Blt mg) (T5 : Blt5 mg) (nset : mg "set" = none) (ChM : AtR P w K mg base 3 "changed_moments" (spMoms (ThR R L)) fC)
    (hRL : Meth K R "latest_start" fL) (GRL : FnOk P w K mg base CX0 3 fL dL ["self", "goal"] (spRuLat R L)) (bRL : Binds K dL ["self", "goal"] []) : FnOk P w K mg base CX0 4 f fd ["one", "other"] (spD (Wr R L) fPass0) := by
  refine okD F scPassing (Wr R L) fPass0 (fun ds n K h => ?_) (fun p cdv A outer s H E hr => ?_)
  · obtain ⟨b1, c1, b2, rfl, _⟩ := h
    rfl
  · have hr3 : Room 3 _ := hr.mono (by decide)
    refine ⟨_, _, (dss_cons (ds_setLc2 (i := 2) (own := [("moment", 3), ("start", 4)]) (vs1 := [4]) rfl scPassing.nd rfl rfl (sw_true rfl rfl rfl (by decide +kernel)) (di_list (de_moms ChM.ok hr3 ChM.at_ ChM.kp (da_cons (dv 1) da_nil)))
          (blkOk_by (N := ["one", "other", "passed", "moment", "start"]) (sc := defScope sPassing) (by decide +kernel)) (by decide) (fun _ _ _ _ _ => (dg_name (i := 3) scPassing.nd rfl (.inl rfl))) (fun _ _ _ _ _ => dts_nil)
          (fun _ _ _ _ _ => di_range2 (by rfl) T.range (da_cons (de_op op_add rd_I0 (de_meth (dv 0) ZR.cl hRL GRL rd_lat hr3 bRL (da_cons (de_op op_sub rd_I0 (dv 3) de_int) da_nil)) de_int) (da_cons (de_op op_add rd_I0 (de_meth (dv 0) ZR.cl hRL GRL rd_lat hr3 bRL (da_cons (dv 3) da_nil)) de_int) da_nil)))
          (fun _ _ _ _ _ => (dg_name (i := 4) scPassing.nd rfl (.inl rfl))) (fun _ _ _ _ _ => dts_nil) (fun _ _ _ _ _ => (dv 4)))
      (dss_one (ds_ret (de_f (df_SS rfl (by rfl) T5.sorted (by rfl) nset (dq (de_f (df_cat (dq (de_moms ChM.ok hr3 ChM.at_ ChM.kp (da_cons (dv 0) da_nil))) (dq (dv 2)))))))))), fun ds n K h => ?_⟩
    obtain ⟨b1, c1, b2, rfl, hc, k⟩ := h
    refine ⟨isR_one, (by decide : 1 ≤ 900), by show 0 ≤ 2000; decide, fun ks0 _ mem0 le0 => ?_⟩
    obtain rfl : ks0 = [] := List.length_eq_zero_iff.mp (Nat.le_zero.mp le0)
    refine ⟨fun i acc m => acc = [] ∧ m = n, ⟨rfl, rfl⟩, fun i acc m hi => absurd hi (Nat.not_lt_zero _), ?_⟩
    rintro acc m ⟨rfl, rfl⟩
    have em : movesOf [DV.obj (.rul b1 c1)] = c1 := by
      show c1 ++ [] = _
      rw [List.append_nil]
    refine ⟨isR_one, (by decide : 1 ≤ 900), by rw [em]; omega, fun ks asc mem le => ?_⟩
    rw [em] at mem le
    refine ⟨by rw [List.length_map]; show ks.length + 0 ≤ 100000; omega, ks, by rw [List.append_nil], by omega, fun ys ya ym yl => ?_⟩
    exact k ys ya (fun z => (ym z).trans (mem z)) (by omega)
theorem scJoint : FnScope ["one", "other", "moments", "moment"] ["one", "other", "moments"] (defScope sJoint) := ⟨rfl, rfl, rfl, by decide +kernel, rfl, by decide +kernel, by decide +kernel⟩
theorem ok_joint {f R L fA : Addr} {fd dA : FuncData} (F : Fun K "joint_changes" "joint_changes" sJoint f fd) (ZR : RuC K mg R) (hRA : Meth K R "answer" fA) (GRA : FnOk P w K mg base CX0 4 fA dA ["self", "moment"] (spRuAns R L)) (bRA : Binds K dA ["self", "moment"] []) : FnOk P w K mg base CX0 5 f fd ["one", "other", "moments"] (spD (Wr R L) fJointC) := by
  refine okD F scJoint (Wr R L) fJointC (fun ds n K h => ?_) (fun p cdv A outer s H E hr => ?_)
  · obtain ⟨b1, c1, b2, c2, ks, rfl, _⟩ := h
    rfl
  · 
    have hr4 : Room 4 _ := hr.mono (by decide)
    refine ⟨_, _, (dss_one (ds_ret (de_f (df_lc (own := [("moment", 3)]) rfl scJoint.nd (di_list (dv 2))
          (blkOk_by (N := ["one", "other", "moments", "moment"]) (sc := defScope sJoint) (by decide +kernel)) (fun _ _ _ _ _ => (dg_name (i := 3) scJoint.nd rfl (.inl rfl))) (fun _ _ _ _ _ => dts_nil)
          (fun _ _ _ _ _ => (de_tup (da_cons (dv 3) (da_cons (de_op op_sub rd_I0 (de_meth (dv 1) ZR.cl hRA GRA rd_ans hr4 bRA (da_cons (de_meth (dv 0) ZR.cl hRA GRA rd_ans hr4 bRA (da_cons (dv 3) da_nil)) da_nil)) (dv 3)) da_nil)))))))), fun ds n K h => ?_⟩
    obtain ⟨b1, c1, b2, c2, ks, rfl, k1, k2, hk, k⟩ := h
    refine ⟨by rw [List.length_map]; omega, fun i acc m => acc = (List.range i).map (fun (i : Nat) => dPr (ks.getD i 0, ks.getD i 0 + offAt b1 c1 (ks.getD i 0) + offAt b2 c2 (ks.getD i 0 + offAt b1 c1 (ks.getD i 0)) - ks.getD i 0)) ∧ m = n, ⟨rfl, rfl⟩, ?_, ?_⟩
    · rintro i acc m hi ⟨rfl, rfl⟩
      rw [List.length_map] at hi
      simp only [getD_intr hi]
      exact ⟨fun _ => ⟨rfl, rfl, two1000r, acc_mapr rfl, rfl⟩, fun z => nomatch z⟩
    rintro acc m ⟨rfl, rfl⟩
    have e2 : (List.range (ks.map DV.int).length).map (fun (i : Nat) => dPr (ks.getD i 0, ks.getD i 0 + offAt b1 c1 (ks.getD i 0) + offAt b2 c2 (ks.getD i 0 + offAt b1 c1 (ks.getD i 0)) - ks.getD i 0)) = (ks.map fun t => (t, compOff b1 c1 b2 c2 t)).map dPr := by
      rw [List.length_map, List.map_map, range_mapr ks 0 fun t => dPr (t, t + offAt b1 c1 t + offAt b2 c2 (t + offAt b1 c1 t) - t)]
      refine List.map_congr_left fun t _ => ?_
      show dPr (t, t + offAt b1 c1 t + offAt b2 c2 (t + offAt b1 c1 t) - t) = dPr (t, compOff b1 c1 b2 c2 t)
      rw [k1.off, k2.off]
      unfold compOff
      rw [show t + lawOff b1 c1 t + lawOff b2 c2 (t + lawOff b1 c1 t) - t = lawOff b1 c1 t + lawOff b2 c2 (t + lawOff b1 c1 t) by omega]
    rw [e2]
    exact k
theorem scRuShr : FnScope ["self", "other", "follow", "base", "rest", "offset"] ["self", "other"] (defScope sRuShr) := ⟨rfl, rfl, rfl, by decide +kernel, rfl, by decide +kernel, by decide +kernel⟩
theorem ok_ruShr {f R L fW fJ fP fI p2 g2 : Addr} {fd dW dJ dP dI d2 : FuncData} (F : Fun K "__rshift__" "Rule.__rshift__" sRuShr f fd) (ZR : RuC K mg R) (T : Blt mg) (ne : mg "enumerate" = none) (Wk : At P w K mg base 3 "check_weeks" ["one", "other"] (spD (Wr R L) fWeeks) fW dW)
    (Jo : At P w K mg base 5 "joint_changes" ["one", "other", "moments"] (spD (Wr R L) fJointC) fJ dJ) (Ps : At P w K mg base 4 "passing_moments" ["one", "other"] (spD (Wr R L) fPass0) fP dP)
    (V2 : Pp P w K mg base R "base" (spRuBase R L) p2 g2 d2)
    (MKR : Mk K R fI) (GRI : FnOk P w K mg base CX0 5 fI dI ["self", "base", "changes"] (spRuI R L K)) (bRI : Binds K dI ["self", "base", "changes"] []) : FnOk P w K mg base CX0 7 f fd ["self", "other"] (spD (Wr R L) fShr0) := by
  refine okD F scRuShr (Wr R L) fShr0 (fun ds n K h => ?_) (fun p cdv A outer s H E hr => ?_)
  · obtain ⟨b1, c1, b2, rfl, _⟩ := h
    rfl
  · have hr3 : Room 3 _ := hr.mono (by decide)
    have hr4 : Room 4 _ := hr.mono (by decide)
    have hr5 : Room 5 _ := hr.mono (by decide)
    have hr2 : Room 2 _ := hr.mono (by decide)
    have hr6 : Room 6 _ := hr.mono (by decide)
    refine ⟨_, _, (dss_cons (ds_expr (de_call Wk.ok (rd_spD rfl) hr3 Wk.at_ Wk.kp Wk.bi (da_cons (dv 0) (da_cons (dv 1) da_nil))))
      (dss_cons (ds_set (i := 2) scRuShr.nd rfl (.inr rfl) (de_f (df_base (dv 1) ZR.cl V2.of V2.ok hr2 V2.bi)))
      (dss_cons (ds_setLc (i := 3) (g := (gTup K 2 (gCons (gName 4) (gCons (gName 5) gNil)))) (te := tOp _ (tVar 5) (tOp (rIxL K) (tVar 2) (tOp _ _ (tCB (fun xs H Q => ∃ p ys, xs = [.ref p] ∧ (SqL K H p ys ∨ SqT K H p ys) ∧ Q (.int ys.length) H) (tCons (tVar 2) tNil))))) (own := [("rest", 4), ("offset", 5)]) rfl scRuShr.nd rfl rfl (sw_true rfl rfl rfl (by decide +kernel)) (di_enum (by rfl) ne (da_cons (de_baseF ZR (dv 0)) da_nil))
          (blkOk_by (N := ["self", "other", "follow", "base", "rest", "offset"]) (sc := defScope sRuShr) (by decide +kernel)) (fun _ _ _ _ _ => (dg_tup rfl (dgs_cons (dg_name (i := 4) scRuShr.nd rfl (.inl rfl)) (dgs_cons (dg_name (i := 5) scRuShr.nd rfl (.inl rfl)) dgs_nil)) (.cons (.cons .nil)))) (fun _ _ _ _ _ => dts_nil)
          (fun _ _ _ _ _ => (de_op op_add rd_I0 (dv 5) (de_ixL (dq (dv 2)) (de_op op_mod rd_I (de_op op_add rd_I0 (dv 4) (dv 5)) (de_bQ call_len_seq (by rfl) T.len PySem.boot_len rd_len (dq (dv 2))))))))
      (dss_one (ds_ret (let A := (da_cons (dv 3) (da_cons (de_call Jo.ok (rd_spD rfl) hr5 Jo.at_ Jo.kp Jo.bi (da_cons (dv 0) (da_cons (dv 1) (da_cons (de_call Ps.ok (rd_spD rfl) hr4 Ps.at_ Ps.kp Ps.bi (da_cons (dv 0) (da_cons (dv 1) da_nil))) da_nil)))) da_nil)); de_make MKR GRI (trE_rule A.tr) hr6 ZR.at_ bRI A.pa)))))), fun ds n K h => ?_⟩
    obtain ⟨b1, c1, b2, rfl, k1, k2, hl, hc, k⟩ := h
    refine ⟨b1, c1, b2, [], rfl, hl, ?_⟩
    have l11 := k1.l1
    have l20 := k2.l0
    refine ⟨by rw [List.length_map]; omega, fun i acc m => acc = (List.range i).map (fun (i : Nat) => DV.int (b1.getD i 0 + wkOff b2 ((i : Int) + b1.getD i 0))) ∧ m = n, ⟨rfl, rfl⟩, ?_, ?_⟩
    · rintro i acc m hi ⟨rfl, rfl⟩
      rw [List.length_map] at hi
      simp only [getD_intr hi]
      have el : (((b2.map DV.int).length : Nat) : Int) = b2.length := by rw [List.length_map]
      exact ⟨fun _ => ⟨by rw [el]; omega, .int (wkOff b2 ((i : Int) + b1.getD i 0)), by rw [el]; exact atI_wkD l20, acc_mapr rfl, rfl⟩, fun z => nomatch z⟩
    rintro acc m ⟨rfl, rfl⟩
    refine ⟨b1, c1, b2, rfl, hc, fun ks asc mem le => ?_⟩
    refine ⟨b1, c1, b2, [], ks, rfl, k1, k2, by omega, ?_⟩
    have e1 : (List.range (b1.map DV.int).length).map (fun (i : Nat) => DV.int (b1.getD i 0 + wkOff b2 ((i : Int) + b1.getD i 0))) = ((List.range b1.length).map fun (i : Nat) => b1.getD i 0 + wkOff b2 ((i : Int) + b1.getD i 0)).map DV.int := by
      rw [List.length_map, List.map_map]
      rfl
    obtain ⟨lb, ac, rise, ro, key⟩ := composed k1 k2 hl asc mem rfl rfl
    rw [e1]
    refine ⟨_, _, rfl, by rw [lb]; exact k1.l0, by rw [lb]; omega, by rw [List.length_map]; omega, ac, rise, k _ _ ro lb key ?_⟩
    have := (tell_sub ((List.range b1.length).map fun (i : Nat) => b1.getD i 0 + wkOff b2 ((i : Int) + b1.getD i 0)) (ks.map fun t => (t, compOff b1 c1 b2 [] t))).length_le
    rw [List.length_map] at this
    omega
end

/-! ### operators of own classes -/
section
variable {X : Cx} {k : Nat} {f C : Addr} {fd : FuncData} {ps : List Str} {sp : Sp}
theorem run_in1 {pins : List (Addr × Obj)} {σ : L2.St} {H : Hp} {s : Shared} {Q : VK} {us : List Value} {vs : List V} (F : FnOk X.prog X.w X.K X.mg X.base CX0 k f fd ps sp) (hr : Room (k + 1) X.A)
    (hb : Binds X.K fd ps []) (I : Inv X pins σ H s) (r : Vals vs us) (h : sp vs H Q E0) : wpAny (model X.prog X.w) X.A.in1 (call (.ref f) us) (EP X pins σ Q) X.xe s := by
  have hl : us.length = ps.length := r.length.symm.trans (F.len _ _ _ _ h)
  have bi := hb s us I.kIn (by rw [List.append_nil]; exact hl)
  rw [List.append_nil] at bi
  refine wpAny_call (codeAny_mono (F.run X.A.in1 X.stack s H ⟨us, []⟩ us vs Q E0 hr.in1 I.env0.in1 bi r h) fun res s2 hq => ?_)
  rcases res with er | fl
  · exact False.elim hq
  · rcases fl with _ | _ | _ | u
    iterate 3 exact False.elim hq
    exact I.after hq
theorem run_here {pins : List (Addr × Obj)} {σ : L2.St} {H : Hp} {s : Shared} {Q : VK} {us : List Value} {vs : List V} (F : FnOk X.prog X.w X.K X.mg X.base CX0 k f fd ps sp) (hr : Room k X.A)
    (hb : Binds X.K fd ps []) (I : Inv X pins σ H s) (r : Vals vs us) (h : sp vs H Q E0) : wpAny (model X.prog X.w) X.A (call (.ref f) us) (EP X pins σ Q) X.xe s := by
  have q : sp (vs ++ []) H Q E0 := by rw [List.append_nil]; exact h
  exact run_fn F hr hb .nil pass0 I r q
/-- what stands behind x[i], i in x of an own class -/
structure Own (K : PySem.W.Frag) (C : Addr) (m : Str) (f : Addr) : Prop where
  at_ : PySem.W.findIn K (.ref C) m = some (some (.ref f))
  fn : PySem.W.isFn K (.ref f) = true
  fi : PySem.W.fnIn K f = true
def rOwn (C : Addr) (sp : Sp) : R2 := fun x y H Q => ∃ a dx fs, x = .ref a ∧ H a = some (.ins C dx fs) ∧ sp [.ref a, y] H Q E0
theorem ix_own (o : Own X.K C "__getitem__" f) (F : FnOk X.prog X.w X.K X.mg X.base CX0 k f fd ps sp) (hr : Room (k + 1) X.A) (hb : Binds X.K fd ps [])
    {a b : Expr} {ta tb : TE} {pos : Pos} (ha : PE X a ta) (hi : PE X b tb)
    (hsl : ∀ (x : Addr) (i : Value), subscripted b true (.ref x) i = runValue (.builtin "lifetime.subscript" ⟨[.ref x, i], []⟩) := by intro _ _; with_unfolding_all rfl) :
    PE X (.Subscript a b pos) (tOp (rOwn C sp) ta tb) := by
  refine ⟨fun pins s σ H Q I h => ?_⟩
  refine Subscript_ (binT ha hi I h fun v u s2 x y H2 I2 rx ry q => ?_)
  obtain ⟨p, dx, fs, rfl, ea, hq⟩ := q
  obtain rfl : v = Value.ref p := rx
  obtain ⟨m, fr⟩ := I2.fr
  obtain ⟨mA, O, _⟩ := ins_get I2.hok ea
  obtain ⟨od, J, _⟩ := O.look
  exact PySem.W.sub_K fr I2.ok.mod.kin J o.at_ o.fi o.fn (run_in1 F hr hb I2 (.cons (show L2.RelV (V.ref p) (Value.ref p) from rfl) (.cons ry .nil)) hq) (hsl p u)
def rIn (C : Addr) (sp : Sp) : R2 := fun y x H Q => ∃ a dx fs, x = .ref a ∧ H a = some (.ins C dx fs) ∧ sp [.ref a, y] H (fun r H' => ∃ b, r = .bl b ∧ Q (.bl b) H') E0
theorem op_inOwn (o : Own X.K C "__contains__" f) (F : FnOk X.prog X.w X.K X.mg X.base CX0 k f fd ps sp) (hr : Room k X.A) (hb : Binds X.K fd ps []) : OpR X (compareOp .In) (rIn C sp) := by
  intro pins s σ H y x v u Q I ry rx h
  obtain ⟨p, dx, fs, rfl, ea, hq⟩ := h
  obtain rfl : u = Value.ref p := rx
  obtain ⟨m, fr⟩ := I.fr
  obtain ⟨mA, O, _⟩ := ins_get I.hok ea
  obtain ⟨od, J, _⟩ := O.look
  refine PySem.W.in_K fr I.ok.mod.kin J o.at_ o.fn (thn (run_here F hr hb I (.cons (show L2.RelV (V.ref p) (Value.ref p) from rfl) (.cons ry .nil)) hq) fun r s2 ⟨z, H2, I2, rz, b, eb, q2⟩ => ?_)
  subst eb
  obtain rfl : r = Value.bool b := rz
  exact wpAny_truthy_bool ⟨.bl b, H2, I2, rfl, q2⟩
end

/-! ### a | b and a & b of own classes -/
section
variable {X : Cx} {k : Nat} {f C : Addr} {fd : FuncData} {ps : List Str} {sp : Sp}
def rBin (C : Addr) (sp : Sp) : R2 := fun x y H Q => ∃ a b dx dy fs gs, x = .ref a ∧ y = .ref b ∧ H a = some (.ins C dx fs) ∧ H b = some (.ins C dy gs) ∧ sp [.ref a, .ref b] H (fun r H' => (∃ c, r = .ref c) ∧ Q r H') E0
theorem op_binOwn {op : Operator} (o : Own X.K C (PySem.dunder op.info.2) f) (first : PySem.W.selfFirst X.K C = true) (F : FnOk X.prog X.w X.K X.mg X.base CX0 k f fd ps sp) (hr : Room k X.A) (hb : Binds X.K fd ps []) : OpR X (binaryOp op) (rBin C sp) := by
  intro pins s σ H x y v u Q I rx ry h
  obtain ⟨a, b, dx, dy, fs, gs, rfl, rfl, ea, eb, hq⟩ := h
  obtain rfl : v = Value.ref a := rx
  obtain rfl : u = Value.ref b := ry
  obtain ⟨m, fr⟩ := I.fr
  obtain ⟨mA, O, _⟩ := ins_get I.hok ea
  obtain ⟨od, J, _⟩ := O.look
  obtain ⟨mB, O2, _⟩ := ins_get I.hok eb
  obtain ⟨od2, J2, _⟩ := O2.look
  refine PySem.W.binop_K fr I.ok.mod.kin J J2.type first o.at_ o.fn (thn (run_here F hr hb I (.cons (show L2.RelV (V.ref a) (Value.ref a) from rfl) (.cons (show L2.RelV (V.ref b) (Value.ref b) from rfl) .nil)) hq) fun r s2 hh => ?_)
  obtain ⟨z, H2, I2, rz, ⟨c, ec⟩, q2⟩ := hh
  subst ec
  obtain rfl : r = Value.ref c := rz
  exact ⟨.ref c, H2, I2, rfl, q2⟩
end

/-! ### == and != of own objects with anything -/
namespace EX
open PySem PySem.W PySem.Calls
section
variable {prog : Program} {w : World} {A : Around} {E : Value → Shared → Prop} {s : Shared} {K : Frag} {x C f : Addr} {ox : Obj} {od : Option Obj} {b tb : Value}
theorem rc_own {op : CmpOp} {Q : Value → Shared → Prop} (hu : A.units < cLine) (X : K.In s.heap) (I : InstAt s.heap x ox C od) (hb : Looks (model prog w) s.heap (typeOf b) tb) (hn : notFirst K C tb = true)
    (one : wpAny (model prog w) A (tryCompare (.ref x) (cmpInfo op).2.1 b) (fun r s' => ∃ v, r = some v ∧ Q v s') E s) : wpAny (model prog w) A (richCompare op (.ref x) b) Q E s := by
  unfold richCompare
  simp only [oneThing_ref]
  refine wpAny_holding (wpAny_bind (wpAny_cRoomFor hu ?_))
  refine wpAny_bind (I.type.here (wpAny_bind (hb.here ?_)))
  split
  · rename_i q
    have e : subIn K tb (.ref C) = some false := by
      rcases Bool.or_eq_true_iff.mp hn with e | e
      · rw [beq_iff_eq.mp e] at q; simp at q
      · exact beq_iff_eq.mp e
    refine wpAny_bind ((looks_subIn X e).here ?_)
    simp only [Bool.false_eq_true, if_false]
    refine wpAny_bind (wpAny_mono one (fun r s' z => ?_) fun _ _ e => e)
    obtain ⟨v, rfl, hq⟩ := z
    exact wpAny_pure hq
  · refine wpAny_bind (wpAny_pure ?_)
    simp only [Bool.false_eq_true, if_false]
    refine wpAny_bind (wpAny_mono one (fun r s' z => ?_) fun _ _ e => e)
    obtain ⟨v, rfl, hq⟩ := z
    exact wpAny_pure hq
theorem try_eq {Q : Value → Shared → Prop} (X : K.In s.heap) (I : InstAt s.heap x ox C od) (hs : findIn K (.ref C) "__eq__" = some (some (.ref f))) (hf : isFn K (.ref f) = true)
    (h : wpAny (model prog w) A (call (.ref f) [.ref x, b]) (PySem.W.CmpBack Q) E s) : wpAny (model prog w) A (tryCompare (.ref x) "__eq__" b) (fun r s' => ∃ v, r = some v ∧ Q v s') E s := by
  unfold tryCompare
  refine wpAny_bind (ifBound_K X I hs hf (wpAny_mono h (fun v s' hv => ?_) fun _ _ e => e))
  cases v <;> first | exact hv.elim | exact wpAny_pure ⟨_, rfl, hv⟩
theorem obj_ne {Q : Fin → Shared → Prop} (hu : A.units < cLine) (X : K.In s.heap) (I : InstAt s.heap x ox C od) (hs : findIn K (.ref C) "__eq__" = some (some (.ref f))) (hf : isFn K (.ref f) = true)
    (h : wpAny (model prog w) A (call (.ref f) [.ref x, b]) (fun v s' => ∃ r : Bool, v = .bool r ∧ Q (.done (.ret (.bool (!r)))) s') E s) : wpAny (model prog w) A (Builtin.«object.__ne__» ⟨[.ref x, b], []⟩) Q E s := by
  obtain ⟨hp, g, d, t, os⟩ := s
  unfold Builtin.«object.__ne__»
  repeat (first
    | with_reducible refine wpAny_cRoomFor hu ?_
    | (refine wpAny_bind (m := callSpecialIfBound? (.ref x) (Str.ofString "__eq__") [b])
        (ifBound_K X I hs hf (wpAny_mono h (fun v s' hv => by
          obtain ⟨r, rfl, hq⟩ := hv
          repeat (first | exact hq | exact wpAny_pure hq | exact wpAny_truthy_bool hq | (refine wpAny_bind (m := truthy (.bool _)) (wpAny_truthy_bool ?_)) | wp_step)) fun _ _ e => e)))
    | wp_step)
theorem try_ne {Q : Value → Shared → Prop} (hu : A.units + 1 < cLine) (X : K.In s.heap) (I : InstAt s.heap x ox C od) (hs : findIn K (.ref C) "__eq__" = some (some (.ref f))) (hf : isFn K (.ref f) = true)
    (hne : findIn K (.ref C) "__ne__" = some (some (.builtin "object.__ne__"))) (hob : mroIn K C (.type "object") = some true)
    (h : wpAny (model prog w) A.in1 (call (.ref f) [.ref x, b]) (fun v s' => ∃ r : Bool, v = .bool r ∧ Q (.bool (!r)) s') E s) : wpAny (model prog w) A (tryCompare (.ref x) "__ne__" b) (fun r s' => ∃ v, r = some v ∧ Q v s') E s := by
  unfold tryCompare
  simp only [callSpecialIfBound?, bindSpecialIfBound?]
  refine wpAny_bind (wpAny_holding (wpAny_bind (wpAny_bind (wpAny_bind (I.type.here ((looks_findIn X hne).here ?_))))))
  have sub : Looks (model prog w) s.heap (isInstance (.ref x) (.type "object")) true := I.type.andThen (looks_mroIn X hob)
  have fin : wpAny (model prog w) A (call (.builtin "object.__ne__") ([.ref x] ++ [b]) >>= fun v => pure (some v)) (fun r s' => match r with | some v => ∃ z : Bool, v = .bool z ∧ Q v s' | none => False) E s := by
    refine wpAny_bind (wpAny_call (codeAny_call_builtin F.cmp_object.ne.plain F.cmpEntry_ne (@PySem.W.check_slot (model prog w) _ _ s "object.__ne__" "object" "__ne__" (.ref x) [b] [] _ F.cmpKind_ne F.cmpSplit_ne sub (F.cmpArgs_ne _ _) (obj_ne (A := A.in1) hu X I hs hf (wpAny_mono h (fun v s' hv => ?_) fun _ _ e => e)))))
    obtain ⟨r, rfl, hq⟩ := hv
    exact ⟨r, rfl, wpAny_pure ⟨_, rfl, hq⟩⟩
  refine wpAny_bind (wpAny_askSetting (wpAny_ite ?_))
  have b1 := F.cmp_object.ne.bind (.ref x)
  have fin2 := wpAny_mono fin (Q' := fun a s' => wpAny (model prog w) A (match a with
      | some Value.notImplemented => pure none
      | none => pure none
      | some v => pure (some v)) (fun r s' => ∃ v, r = some v ∧ Q v s') E s') (fun r s' hv => by
    cases r with
    | none => exact hv.elim
    | some v =>
      obtain ⟨z, rfl, hq⟩ := hv
      exact wpAny_pure ⟨_, rfl, hq⟩) (fun _ _ e => e)
  rw [b1]
  split
  · exact wpAny_bind (wpAny_pure (wpAny_pure (by exact fin2)))
  · exact wpAny_tryCatch (wpAny_bind (wpAny_pure (wpAny_pure (by exact fin2))))
end
end EX
section
variable {X : Cx} {n : Nat} {f C : Addr} {fd : FuncData} {ps : List Str} {sp : Sp}
def rOO (g : Bool → Bool) (C : Addr) (sp : Sp) : R2 := fun x y H Q => ∃ a b dx dy fs gs, x = .ref a ∧ y = .ref b ∧ H a = some (.ins C dx fs) ∧ H b = some (.ins C dy gs) ∧ sp [.ref a, .ref b] H (fun r H' => ∃ c : Bool, r = .bl c ∧ Q (.bl (g c)) H') E0
structure EqQ (K : PySem.W.Frag) (C f : Addr) : Prop where
  hs : PySem.W.findIn K (.ref C) "__eq__" = some (some (.ref f))
  hf : PySem.W.isFn K (.ref f) = true
  ne : PySem.W.findIn K (.ref C) "__ne__" = some (some (.builtin "object.__ne__"))
  ob : PySem.W.mroIn K C (.type "object") = some true
theorem op_neOO (F : FnOk X.prog X.w X.K X.mg X.base CX0 n f fd ps sp) (k : EqQ X.K C f) (hb : Binds X.K fd ps []) (hr : Room (n + 1) X.A) : OpR X (compareOp .NotEq) (rOO not C sp) := by
  intro pins s σ H x y v u Q I rx ry h
  obtain ⟨a, b, dx, dy, fs, gs, rfl, rfl, ea, eb, hq⟩ := h
  obtain rfl : v = Value.ref a := rx
  obtain rfl : u = Value.ref b := ry
  obtain ⟨mA, O, _⟩ := ins_get I.hok ea
  obtain ⟨od, J, _⟩ := O.look
  obtain ⟨mB, O2, _⟩ := ins_get I.hok eb
  obtain ⟨od2, J2, _⟩ := O2.look
  show wpAny (model X.prog X.w) X.A (richCompare .NotEq (.ref a) (.ref b)) (EP X pins σ Q) X.xe s
  refine EX.rc_own (tb := .ref C) hr.units0 I.kIn J J2.type (by simp [PySem.W.notFirst]) (EX.try_ne (by have := hr.units; omega) I.kIn J k.hs k.hf k.ne k.ob (thn (run_in1 F hr hb I (.cons (show L2.RelV (V.ref a) (Value.ref a) from rfl) (.cons (show L2.RelV (V.ref b) (Value.ref b) from rfl) .nil)) hq) fun r s2 hh => ?_))
  obtain ⟨z, H2, I2, rz, c, ec, q2⟩ := hh
  subst ec
  obtain rfl : r = Value.bool c := rz
  exact ⟨c, rfl, .bl (!c), H2, I2, rfl, q2⟩
theorem op_eqOO (F : FnOk X.prog X.w X.K X.mg X.base CX0 n f fd ps sp) (k : EqQ X.K C f) (hb : Binds X.K fd ps []) (hr : Room (n + 1) X.A) : OpR X (compareOp .Eq) (rOO id C sp) := by
  intro pins s σ H x y v u Q I rx ry h
  obtain ⟨a, b, dx, dy, fs, gs, rfl, rfl, ea, eb, hq⟩ := h
  obtain rfl : v = Value.ref a := rx
  obtain rfl : u = Value.ref b := ry
  obtain ⟨mA, O, _⟩ := ins_get I.hok ea
  obtain ⟨od, J, _⟩ := O.look
  obtain ⟨mB, O2, _⟩ := ins_get I.hok eb
  obtain ⟨od2, J2, _⟩ := O2.look
  show wpAny (model X.prog X.w) X.A (richCompare .Eq (.ref a) (.ref b)) (EP X pins σ Q) X.xe s
  refine EX.rc_own (tb := .ref C) hr.units0 I.kIn J J2.type (by simp [PySem.W.notFirst]) (EX.try_eq I.kIn J k.hs k.hf (thn (run_here F (hr.mono (Nat.le_succ n)) hb I (.cons (show L2.RelV (V.ref a) (Value.ref a) from rfl) (.cons (show L2.RelV (V.ref b) (Value.ref b) from rfl) .nil)) hq) fun r s2 hh => ?_))
  obtain ⟨z, H2, I2, rz, c, ec, q2⟩ := hh
  subst ec
  obtain rfl : r = Value.bool c := rz
  exact ⟨.bl c, H2, I2, rfl, q2⟩
end

/-! ### operators of own classes, over data -/
section
variable {R L : Addr} {p : Option Addr}
theorem Rep.toP {M : Addr → Prop} {H : Hp} {v : V} {d : DV} (h : Rep ((Wr R L).at none) M H v d) : Rep ((Wr R L).at p) M H v d := by
  induction h with
  | int i => exact .int i
  | bl b => exact .bl b
  | non => exact .non
  | str s => exact .str s
  | lst h1 h2 h3 h4 ih => exact .lst h1 h2 h3 ih
  | tup h1 h2 h3 h4 ih => exact .tup h1 h2 h3 ih
  | obj h => exact .obj h
  | pool h => cases h
/-- a rule, or an int -/
def DV.sole : DV → Bool
  | .obj (.rul _ _) => true
  | .int _ => true
  | _ => false
theorem Rep.toN {M : Addr → Prop} {H : Hp} {v : V} {d : DV} (h : Rep ((Wr R L).at p) M H v d) (s : d.sole = true) : Rep ((Wr R L).at none) M H v d := by
  cases h with
  | int i => exact .int i
  | obj h => exact .obj h
  | _ => cases s
theorem rul_ins {M : Addr → Prop} {H : Hp} {v : V} {d : DV} (h : Rep ((Wr R L).at p) M H v d) (r : d.isR = true) : ∃ a dx fs, v = .ref a ∧ H a = some (.ins R dx fs) := by
  unfold DV.isR at r
  split at r
  · obtain ⟨x, av, rfl, ru, _⟩ := rul_inv h
    obtain ⟨dx, b, c, l, ts, las, h1, _⟩ := id ru
    exact ⟨x, dx, _, rfl, h1⟩
  · cases r
/-- a promise of two values, where no pool is met -/
theorem sp_two {f : FD} {M : Addr → Prop} {H : Hp} {x y : V} {dx dy : DV} {Q : VK} {E : XK} (K : DV → Prop) (dm : ∀ a, M a → IsL H a) (hx : Rep ((Wr R L).at p) M H x dx) (hy : Rep ((Wr R L).at p) M H y dy) (sx : dx.sole = true) (sy : dy.sole = true)
    (c : ∀ r v H', Same H H' → Rep ((Wr R L).at p) M H' v r → K r → Q v H') (h : f [dx, dy] 0 fun r _ => K r) : spD (Wr R L) f [x, y] H Q E :=
  ⟨none, M, [dx, dy], 0, fun r _ => K r, dm, (fun a e => nomatch e), .cons (hx.toN sx) (.cons (hy.toN sy) .nil), fun r m v H' fr _ rv k => c r v H' (fun b o e => fr b o e (fun z => nomatch z)) rv.toP k, h⟩
/-- rule | rule and the like -/
def fBin (f : FD) : DV → DV → (DV → Prop) → Prop := fun x y K => x.isR = true ∧ y.isR = true ∧ f [x, y] 0 fun r _ => r.isR = true ∧ K r
theorem sole_R {d : DV} (h : d.isR = true) : d.sole = true := by
  unfold DV.isR at h
  split at h
  · rfl
  · cases h
theorem rd_bin {f : FD} : RdOp ((Wr R L).at p) (rBin R (spD (Wr R L) f)) (fBin f) := fun M H x y dx dy Q K dm hx hy c h => by
  obtain ⟨h1, h2, h⟩ := h
  obtain ⟨a, d1, f1, rfl, e1⟩ := rul_ins hx h1
  obtain ⟨b, d2, f2, rfl, e2⟩ := rul_ins hy h2
  exact ⟨a, b, d1, d2, f1, f2, rfl, rfl, e1, e2, sp_two (fun r => r.isR = true ∧ K r) dm hx hy (sole_R h1) (sole_R h2) (fun r v H' s rv k => by
    obtain ⟨z, _, _, e, _⟩ := rul_ins rv k.1
    exact ⟨⟨z, e⟩, c r v H' s rv k.2⟩) h⟩
/-- moment in rule -/
def fInD (f : FD) : DV → DV → (DV → Prop) → Prop := fun x y K => x.sole = true ∧ y.isR = true ∧ f [y, x] 0 fun r _ => r.asB fun b => K (.bl b)
theorem rd_inD {f : FD} : RdOp ((Wr R L).at p) (rIn R (spD (Wr R L) f)) (fInD f) := fun M H x y dx dy Q K dm hx hy c h => by
  obtain ⟨h1, h2, h⟩ := h
  obtain ⟨b, d2, f2, rfl, e2⟩ := rul_ins hy h2
  exact ⟨b, d2, f2, rfl, e2, sp_two (fun r => r.asB fun b => K (.bl b)) dm hy hx (sole_R h2) h1 (fun r v H' s rv k => by
    obtain ⟨b, rfl, k⟩ := DV.asB_inv k
    exact ⟨b, rv.bl_inv, c _ _ _ s (.bl _) k⟩) h⟩
/-- rule == rule, rule != rule -/
def fEqD (g : Bool → Bool) (f : FD) : DV → DV → (DV → Prop) → Prop := fun x y K => x.isR = true ∧ y.isR = true ∧ f [x, y] 0 fun r _ => r.asB fun b => K (.bl (g b))
theorem rd_eqD {f : FD} {g : Bool → Bool} : RdOp ((Wr R L).at p) (rOO g R (spD (Wr R L) f)) (fEqD g f) := fun M H x y dx dy Q K dm hx hy c h => by
  obtain ⟨h1, h2, h⟩ := h
  obtain ⟨a, d1, f1, rfl, e1⟩ := rul_ins hx h1
  obtain ⟨b, d2, f2, rfl, e2⟩ := rul_ins hy h2
  exact ⟨a, b, d1, d2, f1, f2, rfl, rfl, e1, e2, sp_two (fun r => r.asB fun b => K (.bl (g b))) dm hx hy (sole_R h1) (sole_R h2) (fun r v H' s rv k => by
    obtain ⟨b, rfl, k⟩ := DV.asB_inv k
    exact ⟨b, rv.bl_inv, c _ _ _ s (.bl _) k⟩) h⟩
end

theorem shaped_ints (xs : List Int) : SeqAt.shaped (dInts xs) = true := by
  have h1 : ∀ xs : List Int, PyData.canLayAll0 (xs.map PyData.int) = true := by
    intro xs
    induction xs with
    | nil => rfl
    | cons x xs ih =>
      rw [List.map_cons]
      show (PyData.canLay0 (.int x) && PyData.canLayAll0 (xs.map PyData.int)) = true
      rw [ih]
      rfl
  have h2 : ∀ xs : List Int, PyData.depthAll (xs.map PyData.int) ≤ 0 := by
    intro xs
    induction xs with
    | nil => exact Nat.zero_le _
    | cons x xs ih =>
      rw [List.map_cons]
      simp only [PyData.depthAll, PyData.depth]
      omega
  unfold SeqAt.shaped dInts
  have e1 : PyData.canLay0 (.list (xs.map PyData.int)) = true := by
    simp only [PyData.canLay0]
    exact h1 xs
  have e2 : PyData.depth (.list (xs.map PyData.int)) ≤ 64 := by
    simp only [PyData.depth]
    have := h2 xs
    omega
  rw [e1, decide_eq_true e2]
  rfl
theorem eqv_ints : ∀ xs ys : List Int, PyData.eqv (dInts xs) (dInts ys) = decide (xs = ys)
  | xs, ys => by
    have h : ∀ xs ys : List Int, PyData.eqvAll (xs.map PyData.int) (ys.map PyData.int) = decide (xs = ys) := by
      intro xs
      induction xs with
      | nil =>
        intro ys
        cases ys <;> rfl
      | cons x xs ih =>
        intro ys
        cases ys with
        | nil => rfl
        | cons y ys =>
          show (PyData.eqv (.int x) (.int y) && PyData.eqvAll (xs.map PyData.int) (ys.map PyData.int)) = _
          rw [ih, show PyData.eqv (.int x) (.int y) = (x == y) from rfl, Bool.eq_iff_iff]
          simp
    show PyData.eqvAll (xs.map PyData.int) (ys.map PyData.int) = _
    exact h xs ys

/-! ### x not in rule; == over rules; starts -/
section
variable {X : Cx} {k : Nat} {f C : Addr} {fd : FuncData} {ps : List Str} {sp : Sp}
def rNotIn (C : Addr) (sp : Sp) : R2 := fun y x H Q => ∃ a dx fs, x = .ref a ∧ H a = some (.ins C dx fs) ∧ sp [.ref a, y] H (fun r H' => ∃ b, r = .bl b ∧ Q (.bl (!b)) H') E0
theorem op_notInOwn (o : Own X.K C "__contains__" f) (F : FnOk X.prog X.w X.K X.mg X.base CX0 k f fd ps sp) (hr : Room k X.A) (hb : Binds X.K fd ps []) : OpR X (compareOp .NotIn) (rNotIn C sp) := by
  intro pins s σ H y x v u Q I ry rx h
  obtain ⟨p, dx, fs, rfl, ea, hq⟩ := h
  obtain rfl : u = Value.ref p := rx
  obtain ⟨m, fr⟩ := I.fr
  obtain ⟨mA, O, _⟩ := ins_get I.hok ea
  obtain ⟨od, J, _⟩ := O.look
  refine PySem.W.notIn_K fr I.ok.mod.kin J o.at_ o.fn (thn (run_here F hr hb I (.cons (show L2.RelV (V.ref p) (Value.ref p) from rfl) (.cons ry .nil)) hq) fun r s2 ⟨z, H2, I2, rz, b, eb, q2⟩ => ?_)
  subst eb
  obtain rfl : r = Value.bool b := rz
  exact wpAny_truthy_bool ⟨.bl (!b), H2, I2, rfl, q2⟩
end
section
variable {R L : Addr} {p : Option Addr}
def fNotInD (f : FD) : DV → DV → (DV → Prop) → Prop := fun x y K => x.sole = true ∧ y.isR = true ∧ f [y, x] 0 fun r _ => r.asB fun b => K (.bl (!b))
theorem rd_notInD {f : FD} : RdOp ((Wr R L).at p) (rNotIn R (spD (Wr R L) f)) (fNotInD f) := fun M H x y dx dy Q K dm hx hy c h => by
  obtain ⟨h1, h2, h⟩ := h
  obtain ⟨b, d2, f2, rfl, e2⟩ := rul_ins hy h2
  exact ⟨b, d2, f2, rfl, e2, sp_two (fun r => r.asB fun b => K (.bl (!b))) dm hy hx (sole_R h2) h1 (fun r v H' s rv k => by
    obtain ⟨b, rfl, k⟩ := DV.asB_inv k
    exact ⟨b, rv.bl_inv, c _ _ _ s (.bl _) k⟩) h⟩
/-- the class itself, by its name -/
theorem de_cls {X : Cx} {pos : Pos} (hg : Gl X "Rule") (hm : X.mg "Rule" = some (.ref R)) : DE X ((Wr R L).at p) (.Name "Rule" pos) (tC (.ref R)) (dC (.obj .cls)) := ⟨C8.pe_gc (v := .ref R) hg ⟨_, hm, rfl⟩, trE_c fun _ _ => .obj rfl⟩
def fIsR : List DV → (DV → Prop) → Prop := fun ds K => ∃ bs cs, ds = [.obj (.rul bs cs), .obj .cls] ∧ K (.bl true)
theorem rd_isR : RdC ((Wr R L).at p) (fun xs H Q => ∃ a dx fs, xs = [.ref a, .ref R] ∧ H a = some (.ins R dx fs) ∧ Q (.bl true) H) fIsR := fun M H vs ds Q K dm ra c h => by
  obtain ⟨bs, cs, rfl, h⟩ := h
  obtain ⟨v, us, rfl, r1, rs⟩ := ra.cons_inv
  obtain ⟨u, rfl, r2⟩ := rs.one_inv
  obtain ⟨a, dx, fs, rfl, e⟩ := rul_ins r1 rfl
  have e2 : u = .ref R := by
    cases r2 with
    | obj h => rw [show _ = R from h]
  rw [e2]
  exact ⟨a, dx, fs, rfl, e, c _ _ _ (fun _ _ e => e) (.bl _) h⟩
/-- == of data -/
def fEqDt : DV → DV → (DV → Prop) → Prop := fun x y K => x.pu = true ∧ y.pu = true ∧ SeqAt.shaped x.py = true ∧ SeqAt.shaped y.py = true ∧ K (.bl (PyData.eqv x.py y.py))
theorem rd_eqDt {W : Wo} {K0 : PySem.W.Frag} : RdOp W (rEqD K0) fEqDt := fun M H x y dx dy Q K _ hx hy c h => by
  obtain ⟨h1, h2, h3, h4, h⟩ := h
  exact ⟨_, _, hx.dp h1, hy.dp h2, h3, h4, c _ _ _ (fun _ _ e => e) (.bl _) h⟩
end
theorem eqv_marks (xs ys : List (Int × Int)) : PyData.eqv (dMarks xs) (dMarks ys) = decide (xs = ys) := by
  have h : ∀ xs ys : List (Int × Int), PyData.eqvAll (xs.map fun m => PyData.tuple [.int m.1, .int m.2]) (ys.map fun m => PyData.tuple [.int m.1, .int m.2]) = decide (xs = ys) := by
    intro xs
    induction xs with
    | nil =>
      intro ys
      cases ys <;> rfl
    | cons x xs ih =>
      intro ys
      cases ys with
      | nil => rfl
      | cons y ys =>
        show ((x.1 == y.1 && (x.2 == y.2 && true)) && PyData.eqvAll (xs.map fun m => PyData.tuple [.int m.1, .int m.2]) (ys.map fun m => PyData.tuple [.int m.1, .int m.2])) = _
        rw [ih, Bool.eq_iff_iff]
        obtain ⟨a, b⟩ := x
        obtain ⟨c, d⟩ := y
        simp
  exact h xs ys
theorem shaped_marks (xs : List (Int × Int)) : SeqAt.shaped (dMarks xs) = true := by
  have h1 : ∀ xs : List (Int × Int), PyData.canLayAll0 (xs.map fun m => PyData.tuple [.int m.1, .int m.2]) = true := by
    intro xs
    induction xs with
    | nil => rfl
    | cons x xs ih =>
      rw [List.map_cons]
      show (PyData.canLay0 (PyData.tuple [.int x.1, .int x.2]) && PyData.canLayAll0 (xs.map fun m => PyData.tuple [.int m.1, .int m.2])) = true
      rw [ih]
      rfl
  have h2 : ∀ xs : List (Int × Int), PyData.depthAll (xs.map fun m => PyData.tuple [.int m.1, .int m.2]) ≤ 1 := by
    intro xs
    induction xs with
    | nil => exact Nat.zero_le _
    | cons x xs ih =>
      rw [List.map_cons]
      simp only [PyData.depthAll, PyData.depth] at ih ⊢
      omega
  unfold SeqAt.shaped dMarks
  have e1 : PyData.canLay0 (.list (xs.map fun m => PyData.tuple [.int m.1, .int m.2])) = true := by
    simp only [PyData.canLay0]
    exact h1 xs
  have e2 : PyData.depth (.list (xs.map fun m => PyData.tuple [.int m.1, .int m.2])) ≤ 64 := by
    simp only [PyData.depth]
    have := h2 xs
    omega
  rw [e1, decide_eq_true e2]
  rfl
theorem py_ints (bs : List Int) : (dInt bs).py = dInts bs := by
  show PyData.list (DV.pyAll (bs.map DV.int)) = _
  rw [pyAll_map, List.map_map]
  rfl
theorem py_prs (cs : List (Int × Int)) : (dPrs cs).py = dMarks cs := by
  show PyData.list (DV.pyAll (cs.map dPr)) = _
  rw [pyAll_map, List.map_map]
  rfl
theorem pu_ints (bs : List Int) : (dInt bs).pu = true := (puAll_iff _).mpr fun d hd => by
  obtain ⟨i, _, rfl⟩ := List.mem_map.mp hd
  rfl
theorem pu_prs (cs : List (Int × Int)) : (dPrs cs).pu = true := (puAll_iff _).mpr fun d hd => by
  obtain ⟨i, _, rfl⟩ := List.mem_map.mp hd
  rfl
def fEqR : FD := fun ds n K => ∃ b1 c1 b2 c2, ds = [.obj (.rul b1 c1), .obj (.rul b2 c2)] ∧ K (.bl (decide (b1 = b2 ∧ c1 = c2))) n
def fHas : FD := fun ds n K => ∃ bs cs u, ds = [.obj (.rul bs cs), .int u] ∧ RuOk bs cs ∧ ∀ r : Bool, (r = true ↔ ∃ t, val bs cs t = u) → K (.bl r) n
def fDelay : FD := fun ds n K => ∃ z v : Int, ds = [.obj .cls, .int z, .int v] ∧ 1 ≤ z ∧ z ≤ 12 ∧ K (.obj (.rul (List.replicate z.toNat v) [])) n
theorem delay_ok {z : Nat} {v : Int} (h0 : 0 < z) (h1 : z ≤ 12) : RuOk (List.replicate z v) [] ∧ ∀ t, lawOff (List.replicate z v) [] t = v := by
  have l : (List.replicate z v).length = z := List.length_replicate
  have e : ∀ t, lawOff (List.replicate z v) [] t = v := fun t => by
    have a := Int.emod_nonneg t (show (z : Int) ≠ 0 by omega)
    have b := Int.emod_lt_of_pos t (show (0 : Int) < z by omega)
    show wkOff _ t = v
    unfold wkOff
    rw [l, List.getD_eq_getElem?_getD, List.getElem?_replicate, if_pos (by omega)]
    rfl
  have l0 : 0 < (List.replicate z v).length := by rw [l]; exact h0
  exact ⟨ruOk_of (cs := []) l0 (by rw [l]; exact h1) .nil (risesC_of l0 .nil e fun _ => by omega), e⟩
def fSoon : FD := fun ds n K => ∃ bs cs u, ds = [.obj (.rul bs cs), .int u] ∧ RuOk bs cs ∧ ∀ s, IsLate bs cs (u - 1) s → K (.int (s + 1)) n
def fStarts : FD := fun ds n K => ∃ bs cs u, ds = [.obj (.rul bs cs), .int u] ∧ RuOk bs cs ∧ ((∀ t, val bs cs t ≠ u) → K .non n) ∧ ∀ a b, IsLate bs cs (u - 1) a → IsLate bs cs u b → (∃ t, val bs cs t = u) → K (.tup [.int (a + 1), .int b]) n
section
variable {P : Program} {w : World} {K : PySem.W.Frag} {mg : Str → Option Value} {base : Heap}
theorem scRuEq : FnScope ["self", "other"] ["self", "other"] (defScope sRuEq) := ⟨rfl, rfl, rfl, by decide +kernel, rfl, by decide +kernel, by decide +kernel⟩
theorem ok_ruEq {f R L : Addr} {fd : FuncData} (F : Fun K "__eq__" "Rule.__eq__" sRuEq f fd) (ZR : RuC K mg R) (isi : mg "isinstance" = none) (IC : C8.InsC K R) : FnOk P w K mg base CX0 1 f fd ["self", "other"] (spD (Wr R L) fEqR) := by
  refine okD F scRuEq (Wr R L) fEqR (fun ds n K h => ?_) (fun p cdv A outer s H E hr => ?_)
  · obtain ⟨b1, c1, b2, c2, rfl, _⟩ := h
    rfl
  · have hu := hr.units
    refine ⟨_, _, (dss_one (ds_ret (de_and (de_b (C8.call_isC IC) (by rfl) isi (by decide +kernel) rd_isR (da_cons (dv 1) (da_cons (de_cls (by rfl) ZR.at_) da_nil))) (de_and (de_cmp (op_eqD hu) rd_eqDt (de_baseF ZR (dv 0)) (de_baseF ZR (dv 1))) (de_one (de_cmp (op_eqD hu) rd_eqDt (de_changesF ZR (dv 0)) (de_changesF ZR (dv 1)))))))), fun ds n K h => ?_⟩
    obtain ⟨b1, c1, b2, c2, rfl, k⟩ := h
    refine ⟨b2, c2, rfl, fun _ => ?_, fun z => nomatch z⟩
    refine ⟨pu_ints _, pu_ints _, by rw [py_ints]; exact shaped_ints _, by rw [py_ints]; exact shaped_ints _, fun g => ?_, fun g => ?_⟩
    · rw [py_ints, py_ints, eqv_ints] at g
      have e := of_decide_eq_true g
      refine ⟨pu_prs _, pu_prs _, by rw [py_prs]; exact shaped_marks _, by rw [py_prs]; exact shaped_marks _, ?_⟩
      have e2 : PyData.eqv (dPrs c1).py (dPrs c2).py = decide (b1 = b2 ∧ c1 = c2) := by
        rw [py_prs, py_prs, eqv_marks]
        exact decide_eq_decide.mpr ⟨fun h => ⟨e, h⟩, fun h => h.2⟩
      rw [e2]
      exact k
    · rw [py_ints, py_ints, eqv_ints] at g
      have e := of_decide_eq_false g
      rw [decide_eq_false fun h : b1 = b2 ∧ c1 = c2 => e h.1] at k
      exact k
theorem scRuHas : FnScope ["self", "x"] ["self", "x"] (defScope sRuHas) := ⟨rfl, rfl, rfl, by decide +kernel, rfl, by decide +kernel, by decide +kernel⟩
theorem ok_ruHas {f R L fA fL : Addr} {fd dA dL : FuncData} (F : Fun K "__contains__" "Rule.__contains__" sRuHas f fd) (ZR : RuC K mg R) (hRA : Meth K R "answer" fA) (GRA : FnOk P w K mg base CX0 4 fA dA ["self", "moment"] (spRuAns R L)) (bRA : Binds K dA ["self", "moment"] [])
    (hRL : Meth K R "latest_start" fL) (GRL : FnOk P w K mg base CX0 3 fL dL ["self", "goal"] (spRuLat R L)) (bRL : Binds K dL ["self", "goal"] []) : FnOk P w K mg base CX0 5 f fd ["self", "x"] (spD (Wr R L) fHas) := by
  refine okD F scRuHas (Wr R L) fHas (fun ds n K h => ?_) (fun p cdv A outer s H E hr => ?_)
  · obtain ⟨b1, c1, u, rfl, _⟩ := h
    rfl
  · have hr3 : Room 3 _ := hr.mono (by decide)
    have hr4 : Room 4 _ := hr.mono (by decide)
    refine ⟨_, _, (dss_one (ds_ret (de_cmp op_eq rd_Eq (de_meth (dv 0) ZR.cl hRA GRA rd_ans hr4 bRA (da_cons (de_meth (dv 0) ZR.cl hRL GRL rd_lat hr3 bRL (da_cons (dv 1) da_nil)) da_nil)) (dv 1)))), fun ds n K h => ?_⟩
    obtain ⟨bs, cs, u, rfl, kk, k⟩ := h
    refine ⟨rfl, rfl, fun t ht => ?_⟩
    refine ⟨rfl, k _ ?_⟩
    have e : t + offAt bs cs t = val bs cs t := by
      rw [kk.off]
      rfl
    rw [e]
    constructor
    · intro h
      have := of_decide_eq_true h
      exact ⟨t, V.int.inj this⟩
    · rintro ⟨t', h⟩
      have le := (ht.iff kk t').mp (by omega)
      have := kk.le le
      have := ht.1
      exact decide_eq_true (by rw [show val bs cs t = u by omega])
theorem scRuDelay : FnScope ["cls", "week", "number", "_"] ["cls", "week", "number"] (defScope sRuDelay) := ⟨rfl, rfl, rfl, by decide +kernel, rfl, by decide +kernel, by decide +kernel⟩
theorem ok_ruDelay {f R L fW fI : Addr} {fd dW dI : FuncData} (F : Fun K "delay" "Rule.delay" sRuDelay f fd) (T : Blt mg) (Wk : At P w K mg base 1 "check_week" ["number"] spChkW fW dW)
    (MKR : Mk K R fI) (GRI : FnOk P w K mg base CX0 5 fI dI ["self", "base", "changes"] (spRuI R L K)) (bRI : Binds K dI ["self", "base", "changes"] []) : FnOk P w K mg base CX0 7 f fd ["cls", "week", "number"] (spD (Wr R L) fDelay) := by
  refine okD F scRuDelay (Wr R L) fDelay (fun ds n K h => ?_) (fun p cdv A outer s H E hr => ?_)
  · obtain ⟨z, v, rfl, _⟩ := h
    rfl
  · have hr1 : Room 1 _ := hr.mono (by decide)
    refine ⟨_, _, (dss_cons (ds_expr (de_call Wk.ok rd_chkW hr1 Wk.at_ Wk.kp Wk.bi (da_cons (dv 1) da_nil)))
      (dss_one (ds_ret (de_makeV (dv 0) MKR GRI hr bRI (da_cons (de_f (df_lc (own := [("_", 3)]) rfl scRuDelay.nd (di_range1 (by rfl) T.range (da_cons (dv 1) da_nil))
          (blkOk_by (N := ["cls", "week", "number", "_"]) (sc := defScope sRuDelay) (by decide +kernel)) (fun _ _ _ _ _ => (dg_name (i := 3) scRuDelay.nd rfl (.inl rfl))) (fun _ _ _ _ _ => dts_nil)
          (fun _ _ _ _ _ => (dv 2)))) (da_cons (de_f (df_lst da_nil)) da_nil)))))), fun ds n K h => ?_⟩
    obtain ⟨z, v, rfl, z0, z1, k⟩ := h
    refine ⟨z0, z1, rfl, ?_⟩
    refine ⟨by omega, by omega, by omega, fun i acc m => acc = List.replicate i (DV.int v) ∧ m = n, ⟨rfl, rfl⟩, ?_, ?_⟩
    · rintro i acc m hi ⟨rfl, rfl⟩
      exact ⟨fun _ => ⟨List.replicate_succ'.symm, rfl⟩, fun z => nomatch z⟩
    rintro acc m ⟨rfl, rfl⟩
    obtain ⟨ro, e⟩ := delay_ok (z := z.toNat) (v := v) (by omega) (by omega)
    refine ⟨by show 0 ≤ 1000; decide, List.replicate z.toNat v, [], by unfold dInt; rw [List.map_replicate]; rfl, ro.l0, ro.l1, Nat.zero_le _, .nil, ro.rise, k⟩
end

/-! ### the well of a law: where it begins, what it gives -/
def spWell (K : PySem.W.Frag) : Sp := fun vs H Q _ => ∃ (a : Addr) (ns : List Int) (i : Int), vs = [.ref a, .int i] ∧ SqL K H a (ns.map V.int) ∧ ns.length ≤ 63 ∧ 0 ≤ i ∧ i ≤ 63 ∧
  ∀ (p : Addr) (H' : Hp), H p = none → Same H H' → Well H' p 0 → Q (.ref p) H'
def spDip : Sp := fun vs H Q _ => ∃ (p : Addr) (n : Nat) (m : Int), vs = [.ref p, .int m] ∧ Well H p n ∧ n ≤ 10 ^ 9 ∧ 0 < m ∧ m < 2 ^ 200 ∧
  ∀ (r : Int) (H' : Hp), 0 ≤ r → r < m → Fr p H H' → Well H' p (n + 1) → Q (.int r) H'
def CPowX (i j : Int) : Prop := 0 ≤ j ∧ (Builtin.Int.intBits i : Int) * j ≤ 2 ^ 27
theorem op_powX {X : Cx} : OpR X (binaryOp .Pow) (rI CPowX fun i j => .int (i ^ j.toNat)) := opI fun _ _ _ _ _ _ _ hc q => pow_int hc.1 hc.2 q
theorem wide_powX {i j : Int} {b : Nat} (h0 : 0 ≤ j) (hj : j ≤ 100) (hi : i.natAbs < 2 ^ b) (b0 : 0 < b) (hb : b ≤ 1000) : CPowX i j := by
  have l := PySem.Flt.log2_lt_of b0 hi
  have e : Builtin.Int.intBits i ≤ 1000 := by
    unfold Builtin.Int.intBits
    split <;> omega
  have m : (Builtin.Int.intBits i : Int) * j ≤ 1000 * 100 := Int.mul_le_mul (by omega) hj h0 (by omega)
  exact ⟨h0, Int.le_trans m (by decide)⟩
section
variable {P : Program} {w : World} {K : PySem.W.Frag} {mg : Str → Option Value} {base : Heap}
theorem scWell : FnScope ["script", "place", "cell"] ["script", "place"] (defScope sWell) := ⟨rfl, rfl, rfl, by decide +kernel, rfl, by decide +kernel, by decide +kernel⟩
theorem ok_wellB {f : Addr} {fd : FuncData} (F : Fun K "_law_well" "_law_well" sWell f fd) (T : Blt mg) : FnOk P w K mg base CX0 1 f fd ["script", "place"] (spWell K) := by
  refine F.ok scWell (fun vs H Q E h => ?_) (fun cdv A outer s H vs Q E hr h => ?_)
  · obtain ⟨a, ns, i, rfl, _⟩ := h
    rfl
  · obtain ⟨a, ns, i, rfl, hS, hl, i0, i1, k⟩ := h
    refine ⟨_, pss_cons (ps_set (i := 2) scWell.nd rfl (.inl rfl) pe_int)
      (C8.pss_cut (ps_if (pt_cmpR op_lt (pv 1) (pe_callB call_len_seq (by rfl) T.len PySem.boot_len (pa_cons (pv 0) pa_nil)) (nomark _))
        (pss_one (ps_set (i := 2) scWell.nd rfl (.inl rfl) (pe_ix ix_list (pv 0) (pv 1) (fun _ _ => rfl))))
        pss_nil)
      (pss_one (ps_ret (pe_lst (pa_cons (pe_callB (call_max2 rfl) (by rfl) T.max (by decide +kernel) (pa_cons pe_int (pa_cons (pe_op op_sub (pe_callB call_abs (by rfl) T.abs (by decide +kernel) (pa_cons (pv 2) pa_nil)) (pe_op op_pow pe_int pe_int)) pa_nil))) (pa_cons (pe_op op_add (pe_op op_mod (pe_callTy call_int1 (by rfl) T.int (by decide +kernel) (pa_cons (pv 2) pa_nil)) pe_int) (pe_op op_mul pe_int (pe_op op_add (pv 1) pe_int))) (pa_cons pe_int pa_nil))))))), ?_⟩
    refine ⟨fun σ H1 => H1 = H ∧ ∃ z : Int, σ = [some (.ref a), some (.int i), some (.int z)], ?_, ?_⟩
    · refine ⟨_, rfl, _, rfl, a, _, rfl, .inl hS, _, _, rfl, rfl, _, rfl, ite2 (fun hc => ?_) (fun hc => ?_)⟩
      · have hi : i < ns.length := by
          have := of_decide_eq_true hc
          rw [List.length_map] at this
          exact this
        obtain ⟨v, hv, hv2, e⟩ := atI_ints i0 hi
        exact ⟨_, rfl, _, rfl, a, _, i, _, rfl, rfl, hS, e, rfl, v, rfl⟩
      · exact ⟨rfl, 0, rfl⟩
    · rintro σ H1 ⟨rfl, z, rfl⟩
      refine ⟨_, rfl, _, rfl, _, _, rfl, rfl, ⟨by decide, by decide, by decide⟩, _, _, rfl, rfl, 0, _, rfl, ?_⟩
      refine ⟨_, rfl, .inl ⟨_, rfl, _, _, rfl, rfl, (by show (0 : Int) < 2305843009213693951; decide), ?_⟩⟩
      generalize hx : z % 2305843009213693951 = x
      have x0 : 0 ≤ x := by rw [← hx]; exact Int.emod_nonneg _ (by decide)
      have x1 : x < 2305843009213693951 := by rw [← hx]; exact Int.emod_lt_of_pos _ (by decide)
      refine ⟨_, rfl, _, _, rfl, rfl, _, _, rfl, rfl, .inl ⟨by decide, by decide⟩, _, _, rfl, rfl, (by show 3 ≤ sizeLine; decide), fun p hp => ?_⟩
      exact k p _ hp (same_new hp) ⟨_, _, _, upd_same, by omega, by omega, by decide, by decide⟩
theorem scDip : FnScope ["well", "span", "drawn", "step", "seed", "stirred"] ["well", "span"] (defScope sDip) := ⟨rfl, rfl, rfl, by decide +kernel, rfl, by decide +kernel, by decide +kernel⟩
theorem ok_dip {f : Addr} {fd : FuncData} (F : Fun K "_law_dip" "_law_dip" sDip f fd) (T : Blt mg) : FnOk P w K mg base CX0 1 f fd ["well", "span"] spDip := by
  refine F.ok scDip (fun vs H Q E h => ?_) (fun cdv A outer s H vs Q E hr h => ?_)
  · obtain ⟨p, n, m, rfl, _⟩ := h
    rfl
  · obtain ⟨p, n, m, rfl, ⟨a, b, c, hp, b0, b1, c0, c1⟩, hn, m0, m1, k⟩ := h
    refine ⟨_, pss_cons (ps_if (pt_cmpR op_gt (pe_ix ix_list (pv 0) pe_int (fun _ _ => rfl)) pe_int (nomark _))
        (pss_cons (ps_set (i := 2) scDip.nd rfl (.inl rfl) (pe_op op_mod (pe_callTy call_int1 (by rfl) T.int (by decide +kernel) (pa_cons (pe_ix ix_list (pv 0) pe_int (fun _ _ => rfl)) pa_nil)) (pv 1)))
        (pss_cons (ps_asg (pe_op op_fdivW (pe_ix ix_list (pv 0) pe_int (fun _ _ => rfl)) (pv 1)) (pg_sub (pv 0) pe_int set_list))
        (pss_one (ps_ret (pv 2)))))
        pss_nil)
      (pss_cons (ps_asg (pe_op op_add (pe_ix ix_list (pv 0) pe_int (fun _ _ => rfl)) pe_int) (pg_sub (pv 0) pe_int set_list))
      (pss_cons (ps_set (i := 3) scDip.nd rfl (.inl rfl) (pe_ix ix_list (pv 0) pe_int (fun _ _ => rfl)))
      (pss_cons (ps_set (i := 4) scDip.nd rfl (.inl rfl) (pe_op op_add (pe_ix ix_list (pv 0) pe_int (fun _ _ => rfl)) (pe_op op_mul (pe_op op_mul pe_int (pv 3)) (pv 3))))
      (pss_cons (ps_set (i := 5) scDip.nd rfl (.inl rfl) (pe_op op_mod (pe_callTy call_int1 (by rfl) T.int (by decide +kernel) (pa_cons (pe_op op_powX (pv 4) pe_int) pa_nil)) pe_int))
      (pss_cons (ps_set (i := 4) scDip.nd rfl (.inl rfl) (pe_op op_add (pe_op op_mulW (pv 5) (pv 5)) (pe_op op_mul pe_int (pv 3))))
      (pss_cons (ps_set (i := 5) scDip.nd rfl (.inl rfl) (pe_op op_mod (pe_callTy call_int1 (by rfl) T.int (by decide +kernel) (pa_cons (pe_op op_powX (pv 4) pe_int) pa_nil)) pe_int))
      (pss_one (ps_ret (pe_op op_mod (pe_callTy call_int1 (by rfl) T.int (by decide +kernel) (pa_cons (pe_op op_fdiv (pv 5) pe_int) pa_nil)) (pv 1)))))))))), ?_⟩
    refine ⟨_, rfl, p, _, 0, _, rfl, rfl, SqL.of hp, atI_nat (j := 0) rfl, _, _, rfl, rfl, _, rfl, ite2 (fun hw => ?_) (fun hw => ?_)⟩
    · refine ⟨_, rfl, p, _, 0, _, rfl, rfl, SqL.of hp, atI_nat (j := 0) rfl, .inl ⟨_, rfl, _, rfl, a, m, rfl, rfl, m0, ?_⟩⟩
      refine ⟨_, rfl, p, _, 0, _, rfl, rfl, SqL.of hp, atI_nat (j := 0) rfl, _, rfl, a, m, rfl, rfl, wide_div (b := 200) m0 (by omega) (by decide) (by decide), ?_⟩
      refine ⟨_, rfl, p, _, 0, 0, rfl, rfl, hp, rfl, ?_⟩
      refine ⟨_, rfl, k _ _ (Int.emod_nonneg _ (by omega)) (Int.emod_lt_of_pos _ m0) Fr.at_ ⟨a / m, b, c, upd_same, b0, b1, c0, by omega⟩⟩
    · refine ⟨_, rfl, p, _, 2, _, rfl, rfl, SqL.of hp, atI_nat (j := 2) rfl, _, _, rfl, rfl, ?_⟩
      refine ⟨_, rfl, p, _, 2, 2, rfl, rfl, hp, rfl, ?_⟩
      rw [set2]
      generalize hH : upd H p (.lst [.int a, .int b, .int (c + 1)]) = H1
      have h1 : H1 p = some (.lst [.int a, .int b, .int (c + 1)]) := by rw [← hH]; exact upd_same
      refine ⟨_, rfl, p, _, 2, _, rfl, rfl, SqL.of h1, atI_nat (j := 2) rfl, ?_⟩
      have c2 : c + 1 ≤ 1000000001 := by omega
      have sq : 0 ≤ 86028121 * (c + 1) * (c + 1) ∧ 86028121 * (c + 1) * (c + 1) ≤ 86028121 * 1000000001 * 1000000001 := by
        have := Int.mul_le_mul (show 86028121 * (c + 1) ≤ 86028121 * 1000000001 by omega) c2 (by omega) (by omega)
        have := Int.mul_nonneg (show 0 ≤ 86028121 * (c + 1) by omega) (show 0 ≤ c + 1 by omega)
        omega
      refine ⟨_, rfl, p, _, 1, _, rfl, rfl, SqL.of h1, atI_nat (j := 1) rfl, _, rfl, _, _, rfl, rfl, .inl ⟨by decide, by decide⟩, _, rfl, _, _, rfl, rfl, .inl ⟨by omega, by omega⟩, _, _, rfl, rfl, ?_⟩
      have y0 : (b + 86028121 * (c + 1) * (c + 1)).natAbs < 2 ^ 100 := by omega
      refine ⟨_, rfl, _, _, rfl, rfl, wide_powX (b := 100) (by decide) (by decide) y0 (by decide) (by decide), .inl ⟨_, rfl, _, _, rfl, rfl, (by show (0 : Int) < 618970019642690137449562111; decide), ?_⟩⟩
      have xs : ∀ x : Int, 0 ≤ x → x < 618970019642690137449562111 → x.natAbs < 2 ^ 100 ∧ (x * x + 982451653 * (c + 1)).natAbs < 2 ^ 200 := fun x x0 x1 => by
        have := Int.mul_le_mul (Int.le_of_lt x1) (Int.le_of_lt x1) x0 (by decide)
        have := Int.mul_nonneg x0 x0
        exact ⟨by omega, by omega⟩
      have xk := xs ((b + 86028121 * (c + 1) * (c + 1)) ^ (3 : Int).toNat % 618970019642690137449562111) (Int.emod_nonneg _ (by decide)) (Int.emod_lt_of_pos _ (by decide))
      refine ⟨_, rfl, _, rfl, _, _, rfl, rfl, wide_mul (a := 100) (b := 100) xk.1 xk.1 (by decide) (by decide) (by decide), _, rfl, _, _, rfl, rfl, .inl ⟨by decide, by decide⟩, _, _, rfl, rfl, ?_⟩
      refine ⟨_, rfl, _, _, rfl, rfl, wide_powX (b := 200) (by decide) (by decide) xk.2 (by decide) (by decide), .inl ⟨_, rfl, _, _, rfl, rfl, (by show (0 : Int) < 170141183460469231731687303715884105727; decide), ?_⟩⟩
      refine ⟨_, rfl, _, _, rfl, rfl, ⟨by decide, by decide⟩, .inl ⟨_, rfl, _, rfl, _, _, rfl, rfl, m0, ?_⟩⟩
      refine k _ _ (Int.emod_nonneg _ (by omega)) (Int.emod_lt_of_pos _ m0) ?_ ⟨a, b, c + 1, h1, b0, b1, by omega, by omega⟩
      rw [← hH]
      exact Fr.at_
end
/-- what it gives, over data -/
theorem rd_dip {W : Wo} : RdFn W spDip fDraw := fun M H vs ds n Q E K dm pp r c h => by
  unfold fDraw at h
  split at h
  · obtain ⟨h1, h2, h3, h⟩ := h
    obtain ⟨v, us, rfl, r1, rs⟩ := r.cons_inv
    obtain ⟨u, rfl, r2⟩ := rs.one_inv
    cases r1 with
    | pool e =>
      rename_i q
      refine ⟨q, n, _, by rw [r2.int_inv], (pp q e).2, h1, h2, h3, fun z H' z0 z1 f w => c _ _ _ _ (fun b o e2 nb => f b o e2 fun z => nb (by rw [z]; exact e)) (fun a ea => ?_) (.int _) (h z z0 z1)⟩
      rw [e] at ea
      obtain rfl := Option.some.inj ea
      exact w
  · exact h.elim

/-! ### runs of rows -/
theorem fold_last {n t : Int} {l : List (Int × Int)} {j : Nat} {c : Int × Int} (f : Int) (h : l[j]? = some c) (m : c.1 ≤ t ∧ (t - c.1) % n = 0) (rest : ∀ (i : Nat) (d : Int × Int), j < i → l[i]? = some d → ¬ (d.1 ≤ t ∧ (t - d.1) % n = 0)) : l.foldl (lawStep n t) f = c.2 := by
  obtain ⟨hj, e⟩ := List.getElem?_eq_some_iff.mp h
  have e2 : l = l.take j ++ c :: l.drop (j + 1) := by
    rw [← e, List.getElem_cons_drop, List.take_append_drop]
  rw [e2, List.foldl_append, List.foldl_cons, fold_skip]
  · unfold lawStep
    rw [if_pos m]
  · intro d hd
    obtain ⟨i, hi⟩ := List.mem_iff_getElem?.mp hd
    rw [List.getElem?_drop] at hi
    exact rest _ _ (by omega) hi
def rowsOf (s : Int) (v : List Int) : List (Int × Int) := (List.range v.length).map fun (i : Nat) => (s + (i : Int), v.getD i 0 - (s + (i : Int)))
theorem rowsOf_len (s : Int) (v : List Int) : (rowsOf s v).length = v.length := by unfold rowsOf; rw [List.length_map, List.length_range]
theorem rowsOf_get {s : Int} {v : List Int} {i : Nat} (h : i < v.length) : (rowsOf s v)[i]? = some (s + (i : Int), v.getD i 0 - (s + (i : Int))) := by
  unfold rowsOf
  rw [List.getElem?_map, List.getElem?_range h]
  rfl
theorem rowsOf_mem {s : Int} {v : List Int} {c : Int × Int} (h : c ∈ rowsOf s v) : ∃ i : Nat, i < v.length ∧ c.1 = s + (i : Int) ∧ c.2 = v.getD i 0 - (s + (i : Int)) := by
  unfold rowsOf at h
  obtain ⟨i, hi, rfl⟩ := List.mem_map.mp h
  exact ⟨i, List.mem_range.mp hi, rfl, rfl⟩
theorem rowsOf_asc (s : Int) (v : List Int) : (rowsOf s v).Pairwise fun a b => a.1 < b.1 := by
  unfold rowsOf
  refine List.pairwise_map.mpr ((List.pairwise_lt_range (n := v.length)).imp fun {a b} h => ?_)
  show s + (a : Int) < s + (b : Int)
  omega
theorem run_lo {bs : List Int} {cs : List (Int × Int)} {s t : Int} {v : List Int} (h : t < s) : lawOff bs (cs ++ rowsOf s v) t = lawOff bs cs t := by
  unfold lawOff
  rw [List.foldl_append]
  refine fold_skip _ _ fun c hc z => ?_
  obtain ⟨i, _, e, _⟩ := rowsOf_mem hc
  omega
theorem run_at {bs : List Int} {cs : List (Int × Int)} {s t : Int} {v : List Int} {j : Nat} (hj : j < v.length) (le : s + (j : Int) ≤ t) (md : (t - (s + (j : Int))) % (bs.length : Int) = 0) (rest : ∀ i : Nat, j < i → i < v.length → s + (i : Int) ≤ t → ¬ (t - (s + (i : Int))) % (bs.length : Int) = 0) :
    val bs (cs ++ rowsOf s v) t = v.getD j 0 + (t - s - (j : Int)) := by
  unfold val lawOff
  rw [List.foldl_append, fold_last (j := j) _ (rowsOf_get hj) ⟨le, md⟩ fun i d hi e z => ?_]
  · show t + (v.getD j 0 - (s + (j : Int))) = _
    omega
  · by_cases hv : i < v.length
    · rw [rowsOf_get hv] at e
      obtain rfl := Option.some.inj e
      exact rest i hi hv z.1 z.2
    · rw [List.getElem?_eq_none (by rw [rowsOf_len]; omega)] at e
      cases e
theorem run_mid {bs : List Int} {cs : List (Int × Int)} {s : Int} {v : List Int} {j : Nat} (hj : j < v.length) : val bs (cs ++ rowsOf s v) (s + (j : Int)) = v.getD j 0 := by
  rw [run_at hj (Int.le_refl _) (by rw [Int.sub_self]; exact Int.zero_emod _) fun i h1 h2 h3 => by omega]
  omega
theorem run_hi {bs : List Int} {cs : List (Int × Int)} {s t : Int} {v : List Int} (l0 : 0 < bs.length) (lv : bs.length ≤ v.length) (h : s + (v.length : Int) ≤ t) :
    ∃ k : Nat, k < bs.length ∧ (k : Int) = (t - s - (v.length : Int)) % (bs.length : Int) ∧ val bs (cs ++ rowsOf s v) t = v.getD (v.length - bs.length + k) 0 + (t - s - ((v.length - bs.length + k : Nat) : Int)) := by
  have hn : (0 : Int) < bs.length := by omega
  have a := Int.emod_nonneg (t - s - (v.length : Int)) (show (bs.length : Int) ≠ 0 by omega)
  have b := Int.emod_lt_of_pos (t - s - (v.length : Int)) hn
  have dv := Int.mul_ediv_add_emod (t - s - (v.length : Int)) (bs.length : Int)
  have q0 : 0 ≤ (t - s - (v.length : Int)) / (bs.length : Int) := Int.ediv_nonneg (by omega) (by omega)
  generalize (t - s - (v.length : Int)) / (bs.length : Int) = q at dv q0
  generalize (t - s - (v.length : Int)) % (bs.length : Int) = r at a b dv
  have mq : 0 ≤ (bs.length : Int) * q := Int.mul_nonneg (by omega) q0
  refine ⟨r.toNat, by omega, by omega, run_at (by omega) (by omega) ?_ fun i h1 h2 h3 h4 => ?_⟩
  · have e : t - (s + ((v.length - bs.length + r.toNat : Nat) : Int)) = (bs.length : Int) * (q + 1) := by
      rw [Int.mul_add, Int.mul_one]
      omega
    rw [e, Int.mul_emod_right]
  · have e : t - (s + (i : Int)) = ((v.length - bs.length + r.toNat : Nat) : Int) - (i : Int) + (bs.length : Int) * (q + 1) := by
      rw [Int.mul_add, Int.mul_one]
      omega
    rw [e, Int.add_mul_emod_self_left] at h4
    have h5 := Int.dvd_of_emod_eq_zero h4
    obtain ⟨z, hz⟩ := h5
    by_cases z0 : 0 ≤ z
    · have := Int.mul_nonneg (Int.le_of_lt hn) z0
      omega
    · have := Int.mul_le_mul_of_nonneg_left (show z ≤ -1 by omega) (Int.le_of_lt hn)
      rw [Int.mul_neg, Int.mul_one] at this
      omega
def Up (bs : List Int) (cs : List (Int × Int)) : Prop := ∀ t, val bs cs t ≤ val bs cs (t + 1)
theorem run_up {bs : List Int} {cs : List (Int × Int)} {s : Int} {v : List Int} (l0 : 0 < bs.length) (lv : bs.length ≤ v.length) (up : Up bs cs) (first : val bs cs (s - 1) ≤ v.getD 0 0) (asc : ∀ i : Nat, i + 1 < v.length → v.getD i 0 ≤ v.getD (i + 1) 0)
    (wrap : v.getD (v.length - 1) 0 ≤ v.getD (v.length - bs.length) 0 + bs.length) : Up bs (cs ++ rowsOf s v) := by
  intro t
  have hn : (0 : Int) < bs.length := by omega
  by_cases h1 : t + 1 < s
  · unfold val
    rw [run_lo h1, run_lo (by omega)]
    exact up t
  by_cases h2 : t + 1 = s
  · have e : val bs (cs ++ rowsOf s v) t = val bs cs (s - 1) := by
      unfold val
      rw [run_lo (by omega)]
      have : t = s - 1 := by omega
      rw [this]
    have e2 := run_mid (bs := bs) (cs := cs) (s := s) (v := v) (j := 0) (by omega)
    rw [show s + ((0 : Nat) : Int) = t + 1 by omega] at e2
    rw [e, e2]
    exact first
  obtain ⟨j, hj⟩ : ∃ j : Nat, t = s + (j : Int) := ⟨(t - s).toNat, by omega⟩
  by_cases h3 : j + 1 < v.length
  · have e1 := run_mid (bs := bs) (cs := cs) (s := s) (v := v) (j := j) (by omega)
    have e2 := run_mid (bs := bs) (cs := cs) (s := s) (v := v) (j := j + 1) h3
    rw [show s + ((j + 1 : Nat) : Int) = t + 1 by omega] at e2
    rw [hj] at e2 ⊢
    rw [e1, e2]
    exact asc j h3
  obtain ⟨k2, hk2, f2, e2⟩ := run_hi (bs := bs) (cs := cs) (s := s) (t := t + 1) (v := v) l0 lv (by omega)
  by_cases h4 : j + 1 = v.length
  · have e1 := run_mid (bs := bs) (cs := cs) (s := s) (v := v) (j := j) (by omega)
    have z : t + 1 - s - (v.length : Int) = 0 := by omega
    rw [z, Int.zero_emod] at f2
    obtain rfl : k2 = 0 := by omega
    rw [Nat.add_zero] at e2
    rw [e2, hj, e1]
    have : j = v.length - 1 := by omega
    rw [this]
    omega
  obtain ⟨k1, hk1, f1, e1⟩ := run_hi (bs := bs) (cs := cs) (s := s) (t := t) (v := v) l0 lv (by omega)
  have st : (t + 1 - s - (v.length : Int)) % (bs.length : Int) = if (t - s - (v.length : Int)) % (bs.length : Int) + 1 = bs.length then 0 else (t - s - (v.length : Int)) % (bs.length : Int) + 1 := by
    have a := Int.emod_nonneg (t - s - (v.length : Int)) (show (bs.length : Int) ≠ 0 by omega)
    have b := Int.emod_lt_of_pos (t - s - (v.length : Int)) hn
    rw [show t + 1 - s - (v.length : Int) = (t - s - (v.length : Int)) + 1 by omega, Int.add_emod]
    generalize (t - s - (v.length : Int)) % (bs.length : Int) = r at a b ⊢
    split
    · rename_i h
      by_cases h1 : (bs.length : Int) = 1
      · rw [h1] at h ⊢
        omega
      · rw [Int.emod_eq_of_lt (a := 1) (by omega) (by omega), h, Int.emod_self]
    · rename_i h
      by_cases h1 : (bs.length : Int) = 1
      · omega
      · rw [Int.emod_eq_of_lt (a := 1) (by omega) (by omega), Int.emod_eq_of_lt (by omega) (by omega)]
  rw [← f1, ← f2] at st
  rw [e1, e2]
  split at st
  · obtain rfl : k2 = 0 := by omega
    have : v.length - bs.length + k1 = v.length - 1 := by omega
    rw [this, Nat.add_zero]
    omega
  · obtain rfl : k2 = k1 + 1 := by omega
    have := asc (v.length - bs.length + k1) (by omega)
    rw [← Nat.add_assoc]
    omega
theorem Up.rises {bs : List Int} {cs : List (Int × Int)} (l0 : 0 < bs.length) (asc : cs.Pairwise fun a b => a.1 < b.1) (up : Up bs cs) : RisesC bs (tell bs cs).2 := risesC_of l0 asc (fun _ => rfl) fun t => by
  have := up t
  unfold val at this
  omega
/-- moved by whole weeks, lifted -/
theorem lawOff_moved {bs : List Int} {cs : List (Int × Int)} {far up : Int} (l0 : 0 < bs.length) (h : far % (bs.length : Int) = 0) (t : Int) : lawOff (bs.map (· + up)) (cs.map fun c => (c.1 + far, c.2 + up)) t = lawOff bs cs (t - far) + up := by
  unfold lawOff
  rw [List.length_map]
  have e0 : wkOff (bs.map (· + up)) t = wkOff bs (t - far) + up := by
    unfold wkOff
    rw [List.length_map]
    have e : (t - far) % (bs.length : Int) = t % (bs.length : Int) := by
      rw [Int.sub_emod, h, Int.sub_zero, Int.emod_emod_of_dvd _ (Int.dvd_refl _)]
    have a := Int.emod_nonneg t (show (bs.length : Int) ≠ 0 by omega)
    have b := Int.emod_lt_of_pos t (show (0 : Int) < bs.length by omega)
    have hi : (t % (bs.length : Int)).toNat < bs.length := by omega
    rw [e, List.getD_eq_getElem?_getD, List.getD_eq_getElem?_getD, List.getElem?_map, List.getElem?_eq_getElem hi]
    rfl
  rw [e0]
  generalize wkOff bs (t - far) = f
  induction cs generalizing f with
  | nil => rfl
  | cons c cs ih =>
    rw [List.map_cons, List.foldl_cons, List.foldl_cons, ← ih]
    congr 1
    unfold lawStep
    have e1 : t - (c.1 + far) = t - far - c.1 := by omega
    by_cases g : c.1 ≤ t - far ∧ (t - far - c.1) % (bs.length : Int) = 0
    · rw [if_pos g, if_pos ⟨by show c.1 + far ≤ t; omega, by rw [e1]; exact g.2⟩]
    · rw [if_neg g, if_neg fun z => g ⟨by have : c.1 + far ≤ t := z.1; omega, by rw [← e1]; exact z.2⟩]
theorem moved_up {bs : List Int} {cs : List (Int × Int)} {far up : Int} (l0 : 0 < bs.length) (h : far % (bs.length : Int) = 0) (k : Up bs cs) : Up (bs.map (· + up)) (cs.map fun c => (c.1 + far, c.2 + up)) := by
  intro t
  unfold val
  rw [lawOff_moved l0 h, lawOff_moved l0 h]
  have := k (t - far)
  unfold val at this
  rw [show t - far + 1 = t + 1 - far by omega] at this
  omega

/-! ### how a law steps from moment to moment -/
def hop (ms : List Int) (s h : Int) : Nat → Int
  | 0 => h
  | j + 1 => hop ms s h j + wkOff ms (s + (j : Nat))
structure MoreOk (ms : List Int) : Prop where
  l0 : 0 < ms.length
  pos : ∀ v ∈ ms, 0 ≤ v
  sum : ms.sum = ms.length
theorem wkOff_mem {bs : List Int} (l0 : 0 < bs.length) (t : Int) : wkOff bs t ∈ bs := by
  have a := Int.emod_nonneg t (show (bs.length : Int) ≠ 0 by omega)
  have b := Int.emod_lt_of_pos t (show (0 : Int) < bs.length by omega)
  have hi : (t % (bs.length : Int)).toNat < bs.length := by omega
  unfold wkOff
  rw [List.getD_eq_getElem?_getD, List.getElem?_eq_getElem hi]
  exact List.getElem_mem hi
theorem wk_next {bs : List Int} (t : Int) : wkOff bs (t + (bs.length : Nat)) = wkOff bs t := by
  unfold wkOff
  rw [Int.add_emod_right]
theorem hop_append (ms : List Int) (s h : Int) (i : Nat) : ∀ j : Nat, hop ms s h (i + j) = hop ms (s + (i : Nat)) (hop ms s h i) j
  | 0 => rfl
  | j + 1 => by
    show hop ms s h (i + j) + wkOff ms (s + ((i + j : Nat) : Int)) = hop ms (s + (i : Nat)) (hop ms s h i) j + wkOff ms (s + (i : Nat) + (j : Nat))
    rw [hop_append ms s h i j, show s + ((i + j : Nat) : Int) = s + (i : Nat) + (j : Nat) by omega]
theorem hop_plus (ms : List Int) (s h d : Int) : ∀ j : Nat, hop ms s (h + d) j = hop ms s h j + d
  | 0 => rfl
  | j + 1 => by
    show hop ms s (h + d) j + _ = hop ms s h j + _ + d
    rw [hop_plus ms s h d j]
    omega
theorem hop_per (ms : List Int) (s h : Int) : ∀ j : Nat, hop ms (s + (ms.length : Nat)) h j = hop ms s h j
  | 0 => rfl
  | j + 1 => by
    show hop ms (s + (ms.length : Nat)) h j + wkOff ms (s + (ms.length : Nat) + (j : Nat)) = hop ms s h j + wkOff ms (s + (j : Nat))
    rw [hop_per ms s h j, show s + (ms.length : Nat) + (j : Nat) = s + (j : Nat) + (ms.length : Nat) by omega, wk_next]
theorem hop_take (ms : List Int) : ∀ j : Nat, j ≤ ms.length → hop ms 0 0 j = (ms.take j).sum
  | 0, _ => rfl
  | j + 1, h => by
    have hj : j < ms.length := h
    show hop ms 0 0 j + wkOff ms (0 + (j : Nat)) = _
    rw [hop_take ms j (by omega), List.take_add_one, List.getElem?_eq_getElem hj, List.sum_append]
    congr 1
    show wkOff ms _ = ms[j] + 0
    unfold wkOff
    rw [Int.zero_add, Int.emod_eq_of_lt (by omega) (by omega), Int.toNat_natCast, List.getD_eq_getElem?_getD, List.getElem?_eq_getElem hj]
    show ms[j] = _
    omega
theorem hop_week0 (ms : List Int) (s : Int) : hop ms s 0 ms.length = ms.sum := by
  have step : ∀ s : Int, hop ms (s + 1) 0 ms.length = hop ms s 0 ms.length := fun s => by
    have a : hop ms s 0 (ms.length + 1) = hop ms s 0 ms.length + wkOff ms s := by
      show hop ms s 0 ms.length + wkOff ms (s + (ms.length : Nat)) = _
      rw [wk_next]
    have b : hop ms s 0 (1 + ms.length) = hop ms (s + 1) 0 ms.length + wkOff ms s := by
      rw [hop_append ms s 0 1]
      show hop ms (s + 1) (0 + wkOff ms (s + ((0 : Nat) : Int))) ms.length = _
      rw [hop_plus, show s + ((0 : Nat) : Int) = s by omega]
    rw [Nat.add_comm] at b
    omega
  have steps : ∀ (k : Nat) (s : Int), hop ms (s + k) 0 ms.length = hop ms s 0 ms.length := fun k => by
    induction k with
    | zero =>
      intro s
      rw [show s + ((0 : Nat) : Int) = s by omega]
    | succ k ih =>
      intro s
      rw [show s + ((k + 1 : Nat) : Int) = s + k + 1 by omega, step, ih]
  have z : hop ms 0 0 ms.length = ms.sum := by rw [hop_take ms _ (Nat.le_refl _), List.take_length]
  by_cases h : 0 ≤ s
  · have := steps s.toNat 0
    rw [show (0 : Int) + (s.toNat : Int) = s by omega] at this
    rw [this, z]
  · have := steps (-s).toNat s
    rw [show s + ((-s).toNat : Int) = 0 by omega] at this
    rw [← this, z]
theorem hop_week {ms : List Int} (k : MoreOk ms) (s h : Int) : hop ms s h ms.length = h + ms.length := by
  have := hop_plus ms s 0 h ms.length
  rw [Int.zero_add] at this
  rw [this, hop_week0, k.sum]
  omega
theorem hop_weeks {ms : List Int} (k : MoreOk ms) (s h : Int) (j : Nat) : ∀ q : Nat, hop ms s h (j + q * ms.length) = hop ms s h j + ((q * ms.length : Nat) : Int)
  | 0 => by simp
  | q + 1 => by
    rw [Nat.succ_mul, ← Nat.add_assoc, hop_append ms s h (j + q * ms.length), hop_week k, hop_weeks k s h j q]
    omega
theorem hop_mono {ms : List Int} (k : MoreOk ms) (s h : Int) (j : Nat) : hop ms s h j ≤ hop ms s h (j + 1) := by
  have := k.pos _ (wkOff_mem k.l0 (s + (j : Nat)))
  show _ ≤ hop ms s h j + wkOff ms (s + (j : Nat))
  omega
theorem mod_split (j n : Nat) (h : 0 < n) : ∃ k q : Nat, k < n ∧ j = k + q * n := ⟨j % n, j / n, Nat.mod_lt _ h, by rw [Nat.mul_comm]; exact (Nat.mod_add_div j n).symm⟩
/-- a week that begins with hops -/
theorem lead_all {lead ms : List Int} {s h : Int} (k : MoreOk ms) (ll : lead.length = ms.length) (e : ∀ j : Nat, j < ms.length → wkOff lead (s + (j : Nat)) = hop ms s h j - s - (j : Nat)) :
    Up lead [] ∧ ∀ j : Nat, val lead [] (s + (j : Nat)) = hop ms s h j := by
  have hn : (0 : Int) < lead.length := by rw [ll]; have := k.l0; omega
  have at_ : ∀ (j : Nat) (q : Int), j < ms.length → val lead [] (s + (j : Nat) + q * (ms.length : Nat)) = hop ms s h j + q * (ms.length : Nat) := fun j q hj => by
    show s + (j : Nat) + q * (ms.length : Nat) + wkOff lead (s + (j : Nat) + q * (ms.length : Nat)) = _
    have : wkOff lead (s + (j : Nat) + q * (ms.length : Nat)) = wkOff lead (s + (j : Nat)) := by
      unfold wkOff
      rw [ll, Int.add_mul_emod_self_right]
    rw [this, e j hj]
    omega
  refine ⟨fun t => ?_, fun j => ?_⟩
  · have a := Int.emod_nonneg (t - s) (show (ms.length : Int) ≠ 0 by omega)
    have b := Int.emod_lt_of_pos (t - s) (show (0 : Int) < ms.length by omega)
    have c := Int.emod_add_mul_ediv (t - s) (ms.length : Int)
    obtain ⟨j, hj⟩ : ∃ j : Nat, (t - s) % (ms.length : Int) = (j : Nat) := ⟨((t - s) % (ms.length : Int)).toNat, by omega⟩
    rw [hj] at a b c
    rw [Int.mul_comm] at c
    generalize (t - s) / (ms.length : Int) = q at c
    have et : t = s + (j : Nat) + q * (ms.length : Nat) := by omega
    have e1 := at_ j q (by omega)
    rw [← et] at e1
    by_cases hj2 : j + 1 < ms.length
    · have e2 := at_ (j + 1) q hj2
      rw [show s + ((j + 1 : Nat) : Int) + q * (ms.length : Nat) = t + 1 by omega] at e2
      have := hop_mono k s h j
      omega
    · have e2 := at_ 0 (q + 1) k.l0
      rw [show s + ((0 : Nat) : Int) + (q + 1) * (ms.length : Nat) = t + 1 by rw [Int.add_mul]; omega] at e2
      have w := hop_week k s h
      have m := hop_mono k s h j
      rw [show j + 1 = ms.length by omega, w] at m
      rw [Int.add_mul] at e2
      have z : hop ms s h 0 = h := rfl
      omega
  · obtain ⟨i, q, hi, rfl⟩ := mod_split j ms.length k.l0
    have := at_ i q hi
    rw [hop_weeks k]
    rw [show s + ((i + q * ms.length : Nat) : Int) = s + (i : Nat) + (q : Int) * (ms.length : Nat) by push_cast; omega]
    rw [this]
    push_cast
    rfl
/-- rows in order from a to b -/
structure Ris (v : List Int) (a b : Int) : Prop where
  first : ∀ x, v[0]? = some x → x = a
  asc : v.Pairwise (· ≤ ·)
  le : ∀ x ∈ v, x ≤ b
  ab : a ≤ b
  nil : v = [] → a = b
theorem Ris.start (a : Int) : Ris [] a a := ⟨(fun x h => by simp at h), .nil, (fun x h => nomatch h), Int.le_refl _, fun _ => rfl⟩
theorem Ris.snoc {v : List Int} {a b c : Int} (r : Ris v a b) (h : b ≤ c) : Ris (v ++ [b]) a c := by
  refine ⟨fun x hx => ?_, ?_, fun x hx => ?_, Int.le_trans r.ab h, fun e => ?_⟩
  · cases v with
    | nil =>
      have : x = b := by simpa using hx.symm
      rw [this, r.nil rfl]
    | cons y v => exact r.first x (by simpa using hx)
  · refine List.pairwise_append.mpr ⟨r.asc, List.pairwise_singleton _ _, fun x hx y hy => ?_⟩
    rw [List.mem_singleton.mp hy]
    exact r.le x hx
  · rcases List.mem_append.mp hx with h1 | h1
    · have := r.le x h1
      omega
    · rw [List.mem_singleton.mp h1]
      exact h
  · simp at e
theorem rowsOf_snoc (s : Int) (v : List Int) (x : Int) : rowsOf s (v ++ [x]) = rowsOf s v ++ [(s + (v.length : Nat), x - (s + (v.length : Nat)))] := by
  unfold rowsOf
  rw [List.length_append, List.length_singleton, List.range_succ, List.map_append]
  congr 1
  · refine List.map_congr_left fun i hi => ?_
    have := List.mem_range.mp hi
    rw [List.getD_eq_getElem?_getD, List.getElem?_append_left this, List.getD_eq_getElem?_getD]
  · show [(s + (v.length : Nat), (v ++ [x]).getD v.length 0 - (s + (v.length : Nat)))] = _
    rw [List.getD_eq_getElem?_getD, List.getElem?_append_right (Nat.le_refl _), Nat.sub_self]
    rfl
/-- where a table stands while it is told -/
structure TabInv (lead : List Int) (cs : List (Int × Int)) (ms : List Int) (s h : Int) : Prop where
  len : lead.length = ms.length
  more : MoreOk ms
  up : Up lead cs
  asc : cs.Pairwise fun a b => a.1 < b.1
  keys : ∀ c ∈ cs, c.1 < s
  fut : ∀ j : Nat, val lead cs (s + (j : Nat)) = hop ms s h j
theorem TabInv.step {lead : List Int} {cs : List (Int × Int)} {ms : List Int} {s h : Int} (k : TabInv lead cs ms s h) : TabInv lead cs ms (s + 1) (h + wkOff ms s) := by
  refine ⟨k.len, k.more, k.up, k.asc, fun c hc => by have := k.keys c hc; omega, fun j => ?_⟩
  have := k.fut (1 + j)
  rw [hop_append ms s h 1] at this
  rw [show s + 1 + ((j : Nat) : Int) = s + ((1 + j : Nat) : Int) by omega, this]
  show hop ms (s + 1) (h + wkOff ms (s + ((0 : Nat) : Int))) j = _
  rw [show s + ((0 : Nat) : Int) = s by omega]
theorem TabInv.weeks {lead : List Int} {cs : List (Int × Int)} {ms : List Int} {s h : Int} (k : TabInv lead cs ms s h) {a : Int} (a0 : 0 ≤ a) : TabInv lead cs ms (s + a * (ms.length : Nat)) (h + a * (ms.length : Nat)) := by
  have an : 0 ≤ a * (ms.length : Nat) := Int.mul_nonneg a0 (by omega)
  refine ⟨k.len, k.more, k.up, k.asc, fun c hc => by have := k.keys c hc; omega, fun j => ?_⟩
  have := k.fut (j + a.toNat * ms.length)
  rw [hop_weeks k.more] at this
  have ea : ((a.toNat * ms.length : Nat) : Int) = a * (ms.length : Nat) := by
    push_cast
    rw [Int.toNat_of_nonneg a0]
  rw [show s + a * (ms.length : Nat) + ((j : Nat) : Int) = s + ((j + a.toNat * ms.length : Nat) : Int) by push_cast at ea ⊢; omega, this, ea, hop_plus]
  congr 1
  have per : ∀ q : Nat, hop ms (s + ((q * ms.length : Nat) : Int)) h j = hop ms s h j := fun q => by
    induction q with
    | zero =>
      rw [Nat.zero_mul, show s + ((0 : Nat) : Int) = s by omega]
    | succ q ih =>
      rw [Nat.succ_mul, show s + ((q * ms.length + ms.length : Nat) : Int) = s + ((q * ms.length : Nat) : Int) + (ms.length : Nat) by omega, hop_per, ih]
  have := per a.toNat
  rw [ea] at this
  exact this.symm
/-- the rows of a part -/
theorem TabInv.run {lead : List Int} {cs : List (Int × Int)} {ms ms' : List Int} {s h hb : Int} {vs : List Int} (k : TabInv lead cs ms s h) (m : MoreOk ms') (lm : ms'.length = ms.length) (r : Ris vs h hb) :
    TabInv lead (cs ++ rowsOf s (vs ++ (List.range ms'.length).map fun (j : Nat) => hop ms' (s + (vs.length : Nat)) hb j)) ms' (s + (vs.length : Nat) + (ms'.length : Nat)) (hop ms' (s + (vs.length : Nat)) hb ms'.length) := by
  have blk : ∀ i : Nat, i ≤ ms'.length → Ris (vs ++ (List.range i).map fun (j : Nat) => hop ms' (s + (vs.length : Nat)) hb j) h (hop ms' (s + (vs.length : Nat)) hb i) := fun i => by
    induction i with
    | zero =>
      intro _
      rw [List.range_zero, List.map_nil, List.append_nil]
      exact r
    | succ i ih =>
      intro hi
      rw [List.range_succ, List.map_append, ← List.append_assoc]
      exact (ih (by omega)).snoc (hop_mono m _ _ i)
  have rr := blk ms'.length (Nat.le_refl _)
  have vget : ∀ i : Nat, i < ms'.length → (vs ++ (List.range ms'.length).map fun (j : Nat) => hop ms' (s + (vs.length : Nat)) hb j).getD (vs.length + i) 0 = hop ms' (s + (vs.length : Nat)) hb i := fun i hi => by
    rw [List.getD_eq_getElem?_getD, List.getElem?_append_right (by omega), Nat.add_sub_cancel_left, List.getElem?_map, List.getElem?_range hi]
    rfl
  have vl : (vs ++ (List.range ms'.length).map fun (j : Nat) => hop ms' (s + (vs.length : Nat)) hb j).length = vs.length + ms'.length := by rw [List.length_append, List.length_map, List.length_range]
  generalize hV : vs ++ (List.range ms'.length).map (fun (j : Nat) => hop ms' (s + (vs.length : Nat)) hb j) = V at rr vget vl
  have l0 : 0 < lead.length := by rw [k.len, ← lm]; exact m.l0
  have ll : lead.length = ms'.length := by rw [k.len, lm]
  have wk := hop_week m (s + (vs.length : Nat)) hb
  have up := run_up (bs := lead) (cs := cs) (s := s) (v := V) l0 (by omega) k.up (by
      have a := k.up (s - 1)
      have b := k.fut 0
      rw [show s - 1 + 1 = s by omega] at a
      rw [show s + ((0 : Nat) : Int) = s by omega] at b
      have c : V.getD 0 0 = h := rr.first _ (by rw [List.getD_eq_getElem?_getD, List.getElem?_eq_getElem (by omega)]; rfl)
      have z : hop ms s h 0 = h := rfl
      omega) (fun i hi => by
      rw [List.getD_eq_getElem?_getD, List.getD_eq_getElem?_getD, List.getElem?_eq_getElem hi, List.getElem?_eq_getElem (by omega)]
      exact List.pairwise_iff_getElem.mp rr.asc i (i + 1) (by omega) hi (Nat.lt_succ_self i)) (by
      have a := vget 0 m.l0
      have b := vget (ms'.length - 1) (by have := m.l0; omega)
      rw [show V.length - lead.length = vs.length + 0 by omega, show V.length - 1 = vs.length + (ms'.length - 1) by have := m.l0; omega, a, b, ll]
      have mo := hop_mono m (s + (vs.length : Nat)) hb (ms'.length - 1)
      rw [show ms'.length - 1 + 1 = ms'.length by have := m.l0; omega, wk] at mo
      exact mo)
  refine ⟨ll, m, up, List.pairwise_append.mpr ⟨k.asc, rowsOf_asc _ _, fun a ha b hb => ?_⟩, fun c hc => ?_, fun j => ?_⟩
  · obtain ⟨i, _, e, _⟩ := rowsOf_mem hb
    have := k.keys a ha
    omega
  · rcases List.mem_append.mp hc with h1 | h1
    · have := k.keys c h1
      omega
    · obtain ⟨i, hi, e, _⟩ := rowsOf_mem h1
      omega
  · obtain ⟨i, hi, e1, e2⟩ := run_hi (bs := lead) (cs := cs) (s := s) (t := s + (vs.length : Nat) + (ms'.length : Nat) + (j : Nat)) (v := V) l0 (by omega) (by omega)
    rw [e2, show V.length - lead.length + i = vs.length + i by omega, vget i (by omega)]
    have ei : (i : Int) = ((j % ms'.length : Nat) : Int) := by
      rw [e1, vl, ll]
      push_cast
      congr 1
      omega
    have ei2 : i = j % ms'.length := by omega
    have dj : j = i + j / ms'.length * ms'.length := by
      rw [ei2, Nat.mul_comm]
      exact (Nat.mod_add_div j ms'.length).symm
    have hj := hop_weeks m (s + (vs.length : Nat)) hb i (j / ms'.length)
    rw [← dj] at hj
    have ha := hop_append ms' (s + (vs.length : Nat)) hb ms'.length j
    have hb2 := hop_weeks m (s + (vs.length : Nat)) hb j 1
    rw [Nat.one_mul, Nat.add_comm] at hb2
    rw [← ha, hb2, hj]
    omega

/-! ### a, b, c = e, [..], [..] with two lists of one's own -/
section
variable {X : Cx} {W : Wo}
def dPar3O (i j l : Nat) (a : TD) (b c : TDA) : TDS := fun DD δ n => a δ n fun x m => b δ m fun ys m2 => c δ m2 fun zs m3 => DV.intsOf zs fun _ => DD.nx (((δ.set i (some (.dat x))).set j (some (.own ys))).set l (some (.own zs))) m3
theorem ds_par3O {i j l : Nat} {x y z : Str} {a b c : Expr} {ta tb tc : TE} {da : TD} {db dc : TDA} {px py pz pt pos : Pos} {kt k2 pt2} (hc : X.calm = true) (hN : X.N.Nodup) (hi : X.N[i]? = some x) (hj : X.N[j]? = some y) (hl : X.N[l]? = some z) (hij : i ≠ j) (hil : i ≠ l) (hjl : j ≠ l)
    (hx : X.env.scope.names.lookup x = some .local) (hy : X.env.scope.names.lookup y = some .local) (hz : X.env.scope.names.lookup z = some .local) (ha : DE X W a ta da) (hb : DF X W b tb db) (hcc : DF X W c tc dc)
    (hw : swappedStores [.Tuple [.Name x px, .Name y py, .Name z pz] kt pt] (.Tuple [a, b, c] k2 pt2) X.env = pure (some [x, y, z]))
    (hs : swapsWithSole [.Tuple [.Name x px, .Name y py, .Name z pz] kt pt] (.Tuple [a, b, c] k2 pt2) pos.line X.env = pure false := by rfl)
    (s1 : starEach [a, b, c] X.env = (false, eval a X.env) :: starEach [b, c] X.env := by rfl) (s2 : starEach [b, c] X.env = (false, eval b X.env) :: starEach [c] X.env := by rfl) (s3 : starEach [c] X.env = (false, eval c X.env) :: starEach [] X.env := by rfl) :
    DS X W (.Assign [.Tuple [.Name x px, .Name y py, .Name z pz] kt pt] (.Tuple [a, b, c] k2 pt2) pos) (tPar3 i j l (tCons ta (tCons tb (tCons tc tNil)))) (dPar3O i j l da db dc) :=
  ⟨ps_par3 hc hN hi hj hl hij hil hjl hx hy hz (pa_cons ha.pe (pa_cons hb.pe (pa_cons hcc.pe pa_nil s3) s2) s1) hw hs, fun B Φ M σ H δ n D DD ok sm q =>
  ha.tr B Φ M σ H δ n _ _ ok (fun r m v H1 f1 p1 ra q => hb.tr B Φ M σ H1 δ m _ _ (ok.expr f1 p1) (fun ys m2 q2 vs2 H2 f2 p2 n2 h2 r2 q => hcc.tr B Φ M σ H2 δ m2 _ _ ((ok.expr f1 p1).expr f2 p2) (fun zs m3 q3 vs3 H3 f3 p3 n3 h3 r3 q => by
    obtain ⟨xs, rfl, q⟩ := q
    obtain rfl := r3.ints
    refine ⟨v, .ref q2, .ref q3, rfl, sm.nx _ _ _ _ _ ((((ok.expr f1 p1).set ra i).setOwn f2 p2 n2 h2 r2 j).setOwn f3 p3 n3 h3 (repA_ints xs) l) q⟩) q) q) q⟩
end
/-- the sum of a list when one place grows -/
theorem sum_set {l : List Int} {p : Nat} {d : Int} (h : p < l.length) : (l.set p (l.getD p 0 + d)).sum = l.sum + d := by
  induction l generalizing p with
  | nil => simp at h
  | cons x l ih =>
    cases p with
    | zero =>
      show (x + d) + l.sum = x + l.sum + d
      omega
    | succ p =>
      have hp : p < l.length := by simpa using h
      show x + (l.set p (l.getD p 0 + d)).sum = x + l.sum + d
      rw [ih hp]
      omega
theorem sum_rep (n : Nat) (v : Int) : (List.replicate n v).sum = n * v := by
  induction n with
  | zero => simp
  | succ n ih =>
    rw [List.replicate_succ, List.sum_cons, ih]
    push_cast
    rw [Int.add_mul]
    omega
theorem flat_rep {α : Type} (n : Nat) (x : α) : (List.replicate n [x]).flatten = List.replicate n x := by
  induction n with
  | zero => rfl
  | succ n ih => rw [List.replicate_succ, List.flatten_cons, ih]; rfl
def fOffB : FD := fun ds n K => ∃ bs cs rest t, ds = [.tup (dInt bs :: dPrs cs :: rest), .int t] ∧ 0 < bs.length ∧ K (.int (lawOff bs cs t)) n
def fMore : FD := fun ds n K => ∃ z : Int, ds = [.pool, .int z] ∧ n ≤ 10 ^ 8 ∧ 1 ≤ z ∧ z ≤ 12 ∧ ∀ ms m, MoreOk ms → (ms.length : Int) = z → m ≤ n + 20 → K (dInt ms) m
def fLead : FD := fun ds n K => ∃ ms s h, ds = [dInt ms, .int s, .int h] ∧ MoreOk ms ∧ ms.length ≤ 12 ∧ ∀ lead : List Int, lead.length = ms.length → Up lead [] → (∀ j : Nat, val lead [] (s + (j : Nat)) = hop ms s h j) → K (dInt lead) n
theorem getD_prB {cs : List (Int × Int)} {i : Nat} (h : i < cs.length) : (cs.map dPr).getD i .non = dPr cs[i] := by
  rw [List.getD_eq_getElem?_getD, List.getElem?_map, List.getElem?_eq_getElem h]
  rfl
theorem int_eqB (a b : Int) : decide (V.int a = V.int b) = decide (a = b) := by
  by_cases h : a = b
  · subst h
    simp
  · have : ¬ V.int a = V.int b := fun z => h (V.int.inj z)
    simp [h, this]

section
variable {P : Program} {w : World} {K : PySem.W.Frag} {mg : Str → Option Value} {base : Heap}
theorem scOffL : FnScope ["table", "spot", "size", "found", "here", "offset"] ["table", "spot"] (defScope sOffL) := ⟨rfl, rfl, rfl, by decide +kernel, rfl, by decide +kernel, by decide +kernel⟩
theorem ok_offB {f R L : Addr} {fd : FuncData} (F : Fun K "_law_offset" "_law_offset" sOffL f fd) (T : Blt mg) : FnOk P w K mg base CX0 1 f fd ["table", "spot"] (spD (Wr R L) fOffB) := by
  refine okD F scOffL (Wr R L) fOffB (fun ds n K h => ?_) (fun p cdv A outer s H E hr => ?_)
  · obtain ⟨bs, cs, rest, t, rfl, _⟩ := h
    rfl
  · 
    refine ⟨_, _, (dss_cons (ds_set (i := 2) scOffL.nd rfl (.inl rfl) (de_bQ call_len_seq (by rfl) T.len PySem.boot_len rd_len (dq (de_ixT (dv 0) de_int))))
      (dss_cons (ds_set (i := 3) scOffL.nd rfl (.inl rfl) (de_ixL (dq (de_ixT (dv 0) de_int)) (de_op op_mod rd_I (de_t call_int1 (by rfl) T.int (by decide +kernel) rd_int (da_cons (dv 1) da_nil)) (dv 2))))
      (dss_cons (ds_for [4, 5] PassesOwn.never rfl (di_list (de_ixT (dv 0) de_int)) (dg_tup rfl (dgs_cons (dg_name (i := 4) scOffL.nd rfl (.inl rfl)) (dgs_cons (dg_name (i := 5) scOffL.nd rfl (.inl rfl)) dgs_nil)) (.cons (.cons .nil)))
        (dss_one (ds_if (DW.dt (dw_and (dt_cmp op_le rd_B0 (dv 4) (dv 1)) (dw_and1 (dt_cmp op_eq rd_Eq (de_op op_mod rd_I (de_t call_int1 (by rfl) T.int (by decide +kernel) rd_int (da_cons (de_op op_sub rd_I0 (dv 1) (dv 4)) da_nil)) (dv 2)) de_int))))
          (dss_one (ds_set (i := 3) scOffL.nd rfl (.inl rfl) (dv 5)))
          dss_nil)))
      (dss_one (ds_ret (dv 3)))))), fun ds n K h => ?_⟩
    obtain ⟨bs, cs, rest, t, rfl, l0, k⟩ := h
    refine ⟨_, atI_nat (j := 0) rfl, ?_⟩
    refine ⟨_, atI_nat (j := 0) rfl, ?_⟩
    have el : (((bs.map DV.int).length : Nat) : Int) = bs.length := by rw [List.length_map]
    refine ⟨by rw [el]; omega, .int (wkOff bs t), by rw [el]; exact atI_wkD l0, ?_⟩
    refine ⟨_, atI_nat (j := 1) rfl, ?_⟩
    refine ⟨fun i δ m => ∃ y4 y5 : Option SV, δ = [some (.dat (.tup (dInt bs :: dPrs cs :: rest))), some (.dat (.int t)), some (.dat (.int (bs.map DV.int).length)), some (.dat (.int ((cs.take i).foldl (lawStep bs.length t) (wkOff bs t)))), y4, y5] ∧ m = n, ⟨none, none, rfl, rfl⟩, ?_, ?_⟩
    · rintro i δ m hi ⟨y4, y5, rfl, rfl⟩
      have hi2 : i < cs.length := by simpa using hi
      have et : (cs.take (i + 1)).foldl (lawStep bs.length t) (wkOff bs t) = lawStep bs.length t ((cs.take i).foldl (lawStep bs.length t) (wkOff bs t)) cs[i] := by
        rw [List.take_add_one, List.getElem?_eq_getElem hi2, List.foldl_append]
        rfl
      simp only [getD_prB hi2]
      refine ⟨fun g => ⟨by rw [el]; omega, rfl, fun g2 => ?_, fun g2 => ?_⟩, fun g => ⟨(fun z => nomatch z), fun _ => ?_⟩⟩
      · have g1 : cs[i].1 ≤ t := of_decide_eq_true g
        have g3 : (t - cs[i].1) % (bs.length : Int) = 0 := by
          have := of_decide_eq_true g2
          rw [el] at this
          injection this
        refine ⟨some (.dat (.int cs[i].1)), some (.dat (.int cs[i].2)), ?_, rfl⟩
        rw [et]
        unfold lawStep
        rw [if_pos ⟨g1, g3⟩]
        rfl
      · have g3 : ¬ (t - cs[i].1) % (bs.length : Int) = 0 := fun z => by
          have := of_decide_eq_false g2
          rw [el] at this
          exact this (by rw [z])
        refine ⟨some (.dat (.int cs[i].1)), some (.dat (.int cs[i].2)), ?_, rfl⟩
        rw [et]
        unfold lawStep
        rw [if_neg fun z => g3 z.2]
        rfl
      · have g1 : ¬ cs[i].1 ≤ t := of_decide_eq_false g
        refine ⟨some (.dat (.int cs[i].1)), some (.dat (.int cs[i].2)), ?_, rfl⟩
        rw [et]
        unfold lawStep
        rw [if_neg fun z => g1 z.1]
        rfl
    · rintro δ m ⟨y4, y5, rfl, rfl⟩
      rw [List.length_map (as := cs), List.take_length]
      exact k
theorem scMore : FnScope ["well", "size", "more", "turn", "place"] ["well", "size"] (defScope sMore) := ⟨rfl, rfl, rfl, by decide +kernel, rfl, by decide +kernel, by decide +kernel⟩
theorem ok_more {f fT R L : Addr} {fd dT : FuncData} (F : Fun K "_law_more" "_law_more" sMore f fd) (T : Blt mg) (Dp : At P w K mg base 1 "_law_dip" ["well", "span"] spDip fT dT) : FnOk P w K mg base CX0 2 f fd ["well", "size"] (spD (Wr R L) fMore) := by
  refine okD F scMore (Wr R L) fMore (fun ds n K h => ?_) (fun p cdv A outer s H E hr => ?_)
  · obtain ⟨z, rfl, _⟩ := h
    rfl
  · 
    have hr1 : Room 1 _ := hr.mono (by decide)
    refine ⟨_, _, (dss_cons (ds_if (dt_cmp op_eq rd_Eq (de_call Dp.ok rd_dip hr1 Dp.at_ Dp.kp Dp.bi (da_cons (dv 0) (da_cons de_int da_nil))) de_int)
        (dss_one (ds_ret (de_f (df_rep (dq (de_f (df_lst (da_cons de_int da_nil)))) (dv 1)))))
        dss_nil)
      (dss_cons (ds_setO (i := 2) scMore.nd rfl (.inl rfl) (df_rep (dq (de_f (df_lst (da_cons de_int da_nil)))) (dv 1)))
      (dss_cons (ds_for [3] PassesOwn.never rfl (di_range1 (by rfl) T.range (da_cons (dv 1) da_nil)) (dg_name (i := 3) scMore.nd rfl (.inl rfl))
        (dss_cons (ds_set (i := 4) scMore.nd rfl (.inl rfl) (de_call Dp.ok rd_dip hr1 Dp.at_ Dp.kp Dp.bi (da_cons (dv 0) (da_cons (dv 1) da_nil))))
        (dss_one (ds_sto 2 (he := (de_op op_add rd_I0 (de_ixL (do_ 2) (dv 4)) de_int)) (hk := (dv 4))))))
      (dss_frz 2 (dss_one (ds_ret (dv 2))))))), fun ds n K h => ?_⟩
    obtain ⟨z, rfl, hn, z0, z1, k⟩ := h
    have zn : ((z.toNat : Nat) : Int) = z := Int.toNat_of_nonneg (by omega)
    refine ⟨by omega, by decide, by decide, fun r r0 r1 => ⟨rfl, fun g => ?_, fun g => ?_⟩⟩
    · refine ⟨one1000r, by omega, by omega, by show 1 * z.toNat ≤ 100000; omega, ?_⟩
      have e : (List.replicate z.toNat [DV.int 1]).flatten = (List.replicate z.toNat (1 : Int)).map DV.int := by rw [flat_rep, List.map_replicate]
      rw [e]
      refine k (List.replicate z.toNat 1) _ ⟨by rw [List.length_replicate]; omega, fun v hv => by rw [List.eq_of_mem_replicate hv]; decide, by rw [sum_rep, List.length_replicate]; omega⟩ (by rw [List.length_replicate]; exact zn) (by omega)
    · refine ⟨one1000r, by omega, by omega, by show 1 * z.toNat ≤ 100000; omega, ?_⟩
      have e0 : (List.replicate z.toNat [DV.int 0]).flatten = (List.replicate z.toNat (0 : Int)).map DV.int := by rw [flat_rep, List.map_replicate]
      refine ⟨by omega, by omega, fun i δ m => ∃ (ms : List Int) (y3 y4 : Option SV), δ = [some (.dat .pool), some (.dat (.int z)), some (.own (ms.map DV.int)), y3, y4] ∧ ms.length = z.toNat ∧ (∀ v ∈ ms, 0 ≤ v) ∧ ms.sum = i ∧ m ≤ n + 1 + i, ⟨List.replicate z.toNat 0, none, none, by rw [← e0]; rfl, List.length_replicate, fun v hv => by rw [List.eq_of_mem_replicate hv]; decide, by rw [sum_rep]; omega, by omega⟩, ?_, ?_⟩
      · rintro i δ m hi ⟨ms, y3, y4, rfl, ml, mp, su, hm⟩
        refine ⟨by omega, by omega, by omega, fun q q0 q1 => ?_⟩
        have hq : q.toNat < ms.length := by omega
        have eq : ((q.toNat : Nat) : Int) = q := Int.toNat_of_nonneg q0
        have hat : atI (ms.map DV.int) q = some (.int (ms.getD q.toNat 0)) := by
          rw [← eq]
          refine atI_nat (j := q.toNat) ?_
          rw [List.getElem?_map, List.getD_eq_getElem?_getD, Int.toNat_natCast, List.getElem?_eq_getElem hq]
          rfl
        refine ⟨.int (ms.getD q.toNat 0), hat, q.toNat, ?_, ?_⟩
        · rw [← eq, Int.toNat_natCast]
          exact ixN_at (by rw [List.length_map]; exact hq)
        · refine ⟨ms.set q.toNat (ms.getD q.toNat 0 + 1), _, _, by rw [List.map_set]; rfl, by rw [List.length_set]; exact ml, fun v hv => ?_, by rw [sum_set hq, su]; omega, by omega⟩
          rcases List.mem_or_eq_of_mem_set hv with h | h
          · exact mp v h
          · have := mp (ms.getD q.toNat 0) (by rw [List.getD_eq_getElem?_getD, List.getElem?_eq_getElem hq]; exact List.getElem_mem hq)
            omega
      · rintro δ m ⟨ms, y3, y4, rfl, ml, mp, su, hm⟩
        exact k ms m ⟨by omega, mp, by rw [su]; omega⟩ (by omega) (by omega)
end

/-! ### the tables of a law -/
theorem hop_le {ms : List Int} (k : MoreOk ms) (s h : Int) {i j : Nat} (ij : i ≤ j) : hop ms s h i ≤ hop ms s h j := by
  obtain ⟨d, rfl⟩ : ∃ d, j = i + d := ⟨j - i, by omega⟩
  induction d with
  | zero => exact Int.le_refl _
  | succ d ih => exact Int.le_trans (ih (by omega)) (hop_mono k s h (i + d))
theorem wk_in {bs : List Int} {v : Int} (h : v ∈ bs) (s : Int) : ∃ j : Nat, j < bs.length ∧ wkOff bs (s + (j : Nat)) = v := by
  obtain ⟨p, hp, e⟩ := List.getElem_of_mem h
  have hn : (0 : Int) < bs.length := by omega
  have a := Int.emod_nonneg ((p : Int) - s) (show (bs.length : Int) ≠ 0 by omega)
  have b := Int.emod_lt_of_pos ((p : Int) - s) hn
  refine ⟨(((p : Int) - s) % (bs.length : Int)).toNat, by omega, ?_⟩
  unfold wkOff
  rw [Int.toNat_of_nonneg a, Int.add_emod_emod, show s + ((p : Int) - s) = p by omega, Int.emod_eq_of_lt (by omega) (by omega), Int.toNat_natCast, List.getD_eq_getElem?_getD, List.getElem?_eq_getElem hp]
  exact e
theorem lead_bound {lead ms : List Int} {s h : Int} (k : MoreOk ms) (ll : lead.length = ms.length) (fut : ∀ j : Nat, val lead [] (s + (j : Nat)) = hop ms s h j) : ∀ v ∈ lead, h - s - ms.length ≤ v ∧ v ≤ h - s + ms.length := fun v hv => by
  obtain ⟨j, hj, e⟩ := wk_in hv s
  have f := fut j
  have f2 : s + (j : Nat) + wkOff lead (s + (j : Nat)) = hop ms s h j := f
  have a := hop_le k s h (Nat.zero_le j)
  have b := hop_le k s h (show j ≤ ms.length by omega)
  rw [hop_week k] at b
  have z : hop ms s h 0 = h := rfl
  omega
theorem Ris.lo {v : List Int} {a b : Int} (r : Ris v a b) : ∀ x ∈ v, a ≤ x := fun x hx => by
  obtain ⟨i, hi, rfl⟩ := List.getElem_of_mem hx
  have f : v[0]'(by omega) = a := r.first _ (List.getElem?_eq_getElem (by omega))
  by_cases e : i = 0
  · subst e
    omega
  · have := List.pairwise_iff_getElem.mp r.asc 0 i (by omega) hi (by omega)
    omega
theorem wk_set {L : List Int} {p : Nat} {x t : Int} (hp : p < L.length) : wkOff (L.set p x) t = if (t % (L.length : Int)).toNat = p then x else wkOff L t := by
  unfold wkOff
  rw [List.length_set, List.getD_eq_getElem?_getD, List.getD_eq_getElem?_getD]
  split
  · rename_i e
    rw [e, List.getElem?_set_self hp]
    rfl
  · rename_i e
    rw [List.getElem?_set_ne (fun z => e z.symm)]
structure TabOk (z b : Int) (lead : List Int) (rows : List (Int × Int)) (tails : List Int) : Prop where
  len : (lead.length : Int) = z
  z0 : 1 ≤ z
  z1 : z ≤ 12
  asc : rows.Pairwise fun a b => a.1 < b.1
  up : Up lead rows
  many : rows.length ≤ 24
  bb : ∀ v ∈ lead, -b ≤ v ∧ v ≤ b
  cb : ∀ c ∈ rows, (-b ≤ c.1 ∧ c.1 ≤ b) ∧ -b ≤ c.2 ∧ c.2 ≤ b
  ends : ∀ t ∈ tails, ∃ k : Nat, t = k ∧ k ≤ rows.length ∧ Up lead (rows.take k)
  some : 1 ≤ tails.length ∧ tails.length ≤ 4
def fTable : FD := fun ds n K => ∃ z far leap : Int, ds = [.pool, .int z, .int far, .int leap] ∧ n ≤ 10 ^ 7 ∧ (1 ≤ z ∧ z ≤ 12) ∧ (far = 0 ∨ far = 1) ∧ (0 ≤ leap ∧ leap ≤ 10 ^ 29) ∧ ∀ lead rows tails m, TabOk z (10 ^ 33) lead rows tails → m ≤ n + 1000 → K (.tup [dInt lead, dPrs rows, dInt tails]) m
theorem sign3b {d x b : Int} (h0 : 0 ≤ d) (h1 : d < 3) (x0 : 0 ≤ x) (x1 : x ≤ b) : -b ≤ (d - 1) * x ∧ (d - 1) * x ≤ b := by
  have : d - 1 = -1 ∨ d - 1 = 0 ∨ d - 1 = 1 := by omega
  rcases this with h | h | h <;> rw [h] <;> omega
theorem take_app {α : Type} {l r : List α} {k : Nat} (h : k ≤ l.length) : (l ++ r).take k = l.take k := by
  rw [List.take_append, Nat.sub_eq_zero_of_le h, List.take_zero, List.append_nil]
section
variable {P : Program} {w : World} {K : PySem.W.Frag} {mg : Str → Option Value} {base : Heap}
theorem scLead : FnScope ["more", "spot", "here", "size", "lead", "turn"] ["more", "spot", "here"] (defScope sLead) := ⟨rfl, rfl, rfl, by decide +kernel, rfl, by decide +kernel, by decide +kernel⟩
theorem ok_lead {f R L : Addr} {fd : FuncData} (F : Fun K "_law_lead" "_law_lead" sLead f fd) (T : Blt mg) : FnOk P w K mg base CX0 1 f fd ["more", "spot", "here"] (spD (Wr R L) fLead) := by
  refine okD F scLead (Wr R L) fLead (fun ds n K h => ?_) (fun p cdv A outer s H E hr => ?_)
  · obtain ⟨ms, s, h, rfl, _⟩ := h
    rfl
  · 
    refine ⟨_, _, (dss_cons (ds_set (i := 3) scLead.nd rfl (.inl rfl) (de_bQ call_len_seq (by rfl) T.len PySem.boot_len rd_len (dq (dv 0))))
      (dss_cons (ds_setO (i := 4) scLead.nd rfl (.inl rfl) (df_rep (dq (de_f (df_lst (da_cons de_int da_nil)))) (dv 3)))
      (dss_cons (ds_for [5] PassesOwn.never rfl (di_range1 (by rfl) T.range (da_cons (dv 3) da_nil)) (dg_name (i := 5) scLead.nd rfl (.inl rfl))
        (dss_cons (ds_sto 4 (he := (de_op op_sub rd_I0 (de_op op_sub rd_I0 (dv 2) (dv 1)) (dv 5))) (hk := (de_op op_mod rd_I (de_t call_int1 (by rfl) T.int (by decide +kernel) rd_int (da_cons (de_op op_add rd_I0 (dv 1) (dv 5)) da_nil)) (dv 3))))
        (dss_one (ds_set (i := 2) scLead.nd rfl (.inl rfl) (de_op op_add rd_I0 (dv 2) (de_ixL (dq (dv 0)) (de_op op_mod rd_I (de_t call_int1 (by rfl) T.int (by decide +kernel) rd_int (da_cons (de_op op_add rd_I0 (dv 1) (dv 5)) da_nil)) (dv 3))))))))
      (dss_frz 4 (dss_one (ds_ret (dv 4))))))), fun ds n K h => ?_⟩
    obtain ⟨ms, s, h, rfl, mo, l12, k⟩ := h
    have l0 := mo.l0
    have e0 : (List.replicate (((ms.map DV.int).length : Nat) : Int).toNat [DV.int 0]).flatten = (List.replicate ms.length (0 : Int)).map DV.int := by rw [flat_rep, List.map_replicate, List.length_map, Int.toNat_natCast]
    have el : (((ms.map DV.int).length : Nat) : Int) = ms.length := by rw [List.length_map]
    refine ⟨one1000r, by rw [el]; omega, by rw [el]; omega, by rw [el, Int.toNat_natCast]; show 1 * ms.length ≤ 100000; omega, ?_⟩
    refine ⟨by rw [el]; omega, by rw [el]; omega, fun i δ m => ∃ (ls : List Int) (y5 : Option SV), δ = [some (.dat (dInt ms)), some (.dat (.int s)), some (.dat (.int (hop ms s h i))), some (.dat (.int (ms.map DV.int).length)), some (.own (ls.map DV.int)), y5] ∧ ls.length = ms.length ∧ (∀ j : Nat, j < i → wkOff ls (s + (j : Nat)) = hop ms s h j - s - (j : Nat)) ∧ m = n, ⟨List.replicate ms.length 0, none, by rw [← e0]; rfl, List.length_replicate, fun j hj => absurd hj (Nat.not_lt_zero _), rfl⟩, ?_, ?_⟩
    · rintro i δ m hi ⟨ls, y5, rfl, ll, at_, rfl⟩
      have hi : i < ms.length := by
        rw [el, Int.toNat_natCast] at hi
        exact hi
      have hn : (0 : Int) < ms.length := by omega
      have a := Int.emod_nonneg (s + (0 + (i : Int))) (show (ms.length : Int) ≠ 0 by omega)
      have b := Int.emod_lt_of_pos (s + (0 + (i : Int))) hn
      have hp : ((s + (0 + (i : Int))) % (ms.length : Int)).toNat < ls.length := by omega
      refine ⟨by rw [el]; omega, ((s + (0 + (i : Int))) % (ms.length : Int)).toNat, ?_, ?_⟩
      · rw [el, List.length_map]
        have := ixN_at hp
        rw [Int.toNat_of_nonneg a] at this
        exact this
      · refine ⟨by rw [el]; omega, .int (wkOff ms (s + (i : Nat))), by show atI (ms.map DV.int) ((s + (0 + (i : Int))) % (((ms.map DV.int).length : Nat) : Int)) = _; rw [el, Int.zero_add]; exact atI_wkD l0, ?_⟩
        refine ⟨ls.set ((s + (0 + (i : Int))) % (ms.length : Int)).toNat (hop ms s h i - s - (0 + (i : Int))), some (.dat (.int (0 + (i : Int)))), by rw [List.map_set]; rfl, by rw [List.length_set]; exact ll, fun j hj => ?_, rfl⟩
        · rw [wk_set hp, ll]
          by_cases e : j = i
          · subst e
            rw [if_pos (by rw [Int.zero_add]), Int.zero_add]
          · rw [if_neg, at_ j (by omega)]
            intro z
            have a2 := Int.emod_nonneg (s + (j : Int)) (show (ms.length : Int) ≠ 0 by omega)
            have z2 : (s + (j : Int)) % (ms.length : Int) = (s + (0 + (i : Int))) % (ms.length : Int) := by omega
            have z3 := Int.emod_eq_emod_iff_emod_sub_eq_zero.mp z2
            obtain ⟨q, hq⟩ := Int.dvd_of_emod_eq_zero z3
            by_cases q0 : 0 ≤ q
            · have := Int.mul_nonneg (Int.le_of_lt hn) q0
              omega
            · have := Int.mul_le_mul_of_nonneg_left (show q ≤ -1 by omega) (Int.le_of_lt hn)
              rw [Int.mul_neg, Int.mul_one] at this
              omega
    · rintro δ m ⟨ls, y5, rfl, ll, at_, rfl⟩
      rw [el, Int.toNat_natCast] at at_
      obtain ⟨up, fut⟩ := lead_all mo ll at_
      exact k ls ll up fut
end

theorem wk_small {ms : List Int} (k : MoreOk ms) (s : Int) : 0 ≤ wkOff ms s ∧ wkOff ms s ≤ ms.length := by
  have a := k.pos _ (wkOff_mem k.l0 s)
  have b := hop_le k s 0 (show 1 ≤ ms.length from k.l0)
  rw [hop_week k] at b
  have c : hop ms s 0 1 = 0 + wkOff ms (s + ((0 : Nat) : Int)) := rfl
  rw [show s + ((0 : Nat) : Int) = s by omega] at c
  omega
theorem three1000r : 3 ≤ 1000 := by decide
def limOf (parts : Int) : Int := if parts = 1 then 24 else if parts = 2 then 12 else 8
theorem lim_at {parts : Int} (h0 : 1 ≤ parts) (h1 : parts ≤ 3) : atI [DV.int 0, .int 24, .int 12, .int 8] parts = some (.int (limOf parts)) ∧ parts * limOf parts = 24 ∧ 8 ≤ limOf parts ∧ limOf parts ≤ 24 ∧ (parts ≤ 2 → 12 ≤ limOf parts) := by
  have : parts = 1 ∨ parts = 2 ∨ parts = 3 := by omega
  rcases this with rfl | rfl | rfl
  · exact ⟨atI_nat (j := 1) rfl, by decide, by decide, by decide, by decide⟩
  · exact ⟨atI_nat (j := 2) rfl, by decide, by decide, by decide, by decide⟩
  · exact ⟨atI_nat (j := 3) rfl, by decide, by decide, by decide, by decide⟩
theorem map_snoc {α β : Type} (f : α → β) (l : List α) (x : α) : (l ++ [x]).map f = l.map f ++ [f x] := by rw [List.map_append]; rfl
section
variable {P : Program} {w : World} {K : PySem.W.Frag} {mg : Str → Option Value} {base : Heap}
theorem scTable : FnScope ["well", "size", "far", "leap", "more", "parts", "spot", "here", "lead", "rows", "tails", "part", "turn", "kind", "apart"] ["well", "size", "far", "leap"] (defScope sTable) := ⟨rfl, rfl, rfl, by decide +kernel, rfl, by decide +kernel, by decide +kernel⟩
theorem ok_table {f fT fM fL R L : Addr} {fd dT dM dL : FuncData} (F : Fun K "_law_table" "_law_table" sTable f fd) (T : Blt mg) (Dp : At P w K mg base 1 "_law_dip" ["well", "span"] spDip fT dT) (Mo : At P w K mg base 2 "_law_more" ["well", "size"] (spD (Wr R L) fMore) fM dM) (Le : At P w K mg base 1 "_law_lead" ["more", "spot", "here"] (spD (Wr R L) fLead) fL dL) : FnOk P w K mg base CX0 3 f fd ["well", "size", "far", "leap"] (spD (Wr R L) fTable) := by
  refine okD F scTable (Wr R L) fTable (fun ds n K h => ?_) (fun p cdv A outer s H E hr => ?_)
  · obtain ⟨z, far, leap, rfl, _⟩ := h
    rfl
  · 
    have hr1 : Room 1 _ := hr.mono (by decide)
    have hr2 : Room 2 _ := hr.mono (by decide)
    refine ⟨_, _, (dss_cons (ds_par (i := 4) (j := 5) rfl scTable.nd rfl rfl (by decide) rfl rfl (da_cons (de_call Mo.ok (rd_spD rfl) hr2 Mo.at_ Mo.kp Mo.bi (da_cons (dv 0) (da_cons (dv 1) da_nil))) (da_cons (de_call Dp.ok rd_dip hr1 Dp.at_ Dp.kp Dp.bi (da_cons (dv 0) (da_cons (de_op op_add rd_I0 de_int (de_t call_int1 (by rfl) T.int (by decide +kernel) rd_int (da_cons (de_cmp op_lt rd_B0 (dv 1) de_int) da_nil))) da_nil))) da_nil)) (by rfl))
      (dss_cons (ds_par (i := 6) (j := 7) rfl scTable.nd rfl rfl (by decide) rfl rfl (da_cons (de_op op_sub rd_I0 (de_call Dp.ok rd_dip hr1 Dp.at_ Dp.kp Dp.bi (da_cons (dv 0) (da_cons de_int da_nil))) de_int) (da_cons (de_op op_sub rd_I0 (de_call Dp.ok rd_dip hr1 Dp.at_ Dp.kp Dp.bi (da_cons (dv 0) (da_cons de_int da_nil))) de_int) da_nil)) (by rfl))
      (dss_cut (ds_if (dt_cmp op_eq rd_Eq (dv 2) de_int)
        (dss_cons (ds_set (i := 6) scTable.nd rfl (.inl rfl) (de_op op_add rd_I0 (dv 6) (de_op op_mul rd_I (de_op op_sub rd_I0 (de_call Dp.ok rd_dip hr1 Dp.at_ Dp.kp Dp.bi (da_cons (dv 0) (da_cons de_int da_nil))) de_int) (de_call Dp.ok rd_dip hr1 Dp.at_ Dp.kp Dp.bi (da_cons (dv 0) (da_cons (de_op op_pow rd_I de_int de_int) da_nil))))))
        (dss_one (ds_set (i := 7) scTable.nd rfl (.inl rfl) (de_op op_add rd_I0 (dv 7) (de_op op_mul rd_I (de_op op_sub rd_I0 (de_call Dp.ok rd_dip hr1 Dp.at_ Dp.kp Dp.bi (da_cons (dv 0) (da_cons de_int da_nil))) de_int) (de_call Dp.ok rd_dip hr1 Dp.at_ Dp.kp Dp.bi (da_cons (dv 0) (da_cons (de_op op_pow rd_I de_int de_int) da_nil))))))))
        dss_nil)
      (dss_cons (ds_set (i := 7) scTable.nd rfl (.inl rfl) (de_op op_add rd_I0 (dv 7) (dv 6)))
      (dss_cons (ds_par3O (i := 8) (j := 9) (l := 10) rfl scTable.nd rfl rfl rfl (by decide) (by decide) (by decide) rfl rfl rfl (de_call Le.ok (rd_spD rfl) hr1 Le.at_ Le.kp Le.bi (da_cons (dv 4) (da_cons (dv 6) (da_cons (dv 7) da_nil)))) (df_lst da_nil) (df_lst (da_cons de_int da_nil)) (by rfl))
      (dss_cons (ds_for [11] PassesOwn.never rfl (di_range1 (by rfl) T.range (da_cons (dv 5) da_nil)) (dg_name (i := 11) scTable.nd rfl (.inl rfl))
        (dss_cons (ds_for [12] PassesOwn.never rfl (di_range1 (by rfl) T.range (da_cons (de_call Dp.ok rd_dip hr1 Dp.at_ Dp.kp Dp.bi (da_cons (dv 0) (da_cons (de_op op_add rd_I0 (de_op op_sub rd_I0 (de_ixL (dq (de_f (df_lst (da_cons de_int (da_cons de_int (da_cons de_int (da_cons de_int da_nil))))))) (dv 5)) (dv 1)) de_int) da_nil))) da_nil)) (dg_name (i := 12) scTable.nd rfl (.inl rfl))
          (dss_cons (ds_app 9 (he := (de_tup (da_cons (dv 6) (da_cons (de_op op_sub rd_I0 (dv 7) (dv 6)) da_nil)))))
          (dss_cons (ds_set (i := 13) scTable.nd rfl (.inl rfl) (de_call Dp.ok rd_dip hr1 Dp.at_ Dp.kp Dp.bi (da_cons (dv 0) (da_cons de_int da_nil))))
          (dss_cons (ds_set (i := 7) scTable.nd rfl (.inl rfl) (de_op op_add rd_I0 (dv 7) (de_if (dt_cmp op_lt rd_B0 (dv 13) de_int) (dv 13) (de_call Dp.ok rd_dip hr1 Dp.at_ Dp.kp Dp.bi (da_cons (dv 0) (da_cons (de_op op_add rd_I0 (dv 3) de_int) da_nil))))))
          (dss_one (ds_set (i := 6) scTable.nd rfl (.inl rfl) (de_op op_add rd_I0 (dv 6) de_int)))))))
        (dss_cons (ds_set (i := 4) scTable.nd rfl (.inl rfl) (de_call Mo.ok (rd_spD rfl) hr2 Mo.at_ Mo.kp Mo.bi (da_cons (dv 0) (da_cons (dv 1) da_nil))))
        (dss_cons (ds_for [12] PassesOwn.never rfl (di_range1 (by rfl) T.range (da_cons (dv 1) da_nil)) (dg_name (i := 12) scTable.nd rfl (.inl rfl))
          (dss_cons (ds_app 9 (he := (de_tup (da_cons (dv 6) (da_cons (de_op op_sub rd_I0 (dv 7) (dv 6)) da_nil)))))
          (dss_cons (ds_set (i := 7) scTable.nd rfl (.inl rfl) (de_op op_add rd_I0 (dv 7) (de_ixL (dq (dv 4)) (de_op op_mod rd_I (de_t call_int1 (by rfl) T.int (by decide +kernel) rd_int (da_cons (dv 6) da_nil)) (dv 1)))))
          (dss_one (ds_set (i := 6) scTable.nd rfl (.inl rfl) (de_op op_add rd_I0 (dv 6) de_int))))))
        (dss_cons (ds_app 10 (he := (de_bQ call_len_seq (by rfl) T.len PySem.boot_len rd_len (do_ 9))))
        (dss_cons (ds_set (i := 14) scTable.nd rfl (.inl rfl) (de_op op_add rd_I0 (de_call Dp.ok rd_dip hr1 Dp.at_ Dp.kp Dp.bi (da_cons (dv 0) (da_cons de_int da_nil))) (de_op op_mul rd_I (de_op op_mul rd_I (dv 2) (de_call Dp.ok rd_dip hr1 Dp.at_ Dp.kp Dp.bi (da_cons (dv 0) (da_cons de_int da_nil)))) (de_call Dp.ok rd_dip hr1 Dp.at_ Dp.kp Dp.bi (da_cons (dv 0) (da_cons (de_op op_pow rd_I de_int de_int) da_nil))))))
        (dss_cons (ds_par (i := 6) (j := 7) rfl scTable.nd rfl rfl (by decide) rfl rfl (da_cons (de_op op_add rd_I0 (dv 6) (de_op op_mul rd_I (dv 14) (dv 1))) (da_cons (de_op op_add rd_I0 (dv 7) (de_op op_mul rd_I (dv 14) (dv 1))) da_nil)) (by rfl))
        (dss_one (ds_for [12] PassesOwn.never rfl (di_range1 (by rfl) T.range (da_cons (de_call Dp.ok rd_dip hr1 Dp.at_ Dp.kp Dp.bi (da_cons (dv 0) (da_cons (dv 1) da_nil))) da_nil)) (dg_name (i := 12) scTable.nd rfl (.inl rfl))
          (dss_cons (ds_set (i := 7) scTable.nd rfl (.inl rfl) (de_op op_add rd_I0 (dv 7) (de_ixL (dq (dv 4)) (de_op op_mod rd_I (de_t call_int1 (by rfl) T.int (by decide +kernel) rd_int (da_cons (dv 6) da_nil)) (dv 1)))))
          (dss_one (ds_set (i := 6) scTable.nd rfl (.inl rfl) (de_op op_add rd_I0 (dv 6) de_int)))))))))))))
      (dss_frz 9 (dss_frz 10 (dss_one (ds_ret (de_tup (da_cons (dv 8) (da_cons (dv 9) (da_cons (dv 10) da_nil)))))))))))))), fun ds n K h => ?_⟩
    obtain ⟨z, far, leap, rfl, hn, ⟨z0, z1⟩, hfar, ⟨p0, p1⟩, k⟩ := h
    refine ⟨z, rfl, by omega, z0, z1, fun ms m mo ml hm => ?_⟩
    have sz : ∀ b : Bool, 0 ≤ (if b = true then (1 : Int) else 0) ∧ (if b = true then (1 : Int) else 0) ≤ 1 := fun b => by cases b <;> decide
    have sb := sz (decide (z < 9))
    refine ⟨by omega, by omega, by omega, fun parts q0 q1 => ?_⟩
    refine ⟨by omega, by decide, by decide, fun a a0 a1 => ⟨by omega, by decide, by decide, fun b b0 b1 => ?_⟩⟩
    refine ⟨fun δ m' => ∃ s h : Int, δ = [some (.dat .pool), some (.dat (.int z)), some (.dat (.int far)), some (.dat (.int leap)), some (.dat (dInt ms)), some (.dat (.int parts)), some (.dat (.int s)), some (.dat (.int h)), none, none, none, none, none, none, none] ∧ (-(2 * 10 ^ 30) ≤ s ∧ s ≤ 2 * 10 ^ 30) ∧ (-(2 * 10 ^ 30) ≤ h ∧ h ≤ 2 * 10 ^ 30) ∧ m' ≤ m + 10, ⟨rfl, fun g => ?_, fun g => ?_⟩, ?_⟩
    · refine ⟨by omega, by decide, by decide, fun u u0 u1 => ⟨⟨by decide, by decide, by decide⟩, by omega, by decide, by decide, fun v v0 v1 => ⟨.inl ⟨by omega, by omega⟩, ?_⟩⟩⟩
      have v2 : v < 10 ^ 30 := v1
      have uv := sign3b u0 u1 v0 (Int.le_of_lt v2)
      refine ⟨by omega, by decide, by decide, fun u' u0' u1' => ⟨⟨by decide, by decide, by decide⟩, by omega, by decide, by decide, fun v' v0' v1' => ⟨.inl ⟨by omega, by omega⟩, ?_⟩⟩⟩
      have v2' : v' < 10 ^ 30 := v1'
      have uv' := sign3b u0' u1' v0' (Int.le_of_lt v2')
      exact ⟨a - 20 + (u - 1) * v, b - 12 + (u' - 1) * v', rfl, by omega, by omega, by omega⟩
    · exact ⟨a - 20, b - 12, rfl, by omega, by omega, by omega⟩
    · rintro δ m' ⟨s, h, rfl, ⟨s0, s1⟩, ⟨h0, h1⟩, hm'⟩
      refine ⟨ms, s, h + s, rfl, mo, by omega, fun lead ll up fut => ?_⟩
      have lb := lead_bound mo ll fut
      refine ⟨by decide, one1000r, [0], rfl, ?_⟩
      refine ⟨by omega, by omega, fun i δ mi => ∃ (cs : List (Int × Int)) (tails ms' : List Int) (s h : Int) (y11 y12 y13 y14 : Option SV), δ = [some (.dat .pool), some (.dat (.int z)), some (.dat (.int far)), some (.dat (.int leap)), some (.dat (dInt ms')), some (.dat (.int parts)), some (.dat (.int s)), some (.dat (.int h)), some (.dat (dInt lead)), some (.own (cs.map dPr)), some (.own (tails.map DV.int)), y11, y12, y13, y14] ∧
        TabInv lead cs ms' s h ∧ (cs.length : Int) ≤ i * limOf parts ∧ ((-(10 ^ 31 * ((i : Int) + 1)) ≤ s ∧ s ≤ 10 ^ 31 * ((i : Int) + 1)) ∧ -(10 ^ 31 * ((i : Int) + 1)) ≤ h ∧ h ≤ 10 ^ 31 * ((i : Int) + 1)) ∧ (∀ c ∈ cs, (-(10 ^ 31 * ((i : Int) + 1)) ≤ c.1 ∧ c.1 ≤ 10 ^ 31 * ((i : Int) + 1)) ∧ -(10 ^ 31 * ((i : Int) + 1)) ≤ c.1 + c.2 ∧ c.1 + c.2 ≤ 10 ^ 31 * ((i : Int) + 1)) ∧
        (∀ t ∈ tails, ∃ k : Nat, t = k ∧ k ≤ cs.length ∧ Up lead (cs.take k)) ∧ tails.length = i + 1 ∧ mi ≤ n + 100 + i * 150,
        ⟨[], [0], ms, s, h + s, none, none, none, none, rfl, ⟨ll, mo, up, .nil, (fun c hc => nomatch hc), fut⟩, by simp, by omega, (fun c hc => nomatch hc), fun t ht => ⟨0, by simpa using ht, Nat.zero_le _, up⟩, rfl, by omega⟩, ?_, ?_⟩
      · rintro i δ mi hi ⟨cs, tails, ms', s, h, y11, y12, y13, y14, rfl, inv, cl, ⟨⟨s0, s1⟩, h0, h1⟩, cb, tl, tn, hmi⟩
        have pr : 1 ≤ parts ∧ parts ≤ 3 := by omega
        obtain ⟨lat, l24, l8, lle, l12⟩ := lim_at pr.1 pr.2
        have zl : z ≤ limOf parts := by
          by_cases q : parts ≤ 2
          · have := l12 q
            omega
          · have : (if decide (z < 9) = true then (1 : Int) else 0) = 1 := by
              have q3 : parts < 3 + (if decide (z < 9) = true then (1 : Int) else 0) := q1
              omega
            have : z < 9 := by
              by_cases q9 : z < 9
              · exact q9
              · rw [decide_eq_false q9] at this
                cases this
            omega
        have lz' : (ms'.length : Int) = z := by have := inv.len; omega
        have ic : (cs.length : Int) + limOf parts ≤ 24 := by
          have : ((i : Int) + 1) * limOf parts ≤ parts * limOf parts := Int.mul_le_mul_of_nonneg_right (by omega) (by omega)
          rw [Int.add_mul] at this
          omega
        refine ⟨by decide, .int (limOf parts), lat, by omega, by omega, by omega, fun r r0 r1 => ⟨by omega, by omega, ?_⟩⟩
        have rn : ((r.toNat : Nat) : Int) = r := Int.toNat_of_nonneg r0
        have r2 : r ≤ limOf parts - z := by
          have r3 : r < limOf parts - z + 1 := r1
          omega
        refine ⟨fun j δ mj => ∃ (vs : List Int) (h' : Int) (y12 y13 y14 : Option SV), δ = [some (.dat .pool), some (.dat (.int z)), some (.dat (.int far)), some (.dat (.int leap)), some (.dat (dInt ms')), some (.dat (.int parts)), some (.dat (.int (s + (vs.length : Nat)))), some (.dat (.int h')), some (.dat (dInt lead)), some (.own ((cs ++ rowsOf s vs).map dPr)), some (.own (tails.map DV.int)), some (.dat (.int (0 + (i : Int)))), y12, y13, y14] ∧
          vs.length = j ∧ Ris vs h h' ∧ h' ≤ h + (j : Int) * (10 ^ 29 + 3) ∧ mj ≤ n + 101 + i * 150 + 3 * j,
          ⟨[], h, y12, y13, y14, ?_, rfl, .start h, by omega, by omega⟩, ?_, ?_⟩
        · rw [show rowsOf s [] = [] from rfl, List.append_nil, show s + (([] : List Int).length : Nat) = s by simp]
          rfl
        · rintro j δ mj hj ⟨vs, h', y12, y13, y14, rfl, vl, ri, hh, hmj⟩
          refine ⟨two1000r, by rw [List.length_map, List.length_append, rowsOf_len]; omega, ?_⟩
          refine ⟨by omega, by decide, by decide, fun kd k0 k1 => ?_⟩
          have er : (cs ++ rowsOf s vs).map dPr ++ [dPr (s + (vs.length : Nat), h' - (s + (vs.length : Nat)))] = (cs ++ rowsOf s (vs ++ [h'])).map dPr := by
            rw [rowsOf_snoc, ← List.append_assoc, map_snoc]
          have es : s + (vs.length : Nat) + 1 = s + ((vs ++ [h']).length : Nat) := by
            rw [List.length_append, List.length_singleton]
            omega
          refine ⟨fun g => ?_, fun g => ⟨by omega, by omega, by omega, fun q q0 q1 => ?_⟩⟩
          · have g2 : kd < 3 := of_decide_eq_true g
            refine ⟨vs ++ [h'], h' + kd, some (.dat (.int (0 + (j : Int)))), some (.dat (.int kd)), y14, by rw [← er, ← es]; rfl, by rw [List.length_append, vl]; rfl, ri.snoc (by omega), by omega, by omega⟩
          · have q2 : q < leap + 1 := q1
            refine ⟨vs ++ [h'], h' + q, some (.dat (.int (0 + (j : Int)))), some (.dat (.int kd)), y14, by rw [← er, ← es]; rfl, by rw [List.length_append, vl]; rfl, ri.snoc (by omega), by omega, by omega⟩
        rintro δ mj ⟨vs, hb, y12', y13', y14', rfl, vl, ri, hh, hmj⟩
        have hr1b := ri.ab
        have vlo := ri.lo
        refine ⟨z, rfl, by omega, z0, z1, fun ms2 m2 mo2 ml2 hm2 => ?_⟩
        have l2 : 0 < ms2.length := mo2.l0
        refine ⟨by omega, by omega, fun j δ mj => ∃ (y12 : Option SV), δ = [some (.dat .pool), some (.dat (.int z)), some (.dat (.int far)), some (.dat (.int leap)), some (.dat (dInt ms2)), some (.dat (.int parts)), some (.dat (.int (s + (vs.length : Nat) + (j : Nat)))), some (.dat (.int (hop ms2 (s + (vs.length : Nat)) hb j))), some (.dat (dInt lead)), some (.own ((cs ++ rowsOf s (vs ++ (List.range j).map fun (i : Nat) => hop ms2 (s + (vs.length : Nat)) hb i)).map dPr)), some (.own (tails.map DV.int)), some (.dat (.int (0 + (i : Int)))), y12, y13', y14'] ∧ mj = m2, ⟨y12', ?_, rfl⟩, ?_, ?_⟩
        · rw [List.range_zero, List.map_nil, List.append_nil, show s + (vs.length : Nat) + ((0 : Nat) : Int) = s + (vs.length : Nat) by omega]
          rfl
        · rintro j δ mj hj ⟨y12, rfl, rfl⟩
          have hj2 : j < ms2.length := by omega
          have er : (cs ++ rowsOf s (vs ++ (List.range j).map fun (i : Nat) => hop ms2 (s + (vs.length : Nat)) hb i)).map dPr ++ [dPr (s + (vs.length : Nat) + (j : Nat), hop ms2 (s + (vs.length : Nat)) hb j - (s + (vs.length : Nat) + (j : Nat)))] = (cs ++ rowsOf s (vs ++ (List.range (j + 1)).map fun (i : Nat) => hop ms2 (s + (vs.length : Nat)) hb i)).map dPr := by
            rw [List.range_succ, map_snoc, ← List.append_assoc, rowsOf_snoc, ← List.append_assoc, map_snoc, List.length_append, List.length_map, List.length_range, show s + ((vs.length + j : Nat) : Int) = s + (vs.length : Nat) + (j : Nat) by omega]
          refine ⟨two1000r, by rw [List.length_map, List.length_append, rowsOf_len, List.length_append, List.length_map, List.length_range]; omega, ?_⟩
          refine ⟨by omega, .int (wkOff ms2 (s + (vs.length : Nat) + (j : Nat))), by rw [← ml2]; exact atI_wkD l2, ?_⟩
          refine ⟨some (.dat (.int (0 + (j : Int)))), ?_, rfl⟩
          rw [← er, show s + (vs.length : Nat) + ((j + 1 : Nat) : Int) = s + (vs.length : Nat) + (j : Nat) + 1 by omega]
          rfl
        rintro δ mj ⟨y12'', rfl, rfl⟩
        have zn2 : z.toNat = ms2.length := by omega
        rw [zn2]
        have inv2 := inv.run mo2 (by omega) ri
        have wk := hop_week mo2 (s + (vs.length : Nat)) hb
        have rl : (rowsOf s (vs ++ (List.range ms2.length).map fun (i : Nat) => hop ms2 (s + (vs.length : Nat)) hb i)).length = vs.length + ms2.length := by rw [rowsOf_len, List.length_append, List.length_map, List.length_range]
        have rb : ∀ c ∈ rowsOf s (vs ++ (List.range ms2.length).map fun (i : Nat) => hop ms2 (s + (vs.length : Nat)) hb i), (s ≤ c.1 ∧ c.1 ≤ s + 36) ∧ h ≤ c.1 + c.2 ∧ c.1 + c.2 ≤ hb + 12 := fun c hc => by
          obtain ⟨q, hq, e1, e2⟩ := rowsOf_mem hc
          have hm : (vs ++ (List.range ms2.length).map fun (i : Nat) => hop ms2 (s + (vs.length : Nat)) hb i).getD q 0 ∈ (vs ++ (List.range ms2.length).map fun (i : Nat) => hop ms2 (s + (vs.length : Nat)) hb i) := by
            rw [List.getD_eq_getElem?_getD, List.getElem?_eq_getElem hq]
            exact List.getElem_mem hq
          rw [List.length_append, List.length_map, List.length_range] at hq
          rcases List.mem_append.mp hm with h1 | h1
          · have := vlo _ h1
            have := ri.le _ h1
            omega
          · obtain ⟨q2, hq2, e3⟩ := List.mem_map.mp h1
            have hq2 := List.mem_range.mp hq2
            have := hop_le mo2 (s + (vs.length : Nat)) hb (Nat.zero_le q2)
            have := hop_le mo2 (s + (vs.length : Nat)) hb (show q2 ≤ ms2.length by omega)
            have : hop ms2 (s + (vs.length : Nat)) hb 0 = hb := rfl
            omega
        generalize hop ms2 (s + (vs.length : Nat)) hb ms2.length = h2 at inv2 wk
        generalize rowsOf s (vs ++ (List.range ms2.length).map fun (i : Nat) => hop ms2 (s + (vs.length : Nat)) hb i) = rs at inv2 rl rb
        have tln : tails.length ≤ 4 := by omega
        refine ⟨by rw [List.length_map]; omega, ?_⟩
        refine ⟨by omega, by decide, by decide, fun a1 a10 a11 => ⟨by omega, by decide, by decide, fun a2 a20 a21 => ⟨.inl ⟨by omega, by omega⟩, ?_⟩⟩⟩
        refine ⟨⟨by decide, by decide, by decide⟩, by omega, by decide, by decide, fun a3 a30 a31 => ⟨.inl ⟨?_, ?_⟩, ?_⟩⟩
        · have : far * a2 = 0 ∨ far * a2 = 1 := by
            rcases hfar with q | q <;> rw [q] <;> omega
          show -(2 ^ 64) < far * a2
          omega
        · have : far * a2 = 0 ∨ far * a2 = 1 := by
            rcases hfar with q | q <;> rw [q] <;> omega
          show far * a2 < 2 ^ 64
          omega
        have a32 : a3 < 10 ^ 29 := a31
        have ap : 0 ≤ a1 + far * a2 * a3 ∧ a1 + far * a2 * a3 ≤ 10 ^ 29 + 2 := by
          have : far * a2 = 0 ∨ far * a2 = 1 := by
            rcases hfar with q | q <;> rw [q] <;> omega
          rcases this with q | q <;> rw [q] <;> omega
        refine ⟨.inr ⟨by omega, by omega⟩, .inr ⟨by omega, by omega⟩, ?_⟩
        have apz : 0 ≤ (a1 + far * a2 * a3) * z ∧ (a1 + far * a2 * a3) * z ≤ (10 ^ 29 + 2) * 12 := ⟨Int.mul_nonneg ap.1 (by omega), Int.mul_le_mul ap.2 z1 (by omega) (by decide)⟩
        have inv3 := inv2.weeks ap.1
        rw [show ((ms2.length : Nat) : Int) = z from ml2] at inv3
        refine ⟨by omega, by omega, by omega, fun d d0 d1 => ⟨by omega, by omega, ?_⟩⟩
        have dn : ((d.toNat : Nat) : Int) = d := Int.toNat_of_nonneg d0
        have et : tails.map DV.int ++ [DV.int (((cs ++ rs).map dPr).length : Nat)] = (tails ++ [((cs ++ rs).length : Int)]).map DV.int := by
          rw [map_snoc, List.length_map]
        refine ⟨fun j δ mj => ∃ (s3 h3 : Int) (y12 : Option SV), δ = [some (.dat .pool), some (.dat (.int z)), some (.dat (.int far)), some (.dat (.int leap)), some (.dat (dInt ms2)), some (.dat (.int parts)), some (.dat (.int s3)), some (.dat (.int h3)), some (.dat (dInt lead)), some (.own ((cs ++ rs).map dPr)), some (.own ((tails ++ [((cs ++ rs).length : Int)]).map DV.int)), some (.dat (.int (0 + (i : Int)))), y12, y13', some (.dat (.int (a1 + far * a2 * a3)))] ∧
          TabInv lead (cs ++ rs) ms2 s3 h3 ∧ (s + (vs.length : Nat) + z + (a1 + far * a2 * a3) * z ≤ s3 ∧ s3 ≤ s + (vs.length : Nat) + z + (a1 + far * a2 * a3) * z + j) ∧ (h2 + (a1 + far * a2 * a3) * z ≤ h3 ∧ h3 ≤ h2 + (a1 + far * a2 * a3) * z + 12 * (j : Int)) ∧ mj ≤ n + 140 + i * 150 + 80,
          ⟨s + (vs.length : Nat) + z + (a1 + far * a2 * a3) * z, h2 + (a1 + far * a2 * a3) * z, y12'', ?_, inv3, by omega, by omega, by omega⟩, ?_, ?_⟩
        · rw [← et, ← ml2]
          rfl
        · rintro j δ mj hj ⟨s3, h3, y12, rfl, inv4, sb3, hb3, hmj⟩
          have ws := wk_small mo2 s3
          refine ⟨by omega, .int (wkOff ms2 s3), by rw [← ml2]; exact atI_wkD l2, ?_⟩
          exact ⟨s3 + 1, h3 + wkOff ms2 s3, some (.dat (.int (0 + (j : Int)))), rfl, inv4.step, by omega, by omega, by omega⟩
        · rintro δ mj ⟨s3, h3, y12, rfl, inv4, sb3, hb3, hmj⟩
          refine ⟨cs ++ rs, tails ++ [((cs ++ rs).length : Int)], ms2, s3, h3, _, _, _, _, rfl, inv4, ?_, ?_, ?_, ?_, ?_, ?_⟩
          · rw [List.length_append, rl]
            push_cast
            rw [Int.add_mul]
            omega
          · omega
          · intro c hc
            rcases List.mem_append.mp hc with h1 | h1
            · have := cb c h1
              omega
            · have := rb c h1
              omega
          · intro t ht
            rcases List.mem_append.mp ht with h1 | h1
            · obtain ⟨q, e1, e2, e3⟩ := tl t h1
              exact ⟨q, e1, by rw [List.length_append]; omega, by rw [take_app e2]; exact e3⟩
            · exact ⟨(cs ++ rs).length, List.mem_singleton.mp h1, Nat.le_refl _, by rw [List.take_length]; exact inv4.up⟩
          · rw [List.length_append, tn]
            rfl
          · omega
      · rintro δ mi ⟨cs, tails, ms', s, h, y11, y12, y13, y14, rfl, inv, cl, ⟨⟨s0, s1⟩, h0, h1⟩, cb, tl, tn, hmi⟩
        have pn : ((parts.toNat : Nat) : Int) = parts := Int.toNat_of_nonneg q0
        have pr : parts ≤ 3 := by omega
        refine ⟨three1000r, k lead cs tails mi ⟨by omega, z0, z1, inv.asc, inv.up, ?_, fun v hv => ?_, fun c hc => ?_, tl, by omega⟩ (by omega)⟩
        · by_cases q : parts = 0
          · rw [pn, q] at cl
            omega
          · obtain ⟨_, l24, _⟩ := lim_at (show 1 ≤ parts by omega) pr
            rw [pn, l24] at cl
            omega
        · have := lb v hv
          omega
        · have := cb c hc
          omega
end

/-! ### the rule of a table -/
theorem atI_last {bs : List Int} (l0 : 0 < bs.length) : ∃ v : Int, atI (bs.map DV.int) (-1) = some (.int v) := by
  have hb : bs.length - 1 < bs.length := by omega
  refine ⟨bs[bs.length - 1], ?_⟩
  unfold atI ixN
  rw [List.length_map, if_neg (by decide), if_pos (by omega)]
  show (bs.map DV.int)[(-1 + (bs.length : Int)).toNat]? = _
  rw [show (-1 + (bs.length : Int)).toNat = bs.length - 1 by omega, List.getElem?_map, List.getElem?_eq_getElem hb]
  rfl
theorem mn_mx (a b : Int) : mn (mx a b) a = a := by
  unfold mn mx
  by_cases h : a < b
  · rw [if_pos h, if_pos h]
  · rw [if_neg h, if_neg (Int.lt_irrefl a)]
theorem uniq_tab {bs b' : List Int} {cs c' : List (Int × Int)} (l0 : 0 < bs.length) (l1 : bs.length ≤ 12) (asc : cs.Pairwise fun a b => a.1 < b.1) (up : Up bs cs) (k' : RuOk b' c') (hl : b'.length = bs.length) (h : ∀ t, lawOff b' c' t = lawOff bs (tell bs cs).2 t) : b' = bs ∧ c' = (tell bs cs).2 := by
  have ro : RuOk bs (tell bs cs).2 := ruOk_of l0 l1 asc (up.rises l0 asc)
  exact rule_uniq k' ro hl h
def fMade : FD := fun ds n K => ∃ bs cs rest, ds = [.tup (dInt bs :: dPrs cs :: rest)] ∧ 0 < bs.length ∧ bs.length ≤ 12 ∧ cs.length ≤ 60 ∧ (cs.Pairwise fun a b => a.1 < b.1) ∧ Up bs cs ∧ K (.obj (.rul bs (tell bs cs).2)) n
section
variable {P : Program} {w : World} {K : PySem.W.Frag} {mg : Str → Option Value} {base : Heap}
theorem scMade : FnScope ["table", "made", "size", "kind"] ["table"] (defScope sMade) := ⟨rfl, rfl, rfl, by decide +kernel, rfl, by decide +kernel, by decide +kernel⟩
theorem ok_made {f R L fI fOr fAnd fShr fD pD : Addr} {mc : Value} {fd dI dOr dAnd dShr dD : FuncData} (F : Fun K "_law_made" "_law_made" sMade f fd) (T : Blt mg) (ZR : RuC K mg R) (MKR : Mk K R fI) (GRI : FnOk P w K mg base CX0 5 fI dI ["self", "base", "changes"] (spRuI R L K)) (bRI : Binds K dI ["self", "base", "changes"] [])
    (ZF : PySem.W.selfFirst K R = true) (oOr : Own K R "__or__" fOr) (GOr : FnOk P w K mg base CX0 7 fOr dOr ["self", "other"] (spD (Wr R L) (fJoin mx))) (bOr : Binds K dOr ["self", "other"] [])
    (oAnd : Own K R "__and__" fAnd) (GAnd : FnOk P w K mg base CX0 7 fAnd dAnd ["self", "other"] (spD (Wr R L) (fJoin mn))) (bAnd : Binds K dAnd ["self", "other"] [])
    (oShr : Own K R "__rshift__" fShr) (GShr : FnOk P w K mg base CX0 7 fShr dShr ["self", "other"] (spD (Wr R L) fShr0)) (bShr : Binds K dShr ["self", "other"] [])
    (cr : ClX.CRead K R mc) (cm : ClX.CMet K R mc "delay" pD fD) (GD : FnOk P w K mg base CX0 7 fD dD ["cls", "week", "number"] (spD (Wr R L) fDelay)) (bD : Binds K dD ["cls", "week", "number"] []) : FnOk P w K mg base CX0 8 f fd ["table"] (spD (Wr R L) fMade) := by
  refine okD F scMade (Wr R L) fMade (fun ds n K h => ?_) (fun p cdv A outer s H E hr => ?_)
  · obtain ⟨bs, cs, rest, rfl, _⟩ := h
    rfl
  · have hr7 : Room 7 _ := hr.mono (by decide)
    have hr6 : Room 6 _ := hr.mono (by decide)
    refine ⟨_, _, (dss_cons (ds_par (i := 1) (j := 2) rfl scMade.nd rfl rfl (by decide) rfl rfl (da_cons (let A := (da_cons (de_f (df_tQ call_list_of (by rfl) T.list (by decide +kernel) rd_list (dq (de_ixT (dv 0) de_int)))) (da_cons (de_f (df_tQ call_list_of (by rfl) T.list (by decide +kernel) rd_list (dq (de_ixT (dv 0) de_int)))) da_nil)); de_make MKR GRI (trE_rule A.tr) hr6 ZR.at_ bRI A.pa) (da_cons (de_bQ call_len_seq (by rfl) T.len PySem.boot_len rd_len (dq (de_ixT (dv 0) de_int))) da_nil)) (by rfl))
      (dss_cons (ds_set (i := 3) scMade.nd rfl (.inl rfl) (de_op op_mod rd_I (de_t call_int1 (by rfl) T.int (by decide +kernel) rd_int (da_cons (de_op op_add rd_I0 (de_bQ call_len_seq (by rfl) T.len PySem.boot_len rd_len (dq (de_ixT (dv 0) de_int))) (de_b call_abs (by rfl) T.abs (by decide +kernel) rd_C1 (da_cons (de_ixL (dq (de_ixT (dv 0) de_int)) (de_un un_neg rd_U de_int)) da_nil))) da_nil)) de_int))
      (dss_cons (ds_if (dt_cmp op_eq rd_Eq (dv 3) de_int)
        (dss_one (ds_ret (de_op (op_binOwn oAnd ZF GAnd hr7 bAnd) rd_bin (de_op (op_binOwn oOr ZF GOr hr7 bOr) rd_bin (dv 1) (de_cmeth ZR.at_ cr cm GD bD (rd_spD rfl) hr7 (da_cons (dv 2) (da_cons (de_ixL (dq (de_ixT (dv 0) de_int)) de_int) da_nil)))) (dv 1))))
        dss_nil)
      (dss_one (ds_ret (de_if (dt_cmp op_eq rd_Eq (dv 3) de_int) (de_op (op_binOwn oShr ZF GShr hr7 bShr) rd_bin (de_op (op_binOwn oShr ZF GShr hr7 bShr) rd_bin (dv 1) (de_cmeth ZR.at_ cr cm GD bD (rd_spD rfl) hr7 (da_cons (dv 2) (da_cons de_int da_nil)))) (de_cmeth ZR.at_ cr cm GD bD (rd_spD rfl) hr7 (da_cons (dv 2) (da_cons (de_un un_neg rd_U de_int) da_nil)))) (dv 1))))))), fun ds n K h => ?_⟩
    obtain ⟨bs, cs, rest, rfl, l0, l1, l2, asc, up, k⟩ := h
    have rise := up.rises l0 asc
    have ro : RuOk bs (tell bs cs).2 := ruOk_of l0 l1 asc rise
    have tl := (tell_sub bs cs).length_le
    have el : (((bs.map DV.int).length : Nat) : Int) = bs.length := by rw [List.length_map]
    refine ⟨_, atI_nat (j := 0) rfl, _, atI_nat (j := 1) rfl, bs, cs, rfl, l0, l1, by omega, asc, rise, ?_⟩
    refine ⟨_, atI_nat (j := 0) rfl, ?_⟩
    obtain ⟨lv, hlv⟩ := atI_last l0
    refine ⟨_, atI_nat (j := 1) rfl, _, atI_nat (j := 0) rfl, .int lv, hlv, ?_⟩
    obtain ⟨v0, hv0⟩ : ∃ v0 : Int, atI (bs.map DV.int) 0 = some (.int v0) := ⟨_, atI_nat (j := 0) (by rw [List.getElem?_map, List.getElem?_eq_getElem l0]; rfl)⟩
    have dn : ((bs.map DV.int).length : Int).toNat = bs.length := by rw [el, Int.toNat_natCast]
    have dk : ∀ v : Int, RuOk (List.replicate bs.length v) [] ∧ ∀ t, lawOff (List.replicate bs.length v) [] t = v := fun v => delay_ok l0 l1
    have lr : ∀ v : Int, (List.replicate bs.length v).length = bs.length := fun v => List.length_replicate
    refine ⟨(by decide : (0 : Int) < 4), rfl, fun g => ?_, fun _ => ⟨rfl, fun g => ?_, fun g => ?_⟩⟩
    · -- (made | delay) & made
      refine ⟨_, atI_nat (j := 0) rfl, .int v0, hv0, ?_⟩
      refine ⟨_, v0, rfl, by omega, by omega, ?_⟩
      rw [dn]
      refine ⟨rfl, rfl, bs, _, _, [], rfl, ro, (dk v0).1, (lr v0).symm, by show _ + 0 ≤ 990; omega, fun b1 c1 k1 hl1 h1 hc1 => ⟨rfl, ?_⟩⟩
      refine ⟨rfl, rfl, b1, c1, bs, _, rfl, k1, ro, hl1, by have : c1.length ≤ (tell bs cs).2.length + 0 := hc1; omega, fun b2 c2 k2 hl2 h2 hc2 => ⟨rfl, ?_⟩⟩
      obtain ⟨rfl, rfl⟩ := uniq_tab l0 l1 asc up k2 (by rw [hl2, hl1]) fun t => by
        rw [h2, h1, (dk v0).2]
        exact mn_mx _ _
      exact k
    · refine ⟨_, 7, rfl, by omega, by omega, ?_⟩
      rw [dn]
      refine ⟨rfl, rfl, bs, _, _, rfl, ro, (dk 7).1, (lr 7).symm, by omega, fun b1 c1 k1 hl1 h1 hc1 => ⟨rfl, ?_⟩⟩
      refine ⟨_, _, rfl, by omega, by omega, ?_⟩
      rw [dn]
      refine ⟨rfl, rfl, b1, c1, _, rfl, k1, (dk (-7)).1, by rw [hl1]; exact (lr (-7)).symm, by omega, fun b2 c2 k2 hl2 h2 hc2 => ⟨rfl, ?_⟩⟩
      obtain ⟨rfl, rfl⟩ := uniq_tab l0 l1 asc up k2 (by rw [hl2, hl1]) fun t => by
        rw [h2]
        unfold compOff
        rw [(dk (-7)).2, h1]
        unfold compOff
        rw [(dk 7).2]
        omega
      exact k
    · exact k
end

/-! ### f(k = v, ..), keywords alone -/
section
variable {X : Cx} {k : Nat} {f : Addr} {fd : FuncData} {ps ks : List Str} {sp : Sp} {x : Str} {p pos : Pos} {kws : List Keyword} {tk : TA} {g : List Value → List Value → List Value} {gV : List V → List V → List V}
theorem pe_callKw (F : FnOk X.prog X.w X.K X.mg X.base CX0 k f fd ps sp) (hr : Room k X.A) (hg : Gl X x) (hm : X.mg x = some (.ref f)) (hk : PySem.W.keepIn X.K (.ref f) = true) (hb : KBn X.K fd ps 0 ks g gV) (hkw : PK X kws tk)
    (hall : (backToKw pos (keywordEach kws X.env)).all (·.1.isSome) = true := by rfl) (hks : (backToKw pos (keywordEach kws X.env)).filterMap (·.1) = ks := by rfl) (hdb : (x == ("__debug__" : Str)) = false := by decide)
    (hpl : ((backTo pos (starEach [] X.env)).any (·.1) || (backToKw pos (keywordEach kws X.env)).any (·.1.isNone)) = false := by rfl) :
    PE X (.Call (.Name x p) [] kws pos) (fun σ H Q => tk σ H fun zs H2 => zs.length = ks.length ∧ sp (gV [] zs) H2 Q E0) := by
  refine ⟨fun pins s σ H Q I h => ?_⟩
  refine wpAny_Call_Name_kw (ld_glob I hg hm ?_ hdb)
  refine PySem.W.callWith_KW0 (h₀ := X.base) I.ok.mod.kin hk hall ?_ hpl
  refine thn (hkw.run pos pins s σ H _ I h) fun ws s2 hh => ?_
  obtain ⟨zs, H2, I2, rz, l2, q2⟩ := hh
  refine ⟨I2.kIn, ?_⟩
  rw [hks]
  have lw : ws.length = ks.length := rz.length.symm.trans l2
  refine wpAny_call (codeAny_mono (F.run X.A X.stack s2 H2 ⟨[], ks.zip ws⟩ (g [] ws) (gV [] zs) Q E0 hr I2.env0 (hb.to s2 [] ws I2.kIn rfl lw) (hb.rel .nil rz) q2) fun res s3 hq => ?_)
  rcases res with er | fl
  · exact False.elim hq
  · rcases fl with _ | _ | _ | u
    iterate 3 exact False.elim hq
    exact I2.after hq
end

/-! ### the first start of a law; what stays of a rule -/
theorem vals_getDr {vs : List V} {us : List Value} (r : Vals vs us) (i : Nat) : L2.RelV (vs.getD i V.non) (us.getD i Value.none) := by
  induction r generalizing i with
  | nil => cases i <;> exact (rfl : L2.RelV V.non Value.none)
  | cons a _ ih =>
    cases i with
    | zero => exact a
    | succ i => exact ih i
def gSw {α : Type} (z : α) : List α → List α → List α := fun _ ws => [ws.getD 1 z, ws.getD 0 z]
section
variable {X : Cx} {W : Wo} {pos : Pos} {k : Nat}
structure DKw (X : Cx) (W : Wo) (kws : List Keyword) (t : TA) (d : TDA) : Prop where
  pk : PK X kws t
  tr : TrA W t d
theorem dkw_nil : DKw X W [] tNil dNil := ⟨pk_nil, fun B Φ M σ H δ n Q K ok c h => c _ _ _ _ .refl ok.plOf .nil h⟩
theorem dkw_cons {e : Expr} {t : TE} {d : TD} {kws : List Keyword} {tA : TA} {dA : TDA} {nm : Option Str} {kpos : Pos} (ha : DE X W e t d) (hr : DKw X W kws tA dA) : DKw X W (⟨nm, e, kpos⟩ :: kws) (tCons t tA) (dCons d dA) := ⟨pk_cons ha.pe hr.pk, fun B Φ M σ H δ n Q K ok c h => ha.tr B Φ M σ H δ n _ _ ok (fun r m v H1 f p ra h => hr.tr B Φ M σ H1 δ m _ _ (ok.expr f p) (fun rs k vs H2 f2 p2 rb h =>
    c _ _ _ _ (f.trans f2) p2 (.cons (ra.mono (ok.frM f2)) rb) h) h) h⟩
def dCallSw (f : FD) (b : TDA) : TD := fun δ n K => b δ n fun xs k => match xs with
  | [x, y] => f [y, x] k K
  | _ => False
/-- f(b = y, a = x) of f(a, b) -/
theorem de_callSw {f : Addr} {fd : FuncData} {ps : List Str} {sp : Sp} {x n1 n2 : Str} {p : Pos} {kws : List Keyword} {tk : TA} {dk : TDA} {g : List Value → List Value → List Value} {fD : FD} (F : FnOk X.prog X.w X.K X.mg X.base CX0 k f fd ps sp) (rd : RdFn W sp fD) (hr : Room k X.A) (hm : X.mg x = some (.ref f)) (hk : PySem.W.keepIn X.K (.ref f) = true) (hb : KBn X.K fd ps 0 [n1, n2] g (gSw V.non)) (hkw : DKw X W kws tk dk)
    (hg : Gl X x := by rfl) (hall : (backToKw pos (keywordEach kws X.env)).all (·.1.isSome) = true := by rfl) (hks : (backToKw pos (keywordEach kws X.env)).filterMap (·.1) = [n1, n2] := by rfl) (hdb : (x == ("__debug__" : Str)) = false := by decide)
    (hpl : ((backTo pos (starEach [] X.env)).any (·.1) || (backToKw pos (keywordEach kws X.env)).any (·.1.isNone)) = false := by rfl) :
    DE X W (.Call (.Name x p) [] kws pos) (fun σ H Q => tk σ H fun zs H2 => zs.length = 2 ∧ sp (gSw V.non [] zs) H2 Q E0) (dCallSw fD dk) :=
  ⟨pe_callKw F hr hg hm hk hb hkw.pk hall hks hdb hpl, fun B Φ M σ H δ n Q K ok c q => hkw.tr B Φ M σ H δ n _ _ ok (fun ds m vs H1 f1 p1 ra q => by
    match ds, q with
    | [d1, d2], q =>
      obtain ⟨u, us, rfl, r1, rs⟩ := ra.cons_inv
      obtain ⟨v, rfl, r2⟩ := rs.one_inv
      have ok1 := ok.expr f1 p1
      exact ⟨rfl, rd M H1 [v, u] [d2, d1] m Q E0 K ok1.dom ok1.poolM (.cons r2 (.cons r1 .nil)) (fun r j v H' f2 p2 r2 k => c _ _ _ _ (f1.trans f2) p2 r2 k) q⟩) q⟩
end
/-- != of data -/
def fNeDt : DV → DV → (DV → Prop) → Prop := fun x y K => x.pu = true ∧ y.pu = true ∧ SeqAt.shaped x.py = true ∧ SeqAt.shaped y.py = true ∧ K (.bl (!PyData.eqv x.py y.py))
theorem rd_neDt {W : Wo} {K0 : PySem.W.Frag} : RdOp W (rNeD K0) fNeDt := fun M H x y dx dy Q K _ hx hy c h => by
  obtain ⟨h1, h2, h3, h4, h⟩ := h
  exact ⟨_, _, hx.dp h1, hy.dp h2, h3, h4, c _ _ _ (fun _ _ e => e) (.bl _) h⟩
structure AtG (P : Program) (w : World) (K : PySem.W.Frag) (mg : Str → Option Value) (base : Heap) (k : Nat) (x : Str) (ps : List Str) (sp : Sp) (f : Addr) (fd : FuncData) : Prop where
  ok : FnG P w K mg base k f fd ps sp
  at_ : mg x = some (.ref f)
  kp : PySem.W.keepIn K (.ref f) = true
  bi : Binds K fd ps []
def fFirst : FD := fun ds n K => ∃ bs cs rest u, ds = [.tup (dInt bs :: dPrs cs :: rest), .int u] ∧ 0 < bs.length ∧ bs.length ≤ 12 ∧ cs.length ≤ 60 ∧ ∀ t, val bs cs (t - 1) < u → u ≤ val bs cs t → K (.int t) n
def fStays : FD := fun ds n K => ∃ bs cs rest, ds = [.obj (.rul bs (tell bs cs).2), .tup (dInt bs :: dPrs cs :: rest)] ∧ 0 < bs.length ∧ bs.length ≤ 12 ∧ cs.length ≤ 60 ∧ (cs.Pairwise fun a b => a.1 < b.1) ∧ Up bs cs ∧ (∀ v ∈ bs, -10 ^ 40 < v ∧ v < 10 ^ 40) ∧ (∀ m ∈ cs, -10 ^ 40 < m.1 ∧ m.1 < 10 ^ 40 ∧ -10 ^ 40 < m.2 ∧ m.2 < 10 ^ 40) ∧ K (.bl true) n
section
variable {P : Program} {w : World} {K : PySem.W.Frag} {mg : Str → Option Value} {base : Heap}
theorem scStays : FnScope ["made", "table", "fresh", "shape", "again"] ["made", "table"] (defScope sStays) := ⟨rfl, rfl, rfl, by decide +kernel, rfl, by decide +kernel, by decide +kernel⟩
theorem ok_stays {f R L fI fE fH fC p1 g1 p2 g2 p3 g3 : Addr} {fd dI dE dH dC d1 d2 d3 : FuncData} (F : Fun K "_law_stays" "_law_stays" sStays f fd) (T : Blt mg) (ZR : RuC K mg R) (V1 : Pp P w K mg base R "week" (spRuWeek R L) p1 g1 d1) (V2 : Pp P w K mg base R "base" (spRuBase R L) p2 g2 d2) (V3 : Pp P w K mg base R "changes" (spChOf (ThR R L)) p3 g3 d3)
    (MKR : Mk K R fI) (GRI : FnOk P w K mg base CX0 5 fI dI ["self", "base", "changes"] (spRuI R L K)) (bRI : Binds K dI ["self", "base", "changes"] [])
    (eqq : EqQ K R fE) (GE : FnOk P w K mg base CX0 1 fE dE ["self", "other"] (spD (Wr R L) fEqR)) (bE : Binds K dE ["self", "other"] [])
    (oH : Own K R "__contains__" fH) (GH : FnOk P w K mg base CX0 5 fH dH ["self", "x"] (spD (Wr R L) fHas)) (bH : Binds K dH ["self", "x"] [])
    (cO : StX.CallO K R fC) (GRC : FnOk P w K mg base CX0 5 fC dC ["self", "moment"] (spRuAns R L)) (bRC : Binds K dC ["self", "moment"] []) : FnG P w K mg base 7 f fd ["made", "table"] (spD (Wr R L) fStays) := by
  refine okGD F scStays (Wr R L) fStays (fun ds n K h => ?_) (fun p cdv A outer s H E hgd hr => ?_)
  · obtain ⟨bs, cs, rest, rfl, _⟩ := h
    rfl
  · have hu := hr.units
    have hr2 : Room 2 _ := hr.mono (by decide)
    have hr5 : Room 5 _ := hr.mono (by decide)
    have hr6 : Room 6 _ := hr.mono (by decide)
    refine ⟨_, _, (dss_cons (ds_set (i := 2) scStays.nd rfl (.inl rfl) (let A := (da_cons (de_f (df_tQ call_list_of (by rfl) T.list (by decide +kernel) rd_list (dq (de_ixT (dv 1) de_int)))) (da_cons (de_f (df_tQ call_list_of (by rfl) T.list (by decide +kernel) rd_list (dq (de_ixT (dv 1) de_int)))) da_nil)); de_make MKR GRI (trE_rule A.tr) hr6 ZR.at_ bRI A.pa))
      (dss_cons (ds_par (i := 3) (j := 4) rfl scStays.nd rfl rfl (by decide) rfl rfl (da_cons (de_f (df_lst (da_cons (de_week (dv 0) ZR.cl V1.of V1.ok hr2 V1.bi) (da_cons (de_f (df_base (dv 0) ZR.cl V2.of V2.ok hr2 V2.bi)) (da_cons (de_f (df_changes (dv 0) ZR.cl V3.of V3.ok hr2 V3.bi)) da_nil))))) (da_cons (de_f (df_lst (da_cons (de_week (dv 2) ZR.cl V1.of V1.ok hr2 V1.bi) (da_cons (de_f (df_base (dv 2) ZR.cl V2.of V2.ok hr2 V2.bi)) (da_cons (de_f (df_changes (dv 2) ZR.cl V3.of V3.ok hr2 V3.bi)) da_nil))))) da_nil)) (by rfl))
      (dss_one (ds_ret (de_and (de_cmp op_eq rd_Eq (de_b (call_rep2 hgd hu) (by rfl) T.repr (by decide +kernel) rd_repr (da_cons (dv 3) da_nil)) (de_b (call_rep2 hgd hu) (by rfl) T.repr (by decide +kernel) rd_repr (da_cons (dv 4) da_nil))) (de_and (de_cmp (op_eqOO GE eqq bE hr2) (rd_eqD (g := id)) (dv 0) (dv 2)) (de_and (de_not (de_cmp (op_neOO GE eqq bE hr2) (rd_eqD (g := not)) (dv 2) (dv 0))) (de_one (de_cmp (hm := rfl) (op_inOwn oH GH hr5 bH) rd_inD (de_callO (dv 0) cO GRC rd_ans hr5 bRC (da_cons de_int da_nil)) (dv 0)))))))))), fun ds n K h => ?_⟩
    obtain ⟨bs, cs, rest, rfl, l0, l1, l2, asc, up, bb, cb, k⟩ := h
    have rise := up.rises l0 asc
    have ro : RuOk bs (tell bs cs).2 := ruOk_of l0 l1 asc rise
    have ts := tell_sub bs cs
    have tl := ts.length_le
    have tb : ∀ c ∈ (tell bs cs).2, -10 ^ 40 < c.1 ∧ c.1 < 10 ^ 40 ∧ -10 ^ 40 < c.2 ∧ c.2 < 10 ^ 40 := fun c hc => cb c (ts.subset hc)
    refine ⟨_, atI_nat (j := 0) rfl, _, atI_nat (j := 1) rfl, bs, cs, rfl, l0, l1, by omega, asc, rise, ?_⟩
    refine ⟨by show 3 ≤ 1000; decide, by show 3 ≤ 1000; decide, ?_⟩
    generalize hT : (tell bs cs).2 = T at ro ts tl tb k rise
    have eo : (DV.lst [.int ((bs.length : Nat) : Int), dInt bs, dPrs T]).py = PyData.list [.int ((bs.length : Nat) : Int), dInts bs, dMarks T] := by
      show PyData.list [.int ((bs.length : Nat) : Int), (dInt bs).py, (dPrs T).py] = _
      rw [py_ints, py_prs]
    have rp0 : Rp (PyData.list [.int ((bs.length : Nat) : Int), dInts bs, dMarks T]) 300 10 := (Rp.list (.cons (Rp.int (by omega) (by omega)) (.cons (rp_ints bb) (.cons (rp_marks tb) .nil)))).mono (by omega) (by omega)
    have rp1 : Rp (DV.lst [.int ((bs.length : Nat) : Int), dInt bs, dPrs T]).py 300 10 := by rw [eo]; exact rp0
    have pu0 : (DV.lst [.int ((bs.length : Nat) : Int), dInt bs, dPrs T]).pu = true := by
      show (true && ((dInt bs).pu && ((dPrs T).pu && true))) = true
      rw [pu_ints, pu_prs]
      rfl
    refine ⟨⟨300, 10, rp1, by decide, by decide⟩, pu0, ?_⟩
    refine ⟨⟨300, 10, rp1, by decide, by decide⟩, pu0, rfl, fun _ => ?_, fun g => ?_⟩
    · refine ⟨rfl, rfl, bs, T, bs, T, rfl, fun _ => ?_, fun g => ?_⟩
      · refine ⟨rfl, rfl, bs, T, bs, T, rfl, fun _ => ?_, fun g => ?_⟩
        · refine ⟨rfl, rfl, rfl, bs, T, _, rfl, ro, fun r hr => ?_⟩
          have : r = true := hr.mpr ⟨7, by rw [ro.off]; rfl⟩
          rw [this]
          exact k
        · exfalso
          have g2 : (!(!decide (bs = bs ∧ T = T))) = false := g
          rw [decide_eq_true ⟨rfl, rfl⟩] at g2
          cases g2
      · exfalso
        have g2 : decide (bs = bs ∧ T = T) = false := g
        rw [decide_eq_true ⟨rfl, rfl⟩] at g2
        cases g2
    · exfalso
      have g2 := (decide_eq_true rfl).symm.trans g
      cases g2
end

section
variable {P : Program} {w : World} {K : PySem.W.Frag} {mg : Str → Option Value} {base : Heap}
theorem scFirst : FnScope ["table", "spot", "offsets", "low", "high", "middle", "here", "offset"] ["table", "spot"] (defScope sFirst) := ⟨rfl, rfl, rfl, by decide +kernel, rfl, by decide +kernel, by decide +kernel⟩
theorem ok_first {f fO R L : Addr} {fd dO : FuncData} (F : Fun K "_law_first" "_law_first" sFirst f fd) (T : Blt mg) (Of : At P w K mg base 1 "_law_offset" ["table", "spot"] (spD (Wr R L) fOffB) fO dO) : FnOk P w K mg base CX0 2 f fd ["table", "spot"] (spD (Wr R L) fFirst) := by
  refine okD F scFirst (Wr R L) fFirst (fun ds n K h => ?_) (fun p cdv A outer s H E hr => ?_)
  · obtain ⟨bs, cs, rest, u, rfl, _⟩ := h
    rfl
  · 
    have hr1 : Room 1 _ := hr.mono (by decide)
    refine ⟨_, _, (dss_cons (ds_set (i := 2) scFirst.nd rfl (.inl rfl) (de_f (df_cat (dq (de_ixT (dv 0) de_int)) (dq (de_f (df_lc (g := (gTup K 2 (gCons (gName 6) (gCons (gName 7) gNil)))) (own := [("here", 6), ("offset", 7)]) rfl scFirst.nd (di_list (de_ixT (dv 0) de_int))
          (blkOk_by (N := ["table", "spot", "offsets", "low", "high", "middle", "here", "offset"]) (sc := defScope sFirst) (by decide +kernel)) (fun _ _ _ _ _ => (dg_tup rfl (dgs_cons (dg_name (i := 6) scFirst.nd rfl (.inl rfl)) (dgs_cons (dg_name (i := 7) scFirst.nd rfl (.inl rfl)) dgs_nil)) (.cons (.cons .nil)))) (fun _ _ _ _ _ => dts_nil)
          (fun _ _ _ _ _ => (dv 7))))))))
      (dss_cons (ds_par (i := 3) (j := 4) rfl scFirst.nd rfl rfl (by decide) rfl rfl (da_cons (de_op op_sub rd_I0 (dv 1) (de_bQ (cr_max rfl) (by rfl) T.max (by decide +kernel) rd_max (dq (dv 2)))) (da_cons (de_op op_sub rd_I0 (dv 1) (de_bQ (cr_min rfl) (by rfl) T.min (by decide +kernel) rd_min (dq (dv 2)))) da_nil)) (by rfl))
      (dss_cons (ds_while PassesOwn.never (dt_cmp op_lt rd_B0 (dv 3) (dv 4))
        (dss_cons (ds_set (i := 5) scFirst.nd rfl (.inl rfl) (de_op op_fdiv rd_I (de_op op_add rd_I0 (dv 3) (dv 4)) de_int))
        (dss_one (ds_if (dt_cmp op_ge rd_B0 (de_op op_add rd_I0 (dv 5) (de_call Of.ok (rd_spD rfl) hr1 Of.at_ Of.kp Of.bi (da_cons (dv 0) (da_cons (dv 5) da_nil)))) (dv 1))
          (dss_one (ds_set (i := 4) scFirst.nd rfl (.inl rfl) (dv 5)))
          (dss_one (ds_set (i := 3) scFirst.nd rfl (.inl rfl) (de_op op_add rd_I0 (dv 5) de_int)))))))
      (dss_one (ds_ret (dv 3)))))), fun ds n K h => ?_⟩
    obtain ⟨bs, cs, rest, u, rfl, l0, l1, l2, k⟩ := h
    refine ⟨_, atI_nat (j := 0) rfl, _, atI_nat (j := 1) rfl, ?_⟩
    refine ⟨by rw [List.length_map]; omega, fun i acc m => acc = (List.range i).map (fun (i : Nat) => DV.int (cs.getD i (0, 0)).2) ∧ m = n, ⟨rfl, rfl⟩, ?_, ?_⟩
    · rintro i acc m hi ⟨rfl, rfl⟩
      have hi : i < cs.length := by simpa using hi
      simp only [getD_prB hi]
      refine ⟨fun _ => ⟨acc_mapr ?_, rfl⟩, fun z => nomatch z⟩
      rw [List.getD_eq_getElem?_getD, List.getElem?_eq_getElem hi]
      rfl
    rintro acc m ⟨rfl, rfl⟩
    have e1 : bs.map DV.int ++ (List.range (cs.map dPr).length).map (fun (i : Nat) => DV.int (cs.getD i (0, 0)).2) = (bs ++ cs.map (·.2)).map DV.int := by
      rw [List.length_map, List.map_append, range_mapr cs (0, 0) fun c => DV.int c.2, List.map_map]
      rfl
    refine ⟨by rw [List.length_map, List.length_map, List.length_range, List.length_map]; omega, ?_⟩
    rw [e1]
    have off : ∀ t, lawOff bs cs t ∈ bs ++ cs.map (·.2) := fun t => by
      rcases lawOff_mem (cs := cs) (t := t) l0 with h | ⟨c, hc, h⟩
      · exact List.mem_append_left _ h
      · rw [h]
        exact List.mem_append_right _ (List.mem_map_of_mem hc)
    have ol : 0 < (bs ++ cs.map (·.2)).length := by rw [List.length_append]; omega
    generalize bs ++ cs.map (·.2) = os at off ol
    refine ⟨os, rfl, ol, fun mx hmx hx => ⟨os, rfl, ol, fun mi hmi hn => ?_⟩⟩
    have bd : ∀ t, mi ≤ lawOff bs cs t ∧ lawOff bs cs t ≤ mx := fun t => ⟨hn _ (off t), hx _ (off t)⟩
    refine ⟨fun k δ m' => ∃ (lo hi : Int) (y5 : Option SV), δ = [some (.dat (.tup (dInt bs :: dPrs cs :: rest))), some (.dat (.int u)), some (.dat (dInt os)), some (.dat (.int lo)), some (.dat (.int hi)), y5, none, none] ∧ lo ≤ hi ∧ val bs cs (lo - 1) < u ∧ u ≤ val bs cs hi ∧ k = (hi - lo).toNat ∧ m' = m, ⟨_, u - mx, u - mi, none, rfl, ?_, ?_, ?_, rfl, rfl⟩, ?_⟩
    · have := bd 0
      omega
    · have := bd (u - mx - 1)
      unfold val
      omega
    · have := bd (u - mi)
      unfold val
      omega
    · rintro j δ m' ⟨lo, hi, y5, rfl, le, h1, h2, rfl, rfl⟩
      refine ⟨fun g => ?_, fun g => ?_⟩
      · have g2 : lo < hi := of_decide_eq_true g
        refine ⟨⟨by decide, by decide⟩, bs, cs, rest, (lo + hi) / 2, rfl, l0, fun g3 => ?_, fun g3 => ?_⟩
        · have g4 : (lo + hi) / 2 + lawOff bs cs ((lo + hi) / 2) ≥ u := of_decide_eq_true g3
          refine ⟨((lo + hi) / 2 - lo).toNat, by omega, lo, (lo + hi) / 2, _, rfl, by omega, h1, g4, rfl, rfl⟩
        · have g4 : ¬ (lo + hi) / 2 + lawOff bs cs ((lo + hi) / 2) ≥ u := of_decide_eq_false g3
          refine ⟨(hi - ((lo + hi) / 2 + 1)).toNat, by omega, (lo + hi) / 2 + 1, hi, _, rfl, by omega, ?_, h2, rfl, rfl⟩
          rw [show (lo + hi) / 2 + 1 - 1 = (lo + hi) / 2 by omega]
          unfold val
          omega
      · have g2 : ¬ lo < hi := of_decide_eq_false g
        have e : lo = hi := by omega
        exact k lo h1 (by rw [e]; exact h2)
end

/-! ### ranges of great numbers: their iterator and list(range(a, b)) at the machine's level -/
namespace LRF
open PySem PySem.F
theorem owner_longrange_iterator : Manifest.owners.lookup (String.ofList ['r', 'o', 't', 'a', 'r', 'e', 't', 'i', '_', 'e', 'g', 'n', 'a', 'r', 'g', 'n', 'o', 'l'].reverse) = some Manifest.sig_longrange_iterator := by kernel_rfl
theorem slot_longrange_iterator_next : Slot "longrange_iterator" "__next__" "longrange_iterator.__next__" :=
  .of (owner := "longrange_iterator") (n := "__next__") (by rw [typeLookup_type, builtinLookup_eq_fast]; kernel_rfl) (by decide +kernel) (by decide +kernel) (by decide +kernel)
    (by first | exact .inl (by decide +kernel) | exact .inr (by decide +kernel)) (by rw [isSubtype_type]; kernel_rfl)
theorem entry_longrange_iterator_next : entryFor table "longrange_iterator.__next__" = some Builtin.«longrange_iterator.__next__» := entryFor_of_tree (by kernel_rfl)
theorem args_longrange_iterator_next_1 (a : Value) : argsOk "longrange_iterator.__next__" ⟨[a], []⟩ := by
  unfold argsOk; rw [signature?_of (id := "longrange_iterator.__next__") (n := ['_', '_', 't', 'x', 'e', 'n', '_', '_']) (o := ['r', 'o', 't', 'a', 'r', 'e', 't', 'i', '_', 'e', 'g', 'n', 'a', 'r', 'g', 'n', 'o', 'l']) (by kernel_rfl) owner_longrange_iterator]; kernel_rfl
theorem slot_longrange_iterator_iter : Slot "longrange_iterator" "__iter__" "longrange_iterator.__iter__" :=
  .of (owner := "longrange_iterator") (n := "__iter__") (by rw [typeLookup_type, builtinLookup_eq_fast]; kernel_rfl) (by decide +kernel) (by decide +kernel) (by decide +kernel)
    (by first | exact .inl (by decide +kernel) | exact .inr (by decide +kernel)) (by rw [isSubtype_type]; kernel_rfl)
theorem args_longrange_iterator_iter_1 (a : Value) : argsOk "longrange_iterator.__iter__" ⟨[a], []⟩ := by
  unfold argsOk; rw [signature?_of (id := "longrange_iterator.__iter__") (n := ['_', '_', 'r', 'e', 't', 'i', '_', '_']) (o := ['r', 'o', 't', 'a', 'r', 'e', 't', 'i', '_', 'e', 'g', 'n', 'a', 'r', 'g', 'n', 'o', 'l']) (by kernel_rfl) owner_longrange_iterator]; kernel_rfl
theorem entry_longrange_iterator_iter : entryFor table "longrange_iterator.__iter__" = some Builtin.«dict_keyiterator.__iter__» :=
  entryFor_alias (id' := "dict_keyiterator.__iter__") (by kernel_rfl) (by first | rfl | decide +kernel | (unfold String.splitOn; simp +decide [String.splitOnAux])) (by decide +kernel) (by kernel_rfl)
end LRF

namespace LRA
open PySem PySem.AutoRange
theorem longrange_iterator___next___longrange_iterator_1 (it : Addr) (x left step : Int) (hc0 : ¬left ≤ 0) :
    Meets (Builtin.«longrange_iterator.__next__» ⟨[.ref it], []⟩) (fun _ R s => s.heap.get? it = some { cls := .type "longrange_iterator", dict := none, data := .fields #[rawInt x, rawInt left, rawInt step], slots := #[] } ∧ R (.ok (.ret (Value.int x s.toks))) { s with heap := (s.heap.update it (Obj.mapFields fun x_1 => x_1.setIfInBounds 0 (rawInt (x + step)))).update it (Obj.mapFields fun x => x.setIfInBounds 1 (rawInt (left - 1))), toks := s.toks + 1 }) :=
  .of_wp fun prog w A R s h => by obtain ⟨hp, g, d, tk, os⟩ := s; obtain ⟨hl, h⟩ := h; wp_walk; exact ⟨_, rfl, h⟩


end LRA
namespace LRM
open PySem
open PySem.Sem (wp)
abbrev IsRangeIterL (h : Heap) (it : Addr) (x left step : Int) : Prop := h.get? it = some { cls := .type "longrange_iterator", dict := none, data := .fields #[rawInt x, rawInt left, rawInt step], slots := #[] }
section
variable {prog : Program} {w : World} {A : Around} {E : Value → Shared → Prop} {s : Shared}
theorem wpAny_pyIter_rangeL {r : Addr} {a b c : Int} {t u v : Tok} {Q : Value → Shared → Prop} (hr : IsRange s.heap r a b c t u v) (hsmall : Builtin.Range.small a b c = false)
    (hQ : Q (.ref s.heap.objs.size) { s with heap := s.heap.push { cls := .type "longrange_iterator", data := .fields #[rawInt a, rawInt (Builtin.Range.rangeSize a b c), rawInt c] } }) :
    wpAny (model prog w) A (pyIter (.ref r)) Q E s := by
  have hT : s.TypeIs (.ref r) "range" := ⟨_, hr, rfl⟩
  refine wpAny_pyIter_slot hT F.slot_range_iter (call_meets F.slot_range_iter hT F.entry_range_iter (F.args_range_iter_1 _)
    (AutoRange.range___iter___range_0 r a b c t u v (by unfold Builtin.Range.small at hsmall; simp [hsmall])) ⟨hr, ?_⟩)
  unfold Builtin.Range.small at hsmall
  simp only [hsmall, Bool.false_eq_true, if_false]
  exact ⟨"longrange_iterator", _, ⟨_, Heap.get?_push_size _ rfl, rfl⟩, LRF.slot_longrange_iterator_next.lookup, hQ⟩

theorem wpAny_pyNext_rangeL_item {it : Addr} {x left step : Int} {Q : Option Value → Shared → Prop} (hit : IsRangeIterL s.heap it x left step) (hleft : 0 < left)
    (hQ : ∀ h', IsRangeIterL h' it (x + step) (left - 1) step → Heap.SameBut it s.heap h' → Q (some (.int x s.toks)) { s with heap := h', toks := s.toks + 1 }) :
    wpAny (model prog w) A (pyNext (.ref it)) Q E s := by
  have hT : s.TypeIs (.ref it) "longrange_iterator" := ⟨_, hit, rfl⟩
  unfold pyNext
  refine wpAny_bind (wpAny_attempt (wpAny_callSpecial?_slot (name := Str.ofString "__next__") hT LRF.slot_longrange_iterator_next
    (call_meets LRF.slot_longrange_iterator_next hT LRF.entry_longrange_iterator_next (LRF.args_longrange_iterator_next_1 _) (LRA.longrange_iterator___next___longrange_iterator_1 it x left step (by omega)) ⟨hit, ?_⟩)))
  exact wpAny_pure (hQ _ (Heap.get?_update_self _ (Heap.get?_update_self _ hit rfl) rfl) ((Heap.SameBut.update ..).trans (Heap.SameBut.update ..)))

theorem wpAny_pyNext_rangeL_end {it : Addr} {x left step : Int} {Q : Option Value → Shared → Prop} (hh : A.handled = none) (hit : IsRangeIterL s.heap it x left step) (hleft : left ≤ 0)
    (hQ : ∀ h', Heap.ExtBut it s.heap h' → Q none { s with heap := h' }) : wpAny (model prog w) A (pyNext (.ref it)) Q E s := by
  have hT : s.TypeIs (.ref it) "longrange_iterator" := ⟨_, hit, rfl⟩
  unfold pyNext
  refine wpAny_bind (wpAny_attempt (wpAny_callSpecial?_slot (name := Str.ofString "__next__") hT LRF.slot_longrange_iterator_next
    (wpAny_call_entry LRF.slot_longrange_iterator_next hT LRF.entry_longrange_iterator_next ?_ (LRF.args_longrange_iterator_next_1 _))))
  obtain ⟨hp, g, d, tk, os⟩ := s
  wp_walk
  · simp only [raiseNew]
    refine wpAny_bind (wpAny_handled ?_)
    first | rw [show A.in1.handled = none from hh] | rw [hh]
    refine wpAny_bind (wpAny_pure (wpAny_throw ?_))
    refine wpAny_bind (wpAny_isInstance (T := "StopIteration") (b := true) ⟨_, Heap.get?_push_size _ rfl, rfl⟩ isSubtype_stop ?_)
    exact wpAny_pure (hQ _ (((Heap.ExtBut.refl it _).push _).push _))

theorem wpAny_pyIter_rangeiterL {it : Addr} {x left step : Int} {Q : Value → Shared → Prop} (hit : IsRangeIterL s.heap it x left step) (h : Q (.ref it) s) : wpAny (model prog w) A (pyIter (.ref it)) Q E s := by
  have hT : s.TypeIs (.ref it) "longrange_iterator" := ⟨_, hit, rfl⟩
  refine wpAny_pyIter_slot hT LRF.slot_longrange_iterator_iter (wpAny_call_entry LRF.slot_longrange_iterator_iter hT LRF.entry_longrange_iterator_iter ?_ (LRF.args_longrange_iterator_iter_1 _))
  show wpAny _ _ (ret (.ref it)) _ _ s
  exact wpAny_pure ⟨_, rfl, "longrange_iterator", _, hT, LRF.slot_longrange_iterator_next.lookup, h⟩

end
end LRM
namespace LRM
open PySem
open PySem.Sem (wp)
set_option maxRecDepth 100000
theorem Walks.rangeL {prog : Program} {w : World} {A : Around} (hh : A.handled = none) (I : Addr) (a c : Int) (n : Nat) :
    Walks prog w A I [I] [I] n (fun i v => ∃ t, v = .int (a + i * c) t) (fun i h => IsRangeIterL h I (a + (i : Nat) * c) ((n : Int) - (i : Nat)) c) where
  sub := fun _ hb => hb
  frame := fun _ _ _ st hk => hk I (by simp) _ st
  item := fun i s Q E hi st hQ => by
    refine wpAny_pyNext_rangeL_item st (by omega) fun h' hit' hs' => ?_
    refine hQ _ h' _ ⟨_, rfl⟩ ?_ fun b o hb e => hs'.extBut b o (fun h => hb (by simp [h])) e
    have e1 : a + ((i + 1 : Nat) : Int) * c = a + (i : Int) * c + c := by push_cast; rw [Int.add_mul, Int.one_mul, Int.add_assoc]
    have e2 : (n : Int) - ((i + 1 : Nat) : Int) = (n : Int) - (i : Int) - 1 := by push_cast; omega
    rw [e1, e2]; exact hit'
  done := fun s Q E st hQ => wpAny_pyNext_rangeL_end hh st (by omega) fun h' he' => hQ h' s.toks fun b o hb e => he' b o (fun h => hb (by simp [h])) e
  self := fun _ _ _ _ st hQ => wpAny_pyIter_rangeiterL st hQ


section
variable {prog : Program} {w : World} {A : Around} {E : Value → Shared → Prop} {s : Shared}
theorem wpAny_extend_rangeL {R : Result → Shared → Prop} {r : Addr} {a b c : Int} {t u v : Tok} {n : Nat} (hh : A.handled = none) (hr : IsRange s.heap r a b c t u v) (hsmall : Builtin.Range.small a b c = false)
    (hn : Builtin.Range.rangeSize a b c = n) (hlen : n ≤ 2 ^ 24) (S : Addr) (res : Value) (c₀ : Nat) (hS : s.heap.get? S = some { cls := .type "list", data := .seq #[] c₀ })
    (hR : ∀ h' tk acc' c', (∀ b o, b ≠ S → s.heap.get? b = some o → h'.get? b = some o) → h'.get? S = some { cls := .type "list", dict := none, data := .seq acc' c', slots := #[] } →
      ItemsOf (fun i v => ∃ t, v = .int (a + i * c) t) acc' n → R (.ok (.ret res)) { s with heap := h', toks := tk }) :
    wpAny (model prog w) A.in1 (Builtin.List.listExtendWith (.ref S) (.ref r) res)
      (fun fin s' => match fin with | .done f => R (.ok f) s' | .again c' => c'.quiet = true ∧ codeAny (model prog w) A c' R s') (fun e s' => R (.error e) s') s := by
  have hSr : S ≠ r := fun e => by rw [e, hr] at hS; simp at hS
  have hSlt : S < s.heap.objs.size := Heap.lt_size hS
  have hSI : S ≠ s.heap.objs.size := Nat.ne_of_lt hSlt
  have hSf : S ∉ [s.heap.objs.size] := fun hm => hSI (List.mem_singleton.mp hm)
  have W := (Walks.rangeL (prog := prog) (w := w) (A := A.in1) hh s.heap.objs.size a c n).toS

  have key : ∀ (h : Heap) (c₁ tk : Nat), IsRangeIterL h s.heap.objs.size (a + ((0 : Nat) : Int) * c) ((n : Int) - ((0 : Nat) : Int)) c → (∀ b o, b ≠ S → s.heap.get? b = some o → h.get? b = some o) →
      h.get? S = some { cls := .type "list", data := .seq #[] c₁ } → codeAny (model prog w) A (.builtin "list.extend.loop" ⟨[.ref S, .ref s.heap.objs.size, res], []⟩) R { s with heap := h, toks := tk } := by
    intro h c₁ tk hit hk hS₁
    refine codeAny_extend_loopS W (by rw [sizeLine_eq]; omega) S hSf res n 0 _ #[] c₁ rfl (Nat.zero_le _) hit hS₁ (ItemsOf.nil _) fun s' acc' c' hm hS' hacc => ?_
    rw [Moved.eq_with hm]
    refine hR s'.heap s'.toks acc' c' (fun b o hb e => hm.heap b o (fun hmem => ?_) (hk b o hb e)) hS' hacc
    rcases List.mem_cons.mp hmem with e' | hmem
    · exact hb e'
    · exact absurd (Heap.lt_size e) (by rw [List.mem_singleton.mp hmem]; exact Nat.lt_irrefl _)
  unfold Builtin.List.listExtendWith
  refine wpAny_bind (wpAny_typeOf (T := "range") ⟨_, hr, rfl⟩ ?_)
  have h1 : Builtin.List.listSameRef (.ref S) (.ref r) = false := by simp [Builtin.List.listSameRef, hSr]
  have h2 : (Value.type "range" == Value.type "list") = false := by decide
  have h3 : (Value.type "range" == Value.type "tuple") = false := by decide
  simp only [h1, h2, h3, Bool.or_false, Bool.false_eq_true, if_false]
  refine wpAny_bind (wpAny_pyIter_rangeL hr hsmall ?_)
  refine wpAny_bind (wpAny_holding (wpAny_hint_range (n := n) (Heap.get?_push_of_some _ hr) hn hlen ?_))
  have hit₁ : IsRangeIterL (s.heap.push { cls := .type "longrange_iterator", data := .fields #[rawInt a, rawInt (Builtin.Range.rangeSize a b c), rawInt c] }) s.heap.objs.size (a + ((0 : Nat) : Int) * c) ((n : Int) - ((0 : Nat) : Int)) c := by
    show IsRangeIterL _ _ _ _ _; rw [hn]; simpa using Heap.get?_push_size _ rfl
  have hS₁ := Heap.get?_push_of_some { cls := .type "longrange_iterator", data := .fields #[rawInt a, rawInt (Builtin.Range.rangeSize a b c), rawInt c] } hS
  refine wpAny_ite_split (fun _ => ?_) (fun _ => wpAny_pure ⟨plainId_quiet F.plain_extend_loop _, key _ c₀ _ hit₁ (fun b o _ e => Heap.get?_push_of_some _ e) hS₁⟩)
  refine wpAny_bind (wpAny_rule ?_)
  refine wpAny_bind ?_
  show wpAny _ _ (updateSeq S (·.push .none) >>= fun _ => updateSeq S (·.pop)) _ _ _
  refine wpAny_bind (wpAny_updateSeq hS₁ rfl ?_)
  have hS₂ := Heap.get?_update_self (Obj.mapSeq (·.push Value.none)) hS₁ rfl
  refine wpAny_updateSeq (hz := by seq_fits) hS₂ rfl ?_
  have hS₃ := Heap.get?_update_self (Obj.mapSeq (·.pop)) hS₂ rfl
  refine wpAny_pure ⟨plainId_quiet F.plain_extend_loop _, key _ _ _ ?_ (fun b o hb e => ?_) hS₃⟩
  · exact (Heap.get?_update_other _ _ hSI).trans ((Heap.get?_update_other _ _ hSI).trans hit₁)
  · exact (Heap.get?_update_other _ _ (Ne.symm hb)).trans ((Heap.get?_update_other _ _ (Ne.symm hb)).trans (Heap.get?_push_of_some _ e))

theorem wpAny_list_init_rangeL {R : Result → Shared → Prop} {r : Addr} {a b c : Int} {t u v : Tok} {n : Nat} (hh : A.handled = none) (hr : IsRange s.heap r a b c t u v) (hsmall : Builtin.Range.small a b c = false)
    (hn : Builtin.Range.rangeSize a b c = n) (hlen : n ≤ 2 ^ 24) (S : Addr) (hS : s.heap.get? S = some { cls := .type "list", data := .seq #[] })
    (hR : ∀ h' tk acc' c', (∀ b o, b ≠ S → s.heap.get? b = some o → h'.get? b = some o) → h'.get? S = some { cls := .type "list", dict := none, data := .seq acc' c', slots := #[] } →
      ItemsOf (fun i v => ∃ t, v = .int (a + i * c) t) acc' n → R (.ok (.ret .none)) { s with heap := h', toks := tk }) :
    wpAny (model prog w) A.in1 (Builtin.«list.__init__» ⟨[.ref S, .ref r], []⟩)
      (fun fin s' => match fin with | .done f => R (.ok f) s' | .again c' => c'.quiet = true ∧ codeAny (model prog w) A c' R s') (fun e s' => R (.error e) s') s := by
  have hSr : S ≠ r := fun e => by rw [e, hr] at hS; simp at hS
  show wpAny _ _ (do let old ← Builtin.List.listItems (.ref S); Builtin.List.listUpdate (.ref S) (fun _ => #[]); letGo old.toList.reverse; Builtin.List.listExtendWith (.ref S) (.ref r) .none) _ _ s
  refine wpAny_bind ?_
  unfold Builtin.List.listItems
  refine wpAny_bind (wpAny_seqItems hS rfl (wpAny_pure ?_))
  show wpAny _ _ (updateSeq S (fun _ => #[]) >>= fun _ => letGo (#[] : Array Value).toList.reverse >>= fun _ => Builtin.List.listExtendWith (.ref S) (.ref r) .none) _ _ s
  refine wpAny_bind (wpAny_updateSeq hS rfl ?_)
  have hS₂ := Heap.get?_update_self (Obj.mapSeq (fun _ => (#[] : Array Value))) hS rfl
  have oth : ∀ b o, b ≠ S → s.heap.get? b = some o → (s.heap.update S (Obj.mapSeq (fun _ => (#[] : Array Value)))).get? b = some o :=
    fun b o hb e => (Heap.get?_update_other _ _ (Ne.symm hb)).trans e
  refine wpAny_bind (wpAny_letGo ?_)
  refine wpAny_extend_rangeL hh (oth r _ (Ne.symm hSr) hr) hsmall hn hlen S .none _ hS₂ fun h' tk acc' c' hk hS' hacc => ?_
  exact hR h' tk acc' c' (fun b o hb e => hk b o hb (oth b o hb e)) hS' hacc
end

section
variable {prog : Program} {w : World} {A : Around} {E : Value → Shared → Prop} {s : Shared}

theorem call_list_rangeL {Q : Value → Shared → Prop} {r : Addr} {a b c : Int} {t u v : Tok} {n : Nat} (hh : A.handled = none) (hr : IsRange s.heap r a b c t u v) (hsmall : Builtin.Range.small a b c = false)
    (hn : Builtin.Range.rangeSize a b c = n) (hlen : n ≤ 2 ^ 24)
    (hQ : ∀ h' tk acc' c', (∀ b o, s.heap.get? b = some o → h'.get? b = some o) →
      h'.get? s.heap.objs.size = some { cls := .type "list", dict := none, data := .seq acc' c', slots := #[] } → ItemsOf (fun i v => ∃ t, v = .int (a + i * c) t) acc' n → Q (.ref s.heap.objs.size) { s with heap := h', toks := tk }) :
    wpAny (model prog w) A (call (.type "list") [.ref r]) Q E s := by
  refine callType_codes (Q₁ := fun obj s₁ => obj = .ref s.heap.objs.size ∧ s₁ = { s with heap := s.heap.push { cls := .type "list", data := .seq #[] } }) F.called_list (F.typeCall_list_1 _) F.entry_list_init
    (code_list_new _ ⟨rfl, rfl⟩) fun obj s₁ h₁ => ?_
  obtain ⟨rfl, rfl⟩ := h₁
  have hS : (s.heap.push { cls := .type "list", data := .seq #[] }).get? s.heap.objs.size = some { cls := .type "list", data := .seq #[] } := Heap.get?_push_size _ rfl
  refine ⟨⟨_, hS, rfl⟩, F.args_list_init_2 _ _, wpAny_list_init_rangeL (A := A.in1) hh (Heap.get?_push_of_some _ hr) hsmall hn hlen _ hS fun h' tk acc' c' hk hS' hacc => ?_⟩
  exact ⟨rfl, hQ h' tk acc' c' (fun b o e => hk b o (Nat.ne_of_lt (Heap.lt_size e)) (Heap.get?_push_of_some _ e)) hS' hacc⟩
end
end LRM

/-! ### ranges of any numbers -/
section
variable {X : Cx} {tg : Expr}
theorem turn_rangeL {P : Program} {w : World} {K : PySem.W.Frag} {tg : Expr} (it : Addr) (lo : Int) (n : Nat) : Turn P w K tg (Itr lo n) [it] it (fun i h => LRM.IsRangeIterL h it (lo + (i : Nat) * 1) ((n : Int) - (i : Nat)) 1) where
  mem := by simp
  obj := fun i h st b hb => by
    have e : b = it := by simpa using hb
    subst e
    exact ⟨_, st, fun v z => by
      have z' : Data.fields _ = Data.cell v := z
      cases z'⟩
  keep := fun i h h' st k => k it (by simp) _ st
  item := by
    intro X hP hw hK hc i pins s σ H E I hf st hg
    subst hP hw hK
    obtain ⟨f0, f1, f2, f3, f4, f5⟩ := hf it (by simp)
    have W := LRM.Walks.rangeL (prog := X.prog) (w := X.w) (I.ok.hd hc) it lo 1 n
    refine W.item i s _ _ hg st fun v h' tk hv st' kk => ?_
    obtain ⟨t, rfl⟩ := hv
    have I1 : Inv X pins σ H { s with heap := h', toks := tk } := I.turned (fun b o hb e => kk b o (by simpa using hb) e) f0 f1 f3 f4 f5
    refine ⟨_, rfl, go_of (s := { s with heap := h', toks := tk }) (n := "longrange_iterator") st' rfl rfl (by decide) ⟨.int (lo + i), H, I1, ⟨t, ?_⟩, ⟨rfl, rfl⟩, st', fun b hb => (hf b hb).1⟩⟩
    rw [Int.mul_one]
  done := by
    intro X hP hw hK hc i pins s σ H E I hf st hg
    subst hP hw hK
    obtain ⟨f0, f1, f2, f3, f4, f5⟩ := hf it (by simp)
    exact LRM.wpAny_pyNext_rangeL_end (I.ok.hd hc) st (by have : n ≤ i := hg; omega) fun h' eb => ⟨rfl, I.turned (t' := s.toks) (fun b o hb e => eb b o hb e) f0 f1 f3 f4 f5⟩
  self := fun _ _ _ _ _ st h => LRM.wpAny_pyIter_rangeiterL st h
theorem range_itS {pins : List (Addr × Obj)} {σ : L2.St} {H : Hp} {s : Shared} {R : It → Hp → Prop} {E : Value → Shared → Prop} {lo hi : Int} {t u v : Tok} {tk : Nat} (I : Inv X pins σ H s) (hb : Builtin.Range.small lo hi 1 = true)
    (q : R (Itr lo (hi - lo).toNat) H) : wpAny (model X.prog X.w) X.A (pyIter (.ref s.heap.objs.size)) (PIE X pins σ tg R) E { s with heap := s.heap.push { cls := .type "range", data := .fields #[.int lo t, .int hi u, .int 1 v] }, toks := tk } := by
  refine wpAny_pyIter_range (IsRange.new ..) hb ?_
  have I1 : Inv X pins σ H { s with heap := s.heap.push { cls := .type "range", data := .fields #[.int lo t, .int hi u, .int 1 v] }, toks := tk } := I.kept fun b o e => Heap.get?_push_of_some _ e
  refine ⟨(s.heap.push { cls := .type "range", data := .fields #[.int lo t, .int hi u, .int 1 v] }).objs.size, [(s.heap.push { cls := .type "range", data := .fields #[.int lo t, .int hi u, .int 1 v] }).objs.size], _, _, H, rfl,
    I1.kept (t' := tk) fun b o e => Heap.get?_push_of_some _ e, turn_range _ lo (hi - lo).toNat, ?_, fun b hb => ?_, q⟩
  · have e1 : lo + ((0 : Nat) : Int) * 1 = lo := by simp
    have e2 : (((hi - lo).toNat : Nat) : Int) - ((0 : Nat) : Int) = Builtin.Range.rangeSize lo hi 1 := by rw [rangeSize_one]; split <;> omega
    show IsRangeIter _ _ (lo + ((0 : Nat) : Int) * 1) ((((hi - lo).toNat : Nat) : Int) - ((0 : Nat) : Int)) 1
    rw [e1, e2]
    exact Heap.get?_push_size _ rfl
  · have e : b = (s.heap.push { cls := .type "range", data := .fields #[.int lo t, .int hi u, .int 1 v] }).objs.size := by simpa using hb
    subst e
    exact I1.fpOk (Nat.le_refl _) (I1.hok.fresh (Nat.le_refl _))
theorem range_itL {pins : List (Addr × Obj)} {σ : L2.St} {H : Hp} {s : Shared} {R : It → Hp → Prop} {E : Value → Shared → Prop} {lo hi : Int} {t u v : Tok} {tk : Nat} (I : Inv X pins σ H s) (hb : Builtin.Range.small lo hi 1 = false)
    (q : R (Itr lo (hi - lo).toNat) H) : wpAny (model X.prog X.w) X.A (pyIter (.ref s.heap.objs.size)) (PIE X pins σ tg R) E { s with heap := s.heap.push { cls := .type "range", data := .fields #[.int lo t, .int hi u, .int 1 v] }, toks := tk } := by
  refine LRM.wpAny_pyIter_rangeL (IsRange.new ..) hb ?_
  have I1 : Inv X pins σ H { s with heap := s.heap.push { cls := .type "range", data := .fields #[.int lo t, .int hi u, .int 1 v] }, toks := tk } := I.kept fun b o e => Heap.get?_push_of_some _ e
  refine ⟨(s.heap.push { cls := .type "range", data := .fields #[.int lo t, .int hi u, .int 1 v] }).objs.size, [(s.heap.push { cls := .type "range", data := .fields #[.int lo t, .int hi u, .int 1 v] }).objs.size], _, _, H, rfl,
    I1.kept (t' := tk) fun b o e => Heap.get?_push_of_some _ e, turn_rangeL _ lo (hi - lo).toNat, ?_, fun b hb => ?_, q⟩
  · have e1 : lo + ((0 : Nat) : Int) * 1 = lo := by simp
    have e2 : (((hi - lo).toNat : Nat) : Int) - ((0 : Nat) : Int) = Builtin.Range.rangeSize lo hi 1 := by rw [rangeSize_one]; split <;> omega
    show LRM.IsRangeIterL _ _ (lo + ((0 : Nat) : Int) * 1) ((((hi - lo).toNat : Nat) : Int) - ((0 : Nat) : Int)) 1
    rw [e1, e2]
    exact Heap.get?_push_size _ rfl
  · have e : b = (s.heap.push { cls := .type "range", data := .fields #[.int lo t, .int hi u, .int 1 v] }).objs.size := by simpa using hb
    subst e
    exact I1.fpOk (Nat.le_refl _) (I1.hok.fresh (Nat.le_refl _))
def iRng2A (ta : TA) : TI := fun σ H R => ta σ H fun vs H1 => ∃ i j : Int, vs = [.int i, .int j] ∧ R (Itr i (j - i).toNat) H1
theorem pi_range2A {a b : Expr} {ta : TA} {p pos : Pos} (hg : Gl X "range") (hm : X.mg "range" = none) (ha : PA X [a, b] ta) (hs : starEach [a, b] X.env = [(false, eval a X.env), (false, eval b X.env)] := by rfl) (hs2 : starEach [b] X.env = [(false, eval b X.env)] := by rfl) :
    PI X tg (.Call (.Name "range" p) [a, b] [] pos) (iRng2A ta) := by
  refine ⟨fun pins s σ H R I h => ?_⟩
  refine Call_ (ld_blt I hg hm boot_range (PyProof.Rows.callWith_type1 (thn (ha.run pos pins s σ H _ I h) fun us s1 ⟨vs, H1, I1, r1, q1⟩ => ?_) (by rw [hs, hs2]) (by rw [hs2]; rfl)))
  obtain ⟨i, j, e, q⟩ := q1
  subst e
  cases r1 with
  | cons r rr =>
    cases rr with
    | cons r' rr =>
      cases rr
      obtain ⟨t, rfl⟩ := r
      obtain ⟨t', rfl⟩ := r'
      cases hb : Builtin.Range.small i j 1 with
      | true => exact call_range_2 (range_itS I1 hb q)
      | false => exact call_range_2 (range_itL I1 hb q)
end
section
variable {X : Cx} {e : Expr} {te : L2.St → Hp → (Int → Int → Hp → Prop) → Prop}
def tLstRgA (te : L2.St → Hp → (Int → Int → Hp → Prop) → Prop) : TE := fun σ H Q => te σ H fun a b H1 => (b - a).toNat ≤ 2 ^ 24 ∧ ∀ q, H1 q = none → Q (.ref q) (upd H1 q (.lst (rgV a b)))
theorem pe_listRgA {p pos : Pos} (hc : X.calm = true) (hg : Gl X "list") (hm : X.mg "list" = none) (he : PRg X e te) (na : starEach [e] X.env = (false, eval e X.env) :: starEach [] X.env := by rfl) : PE X (.Call (.Name "list" p) [e] [] pos) (tLstRgA te) := by
  refine ⟨fun pins s σ H Q I h => ?_⟩
  refine Call_ (ld_blt I hg hm boot_list (PyProof.Rows.callWith_type1 (args_cons (thn (he pins s σ H _ I h) fun x s1 ⟨r, a, b, t, u, v, H1, ex, hr, I1, ok, q⟩ => args_nil ?_) na) na))
  subst ex
  suffices fin : ∀ (h' : Heap) (tk : Nat) (acc : Array Value) (c' : Nat), (∀ b o, s1.heap.get? b = some o → h'.get? b = some o) → h'.get? s1.heap.objs.size = some { cls := .type "list", dict := none, data := .seq acc c', slots := #[] } → ItemsOf (fun i v => ∃ t, v = .int (a + i * 1) t) acc (b - a).toNat →
      EP X pins σ Q (.ref s1.heap.objs.size) { s1 with heap := h', toks := tk } by
    cases hb : Builtin.Range.small a b 1 with
    | true => exact call_list_range (n := (b - a).toNat) (I1.ok.hd hc) hr hb (rangeSize_nat a b) ok fin
    | false => exact LRM.call_list_rangeL (n := (b - a).toNat) (I1.ok.hd hc) hr hb (rangeSize_nat a b) ok fin
  intro h' tk acc c' hk e' hi
  refine ⟨.ref s1.heap.objs.size, upd H1 s1.heap.objs.size (.lst (rgV a b)), I1.laid hk (Nat.le_refl _) (show ObjOk X.prog X.w _ _ _ (.lst (rgV a b)) from ⟨?_, acc.toList, c', vals_rg hi, ?_⟩), rfl, q _ (I1.hok.fresh (Nat.le_refl _))⟩
  · rw [rgV_length, sizeLine_eq]; omega
  · rw [Array.toArray_toList]; exact e'
end

/-! ### min(list of ints, key = a def that gives a tuple of two ints, default = None) -/
def ltT (x y : Int × Int) : Prop := x.1 < y.1 ∨ (x.1 = y.1 ∧ x.2 < y.2)
instance (x y : Int × Int) : Decidable (ltT x y) := inferInstanceAs (Decidable (_ ∨ _))
/-- all objects stay; frames may change their slots -/
def Fk (fs : List Addr) (h h' : Heap) : Prop := ∀ b o, h.get? b = some o → (b ∉ fs → h'.get? b = some o) ∧ ∃ sl, h'.get? b = some { o with slots := sl }
theorem Fk.refl {fs : List Addr} {h : Heap} : Fk fs h h := fun _ o e => ⟨fun _ => e, o.slots, e⟩
theorem Fk.trans {fs : List Addr} {h h1 h2 : Heap} (a : Fk fs h h1) (b : Fk fs h1 h2) : Fk fs h h2 := fun c o e =>
  ⟨fun n => (b c o ((a c o e).1 n)).1 n, let ⟨_, e1⟩ := (a c o e).2; let ⟨sl, e2⟩ := (b c _ e1).2; ⟨sl, e2⟩⟩
theorem Fk.un {fs : List Addr} {h h' : Heap} {H : Hp} (a : Fk fs h h') : Un fs [] H H h h' :=
  ⟨fun b o e _ n _ => (a b o e).1 n, fun b o e _ _ _ => (a b o e).2, fun _ _ _ n _ => n, fun b o e _ => let ⟨_, e1⟩ := (a b o e).2; ⟨_, e1⟩, fun _ _ q => q, fun _ _ _ q => q, fun _ ps q => ⟨#[], by rw [q]; simp⟩⟩
theorem Fk.hok {P : Program} {w : World} {fs : List Addr} {h h' : Heap} {H : Hp} (a : Fk fs h h') (x : HOk P w H h) (nf : ∀ b ∈ fs, H b = none) : HOk P w H h' := fun b o e =>
  (x b o e).stay (fun c u hc q => (a c u q).1 fun z => by
    have := nf c z
    rcases hc with rfl | hc
    · rw [e] at this; cases this
    · rw [hc] at this; cases this) (fun _ q => q) fun _ _ q => q
/-- a callee that leans on nothing: what is left behind -/
theorem Un.fk {fs : List Addr} {h h' : Heap} {H' : Hp} (u : Un fs [] (fun _ => none) H' h h') : Fk fs h h' := fun b o e =>
  ⟨fun n => u.keep b o e rfl n (by simp), u.any e rfl (by simp)⟩
theorem argBest_le (bt : Nat → Nat → Bool) : ∀ k, PySem.argBest bt k ≤ k
  | 0 => Nat.le_refl _
  | k + 1 => by
    show (if bt (k + 1) (PySem.argBest bt k) then k + 1 else PySem.argBest bt k) ≤ k + 1
    split
    · exact Nat.le_refl _
    · exact Nat.le_succ_of_le (argBest_le bt k)
theorem argBest_min (kf : Nat → Int × Int) : ∀ k i, i ≤ k → ¬ ltT (kf i) (kf (PySem.argBest (fun a b => decide (ltT (kf a) (kf b))) k))
  | 0, i, h => by
    obtain rfl : i = 0 := by omega
    show ¬ ltT (kf 0) (kf 0)
    unfold ltT
    omega
  | k + 1, i, h => by
    show ¬ ltT (kf i) (kf (if decide (ltT (kf (k + 1)) (kf (PySem.argBest (fun a b => decide (ltT (kf a) (kf b))) k))) then k + 1 else PySem.argBest (fun a b => decide (ltT (kf a) (kf b))) k))
    have ih := argBest_min kf k
    by_cases c : ltT (kf (k + 1)) (kf (PySem.argBest (fun a b => decide (ltT (kf a) (kf b))) k))
    · rw [if_pos (decide_eq_true c)]
      by_cases e : i = k + 1
      · subst e
        unfold ltT
        omega
      · have := ih i (by omega)
        unfold ltT at *
        omega
    · rw [if_neg (by rw [decide_eq_false c]; exact Bool.false_ne_true)]
      by_cases e : i = k + 1
      · subst e; exact c
      · exact ih i (by omega)
theorem rd_tup2 {h : Heap} {t : Addr} {its : List Value} {x y : Int} (r : Vals [.int x, .int y] its) (ht : IsTup h t its.toArray) : Reads h (.ref t) (.tuple [.int x, .int y]) [] := by
  obtain ⟨o, e, c, n, d⟩ := ht
  refine Reads.tuple e c d ?_
  rw [List.toList_toArray]
  cases r with
  | cons a b =>
    cases b with
    | cons a' b' =>
      cases b'
      obtain ⟨u, rfl⟩ := a
      obtain ⟨u', rfl⟩ := a'
      exact .cons (as := []) (.int _ _) (.cons (as := []) (.int _ _) .nil)
theorem dataLt_2 (x y x' y' : Int) : PySem.W.dataLt (.tuple [.int x, .int y]) (.tuple [.int x', .int y']) = decide (ltT (x, y) (x', y')) := PySem.W.dataLt_ii x y x' y'
section
variable {X : Cx} {k : Nat} {f : Addr} {fd : FuncData} {ps : List Str} {kf : Int → Int × Int}
/-- the key's promise -/
def spKey (kf : Int → Int × Int) : Sp := fun vs H Q _ => ∃ n, vs = [.int n] ∧ ∀ t H', H' t = some (.tup [.int (kf n).1, .int (kf n).2]) → Q (.ref t) H'
def rMinKD (f : Addr) (kf : Int → Int × Int) : List V → List V → Hp → VK → Prop := fun vs zs H Q => ∃ (a : Addr) (ns : List Int), vs = [.ref a] ∧ zs = [.ref f, .non] ∧ H a = some (.lst (ns.map V.int)) ∧
  (ns = [] → Q .non H) ∧ ∀ m ∈ ns, (∀ n ∈ ns, ¬ ltT (kf n) (kf m)) → Q (.int m) H
theorem cr_minKD (F : FnOk X.prog X.w X.K X.mg X.base CX0 k f fd ["moment"] (spKey kf)) (hb : Binds X.K fd ["moment"] []) (hr : Room (k + 1) X.A) :
    CallRK X (.builtin "min") [Str.ofString "key", Str.ofString "default"] (rMinKD f kf) := by
  intro pins s σ H vs zs us ws Q I r rz h
  obtain ⟨a, ns, rfl, rfl, hs, q0, q1⟩ := h
  obtain rfl := Vals.ref1 r
  obtain ⟨w1, w2, rfl, e1, e2⟩ := vals2 rz
  obtain rfl : w1 = Value.ref f := e1
  obtain rfl : w2 = Value.none := e2
  obtain ⟨z, its, n, rv, ho⟩ := I.hok a _ hs
  have hl : s.heap.IsList a its.toArray := ⟨_, ho, rfl, n, rfl⟩
  have hlen : its.toArray.size = ns.length := by rw [List.size_toArray, ← rv.length, List.length_map]
  have nfa : a ∉ frs X.stack := fun z => by have := I.stkFree a z; rw [hs] at this; cases this
  have frl : ∀ b ∈ frs X.stack, b < s.heap.objs.size := fun b hb => by
    obtain ⟨_, o, ho, _⟩ := I.stack.mem hb
    exact Heap.lt_size ho
  refine PySem.call_min_walkKD (PySem.W.iter_listW (A := X.A.in1) hr.in1.hd hl fun s2 e2 W st lts _ keep2 => ?_)
  have ki : its.toArray.size = its.toArray.size := rfl
  have sz2 : s2.heap.objs.size = s.heap.objs.size + 1 := by rw [e2]; exact Heap.size_push _ _
  refine ⟨_, _, _, _, its.toArray.size, _, _, fun s' => s'.os = s.os ∧ AllBare s'.gens ∧ Fk (frs X.stack) s.heap s'.heap,
    fun i v s' => ∃ t ks m, v = .ref t ∧ t ≠ s2.heap.objs.size ∧ t ≠ s.heap.objs.size ∧ t ∉ frs X.stack ∧ ns[i]? = some m ∧ Vals [.int (kf m).1, .int (kf m).2] ks ∧ IsTup s'.heap t ks.toArray,
    fun i j => decide (ltT (kf (ns.getD i 0)) (kf (ns.getD j 0))), rfl, W, st, lts, ⟨?_, ?_, ?_, ?_⟩, ?_, ?_, ?_⟩
  · rintro s1 s1' ⟨o1, b1, f1⟩ hm
    refine ⟨hm.os.trans o1, by rw [show s1'.gens = s1.gens from hm.gens]; exact b1, fun b o e => ?_⟩
    have hlt := Heap.lt_size e
    have nb : b ∉ [s2.heap.objs.size, s.heap.objs.size] := fun z => by
      rcases List.mem_cons.mp z with z | z
      · rw [z, sz2] at hlt
        exact absurd hlt (Nat.not_lt.mpr (Nat.le_succ _))
      · rw [List.mem_singleton.mp z] at hlt
        exact absurd hlt (Nat.lt_irrefl _)
    obtain ⟨g1, sl, g2⟩ := f1 b o e
    exact ⟨fun nf => hm.heap b _ nb (g1 nf), sl, hm.heap b _ nb g2⟩
  · rintro i v s1 s1' ⟨t, ks, m, rfl, n1, n2, n3, hm', rk, o, ho', r'⟩ hm
    refine ⟨t, ks, m, rfl, n1, n2, n3, hm', rk, o, hm.heap t o (fun z => ?_) ho', r'⟩
    rcases List.mem_cons.mp z with z | z
    · exact n1 z
    · exact n2 (List.mem_singleton.mp z)
  · intro i v s1 o Q' E' hi hv ⟨o1, b1, f1⟩ hst hS cont
    have I1 : Inv X pins σ H s1 := I.call' (ch := []) o1 f1.un (f1.hok I.hok I.stkFree) b1 (fun b z => absurd z (by simp))
    have en := I1.env0
    have en0 : Env0 X.prog X.w X.K X.mg X.base X.A.in1 X.stack s1 (fun _ => none) := ⟨en.frames, en.mod, fun b o e => ⟨(en.bs b o e).1, rfl⟩, en.bsz, en.funs, fun _ _ => rfl, fun a o e => (nomatch e), en.bare⟩
    have hi' : i < ns.length := by omega
    obtain ⟨u, hu, ru⟩ := rv.get (i := i) (x := .int ns[i]) (by simp [hi'])
    obtain rfl : v = u := by
      have : its[i]? = some v := by simpa using hv
      rw [this] at hu
      exact Option.some.inj hu
    refine wpAny_call (codeAny_mono (F.run X.A.in1 X.stack s1 (fun _ => none) ⟨[v], []⟩ [v] [.int ns[i]] (fun x H' => ∃ t, x = .ref t ∧ H' t = some (.tup [.int (kf ns[i]).1, .int (kf ns[i]).2])) E0 hr.in1 en0 (hb s1 [v] I1.kIn rfl) (.cons ru .nil) ⟨_, rfl, fun t H' ht => ⟨t, rfl, ht⟩⟩) fun res s3 hq => ?_)
    rcases res with er | fl
    · exact False.elim hq
    · rcases fl with _ | _ | _ | u'
      iterate 3 exact False.elim hq
      obtain ⟨x, H', os, bare, un, hok, rx, t, rfl, ht⟩ := hq
      obtain rfl : u' = Value.ref t := rx
      have fk := Un.fk un
      have tn : s1.heap.get? t = none := by
        cases e : s1.heap.get? t with
        | none => rfl
        | some ob =>
          have := un.free t ob e rfl (by simp)
          rw [ht] at this
          cases this
      obtain ⟨⟨oI, hI, cI, dI⟩, oL, hL, rL⟩ := hst
      have nS : t ≠ s2.heap.objs.size := fun z => by rw [z, hS] at tn; cases tn
      have nI : t ≠ s.heap.objs.size := fun z => by rw [z, hI] at tn; cases tn
      have nF : t ∉ frs X.stack := fun z => by
        obtain ⟨_, ob, e, _⟩ := I1.stack.mem z
        rw [e] at tn
        cases tn
      have nSf : s2.heap.objs.size ∉ frs X.stack := fun z => by have := frl _ z; rw [sz2] at this; exact absurd this (Nat.not_lt.mpr (Nat.le_succ _))
      have nIf : s.heap.objs.size ∉ frs X.stack := fun z => absurd (frl _ z) (Nat.lt_irrefl _)
      obtain ⟨_, ks, rk, tt⟩ := hok t _ ht
      refine cont _ s3 ⟨os.trans o1, bare, f1.trans fk⟩ ⟨⟨oI, (fk _ _ hI).1 nIf, cI, dI⟩, oL, (fk _ _ hL).1 nfa, rL⟩ ((fk _ _ hS).1 nSf) ⟨t, ks, ns[i], rfl, nS, nI, nF, by simp [hi'], rk, tt⟩ ?_
      rintro j k' ⟨t', ks', m', rfl, n1, n2, n3, hm', rk', ob, ho', r'⟩
      exact ⟨t', ks', m', rfl, n1, n2, n3, hm', rk', ob, (fk _ _ ho').1 n3, r'⟩
  · rintro i j ki kj s1 Q' E' _ ⟨t, ks, m, rfl, _, _, _, hm, rk, tt⟩ ⟨t', ks', m', rfl, _, _, _, hm', rk', tt'⟩ hq
    refine PySem.W.rcLt_alike _ _ X.A.in1 s1 _ _ _ _ (rd_tup2 rk tt) (rd_tup2 rk' tt') rfl (by simp) ?_ _ _ _ _ ?_
    · have := hr.in1.un
      have e : ∀ a b c d : Int, min (PyData.tuple [.int a, .int b]).depth (PyData.tuple [.int c, .int d]).depth ≤ 8 := fun a b c d => by simp [PyData.depth, PyData.depthAll]
      have := e (kf m).1 (kf m).2 (kf m').1 (kf m').2
      omega
    · rw [dataLt_2]
      simpa [List.getD, hm, hm'] using hq
  · exact ⟨by rw [e2], by rw [e2]; exact I.bare, fun b o e => ⟨fun _ => keep2 b o e, o.slots, keep2 b o e⟩⟩
  · intro n0 s' ⟨o1, b1, f1⟩
    refine ⟨.non, H, I.call' (ch := []) o1 f1.un (f1.hok I.hok I.stkFree) b1 (fun b z => absurd z (by simp)), rfl, q0 ?_⟩
    exact List.length_eq_zero_iff.mp (by omega)
  · intro n0 v s' hv ⟨o1, b1, f1⟩
    have le := argBest_le (fun i j => decide (ltT (kf (ns.getD i 0)) (kf (ns.getD j 0)))) (its.toArray.size - 1)
    have mn := argBest_min (fun i => kf (ns.getD i 0)) (its.toArray.size - 1)
    generalize PySem.argBest (fun i j => decide (ltT (kf (ns.getD i 0)) (kf (ns.getD j 0)))) (its.toArray.size - 1) = i at hv le mn
    have hi : i < ns.length := by omega
    obtain ⟨u, hu, ru⟩ := rv.get (i := i) (x := .int ns[i]) (by simp [hi])
    obtain rfl : v = u := by
      have : its[i]? = some v := by simpa using hv
      rw [this] at hu
      exact Option.some.inj hu
    refine ⟨.int ns[i], H, I.call' (ch := []) o1 f1.un (f1.hok I.hok I.stkFree) b1 (fun b z => absurd z (by simp)), ru, q1 _ (List.getElem_mem hi) fun m hm => ?_⟩
    obtain ⟨j, hj, rfl⟩ := List.getElem_of_mem hm
    have := mn j (by omega)
    simpa [List.getD, hi, hj] using this
end

/-! ### beside, in full -/
def BsMem (cs : List Int) (n z k : Int) : Prop := ∃ c, (c ∈ cs ∨ (z ≤ c ∧ c < z + n)) ∧ (k = c ∨ k = c - n)
def spBesideK : Sp := fun vs H Q _ => ∃ (a : Addr) (cs : List Int) (n z : Int), vs = [.ref a, .int n, .int z] ∧ H a = some (.lst (cs.map V.int)) ∧ 0 ≤ n ∧ cs.length + n.toNat ≤ 1300 ∧ (-(2 ^ 60) ≤ z ∧ z ≤ 2 ^ 60 ∧ n ≤ 12) ∧
  ∀ (H' : Hp) (q : Addr) (ks : List Int), Same H H' → H q = none → H' q = some (.lst (ks.map V.int)) → ks.length ≤ 2600 → ks.Pairwise (· < ·) → (∀ k, k ∈ ks ↔ BsMem cs n z k) → Q (.ref q) H'
section
variable {P : Program} {w : World} {K : PySem.W.Frag} {mg : Str → Option Value} {base : Heap}
theorem ok_besideK {f : Addr} {fd : FuncData} (F : FunD K "beside" "beside" (defArgs sBeside) (defBody sBeside) (defScope sBeside) [.int 0] [] f fd) (T : Blt mg) (T5 : Blt5 mg) : FnOk P w K mg base CX0 1 f fd ["cuts", "week", "centre"] spBesideK := by
  refine F.ok scBeside (fun vs H Q E h => ?_) (fun cdv A outer s H vs Q E hr h => ?_)
  · obtain ⟨a, cs, n, z, rfl, _⟩ := h
    rfl
  · obtain ⟨a, cs, n, z, rfl, ha, n0, le, zb, k⟩ := h
    suffices hh : ∃ t, PSs (cxOf CX0 P w K mg base ["cuts", "week", "centre", "parted", "cut", "moment"] "beside" (defScope sBeside) f cdv A outer s H E).nox (defBody sBeside) t ∧ t { nx := fun _ H' => Q .non H', rt := Q } (start ["cuts", "week", "centre", "parted", "cut", "moment"] [V.ref a, V.int n, V.int z]) H by
      obtain ⟨t, h1, h2⟩ := hh
      exact ⟨t, h1.nox, h2⟩
    refine ⟨_, pss_cons (ps_set (i := 3) scBeside.nd rfl (.inl rfl) (pe_op op_cat (pv 0) (pe_listRg rfl (by rfl) T.list (prg_2 (by rfl) T.range (pv 2) (pe_op op_add (pv 2) (pv 1))))))
      (pss_one (ps_ret (pe_callB (cr_sortedSetI rfl) (by rfl) T5.sorted (by decide +kernel) (pa_cons (pe_sc2 (own := [("cut", 4), ("moment", 5)]) (us := [5]) (g := gName 4) (gj := gName 5) (tt := tYes) (tj := tYes) (te := tVar 5) (wj := iTup K _) rfl scBeside.nd
        (pi_list (pv 3))
        (blkOk_by (N := ["cuts", "week", "centre", "parted", "cut", "moment"]) (sc := defScope sBeside) (by decide +kernel)) (by decide)
        (fun _ _ _ _ _ => pg_name (i := 4) scBeside.nd rfl (.inl rfl)) (fun _ _ _ _ _ => pts_nil)
        (fun _ _ _ _ _ => pi_tup (pe_tup (pa_cons (pv 4) (pa_cons (pe_op op_sub (pv 4) (pv 1)) pa_nil))))
        (fun _ _ _ _ _ => pg_name (i := 5) scBeside.nd rfl (.inl rfl)) (fun _ _ _ _ _ => pts_nil)
        (fun _ _ _ _ _ => pv 5)) pa_nil)))), ?_⟩
    refine ⟨_, rfl, _, rfl, _, rfl, _, rfl, _, _, rfl, rfl, _, _, rfl, rfl, ⟨by omega, by omega, by omega, by omega, by omega⟩, fun r hr1 => ?_⟩
    have s1 := same_new (o := .lst (rgV z (z + n))) hr1
    have hrl : (rgV z (z + n)).length = n.toNat := by rw [rgV_length]; omega
    refine ⟨a, r, _, _, rfl, rfl, s1 _ _ ha, upd_same, by rw [List.length_map, hrl, sizeLine_eq]; omega, fun G nG => ?_⟩
    have eG : cs.map V.int ++ rgV z (z + n) = (cs ++ ((List.range (z + n - z).toNat).map fun i : Nat => z + (i : Int))).map V.int := by rw [rgV_ints, List.map_append]
    rw [eG]
    have gl : (cs ++ ((List.range (z + n - z).toNat).map fun i : Nat => z + (i : Int))).length ≤ 1300 := by
      rw [List.length_append, List.length_map, List.length_range]
      omega
    have gmem : ∀ c, c ∈ cs ++ ((List.range (z + n - z).toNat).map fun i : Nat => z + (i : Int)) ↔ (c ∈ cs ∨ (z ≤ c ∧ c < z + n)) := fun c => by
      rw [List.mem_append, List.mem_map]
      constructor
      · rintro (h | ⟨i, hi, rfl⟩)
        · exact .inl h
        · have := List.mem_range.mp hi
          exact .inr ⟨by omega, by omega⟩
      · rintro (h | ⟨h1, h2⟩)
        · exact .inl h
        · exact .inr ⟨(c - z).toNat, List.mem_range.mpr (by omega), by omega⟩
    generalize cs ++ ((List.range (z + n - z).toNat).map fun i : Nat => z + (i : Int)) = gs at gl gmem ⊢
    have s2 := same_new (o := .lst (gs.map V.int)) nG
    have hG := upd_same (H := upd H r (.lst (rgV z (z + n)))) (a := G) (o := .lst (gs.map V.int))
    have s12 := s1.trans s2
    generalize upd (upd H r (.lst (rgV z (z + n)))) G (.lst (gs.map V.int)) = H3 at hG s2 s12 ⊢
    refine ⟨_, rfl, G, rfl, ⟨_, SqL.of hG⟩, fun D hD => wk_lst (K := K) (a := G) (xs := gs.map V.int) (fun i J => ∃ (S : Int → Bool) (m : Nat), J D = some (SetO w D S m) ∧ (∀ k, S k = true ↔ ∃ c ∈ gs.take i, k = c ∨ k = c - n) ∧ m ≤ 2 * i ∧ Same H3 J)
      ⟨_, 0, upd_same, fun k => by simp, Nat.zero_le _, same_new hD⟩ (fun i J _ ⟨_, _, _, _, _, h⟩ => SqL.of (h _ _ hG)) ?_ ?_⟩
    · rintro i y J hi ⟨S, m, hJ, hS, hm, sJ⟩
      have hi2 : i < gs.length := by
        have := (List.getElem?_eq_some_iff.mp hi).1
        simpa using this
      rw [List.getElem?_map, List.getElem?_eq_getElem hi2] at hi
      obtain rfl := Option.some.inj hi
      refine ⟨rfl, _, rfl, _, rfl, _, rfl, _, _, rfl, rfl, (by show 2 ≤ sizeLine; decide), fun q hq => ?_⟩
      have sq := same_new (o := .tup [.int gs[i], .int (gs[i] - n)]) hq
      have Dq : D ≠ q := ne_of_none hJ hq
      have hq2 := upd_same (H := J) (a := q) (o := .tup [.int gs[i], .int (gs[i] - n)])
      refine ⟨q, rfl, ⟨_, SqT.of hq2⟩, wk_tup (K := K) (a := q) (xs := [.int gs[i], .int (gs[i] - n)]) (fun j I => ∃ (S2 : Int → Bool) (m : Nat), I D = some (SetO w D S2 m) ∧ (∀ k, S2 k = true ↔ S k = true ∨ k ∈ ([gs[i], gs[i] - n] : List Int).take j) ∧ m ≤ 2 * i + j ∧ Fr D (upd J q (.tup [.int gs[i], .int (gs[i] - n)])) I)
        ⟨S, m, sq _ _ hJ, fun k => by simp, by omega, Fr.refl _ _⟩ (fun j I _ ⟨_, _, _, _, _, h⟩ => SqT.of (h _ _ hq2 Dq.symm)) ?_ ?_⟩
      · rintro j y I hj ⟨S2, m2, hI, hS2, hm2, fI⟩
        have hj2 := (List.getElem?_eq_some_iff.mp hj).1
        have hj3 : j < 2 := hj2
        have hv : ∃ v : Int, y = .int v ∧ ([gs[i], gs[i] - n] : List Int)[j]? = some v := by
          match j, hj with
          | 0, e => exact ⟨_, (Option.some.inj e).symm, rfl⟩
          | 1, e => exact ⟨_, (Option.some.inj e).symm, rfl⟩
        obtain ⟨v, rfl, hv⟩ := hv
        refine ⟨rfl, _, rfl, v, S2, m2, rfl, hI, (by show m2 + 1 < 4096; omega), _, _, upd_same, fun k => ?_, ?_, fI.trans Fr.at_⟩
        · rw [List.take_add_one, hv]
          simp only [List.mem_append, Option.toList, List.mem_singleton]
          rw [← or_assoc, ← hS2 k]
          simp
        · split <;> omega
      · rintro I ⟨S2, m2, hI, hS2, hm2, fI⟩
        have hm3 : m2 ≤ 2 * i + 2 := hm2
        refine ⟨S2, m2, hI, fun k => ?_, by omega, fun c o e => fI _ _ (sq _ _ (sJ _ _ e)) (ne_of_none e hD)⟩
        have e2 : k ∈ ([gs[i], gs[i] - n] : List Int).take ([V.int gs[i], V.int (gs[i] - n)] : List V).length ↔ (k = gs[i] ∨ k = gs[i] - n) := by
          show k ∈ [gs[i], gs[i] - n] ↔ _
          simp
        rw [hS2 k, hS k, e2, List.take_add_one, List.getElem?_eq_getElem hi2]
        simp only [List.mem_append, Option.toList, List.mem_singleton]
        constructor
        · rintro (⟨c, hc, h⟩ | h)
          · exact ⟨c, .inl hc, h⟩
          · exact ⟨_, .inr rfl, h⟩
        · rintro ⟨c, hc | rfl, h⟩
          · exact .inl ⟨c, hc, h⟩
          · exact .inr h
    · rintro J ⟨S, m, hJ, hS, hm, sJ⟩
      rw [List.length_map] at hm hS
      rw [List.take_length] at hS
      refine ⟨D, S, m, rfl, hJ, by omega, fun ks p asc mem len np => ?_⟩
      have s4 := same_new (o := .lst (ks.map V.int)) np
      refine k _ p ks ((s12.trans sJ).trans s4) ((s12.trans sJ).free np) upd_same (by omega) asc (fun k => ?_)
      rw [mem k, hS k]
      constructor
      · rintro ⟨c, hc, h⟩
        exact ⟨c, (gmem c).mp hc, h⟩
      · rintro ⟨c, hc, h⟩
        exact ⟨c, (gmem c).mpr hc, h⟩
end

/-! ### beside, in full, with any centre (behind besidek, lrange2) -/
def spBesideA : Sp := fun vs H Q _ => ∃ (a : Addr) (cs : List Int) (n z : Int), vs = [.ref a, .int n, .int z] ∧ H a = some (.lst (cs.map V.int)) ∧ 0 ≤ n ∧ cs.length + n.toNat ≤ 1300 ∧ n ≤ 12 ∧
  ∀ (H' : Hp) (q : Addr) (ks : List Int), Same H H' → H q = none → H' q = some (.lst (ks.map V.int)) → ks.length ≤ 2600 → ks.Pairwise (· < ·) → (∀ k, k ∈ ks ↔ BsMem cs n z k) → Q (.ref q) H'
section
variable {P : Program} {w : World} {K : PySem.W.Frag} {mg : Str → Option Value} {base : Heap}
theorem ok_besideA {f : Addr} {fd : FuncData} (F : FunD K "beside" "beside" (defArgs sBeside) (defBody sBeside) (defScope sBeside) [.int 0] [] f fd) (T : Blt mg) (T5 : Blt5 mg) : FnOk P w K mg base CX0 1 f fd ["cuts", "week", "centre"] spBesideA := by
  refine F.ok scBeside (fun vs H Q E h => ?_) (fun cdv A outer s H vs Q E hr h => ?_)
  · obtain ⟨a, cs, n, z, rfl, _⟩ := h
    rfl
  · obtain ⟨a, cs, n, z, rfl, ha, n0, le, zb, k⟩ := h
    suffices hh : ∃ t, PSs (cxOf CX0 P w K mg base ["cuts", "week", "centre", "parted", "cut", "moment"] "beside" (defScope sBeside) f cdv A outer s H E).nox (defBody sBeside) t ∧ t { nx := fun _ H' => Q .non H', rt := Q } (start ["cuts", "week", "centre", "parted", "cut", "moment"] [V.ref a, V.int n, V.int z]) H by
      obtain ⟨t, h1, h2⟩ := hh
      exact ⟨t, h1.nox, h2⟩
    refine ⟨_, pss_cons (ps_set (i := 3) scBeside.nd rfl (.inl rfl) (pe_op op_cat (pv 0) (pe_listRgA rfl (by rfl) T.list (prg_2 (by rfl) T.range (pv 2) (pe_op op_add (pv 2) (pv 1))))))
      (pss_one (ps_ret (pe_callB (cr_sortedSetI rfl) (by rfl) T5.sorted (by decide +kernel) (pa_cons (pe_sc2 (own := [("cut", 4), ("moment", 5)]) (us := [5]) (g := gName 4) (gj := gName 5) (tt := tYes) (tj := tYes) (te := tVar 5) (wj := iTup K _) rfl scBeside.nd
        (pi_list (pv 3))
        (blkOk_by (N := ["cuts", "week", "centre", "parted", "cut", "moment"]) (sc := defScope sBeside) (by decide +kernel)) (by decide)
        (fun _ _ _ _ _ => pg_name (i := 4) scBeside.nd rfl (.inl rfl)) (fun _ _ _ _ _ => pts_nil)
        (fun _ _ _ _ _ => pi_tup (pe_tup (pa_cons (pv 4) (pa_cons (pe_op op_sub (pv 4) (pv 1)) pa_nil))))
        (fun _ _ _ _ _ => pg_name (i := 5) scBeside.nd rfl (.inl rfl)) (fun _ _ _ _ _ => pts_nil)
        (fun _ _ _ _ _ => pv 5)) pa_nil)))), ?_⟩
    refine ⟨_, rfl, _, rfl, _, rfl, _, rfl, _, _, rfl, rfl, _, _, rfl, rfl, by omega, fun r hr1 => ?_⟩
    have s1 := same_new (o := .lst (rgV z (z + n))) hr1
    have hrl : (rgV z (z + n)).length = n.toNat := by rw [rgV_length]; omega
    refine ⟨a, r, _, _, rfl, rfl, s1 _ _ ha, upd_same, by rw [List.length_map, hrl, sizeLine_eq]; omega, fun G nG => ?_⟩
    have eG : cs.map V.int ++ rgV z (z + n) = (cs ++ ((List.range (z + n - z).toNat).map fun i : Nat => z + (i : Int))).map V.int := by rw [rgV_ints, List.map_append]
    rw [eG]
    have gl : (cs ++ ((List.range (z + n - z).toNat).map fun i : Nat => z + (i : Int))).length ≤ 1300 := by
      rw [List.length_append, List.length_map, List.length_range]
      omega
    have gmem : ∀ c, c ∈ cs ++ ((List.range (z + n - z).toNat).map fun i : Nat => z + (i : Int)) ↔ (c ∈ cs ∨ (z ≤ c ∧ c < z + n)) := fun c => by
      rw [List.mem_append, List.mem_map]
      constructor
      · rintro (h | ⟨i, hi, rfl⟩)
        · exact .inl h
        · have := List.mem_range.mp hi
          exact .inr ⟨by omega, by omega⟩
      · rintro (h | ⟨h1, h2⟩)
        · exact .inl h
        · exact .inr ⟨(c - z).toNat, List.mem_range.mpr (by omega), by omega⟩
    generalize cs ++ ((List.range (z + n - z).toNat).map fun i : Nat => z + (i : Int)) = gs at gl gmem ⊢
    have s2 := same_new (o := .lst (gs.map V.int)) nG
    have hG := upd_same (H := upd H r (.lst (rgV z (z + n)))) (a := G) (o := .lst (gs.map V.int))
    have s12 := s1.trans s2
    generalize upd (upd H r (.lst (rgV z (z + n)))) G (.lst (gs.map V.int)) = H3 at hG s2 s12 ⊢
    refine ⟨_, rfl, G, rfl, ⟨_, SqL.of hG⟩, fun D hD => wk_lst (K := K) (a := G) (xs := gs.map V.int) (fun i J => ∃ (S : Int → Bool) (m : Nat), J D = some (SetO w D S m) ∧ (∀ k, S k = true ↔ ∃ c ∈ gs.take i, k = c ∨ k = c - n) ∧ m ≤ 2 * i ∧ Same H3 J)
      ⟨_, 0, upd_same, fun k => by simp, Nat.zero_le _, same_new hD⟩ (fun i J _ ⟨_, _, _, _, _, h⟩ => SqL.of (h _ _ hG)) ?_ ?_⟩
    · rintro i y J hi ⟨S, m, hJ, hS, hm, sJ⟩
      have hi2 : i < gs.length := by
        have := (List.getElem?_eq_some_iff.mp hi).1
        simpa using this
      rw [List.getElem?_map, List.getElem?_eq_getElem hi2] at hi
      obtain rfl := Option.some.inj hi
      refine ⟨rfl, _, rfl, _, rfl, _, rfl, _, _, rfl, rfl, (by show 2 ≤ sizeLine; decide), fun q hq => ?_⟩
      have sq := same_new (o := .tup [.int gs[i], .int (gs[i] - n)]) hq
      have Dq : D ≠ q := ne_of_none hJ hq
      have hq2 := upd_same (H := J) (a := q) (o := .tup [.int gs[i], .int (gs[i] - n)])
      refine ⟨q, rfl, ⟨_, SqT.of hq2⟩, wk_tup (K := K) (a := q) (xs := [.int gs[i], .int (gs[i] - n)]) (fun j I => ∃ (S2 : Int → Bool) (m : Nat), I D = some (SetO w D S2 m) ∧ (∀ k, S2 k = true ↔ S k = true ∨ k ∈ ([gs[i], gs[i] - n] : List Int).take j) ∧ m ≤ 2 * i + j ∧ Fr D (upd J q (.tup [.int gs[i], .int (gs[i] - n)])) I)
        ⟨S, m, sq _ _ hJ, fun k => by simp, by omega, Fr.refl _ _⟩ (fun j I _ ⟨_, _, _, _, _, h⟩ => SqT.of (h _ _ hq2 Dq.symm)) ?_ ?_⟩
      · rintro j y I hj ⟨S2, m2, hI, hS2, hm2, fI⟩
        have hj2 := (List.getElem?_eq_some_iff.mp hj).1
        have hj3 : j < 2 := hj2
        have hv : ∃ v : Int, y = .int v ∧ ([gs[i], gs[i] - n] : List Int)[j]? = some v := by
          match j, hj with
          | 0, e => exact ⟨_, (Option.some.inj e).symm, rfl⟩
          | 1, e => exact ⟨_, (Option.some.inj e).symm, rfl⟩
        obtain ⟨v, rfl, hv⟩ := hv
        refine ⟨rfl, _, rfl, v, S2, m2, rfl, hI, (by show m2 + 1 < 4096; omega), _, _, upd_same, fun k => ?_, ?_, fI.trans Fr.at_⟩
        · rw [List.take_add_one, hv]
          simp only [List.mem_append, Option.toList, List.mem_singleton]
          rw [← or_assoc, ← hS2 k]
          simp
        · split <;> omega
      · rintro I ⟨S2, m2, hI, hS2, hm2, fI⟩
        have hm3 : m2 ≤ 2 * i + 2 := hm2
        refine ⟨S2, m2, hI, fun k => ?_, by omega, fun c o e => fI _ _ (sq _ _ (sJ _ _ e)) (ne_of_none e hD)⟩
        have e2 : k ∈ ([gs[i], gs[i] - n] : List Int).take ([V.int gs[i], V.int (gs[i] - n)] : List V).length ↔ (k = gs[i] ∨ k = gs[i] - n) := by
          show k ∈ [gs[i], gs[i] - n] ↔ _
          simp
        rw [hS2 k, hS k, e2, List.take_add_one, List.getElem?_eq_getElem hi2]
        simp only [List.mem_append, Option.toList, List.mem_singleton]
        constructor
        · rintro (⟨c, hc, h⟩ | h)
          · exact ⟨c, .inl hc, h⟩
          · exact ⟨_, .inr rfl, h⟩
        · rintro ⟨c, hc | rfl, h⟩
          · exact .inl ⟨c, hc, h⟩
          · exact .inr h
    · rintro J ⟨S, m, hJ, hS, hm, sJ⟩
      rw [List.length_map] at hm hS
      rw [List.take_length] at hS
      refine ⟨D, S, m, rfl, hJ, by omega, fun ks p asc mem len np => ?_⟩
      have s4 := same_new (o := .lst (ks.map V.int)) np
      refine k _ p ks ((s12.trans sJ).trans s4) ((s12.trans sJ).free np) upd_same (by omega) asc (fun k => ?_)
      rw [mem k, hS k]
      constructor
      · rintro ⟨c, hc, h⟩
        exact ⟨c, (gmem c).mp hc, h⟩
      · rintro ⟨c, hc, h⟩
        exact ⟨c, (gmem c).mpr hc, h⟩
end

/-! ### the nearest moment of a list; waits of a rule -/
section
variable {X : Cx} {W : Wo} {e a b : Expr} {ta : TE} {dA dQ : TDA} {p pos p2 p3 q1 q2 : Pos} {k : Nat} {f : Addr} {fd : FuncData} {kf : Int → Int × Int} {y : Str}
def dMinK (kf : Int → Int × Int) (a : TDA) : TD := fun δ n K => a δ n fun ds m => ∃ ns : List Int, ds = ns.map DV.int ∧ (ns = [] → K .non m) ∧ ∀ x ∈ ns, (∀ y ∈ ns, ¬ ltT (kf y) (kf x)) → K (.int x) m
theorem de_minK {j : Nat} (F : FnOk X.prog X.w X.K X.mg X.base CX0 k f fd ["moment"] (spKey kf)) (hb : Binds X.K fd ["moment"] []) (hr : Room (k + 1) X.A) (hm : X.mg "min" = none) (hmk : X.mg y = some (.ref f)) (ha : DQ X W e ta dA) (hg : Gl X "min" := by rfl) (hgk : Gl X y := by rfl) (hdk : (y == ("__debug__" : Str)) = false := by decide)
    (he : backTo pos (starEach [e] X.env) = (false, eval e X.env) :: backTo pos (starEach [] X.env) := by rfl) (hes : starEach [e] X.env = (false, eval e X.env) :: starEach [] X.env := by rfl) (hpl : (backTo pos (starEach [e] X.env)).any (·.1) = false := by rfl)
    (hall : (backToKw pos (keywordEach [⟨some "key", .Name y p2, q1⟩, ⟨some "default", .Constant .none j p3, q2⟩] X.env)).all (·.1.isSome) = true := by rfl) (hnone : (backToKw pos (keywordEach [⟨some "key", .Name y p2, q1⟩, ⟨some "default", .Constant .none j p3, q2⟩] X.env)).any (·.1.isNone) = false := by rfl)
    (hks : (backToKw pos (keywordEach [⟨some "key", .Name y p2, q1⟩, ⟨some "default", .Constant .none j p3, q2⟩] X.env)).filterMap (·.1) = [Str.ofString "key", Str.ofString "default"] := by rfl) :
    DE X W (.Call (.Name "min" p) [e] [⟨some "key", .Name y p2, q1⟩, ⟨some "default", .Constant .none j p3, q2⟩] pos) (tCKw (rMinKD f kf) (tCons ta tNil) (tCons (tC (.ref f)) (tCons (tC .non) tNil))) (dMinK kf dA) :=
  ⟨pe_callBK (cr_minKD F hb hr) hg hm (by decide +kernel) (pa_cons ha.pe pa_nil hes) (pk_cons (C8.pe_gc (v := .ref f) hgk ⟨_, hmk, rfl⟩ hdk) (pk_cons pe_non pk_nil)) (by decide) (by decide) he hpl hall hnone hks, fun B Φ M σ H δ n Q K ok c h =>
    ha.tr B Φ M σ H δ n _ _ ok (fun ds m q vs H1 f1 p1 hq nb ra h => by
      obtain ⟨ns, rfl, h0, h1⟩ := h
      rw [ra.ints] at hq
      exact ⟨q, ns, rfl, rfl, hq, fun e => c _ _ _ _ f1 p1 .non (h0 e), fun x hx hl => c _ _ _ _ f1 p1 (.int _) (h1 x hx hl)⟩) h⟩
/-- a call with defaults -/
theorem de_callD {ps : List Str} {sp : Sp} {fD : FD} {x : Str} {es : List Expr} {tA : TA} {ds : List Value} {dvs : List V} {dds : List DV} (F : FnOk X.prog X.w X.K X.mg X.base CX0 k f fd ps sp) (rd : RdFn W sp fD) (hr : Room k X.A) (hm : X.mg x = some (.ref f)) (hk : PySem.W.keepIn X.K (.ref f) = true) (hb : Binds X.K fd ps ds) (hd : Vals dvs ds) (rdv : ∀ M H, RepA W M H dvs dds) (ha : DA X W (e :: es) tA dA) (hg : Gl X x := by rfl)
    (hdb : (x == ("__debug__" : Str)) = false := by decide) (he : starEach (e :: es) X.env = (false, eval e X.env) :: starEach es X.env := by rfl) (hpl : (backTo pos (starEach es X.env)).any (·.1) = false := by rfl) :
    DE X W (.Call (.Name x p) (e :: es) [] pos) (tCall sp dvs E0 tA) (dCall (fun xs => fD (xs ++ dds)) dA) := ⟨pe_call F hr hg hm hk hb hd pass0 ha.pa hdb he hpl, fun B Φ M σ H δ n Q K ok c q => ha.tr B Φ M σ H δ n _ _ ok (fun xs m vs H1 f1 p1 ra q => by
      have ok1 := ok.expr f1 p1
      exact rd M H1 (vs ++ dvs) (xs ++ dds) m Q E0 K ok1.dom ok1.poolM (ra.append (rdv M H1)) (fun r j v H' f2 p2 r2 k => c _ _ _ _ (f1.trans f2) p2 r2 k) q) q⟩
/-- f(k = v) of f(k) -/
def gOne {α : Type} (z : α) : List α → List α → List α := fun _ ws => [ws.getD 0 z]
def dCallK1 (f : FD) (b : TDA) : TD := fun δ n K => b δ n fun xs k => match xs with
  | [x] => f [x] k K
  | _ => False
theorem de_callK1 {ps : List Str} {sp : Sp} {fD : FD} {x n1 : Str} {kws : List Keyword} {tk : TA} {dk : TDA} {g : List Value → List Value → List Value} (F : FnOk X.prog X.w X.K X.mg X.base CX0 k f fd ps sp) (rd : RdFn W sp fD) (hr : Room k X.A) (hm : X.mg x = some (.ref f)) (hk : PySem.W.keepIn X.K (.ref f) = true) (hb : KBn X.K fd ps 0 [n1] g (gOne V.non)) (hkw : DKw X W kws tk dk)
    (hg : Gl X x := by rfl) (hall : (backToKw pos (keywordEach kws X.env)).all (·.1.isSome) = true := by rfl) (hks : (backToKw pos (keywordEach kws X.env)).filterMap (·.1) = [n1] := by rfl) (hdb : (x == ("__debug__" : Str)) = false := by decide)
    (hpl : ((backTo pos (starEach [] X.env)).any (·.1) || (backToKw pos (keywordEach kws X.env)).any (·.1.isNone)) = false := by rfl) :
    DE X W (.Call (.Name x p) [] kws pos) (fun σ H Q => tk σ H fun zs H2 => zs.length = 1 ∧ sp (gOne V.non [] zs) H2 Q E0) (dCallK1 fD dk) :=
  ⟨pe_callKw F hr hg hm hk hb hkw.pk hall hks hdb hpl, fun B Φ M σ H δ n Q K ok c q => hkw.tr B Φ M σ H δ n _ _ ok (fun ds m vs H1 f1 p1 ra q => by
    match ds, q with
    | [d1], q =>
      obtain ⟨v, rfl, r2⟩ := ra.one_inv
      have ok1 := ok.expr f1 p1
      exact ⟨rfl, rd M H1 [v] [d1] m Q E0 K ok1.dom ok1.poolM (.cons r2 .nil) (fun r j v H' f2 p2 r2 k => c _ _ _ _ (f1.trans f2) p2 r2 k) q⟩) q⟩
/-- list(range(a, b)) -/
def rgI (a b : Int) : List Int := (List.range (b - a).toNat).map fun (i : Nat) => a + (i : Int)
theorem rgI_mem {a b k : Int} : k ∈ rgI a b ↔ a ≤ k ∧ k < b := by
  unfold rgI
  rw [List.mem_map]
  constructor
  · rintro ⟨i, hi, rfl⟩
    have := List.mem_range.mp hi
    omega
  · rintro ⟨h1, h2⟩
    exact ⟨(k - a).toNat, List.mem_range.mpr (by omega), by omega⟩
theorem rgI_len (a b : Int) : (rgI a b).length = (b - a).toNat := by unfold rgI; rw [List.length_map, List.length_range]
def dRg2 (da db : TD) : TDA := fun δ n K => da δ n fun x m => db δ m fun y j => ∃ a b : Int, x = .int a ∧ y = .int b ∧ RgOk a b ∧ K ((rgI a b).map DV.int) j
theorem df_listRg2 {tb : TE} {da db : TD} (hc : X.calm = true) (hm : X.mg "list" = none) (hm2 : X.mg "range" = none) (ha : DE X W a ta da) (hb : DE X W b tb db) (hg : Gl X "list" := by rfl) (hg2 : Gl X "range" := by rfl)
    (na2 : starEach [a, b] X.env = (false, eval a X.env) :: starEach [b] X.env := by rfl) (nb2 : starEach [b] X.env = (false, eval b X.env) :: starEach [] X.env := by rfl) (hp2 : (backTo p3 (starEach [b] X.env)).any (·.1) = false := by rfl)
    (na : starEach [.Call (.Name "range" p2) [a, b] [] p3] X.env = (false, eval (.Call (.Name "range" p2) [a, b] [] p3) X.env) :: starEach [] X.env := by rfl) :
    DF X W (.Call (.Name "list" p) [.Call (.Name "range" p2) [a, b] [] p3] [] pos) (tLstRg (tRg2 ta tb)) (dRg2 da db) :=
  ⟨pe_listRg hc hg hm (prg_2 hg2 hm2 ha.pe hb.pe na2 nb2 hp2) na, fun B Φ M σ H δ n Q K ok c h => ha.tr B Φ M σ H δ n _ _ ok (fun x m v H1 f1 p1 r1 h => by
    have ok1 := ok.expr f1 p1
    refine hb.tr B Φ M σ H1 δ m _ _ ok1 (fun y j u H2 f2 p2 r2 h => ?_) h
    obtain ⟨i, l, rfl, rfl, ok3, h⟩ := h
    refine ⟨i, l, (r1.mono (ok1.frM f2)).int_inv, r2.int_inv, ok3, fun q nq => ?_⟩
    have f12 := f1.trans f2
    have e : rgV i l = (rgI i l).map V.int := rgV_ints i l
    rw [e]
    exact c _ _ _ _ _ (f12.upd (.inl (none_fr f12 p2 nq))) (pl_new p2 nq) (none_fr f12 p2 nq) upd_same (repA_ints _) h) h⟩
end
def nr (i : Int) : Int × Int := (if i < 0 then -i else i, -i)
def fNess : FD := fun ds n K => ∃ i : Int, ds = [.int i] ∧ K (.tup [.int (nr i).1, .int (nr i).2]) n
def fNearest : FD := fun ds n K => ∃ ns : List Int, ds = [dInt ns] ∧ (ns = [] → K .non n) ∧ ∀ x ∈ ns, (∀ y ∈ ns, ¬ ltT (nr y) (nr x)) → K (.int x) n
def fBeside : FD := fun ds n K => ∃ (cs : List Int) (z c : Int), ds = [dInt cs, .int z, .int c] ∧ 0 ≤ z ∧ cs.length + z.toNat ≤ 1300 ∧ (-(2 ^ 60) ≤ c ∧ c ≤ 2 ^ 60 ∧ z ≤ 12) ∧ ∀ ks : List Int, ks.length ≤ 2600 → ks.Pairwise (· < ·) → (∀ k, k ∈ ks ↔ BsMem cs z c k) → K (dInt ks) n
def fAllW : FD := fun ds n K => ∃ bs cs, ds = [.obj (.rul bs cs)] ∧ bs.length ≤ 12 ∧ cs.length ≤ 300 ∧ K (dInt (bs ++ cs.map (·.2))) n
/-- the nearest moment with a wait -/
def IsNear (bs : List Int) (cs : List (Int × Int)) (wt m : Int) : Prop := lawOff bs cs m = wt ∧ ∀ k, lawOff bs cs k = wt → ¬ ltT (nr k) (nr m)
def fNearW : FD := fun ds n K => ∃ bs cs wt, ds = [.obj (.rul bs cs), .int wt] ∧ RuOk bs cs ∧ cs.length ≤ 300 ∧ (cs.Pairwise fun a b => a.1 < b.1) ∧ (∃ t, lawOff bs cs t = wt) ∧ ∀ m, IsNear bs cs wt m → K (.tup [.int wt, .int m]) n
def fLeastW : FD := fun ds n K => ∃ bs cs, ds = [.obj (.rul bs cs)] ∧ RuOk bs cs ∧ cs.length ≤ 300 ∧ (cs.Pairwise fun a b => a.1 < b.1) ∧ ∀ wt m, (∀ t, wt ≤ lawOff bs cs t) → IsNear bs cs wt m → K (.tup [.int wt, .int m]) n
def fGreatW : FD := fun ds n K => ∃ bs cs, ds = [.obj (.rul bs cs)] ∧ RuOk bs cs ∧ cs.length ≤ 300 ∧ (cs.Pairwise fun a b => a.1 < b.1) ∧ ∀ wt m, (∀ t, lawOff bs cs t ≤ wt) → IsNear bs cs wt m → K (.tup [.int wt, .int m]) n
theorem nr_lt {a b : Int} (h0 : 0 ≤ a) (h : a < b) : ltT (nr a) (nr b) := by
  unfold ltT nr
  simp only
  split <;> split <;> omega
theorem nr_lt2 {a b : Int} (h0 : a < 0) (h : b < a) : ltT (nr a) (nr b) := by
  unfold ltT nr
  simp only
  split <;> split <;> omega
theorem nr_eq {a b : Int} (h1 : ¬ ltT (nr a) (nr b)) (h2 : ¬ ltT (nr b) (nr a)) : a = b := by
  unfold ltT nr at h1 h2
  simp only at h1 h2
  split at h1 <;> split at h1 <;> (try split at h2) <;> omega
theorem IsNear.uniq {bs : List Int} {cs : List (Int × Int)} {wt a b : Int} (h1 : IsNear bs cs wt a) (h2 : IsNear bs cs wt b) : a = b := nr_eq (h2.2 a h1.1) (h1.2 b h2.1)
theorem near_exists {bs : List Int} {cs : List (Int × Int)} {wt t : Int} (h : lawOff bs cs t = wt) : ∃ m, IsNear bs cs wt m := by
  have main : ∀ N : Nat, ∀ t, lawOff bs cs t = wt → (2 * (nr t).1 + (if t < 0 then 1 else 0)).toNat ≤ N → ∃ m, IsNear bs cs wt m := by
    intro N
    induction N with
    | zero =>
      intro t h hN
      refine ⟨t, h, fun k _ hk => ?_⟩
      unfold ltT nr at hk
      unfold nr at hN
      simp only at hk hN
      split at hk <;> split at hk <;> split at hN <;> omega
    | succ N ih =>
      intro t h hN
      by_cases c : ∃ k, lawOff bs cs k = wt ∧ ltT (nr k) (nr t)
      · obtain ⟨k, hk, hl⟩ := c
        refine ih k hk ?_
        unfold ltT nr at hl
        unfold nr at hN ⊢
        simp only at hl hN ⊢
        split at hl <;> split at hl <;> (try split at hN) <;> (try split) <;> omega
      · exact ⟨t, h, fun k hk hl => c ⟨k, hk, hl⟩⟩
  exact main _ t h (Nat.le_refl _)
/-- without a change the offset is the one a week ahead -/
theorem off_week {bs : List Int} {cs : List (Int × Int)} {t : Int} (l0 : 0 < bs.length) (h : t ∉ cs.map (·.1)) : lawOff bs cs (t - (bs.length : Nat)) = lawOff bs cs t := (lawOff_prev l0 h).symm
theorem near_spot {bs : List Int} {cs : List (Int × Int)} {wt m : Int} (l0 : 0 < bs.length) (h : IsNear bs cs wt m) : BsMem (cs.map (·.1)) (bs.length : Nat) 0 m := by
  by_cases c1 : 0 ≤ m
  · by_cases c2 : m < (bs.length : Nat)
    · exact ⟨m, .inr ⟨c1, by omega⟩, .inl rfl⟩
    · by_cases c3 : m ∈ cs.map (·.1)
      · exact ⟨m, .inl c3, .inl rfl⟩
      · exfalso
        refine h.2 (m - (bs.length : Nat)) ?_ (nr_lt (by omega) (by omega))
        rw [off_week l0 c3]
        exact h.1
  · by_cases c2 : -((bs.length : Nat) : Int) ≤ m
    · exact ⟨m + (bs.length : Nat), .inr ⟨by omega, by omega⟩, .inr (by omega)⟩
    · by_cases c3 : m + (bs.length : Nat) ∈ cs.map (·.1)
      · exact ⟨m + (bs.length : Nat), .inl c3, .inr (by omega)⟩
      · exfalso
        refine h.2 (m + (bs.length : Nat)) ?_ (nr_lt2 (by omega) (by omega))
        rw [← off_week l0 c3]
        rw [show m + ((bs.length : Nat) : Int) - ((bs.length : Nat) : Int) = m by omega]
        exact h.1
/-- every wait that is written is one -/
theorem wait_at {bs : List Int} {cs : List (Int × Int)} {v : Int} (l0 : 0 < bs.length) (asc : cs.Pairwise fun a b => a.1 < b.1) (h : v ∈ bs ++ cs.map (·.2)) : ∃ t, lawOff bs cs t = v := by
  rcases List.mem_append.mp h with h | h
  · obtain ⟨B, hB⟩ : ∃ B : Int, ∀ c ∈ cs, B ≤ c.1 := by
      cases cs with
      | nil => exact ⟨0, fun c hc => nomatch hc⟩
      | cons d ds =>
        refine ⟨d.1, fun c hc => ?_⟩
        rcases List.mem_cons.mp hc with rfl | hc
        · exact Int.le_refl _
        · have := (List.pairwise_cons.mp asc).1 c hc
          omega
    obtain ⟨j, hj, e⟩ := wk_in h (B - (bs.length : Nat))
    refine ⟨B - (bs.length : Nat) + (j : Nat), ?_⟩
    rw [lawOff_lo fun c hc => by have := hB c hc; omega]
    exact e
  · obtain ⟨c, hc, rfl⟩ := List.mem_map.mp h
    exact ⟨c.1, lawOff_at asc hc⟩
theorem rd_beside {W : Wo} : RdFn W spBesideK fBeside := fun M H vs ds n Q E K dm pp r c h => by
  obtain ⟨cs, z, x, rfl, z0, l, b, h⟩ := h
  obtain ⟨v1, us, rfl, r1, rs⟩ := r.cons_inv
  obtain ⟨v2, us, rfl, r2, rs⟩ := rs.cons_inv
  obtain ⟨v3, rfl, r3⟩ := rs.one_inv
  obtain ⟨q, vs, rfl, hq, _, ra⟩ := Rep.lst_inv (ds := cs.map DV.int) r1
  rw [ra.ints] at hq
  refine ⟨q, cs, z, x, by rw [r2.int_inv, r3.int_inv], hq, z0, l, b, fun H' q ks s nq hq le asc mem => ?_⟩
  have ra := repA_ints (W := W) (M := M) (H := H') ks
  exact c (dInt ks) _ _ _ (.of s) (pl_same (poolPl pp) s) (.lst hq (fun z => (dm q z).ne nq) ra.1 ra.2) (h ks le asc mem)
theorem key_of {P : Program} {w : World} {K : PySem.W.Frag} {mg : Str → Option Value} {base : Heap} {k : Nat} {f R L : Addr} {fd : FuncData} (F : FnOk P w K mg base CX0 k f fd ["moment"] (spD (Wr R L) fNess)) : FnOk P w K mg base CX0 k f fd ["moment"] (spKey nr) :=
  F.imp fun vs H Q E h => by
    obtain ⟨i, rfl, h⟩ := h
    refine ⟨none, fun _ => False, [.int i], 0, fun r _ => r = .tup [.int (nr i).1, .int (nr i).2], (fun a z => z.elim), (fun a z => nomatch z), .cons (.int i) .nil, fun r m v H' fr pl rp e => ?_, i, rfl, rfl⟩
    subst e
    obtain ⟨q, us, rfl, hq, _, ra⟩ := rp.tup_inv
    obtain ⟨u1, us, rfl, r1, ra⟩ := ra.cons_inv
    obtain ⟨u2, rfl, r2⟩ := ra.one_inv
    rw [r1.int_inv, r2.int_inv] at hq
    exact h _ _ hq
section
variable {P : Program} {w : World} {K : PySem.W.Frag} {mg : Str → Option Value} {base : Heap}
theorem scNearness : FnScope ["moment"] ["moment"] (defScope sNearness) := ⟨rfl, rfl, rfl, by decide +kernel, rfl, by decide +kernel, by decide +kernel⟩
theorem ok_nearness {f R L : Addr} {fd : FuncData} (F : Fun K "nearness" "nearness" sNearness f fd) (T : Blt mg) : FnOk P w K mg base CX0 1 f fd ["moment"] (spD (Wr R L) fNess) := by
  refine okD F scNearness (Wr R L) fNess (fun ds n K h => ?_) (fun p cdv A outer s H E hr => ?_)
  · obtain ⟨i, rfl, _⟩ := h
    rfl
  ·
    refine ⟨_, _, (dss_one (ds_ret (de_tup (da_cons (de_b call_abs (by rfl) T.abs (by decide +kernel) rd_C1 (da_cons (dv 0) da_nil)) (da_cons (de_un un_neg rd_U (dv 0)) da_nil))))), fun ds n K h => ?_⟩
    obtain ⟨i, rfl, k⟩ := h
    exact ⟨two1000r, k⟩
theorem scNearest : FnScope ["moments"] ["moments"] (defScope sNearest) := ⟨rfl, rfl, rfl, by decide +kernel, rfl, by decide +kernel, by decide +kernel⟩
theorem ok_nearest {f R L fN : Addr} {fd dN : FuncData} (F : Fun K "nearest" "nearest" sNearest f fd) (T : Blt mg) (Ns : At P w K mg base 1 "nearness" ["moment"] (spD (Wr R L) fNess) fN dN) : FnOk P w K mg base CX0 3 f fd ["moments"] (spD (Wr R L) fNearest) := by
  refine okD F scNearest (Wr R L) fNearest (fun ds n K h => ?_) (fun p cdv A outer s H E hr => ?_)
  · obtain ⟨i, rfl, _⟩ := h
    rfl
  ·
    refine ⟨_, _, (dss_one (ds_ret (de_minK (key_of Ns.ok) Ns.bi hr T.min Ns.at_ (dq (dv 0))))), fun ds n K h => ?_⟩
    obtain ⟨ns, rfl, k1, k2⟩ := h
    exact ⟨ns, rfl, k1, k2⟩
end

/-! ### ranges of any numbers, without a heap (behind dl2, near and lrange2) -/
section
variable {X : Cx} {W : Wo} {e a b : Expr} {p pos p2 p3 : Pos}
def diR2A (a : TDA) : TDI := fun δ n K => a δ n fun xs m => match xs with
  | [x, y] => x.asI fun i => y.asI fun j => K (j - i).toNat (fun k => .int (i + (k : Int))) m
  | _ => False
theorem di_range2A {tg : Expr} {ta : TA} {da : TDA} (hg : Gl X "range") (hm : X.mg "range" = none) (ha : DA X W [a, b] ta da) (hs : starEach [a, b] X.env = [(false, eval a X.env), (false, eval b X.env)] := by rfl) (hs2 : starEach [b] X.env = [(false, eval b X.env)] := by rfl) :
    DI X W tg (.Call (.Name "range" p) [a, b] [] pos) (iRng2A ta) (diR2A da) :=
  ⟨pi_range2A hg hm ha.pa hs hs2, fun B Φ M σ H δ n R K ok c q => ha.tr B Φ M σ H δ n _ _ ok (fun r m v H' f p ra k => by
    match r, k with
    | [x, y], k =>
      obtain ⟨i, rfl, k1⟩ := DV.asI_inv k
      obtain ⟨j, rfl, k2⟩ := DV.asI_inv k1
      obtain ⟨u, us, rfl, r1, rs⟩ := ra.cons_inv
      obtain ⟨w, rfl, r2⟩ := rs.one_inv
      exact ⟨i, j, by rw [r1.int_inv, r2.int_inv], c _ _ _ _ _ _ _ f p walkD_range k2⟩) q⟩
def dRg2A (da db : TD) : TDA := fun δ n K => da δ n fun x m => db δ m fun y j => ∃ a b : Int, x = .int a ∧ y = .int b ∧ (b - a).toNat ≤ 2 ^ 24 ∧ K ((rgI a b).map DV.int) j
theorem df_listRg2A {ta tb : TE} {da db : TD} (hc : X.calm = true) (hm : X.mg "list" = none) (hm2 : X.mg "range" = none) (ha : DE X W a ta da) (hb : DE X W b tb db) (hg : Gl X "list" := by rfl) (hg2 : Gl X "range" := by rfl)
    (na2 : starEach [a, b] X.env = (false, eval a X.env) :: starEach [b] X.env := by rfl) (nb2 : starEach [b] X.env = (false, eval b X.env) :: starEach [] X.env := by rfl) (hp2 : (backTo p3 (starEach [b] X.env)).any (·.1) = false := by rfl)
    (na : starEach [.Call (.Name "range" p2) [a, b] [] p3] X.env = (false, eval (.Call (.Name "range" p2) [a, b] [] p3) X.env) :: starEach [] X.env := by rfl) :
    DF X W (.Call (.Name "list" p) [.Call (.Name "range" p2) [a, b] [] p3] [] pos) (tLstRgA (tRg2 ta tb)) (dRg2A da db) :=
  ⟨pe_listRgA hc hg hm (prg_2 hg2 hm2 ha.pe hb.pe na2 nb2 hp2) na, fun B Φ M σ H δ n Q K ok c h => ha.tr B Φ M σ H δ n _ _ ok (fun x m v H1 f1 p1 r1 h => by
    have ok1 := ok.expr f1 p1
    refine hb.tr B Φ M σ H1 δ m _ _ ok1 (fun y j u H2 f2 p2 r2 h => ?_) h
    obtain ⟨i, l, rfl, rfl, ok3, h⟩ := h
    refine ⟨i, l, (r1.mono (ok1.frM f2)).int_inv, r2.int_inv, ok3, fun q nq => ?_⟩
    have f12 := f1.trans f2
    have e : rgV i l = (rgI i l).map V.int := rgV_ints i l
    rw [e]
    exact c _ _ _ _ _ (f12.upd (.inl (none_fr f12 p2 nq))) (pl_new p2 nq) (none_fr f12 p2 nq) upd_same (repA_ints _) h) h⟩
end
def fBesideA : FD := fun ds n K => ∃ (cs : List Int) (z c : Int), ds = [dInt cs, .int z, .int c] ∧ 0 ≤ z ∧ cs.length + z.toNat ≤ 1300 ∧ z ≤ 12 ∧ ∀ ks : List Int, ks.length ≤ 2600 → ks.Pairwise (· < ·) → (∀ k, k ∈ ks ↔ BsMem cs z c k) → K (dInt ks) n
theorem rd_besideA {W : Wo} : RdFn W spBesideA fBesideA := fun M H vs ds n Q E K dm pp r c h => by
  obtain ⟨cs, z, x, rfl, z0, l, b, h⟩ := h
  obtain ⟨v1, us, rfl, r1, rs⟩ := r.cons_inv
  obtain ⟨v2, us, rfl, r2, rs⟩ := rs.cons_inv
  obtain ⟨v3, rfl, r3⟩ := rs.one_inv
  obtain ⟨q, vs, rfl, hq, _, ra⟩ := Rep.lst_inv (ds := cs.map DV.int) r1
  rw [ra.ints] at hq
  refine ⟨q, cs, z, x, by rw [r2.int_inv, r3.int_inv], hq, z0, l, b, fun H' q ks s nq hq le asc mem => ?_⟩
  have ra := repA_ints (W := W) (M := M) (H := H') ks
  exact c (dInt ks) _ _ _ (.of s) (pl_same (poolPl pp) s) (.lst hq (fun z => (dm q z).ne nq) ra.1 ra.2) (h ks le asc mem)

/-! ### where two rules part -/
/-- the nearest moment of a kind -/
def NearP (p : Int → Prop) (m : Int) : Prop := p m ∧ ∀ k, p k → ¬ ltT (nr k) (nr m)
theorem NearP.uniq {p : Int → Prop} {a b : Int} (h1 : NearP p a) (h2 : NearP p b) : a = b := nr_eq (h2.2 a h1.1) (h1.2 b h2.1)
theorem NearP.congr {p q : Int → Prop} {a : Int} (e : ∀ t, p t ↔ q t) (h : NearP p a) : NearP q a := ⟨(e a).mp h.1, fun k hk => h.2 k ((e k).mpr hk)⟩
theorem nearP_exists {p : Int → Prop} {t : Int} (h : p t) : ∃ m, NearP p m := by
  have main : ∀ N : Nat, ∀ t, p t → (2 * (nr t).1 + (if t < 0 then 1 else 0)).toNat ≤ N → ∃ m, NearP p m := by
    intro N
    induction N with
    | zero =>
      intro t h hN
      refine ⟨t, h, fun k _ hk => ?_⟩
      unfold ltT nr at hk
      unfold nr at hN
      simp only at hk hN
      split at hk <;> split at hk <;> split at hN <;> omega
    | succ N ih =>
      intro t h hN
      by_cases c : ∃ k, p k ∧ ltT (nr k) (nr t)
      · obtain ⟨k, hk, hl⟩ := c
        refine ih k hk ?_
        unfold ltT nr at hl
        unfold nr at hN ⊢
        simp only at hl hN ⊢
        split at hl <;> split at hl <;> (try split at hN) <;> (try split) <;> omega
      · exact ⟨t, h, fun k hk hl => c ⟨k, hk, hl⟩⟩
  exact main _ t h (Nat.le_refl _)
theorem nearP_spot {p : Int → Prop} {cuts : List Int} {z : Nat} {m : Int} (l0 : 0 < z) (step : ∀ t, t ∉ cuts → (p (t - (z : Int)) ↔ p t)) (h : NearP p m) : BsMem cuts (z : Nat) 0 m := by
  by_cases c1 : 0 ≤ m
  · by_cases c2 : m < (z : Nat)
    · exact ⟨m, .inr ⟨c1, by omega⟩, .inl rfl⟩
    · by_cases c3 : m ∈ cuts
      · exact ⟨m, .inl c3, .inl rfl⟩
      · exact absurd (nr_lt (by omega) (by omega)) (h.2 (m - (z : Nat)) ((step m c3).mpr h.1))
  · by_cases c2 : -((z : Nat) : Int) ≤ m
    · exact ⟨m + (z : Nat), .inr ⟨by omega, by omega⟩, .inr (by omega)⟩
    · by_cases c3 : m + (z : Nat) ∈ cuts
      · exact ⟨m + (z : Nat), .inl c3, .inr (by omega)⟩
      · have s := step _ c3
        rw [show m + ((z : Nat) : Int) - ((z : Nat) : Int) = m by omega] at s
        exact absurd (nr_lt2 (by omega) (by omega)) (h.2 (m + (z : Nat)) (s.mp h.1))
def PartP (b1 : List Int) (c1 : List (Int × Int)) (b2 : List Int) (c2 : List (Int × Int)) (t : Int) : Prop := lawOff b1 c1 t ≠ lawOff b2 c2 t
def LaterP (b1 : List Int) (c1 : List (Int × Int)) (b2 : List Int) (c2 : List (Int × Int)) (t : Int) : Prop := lawOff b1 c1 t > lawOff b2 c2 t
theorem off_step2 {b1 b2 : List Int} {c1 c2 : List (Int × Int)} (l0 : 0 < b1.length) (ll : b2.length = b1.length) {t : Int} (h : t ∉ (c1 ++ c2).map (·.1)) : lawOff b1 c1 (t - (b1.length : Nat)) = lawOff b1 c1 t ∧ lawOff b2 c2 (t - (b1.length : Nat)) = lawOff b2 c2 t := by
  rw [List.map_append, List.mem_append] at h
  refine ⟨off_week l0 fun z => h (.inl z), ?_⟩
  rw [← ll]
  exact off_week (by omega) fun z => h (.inr z)
theorem part_step {b1 b2 : List Int} {c1 c2 : List (Int × Int)} (l0 : 0 < b1.length) (ll : b2.length = b1.length) (t : Int) (h : t ∉ (c1 ++ c2).map (·.1)) : PartP b1 c1 b2 c2 (t - (b1.length : Nat)) ↔ PartP b1 c1 b2 c2 t := by
  obtain ⟨e1, e2⟩ := off_step2 l0 ll h
  unfold PartP
  rw [e1, e2]
theorem later_step {b1 b2 : List Int} {c1 c2 : List (Int × Int)} (l0 : 0 < b1.length) (ll : b2.length = b1.length) (t : Int) (h : t ∉ (c1 ++ c2).map (·.1)) : LaterP b1 c1 b2 c2 (t - (b1.length : Nat)) ↔ LaterP b1 c1 b2 c2 t := by
  obtain ⟨e1, e2⟩ := off_step2 l0 ll h
  unfold LaterP
  rw [e1, e2]
/-- what nearest gives of a list of moments of a kind -/
theorem near_list {p : Int → Prop} [DecidablePred p] {sp : List Int} (all : ∀ m, NearP p m → m ∈ sp) {K : DV → Prop} (h0 : (∀ t, ¬ p t) → K .non) (h1 : ∀ m, NearP p m → K (.int m)) :
    ((sp.filter fun x => decide (p x)) = [] → K .non) ∧ ∀ x ∈ sp.filter (fun x => decide (p x)), (∀ y ∈ sp.filter (fun x => decide (p x)), ¬ ltT (nr y) (nr x)) → K (.int x) := by
  have inn : ∀ m, NearP p m → m ∈ sp.filter fun x => decide (p x) := fun m h => List.mem_filter.mpr ⟨all m h, decide_eq_true h.1⟩
  refine ⟨fun e => h0 fun t ht => ?_, fun x hx hl => ?_⟩
  · obtain ⟨m, hm⟩ := nearP_exists ht
    have := inn m hm
    rw [e] at this
    cases this
  · have px := of_decide_eq_true (List.mem_filter.mp hx).2
    obtain ⟨m, hm⟩ := nearP_exists px
    obtain rfl : x = m := nr_eq (hm.2 x px) (hl m (inn m hm))
    exact h1 x hm
theorem filt_step {p : Int → Prop} [DecidablePred p] {sp : List Int} {i : Nat} (hi : i < sp.length) :
    (p (sp.getD i 0) → ((sp.take i).filter fun x => decide (p x)).map DV.int ++ [DV.int (sp.getD i 0)] = ((sp.take (i + 1)).filter fun x => decide (p x)).map DV.int) ∧
    (¬ p (sp.getD i 0) → ((sp.take i).filter fun x => decide (p x)).map DV.int = ((sp.take (i + 1)).filter fun x => decide (p x)).map DV.int) := by
  have et : sp.take (i + 1) = sp.take i ++ [sp.getD i 0] := by
    rw [List.take_add_one, List.getElem?_eq_getElem hi, List.getD_eq_getElem?_getD, List.getElem?_eq_getElem hi]
    rfl
  rw [et, List.filter_append, List.map_append]
  refine ⟨fun h => ?_, fun h => ?_⟩
  · have e1 : [sp.getD i 0].filter (fun x => decide (p x)) = [sp.getD i 0] := by simp only [List.filter, decide_eq_true h]
    rw [e1]
    rfl
  · have e1 : [sp.getD i 0].filter (fun x => decide (p x)) = [] := by simp only [List.filter, decide_eq_false h]
    rw [e1]
    exact (List.append_nil _).symm
instance {b1 : List Int} {c1 : List (Int × Int)} {b2 : List Int} {c2 : List (Int × Int)} : DecidablePred (PartP b1 c1 b2 c2) := fun t => inferInstanceAs (Decidable (_ ≠ _))
instance {b1 : List Int} {c1 : List (Int × Int)} {b2 : List Int} {c2 : List (Int × Int)} : DecidablePred (LaterP b1 c1 b2 c2) := fun t => inferInstanceAs (Decidable (_ > _))
def fTell : FD := fun ds n K => ∃ b1 c1 b2 c2, ds = [.obj (.rul b1 c1), .obj (.rul b2 c2)] ∧ b1.length ≤ 12 ∧ c1.length + c2.length ≤ 1200 ∧ ∀ sp : List Int, sp.length ≤ 2600 → (∀ k, k ∈ sp ↔ BsMem ((c1 ++ c2).map (·.1)) (b1.length : Nat) 0 k) → K (dInt sp) n
def fPartG (p : List Int → List (Int × Int) → List Int → List (Int × Int) → Int → Prop) : FD := fun ds n K => ∃ b1 c1 b2 c2, ds = [.obj (.rul b1 c1), .obj (.rul b2 c2)] ∧ RuOk b1 c1 ∧ RuOk b2 c2 ∧ b2.length = b1.length ∧ c1.length + c2.length ≤ 1200 ∧ ((∀ t, ¬ p b1 c1 b2 c2 t) → K .non n) ∧ ∀ m, NearP (p b1 c1 b2 c2) m → K (.int m) n
theorem two_R {b1 b2 : List Int} {c1 c2 : List (Int × Int)} : ∀ d ∈ [DV.obj (.rul b1 c1), DV.obj (.rul b2 c2)], d.isR = true := fun d hd => by
  rcases List.mem_cons.mp hd with rfl | hd
  · rfl
  · rw [List.mem_singleton.mp hd]
    rfl
section
variable {P : Program} {w : World} {K : PySem.W.Frag} {mg : Str → Option Value} {base : Heap}
theorem scTellingM : FnScope ["rule", "other"] ["rule", "other"] (defScope sTellingM) := ⟨rfl, rfl, rfl, by decide +kernel, rfl, by decide +kernel, by decide +kernel⟩
theorem ok_tellM {f R L fB fC p1 g1 : Addr} {fd dB d1 : FuncData} {dd : List Value} (F : Fun K "telling_moments" "telling_moments" sTellingM f fd) (ZR : RuC K mg R) (V1 : Pp P w K mg base R "week" (spRuWeek R L) p1 g1 d1) (ChM : AtR P w K mg base 3 "changed_moments" (spMoms (ThR R L)) fC)
    (FB : FnOk P w K mg base CX0 1 fB dB ["cuts", "week", "centre"] spBesideK) (mB : mg "beside" = some (.ref fB)) (kB : PySem.W.keepIn K (.ref fB) = true) (bB : Binds K dB ["cuts", "week", "centre"] dd) (hdd : Vals [V.int 0] dd) : FnOk P w K mg base CX0 4 f fd ["rule", "other"] (spD (Wr R L) fTell) := by
  refine okD F scTellingM (Wr R L) fTell (fun ds n K h => ?_) (fun p cdv A outer s H E hr => ?_)
  · obtain ⟨b1, c1, b2, c2, rfl, _⟩ := h
    rfl
  · have hr1 : Room 1 _ := hr.mono (by decide)
    have hr3 : Room 3 _ := hr.mono (by decide)
    have hr2 : Room 2 _ := hr.mono (by decide)
    refine ⟨_, _, (dss_one (ds_ret (de_callD FB rd_beside hr1 mB kB bB hdd (fun _ _ => .cons (.int 0) .nil) (da_cons (de_moms ChM.ok hr3 ChM.at_ ChM.kp (da_cons (dv 0) (da_cons (dv 1) da_nil))) (da_cons (de_week (dv 0) ZR.cl V1.of V1.ok hr2 V1.bi) da_nil))))), fun ds n K h => ?_⟩
    obtain ⟨b1, c1, b2, c2, rfl, l1, l2, k⟩ := h
    have mv : movesOf [DV.obj (.rul b1 c1), .obj (.rul b2 c2)] = c1 ++ c2 := by show c1 ++ (c2 ++ []) = c1 ++ c2; rw [List.append_nil]
    refine ⟨two_R, by show 2 ≤ 900; decide, by rw [mv, List.length_append]; omega, fun ks asck memk lek => ?_⟩
    rw [mv] at memk lek
    rw [List.length_append] at lek
    refine ⟨ks, _, 0, rfl, by omega, by omega, ⟨by decide, by decide, by omega⟩, fun sp spl spa spm => k sp spl fun x => ?_⟩
    rw [spm x]
    exact ⟨fun ⟨c, hc, h⟩ => ⟨c, hc.imp (fun z => (memk c).mp z) fun z => z, h⟩, fun ⟨c, hc, h⟩ => ⟨c, hc.imp (fun z => (memk c).mpr z) fun z => z, h⟩⟩
theorem scParting : FnScope ["rule", "other", "moments", "at"] ["rule", "other"] (defScope sParting) := ⟨rfl, rfl, rfl, by decide +kernel, rfl, by decide +kernel, by decide +kernel⟩
theorem ok_parting {f R L fW fT fN fO : Addr} {fd dW dT dN dO : FuncData} (F : Fun K "parting" "parting" sParting f fd) (ZR : RuC K mg R) (Wk : At P w K mg base 3 "check_weeks" ["one", "other"] (spD (Wr R L) fWeeks) fW dW) (Tm : At P w K mg base 4 "telling_moments" ["rule", "other"] (spD (Wr R L) fTell) fT dT)
    (Nt : At P w K mg base 3 "nearest" ["moments"] (spD (Wr R L) fNearest) fN dN) (hRO : Meth K R "offset" fO) (GRO : FnOk P w K mg base CX0 3 fO dO ["self", "moment"] (spRuOff R L)) (bRO : Binds K dO ["self", "moment"] []) : FnOk P w K mg base CX0 5 f fd ["rule", "other"] (spD (Wr R L) (fPartG PartP)) := by
  refine okD F scParting (Wr R L) (fPartG PartP) (fun ds n K h => ?_) (fun p cdv A outer s H E hr => ?_)
  · obtain ⟨b1, c1, b2, c2, rfl, _⟩ := h
    rfl
  ·
    have hr3 : Room 3 _ := hr.mono (by decide)
    have hr4 : Room 4 _ := hr.mono (by decide)
    refine ⟨_, _, (dss_cons (ds_expr (de_call Wk.ok (rd_spD rfl) hr3 Wk.at_ Wk.kp Wk.bi (da_cons (dv 0) (da_cons (dv 1) da_nil))))
      (dss_cons (ds_set (i := 2) scParting.nd rfl (.inl rfl) (de_call Tm.ok (rd_spD rfl) hr4 Tm.at_ Tm.kp Tm.bi (da_cons (dv 0) (da_cons (dv 1) da_nil))))
      (dss_one (ds_ret (de_call Nt.ok (rd_spD rfl) hr3 Nt.at_ Nt.kp Nt.bi (da_cons (de_f (df_lc (own := [("at", 3)]) rfl scParting.nd (di_list (dv 2))
          (blkOk_by (N := ["rule", "other", "moments", "at"]) (sc := defScope sParting) (by decide +kernel)) (fun _ _ _ _ _ => (dg_name (i := 3) scParting.nd rfl (.inl rfl))) (fun _ _ _ _ _ => dts_one (dt_cmp op_ne rd_Ne (de_meth (dv 0) ZR.cl hRO GRO rd_off hr3 bRO (da_cons (dv 3) da_nil)) (de_meth (dv 1) ZR.cl hRO GRO rd_off hr3 bRO (da_cons (dv 3) da_nil))))
          (fun _ _ _ _ _ => (dv 3)))) da_nil)))))), fun ds n K h => ?_⟩
    obtain ⟨b1, c1, b2, c2, rfl, r1, r2, ll, lc, k1, k2⟩ := h
    refine ⟨b1, c1, b2, c2, rfl, ll.symm, ?_⟩
    refine ⟨b1, c1, b2, c2, rfl, r1.l1, lc, fun sp spl spm => ?_⟩
    refine ⟨by rw [List.length_map]; omega, fun i acc m => acc = ((sp.take i).filter fun x => decide (PartP b1 c1 b2 c2 x)).map DV.int ∧ m = n, ⟨rfl, rfl⟩, ?_, ?_⟩
    · rintro i acc m hi ⟨rfl, rfl⟩
      have hi : i < sp.length := by simpa using hi
      simp only [getD_intr hi]
      obtain ⟨s1, s2⟩ := filt_step (p := PartP b1 c1 b2 c2) hi
      have e1 : offAt b1 c1 (sp.getD i 0) = lawOff b1 c1 (sp.getD i 0) := r1.off _
      have e2 : offAt b2 c2 (sp.getD i 0) = lawOff b2 c2 (sp.getD i 0) := r2.off _
      refine ⟨rfl, rfl, rfl, fun g => ⟨s1 fun z => ?_, rfl⟩, fun g => ⟨s2 fun z => ?_, rfl⟩⟩
      · rw [e1, e2, z] at g
        simp at g
      · rw [e1, e2, decide_eq_false fun q => z (V.int.inj q)] at g
        cases g
    rintro acc m ⟨rfl, rfl⟩
    rw [List.length_map, List.take_length]
    obtain ⟨h0, h1⟩ := near_list (p := PartP b1 c1 b2 c2) (sp := sp) (fun m hm => (spm m).mpr (nearP_spot r1.l0 (part_step r1.l0 ll) hm)) (K := fun r => K r m) k1 k2
    exact ⟨_, rfl, h0, h1⟩
end

/-! ### the law's own loop -/
def Scr (K : PySem.W.Frag) (H : Hp) (a : Addr) (xs : List V) : Prop := (∃ o, H a = some (.frz o (.lst xs))) ∨ ∀ J : Hp, SqL K J a xs
theorem Scr.seq {K : PySem.W.Frag} {H : Hp} {a : Addr} {xs : List V} (h : Scr K H a xs) : SqL K H a xs := by
  rcases h with ⟨o, h⟩ | h
  · exact .inl (.inr ⟨o, h⟩)
  · exact h H
theorem Scr.of {K : PySem.W.Frag} {H : Hp} {a : Addr} {xs : List V} (o : Only H) (h : SqL K H a xs) : Scr K H a xs := by
  rcases h with (h | ⟨u, h⟩) | h
  · rcases o a with z | ⟨u, ys, z⟩
    · rw [z] at h
      cases h
    · rw [z] at h
      cases h
  · exact .inl ⟨u, h⟩
  · exact .inr fun J => .inr h
theorem Scr.same {K : PySem.W.Frag} {H H' : Hp} {a : Addr} {xs : List V} (h : Scr K H a xs) (f : Same H H') : Scr K H' a xs := by
  rcases h with ⟨o, h⟩ | h
  · exact .inl ⟨o, f _ _ h⟩
  · exact .inr h
theorem Scr.fr {K : PySem.W.Frag} {H H' : Hp} {a p : Addr} {n : Nat} {xs : List V} (h : Scr K H a xs) (g : Well H p n) (f : Fr p H H') : Scr K H' a xs := by
  rcases h with ⟨o, h⟩ | h
  · refine .inl ⟨o, f _ _ h fun z => ?_⟩
    obtain ⟨x, y, u, e, _⟩ := g
    rw [z, e] at h
    cases h
  · exact .inr h
def spFits : Sp := fun vs H Q _ => ∃ (p : Addr) (n : Nat), vs = [.ref p] ∧ Well H p n ∧ n ≤ 10 ^ 6 ∧ ∀ H', Fr p H H' → Well H' p (n + 3000) → Q (.bl true) H'
def spLaw (K : PySem.W.Frag) : Sp := fun vs H Q _ => ∃ (a : Addr) (ns : List Int), vs = [.ref a] ∧ Scr K H a (ns.map V.int) ∧ ns.length ≤ 63 ∧ ∀ H', Q (.bl true) H'
/-- the turns of the inner loop -/
def turns : Nat := match defBody sLaw with
  | .For _ _ (_ :: .For _ (.Call _ (.Constant (.int n) _ _ :: _) _ _) _ _ _ :: _) _ _ :: _ => n.toNat
  | _ => 0
section
variable {P : Program} {w : World} {K : PySem.W.Frag} {mg : Str → Option Value} {base : Heap}
theorem scLaw : FnScope ["script", "place", "well", "turn"] ["script"] (defScope sLaw) := ⟨rfl, rfl, rfl, by decide +kernel, rfl, by decide +kernel, by decide +kernel⟩
theorem ok_law {f fW fF : Addr} {fd fdW fdF : FuncData} {k : Nat} (hk : 1 ≤ k) (F : Fun K "law" "law" sLaw f fd) (T : Blt mg) (W : At P w K mg base 1 "_law_well" ["script", "place"] (spWell K) fW fdW)
    (G : FnG P w K mg base k fF fdF ["well"] spFits) (gF : mg "_law_right" = some (.ref fF)) (kF : PySem.W.keepIn K (.ref fF) = true) (bF : Binds K fdF ["well"] []) : FnG P w K mg base (k + 1) f fd ["script"] (spLaw K) := by
  refine okG F scLaw (fun vs H Q E h => ?_) (fun cdv A outer s H vs Q E hgd hr h => ?_)
  · obtain ⟨a, ns, rfl, _⟩ := h
    rfl
  · obtain ⟨a, ns, rfl, hS, hl, q⟩ := h
    have hr1 : Room 1 _ := hr.mono hk
    refine ⟨_, pss_cons (ps_for PassesOwn.never rfl (pi_range1 (by rfl) T.range (pa_cons (pe_callB (call_max2 rfl) (by rfl) T.max (by decide +kernel) (pa_cons pe_int (pa_cons (pe_callB (call_min2 rfl) (by rfl) T.min (by decide +kernel)
          (pa_cons pe_int (pa_cons (pe_callB call_len_seq (by rfl) T.len PySem.boot_len (pa_cons (pv 0) pa_nil)) pa_nil))) pa_nil))) pa_nil)) (pg_name (i := 1) scLaw.nd rfl (.inl rfl))
        (pss_cons (ps_set (i := 2) scLaw.nd rfl (.inl rfl) (pe_call W.ok hr1 (by rfl) W.at_ W.kp W.bi .nil pass0 (pa_cons (pv 0) (pa_cons (pv 1) pa_nil))))
        (pss_one (ps_for PassesOwn.never rfl (pi_range1 (by rfl) T.range (pa_cons pe_int pa_nil)) (pg_name (i := 3) scLaw.nd rfl (.inl rfl))
          (pss_one (ps_if (pt_not (pt_val (pe_callG G hgd hr (by rfl) gF kF bF (pa_cons (pv 2) pa_nil)))) (pss_one (ps_ret pe_bl)) pss_nil))))))
      (pss_one (ps_ret pe_bl)), ?_⟩
    refine ⟨_, rfl, a, _, rfl, .inl hS.seq, 4, _, rfl, 1, _, rfl, ?_⟩
    generalize hm : (if (if (((ns.map V.int).length : Nat) : Int) < 4 then (((ns.map V.int).length : Nat) : Int) else 4) > 1 then (if (((ns.map V.int).length : Nat) : Int) < 4 then (((ns.map V.int).length : Nat) : Int) else 4) else 1) = m
    have m1 : 1 ≤ m ∧ m ≤ 4 := by
      rw [← hm]
      split <;> split <;> omega
    refine ⟨m, rfl, by omega, by omega, for_range (lo := 0) (n := m.toNat) (fun i σ J => ∃ y1 y2 y3 : Option V, σ = [some (.ref a), y1, y2, y3] ∧ Scr K J a (ns.map V.int)) ⟨none, none, none, rfl, hS⟩ ?_ ?_⟩
    · rintro i σ J hi ⟨y1, y2, y3, rfl, hJ⟩
      refine ⟨_, rfl, _, rfl, ⟨a, ns, _, rfl, hJ.seq, hl, by omega, by omega, fun p J1 np s1 w1 => ?_⟩⟩
      refine ⟨turns, rfl, by decide +kernel, by decide +kernel, for_range (lo := 0) (n := turns) (fun j σ J2 => ∃ y3 : Option V, σ = [some (.ref a), some (.int (0 + i)), some (.ref p), y3] ∧ Scr K J2 a (ns.map V.int) ∧ Well J2 p (j * 3000)) ⟨_, rfl, hJ.same s1, w1.mono (by omega)⟩ ?_ ?_⟩
      · rintro j σ J2 hj ⟨y3, rfl, hJ2, w2⟩
        have tb : turns ≤ 100 := by decide +kernel
        refine ⟨_, rfl, ⟨p, _, rfl, w2, by omega, fun J3 f3 w3 => ⟨_, rfl, ?_⟩⟩⟩
        exact ⟨_, rfl, hJ2.fr w2 f3, w3.mono (by omega)⟩
      · rintro σ J2 ⟨y3, rfl, hJ2, w2⟩
        exact ⟨_, _, _, rfl, hJ2⟩
    · rintro σ J ⟨y1, y2, y3, rfl, hJ⟩
      exact q J
end

def fRightB : FD := fun ds n K => ds = [.pool] ∧ n ≤ 10 ^ 6 ∧ ∀ m, m ≤ n + 3000 → K (.bl true) m
theorem fits_ofB {P : Program} {w : World} {K : PySem.W.Frag} {mg : Str → Option Value} {base : Heap} {f : Addr} {fd : FuncData} {k : Nat} {R L : Addr} (F : FnG P w K mg base k f fd ["well"] (spD (Wr R L) fRightB)) : FnG P w K mg base k f fd ["well"] spFits := by
  suffices imp : ∀ vs H Q E, spFits vs H Q E → spD (Wr R L) fRightB vs H Q E by
    exact ⟨fun vs H Q E h => F.size vs H Q E (imp _ _ _ _ h), fun B stk s H ar us vs Q E g r e b v h => F.go B stk s H ar us vs Q E g r e b v (imp _ _ _ _ h)⟩
  intro vs H Q E h
  obtain ⟨q, n, rfl, hW, hn, h⟩ := h
  have isl : IsL H q := by
    obtain ⟨a, b, c, e, _⟩ := id hW
    exact ⟨_, e⟩
  refine ⟨some q, fun a => a = q, [.pool], n, fun r m => r = .bl true ∧ m ≤ n + 3000, fun a e => by rw [e]; exact isl, fun a e => by cases e; exact ⟨rfl, hW⟩, .cons (.pool rfl) .nil, fun r m v H' fr pl rp km => ?_, rfl, hn, fun m hm => ⟨rfl, hm⟩⟩
  obtain ⟨rfl, hm⟩ := km
  rw [rp.bl_inv]
  exact h H' (fun b o e ne => fr b o e fun z => ne (by cases z; rfl)) ((pl q rfl).mono hm)
theorem two_at {a b r : Int} (h0 : 0 ≤ r) (h1 : r < 2) : atI [DV.int a, .int b] r = some (.int (if r = 0 then a else b)) := by
  have : r = 0 ∨ r = 1 := by omega
  rcases this with rfl | rfl
  · exact atI_nat (j := 0) rfl
  · exact atI_nat (j := 1) rfl
theorem ne_selfB (v : V) : (!decide (v = v)) = false := by rw [decide_eq_true rfl]; rfl
def OwOk (p : Int → Prop) (ow : DV) : Prop := (ow = .non ∧ ∀ t, ¬ p t) ∨ ∃ m, ow = .int m ∧ NearP p m
theorem ne_ints {a b : Int} (g : (!decide (V.int a = V.int b)) = true) : a ≠ b := fun e => by
  rw [e, ne_selfB] at g
  cases g
theorem ne_intsF {a b : Int} (g : (!decide (V.int a = V.int b)) = false) : ¬ a ≠ b := fun e => by
  rw [decide_eq_false fun z => e (V.int.inj z)] at g
  cases g
theorem OwOk.uniq {p : Int → Prop} {a b : DV} (h1 : OwOk p a) (h2 : OwOk p b) : a = b := by
  rcases h1 with ⟨rfl, n1⟩ | ⟨m, rfl, hm⟩ <;> rcases h2 with ⟨rfl, n2⟩ | ⟨k, rfl, hk⟩
  · rfl
  · exact absurd hk.1 (n1 k)
  · exact absurd hm.1 (n2 m)
  · rw [hm.uniq hk]
theorem OwOk.congr {p q : Int → Prop} (e : ∀ t, p t ↔ q t) {a : DV} (h : OwOk p a) : OwOk q a := h.imp (fun ⟨h1, h2⟩ => ⟨h1, fun t z => h2 t ((e t).mpr z)⟩) fun ⟨m, h1, h2⟩ => ⟨m, h1, h2.congr e⟩
theorem ow_exists (p : Int → Prop) : ∃ a, OwOk p a := by
  by_cases c : ∃ t, p t
  · obtain ⟨t, ht⟩ := c
    obtain ⟨m, hm⟩ := nearP_exists ht
    exact ⟨.int m, .inr ⟨m, rfl, hm⟩⟩
  · exact ⟨.non, .inl ⟨rfl, fun t ht => c ⟨t, ht⟩⟩⟩
theorem OwOk.pu {p : Int → Prop} {a : DV} (h : OwOk p a) : a.pu = true := by
  rcases h with ⟨rfl, _⟩ | ⟨m, rfl, _⟩ <;> rfl
theorem ifb (r a b lo hi : Int) (h1 : lo ≤ a) (h2 : a ≤ hi) (h3 : lo ≤ b) (h4 : b ≤ hi) : lo ≤ (if r = 0 then a else b) ∧ (if r = 0 then a else b) ≤ hi := by split <;> exact ⟨by assumption, by assumption⟩
theorem kb_one {K : PySem.W.Frag} {f : Addr} {fd : FuncData} {x q n1 : Str} {st : Stmt} (F : Fun K x q st f fd) (h : ∀ c kV doc pm an cdv ct, bindArgs (PySem.W.fnOf x q (defArgs st) (defBody st) (defScope st) .none kV doc pm an cdv ct) ⟨[], [n1].zip [c]⟩ = pure ([n1].zip [c])) : KBn K fd [n1] 0 [n1] (gOne Value.none) (gOne V.non) := by
  obtain ⟨oc, od, kV, doc, pm, an, cdv, ct, osl, rfl, lk, hcd⟩ := F.ex
  refine ⟨fun s us ws _ l1 l2 => ?_, fun {vs us zs ws} r1 r2 => .cons (vals_getDr r2 0) .nil⟩
  match us, l1, ws, l2 with
  | [], _, [c], _ => exact .of_eq (h _ _ _ _ _ _ _)

/-! ### isinstance with a built-in type; calls by keywords in the other order, and with one behind -/
def DV.ty0 : DV → Option String
  | .int _ => some "int"
  | .bl _ => some "bool"
  | .non => some "NoneType"
  | .str _ => some "str"
  | _ => none
def dIsi (ny : String) (d : TD) : TD := fun δ n K => d δ n fun r m => ∃ t b, r.ty0 = some t ∧ kitB t ny = some b ∧ K (.bl b) m
theorem tyx_of {W : Wo} {M : Addr → Prop} {H : Hp} {K : PySem.W.Frag} {v : V} {r : DV} {t : String} (h : Rep W M H v r) (e : r.ty0 = some t) : TyX K H v (.type t) := by
  cases h with
  | int i => cases e; exact .base (.int i)
  | bl b => cases e; exact .base (.bl b)
  | non => cases e; exact .base .non
  | str s => cases e; exact .base (.str s)
  | lst _ _ _ _ => cases e
  | tup _ _ _ _ => cases e
  | obj _ => cases e
  | pool _ => cases e
section
variable {X : Cx} {W : Wo} {e : Expr} {te : TE} {d : TD} {pos p p2 : Pos} {y : Str} {ny : String}
theorem de_isi (hm : X.mg "isinstance" = none) (hmy : X.mg y = none) (hv : bootBuiltins y = some (.type ny)) (h : DE X W e te d) (hg : Gl X "isinstance" := by rfl) (hgy : Gl X y := by rfl) (hn : y ≠ "__name__" := by decide) (hd : (y == ("__debug__" : Str)) = false := by decide)
    (hs : starEach [e, .Name y p2] X.env = (false, eval e X.env) :: starEach [.Name y p2] X.env := by rfl) (hs2 : starEach [.Name y p2] X.env = (false, eval (.Name y p2) X.env) :: starEach [] X.env := by rfl) (hpl : (backTo pos (starEach [.Name y p2] X.env)).any (·.1) = false := by rfl) :
    DE X W (.Call (.Name "isinstance" p) [e, .Name y p2] [] pos) (tCB (rIsi X.K) (tCons te (tCons (tC (.ty ny)) tNil))) (dIsi ny d) :=
  ⟨pe_callB call_isi hg hm (by decide +kernel) (pa_cons h.pe (pa_cons (pe_bltn hgy hmy hv rfl hn hd) pa_nil hs2) hs) (by decide) (by decide) hs hpl, fun B Φ M σ H δ n Q K ok c q =>
    h.tr B Φ M σ H δ n _ _ ok (fun r m v H1 f1 p1 rr q => by
      obtain ⟨t, b, e1, e2, q⟩ := q
      exact ⟨v, .ty ny, .type t, .type ny, b, rfl, .ty ny, tyx_of rr e1, kit_ty e2, c _ _ _ _ f1 p1 (.bl b) q⟩) q⟩
section
variable {dA : TDA} {k : Nat} {f : Addr} {fd : FuncData}
/-- a call with defaults -/
theorem de_callDf {ps : List Str} {sp : Sp} {fD : FD} {x : Str} {es : List Expr} {tA : TA} {ds : List Value} {dvs : List V} {dds : List DV} (F : FnOk X.prog X.w X.K X.mg X.base CX0 k f fd ps sp) (rd : RdFn W sp fD) (hr : Room k X.A) (hm : X.mg x = some (.ref f)) (hk : PySem.W.keepIn X.K (.ref f) = true) (hb : Binds X.K fd ps ds) (hd : Vals dvs ds) (rdv : ∀ M H, RepA W M H dvs dds) (ha : DA X W (e :: es) tA dA) (hg : Gl X x := by rfl)
    (hdb : (x == ("__debug__" : Str)) = false := by decide) (he : starEach (e :: es) X.env = (false, eval e X.env) :: starEach es X.env := by rfl) (hpl : (backTo pos (starEach es X.env)).any (·.1) = false := by rfl) :
    DE X W (.Call (.Name x p) (e :: es) [] pos) (tCall sp dvs E0 tA) (dCall (fun xs => fD (xs ++ dds)) dA) := ⟨pe_call F hr hg hm hk hb hd pass0 ha.pa hdb he hpl, fun B Φ M σ H δ n Q K ok c q => ha.tr B Φ M σ H δ n _ _ ok (fun xs m vs H1 f1 p1 ra q => by
      have ok1 := ok.expr f1 p1
      exact rd M H1 (vs ++ dvs) (xs ++ dds) m Q E0 K ok1.dom ok1.poolM (ra.append (rdv M H1)) (fun r j v H' f2 p2 r2 k => c _ _ _ _ (f1.trans f2) p2 r2 k) q) q⟩
end
/-- f(c = z, b = y, ..): all by keywords, in the other order -/
def gRev {α : Type} : List α → List α → List α := fun _ ws => ws.reverse
theorem vals_rev : ∀ {vs : List V} {us : List Value}, Vals vs us → Vals vs.reverse us.reverse
  | [], _, h => by cases h; exact .nil
  | v :: vs, _, h => by
    cases h with
    | cons r t =>
      rw [List.reverse_cons, List.reverse_cons]
      exact (vals_rev t).append (.cons r .nil)
def dCallR (N : Nat) (f : FD) (b : TDA) : TD := fun δ n K => b δ n fun xs k => xs.length = N ∧ f xs.reverse k K
theorem de_callR {k : Nat} {f : Addr} {fd : FuncData} {ps ks : List Str} {sp : Sp} {x : Str} {kws : List Keyword} {tk : TA} {dk : TDA} {g : List Value → List Value → List Value} {fD : FD} (F : FnOk X.prog X.w X.K X.mg X.base CX0 k f fd ps sp) (rd : RdFn W sp fD) (hr : Room k X.A) (hm : X.mg x = some (.ref f)) (hk : PySem.W.keepIn X.K (.ref f) = true) (hb : KBn X.K fd ps 0 ks g gRev) (hkw : DKw X W kws tk dk)
    (hg : Gl X x := by rfl) (hall : (backToKw pos (keywordEach kws X.env)).all (·.1.isSome) = true := by rfl) (hks : (backToKw pos (keywordEach kws X.env)).filterMap (·.1) = ks := by rfl) (hdb : (x == ("__debug__" : Str)) = false := by decide)
    (hpl : ((backTo pos (starEach [] X.env)).any (·.1) || (backToKw pos (keywordEach kws X.env)).any (·.1.isNone)) = false := by rfl) :
    DE X W (.Call (.Name x p) [] kws pos) (fun σ H Q => tk σ H fun zs H2 => zs.length = ks.length ∧ sp (gRev [] zs) H2 Q E0) (dCallR ks.length fD dk) :=
  ⟨pe_callKw F hr hg hm hk hb hkw.pk hall hks hdb hpl, fun B Φ M σ H δ n Q K ok c q => hkw.tr B Φ M σ H δ n _ _ ok (fun ds m vs H1 f1 p1 ra q => by
    have ok1 := ok.expr f1 p1
    exact ⟨ra.1.trans q.1, rd M H1 vs.reverse ds.reverse m Q E0 K ok1.dom ok1.poolM ra.reverse (fun r j v H' f2 p2 r2 k => c _ _ _ _ (f1.trans f2) p2 r2 k) q.2⟩) q⟩
/-- f(a, .., k = v): the keywords' values behind the others -/
def gApp {α : Type} : List α → List α → List α := fun us ws => us ++ ws
def dCallA (N M : Nat) (f : FD) (a b : TDA) : TD := fun δ n K => a δ n fun xs m => b δ m fun ys k => xs.length = N ∧ ys.length = M ∧ f (xs ++ ys) k K
theorem de_callA {k N : Nat} {f : Addr} {fd : FuncData} {ps ks : List Str} {sp : Sp} {x : Str} {es : List Expr} {kws : List Keyword} {tA tk : TA} {dA dk : TDA} {g : List Value → List Value → List Value} {fD : FD} (F : FnOk X.prog X.w X.K X.mg X.base CX0 k f fd ps sp) (rd : RdFn W sp fD) (hr : Room k X.A) (hm : X.mg x = some (.ref f)) (hk : PySem.W.keepIn X.K (.ref f) = true) (hb : KBn X.K fd ps N ks g gApp) (ha : DA X W (e :: es) tA dA) (hkw : DKw X W kws tk dk)
    (hg : Gl X x := by rfl) (hall : (backToKw pos (keywordEach kws X.env)).all (·.1.isSome) = true := by rfl) (hks : (backToKw pos (keywordEach kws X.env)).filterMap (·.1) = ks := by rfl) (hdb : (x == ("__debug__" : Str)) = false := by decide)
    (he : starEach (e :: es) X.env = (false, eval e X.env) :: starEach es X.env := by rfl)
    (hpl : ((backTo pos (starEach (e :: es) X.env)).any (·.1) || (backToKw pos (keywordEach kws X.env)).any (·.1.isNone)) = false := by rfl) :
    DE X W (.Call (.Name x p) (e :: es) kws pos) (tCallN N ks.length sp gApp E0 tA tk) (dCallA N ks.length fD dA dk) :=
  ⟨pe_callN F hr hg hm hk hb pass0 ha.pa hkw.pk hall hks hdb he hpl, fun B Φ M σ H δ n Q K ok c q => ha.tr B Φ M σ H δ n _ _ ok (fun xs m vs H1 f1 p1 ra q => by
    have ok1 := ok.expr f1 p1
    refine hkw.tr B Φ M σ H1 δ m _ _ ok1 (fun ys j us H2 f2 p2 rb q => ?_) q
    have ok2 := ok1.expr f2 p2
    have ra2 := ra.mono (ok.frM f2)
    exact ⟨ra.1.trans q.1, rb.1.trans q.2.1, rd M H2 (vs ++ us) (xs ++ ys) j Q E0 K ok2.dom ok2.poolM (ra2.append rb) (fun r i v H' f3 p3 r3 k => c _ _ _ _ ((f1.trans f2).trans f3) p3 r3 k) q.2.2⟩) q⟩
end
section
variable {P : Program} {w : World} {K : PySem.W.Frag} {mg : Str → Option Value} {base : Heap}
theorem okDD {x qual : Str} {st : Stmt} {f : Addr} {fd : FuncData} {N ps : List Str} {k : Nat} {dvs : List V} {kws : List (Str × V)} (F : FunD K x qual (defArgs st) (defBody st) (defScope st) dvs kws f fd) (S : FnScope N ps (defScope st)) (W : Wo) (g : FD) (len : ∀ ds n K, g ds n K → ds.length = ps.length)
    (body : ∀ (p : Option Addr) (cdv : Value) (A : Around) (outer : List Env) (s : Shared) (H : Hp) (E : XK), Room k (A.deeper (envOfC qual (defScope st) s.heap.objs.size f cdv)) →
      ∃ t d, DSs (cxOf CX0 P w K mg base N qual (defScope st) f cdv A outer s H E).nox (W.at p) (defBody st) t d ∧ ∀ ds n K, g ds n K → d { nx := fun _ m => K .non m, rt := K } (dstart N ds) n) : FnOk P w K mg base CX0 (k + 1) f fd ps (spD W g) := by
  refine F.ok S (fun vs H Q E h => ?_) (fun cdv A outer s H vs Q E hr h => ?_)
  · obtain ⟨p, M, ds, n, K, _, _, r, _, q⟩ := h
    rw [r.1]
    exact len _ _ _ q
  · obtain ⟨p, M, ds, n, KK, dm, pp, r, c, q⟩ := h
    obtain ⟨t, d, D, g2⟩ := body p cdv A outer s H E hr
    refine ⟨t, D.pss.nox, D.tr M _ M _ H _ n _ _ (ok_start dm pp r) ⟨?_, ?_, ?_, ?_⟩ (g2 ds n KK q)⟩
    · exact fun M' σ H' δ m ok k => c _ _ _ _ ok.phi.2 ok.plOf .non k
    · exact fun M' H' v r m ph bs p' ra k => c _ _ _ _ ph.2 p' (ra.sub fun a h => .inl (bs a h)) k
    · exact fun _ _ _ _ _ _ h => h.elim
    · exact fun _ _ _ _ _ _ h => h.elim
end
structure AtN (P : Program) (w : World) (K : PySem.W.Frag) (mg : Str → Option Value) (base : Heap) (k : Nat) (x : Str) (ps : List Str) (sp : Sp) (f : Addr) (fd : FuncData) : Prop where
  ok : FnOk P w K mg base CX0 k f fd ps sp
  at_ : mg x = some (.ref f)
  kp : PySem.W.keepIn K (.ref f) = true

/-! ### dicts of ints as data -/
def lookZ (cs : List (Int × Int)) (i : Int) : Option Int := (cs.find? fun c => decide (c.1 = i)).map (·.2)
abbrev dKy (cs : List (Int × Int)) : List (Key × V) := cs.map fun c => (Sum.inl c.1, V.int c.2)
theorem valV_dKy (i : Int) : ∀ cs : List (Int × Int), valV (dKy cs) (Sum.inl i) = (lookZ cs i).map V.int
  | [] => rfl
  | c :: cs => by
    have e : dKy (c :: cs) = (Sum.inl c.1, V.int c.2) :: dKy cs := rfl
    unfold lookZ
    by_cases h : c.1 = i
    · rw [e, valV_pos (by rw [h]), List.find?_cons, decide_eq_true h]
      rfl
    · rw [e, valV_neg (fun z => h (Sum.inl.inj z)), valV_dKy i cs, List.find?_cons, decide_eq_false h]
      rfl
theorem lookZ_none {cs : List (Int × Int)} {i : Int} (h : i ∉ cs.map (·.1)) : lookZ cs i = none := by
  unfold lookZ
  rw [List.find?_eq_none.mpr fun c hc => by
    rw [decide_eq_true_iff]
    exact fun e => h (e ▸ List.mem_map.mpr ⟨c, hc, rfl⟩)]
  rfl
theorem lookZ_some {cs : List (Int × Int)} {i v : Int} (h : lookZ cs i = some v) : (i, v) ∈ cs := by
  unfold lookZ at h
  cases e : cs.find? fun c => decide (c.1 = i) with
  | none => rw [e] at h; cases h
  | some c =>
    rw [e] at h
    have h1 : c.1 = i := of_decide_eq_true (List.find?_some (p := fun c : Int × Int => decide (c.1 = i)) e)
    have h2 := List.mem_of_find?_eq_some e
    cases h
    rw [← h1]
    exact h2
theorem merge_dKy : ∀ (cs pre : List (Int × Int)), ((pre ++ cs).Pairwise fun a b => a.1 < b.1) → mergeK (dKy pre) (dKy cs) = dKy (pre ++ cs)
  | [], pre, _ => by rw [List.append_nil]; rfl
  | c :: cs, pre, h => by
    have n : valV (dKy pre) (Sum.inl c.1) = none := by
      rw [valV_dKy, lookZ_none fun z => ?_]
      · rfl
      · obtain ⟨d, hd, e⟩ := List.mem_map.mp z
        have := (List.pairwise_append.mp h).2.2 d hd c List.mem_cons_self
        omega
    have e : putK (dKy pre) (Sum.inl c.1) (V.int c.2) = dKy (pre ++ [c]) := by
      rw [putK_new _ n]
      show _ = List.map _ (pre ++ [c])
      rw [List.map_append]
      rfl
    show mergeK (putK (dKy pre) (Sum.inl c.1) (V.int c.2)) (dKy cs) = _
    rw [e, merge_dKy cs (pre ++ [c]) (by rw [List.append_assoc]; exact h), List.append_assoc]
    rfl
theorem prs_refs {W : Wo} {M : Addr → Prop} {H : Hp} {K : PySem.W.Frag} : ∀ {cs : List (Int × Int)} {vs : List V}, RepA W M H vs (cs.map dPr) → ∃ ps : List Addr, vs = ps.map V.ref ∧ Paired (fun p kv => SqT K H p [kV kv.1, kv.2]) ps (dKy cs)
  | [], vs, h => ⟨[], h.nil_inv, .nil⟩
  | c :: cs, vs, h => by
    obtain ⟨v, us, rfl, r1, rs⟩ := h.cons_inv
    obtain ⟨q, ws, rfl, hq, _, ra⟩ := r1.tup_inv
    obtain ⟨ps, rfl, pr⟩ := prs_refs (K := K) rs
    have e : ws = [V.int c.1, V.int c.2] := RepA.ints (xs := [c.1, c.2]) ra
    rw [e] at hq
    exact ⟨q :: ps, rfl, .cons (SqT.of hq) pr⟩
def rDictP (K : PySem.W.Frag) : List V → Hp → VK → Prop := fun xs H Q => ∃ (a : Addr) (ps : List Addr) (kvs : List (Key × V)), xs = [.ref a] ∧ SqL K H a (ps.map V.ref) ∧ Paired (fun p kv => SqT K H p [kV kv.1, kv.2]) ps kvs ∧
    ∀ p, H p = none → Q (.ref p) (upd H p (.dK (mergeK [] kvs)))
def dDict (d : TD) : TD := fun δ n K => d δ n fun x m => ∃ cs : List (Int × Int), x = dPrs cs ∧ (cs.Pairwise fun a b => a.1 < b.1) ∧ K (.obj (.dic cs)) m
def dGet2 (a b c : TD) : TD := fun δ n K => a δ n fun x m => ∃ cs : List (Int × Int), x = .obj (.dic cs) ∧ b δ m fun y k => c δ k fun z j => ∃ i : Int, y = .int i ∧ (lookZ cs i = none → K z j) ∧ ∀ v, lookZ cs i = some v → K (.int v) j
section
variable {X : Cx} {R L : Addr} {p0 : Option Addr} {e e1 e2 : Expr} {te t1 t2 : TE} {d d1 d2 : TD} {pos p apos : Pos}
theorem de_dict (hc : X.calm = true) (hm : X.mg "dict" = none) (h : DE X ((Wr R L).at p0) e te d) (hg : Gl X "dict" := by rfl)
    (hs : starEach [e] X.env = (false, eval e X.env) :: starEach [] X.env := by rfl) (hpl : (backTo pos (starEach [] X.env)).any (·.1) = false := by rfl) :
    DE X ((Wr R L).at p0) (.Call (.Name "dict" p) [e] [] pos) (tCB (rDictP X.K) (tCons te tNil)) (dDict d) :=
  ⟨pe_callTy (call_dictP hc) hg hm (by decide +kernel) (pa_cons h.pe pa_nil hs) (by decide) (by decide) hs hpl, fun B Φ M σ H δ n Q K ok c q =>
    h.tr B Φ M σ H δ n _ _ ok (fun x m v H1 f1 p1 r1 q => by
      obtain ⟨cs, rfl, asc, q⟩ := q
      obtain ⟨a, vs, rfl, hq, nq, ra⟩ := r1.lst_inv
      obtain ⟨ps, rfl, pr⟩ := prs_refs (K := X.K) ra
      refine ⟨a, ps, dKy cs, rfl, SqL.of hq, pr, fun b nb => ?_⟩
      rw [show mergeK [] (dKy cs) = dKy cs from merge_dKy cs [] asc]
      have ok1 := ok.expr f1 p1
      exact c _ _ _ _ (f1.upd (.inl (none_fr f1 p1 nb))) (pl_new p1 nb) (.obj (o := .dic cs) ⟨upd_same, fun z => (ok1.dom b z).ne nb⟩) q) q⟩
theorem de_get2 (hu : X.A.units + 1 < cLine) (h0 : DE X ((Wr R L).at p0) e te d) (h1 : DE X ((Wr R L).at p0) e1 t1 d1) (h2 : DE X ((Wr R L).at p0) e2 t2 d2) (m : M2 X e "get" apos e1 e2 pos) :
    DE X ((Wr R L).at p0) (.Call (.Attribute e "get" apos) [e1, e2] [] pos) (tDGet2 te t1 t2) (dGet2 d d1 d2) :=
  ⟨pe_dget2 hu h0.pe h1.pe h2.pe m, fun B Φ M σ H δ n Q K ok c q =>
    h0.tr B Φ M σ H δ n _ _ ok (fun x m v H1 f1 p1 r1 q => by
      obtain ⟨cs, rfl, q⟩ := q
      cases r1 with
      | @obj a o hob =>
        have ok1 := ok.expr f1 p1
        obtain ⟨hd, nd⟩ : H1 a = some (.dK (dKy cs)) ∧ ¬ M a := hob
        refine ⟨a, rfl, .inl ⟨_, .inl hd⟩, ?_⟩
        refine h1.tr B Φ M σ H1 δ m _ _ ok1 (fun y k u H2 f2 p2 r2 q => ?_) q
        have ok2 := ok1.expr f2 p2
        refine h2.tr B Φ M σ H2 δ k _ _ ok2 (fun z j w H3 f3 p3 r3 q => ?_) q
        obtain ⟨i, rfl, q0, q1⟩ := q
        have hd3 : H3 a = some (.dK (dKy cs)) := ok2.frM f3 _ _ (ok1.frM f2 _ _ hd nd) nd
        obtain rfl := r2.int_inv
        have f13 := (f1.trans f2).trans f3
        refine ⟨valV (dKy cs) (Sum.inl i), DGet.k (k := Sum.inl i) hd3, ?_⟩
        rw [valV_dKy]
        cases hl : lookZ cs i with
        | none => exact c _ _ _ _ f13 p3 r3 (q0 hl)
        | some v => exact c _ _ _ _ f13 p3 (.int v) (q1 v hl)) q⟩
end

/-! ### a, b, c = e, e, [..] with cells -/
section
variable {X : Cx} {W : Wo}
def dAsg3O (i j l : Nat) (a b : TD) (c : TDA) : TDS := fun DD δ n => a δ n fun x m => b δ m fun y m2 => c δ m2 fun zs m3 => DD.nx (((δ.set i (some (.dat x))).set j (some (.dat y))).set l (some (.own zs))) m3
theorem ds_asg3O {i j l : Nat} {tg a b c : Expr} {ta tb tc : TE} {da db : TD} {dc : TDA} {dg : TDG} {pos pt2 : Pos} {k2 : Nat} {vs : List Nat} (ha : DE X W a ta da) (hb : DE X W b tb db) (hcc : DF X W c tc dc) (hg : DG X W vs tg (gTup X.K 3 (gCons (gName i) (gCons (gName j) (gCons (gName l) gNil)))) dg)
    (hs : swapsWithSole [tg] (.Tuple [a, b, c] k2 pt2) pos.line X.env = pure false := by rfl) (hw : swappedStores [tg] (.Tuple [a, b, c] k2 pt2) X.env = pure none := by rfl)
    (h1 : (assignEach [tg] X.env).map (·.2) = [assign tg X.env] := by rfl)
    (s1 : starEach [a, b, c] X.env = (false, eval a X.env) :: starEach [b, c] X.env := by rfl) (s2 : starEach [b, c] X.env = (false, eval b X.env) :: starEach [c] X.env := by rfl) (s3 : starEach [c] X.env = (false, eval c X.env) :: starEach [] X.env := by rfl) :
    DS X W (.Assign [tg] (.Tuple [a, b, c] k2 pt2) pos) (tAsg (tTup (tCons ta (tCons tb (tCons tc tNil)))) (gTup X.K 3 (gCons (gName i) (gCons (gName j) (gCons (gName l) gNil))))) (dAsg3O i j l da db dc) :=
  ⟨ps_asg (pe_tup (pa_cons ha.pe (pa_cons hb.pe (pa_cons hcc.pe pa_nil s3) s2) s1)) hg.pg hs hw h1, fun B Φ M σ H δ n D DD ok sm q =>
  ha.tr B Φ M σ H δ n _ _ ok (fun r m v H1 f1 p1 ra q => hb.tr B Φ M σ H1 δ m _ _ (ok.expr f1 p1) (fun r2 m2 v2 H2 f2 p2 rb q => hcc.tr B Φ M σ H2 δ m2 _ _ ((ok.expr f1 p1).expr f2 p2) (fun zs m3 q3 vs3 H3 f3 p3 n3 h3 r3 q =>
    ⟨(by show 3 ≤ sizeLine; decide), fun p np => ⟨p, _, rfl, SqT.of upd_same, rfl, _, _, rfl, _, _, rfl, _, _, rfl, rfl,
      sm.nx _ _ _ _ _ ((((((ok.expr f1 p1).set ra i).expr f2 p2).set rb j).setOwn f3 p3 n3 h3 r3 l).expr (FrS.refl.upd (.inl np)) (pl_new p3 np)) q⟩⟩) q) q) q⟩
end

/-! ### how far apart the values of a drawn table are -/
def Gap12 (bs : List Int) (cs : List (Int × Int)) : Prop := ∀ t, val bs cs (t + 1) ≤ val bs cs t + 12
def DifG (v : List Int) (b : Int) : Prop := ∀ j, j < v.length → (v ++ [b]).getD (j + 1) 0 ≤ v.getD j 0 + 12
theorem DifG.nil (b : Int) : DifG [] b := fun j h => absurd h (Nat.not_lt_zero _)
theorem DifG.snoc {v : List Int} {b c : Int} (d : DifG v b) (h : c ≤ b + 12) : DifG (v ++ [b]) c := fun j hj => by
  rw [List.length_append, List.length_singleton] at hj
  by_cases e : j = v.length
  · subst e
    rw [List.getD_eq_getElem?_getD, List.getElem?_append_right (by rw [List.length_append, List.length_singleton]; omega), List.getD_eq_getElem?_getD, List.getElem?_append_right (Nat.le_refl _), Nat.sub_self]
    rw [show v.length + 1 - (v ++ [b]).length = 0 by rw [List.length_append, List.length_singleton]; omega]
    exact h
  · have := d j (by omega)
    rw [List.getD_eq_getElem?_getD, List.getElem?_append_left (by rw [List.length_append, List.length_singleton]; omega), ← List.getD_eq_getElem?_getD]
    rw [List.getD_eq_getElem?_getD (l := v ++ [b]) (i := j), List.getElem?_append_left (by omega), ← List.getD_eq_getElem?_getD]
    exact this
theorem ms_le {ms : List Int} (k : MoreOk ms) (l : ms.length ≤ 12) (t : Int) : wkOff ms t ≤ 12 := by
  have := (wk_small k t).2
  omega
theorem DifG.week {vs ms : List Int} {hb s : Int} (k : MoreOk ms) (l : ms.length ≤ 12) (d : DifG vs hb) : ∀ i : Nat, DifG (vs ++ (List.range i).map fun (j : Nat) => hop ms s hb j) (hop ms s hb i)
  | 0 => by
    rw [List.range_zero, List.map_nil, List.append_nil]
    exact d
  | i + 1 => by
    rw [List.range_succ, List.map_append, ← List.append_assoc]
    refine (DifG.week k l d i).snoc ?_
    have := ms_le k l (s + (i : Nat))
    show hop ms s hb i + wkOff ms (s + (i : Nat)) ≤ _
    omega
theorem gap_fut {lead : List Int} {cs : List (Int × Int)} {ms : List Int} {s h : Int} (k : TabInv lead cs ms s h) (l : ms.length ≤ 12) {t : Int} (st : s ≤ t) : val lead cs (t + 1) ≤ val lead cs t + 12 := by
  obtain ⟨j, rfl⟩ : ∃ j : Nat, t = s + (j : Nat) := ⟨(t - s).toNat, by omega⟩
  have a := k.fut j
  have b := k.fut (j + 1)
  rw [show s + ((j + 1 : Nat) : Int) = s + (j : Nat) + 1 by omega] at b
  rw [a, b]
  have := ms_le k.more l (s + (j : Nat))
  show hop ms s h j + wkOff ms (s + (j : Nat)) ≤ _
  omega
theorem gap_lead {lead ms : List Int} {s h : Int} (k : TabInv lead [] ms s h) (l : ms.length ≤ 12) : Gap12 lead [] := fun t => by
  have l0 : 0 < lead.length := by rw [k.len]; exact k.more.l0
  have per : ∀ n : Nat, ∀ t, val lead [] (t - n * (lead.length : Nat)) = val lead [] t - n * (lead.length : Nat) := fun n => by
    induction n with
    | zero => intro t; simp
    | succ n ih =>
      intro t
      have e : t - ((n + 1 : Nat) : Int) * ((lead.length : Nat) : Int) = t - (n : Int) * (lead.length : Nat) - (lead.length : Nat) := by
        rw [show ((n + 1 : Nat) : Int) = (n : Int) + 1 from rfl, Int.add_mul, Int.one_mul]
        omega
      have e2 := lawOff_prev (bs := lead) (cs := []) l0 (t := t - (n : Int) * (lead.length : Nat)) (fun z => nomatch z)
      have := ih t
      have e3 : ((n + 1 : Nat) : Int) * ((lead.length : Nat) : Int) = (n : Int) * (lead.length : Nat) + (lead.length : Nat) := by
        rw [show ((n + 1 : Nat) : Int) = (n : Int) + 1 from rfl, Int.add_mul, Int.one_mul]
      rw [e]
      unfold val at this ⊢
      omega
  have n0 : ((t - s).natAbs : Int) ≤ ((t - s).natAbs : Int) * ((lead.length : Nat) : Int) := by
    have := Int.mul_le_mul_of_nonneg_left (show (1 : Int) ≤ ((lead.length : Nat) : Int) by omega) (show (0 : Int) ≤ ((t - s).natAbs : Int) by omega)
    omega
  have p1 := per (t - s).natAbs (t + (t - s).natAbs * (lead.length : Nat))
  have p2 := per (t - s).natAbs (t + 1 + (t - s).natAbs * (lead.length : Nat))
  have g := gap_fut k l (t := t + (t - s).natAbs * (lead.length : Nat)) (by omega)
  rw [show t + ((t - s).natAbs : Int) * ((lead.length : Nat) : Int) - ((t - s).natAbs : Int) * ((lead.length : Nat) : Int) = t by omega] at p1
  rw [show t + 1 + ((t - s).natAbs : Int) * ((lead.length : Nat) : Int) - ((t - s).natAbs : Int) * ((lead.length : Nat) : Int) = t + 1 by omega] at p2
  rw [show t + ((t - s).natAbs : Int) * ((lead.length : Nat) : Int) + 1 = t + 1 + ((t - s).natAbs : Int) * ((lead.length : Nat) : Int) by omega] at g
  omega
theorem gap_run {lead : List Int} {cs : List (Int × Int)} {ms ms' v : List Int} {s h h2 : Int} (k : TabInv lead cs ms s h) (g : Gap12 lead cs) (k2 : TabInv lead (cs ++ rowsOf s v) ms' (s + (v.length : Nat)) h2) (l : ms'.length ≤ 12) (d : DifG v h2) (first : v.getD 0 0 = h) (hv : 0 < v.length) : Gap12 lead (cs ++ rowsOf s v) := fun t => by
  by_cases c1 : t + 1 < s
  · unfold val
    rw [run_lo c1, run_lo (by omega)]
    exact g t
  by_cases c2 : t + 1 = s
  · have e1 : val lead (cs ++ rowsOf s v) t = val lead cs t := by
      unfold val
      rw [run_lo (by omega)]
    have e2 := run_mid (bs := lead) (cs := cs) (s := s) (v := v) (j := 0) hv
    rw [show s + ((0 : Nat) : Int) = t + 1 by omega, first] at e2
    have e3 := k.fut 0
    rw [show s + ((0 : Nat) : Int) = t + 1 by omega] at e3
    have e4 : val lead cs (t + 1) = h := e3
    have := g t
    rw [e1, e2]
    omega
  obtain ⟨j, rfl⟩ : ∃ j : Nat, t = s + (j : Nat) := ⟨(t - s).toNat, by omega⟩
  by_cases c3 : j < v.length
  · have e1 := run_mid (bs := lead) (cs := cs) (s := s) (v := v) (j := j) c3
    have dj := d j c3
    by_cases c4 : j + 1 < v.length
    · have e2 := run_mid (bs := lead) (cs := cs) (s := s) (v := v) (j := j + 1) c4
      rw [show s + ((j + 1 : Nat) : Int) = s + (j : Nat) + 1 by omega] at e2
      rw [e1, e2]
      rw [List.getD_eq_getElem?_getD, List.getElem?_append_left c4, ← List.getD_eq_getElem?_getD] at dj
      exact dj
    · have e2 := k2.fut 0
      rw [show s + ((v.length : Nat) : Int) + ((0 : Nat) : Int) = s + (j : Nat) + 1 by omega] at e2
      have e3 : val lead (cs ++ rowsOf s v) (s + (j : Nat) + 1) = h2 := e2
      rw [e1, e3]
      rw [List.getD_eq_getElem?_getD, List.getElem?_append_right (by omega), show j + 1 - v.length = 0 by omega] at dj
      exact dj
  · exact gap_fut k2 l (by omega)

/-! ### tables near 0 -/
structure TabN (lead : List Int) (rows : List (Int × Int)) : Prop where
  lb : ∀ v ∈ lead, -100 ≤ v ∧ v ≤ 100
  cb : ∀ c ∈ rows, (-245 ≤ c.1 ∧ c.1 ≤ 245) ∧ -1485 ≤ c.2 ∧ c.2 ≤ 1485
  gap : Gap12 lead rows
def fTableN : FD := fun ds n K => ∃ z far leap : Int, ds = [.pool, .int z, .int far, .int leap] ∧ n ≤ 10 ^ 7 ∧ (1 ≤ z ∧ z ≤ 12) ∧ far = 0 ∧ (0 ≤ leap ∧ leap ≤ 9) ∧ ∀ lead rows tails m, TabOk z (10 ^ 33) lead rows tails → TabN lead rows → m ≤ n + 560 → K (.tup [dInt lead, dPrs rows, dInt tails]) m
section
variable {P : Program} {w : World} {K : PySem.W.Frag} {mg : Str → Option Value} {base : Heap}
theorem ok_tableN {f fT fM fL R L : Addr} {fd dT dM dL : FuncData} (F : Fun K "_law_table" "_law_table" sTable f fd) (T : Blt mg) (Dp : At P w K mg base 1 "_law_dip" ["well", "span"] spDip fT dT) (Mo : At P w K mg base 2 "_law_more" ["well", "size"] (spD (Wr R L) fMore) fM dM) (Le : At P w K mg base 1 "_law_lead" ["more", "spot", "here"] (spD (Wr R L) fLead) fL dL) : FnOk P w K mg base CX0 3 f fd ["well", "size", "far", "leap"] (spD (Wr R L) fTableN) := by
  refine okD F scTable (Wr R L) fTableN (fun ds n K h => ?_) (fun p cdv A outer s H E hr => ?_)
  · obtain ⟨z, far, leap, rfl, _⟩ := h
    rfl
  · 
    have hr1 : Room 1 _ := hr.mono (by decide)
    have hr2 : Room 2 _ := hr.mono (by decide)
    refine ⟨_, _, (dss_cons (ds_par (i := 4) (j := 5) rfl scTable.nd rfl rfl (by decide) rfl rfl (da_cons (de_call Mo.ok (rd_spD rfl) hr2 Mo.at_ Mo.kp Mo.bi (da_cons (dv 0) (da_cons (dv 1) da_nil))) (da_cons (de_call Dp.ok rd_dip hr1 Dp.at_ Dp.kp Dp.bi (da_cons (dv 0) (da_cons (de_op op_add rd_I0 de_int (de_t call_int1 (by rfl) T.int (by decide +kernel) rd_int (da_cons (de_cmp op_lt rd_B0 (dv 1) de_int) da_nil))) da_nil))) da_nil)) (by rfl))
      (dss_cons (ds_par (i := 6) (j := 7) rfl scTable.nd rfl rfl (by decide) rfl rfl (da_cons (de_op op_sub rd_I0 (de_call Dp.ok rd_dip hr1 Dp.at_ Dp.kp Dp.bi (da_cons (dv 0) (da_cons de_int da_nil))) de_int) (da_cons (de_op op_sub rd_I0 (de_call Dp.ok rd_dip hr1 Dp.at_ Dp.kp Dp.bi (da_cons (dv 0) (da_cons de_int da_nil))) de_int) da_nil)) (by rfl))
      (dss_cut (ds_if (dt_cmp op_eq rd_Eq (dv 2) de_int)
        (dss_cons (ds_set (i := 6) scTable.nd rfl (.inl rfl) (de_op op_add rd_I0 (dv 6) (de_op op_mul rd_I (de_op op_sub rd_I0 (de_call Dp.ok rd_dip hr1 Dp.at_ Dp.kp Dp.bi (da_cons (dv 0) (da_cons de_int da_nil))) de_int) (de_call Dp.ok rd_dip hr1 Dp.at_ Dp.kp Dp.bi (da_cons (dv 0) (da_cons (de_op op_pow rd_I de_int de_int) da_nil))))))
        (dss_one (ds_set (i := 7) scTable.nd rfl (.inl rfl) (de_op op_add rd_I0 (dv 7) (de_op op_mul rd_I (de_op op_sub rd_I0 (de_call Dp.ok rd_dip hr1 Dp.at_ Dp.kp Dp.bi (da_cons (dv 0) (da_cons de_int da_nil))) de_int) (de_call Dp.ok rd_dip hr1 Dp.at_ Dp.kp Dp.bi (da_cons (dv 0) (da_cons (de_op op_pow rd_I de_int de_int) da_nil))))))))
        dss_nil)
      (dss_cons (ds_set (i := 7) scTable.nd rfl (.inl rfl) (de_op op_add rd_I0 (dv 7) (dv 6)))
      (dss_cons (ds_par3O (i := 8) (j := 9) (l := 10) rfl scTable.nd rfl rfl rfl (by decide) (by decide) (by decide) rfl rfl rfl (de_call Le.ok (rd_spD rfl) hr1 Le.at_ Le.kp Le.bi (da_cons (dv 4) (da_cons (dv 6) (da_cons (dv 7) da_nil)))) (df_lst da_nil) (df_lst (da_cons de_int da_nil)) (by rfl))
      (dss_cons (ds_for [11] PassesOwn.never rfl (di_range1 (by rfl) T.range (da_cons (dv 5) da_nil)) (dg_name (i := 11) scTable.nd rfl (.inl rfl))
        (dss_cons (ds_for [12] PassesOwn.never rfl (di_range1 (by rfl) T.range (da_cons (de_call Dp.ok rd_dip hr1 Dp.at_ Dp.kp Dp.bi (da_cons (dv 0) (da_cons (de_op op_add rd_I0 (de_op op_sub rd_I0 (de_ixL (dq (de_f (df_lst (da_cons de_int (da_cons de_int (da_cons de_int (da_cons de_int da_nil))))))) (dv 5)) (dv 1)) de_int) da_nil))) da_nil)) (dg_name (i := 12) scTable.nd rfl (.inl rfl))
          (dss_cons (ds_app 9 (he := (de_tup (da_cons (dv 6) (da_cons (de_op op_sub rd_I0 (dv 7) (dv 6)) da_nil)))))
          (dss_cons (ds_set (i := 13) scTable.nd rfl (.inl rfl) (de_call Dp.ok rd_dip hr1 Dp.at_ Dp.kp Dp.bi (da_cons (dv 0) (da_cons de_int da_nil))))
          (dss_cons (ds_set (i := 7) scTable.nd rfl (.inl rfl) (de_op op_add rd_I0 (dv 7) (de_if (dt_cmp op_lt rd_B0 (dv 13) de_int) (dv 13) (de_call Dp.ok rd_dip hr1 Dp.at_ Dp.kp Dp.bi (da_cons (dv 0) (da_cons (de_op op_add rd_I0 (dv 3) de_int) da_nil))))))
          (dss_one (ds_set (i := 6) scTable.nd rfl (.inl rfl) (de_op op_add rd_I0 (dv 6) de_int)))))))
        (dss_cons (ds_set (i := 4) scTable.nd rfl (.inl rfl) (de_call Mo.ok (rd_spD rfl) hr2 Mo.at_ Mo.kp Mo.bi (da_cons (dv 0) (da_cons (dv 1) da_nil))))
        (dss_cons (ds_for [12] PassesOwn.never rfl (di_range1 (by rfl) T.range (da_cons (dv 1) da_nil)) (dg_name (i := 12) scTable.nd rfl (.inl rfl))
          (dss_cons (ds_app 9 (he := (de_tup (da_cons (dv 6) (da_cons (de_op op_sub rd_I0 (dv 7) (dv 6)) da_nil)))))
          (dss_cons (ds_set (i := 7) scTable.nd rfl (.inl rfl) (de_op op_add rd_I0 (dv 7) (de_ixL (dq (dv 4)) (de_op op_mod rd_I (de_t call_int1 (by rfl) T.int (by decide +kernel) rd_int (da_cons (dv 6) da_nil)) (dv 1)))))
          (dss_one (ds_set (i := 6) scTable.nd rfl (.inl rfl) (de_op op_add rd_I0 (dv 6) de_int))))))
        (dss_cons (ds_app 10 (he := (de_bQ call_len_seq (by rfl) T.len PySem.boot_len rd_len (do_ 9))))
        (dss_cons (ds_set (i := 14) scTable.nd rfl (.inl rfl) (de_op op_add rd_I0 (de_call Dp.ok rd_dip hr1 Dp.at_ Dp.kp Dp.bi (da_cons (dv 0) (da_cons de_int da_nil))) (de_op op_mul rd_I (de_op op_mul rd_I (dv 2) (de_call Dp.ok rd_dip hr1 Dp.at_ Dp.kp Dp.bi (da_cons (dv 0) (da_cons de_int da_nil)))) (de_call Dp.ok rd_dip hr1 Dp.at_ Dp.kp Dp.bi (da_cons (dv 0) (da_cons (de_op op_pow rd_I de_int de_int) da_nil))))))
        (dss_cons (ds_par (i := 6) (j := 7) rfl scTable.nd rfl rfl (by decide) rfl rfl (da_cons (de_op op_add rd_I0 (dv 6) (de_op op_mul rd_I (dv 14) (dv 1))) (da_cons (de_op op_add rd_I0 (dv 7) (de_op op_mul rd_I (dv 14) (dv 1))) da_nil)) (by rfl))
        (dss_one (ds_for [12] PassesOwn.never rfl (di_range1 (by rfl) T.range (da_cons (de_call Dp.ok rd_dip hr1 Dp.at_ Dp.kp Dp.bi (da_cons (dv 0) (da_cons (dv 1) da_nil))) da_nil)) (dg_name (i := 12) scTable.nd rfl (.inl rfl))
          (dss_cons (ds_set (i := 7) scTable.nd rfl (.inl rfl) (de_op op_add rd_I0 (dv 7) (de_ixL (dq (dv 4)) (de_op op_mod rd_I (de_t call_int1 (by rfl) T.int (by decide +kernel) rd_int (da_cons (dv 6) da_nil)) (dv 1)))))
          (dss_one (ds_set (i := 6) scTable.nd rfl (.inl rfl) (de_op op_add rd_I0 (dv 6) de_int)))))))))))))
      (dss_frz 9 (dss_frz 10 (dss_one (ds_ret (de_tup (da_cons (dv 8) (da_cons (dv 9) (da_cons (dv 10) da_nil)))))))))))))), fun ds n K h => ?_⟩
    obtain ⟨z, far, leap, rfl, hn, ⟨z0, z1⟩, hf0, ⟨p0, p1⟩, k⟩ := h
    have hfar : far = 0 ∨ far = 1 := .inl hf0
    refine ⟨z, rfl, by omega, z0, z1, fun ms m mo ml hm => ?_⟩
    have sz : ∀ b : Bool, 0 ≤ (if b = true then (1 : Int) else 0) ∧ (if b = true then (1 : Int) else 0) ≤ 1 := fun b => by cases b <;> decide
    have sb := sz (decide (z < 9))
    refine ⟨by omega, by omega, by omega, fun parts q0 q1 => ?_⟩
    refine ⟨by omega, by decide, by decide, fun a a0 a1 => ⟨by omega, by decide, by decide, fun b b0 b1 => ?_⟩⟩
    refine ⟨fun δ m' => ∃ s h : Int, δ = [some (.dat .pool), some (.dat (.int z)), some (.dat (.int far)), some (.dat (.int leap)), some (.dat (dInt ms)), some (.dat (.int parts)), some (.dat (.int s)), some (.dat (.int h)), none, none, none, none, none, none, none] ∧ (-20 ≤ s ∧ s ≤ 20) ∧ (-12 ≤ h ∧ h ≤ 12) ∧ m' ≤ m + 10, ⟨rfl, fun g => ?_, fun g => ?_⟩, ?_⟩
    · exact absurd (V.int.inj (of_decide_eq_true g)) (by omega)
    · exact ⟨a - 20, b - 12, rfl, by omega, by omega, by omega⟩
    · rintro δ m' ⟨s, h, rfl, ⟨s0, s1⟩, ⟨h0, h1⟩, hm'⟩
      refine ⟨ms, s, h + s, rfl, mo, by omega, fun lead ll up fut => ?_⟩
      have lb := lead_bound mo ll fut
      refine ⟨by decide, one1000r, [0], rfl, ?_⟩
      refine ⟨by omega, by omega, fun i δ mi => ∃ (cs : List (Int × Int)) (tails ms' : List Int) (s h : Int) (y11 y12 y13 y14 : Option SV), δ = [some (.dat .pool), some (.dat (.int z)), some (.dat (.int far)), some (.dat (.int leap)), some (.dat (dInt ms')), some (.dat (.int parts)), some (.dat (.int s)), some (.dat (.int h)), some (.dat (dInt lead)), some (.own (cs.map dPr)), some (.own (tails.map DV.int)), y11, y12, y13, y14] ∧
        TabInv lead cs ms' s h ∧ Gap12 lead cs ∧ (cs.length : Int) ≤ i * limOf parts ∧ ((-(75 * (i : Int) + 20) ≤ s ∧ s ≤ 75 * (i : Int) + 20) ∧ -(400 * (i : Int) + 40) ≤ h ∧ h ≤ 400 * (i : Int) + 40) ∧ (∀ c ∈ cs, (-(75 * (i : Int) + 20) ≤ c.1 ∧ c.1 ≤ 75 * (i : Int) + 20) ∧ -(400 * (i : Int) + 40) ≤ c.1 + c.2 ∧ c.1 + c.2 ≤ 400 * (i : Int) + 40) ∧
        (∀ t ∈ tails, ∃ k : Nat, t = k ∧ k ≤ cs.length ∧ Up lead (cs.take k)) ∧ tails.length = i + 1 ∧ mi ≤ n + 100 + i * 150,
        ⟨[], [0], ms, s, h + s, none, none, none, none, rfl, ⟨ll, mo, up, .nil, (fun c hc => nomatch hc), fut⟩, gap_lead (⟨ll, mo, up, .nil, (fun c hc => nomatch hc), fut⟩ : TabInv lead [] ms s (h + s)) (by omega), by simp, by omega, (fun c hc => nomatch hc), fun t ht => ⟨0, by simpa using ht, Nat.zero_le _, up⟩, rfl, by omega⟩, ?_, ?_⟩
      · rintro i δ mi hi ⟨cs, tails, ms', s, h, y11, y12, y13, y14, rfl, inv, gp, cl, ⟨⟨s0, s1⟩, h0, h1⟩, cb, tl, tn, hmi⟩
        have pr : 1 ≤ parts ∧ parts ≤ 3 := by omega
        obtain ⟨lat, l24, l8, lle, l12⟩ := lim_at pr.1 pr.2
        have zl : z ≤ limOf parts := by
          by_cases q : parts ≤ 2
          · have := l12 q
            omega
          · have : (if decide (z < 9) = true then (1 : Int) else 0) = 1 := by
              have q3 : parts < 3 + (if decide (z < 9) = true then (1 : Int) else 0) := q1
              omega
            have : z < 9 := by
              by_cases q9 : z < 9
              · exact q9
              · rw [decide_eq_false q9] at this
                cases this
            omega
        have lz' : (ms'.length : Int) = z := by have := inv.len; omega
        have ic : (cs.length : Int) + limOf parts ≤ 24 := by
          have : ((i : Int) + 1) * limOf parts ≤ parts * limOf parts := Int.mul_le_mul_of_nonneg_right (by omega) (by omega)
          rw [Int.add_mul] at this
          omega
        refine ⟨by decide, .int (limOf parts), lat, by omega, by omega, by omega, fun r r0 r1 => ⟨by omega, by omega, ?_⟩⟩
        have rn : ((r.toNat : Nat) : Int) = r := Int.toNat_of_nonneg r0
        have r2 : r ≤ limOf parts - z := by
          have r3 : r < limOf parts - z + 1 := r1
          omega
        refine ⟨fun j δ mj => ∃ (vs : List Int) (h' : Int) (y12 y13 y14 : Option SV), δ = [some (.dat .pool), some (.dat (.int z)), some (.dat (.int far)), some (.dat (.int leap)), some (.dat (dInt ms')), some (.dat (.int parts)), some (.dat (.int (s + (vs.length : Nat)))), some (.dat (.int h')), some (.dat (dInt lead)), some (.own ((cs ++ rowsOf s vs).map dPr)), some (.own (tails.map DV.int)), some (.dat (.int (0 + (i : Int)))), y12, y13, y14] ∧
          vs.length = j ∧ Ris vs h h' ∧ DifG vs h' ∧ h' ≤ h + (j : Int) * 9 ∧ mj ≤ n + 101 + i * 150 + 3 * j,
          ⟨[], h, y12, y13, y14, ?_, rfl, .start h, .nil h, by omega, by omega⟩, ?_, ?_⟩
        · rw [show rowsOf s [] = [] from rfl, List.append_nil, show s + (([] : List Int).length : Nat) = s by simp]
          rfl
        · rintro j δ mj hj ⟨vs, h', y12, y13, y14, rfl, vl, ri, dg, hh, hmj⟩
          refine ⟨two1000r, by rw [List.length_map, List.length_append, rowsOf_len]; omega, ?_⟩
          refine ⟨by omega, by decide, by decide, fun kd k0 k1 => ?_⟩
          have er : (cs ++ rowsOf s vs).map dPr ++ [dPr (s + (vs.length : Nat), h' - (s + (vs.length : Nat)))] = (cs ++ rowsOf s (vs ++ [h'])).map dPr := by
            rw [rowsOf_snoc, ← List.append_assoc, map_snoc]
          have es : s + (vs.length : Nat) + 1 = s + ((vs ++ [h']).length : Nat) := by
            rw [List.length_append, List.length_singleton]
            omega
          refine ⟨fun g => ?_, fun g => ⟨by omega, by omega, by omega, fun q q0 q1 => ?_⟩⟩
          · have g2 : kd < 3 := of_decide_eq_true g
            refine ⟨vs ++ [h'], h' + kd, some (.dat (.int (0 + (j : Int)))), some (.dat (.int kd)), y14, by rw [← er, ← es]; rfl, by rw [List.length_append, vl]; rfl, ri.snoc (by omega), dg.snoc (by omega), by omega, by omega⟩
          · have q2 : q < leap + 1 := q1
            refine ⟨vs ++ [h'], h' + q, some (.dat (.int (0 + (j : Int)))), some (.dat (.int kd)), y14, by rw [← er, ← es]; rfl, by rw [List.length_append, vl]; rfl, ri.snoc (by omega), dg.snoc (by omega), by omega, by omega⟩
        rintro δ mj ⟨vs, hb, y12', y13', y14', rfl, vl, ri, dg, hh, hmj⟩
        have hr1b := ri.ab
        have vlo := ri.lo
        refine ⟨z, rfl, by omega, z0, z1, fun ms2 m2 mo2 ml2 hm2 => ?_⟩
        have l2 : 0 < ms2.length := mo2.l0
        refine ⟨by omega, by omega, fun j δ mj => ∃ (y12 : Option SV), δ = [some (.dat .pool), some (.dat (.int z)), some (.dat (.int far)), some (.dat (.int leap)), some (.dat (dInt ms2)), some (.dat (.int parts)), some (.dat (.int (s + (vs.length : Nat) + (j : Nat)))), some (.dat (.int (hop ms2 (s + (vs.length : Nat)) hb j))), some (.dat (dInt lead)), some (.own ((cs ++ rowsOf s (vs ++ (List.range j).map fun (i : Nat) => hop ms2 (s + (vs.length : Nat)) hb i)).map dPr)), some (.own (tails.map DV.int)), some (.dat (.int (0 + (i : Int)))), y12, y13', y14'] ∧ mj = m2, ⟨y12', ?_, rfl⟩, ?_, ?_⟩
        · rw [List.range_zero, List.map_nil, List.append_nil, show s + (vs.length : Nat) + ((0 : Nat) : Int) = s + (vs.length : Nat) by omega]
          rfl
        · rintro j δ mj hj ⟨y12, rfl, rfl⟩
          have hj2 : j < ms2.length := by omega
          have er : (cs ++ rowsOf s (vs ++ (List.range j).map fun (i : Nat) => hop ms2 (s + (vs.length : Nat)) hb i)).map dPr ++ [dPr (s + (vs.length : Nat) + (j : Nat), hop ms2 (s + (vs.length : Nat)) hb j - (s + (vs.length : Nat) + (j : Nat)))] = (cs ++ rowsOf s (vs ++ (List.range (j + 1)).map fun (i : Nat) => hop ms2 (s + (vs.length : Nat)) hb i)).map dPr := by
            rw [List.range_succ, map_snoc, ← List.append_assoc, rowsOf_snoc, ← List.append_assoc, map_snoc, List.length_append, List.length_map, List.length_range, show s + ((vs.length + j : Nat) : Int) = s + (vs.length : Nat) + (j : Nat) by omega]
          refine ⟨two1000r, by rw [List.length_map, List.length_append, rowsOf_len, List.length_append, List.length_map, List.length_range]; omega, ?_⟩
          refine ⟨by omega, .int (wkOff ms2 (s + (vs.length : Nat) + (j : Nat))), by rw [← ml2]; exact atI_wkD l2, ?_⟩
          refine ⟨some (.dat (.int (0 + (j : Int)))), ?_, rfl⟩
          rw [← er, show s + (vs.length : Nat) + ((j + 1 : Nat) : Int) = s + (vs.length : Nat) + (j : Nat) + 1 by omega]
          rfl
        rintro δ mj ⟨y12'', rfl, rfl⟩
        have zn2 : z.toNat = ms2.length := by omega
        rw [zn2]
        have inv2 := inv.run mo2 (by omega) ri
        have gp2 : Gap12 lead (cs ++ rowsOf s (vs ++ (List.range ms2.length).map fun (i : Nat) => hop ms2 (s + (vs.length : Nat)) hb i)) := gap_run inv gp (by
          rw [List.length_append, List.length_map, List.length_range, show s + ((vs.length + ms2.length : Nat) : Int) = s + (vs.length : Nat) + (ms2.length : Nat) by omega]
          exact inv2) (by omega) (DifG.week mo2 (by omega) dg ms2.length) (by
          cases vs with
          | nil =>
            have e := ri.nil rfl
            obtain ⟨n, hn⟩ : ∃ n, ms2.length = n + 1 := ⟨ms2.length - 1, by omega⟩
            rw [List.nil_append, hn, List.range_succ_eq_map, List.map_cons]
            exact e.symm
          | cons x xs => exact ri.first x rfl) (by rw [List.length_append, List.length_map, List.length_range]; omega)
        have wk := hop_week mo2 (s + (vs.length : Nat)) hb
        have rl : (rowsOf s (vs ++ (List.range ms2.length).map fun (i : Nat) => hop ms2 (s + (vs.length : Nat)) hb i)).length = vs.length + ms2.length := by rw [rowsOf_len, List.length_append, List.length_map, List.length_range]
        have rb : ∀ c ∈ rowsOf s (vs ++ (List.range ms2.length).map fun (i : Nat) => hop ms2 (s + (vs.length : Nat)) hb i), (s ≤ c.1 ∧ c.1 ≤ s + 36) ∧ h ≤ c.1 + c.2 ∧ c.1 + c.2 ≤ hb + 12 := fun c hc => by
          obtain ⟨q, hq, e1, e2⟩ := rowsOf_mem hc
          have hm : (vs ++ (List.range ms2.length).map fun (i : Nat) => hop ms2 (s + (vs.length : Nat)) hb i).getD q 0 ∈ (vs ++ (List.range ms2.length).map fun (i : Nat) => hop ms2 (s + (vs.length : Nat)) hb i) := by
            rw [List.getD_eq_getElem?_getD, List.getElem?_eq_getElem hq]
            exact List.getElem_mem hq
          rw [List.length_append, List.length_map, List.length_range] at hq
          rcases List.mem_append.mp hm with h1 | h1
          · have := vlo _ h1
            have := ri.le _ h1
            omega
          · obtain ⟨q2, hq2, e3⟩ := List.mem_map.mp h1
            have hq2 := List.mem_range.mp hq2
            have := hop_le mo2 (s + (vs.length : Nat)) hb (Nat.zero_le q2)
            have := hop_le mo2 (s + (vs.length : Nat)) hb (show q2 ≤ ms2.length by omega)
            have : hop ms2 (s + (vs.length : Nat)) hb 0 = hb := rfl
            omega
        generalize hop ms2 (s + (vs.length : Nat)) hb ms2.length = h2 at inv2 wk
        generalize rowsOf s (vs ++ (List.range ms2.length).map fun (i : Nat) => hop ms2 (s + (vs.length : Nat)) hb i) = rs at inv2 rl rb gp2
        have tln : tails.length ≤ 4 := by omega
        refine ⟨by rw [List.length_map]; omega, ?_⟩
        refine ⟨by omega, by decide, by decide, fun a1 a10 a11 => ⟨by omega, by decide, by decide, fun a2 a20 a21 => ⟨.inl ⟨by omega, by omega⟩, ?_⟩⟩⟩
        refine ⟨⟨by decide, by decide, by decide⟩, by omega, by decide, by decide, fun a3 a30 a31 => ⟨.inl ⟨?_, ?_⟩, ?_⟩⟩
        · have : far * a2 = 0 ∨ far * a2 = 1 := by
            rcases hfar with q | q <;> rw [q] <;> omega
          show -(2 ^ 64) < far * a2
          omega
        · have : far * a2 = 0 ∨ far * a2 = 1 := by
            rcases hfar with q | q <;> rw [q] <;> omega
          show far * a2 < 2 ^ 64
          omega
        have a32 : a3 < 10 ^ 29 := a31
        have ap : 0 ≤ a1 + far * a2 * a3 ∧ a1 + far * a2 * a3 ≤ 2 := by
          have : far * a2 = 0 := by rw [hf0, Int.zero_mul]
          rw [this, Int.zero_mul]
          omega
        refine ⟨.inr ⟨by omega, by omega⟩, .inr ⟨by omega, by omega⟩, ?_⟩
        have apz : 0 ≤ (a1 + far * a2 * a3) * z ∧ (a1 + far * a2 * a3) * z ≤ 2 * 12 := ⟨Int.mul_nonneg ap.1 (by omega), Int.mul_le_mul ap.2 z1 (by omega) (by decide)⟩
        have inv3 := inv2.weeks ap.1
        rw [show ((ms2.length : Nat) : Int) = z from ml2] at inv3
        refine ⟨by omega, by omega, by omega, fun d d0 d1 => ⟨by omega, by omega, ?_⟩⟩
        have dn : ((d.toNat : Nat) : Int) = d := Int.toNat_of_nonneg d0
        have et : tails.map DV.int ++ [DV.int (((cs ++ rs).map dPr).length : Nat)] = (tails ++ [((cs ++ rs).length : Int)]).map DV.int := by
          rw [map_snoc, List.length_map]
        refine ⟨fun j δ mj => ∃ (s3 h3 : Int) (y12 : Option SV), δ = [some (.dat .pool), some (.dat (.int z)), some (.dat (.int far)), some (.dat (.int leap)), some (.dat (dInt ms2)), some (.dat (.int parts)), some (.dat (.int s3)), some (.dat (.int h3)), some (.dat (dInt lead)), some (.own ((cs ++ rs).map dPr)), some (.own ((tails ++ [((cs ++ rs).length : Int)]).map DV.int)), some (.dat (.int (0 + (i : Int)))), y12, y13', some (.dat (.int (a1 + far * a2 * a3)))] ∧
          TabInv lead (cs ++ rs) ms2 s3 h3 ∧ (s + (vs.length : Nat) + z + (a1 + far * a2 * a3) * z ≤ s3 ∧ s3 ≤ s + (vs.length : Nat) + z + (a1 + far * a2 * a3) * z + j) ∧ (h2 + (a1 + far * a2 * a3) * z ≤ h3 ∧ h3 ≤ h2 + (a1 + far * a2 * a3) * z + 12 * (j : Int)) ∧ mj ≤ n + 140 + i * 150 + 80,
          ⟨s + (vs.length : Nat) + z + (a1 + far * a2 * a3) * z, h2 + (a1 + far * a2 * a3) * z, y12'', ?_, inv3, by omega, by omega, by omega⟩, ?_, ?_⟩
        · rw [← et, ← ml2]
          rfl
        · rintro j δ mj hj ⟨s3, h3, y12, rfl, inv4, sb3, hb3, hmj⟩
          have ws := wk_small mo2 s3
          refine ⟨by omega, .int (wkOff ms2 s3), by rw [← ml2]; exact atI_wkD l2, ?_⟩
          exact ⟨s3 + 1, h3 + wkOff ms2 s3, some (.dat (.int (0 + (j : Int)))), rfl, inv4.step, by omega, by omega, by omega⟩
        · rintro δ mj ⟨s3, h3, y12, rfl, inv4, sb3, hb3, hmj⟩
          refine ⟨cs ++ rs, tails ++ [((cs ++ rs).length : Int)], ms2, s3, h3, _, _, _, _, rfl, inv4, gp2, ?_, ?_, ?_, ?_, ?_, ?_⟩
          · rw [List.length_append, rl]
            push_cast
            rw [Int.add_mul]
            omega
          · omega
          · intro c hc
            rcases List.mem_append.mp hc with h1 | h1
            · have := cb c h1
              omega
            · have := rb c h1
              omega
          · intro t ht
            rcases List.mem_append.mp ht with h1 | h1
            · obtain ⟨q, e1, e2, e3⟩ := tl t h1
              exact ⟨q, e1, by rw [List.length_append]; omega, by rw [take_app e2]; exact e3⟩
            · exact ⟨(cs ++ rs).length, List.mem_singleton.mp h1, Nat.le_refl _, by rw [List.take_length]; exact inv4.up⟩
          · rw [List.length_append, tn]
            rfl
          · omega
      · rintro δ mi ⟨cs, tails, ms', s, h, y11, y12, y13, y14, rfl, inv, gp, cl, ⟨⟨s0, s1⟩, h0, h1⟩, cb, tl, tn, hmi⟩
        have pn : ((parts.toNat : Nat) : Int) = parts := Int.toNat_of_nonneg q0
        have pr : parts ≤ 3 := by omega
        have cl24 : cs.length ≤ 24 := by
          by_cases q : parts = 0
          · rw [pn, q] at cl
            omega
          · obtain ⟨_, l24, _⟩ := lim_at (show 1 ≤ parts by omega) pr
            rw [pn, l24] at cl
            omega
        refine ⟨three1000r, k lead cs tails mi ⟨by omega, z0, z1, inv.asc, inv.up, cl24, fun v hv => ?_, fun c hc => ?_, tl, by omega⟩ ⟨fun v hv => ?_, fun c hc => ?_, gp⟩ (by omega)⟩
        · have := lb v hv
          omega
        · have := cb c hc
          omega
        · have := lb v hv
          omega
        · have := cb c hc
          omega
end

theorem getD_prW {cs : List (Int × Int)} {i : Nat} (h : i < cs.length) : (cs.map dPr).getD i .non = dPr cs[i] := by
  rw [List.getD_eq_getElem?_getD, List.getElem?_map, List.getElem?_eq_getElem h]
  rfl

/-! ### rules in turn, in full -/
theorem asc_len : ∀ {l m : List Int}, l.Pairwise (· < ·) → (∀ x ∈ l, x ∈ m) → l.length ≤ m.length
  | [], _, _, _ => Nat.zero_le _
  | x :: l, m, asc, sub => by
    have as := List.pairwise_cons.mp asc
    have hx := sub x List.mem_cons_self
    have := asc_len (m := m.erase x) as.2 fun y hy => (List.mem_erase_of_ne (by have := as.1 y hy; omega)).mpr (sub y (List.mem_cons_of_mem _ hy))
    rw [List.length_erase_of_mem hx] at this
    have h0 := List.length_pos_of_mem hx
    rw [List.length_cons]
    omega
theorem rgI_asc (a b : Int) : (rgI a b).Pairwise (· < ·) := by
  unfold rgI
  rw [List.pairwise_map]
  exact List.pairwise_lt_range.imp fun h => by omega
theorem list_bdG : ∀ l : List Int, ∃ B : Int, 0 ≤ B ∧ ∀ v ∈ l, -B ≤ v ∧ v ≤ B
  | [] => ⟨0, Int.le_refl _, fun v hv => nomatch hv⟩
  | x :: l => by
    obtain ⟨B, b0, hB⟩ := list_bdG l
    refine ⟨B + x.natAbs, by omega, fun v hv => ?_⟩
    rcases List.mem_cons.mp hv with rfl | hv
    · omega
    · have := hB v hv
      omega
theorem off_bdG {bs : List Int} (cs : List (Int × Int)) (l0 : 0 < bs.length) : ∃ B : Int, 0 ≤ B ∧ ∀ t, -B ≤ lawOff bs cs t ∧ lawOff bs cs t ≤ B := by
  obtain ⟨B, b0, hB⟩ := list_bdG (bs ++ cs.map (·.2))
  refine ⟨B, b0, fun t => ?_⟩
  rcases lawOff_mem (cs := cs) (t := t) l0 with h | ⟨c, hc, h⟩
  · exact hB _ (List.mem_append_left _ h)
  · rw [h]
    exact hB _ (List.mem_append_right _ (List.mem_map.mpr ⟨c, hc, rfl⟩))
theorem late_ex {bs : List Int} {cs : List (Int × Int)} (l0 : 0 < bs.length) (u : Int) : ∃ s, IsLate bs cs u s := by
  obtain ⟨B, b0, hB⟩ := off_bdG cs l0
  have key : ∀ n : Nat, ∀ a, val bs cs a ≤ u → u < val bs cs (a + n) → ∃ s, IsLate bs cs u s := fun n => by
    induction n with
    | zero => intro a h1 h2; rw [show a + ((0 : Nat) : Int) = a by omega] at h2; omega
    | succ n ih =>
      intro a h1 h2
      by_cases c : val bs cs (a + 1) ≤ u
      · exact ih (a + 1) c (by rw [show a + 1 + (n : Int) = a + ((n + 1 : Nat) : Int) by omega]; exact h2)
      · exact ⟨a, h1, by omega⟩
  have h1 := hB (u - B)
  have h2 := hB (u - B + ((2 * B + 1).toNat : Nat))
  exact key (2 * B + 1).toNat (u - B) (by unfold val; omega) (by unfold val; omega)
/-- the starts of one value, but for those at changes, lie within a week -/
theorem flat_chg {bs : List Int} {cs : List (Int × Int)} {t : Int} (l0 : 0 < bs.length) (h : val bs cs t = val bs cs (t - (bs.length : Nat))) : t ∈ cs.map (·.1) := by
  apply Classical.byContradiction
  intro n
  have := lawOff_prev l0 n
  unfold val at h
  omega
theorem flat_lenG {bs : List Int} {cs : List (Int × Int)} (k : RuOk bs cs) {m s1 s2 : Int} (h1 : IsLate bs cs (m - 1) s1) (h2 : IsLate bs cs m s2) : s1 ≤ s2 ∧ (∀ t, s1 < t ∧ t ≤ s2 ↔ val bs cs t = m) ∧ (s2 - s1).toNat ≤ bs.length + cs.length := by
  have i1 := h1.iff k
  have i2 := h2.iff k
  have le : s1 ≤ s2 := (i2 s1).mp (by have := (i1 s1).mpr (Int.le_refl _); omega)
  have eq : ∀ t, s1 < t ∧ t ≤ s2 ↔ val bs cs t = m := fun t => by
    have a := i1 t
    have b := i2 t
    constructor
    · rintro ⟨h1, h2⟩
      have := b.mpr h2
      have : ¬ val bs cs t ≤ m - 1 := fun z => by have := a.mp z; omega
      omega
    · intro h
      exact ⟨Int.not_le.mp fun z => by have := a.mpr z; omega, b.mp (by omega)⟩
  refine ⟨le, eq, ?_⟩
  by_cases c : s2 - s1 ≤ bs.length
  · omega
  · have := asc_len (l := rgI (s1 + bs.length + 1) (s2 + 1)) (m := cs.map (·.1)) (rgI_asc _ _) fun x hx => by
      have := rgI_mem.mp hx
      exact flat_chg k.l0 (((eq x).mp (by omega)).trans ((eq _).mp (by omega)).symm)
    rw [rgI_len, List.length_map] at this
    omega
/-- how many moments there are at which the values in turn may turn -/
theorem turn_len {b1 : List Int} {c1 c2 : List (Int × Int)} (k1 : RuOk b1 c1) {ks : List Int} (asc : ks.Pairwise (· < ·)) (mem : ∀ k, k ∈ ks ↔ k ∈ c1.map (·.1) ∨ val b1 c1 k ∈ c2.map (·.1)) : ks.length ≤ c1.length + c2.length * b1.length := by
  have pick : ∃ F : Int → Int, ∀ m, IsLate b1 c1 (m - 1) (F m) := ⟨fun m => (late_ex k1.l0 (m - 1)).choose, fun m => (late_ex k1.l0 (m - 1)).choose_spec⟩
  obtain ⟨F, hF⟩ := pick
  have h := asc_len (m := c1.map (·.1) ++ c2.flatMap fun c => rgI (F c.1 + 1) (F c.1 + 1 + b1.length)) asc fun x hx => by
    by_cases c : x ∈ c1.map (·.1)
    · exact List.mem_append_left _ c
    · obtain ⟨d, hd, e⟩ := List.mem_map.mp (((mem x).mp hx).resolve_left c)
      refine List.mem_append_right _ (List.mem_flatMap.mpr ⟨d, hd, rgI_mem.mpr ?_⟩)
      have i1 := (hF d.1).iff k1
      have a : ¬ x ≤ F d.1 := fun z => by have := (i1 x).mpr z; omega
      have b : x - b1.length ≤ F d.1 := (i1 _).mp (by
        have l := k1.le (show x - (b1.length : Nat) ≤ x by omega)
        by_cases q : val b1 c1 x = val b1 c1 (x - (b1.length : Nat))
        · exact absurd (flat_chg k1.l0 q) c
        · omega)
      omega
  have fl : ∀ l : List (Int × Int), (l.flatMap fun c => rgI (F c.1 + 1) (F c.1 + 1 + b1.length)).length = l.length * b1.length := fun l => by
    induction l with
    | nil => simp
    | cons c l ih =>
      rw [List.flatMap_cons, List.length_append, ih, rgI_len, List.length_cons, Nat.succ_mul]
      omega
  rw [List.length_append, List.length_map, fl] at h
  exact h
theorem composedG {b1 b2 : List Int} {c1 c2 : List (Int × Int)} (k1 : RuOk b1 c1) (k2 : RuOk b2 c2) (hl : b1.length = b2.length) {ks : List Int} (asc : ks.Pairwise (· < ·)) (mem : ∀ k, k ∈ ks ↔ k ∈ c1.map (·.1) ∨ val b1 c1 k ∈ c2.map (·.1))
    {bs : List Int} {cs : List (Int × Int)} (eb : bs = (List.range b1.length).map fun (i : Nat) => b1.getD i 0 + wkOff b2 ((i : Int) + b1.getD i 0)) (ec : cs = ks.map fun t => (t, compOff b1 c1 b2 c2 t)) :
    bs.length = b1.length ∧ (cs.Pairwise fun a b => a.1 < b.1) ∧ RisesC bs (tell bs cs).2 ∧ RuOk bs (tell bs cs).2 ∧ ∀ t, lawOff bs (tell bs cs).2 t = compOff b1 c1 b2 c2 t := by
  have lb : bs.length = b1.length := by rw [eb, List.length_map, List.length_range]
  have l0 : 0 < bs.length := by rw [lb]; exact k1.l0
  have ac : cs.Pairwise fun a b => a.1 < b.1 := by
    rw [ec]
    exact List.pairwise_map.mpr asc
  have key : ∀ t, lawOff bs cs t = compOff b1 c1 b2 c2 t := by
    refine tells (g := fun t => compOff b1 c1 b2 c2 t) l0 ac (fun c hc => ?_) (fun t ht => ?_) ?_
    · rw [ec] at hc
      obtain ⟨t, _, rfl⟩ := List.mem_map.mp hc
      rfl
    · rw [ec, keys_of] at ht
      have n1 : t ∉ c1.map (·.1) := fun z => ht ((mem t).mpr (.inl z))
      have n2 : t + lawOff b1 c1 t ∉ c2.map (·.1) := fun z => ht ((mem t).mpr (.inr z))
      show compOff _ _ _ _ _ = compOff _ _ _ _ _
      unfold compOff
      rw [lawOff_prev k2.l0 n2, lawOff_prev k1.l0 n1, lb]
      congr 2
      omega
    · obtain ⟨lo1, _, hlo1⟩ := low_of c1 0
      obtain ⟨lo2, _, hlo2⟩ := low_of c2 0
      obtain ⟨B, b0, hB⟩ := off_bdG c1 k1.l0
      refine ⟨(if lo1 < lo2 then lo1 else lo2) - B, fun t ht => ?_⟩
      show compOff _ _ _ _ _ = _
      have tl : t < lo1 ∨ t ≤ lo1 := by split at ht <;> omega
      have e1 : lawOff b1 c1 t = wkOff b1 t := lawOff_lo fun c hc => by
        have := hlo1 c hc
        split at ht <;> omega
      have hb := hB t
      have e2 : lawOff b2 c2 (t + lawOff b1 c1 t) = wkOff b2 (t + lawOff b1 c1 t) := lawOff_lo fun c hc => by
        have := hlo2 c hc
        split at ht <;> omega
      unfold compOff
      rw [e2, e1]
      obtain ⟨i, hi, e1, e2⟩ := wk_range (f := fun (i : Nat) => b1.getD i 0 + wkOff b2 ((i : Int) + b1.getD i 0)) k1.l0 t
      rw [eb, e2, wk_getD e1]
      congr 1
      show wkOff b2 _ = wkOff b2 _
      unfold wkOff
      rw [e1, ← hl, Int.emod_add_emod]
  have rise := risesC_of l0 ac key fun t => by
    have a := k2.le (show val b1 c1 t ≤ val b1 c1 (t + 1) from k1.le (by omega))
    unfold compOff
    unfold val at a
    omega
  exact ⟨lb, ac, rise, ruOk_of l0 (by rw [lb]; exact k1.l1) ac rise, fun t => by rw [tell_law l0 cs ac]; exact key t⟩

/-! ### the moments at which values in turn may turn, and the rule of two in turn -/
theorem turn_lenL {b1 : List Int} {c1 c2 : List (Int × Int)} (k1 : RuOk b1 c1) {ks : List Int} (asc : ks.Pairwise (· < ·)) (mem : ∀ k, k ∈ ks → k ∈ c1.map (·.1) ∨ val b1 c1 k ∈ c2.map (·.1)) : ks.length ≤ c1.length + c2.length * b1.length := by
  have pick : ∃ F : Int → Int, ∀ m, IsLate b1 c1 (m - 1) (F m) := ⟨fun m => (late_ex k1.l0 (m - 1)).choose, fun m => (late_ex k1.l0 (m - 1)).choose_spec⟩
  obtain ⟨F, hF⟩ := pick
  have h := asc_len (m := c1.map (·.1) ++ c2.flatMap fun c => rgI (F c.1 + 1) (F c.1 + 1 + b1.length)) asc fun x hx => by
    by_cases c : x ∈ c1.map (·.1)
    · exact List.mem_append_left _ c
    · obtain ⟨d, hd, e⟩ := List.mem_map.mp ((mem x hx).resolve_left c)
      refine List.mem_append_right _ (List.mem_flatMap.mpr ⟨d, hd, rgI_mem.mpr ?_⟩)
      have i1 := (hF d.1).iff k1
      have a : ¬ x ≤ F d.1 := fun z => by have := (i1 x).mpr z; omega
      have b : x - b1.length ≤ F d.1 := (i1 _).mp (by
        have l := k1.le (show x - (b1.length : Nat) ≤ x by omega)
        by_cases q : val b1 c1 x = val b1 c1 (x - (b1.length : Nat))
        · exact absurd (flat_chg k1.l0 q) c
        · omega)
      omega
  have fl : ∀ l : List (Int × Int), (l.flatMap fun c => rgI (F c.1 + 1) (F c.1 + 1 + b1.length)).length = l.length * b1.length := fun l => by
    induction l with
    | nil => simp
    | cons c l ih =>
      rw [List.flatMap_cons, List.length_append, ih, rgI_len, List.length_cons, Nat.succ_mul]
      omega
  rw [List.length_append, List.length_map, fl] at h
  exact h
def passL (F G : Int → Int) (ms : List Int) : List Int := ms.flatMap fun m => rgI (F m + 1) (G m + 1)
theorem passL_mem {b1 : List Int} {c1 : List (Int × Int)} (k1 : RuOk b1 c1) {F G : Int → Int} (hF : ∀ m, IsLate b1 c1 (m - 1) (F m)) (hG : ∀ m, IsLate b1 c1 m (G m)) (ms : List Int) (x : Int) : x ∈ passL F G ms ↔ val b1 c1 x ∈ ms := by
  unfold passL
  rw [List.mem_flatMap]
  constructor
  · rintro ⟨m, hm, hx⟩
    have := rgI_mem.mp hx
    have := ((flat_lenG k1 (hF m) (hG m)).2.1 x).mp (by omega)
    rw [this]
    exact hm
  · intro h
    refine ⟨_, h, rgI_mem.mpr ?_⟩
    have := ((flat_lenG k1 (hF (val b1 c1 x)) (hG (val b1 c1 x))).2.1 x).mpr rfl
    omega
theorem passL_asc {b1 : List Int} {c1 : List (Int × Int)} (k1 : RuOk b1 c1) {F G : Int → Int} (hF : ∀ m, IsLate b1 c1 (m - 1) (F m)) (hG : ∀ m, IsLate b1 c1 m (G m)) : ∀ {ms : List Int}, ms.Pairwise (· < ·) → (passL F G ms).Pairwise (· < ·)
  | [], _ => .nil
  | m :: ms, h => by
    have as := List.pairwise_cons.mp h
    show (rgI (F m + 1) (G m + 1) ++ passL F G ms).Pairwise (· < ·)
    refine List.pairwise_append.mpr ⟨rgI_asc _ _, passL_asc k1 hF hG as.2, fun x hx y hy => ?_⟩
    have := rgI_mem.mp hx
    have e := ((flat_lenG k1 (hF m) (hG m)).2.1 x).mp (by omega)
    have := as.1 _ ((passL_mem k1 hF hG ms y).mp hy)
    exact Int.not_le.mp fun z => by
      have := k1.le z
      omega
def fPassG : FD := fun ds n K => ∃ b1 c1 b2 c2, ds = [.obj (.rul b1 c1), .obj (.rul b2 c2)] ∧ RuOk b1 c1 ∧ c1.length ≤ 990 ∧ c2.length ≤ 990 ∧ c1.length + c2.length * b1.length ≤ 3000 ∧ ∀ ks : List Int, ks.Pairwise (· < ·) → (∀ k, k ∈ ks ↔ k ∈ c1.map (·.1) ∨ val b1 c1 k ∈ c2.map (·.1)) → ks.length ≤ c1.length + c2.length * b1.length → K (dInt ks) n
def fShrG : FD := fun ds n K => ∃ b1 c1 b2 c2, ds = [.obj (.rul b1 c1), .obj (.rul b2 c2)] ∧ RuOk b1 c1 ∧ RuOk b2 c2 ∧ b1.length = b2.length ∧ c2.length ≤ 990 ∧ c1.length + c2.length * b1.length ≤ 990 ∧
  ∀ bs cs, RuOk bs cs → bs.length = b1.length → (∀ t, lawOff bs cs t = compOff b1 c1 b2 c2 t) → cs.length ≤ c1.length + c2.length * b1.length → (∀ c ∈ cs, c.1 ∈ c1.map (·.1) ∨ val b1 c1 c.1 ∈ c2.map (·.1)) → K (.obj (.rul bs cs)) n
section
variable {P : Program} {w : World} {K : PySem.W.Frag} {mg : Str → Option Value} {base : Heap}
theorem ok_passG {f R L fC fL : Addr} {fd dL : FuncData} (F : Fun K "passing_moments" "passing_moments" sPassing f fd) (ZR : RuC K mg R) (T : Blt mg) (T5 : Blt5 mg) (nset : mg "set" = none) (ChM : AtR P w K mg base 3 "changed_moments" (spMoms (ThR R L)) fC)
    (hRL : Meth K R "latest_start" fL) (GRL : FnOk P w K mg base CX0 3 fL dL ["self", "goal"] (spRuLat R L)) (bRL : Binds K dL ["self", "goal"] []) : FnOk P w K mg base CX0 4 f fd ["one", "other"] (spD (Wr R L) fPassG) := by
  refine okD F scPassing (Wr R L) fPassG (fun ds n K h => ?_) (fun p cdv A outer s H E hr => ?_)
  · obtain ⟨b1, c1, b2, c2, rfl, _⟩ := h
    rfl
  · have hr3 : Room 3 _ := hr.mono (by decide)
    refine ⟨_, _, (dss_cons (ds_setLc2 (i := 2) (own := [("moment", 3), ("start", 4)]) (vs1 := [4]) rfl scPassing.nd rfl rfl (sw_true rfl rfl rfl (by decide +kernel)) (di_list (de_moms ChM.ok hr3 ChM.at_ ChM.kp (da_cons (dv 1) da_nil)))
          (blkOk_by (N := ["one", "other", "passed", "moment", "start"]) (sc := defScope sPassing) (by decide +kernel)) (by decide) (fun _ _ _ _ _ => (dg_name (i := 3) scPassing.nd rfl (.inl rfl))) (fun _ _ _ _ _ => dts_nil)
          (fun _ _ _ _ _ => di_range2A (by rfl) T.range (da_cons (de_op op_add rd_I0 (de_meth (dv 0) ZR.cl hRL GRL rd_lat hr3 bRL (da_cons (de_op op_sub rd_I0 (dv 3) de_int) da_nil)) de_int) (da_cons (de_op op_add rd_I0 (de_meth (dv 0) ZR.cl hRL GRL rd_lat hr3 bRL (da_cons (dv 3) da_nil)) de_int) da_nil)))
          (fun _ _ _ _ _ => (dg_name (i := 4) scPassing.nd rfl (.inl rfl))) (fun _ _ _ _ _ => dts_nil) (fun _ _ _ _ _ => (dv 4)))
      (dss_one (ds_ret (de_f (df_SS rfl (by rfl) T5.sorted (by rfl) nset (dq (de_f (df_cat (dq (de_moms ChM.ok hr3 ChM.at_ ChM.kp (da_cons (dv 0) da_nil))) (dq (dv 2)))))))))), fun ds n K h => ?_⟩
    obtain ⟨b1, c1, b2, c2, rfl, k1, l1, l2, lt, k⟩ := h
    have em1 : movesOf [DV.obj (.rul b1 c1)] = c1 := by
      show c1 ++ [] = _
      rw [List.append_nil]
    have em2 : movesOf [DV.obj (.rul b2 c2)] = c2 := by
      show c2 ++ [] = _
      rw [List.append_nil]
    refine ⟨isR_one, (by decide : 1 ≤ 900), by rw [em2]; omega, fun ks0 asc0 mem0 le0 => ?_⟩
    rw [em2] at mem0 le0
    obtain ⟨Fs, hF⟩ : ∃ F : Int → Int, ∀ m, IsLate b1 c1 (m - 1) (F m) := ⟨fun m => (late_ex k1.l0 (m - 1)).choose, fun m => (late_ex k1.l0 (m - 1)).choose_spec⟩
    obtain ⟨Gs, hG⟩ : ∃ G : Int → Int, ∀ m, IsLate b1 c1 m (G m) := ⟨fun m => (late_ex k1.l0 m).choose, fun m => (late_ex k1.l0 m).choose_spec⟩
    have plen : ∀ i, (passL Fs Gs (ks0.take i)).length ≤ c1.length + c2.length * b1.length := fun i => turn_lenL k1 (passL_asc k1 hF hG (asc0.sublist (List.take_sublist _ _))) fun x hx => .inr ((mem0 _).mp (List.mem_of_mem_take ((passL_mem k1 hF hG _ x).mp hx)))
    refine ⟨fun i acc m => acc = (passL Fs Gs (ks0.take i)).map DV.int ∧ m = n, ⟨rfl, rfl⟩, ?_, ?_⟩
    · rintro i acc m hi ⟨rfl, rfl⟩
      have hi : i < ks0.length := by simpa using hi
      have et : ks0.take (i + 1) = ks0.take i ++ [ks0[i]] := by rw [List.take_add_one, List.getElem?_eq_getElem hi]; rfl
      show dgN 3 ((ks0.map DV.int).getD i .non) _ _
      rw [getD_intr hi, show ks0.getD i 0 = ks0[i] by rw [List.getD_eq_getElem?_getD, List.getElem?_eq_getElem hi]; rfl]
      generalize ks0[i] = x at et
      have ep : passL Fs Gs (ks0.take (i + 1)) = passL Fs Gs (ks0.take i) ++ rgI (Fs x + 1) (Gs x + 1) := by
        rw [et]
        unfold passL
        rw [List.flatMap_append, List.flatMap_cons, List.flatMap_nil, List.append_nil]
      have pl := plen (i + 1)
      rw [ep, List.length_append, rgI_len] at pl
      refine ⟨fun _ => ⟨rfl, fun s1 h1 => ⟨rfl, fun s2 h2 => ?_⟩⟩, (fun z => nomatch z)⟩
      obtain rfl : s1 = Fs x := h1.uniq k1 (hF x)
      obtain rfl : s2 = Gs x := h2.uniq k1 (hG x)
      refine ⟨fun j acc m1 => acc = (passL Fs Gs (ks0.take i)).map DV.int ++ (List.range j).map (fun (a : Nat) => DV.int (Fs x + 1 + (a : Int))) ∧ m1 = m, ⟨by rw [List.range_zero, List.map_nil, List.append_nil], rfl⟩, ?_, ?_⟩
      · rintro j acc m1 hj ⟨rfl, rfl⟩
        refine ⟨fun _ => ⟨?_, ?_, rfl⟩, (fun z => nomatch z)⟩
        · rw [List.length_append, List.length_map, List.length_map, List.length_range]
          have hj : j < (Gs x + 1 - (Fs x + 1)).toNat := hj
          omega
        · rw [List.range_succ, List.map_append, List.append_assoc]
          rfl
      rintro acc m1 ⟨rfl, rfl⟩
      refine ⟨?_, rfl⟩
      rw [ep, List.map_append]
      unfold rgI
      rw [List.map_map]
      rfl
    rintro acc m ⟨rfl, rfl⟩
    have pl := plen ks0.length
    rw [List.take_length] at pl
    rw [show (ks0.map DV.int).length = ks0.length from List.length_map _, List.take_length]
    refine ⟨isR_one, (by decide : 1 ≤ 900), by rw [em1]; omega, fun ks asc mem le => ?_⟩
    rw [em1] at mem le
    refine ⟨by rw [List.length_map, List.length_map]; omega, ks ++ passL Fs Gs ks0, by rw [List.map_append], by rw [List.length_append]; omega, fun ys ya ym yl => ?_⟩
    have ym : ∀ z, z ∈ ys ↔ z ∈ c1.map (·.1) ∨ val b1 c1 z ∈ c2.map (·.1) := fun z => by
      rw [ym, List.mem_append, mem, passL_mem k1 hF hG, mem0]
    exact k ys ya ym (turn_lenL k1 ya fun z hz => (ym z).mp hz)
theorem ok_ruShrG {f R L fW fJ fP fI p2 g2 : Addr} {fd dW dJ dP dI d2 : FuncData} (F : Fun K "__rshift__" "Rule.__rshift__" sRuShr f fd) (ZR : RuC K mg R) (T : Blt mg) (ne : mg "enumerate" = none) (Wk : At P w K mg base 3 "check_weeks" ["one", "other"] (spD (Wr R L) fWeeks) fW dW)
    (Jo : At P w K mg base 5 "joint_changes" ["one", "other", "moments"] (spD (Wr R L) fJointC) fJ dJ) (Ps : At P w K mg base 4 "passing_moments" ["one", "other"] (spD (Wr R L) fPassG) fP dP)
    (V2 : Pp P w K mg base R "base" (spRuBase R L) p2 g2 d2)
    (MKR : Mk K R fI) (GRI : FnOk P w K mg base CX0 5 fI dI ["self", "base", "changes"] (spRuI R L K)) (bRI : Binds K dI ["self", "base", "changes"] []) : FnOk P w K mg base CX0 7 f fd ["self", "other"] (spD (Wr R L) fShrG) := by
  refine okD F scRuShr (Wr R L) fShrG (fun ds n K h => ?_) (fun p cdv A outer s H E hr => ?_)
  · obtain ⟨b1, c1, b2, c2, rfl, _⟩ := h
    rfl
  · have hr3 : Room 3 _ := hr.mono (by decide)
    have hr4 : Room 4 _ := hr.mono (by decide)
    have hr5 : Room 5 _ := hr.mono (by decide)
    have hr2 : Room 2 _ := hr.mono (by decide)
    have hr6 : Room 6 _ := hr.mono (by decide)
    refine ⟨_, _, (dss_cons (ds_expr (de_call Wk.ok (rd_spD rfl) hr3 Wk.at_ Wk.kp Wk.bi (da_cons (dv 0) (da_cons (dv 1) da_nil))))
      (dss_cons (ds_set (i := 2) scRuShr.nd rfl (.inr rfl) (de_f (df_base (dv 1) ZR.cl V2.of V2.ok hr2 V2.bi)))
      (dss_cons (ds_setLc (i := 3) (g := (gTup K 2 (gCons (gName 4) (gCons (gName 5) gNil)))) (te := tOp _ (tVar 5) (tOp (rIxL K) (tVar 2) (tOp _ _ (tCB (fun xs H Q => ∃ p ys, xs = [.ref p] ∧ (SqL K H p ys ∨ SqT K H p ys) ∧ Q (.int ys.length) H) (tCons (tVar 2) tNil))))) (own := [("rest", 4), ("offset", 5)]) rfl scRuShr.nd rfl rfl (sw_true rfl rfl rfl (by decide +kernel)) (di_enum (by rfl) ne (da_cons (de_baseF ZR (dv 0)) da_nil))
          (blkOk_by (N := ["self", "other", "follow", "base", "rest", "offset"]) (sc := defScope sRuShr) (by decide +kernel)) (fun _ _ _ _ _ => (dg_tup rfl (dgs_cons (dg_name (i := 4) scRuShr.nd rfl (.inl rfl)) (dgs_cons (dg_name (i := 5) scRuShr.nd rfl (.inl rfl)) dgs_nil)) (.cons (.cons .nil)))) (fun _ _ _ _ _ => dts_nil)
          (fun _ _ _ _ _ => (de_op op_add rd_I0 (dv 5) (de_ixL (dq (dv 2)) (de_op op_mod rd_I (de_op op_add rd_I0 (dv 4) (dv 5)) (de_bQ call_len_seq (by rfl) T.len PySem.boot_len rd_len (dq (dv 2))))))))
      (dss_one (ds_ret (let A := (da_cons (dv 3) (da_cons (de_call Jo.ok (rd_spD rfl) hr5 Jo.at_ Jo.kp Jo.bi (da_cons (dv 0) (da_cons (dv 1) (da_cons (de_call Ps.ok (rd_spD rfl) hr4 Ps.at_ Ps.kp Ps.bi (da_cons (dv 0) (da_cons (dv 1) da_nil))) da_nil)))) da_nil)); de_make MKR GRI (trE_rule A.tr) hr6 ZR.at_ bRI A.pa)))))), fun ds n K h => ?_⟩
    obtain ⟨b1, c1, b2, c2, rfl, k1, k2, hl, hc2, hc, k⟩ := h
    refine ⟨b1, c1, b2, c2, rfl, hl, ?_⟩
    have l11 := k1.l1
    have l20 := k2.l0
    refine ⟨by rw [List.length_map]; omega, fun i acc m => acc = (List.range i).map (fun (i : Nat) => DV.int (b1.getD i 0 + wkOff b2 ((i : Int) + b1.getD i 0))) ∧ m = n, ⟨rfl, rfl⟩, ?_, ?_⟩
    · rintro i acc m hi ⟨rfl, rfl⟩
      rw [List.length_map] at hi
      simp only [getD_intr hi]
      have el : (((b2.map DV.int).length : Nat) : Int) = b2.length := by rw [List.length_map]
      exact ⟨fun _ => ⟨by rw [el]; omega, .int (wkOff b2 ((i : Int) + b1.getD i 0)), by rw [el]; exact atI_wkD l20, acc_mapr rfl, rfl⟩, fun z => nomatch z⟩
    rintro acc m ⟨rfl, rfl⟩
    refine ⟨b1, c1, b2, c2, rfl, k1, by omega, hc2, by omega, fun ks asc mem le => ?_⟩
    refine ⟨b1, c1, b2, c2, ks, rfl, k1, k2, by omega, ?_⟩
    have e1 : (List.range (b1.map DV.int).length).map (fun (i : Nat) => DV.int (b1.getD i 0 + wkOff b2 ((i : Int) + b1.getD i 0))) = ((List.range b1.length).map fun (i : Nat) => b1.getD i 0 + wkOff b2 ((i : Int) + b1.getD i 0)).map DV.int := by
      rw [List.length_map, List.map_map]
      rfl
    obtain ⟨lb, ac, rise, ro, key⟩ := composedG k1 k2 hl asc mem rfl rfl
    rw [e1]
    have sub := tell_sub ((List.range b1.length).map fun (i : Nat) => b1.getD i 0 + wkOff b2 ((i : Int) + b1.getD i 0)) (ks.map fun t => (t, compOff b1 c1 b2 c2 t))
    refine ⟨_, _, rfl, by rw [lb]; exact k1.l0, by rw [lb]; omega, by rw [List.length_map]; omega, ac, rise, k _ _ ro lb key ?_ fun c hc => ?_⟩
    · have := sub.length_le
      rw [List.length_map] at this
      omega
    · obtain ⟨t, ht, e⟩ := List.mem_map.mp (sub.subset hc)
      rw [← e]
      exact (mem t).mp ht
theorem shr0_imp : ∀ ds n K, fShr0 ds n K → fShrG ds n K := fun ds n K ⟨b1, c1, b2, e, k1, k2, hl, hc, k⟩ => ⟨b1, c1, b2, [], e, k1, k2, hl, Nat.zero_le _, by rw [List.length_nil, Nat.zero_mul]; omega, fun bs cs ro lb key le _ => k bs cs ro lb key (by rw [List.length_nil, Nat.zero_mul] at le; omega)⟩
end

theorem spD_imp {W : Wo} {f g : FD} (h : ∀ ds n K, g ds n K → f ds n K) : ∀ vs H Q E, spD W g vs H Q E → spD W f vs H Q E := fun vs H Q E ⟨p, M, ds, n, K, dm, pp, r, c, q⟩ => ⟨p, M, ds, n, K, dm, pp, r, c, h _ _ _ q⟩

/-! ### where it matters which rule is first -/
def TurnP (b1 : List Int) (c1 : List (Int × Int)) (b2 : List Int) (c2 : List (Int × Int)) (t : Int) : Prop := val b2 c2 (val b1 c1 t) ≠ val b1 c1 (val b2 c2 t)
def fTurn : FD := fun ds n K => ∃ b1 c1 b2 c2, ds = [.obj (.rul b1 c1), .obj (.rul b2 c2)] ∧ RuOk b1 c1 ∧ RuOk b2 c2 ∧ b2.length = b1.length ∧ c1.length + c2.length * b1.length ≤ 500 ∧ c2.length + c1.length * b1.length ≤ 500 ∧ ∀ ow, OwOk (TurnP b1 c1 b2 c2) ow → K ow n
section
variable {P : Program} {w : World} {K : PySem.W.Frag} {mg : Str → Option Value} {base : Heap}
theorem scPartTurn : FnScope ["rule", "other"] ["rule", "other"] (defScope sPartTurn) := ⟨rfl, rfl, rfl, by decide +kernel, rfl, by decide +kernel, by decide +kernel⟩
theorem ok_turn {f R L fP fS : Addr} {fd dP dS : FuncData} (F : Fun K "parting_in_turn" "parting_in_turn" sPartTurn f fd) (Pt : At P w K mg base 5 "parting" ["rule", "other"] (spD (Wr R L) (fPartG PartP)) fP dP)
    (ZF : PySem.W.selfFirst K R = true) (oShr : Own K R "__rshift__" fS) (GShr : FnOk P w K mg base CX0 7 fS dS ["self", "other"] (spD (Wr R L) fShrG)) (bShr : Binds K dS ["self", "other"] []) : FnOk P w K mg base CX0 8 f fd ["rule", "other"] (spD (Wr R L) fTurn) := by
  refine okD F scPartTurn (Wr R L) fTurn (fun ds n K h => ?_) (fun p cdv A outer s H E hr => ?_)
  · obtain ⟨b1, c1, b2, c2, rfl, _⟩ := h
    rfl
  · have hr7 : Room 7 _ := hr.mono (by decide)
    have hr5 : Room 5 _ := hr.mono (by decide)
    refine ⟨_, _, (dss_one (ds_ret (de_call Pt.ok (rd_spD rfl) hr5 Pt.at_ Pt.kp Pt.bi (da_cons (de_op (op_binOwn oShr ZF GShr hr7 bShr) rd_bin (dv 0) (dv 1)) (da_cons (de_op (op_binOwn oShr ZF GShr hr7 bShr) rd_bin (dv 1) (dv 0)) da_nil))))), fun ds n K h => ?_⟩
    obtain ⟨b1, c1, b2, c2, rfl, r1, r2, ll, n1, n2, k⟩ := h
    have m1 : c1.length ≤ c1.length * b1.length := Nat.le_mul_of_pos_right _ r1.l0
    have m2 : c2.length ≤ c2.length * b1.length := Nat.le_mul_of_pos_right _ r1.l0
    refine ⟨rfl, rfl, b1, c1, b2, c2, rfl, r1, r2, ll.symm, by omega, by omega, fun b3 c3 r3 l3 v3 n3 _ => ⟨rfl, rfl, rfl, b2, c2, b1, c1, rfl, r2, r1, ll, by omega, by rw [ll]; omega, fun b4 c4 r4 l4 v4 n4 _ => ⟨rfl, ?_⟩⟩⟩
    rw [ll] at n4
    have pq : ∀ t, PartP b3 c3 b4 c4 t ↔ TurnP b1 c1 b2 c2 t := fun t => by
      unfold PartP TurnP
      have e3 := v3 t
      have e4 := v4 t
      unfold compOff at e3 e4
      unfold val
      omega
    refine ⟨b3, c3, b4, c4, rfl, r3, r4, by omega, by omega, fun h => k _ (.inl ⟨rfl, fun t ht => h t ((pq t).mpr ht)⟩), fun m hm => k _ (.inr ⟨m, rfl, hm.congr pq⟩)⟩
end

theorem kb_two {K : PySem.W.Frag} {f : Addr} {fd : FuncData} {x q : Str} {st : Stmt} (F : Fun K x q st f fd) (h : ∀ c d kV doc pm an cdv ct, bindArgs (PySem.W.fnOf x q (defArgs st) (defBody st) (defScope st) .none kV doc pm an cdv ct) ⟨[], [("other" : Str), ("rule" : Str)].zip [c, d]⟩ = pure ([("rule" : Str), ("other" : Str)].zip [d, c])) : KBn K fd ["rule", "other"] 0 ["other", "rule"] (gSw Value.none) (gSw V.non) := by
  obtain ⟨oc, od, kV, doc, pm, an, cdv, ct, osl, rfl, lk, hcd⟩ := F.ex
  refine ⟨fun s us ws _ l1 l2 => ?_, fun {vs us zs ws} r1 r2 => .cons (vals_getDr r2 1) (.cons (vals_getDr r2 0) .nil)⟩
  match us, l1, ws, l2 with
  | [], _, [c, d], _ => exact .of_eq (h _ _ _ _ _ _ _ _)
theorem kb_twoW {K : PySem.W.Frag} {f : Addr} {fd : FuncData} {x q : Str} {st : Stmt} (F : Fun K x q st f fd) (h : ∀ c d kV doc pm an cdv ct, bindArgs (PySem.W.fnOf x q (defArgs st) (defBody st) (defScope st) .none kV doc pm an cdv ct) ⟨[], [("whole" : Str), ("rule" : Str)].zip [c, d]⟩ = pure ([("rule" : Str), ("whole" : Str)].zip [d, c])) : KBn K fd ["rule", "whole"] 0 ["whole", "rule"] (gSw Value.none) (gSw V.non) := by
  obtain ⟨oc, od, kV, doc, pm, an, cdv, ct, osl, rfl, lk, hcd⟩ := F.ex
  refine ⟨fun s us ws _ l1 l2 => ?_, fun {vs us zs ws} r1 r2 => .cons (vals_getDr r2 1) (.cons (vals_getDr r2 0) .nil)⟩
  match us, l1, ws, l2 with
  | [], _, [c, d], _ => exact .of_eq (h _ _ _ _ _ _ _ _)

/-! ### the law's nearest spot and its spots -/
theorem take_lt {xs ys : List Int} {v w : Int} (hw : w ∈ xs) (h : ∀ y ∈ xs, ¬ ltT (nr y) (nr v)) (l : ltT (nr w) (nr v)) : False := h w hw l
section
variable {P : Program} {w : World} {K : PySem.W.Frag} {mg : Str → Option Value} {base : Heap}
theorem scNearL : FnScope ["spots", "found", "spot"] ["spots"] (defScope sNearL) := ⟨rfl, rfl, rfl, by decide +kernel, rfl, by decide +kernel, by decide +kernel⟩
theorem ok_nearL {f R L : Addr} {fd : FuncData} (F : Fun K "_law_nearest" "_law_nearest" sNearL f fd) (T : Blt mg) : FnOk P w K mg base CX0 1 f fd ["spots"] (spD (Wr R L) fNearest) := by
  refine okD F scNearL (Wr R L) fNearest (fun ds n K h => ?_) (fun p cdv A outer s H E hr => ?_)
  · obtain ⟨i, rfl, _⟩ := h
    rfl
  ·
    refine ⟨_, _, (dss_cons (ds_set (i := 1) scNearL.nd rfl (.inl rfl) de_non)
      (dss_cons (ds_for [2] PassesOwn.never rfl (di_list (dv 0)) (dg_name (i := 2) scNearL.nd rfl (.inl rfl))
        (dss_one (ds_if (DW.dt (dw_or (dt_cmp op_isN rd_IsN (dv 1) de_non) (dw_or (dt_cmp op_lt rd_B0 (de_b call_abs (by rfl) T.abs (by decide +kernel) rd_C1 (da_cons (dv 2) da_nil)) (de_b call_abs (by rfl) T.abs (by decide +kernel) rd_C1 (da_cons (dv 1) da_nil))) (dw_or1 (DW.dt (dw_and (dt_cmp op_eq rd_Eq (de_b call_abs (by rfl) T.abs (by decide +kernel) rd_C1 (da_cons (dv 2) da_nil)) (de_b call_abs (by rfl) T.abs (by decide +kernel) rd_C1 (da_cons (dv 1) da_nil))) (dw_and1 (dt_cmp op_gt rd_B0 (dv 2) (dv 1)))))))))
          (dss_one (ds_set (i := 1) scNearL.nd rfl (.inl rfl) (dv 2)))
          dss_nil)))
      (dss_one (ds_ret (dv 1))))), fun ds n K h => ?_⟩
    obtain ⟨xs, rfl, k1, k2⟩ := h
    refine ⟨fun i δ m => ∃ (fo : DV) (y2 : Option SV), δ = [some (.dat (dInt xs)), some (.dat fo), y2] ∧ m = n ∧ ((i = 0 ∧ fo = .non) ∨ (0 < i ∧ ∃ v : Int, fo = .int v ∧ v ∈ xs.take i ∧ ∀ y ∈ xs.take i, ¬ ltT (nr y) (nr v))), ⟨_, _, rfl, rfl, .inl ⟨rfl, rfl⟩⟩, ?_, ?_⟩
    · rintro i δ m hi ⟨fo, y2, rfl, rfl, hf⟩
      have hi : i < xs.length := by simpa using hi
      simp only [getD_intr hi]
      have et : xs.take (i + 1) = xs.take i ++ [xs.getD i 0] := by
        rw [List.take_add_one, List.getElem?_eq_getElem hi, List.getD_eq_getElem?_getD, List.getElem?_eq_getElem hi]
        rfl
      rcases hf with ⟨rfl, rfl⟩ | ⟨i0, v, rfl, hv, hl⟩
      · refine ⟨rfl, fun _ => ⟨fun _ => ?_, (fun z => nomatch z)⟩, (fun z => nomatch z)⟩
        refine ⟨_, _, rfl, rfl, .inr ⟨by omega, _, rfl, ?_, fun y hy => ?_⟩⟩
        · rw [et]
          exact List.mem_append_right _ (List.mem_singleton.mpr rfl)
        · rw [et, List.take_zero, List.nil_append] at hy
          rw [List.mem_singleton.mp hy]
          unfold ltT
          omega
      · have yes : ltT (nr (xs.getD i 0)) (nr v) → ∀ y ∈ xs.take (i + 1), ¬ ltT (nr y) (nr (xs.getD i 0)) := fun h y hy => by
          rw [et] at hy
          rcases List.mem_append.mp hy with hy | hy
          · have := hl y hy
            unfold ltT at *
            omega
          · rw [List.mem_singleton.mp hy]
            unfold ltT
            omega
        have no : ¬ ltT (nr (xs.getD i 0)) (nr v) → ∀ y ∈ xs.take (i + 1), ¬ ltT (nr y) (nr v) := fun h y hy => by
          rw [et] at hy
          rcases List.mem_append.mp hy with hy | hy
          · exact hl y hy
          · rw [List.mem_singleton.mp hy]
            exact h
        have hw : xs.getD i 0 ∈ xs.take (i + 1) := by
          rw [et]
          exact List.mem_append_right _ (List.mem_singleton.mpr rfl)
        have hv2 : v ∈ xs.take (i + 1) := by
          rw [et]
          exact List.mem_append_left _ hv
        generalize xs.getD i 0 = x at yes no hw ⊢
        have yes2 := fun h => yes h
        have new : ltT (nr x) (nr v) → ∃ (fo : DV) (y2 : Option SV), ([some (.dat (dInt xs)), some (.dat (.int x)), some (.dat (.int x))] : En) = [some (.dat (dInt xs)), some (.dat fo), y2] ∧ m = m ∧ ((i + 1 = 0 ∧ fo = .non) ∨ (0 < i + 1 ∧ ∃ v : Int, fo = .int v ∧ v ∈ xs.take (i + 1) ∧ ∀ y ∈ xs.take (i + 1), ¬ ltT (nr y) (nr v))) := fun h => ⟨_, _, rfl, rfl, .inr ⟨by omega, _, rfl, hw, yes h⟩⟩
        have old : ¬ ltT (nr x) (nr v) → ∃ (fo : DV) (y2 : Option SV), ([some (.dat (dInt xs)), some (.dat (.int v)), some (.dat (.int x))] : En) = [some (.dat (dInt xs)), some (.dat fo), y2] ∧ m = m ∧ ((i + 1 = 0 ∧ fo = .non) ∨ (0 < i + 1 ∧ ∃ v : Int, fo = .int v ∧ v ∈ xs.take (i + 1) ∧ ∀ y ∈ xs.take (i + 1), ¬ ltT (nr y) (nr v))) := fun h => ⟨_, _, rfl, rfl, .inr ⟨by omega, _, rfl, hv2, no h⟩⟩
        refine ⟨rfl, (fun z => nomatch z), fun _ => ?_⟩
        refine ⟨fun g => ⟨fun _ => new ?_, (fun z => nomatch z)⟩, fun g => ⟨rfl, fun g2 => ⟨fun g3 => new ?_, fun g3 => old ?_⟩, fun g2 => ⟨(fun z => nomatch z), fun _ => old ?_⟩⟩⟩
        · exact .inl (of_decide_eq_true g)
        · have h1 : ¬ (if x < 0 then -x else x) < (if v < 0 then -v else v) := of_decide_eq_false g
          have h2 : (if x < 0 then -x else x) = (if v < 0 then -v else v) := V.int.inj (of_decide_eq_true g2)
          have h3 : x > v := of_decide_eq_true g3
          exact .inr ⟨h2, by show -x < -v; omega⟩
        · have h1 : ¬ (if x < 0 then -x else x) < (if v < 0 then -v else v) := of_decide_eq_false g
          have h3 : ¬ x > v := of_decide_eq_false g3
          rintro (h | ⟨_, h⟩)
          · exact h1 h
          · have h : -x < -v := h
            omega
        · have h1 : ¬ (if x < 0 then -x else x) < (if v < 0 then -v else v) := of_decide_eq_false g
          have h2 := of_decide_eq_false g2
          rintro (h | ⟨h, _⟩)
          · exact h1 h
          · exact h2 (congrArg V.int h)
    · rintro δ m ⟨fo, y2, rfl, rfl, hf⟩
      rw [List.length_map, List.take_length] at hf
      rcases hf with ⟨h0, rfl⟩ | ⟨i0, v, rfl, hv, hl⟩
      · exact k1 (List.length_eq_zero_iff.mp h0)
      · exact k2 v hv hl
end

/-! ### repr of None, an int, or data -/
def rRepA (K : PySem.W.Frag) : List V → Hp → VK → Prop := fun xs H Q => (xs = [.non] ∧ Q (.str "None") H) ∨ (∃ i : Int, xs = [.int i] ∧ i.natAbs.log2 < 1920 ∧ Q (.str (toString i)) H) ∨ rRep2 K xs H Q
theorem call_repA {X : Cx} (hgd : X.A.guards = some []) (hu : X.A.units + 64 < cLine) : CallR X (.builtin "repr") (rRepA X.K) := by
  intro pins s σ H xs us Q I r h
  rcases h with ⟨rfl, q⟩ | ⟨i, rfl, hz, q⟩ | h
  · obtain ⟨u, rfl, ru⟩ := vals1 r
    obtain rfl : u = Value.none := ru
    exact PySem.P.repr_of_none ⟨.str _, H, I.tok _, ⟨_, rfl⟩, q⟩
  · exact SkE.call_repr_int pins s σ H _ us Q I r ⟨i, rfl, hz, q⟩
  · exact call_rep2 hgd hu pins s σ H _ us Q I r h

/-! ### repr of None or an int, without a heap -/
def ReprA (a : DV) (s : Str) : Prop := (a = .non ∧ s = ("None" : Str)) ∨ ∃ i : Int, a = .int i ∧ i.natAbs.log2 < 1920 ∧ s = Str.ofString (toString i)
def fReprA : List DV → (DV → Prop) → Prop := fun ds K => ∃ a s, ds = [a] ∧ ReprA a s ∧ K (.str s)
theorem rd_reprA {W : Wo} {K0 : PySem.W.Frag} : RdC W (rRepA K0) fReprA := fun M H vs ds Q K _ ra c h => by
  obtain ⟨a, s, rfl, hs, h⟩ := h
  obtain ⟨v, rfl, r⟩ := ra.one_inv
  rcases hs with ⟨rfl, rfl⟩ | ⟨i, rfl, hi, rfl⟩
  · have e : v = .non := by cases r; rfl
    exact .inl ⟨by rw [e], c _ _ _ (fun _ _ e => e) (.str _) h⟩
  · exact .inr (.inl ⟨i, by rw [r.int_inv], hi, c _ _ _ (fun _ _ e => e) (.str _) h⟩)
theorem log2_small {i : Int} (h0 : -(10 ^ 35) ≤ i) (h1 : i ≤ 10 ^ 35) : i.natAbs.log2 < 1920 := by
  have h2 : i.natAbs < 2 ^ 128 := by
    have : (10 : Nat) ^ 35 < 2 ^ 128 := by decide
    omega
  by_cases e : i.natAbs = 0
  · rw [e]
    decide
  · exact Nat.lt_trans ((Nat.log2_lt e).mpr h2) (by decide)

/-! ### repr of a list of great ints -/
theorem leafI {i : Int} (h0 : -10 ^ 100 < i) (h1 : i < 10 ^ 100) : (PyData.int i).leavesShort 102 = true ∧ (PyData.int i).showable = true := by
  have h : i.natAbs < 10 ^ 100 := by omega
  refine ⟨?_, ?_⟩
  · refine decide_eq_true ?_
    have e := int_text_length_le10 (k := 100) (by decide) h
    show (Str.ofString (toString i)).length ≤ 102
    rw [PySem.ofString_length]
    omega
  · refine decide_eq_true ?_
    by_cases z : i.natAbs = 0
    · rw [z]
      decide
    · have : i.natAbs < 2 ^ 1920 := Nat.lt_trans h (by decide)
      exact (Nat.log2_lt z).mpr this
theorem leafsI : ∀ {xs : List Int}, (∀ v ∈ xs, -10 ^ 100 < v ∧ v < 10 ^ 100) → PyData.leavesShortAll 102 (xs.map PyData.int) = true ∧ PyData.showableAll (xs.map PyData.int) = true ∧ PyData.hasDictAll (xs.map PyData.int) = false ∧ PyData.depthAll (xs.map PyData.int) ≤ 0 ∧ PyData.bulkAll (xs.map PyData.int) ≤ xs.length
  | [], _ => ⟨rfl, rfl, rfl, Nat.le_refl _, Nat.le_refl _⟩
  | x :: xs, h => by
    have a := leafI (h x List.mem_cons_self).1 (h x List.mem_cons_self).2
    obtain ⟨b1, b2, b3, b4, b5⟩ := leafsI (xs := xs) fun v hv => h v (List.mem_cons_of_mem _ hv)
    rw [List.map_cons]
    refine ⟨by simp only [PyData.leavesShortAll, a.1, b1, Bool.and_self], by simp only [PyData.showableAll, a.2, b2, Bool.and_self], by simp only [PyData.hasDictAll, b3]; rfl, ?_, ?_⟩
    · simp only [PyData.depthAll]
      have : (PyData.int x).depth = 0 := rfl
      omega
    · simp only [PyData.bulkAll]
      have : (PyData.int x).bulk = 0 := rfl
      rw [List.length_cons]
      omega
theorem reprI_ok {xs : List Int} (h : ∀ v ∈ xs, -10 ^ 100 < v ∧ v < 10 ^ 100) (l : xs.length ≤ 1000) : (dInts xs).showable = true ∧ (dInts xs).hasDict = false ∧ (dInts xs).depth ≤ 60 ∧ (dInts xs).shown.length ≤ sizeLine := by
  obtain ⟨b1, b2, b3, b4, b5⟩ := leafsI h
  have lv : (dInts xs).leavesShort 102 = true := by
    show (PyData.list (xs.map PyData.int)).leavesShort 102 = true
    simp only [PyData.leavesShort, b1]
  have bk : (dInts xs).bulk ≤ xs.length := by
    show (PyData.list (xs.map PyData.int)).bulk ≤ _
    simp only [PyData.bulk]
    exact b5
  refine ⟨by show (PyData.list (xs.map PyData.int)).showable = true; simp only [PyData.showable, b2], by show (PyData.list (xs.map PyData.int)).hasDict = false; simp only [PyData.hasDict, b3], ?_, ?_⟩
  · show (PyData.list (xs.map PyData.int)).depth ≤ 60
    simp only [PyData.depth]
    omega
  · have e := PyData.shown_le_bulk 102 (by decide) (dInts xs) lv
    rw [sizeLine_eq]
    omega
def rReprI (K : PySem.W.Frag) : List V → Hp → VK → Prop := fun xs H Q => ∃ (a : Addr) (d : PyData), xs = [.ref a] ∧ Dp K H (.ref a) d ∧ d.showable = true ∧ d.hasDict = false ∧ d.depth ≤ 60 ∧ d.shown.length ≤ sizeLine ∧ Q (.str d.shown) H
theorem call_reprI {X : Cx} (hgd : X.A.guards = some []) (hu : X.A.units + 64 < cLine) : CallR X (.builtin "repr") (rReprI X.K) := by
  intro pins s σ H xs us Q I r h
  obtain ⟨a, d, e, hd, h1, h2, h3, h4, q⟩ := h
  exact call_repr hgd hu pins s σ H xs us Q I r ⟨a, d, e, hd, h1, h2, h3, h4, q⟩
def fReprI : List DV → (DV → Prop) → Prop := fun ds K => ∃ xs : List Int, ds = [.lst (xs.map DV.int)] ∧ xs.length ≤ 1000 ∧ (∀ v ∈ xs, -10 ^ 100 < v ∧ v < 10 ^ 100) ∧ K (.str (dInts xs).shown)
theorem rd_reprI {W : Wo} {K0 : PySem.W.Frag} : RdC W (rReprI K0) fReprI := fun M H vs ds Q K _ ra c h => by
  obtain ⟨xs, rfl, l, hb, h⟩ := h
  obtain ⟨v, rfl, r⟩ := ra.one_inv
  obtain ⟨q, us, rfl, _⟩ := r.lst_inv
  obtain ⟨h1, h2, h3, h4⟩ := reprI_ok hb l
  have dp : Dp K0 H (.ref q) (dInts xs) := by
    have := r.dp (K := K0) (pu_ints xs)
    rwa [show (DV.lst (xs.map DV.int)).py = dInts xs from py_ints xs] at this
  exact ⟨q, _, rfl, dp, h1, h2, h3, h4, c _ _ _ (fun _ _ e => e) (.str _) h⟩

theorem rgI_none {a b : Int} (h : b ≤ a) : rgI a b = [] := by
  unfold rgI
  rw [show (b - a).toNat = 0 by omega]
  rfl
theorem rgI_snoc {a b : Int} (h : a ≤ b) : rgI a (b + 1) = rgI a b ++ [b] := by
  unfold rgI
  rw [show (b + 1 - a).toNat = (b - a).toNat + 1 by omega, List.range_succ, List.map_append]
  show _ ++ [a + (((b - a).toNat : Nat) : Int)] = _
  rw [show a + (((b - a).toNat : Nat) : Int) = b by omega]

def fListL : FD := fun ds n K => ∃ bs cs rest lo hi, ds = [.tup (dInt bs :: dPrs cs :: rest), .int lo, .int hi] ∧ 0 < bs.length ∧ bs.length ≤ 12 ∧ (cs.Pairwise fun a b => a.1 < b.1) ∧ lo ≤ hi ∧ hi - lo ≤ 50000 ∧ (-(2 ^ 61) ≤ lo ∧ lo ≤ 2 ^ 61) ∧ K (dInt ((rgI lo hi).map (val bs cs))) n

/-! ### the law's own list of values -/
def nowAt (bs : List Int) (cs : List (Int × Int)) (s : Int) (r : Nat) : Int := lawOff bs cs (s - (bs.length : Nat) + ((r : Int) - s) % (bs.length : Nat))
theorem now_same {bs : List Int} {cs : List (Int × Int)} {s : Int} {r : Nat} (l0 : 0 < bs.length) (rl : r < bs.length) (h : ¬ (r : Int) = s % (bs.length : Nat)) : nowAt bs cs (s + 1) r = nowAt bs cs s r := by
  unfold nowAt
  have w0 : (0 : Int) < (bs.length : Nat) := by omega
  have rl2 : (r : Int) < (bs.length : Nat) := by omega
  generalize ((bs.length : Nat) : Int) = w at *
  have a0 := Int.emod_nonneg ((r : Int) - s) (show w ≠ 0 by omega)
  have a1 := Int.emod_lt_of_pos ((r : Int) - s) w0
  have ne : ((r : Int) - s) % w ≠ 0 := fun z => h (by
    have := Int.emod_eq_emod_iff_emod_sub_eq_zero.mpr z
    rw [← this]
    exact (Int.emod_eq_of_lt (by omega) (by omega)).symm)
  have e : ((r : Int) - (s + 1)) % w = ((r : Int) - s) % w - 1 := by
    rw [show (r : Int) - (s + 1) = ((r : Int) - s) - 1 by omega, Int.sub_emod]
    have h1 : (1 : Int) % w = 1 ∨ w = 1 := by
      by_cases c : w = 1
      · exact .inr c
      · exact .inl (Int.emod_eq_of_lt (by omega) (by omega))
    rcases h1 with h1 | h1
    · rw [h1]
      exact Int.emod_eq_of_lt (by omega) (by omega)
    · omega
  rw [e]
  congr 1
  omega
theorem now_here {bs : List Int} {cs : List (Int × Int)} {s : Int} {r : Nat} (l0 : 0 < bs.length) (h : (r : Int) = s % (bs.length : Nat)) : nowAt bs cs s r = lawOff bs cs (s - (bs.length : Nat)) ∧ nowAt bs cs (s + 1) r = lawOff bs cs s := by
  unfold nowAt
  have w0 : (0 : Int) < (bs.length : Nat) := by omega
  generalize ((bs.length : Nat) : Int) = w at *
  have z : ((r : Int) - s) % w = 0 := by
    rw [h]
    exact Int.emod_eq_emod_iff_emod_sub_eq_zero.mp (Int.emod_emod_of_dvd s ⟨1, by omega⟩)
  refine ⟨by rw [z, Int.add_zero], ?_⟩
  have e : ((r : Int) - (s + 1)) % w = w - 1 := by
    rw [show (r : Int) - (s + 1) = ((r : Int) - s) + (w - 1) + w * (-1) by omega, Int.add_mul_emod_self_left, Int.add_emod, z, Int.zero_add, Int.emod_emod_of_dvd _ ⟨1, by omega⟩]
    exact Int.emod_eq_of_lt (by omega) (by omega)
  rw [e]
  congr 1
  omega
theorem lookZ_not {cs : List (Int × Int)} {i : Int} (h : lookZ cs i = none) : i ∉ cs.map (·.1) := fun z => by
  obtain ⟨c, hc, e⟩ := List.mem_map.mp z
  unfold lookZ at h
  have h2 := List.find?_eq_none.mp (Option.map_eq_none_iff.mp h) c hc
  exact h2 (decide_eq_true e)
section
variable {P : Program} {w : World} {K : PySem.W.Frag} {mg : Str → Option Value} {base : Heap}
theorem scListL : FnScope ["table", "low", "high", "size", "told", "found", "rest", "now", "spot"] ["table", "low", "high"] (defScope sListL) := ⟨rfl, rfl, rfl, by decide +kernel, rfl, by decide +kernel, by decide +kernel⟩
theorem ok_listL {f fO R L : Addr} {fd dO : FuncData} (F : Fun K "_law_list" "_law_list" sListL f fd) (T : Blt mg) (nd : mg "dict" = none) (Of : At P w K mg base 1 "_law_offset" ["table", "spot"] (spD (Wr R L) fOffB) fO dO) : FnOk P w K mg base CX0 2 f fd ["table", "low", "high"] (spD (Wr R L) fListL) := by
  refine okD F scListL (Wr R L) fListL (fun ds n K h => ?_) (fun p cdv A outer s H E hr => ?_)
  · obtain ⟨bs, cs, rest, lo, hi, rfl, _⟩ := h
    rfl
  · have hu := hr.units
    have hr1 : Room 1 _ := hr.mono (by decide)
    refine ⟨_, _, (dss_cons (ds_asg3O (vs := [3, 4, 5]) (i := 3) (j := 4) (l := 5) (de_bQ call_len_seq (by rfl) T.len PySem.boot_len rd_len (dq (de_ixT (dv 0) de_int))) (de_dict rfl nd (de_ixT (dv 0) de_int)) (df_lst da_nil) (dg_tup rfl (dgs_cons (dg_name (i := 3) scListL.nd rfl (.inr rfl)) (dgs_cons (dg_name (i := 4) scListL.nd rfl (.inl rfl)) (dgs_cons (dg_name (i := 5) scListL.nd rfl (.inl rfl)) dgs_nil))) (.cons (.cons (.cons .nil)))))
      (dss_cons (ds_setLcO (i := 7) (own := [("rest", 6)]) rfl scListL.nd rfl rfl (sw_true rfl rfl rfl (by decide +kernel)) (di_range1 (by rfl) T.range (da_cons (dv 3) da_nil))
          (blkOk_by (N := ["table", "low", "high", "size", "told", "found", "rest", "now", "spot"]) (sc := defScope sListL) (by decide +kernel)) (fun _ _ _ _ _ => (dg_name (i := 6) scListL.nd rfl (.inl rfl))) (fun _ _ _ _ _ => dts_nil)
          (fun _ _ _ _ _ => (de_call Of.ok (rd_spD rfl) hr1 Of.at_ Of.kp Of.bi (da_cons (dv 0) (da_cons (de_op op_add rd_I0 (de_op op_sub rd_I0 (dv 1) (dv 3)) (de_op op_mod rd_I (de_t call_int1 (by rfl) T.int (by decide +kernel) rd_int (da_cons (de_op op_sub rd_I0 (dv 6) (dv 1)) da_nil)) (dv 3))) da_nil)))))
      (dss_cons (ds_for [8] PassesOwn.never rfl (di_range2 (by rfl) T.range (da_cons (dv 1) (da_cons (dv 2) da_nil))) (dg_name (i := 8) scListL.nd rfl (.inl rfl))
        (dss_cut (ds_set (i := 6) scListL.nd rfl (.inl rfl) (de_op op_mod rd_I (de_t call_int1 (by rfl) T.int (by decide +kernel) rd_int (da_cons (dv 8) da_nil)) (dv 3)))
        (dss_cut (ds_sto 7 (he := (de_get2 (Nat.lt_of_le_of_lt (Nat.add_le_add_left (by decide : 1 ≤ 64) _) hu) (dv 4) (dv 8) (de_ixL (do_ 7) (dv 6)) ⟨rfl, rfl, rfl, rfl⟩)) (hk := (dv 6)))
        (dss_one (ds_app 5 (he := (de_op op_add rd_I0 (dv 8) (de_ixL (do_ 7) (dv 6)))))))))
      (dss_frz 5 (dss_one (ds_ret (dv 5))))))), fun ds n K h => ?_⟩
    obtain ⟨bs, cs, rest, lo, hi, rfl, l0, l1, asc, lh, hh, hl, k⟩ := h
    refine ⟨dInt bs, atI_nat (j := 0) rfl, dPrs cs, atI_nat (j := 1) rfl, cs, rfl, asc, ?_⟩
    have el : (((bs.map DV.int).length : Nat) : Int) = (bs.length : Nat) := by rw [List.length_map]
    have w0 : (0 : Int) < (bs.length : Nat) := by omega
    rw [el]
    refine ⟨Nat.zero_le _, by omega, by omega, by omega, fun i acc m => acc = (List.range i).map (fun r => DV.int (nowAt bs cs lo r)) ∧ m = n, ⟨rfl, rfl⟩, ?_, ?_⟩
    · rintro i acc m hi' ⟨rfl, rfl⟩
      refine ⟨fun _ => ⟨w0, bs, cs, rest, _, rfl, l0, ?_, rfl⟩, (fun z => nomatch z)⟩
      rw [List.range_succ, List.map_append]
      show _ ++ [DV.int (lawOff bs cs (lo - (bs.length : Nat) + (0 + (i : Int) - lo) % (bs.length : Nat)))] = _
      rw [Int.zero_add]
      rfl
    rintro acc m ⟨rfl, rfl⟩
    rw [show (((bs.length : Nat) : Int)).toNat = bs.length from Int.toNat_natCast _]
    refine ⟨⟨by omega, by omega, by omega, by omega⟩, fun i δ m' => ∃ y6 y8, δ = [some (.dat (.tup (dInt bs :: dPrs cs :: rest))), some (.dat (.int lo)), some (.dat (.int hi)), some (.dat (.int (bs.length : Nat))), some (.dat (.obj (.dic cs))), some (.own (((rgI lo (lo + (i : Int))).map (val bs cs)).map DV.int)), y6, some (.own ((List.range bs.length).map fun r => DV.int (nowAt bs cs (lo + (i : Int)) r))), y8] ∧ m' = m, ⟨none, none, ?_, rfl⟩, ?_, ?_⟩
    · rw [show lo + ((0 : Nat) : Int) = lo by omega, rgI_none (Int.le_refl _)]
      rfl
    · rintro i δ m' hi' ⟨y6, y8, rfl, rfl⟩
      have z0 := Int.emod_nonneg (lo + (i : Int)) (show ((bs.length : Nat) : Int) ≠ 0 by omega)
      have z1 := Int.emod_lt_of_pos (lo + (i : Int)) w0
      obtain ⟨r, hr⟩ : ∃ r : Nat, (r : Int) = (lo + (i : Int)) % (bs.length : Nat) := ⟨((lo + (i : Int)) % (bs.length : Nat)).toNat, by omega⟩
      have rl : r < bs.length := by omega
      refine ⟨fun δ m2 => δ = [some (.dat (.tup (dInt bs :: dPrs cs :: rest))), some (.dat (.int lo)), some (.dat (.int hi)), some (.dat (.int (bs.length : Nat))), some (.dat (.obj (.dic cs))), some (.own (((rgI lo (lo + (i : Int))).map (val bs cs)).map DV.int)), some (.dat (.int (r : Nat))), some (.own ((List.range bs.length).map fun r => DV.int (nowAt bs cs (lo + (i : Int)) r))), some (.dat (.int (lo + (i : Int))))] ∧ m2 = m', ?_, ?_⟩
      · refine ⟨w0, ?_, rfl⟩
        rw [hr]
        rfl
      rintro δ m2 ⟨rfl, rfl⟩
      have nl : ((List.range bs.length).map fun r => DV.int (nowAt bs cs (lo + (i : Int)) r)).length = bs.length := by rw [List.length_map, List.length_range]
      have hat : atI ((List.range bs.length).map fun r => DV.int (nowAt bs cs (lo + (i : Int)) r)) (r : Int) = some (.int (nowAt bs cs (lo + (i : Int)) r)) := atI_nat (j := r) (by rw [List.getElem?_map, List.getElem?_range rl]; rfl)
      have nh := now_here (bs := bs) (cs := cs) l0 hr
      have upd : ((List.range bs.length).map fun r => DV.int (nowAt bs cs (lo + (i : Int)) r)).set r (.int (lawOff bs cs (lo + (i : Int)))) = (List.range bs.length).map fun r => DV.int (nowAt bs cs (lo + ((i + 1 : Nat) : Int)) r) := by
        refine List.ext_getElem? fun j => ?_
        rw [List.getElem?_set]
        by_cases c : r = j
        · subst c
          rw [if_pos rfl, if_pos (by rw [nl]; exact rl), List.getElem?_map, List.getElem?_range rl, show lo + ((i + 1 : Nat) : Int) = lo + (i : Int) + 1 by omega]
          show _ = some (DV.int (nowAt bs cs (lo + (i : Int) + 1) r))
          rw [nh.2]
        · rw [if_neg c, List.getElem?_map, List.getElem?_map]
          by_cases hj : j < bs.length
          · rw [List.getElem?_range hj]
            show some (DV.int (nowAt bs cs (lo + (i : Int)) j)) = some (DV.int (nowAt bs cs (lo + ((i + 1 : Nat) : Int)) j))
            rw [show lo + ((i + 1 : Nat) : Int) = lo + (i : Int) + 1 by omega, now_same l0 hj (fun z => c (by omega))]
          · rw [List.getElem?_eq_none (by rw [List.length_range]; omega)]
            rfl
      have hat2 : atI ((List.range bs.length).map fun r => DV.int (nowAt bs cs (lo + ((i + 1 : Nat) : Int)) r)) (r : Int) = some (.int (lawOff bs cs (lo + (i : Int)))) := by
        rw [← upd]
        exact atI_nat (j := r) (by rw [List.getElem?_set, if_pos rfl, if_pos (by rw [nl]; exact rl)])
      have er : rgI lo (lo + ((i + 1 : Nat) : Int)) = rgI lo (lo + (i : Int)) ++ [lo + (i : Int)] := by
        rw [show lo + ((i + 1 : Nat) : Int) = lo + (i : Int) + 1 by omega]
        exact rgI_snoc (by omega)
      have last : ∀ x, x = DV.int (lawOff bs cs (lo + (i : Int))) → ∃ q, ixN ((List.range bs.length).map fun r => DV.int (nowAt bs cs (lo + (i : Int)) r)).length (r : Int) = some q ∧ q = r ∧ ((List.range bs.length).map fun r => DV.int (nowAt bs cs (lo + (i : Int)) r)).set q x = (List.range bs.length).map fun r => DV.int (nowAt bs cs (lo + ((i + 1 : Nat) : Int)) r) := fun x hx => by
        subst hx
        exact ⟨r, by rw [nl]; exact ixN_at rl, rfl, upd⟩
      refine ⟨fun δ m3 => δ = [some (.dat (.tup (dInt bs :: dPrs cs :: rest))), some (.dat (.int lo)), some (.dat (.int hi)), some (.dat (.int (bs.length : Nat))), some (.dat (.obj (.dic cs))), some (.own (((rgI lo (lo + (i : Int))).map (val bs cs)).map DV.int)), some (.dat (.int (r : Nat))), some (.own ((List.range bs.length).map fun r => DV.int (nowAt bs cs (lo + ((i + 1 : Nat) : Int)) r))), some (.dat (.int (lo + (i : Int))))] ∧ m3 = m2, ?_, ?_⟩
      · refine ⟨cs, rfl, .int (nowAt bs cs (lo + (i : Int)) r), hat, lo + (i : Int), rfl, fun hn => ?_, fun v hv => ?_⟩
        · have e1 : nowAt bs cs (lo + (i : Int)) r = lawOff bs cs (lo + (i : Int)) := by
            rw [nh.1]
            exact (lawOff_prev l0 (lookZ_not hn)).symm
          obtain ⟨q, q1, rfl, q3⟩ := last (.int (nowAt bs cs (lo + (i : Int)) r)) (by rw [e1])
          exact ⟨q, q1, by rw [← q3]; rfl, rfl⟩
        · have e1 : v = lawOff bs cs (lo + (i : Int)) := (lawOff_at asc (lookZ_some hv)).symm
          obtain ⟨q, q1, rfl, q3⟩ := last (.int v) (by rw [e1])
          exact ⟨q, q1, by rw [← q3]; rfl, rfl⟩
      rintro δ m3 ⟨rfl, rfl⟩
      refine ⟨_, hat2, ?_, some (.dat (.int (r : Nat))), some (.dat (.int (lo + (i : Int)))), ?_, rfl⟩
      · rw [List.length_map, List.length_map, rgI_len]
        omega
      · rw [er, List.map_append, List.map_append]
        rfl
    · rintro δ m' ⟨y6, y8, rfl, rfl⟩
      rw [show lo + (((hi - lo).toNat : Nat) : Int) = hi by omega]
      exact k
end

/-! ### k43: tables moved; a rule and a great delay -/
def mvR (far : Int) (cs : List (Int × Int)) : List (Int × Int) := cs.map fun c => (c.1 + far, c.2)
theorem mvR_len (far : Int) (cs : List (Int × Int)) : (mvR far cs).length = cs.length := List.length_map _
theorem mvR_off {bs : List Int} {cs : List (Int × Int)} {far : Int} (l0 : 0 < bs.length) (h : far % (bs.length : Int) = 0) (t : Int) : lawOff bs (mvR far cs) t = lawOff bs cs (t - far) := by
  have := lawOff_moved (up := 0) (cs := cs) l0 h t
  have e1 : bs.map (fun x => x + (0 : Int)) = bs := by simp
  have e2 : (cs.map fun c => (c.1 + far, c.2 + (0 : Int))) = mvR far cs := by
    unfold mvR
    simp
  rw [e1, e2, Int.add_zero] at this
  exact this
theorem mvR_up {bs : List Int} {cs : List (Int × Int)} {far : Int} (l0 : 0 < bs.length) (h : far % (bs.length : Int) = 0) (u : Up bs cs) : Up bs (mvR far cs) := fun t => by
  have := u (t - far)
  unfold val at this ⊢
  rw [mvR_off l0 h, mvR_off l0 h, show t + 1 - far = t - far + 1 by omega]
  omega
theorem mvR_asc {cs : List (Int × Int)} (far : Int) (a : cs.Pairwise fun a b => a.1 < b.1) : (mvR far cs).Pairwise fun a b => a.1 < b.1 := List.pairwise_map.mpr (a.imp fun h => by show _ + far < _ + far; omega)
def fMoved : FD := fun ds n K => ∃ bs cs rest far, ds = [.tup (dInt bs :: dPrs cs :: rest), .int far] ∧ cs.length ≤ 1000 ∧ K (.tup [dInt bs, dPrs (mvR far cs)]) n
/-- a table and its rule -/
structure TabL (bs : List Int) (cs TT : List (Int × Int)) : Prop where
  l0 : 0 < bs.length
  l1 : bs.length ≤ 12
  many : cs.length ≤ 24
  asc : cs.Pairwise fun a b => a.1 < b.1
  up : Up bs cs
  ro : RuOk bs TT
  tt : TT = (tell bs cs).2
  tv : ∀ t, lawOff bs TT t = lawOff bs cs t
  tl : TT.length ≤ 24
  bb : ∀ v ∈ bs, -(10 ^ 34) ≤ v ∧ v ≤ 10 ^ 34
  cb : ∀ c ∈ cs, (-(10 ^ 34) ≤ c.1 ∧ c.1 ≤ 10 ^ 34) ∧ -(10 ^ 34) ≤ c.2 ∧ c.2 ≤ 10 ^ 34
theorem tabL_of {bs : List Int} {cs : List (Int × Int)} (l0 : 0 < bs.length) (l1 : bs.length ≤ 12) (many : cs.length ≤ 24) (asc : cs.Pairwise fun a b => a.1 < b.1) (up : Up bs cs) (bb : ∀ v ∈ bs, -(10 ^ 34) ≤ v ∧ v ≤ 10 ^ 34) (cb : ∀ c ∈ cs, (-(10 ^ 34) ≤ c.1 ∧ c.1 ≤ 10 ^ 34) ∧ -(10 ^ 34) ≤ c.2 ∧ c.2 ≤ 10 ^ 34) : TabL bs cs (tell bs cs).2 := by
  have ts := (tell_sub bs cs).length_le
  exact ⟨l0, l1, many, asc, up, ruOk_of l0 l1 asc (up.rises l0 asc), rfl, tell_law l0 cs asc, by omega, bb, cb⟩
theorem tabL_moved {bs : List Int} {cs TT : List (Int × Int)} {far : Int} (t : TabL bs cs TT) (h : far % (bs.length : Int) = 0) (fb : -(10 ^ 32) ≤ far ∧ far ≤ 10 ^ 32) (cb : ∀ c ∈ cs, (-(10 ^ 33) ≤ c.1 ∧ c.1 ≤ 10 ^ 33)) : TabL bs (mvR far cs) (tell bs (mvR far cs)).2 :=
  tabL_of t.l0 t.l1 (by rw [mvR_len]; exact t.many) (mvR_asc far t.asc) (mvR_up t.l0 h t.up) t.bb fun c hc => by
    obtain ⟨d, hd, rfl⟩ := List.mem_map.mp hc
    have := cb d hd
    have := t.cb d hd
    show (-(10 ^ 34) ≤ d.1 + far ∧ d.1 + far ≤ 10 ^ 34) ∧ -(10 ^ 34) ≤ d.2 ∧ d.2 ≤ 10 ^ 34
    omega
theorem TurnP.symm {b1 b2 : List Int} {c1 c2 : List (Int × Int)} (t : Int) : TurnP b2 c2 b1 c1 t ↔ TurnP b1 c1 b2 c2 t := ⟨fun h e => h e.symm, fun h e => h e.symm⟩
def DelP (bs : List Int) (cs : List (Int × Int)) (by_ t : Int) : Prop := lawOff bs cs t ≠ lawOff bs cs (t + by_)
instance {bs : List Int} {cs : List (Int × Int)} {by_ : Int} : DecidablePred (DelP bs cs by_) := fun t => inferInstanceAs (Decidable (_ ≠ _))
def delCuts (cs : List (Int × Int)) (by_ : Int) : List Int := cs.map (·.1) ++ cs.map fun c => c.1 - by_
theorem del_step {bs : List Int} {cs : List (Int × Int)} {by_ : Int} (l0 : 0 < bs.length) (t : Int) (h : t ∉ delCuts cs by_) : DelP bs cs by_ (t - (bs.length : Nat)) ↔ DelP bs cs by_ t := by
  unfold delCuts at h
  rw [List.mem_append] at h
  have h1 : t ∉ cs.map (·.1) := fun z => h (.inl z)
  have h2 : t + by_ ∉ cs.map (·.1) := fun z => by
    obtain ⟨c, hc, e⟩ := List.mem_map.mp z
    exact h (.inr (List.mem_map.mpr ⟨c, hc, by omega⟩))
  have e1 := off_week l0 h1
  have e2 := off_week l0 h2
  unfold DelP
  rw [e1, show t - ((bs.length : Nat) : Int) + by_ = t + by_ - (bs.length : Nat) by omega, e2]
def DelL (z by_ : Int) (cs : List (Int × Int)) (k : Int) : Prop := (-z ≤ k ∧ k < z) ∨ ∃ c ∈ cs, k = c.1 - z ∨ k = c.1 ∨ k = c.1 - by_ - z ∨ k = c.1 - by_
theorem delL_mem {z : Nat} {by_ k : Int} {cs : List (Int × Int)} (h : BsMem (delCuts cs by_) z 0 k) : DelL z by_ cs k := by
  obtain ⟨c, hc | ⟨h1, h2⟩, e⟩ := h
  · unfold delCuts at hc
    rcases List.mem_append.mp hc with h | h
    · obtain ⟨d, hd, rfl⟩ := List.mem_map.mp h
      exact .inr ⟨d, hd, by omega⟩
    · obtain ⟨d, hd, rfl⟩ := List.mem_map.mp h
      exact .inr ⟨d, hd, by omega⟩
  · exact .inl (by omega)
/-- None or an int that is not too great: its text -/
theorem ow_rp {p : Int → Prop} {ow : DV} (h : OwOk p ow) (b : ∀ m, NearP p m → -(10 ^ 39) ≤ m ∧ m ≤ 10 ^ 39) : Rp ow.py 60 3 := by
  rcases h with ⟨rfl, _⟩ | ⟨m, rfl, hm⟩
  · exact Rp.none.mono (by decide) (by decide)
  · have := b m hm
    have r : Rp (PyData.int m) 0 0 := Rp.int (by omega) (by omega)
    exact r.mono (by decide) (by decide)
def fPart43 (b : Nat) : FD := fun ds n K => ∃ z far : Int, ds = [.pool, .int z, .int far] ∧ n ≤ 2 * 10 ^ 6 ∧ (1 ≤ z ∧ z ≤ 12) ∧ far % z = 0 ∧ (-(10 ^ 32) ≤ far ∧ far ≤ 10 ^ 32) ∧ ∀ m, m ≤ n + b → K (.bl true) m
section
variable {P : Program} {w : World} {K : PySem.W.Frag} {mg : Str → Option Value} {base : Heap}
theorem scMovedL : FnScope ["table", "far", "spot", "offset"] ["table", "far"] (defScope sMovedL) := ⟨rfl, rfl, rfl, by decide +kernel, rfl, by decide +kernel, by decide +kernel⟩
theorem ok_moved43 {f R L : Addr} {fd : FuncData} (F : Fun K "_law_moved" "_law_moved" sMovedL f fd) : FnOk P w K mg base CX0 1 f fd ["table", "far"] (spD (Wr R L) fMoved) := by
  refine okD F scMovedL (Wr R L) fMoved (fun ds n K h => ?_) (fun p cdv A outer s H E hr => ?_)
  · obtain ⟨bs, cs, rest, far, rfl, _⟩ := h
    rfl
  ·
    refine ⟨_, _, (dss_one (ds_ret (de_tup (da_cons (de_ixT (dv 0) de_int) (da_cons (de_f (df_lc (g := (gTup K 2 (gCons (gName 2) (gCons (gName 3) gNil)))) (own := [("spot", 2), ("offset", 3)]) rfl scMovedL.nd (di_list (de_ixT (dv 0) de_int))
          (blkOk_by (N := ["table", "far", "spot", "offset"]) (sc := defScope sMovedL) (by decide +kernel)) (fun _ _ _ _ _ => (dg_tup rfl (dgs_cons (dg_name (i := 2) scMovedL.nd rfl (.inl rfl)) (dgs_cons (dg_name (i := 3) scMovedL.nd rfl (.inl rfl)) dgs_nil)) (.cons (.cons .nil)))) (fun _ _ _ _ _ => dts_nil)
          (fun _ _ _ _ _ => (de_tup (da_cons (de_op op_add rd_I0 (dv 2) (dv 1)) (da_cons (dv 3) da_nil)))))) da_nil))))), fun ds n K h => ?_⟩
    obtain ⟨bs, cs, rest, far, rfl, cl, k⟩ := h
    refine ⟨_, atI_nat (j := 0) rfl, _, atI_nat (j := 1) rfl, ?_⟩
    refine ⟨by rw [List.length_map]; omega, fun i acc m => acc = ((mvR far cs).take i).map dPr ∧ m = n, ⟨rfl, rfl⟩, ?_, ?_⟩
    · rintro i acc m hi ⟨rfl, rfl⟩
      have hi : i < cs.length := by simpa using hi
      show dgT (dgCons (dgN 2) (dgCons (dgN 3) dgNil)) ((cs.map dPr).getD i .non) _ _
      rw [getD_prW hi]
      have hm : i < (mvR far cs).length := by rw [mvR_len]; exact hi
      have et : (mvR far cs).take (i + 1) = (mvR far cs).take i ++ [(cs[i].1 + far, cs[i].2)] := by
        have eg : (mvR far cs)[i]? = some (cs[i].1 + far, cs[i].2) := by
          unfold mvR
          rw [List.getElem?_map, List.getElem?_eq_getElem hi]
          rfl
        rw [List.take_add_one, eg]
        rfl
      exact ⟨fun _ => ⟨two1000r, by rw [et, List.map_append]; rfl, rfl⟩, (fun z => nomatch z)⟩
    rintro acc m ⟨rfl, rfl⟩
    rw [List.length_map, ← mvR_len far cs, List.take_length]
    exact ⟨two1000r, k⟩
end

/-! ### a, b = [..], int with a list of one's own -/
section
variable {X : Cx} {W : Wo}
def dPar2F (i j : Nat) (a : TDA) (b : TD) : TDS := fun DD δ n => a δ n fun xs m => DV.intsOf xs fun _ => b δ m fun y m2 => y.asI fun _ => DD.nx ((δ.set i (some (.own xs))).set j (some (.dat y))) m2
theorem ds_par2F {i j : Nat} {x y : Str} {a b : Expr} {ta tb : TE} {da : TDA} {db : TD} {px py pt pos : Pos} {kt k2 pt2} (hc : X.calm = true) (hN : X.N.Nodup) (hi : X.N[i]? = some x) (hj : X.N[j]? = some y) (hij : i ≠ j)
    (hx : X.env.scope.names.lookup x = some .local) (hy : X.env.scope.names.lookup y = some .local) (ha : DF X W a ta da) (hb : DE X W b tb db)
    (hw : swappedStores [.Tuple [.Name x px, .Name y py] kt pt] (.Tuple [a, b] k2 pt2) X.env = pure (some [x, y]))
    (hs : swapsWithSole [.Tuple [.Name x px, .Name y py] kt pt] (.Tuple [a, b] k2 pt2) pos.line X.env = pure false := by rfl)
    (s1 : starEach [a, b] X.env = (false, eval a X.env) :: starEach [b] X.env := by rfl) (s2 : starEach [b] X.env = (false, eval b X.env) :: starEach [] X.env := by rfl) :
    DS X W (.Assign [.Tuple [.Name x px, .Name y py] kt pt] (.Tuple [a, b] k2 pt2) pos) (tPar i j (tCons ta (tCons tb tNil))) (dPar2F i j da db) :=
  ⟨ps_par hc hN hi hj hij hx hy (pa_cons ha.pe (pa_cons hb.pe pa_nil s2) s1) hw hs, fun B Φ M σ H δ n D DD ok sm q =>
  ha.tr B Φ M σ H δ n _ _ ok (fun xs m q1 vs1 H1 f1 p1 n1 h1 r1 q => by
    obtain ⟨is, rfl, q⟩ := q
    obtain rfl := r1.ints
    exact hb.tr B Φ M σ H1 δ m _ _ (ok.expr f1 p1) (fun y m2 v2 H2 f2 p2 r2 q => by
      obtain ⟨k2, rfl, q⟩ := DV.asI_inv q
      have ok1 := ((ok.setOwn f1 p1 n1 h1 (repA_ints is) i).expr f2 p2).set (.int k2) j
      refine ⟨.ref q1, v2, rfl, ?_⟩
      rw [r2.int_inv]
      exact sm.nx _ _ _ _ _ ok1 q) q) q⟩
end

/-! ### k43: the nearest of a moved window -/
theorem near_any {q : Int → Prop} {xs : List Int} (h1 : ∀ x ∈ xs, q x) (h2 : ∀ m, NearP q m → m ∈ xs) {K : DV → Prop} (k : ∀ ow, OwOk q ow → K ow) : (xs = [] → K .non) ∧ ∀ x ∈ xs, (∀ y ∈ xs, ¬ ltT (nr y) (nr x)) → K (.int x) := by
  refine ⟨fun e => k _ (.inl ⟨rfl, fun t ht => ?_⟩), fun x hx hl => ?_⟩
  · obtain ⟨m, hm⟩ := nearP_exists ht
    have := h2 m hm
    rw [e] at this
    cases this
  · obtain ⟨m, hm⟩ := nearP_exists (h1 x hx)
    obtain rfl : x = m := nr_eq (hm.2 x (h1 x hx)) (hl m (h2 m hm))
    exact k _ (.inr ⟨x, rfl, hm⟩)
def fNearQ : FD := fun ds n K => ∃ (ns : List Int) (p : Int → Prop), ds = [dInt ns] ∧ (∀ x ∈ ns, p x) ∧ (∀ m, NearP p m → m ∈ ns) ∧ ∀ ow, OwOk p ow → K ow n
theorem nearQ_imp : ∀ ds n K, fNearQ ds n K → fNearest ds n K := fun ds n K ⟨ns, p, e, h1, h2, k⟩ => ⟨ns, e, near_any h1 h2 (K := fun r => K r n) k⟩
structure WinP (p : Int → Prop) (lo hi z : Int) : Prop where
  z0 : 0 < z
  w : lo + 2 * z ≤ hi
  dn : ∀ t, t < lo + z → (p (t - z) ↔ p t)
  up : ∀ t, hi - z ≤ t → (p (t + z) ↔ p t)
theorem WinP.dns {p : Int → Prop} {lo hi z : Int} (h : WinP p lo hi z) : ∀ n : Nat, ∀ t, t < lo + z → (p (t - n * z) ↔ p t)
  | 0, t, _ => by rw [show t - ((0 : Nat) : Int) * z = t by simp]
  | n + 1, t, ht => by
    have z0 := h.z0
    have nn : 0 ≤ (n : Int) * z := Int.mul_nonneg (by omega) (by omega)
    have := h.dn (t - n * z) (by omega)
    rw [show t - ((n + 1 : Nat) : Int) * z = t - n * z - z by rw [show ((n + 1 : Nat) : Int) = (n : Int) + 1 from rfl, Int.add_mul, Int.one_mul]; omega, this]
    exact h.dns n t ht
theorem WinP.ups {p : Int → Prop} {lo hi z : Int} (h : WinP p lo hi z) : ∀ n : Nat, ∀ t, hi - z ≤ t → (p (t + n * z) ↔ p t)
  | 0, t, _ => by rw [show t + ((0 : Nat) : Int) * z = t by simp]
  | n + 1, t, ht => by
    have z0 := h.z0
    have nn : 0 ≤ (n : Int) * z := Int.mul_nonneg (by omega) (by omega)
    have := h.up (t + n * z) (by omega)
    rw [show t + ((n + 1 : Nat) : Int) * z = t + n * z + z by rw [show ((n + 1 : Nat) : Int) = (n : Int) + 1 from rfl, Int.add_mul, Int.one_mul]; omega, this]
    exact h.ups n t ht
/-- a moment ahead of the window is like one of its first week -/
theorem WinP.lo {p : Int → Prop} {lo hi z : Int} (h : WinP p lo hi z) {t : Int} (ht : t < lo) : (p (lo + (t - lo) % z) ↔ p t) ∧ lo ≤ lo + (t - lo) % z ∧ lo + (t - lo) % z < lo + z := by
  have z0 := h.z0
  have m0 := Int.emod_nonneg (t - lo) (show z ≠ 0 by omega)
  have m1 := Int.emod_lt_of_pos (t - lo) z0
  have e := Int.mul_ediv_add_emod (t - lo) z
  have q0 : (t - lo) / z ≤ 0 := by
    have := Int.ediv_le_ediv z0 (show t - lo ≤ 0 by omega)
    rw [Int.zero_ediv] at this
    exact this
  refine ⟨?_, by omega, by omega⟩
  have := h.dns (-((t - lo) / z)).toNat (lo + (t - lo) % z) (by omega)
  rw [Int.toNat_of_nonneg (by omega), Int.neg_mul, Int.mul_comm] at this
  rw [← this, show lo + (t - lo) % z - -(z * ((t - lo) / z)) = t by omega]
theorem WinP.hi {p : Int → Prop} {lo hi z : Int} (h : WinP p lo hi z) {t : Int} (ht : hi ≤ t) : (p (hi - z + (t - hi) % z) ↔ p t) ∧ hi - z ≤ hi - z + (t - hi) % z ∧ hi - z + (t - hi) % z < hi := by
  have z0 := h.z0
  have m0 := Int.emod_nonneg (t - hi) (show z ≠ 0 by omega)
  have m1 := Int.emod_lt_of_pos (t - hi) z0
  have e := Int.mul_ediv_add_emod (t - hi) z
  have q0 : 0 ≤ (t - hi) / z := Int.ediv_nonneg (by omega) (by omega)
  refine ⟨?_, by omega, by omega⟩
  have := h.ups ((t - hi) / z + 1).toNat (hi - z + (t - hi) % z) (by omega)
  rw [Int.toNat_of_nonneg (by omega), Int.add_mul, Int.one_mul, Int.mul_comm] at this
  rw [← this, show hi - z + (t - hi) % z + (z * ((t - hi) / z) + z) = t by omega]
/-- the nearest one lies in the window or within a week of 0 -/
theorem WinP.spot {p : Int → Prop} {lo hi z far m : Int} (h : WinP p lo hi z) (hm : NearP (fun t => p (t - far)) m) : (lo ≤ m - far ∧ m - far < hi) ∨ (-z ≤ m ∧ m < z) := by
  have z0 := h.z0
  by_cases c : lo ≤ m - far ∧ m - far < hi
  · exact .inl c
  right
  have w := h.w
  have p1 : p (m - far - z) ↔ p (m - far) := by
    by_cases d : m - far < lo
    · exact h.dn _ (by omega)
    · have := h.up (m - far - z) (by omega)
      rw [show m - far - z + z = m - far by omega] at this
      exact this.symm
  have p2 : p (m - far + z) ↔ p (m - far) := by
    by_cases d : m - far < lo
    · have := h.dn (m - far + z) (by omega)
      rw [show m - far + z - z = m - far by omega] at this
      exact this.symm
    · exact h.up _ (by omega)
  refine ⟨Int.not_lt.mp fun l => ?_, Int.not_le.mp fun l => ?_⟩
  · exact hm.2 (m + z) (by show p (m + z - far); rw [show m + z - far = m - far + z by omega]; exact p2.mpr hm.1) (nr_lt2 (by omega) (by omega))
  · exact hm.2 (m - z) (by show p (m - z - far); rw [show m - z - far = m - far - z by omega]; exact p1.mpr hm.1) (nr_lt (by omega) (by omega))
def fNearMv : FD := fun ds n K => ∃ (p : Int → Prop) (odd : List Bool) (lo hi z far : Int), ds = [.lst (odd.map DV.bl), .int lo, .int z, .int far] ∧ (odd.length : Int) = hi - lo ∧ odd.length ≤ 50000 ∧ z ≤ 12 ∧ WinP p lo hi z ∧ (∀ (i : Nat) (b : Bool), odd[i]? = some b → (b = true ↔ p (lo + i))) ∧ ∀ ow, OwOk (fun t => p (t - far)) ow → K ow n
section
variable {P : Program} {w : World} {K : PySem.W.Frag} {mg : Str → Option Value} {base : Heap}
theorem scNearMv : FnScope ["odd", "low", "size", "far", "spots", "high", "spot", "here", "at"] ["odd", "low", "size", "far"] (defScope sNearMv) := ⟨rfl, rfl, rfl, by decide +kernel, rfl, by decide +kernel, by decide +kernel⟩
theorem ok_nearMv {f fN R L : Addr} {fd dN : FuncData} (F : Fun K "_law_nearest_moved" "_law_nearest_moved" sNearMv f fd) (T : Blt mg) (Nl : At P w K mg base 1 "_law_nearest" ["spots"] (spD (Wr R L) fNearest) fN dN) : FnOk P w K mg base CX0 2 f fd ["odd", "low", "size", "far"] (spD (Wr R L) fNearMv) := by
  refine okD F scNearMv (Wr R L) fNearMv (fun ds n K h => ?_) (fun p cdv A outer s H E hr => ?_)
  · obtain ⟨q, odd, lo, hi, z, far, rfl, _⟩ := h
    rfl
  ·
    have hr1 : Room 1 _ := hr.mono (by decide)
    refine ⟨_, _, (dss_cons (ds_par2F (i := 4) (j := 5) rfl scNearMv.nd rfl rfl (by decide) rfl rfl (df_lc (tt := tB (tOp (rIxL K) (tVar 0) (tVar 8))) (own := [("at", 8)]) rfl scNearMv.nd (di_range1 (by rfl) T.range (da_cons (de_bQ call_len_seq (by rfl) T.len PySem.boot_len rd_len (dq (dv 0))) da_nil))
     (blkOk_by (N := ["odd", "low", "size", "far", "spots", "high", "spot", "here", "at"]) (sc := defScope sNearMv) (by decide +kernel)) (fun _ _ _ _ _ => (dg_name (i := 8) scNearMv.nd rfl (.inl rfl))) (fun _ _ _ _ _ => dts_one (dt_val (de_ixL (dq (dv 0)) (dv 8))))
     (fun _ _ _ _ _ => (de_op op_add rd_I0 (de_op op_add rd_I0 (dv 1) (dv 8)) (dv 3)))) (de_op op_add rd_I0 (dv 1) (de_bQ call_len_seq (by rfl) T.len PySem.boot_len rd_len (dq (dv 0)))) (by rfl))
      (dss_cons (ds_for [6] PassesOwn.never rfl (di_range2 (by rfl) T.range (da_cons (de_op op_sub rd_I0 de_int (dv 2)) (da_cons (dv 2) da_nil))) (dg_name (i := 6) scNearMv.nd rfl (.inl rfl))
        (dss_cons (ds_set (i := 7) scNearMv.nd rfl (.inl rfl) (de_op op_sub rd_I0 (dv 6) (dv 3)))
        (dss_cut (ds_if (dt_cmp op_lt rd_B0 (dv 7) (dv 1))
          (dss_one (ds_set (i := 7) scNearMv.nd rfl (.inl rfl) (de_op op_add rd_I0 (dv 1) (de_op op_mod rd_I (de_t call_int1 (by rfl) T.int (by decide +kernel) rd_int (da_cons (de_op op_sub rd_I0 (dv 7) (dv 1)) da_nil)) (dv 2)))))
          dss_nil)
        (dss_cut (ds_if (dt_cmp op_ge rd_B0 (dv 7) (dv 5))
          (dss_one (ds_set (i := 7) scNearMv.nd rfl (.inl rfl) (de_op op_add rd_I0 (de_op op_sub rd_I0 (dv 5) (dv 2)) (de_op op_mod rd_I (de_t call_int1 (by rfl) T.int (by decide +kernel) rd_int (da_cons (de_op op_sub rd_I0 (dv 7) (dv 5)) da_nil)) (dv 2)))))
          dss_nil)
        (dss_one (ds_if (dt_val (de_ixL (dq (dv 0)) (de_op op_sub rd_I0 (dv 7) (dv 1))))
          (dss_one (ds_app 4 (he := (dv 6))))
          dss_nil))))))
      (dss_frz 4 (dss_one (ds_ret (de_call Nl.ok (rd_spD rfl) hr1 Nl.at_ Nl.kp Nl.bi (da_cons (dv 4) da_nil))))))), fun ds n K h => ?_⟩
    obtain ⟨q, odd, lo, hi, z, far, rfl, ol, ob, z12, wp, ho, k⟩ := h
    have z0 := wp.z0
    have el : (((odd.map DV.bl).length : Nat) : Int) = (odd.length : Nat) := by rw [List.length_map]
    have getb : ∀ {i : Nat} (h : i < odd.length), atI (odd.map DV.bl) (i : Int) = some (.bl odd[i]) := fun {i} h => atI_nat (j := i) (by rw [List.getElem?_map, List.getElem?_eq_getElem h]; rfl)
    have hob : ∀ {i : Nat} (h : i < odd.length), (odd[i] = true ↔ q (lo + i)) := fun {i} h => ho i _ (List.getElem?_eq_getElem h)
    refine ⟨by omega, by omega, by omega, fun i acc m => ∃ ss : List Int, acc = ss.map DV.int ∧ ss.length ≤ i ∧ (∀ x ∈ ss, q (x - far)) ∧ (∀ j : Nat, j < i → ∀ h : j < odd.length, odd[j] = true → lo + j + far ∈ ss) ∧ m = n, ⟨[], rfl, Nat.le_refl _, (fun x hx => nomatch hx), fun j hj => absurd hj (Nat.not_lt_zero _), rfl⟩, ?_, ?_⟩
    · rintro i acc m hi' ⟨ss, rfl, sl, s1, s2, rfl⟩
      have hi2 : i < odd.length := by
        have : i < (((odd.map DV.bl).length : Nat) : Int).toNat := hi'
        rw [el] at this
        omega
      have e0 : (0 : Int) + (i : Int) = (i : Int) := by omega
      refine ⟨.bl odd[i], by rw [e0]; exact getb hi2, fun g => ⟨ss ++ [lo + (0 + (i : Int)) + far], by rw [List.map_append]; rfl, by rw [List.length_append]; show ss.length + 1 ≤ i + 1; omega, fun x hx => ?_, fun j hj h hb => ?_, rfl⟩, fun g => ⟨ss, rfl, by omega, s1, fun j hj h hb => ?_, rfl⟩⟩
      · rcases List.mem_append.mp hx with h | h
        · exact s1 x h
        · rw [List.mem_singleton.mp h, show lo + (0 + (i : Int)) + far - far = lo + (i : Int) by omega]
          exact (hob hi2).mp g
      · by_cases c : j < i
        · exact List.mem_append_left _ (s2 j c h hb)
        · have : j = i := by omega
          subst this
          exact List.mem_append_right _ (List.mem_singleton.mpr (by omega))
      · by_cases c : j < i
        · exact s2 j c h hb
        · have : j = i := by omega
          subst this
          rw [g] at hb
          cases hb
    rintro acc m ⟨ss, rfl, sl, s1, s2, rfl⟩
    rw [el] at sl s2
    refine ⟨ss, rfl, ?_⟩
    have eh : lo + (((odd.map DV.bl).length : Nat) : Int) = hi := by
      rw [el]
      omega
    have w2 := wp.w
    obtain ⟨HI, hHI⟩ : ∃ HI : Int, HI = lo + (((odd.map DV.bl).length : Nat) : Int) := ⟨_, rfl⟩
    have eH : HI = hi := by omega
    refine ⟨⟨by omega, by omega, by omega, by omega⟩, fun i δ m' => ∃ (ts : List Int) (y6 y7 : Option SV), δ = [some (.dat (.lst (odd.map DV.bl))), some (.dat (.int lo)), some (.dat (.int z)), some (.dat (.int far)), some (.own (ts.map DV.int)), some (.dat (.int HI)), y6, y7, none] ∧ ts.length ≤ odd.length + i ∧ (∀ x ∈ ts, q (x - far)) ∧ (∀ x ∈ ss, x ∈ ts) ∧ (∀ x : Int, -z ≤ x → x < -z + i → q (x - far) → x ∈ ts) ∧ m' = m, ⟨ss, none, none, by rw [hHI]; rfl, by omega, s1, fun x hx => hx, fun x h1 h2 => absurd h2 (by omega), rfl⟩, ?_, ?_⟩
    · rintro i δ m' hi' ⟨ts, y6, y7, rfl, tl, t1, t2, t3, rfl⟩
      have hi2 : i < (z - (0 - z)).toNat := hi'
      obtain ⟨sp, hsp⟩ : ∃ sp : Int, 0 - z + (i : Int) = sp := ⟨_, rfl⟩
      refine ⟨fun δ m2 => ∃ h1 : Int, δ = [some (.dat (.lst (odd.map DV.bl))), some (.dat (.int lo)), some (.dat (.int z)), some (.dat (.int far)), some (.own (ts.map DV.int)), some (.dat (.int HI)), some (.dat (.int sp)), some (.dat (.int h1)), none] ∧ (q h1 ↔ q (sp - far)) ∧ lo ≤ h1 ∧ m2 = m', ⟨fun g => ?_, fun g => ?_⟩, ?_⟩
      · have lt : sp - far < lo := by
          have := of_decide_eq_true g
          omega
        obtain ⟨a1, a2, a3⟩ := wp.lo lt
        refine ⟨z0, lo + (sp - far - lo) % z, by rw [← hsp]; rfl, a1, a2, rfl⟩
      · refine ⟨sp - far, by rw [← hsp]; rfl, Iff.rfl, ?_, rfl⟩
        have := of_decide_eq_false g
        omega
      rintro δ m2 ⟨h1, rfl, e1, l1, rfl⟩
      refine ⟨fun δ m3 => ∃ h2 : Int, δ = [some (.dat (.lst (odd.map DV.bl))), some (.dat (.int lo)), some (.dat (.int z)), some (.dat (.int far)), some (.own (ts.map DV.int)), some (.dat (.int HI)), some (.dat (.int sp)), some (.dat (.int h2)), none] ∧ (q h2 ↔ q (sp - far)) ∧ lo ≤ h2 ∧ h2 < hi ∧ m3 = m2, ⟨fun g => ?_, fun g => ?_⟩, ?_⟩
      · have ge : hi ≤ h1 := by
          have := of_decide_eq_true g
          omega
        obtain ⟨a1, a2, a3⟩ := wp.hi ge
        refine ⟨z0, hi - z + (h1 - hi) % z, by rw [← eH]; rfl, a1.trans e1, by omega, a3, rfl⟩
      · refine ⟨h1, rfl, e1, l1, ?_, rfl⟩
        have := of_decide_eq_false g
        omega
      rintro δ m3 ⟨h2, rfl, e2, l2, l3, rfl⟩
      obtain ⟨j, hj⟩ : ∃ j : Nat, h2 - lo = (j : Int) := ⟨(h2 - lo).toNat, by omega⟩
      have jl : j < odd.length := by omega
      have ej : lo + (j : Int) = h2 := by omega
      refine ⟨.bl odd[j], by rw [hj]; exact getb jl, fun g => ⟨by rw [List.length_map]; omega, ts ++ [sp], _, _, by rw [List.map_append]; rfl, by rw [List.length_append]; show ts.length + 1 ≤ odd.length + (i + 1); omega, fun x hx => ?_, fun x hx => List.mem_append_left _ (t2 x hx), fun x h1 h2 hq => ?_, rfl⟩, fun g => ⟨ts, _, _, rfl, by omega, t1, t2, fun x h1 h2 hq => ?_, rfl⟩⟩
      · rcases List.mem_append.mp hx with h | h
        · exact t1 x h
        · rw [List.mem_singleton.mp h, ← e2, ← ej]
          exact (hob jl).mp g
      · by_cases c : x < -z + (i : Int)
        · exact List.mem_append_left _ (t3 x h1 c hq)
        · exact List.mem_append_right _ (List.mem_singleton.mpr (by omega))
      · by_cases c : x < -z + (i : Int)
        · exact t3 x h1 c hq
        · exfalso
          have : x = sp := by omega
          rw [this, ← e2, ← ej] at hq
          have := (hob jl).mpr hq
          rw [g] at this
          cases this
    rintro δ m' ⟨ts, y6, y7, rfl, tl, t1, t2, t3, rfl⟩
    have hz2 : ((z - (0 - z)).toNat : Int) = 2 * z := by omega
    have all : ∀ x, NearP (fun t => q (t - far)) x → x ∈ ts := fun x hx => by
      rcases wp.spot hx with ⟨h1, h2⟩ | ⟨h1, h2⟩
      · have jl : (x - far - lo).toNat < odd.length := by omega
        have ej : lo + ((x - far - lo).toNat : Int) = x - far := by omega
        have hb := (hob jl).mpr (by rw [ej]; exact hx.1)
        have := s2 _ (by omega) jl hb
        rw [show lo + ((x - far - lo).toNat : Int) + far = x by omega] at this
        exact t2 _ this
      · exact t3 x h1 (by rw [hz2]; omega) hx.1
    obtain ⟨k0, k1⟩ := near_any (q := fun t => q (t - far)) t1 all (K := fun r => K r m') k
    exact ⟨ts, rfl, k0, k1⟩
end

/-! ### k43: a rule and a great delay -/
section
variable {P : Program} {w : World} {K : PySem.W.Frag} {mg : Str → Option Value} {base : Heap}
theorem scDelayedL : FnScope ["well", "size", "far", "one", "by", "spots", "spot", "offset", "owed", "left", "right", "told"] ["well", "size", "far"] (defScope sDelayedL) := ⟨rfl, rfl, rfl, by decide +kernel, rfl, by decide +kernel, by decide +kernel⟩
theorem ok_delayed43 {f R L fT fB fM fO fN fV fU fD pD fY : Addr} {mc : Value} {fd dT dB dM dO dN dV dU dD dY : FuncData} (F : Fun K "_law_delayed" "_law_delayed" sDelayedL f fd) (ZR : RuC K mg R) (T : Blt mg) (Dp : At P w K mg base 1 "_law_dip" ["well", "span"] spDip fT dT) (Tb : At P w K mg base 3 "_law_table" ["well", "size", "far", "leap"] (spD (Wr R L) fTableN) fB dB)
    (Mv : At P w K mg base 1 "_law_moved" ["table", "far"] (spD (Wr R L) fMoved) fV dV) (Md : At P w K mg base 8 "_law_made" ["table"] (spD (Wr R L) fMade) fM dM) (Of : At P w K mg base 1 "_law_offset" ["table", "spot"] (spD (Wr R L) fOffB) fO dO) (Nl : At P w K mg base 1 "_law_nearest" ["spots"] (spD (Wr R L) fNearQ) fN dN) (Tu : At P w K mg base 8 "parting_in_turn" ["rule", "other"] (spD (Wr R L) fTurn) fU dU)
    (cr : ClX.CRead K R mc) (cm : ClX.CMet K R mc "delay" pD fD) (GD : FnOk P w K mg base CX0 7 fD dD ["cls", "week", "number"] (spD (Wr R L) fDelay)) (bD : Binds K dD ["cls", "week", "number"] [])
    (Sy : AtG P w K mg base 7 "_law_stays" ["made", "table"] (spD (Wr R L) fStays) fY dY) : FnG P w K mg base 9 f fd ["well", "size", "far"] (spD (Wr R L) (fPart43 600)) := by
  refine okGD F scDelayedL (Wr R L) (fPart43 600) (fun ds n K h => ?_) (fun p cdv A outer s H E hgd hr => ?_)
  · obtain ⟨z, far, rfl, _⟩ := h
    rfl
  · have hu := hr.units
    have hr1 : Room 1 _ := hr.mono (by decide)
    have hr3 : Room 3 _ := hr.mono (by decide)
    have hr7 : Room 7 _ := hr.mono (by decide)
    have hr8 : Room 8 _ := hr.mono (by decide)
    refine ⟨_, _, (dss_cons (ds_set (i := 3) scDelayedL.nd rfl (.inr rfl) (de_call Mv.ok (rd_spD rfl) hr1 Mv.at_ Mv.kp Mv.bi (da_cons (de_call Tb.ok (rd_spD rfl) hr3 Tb.at_ Tb.kp Tb.bi (da_cons (dv 0) (da_cons (dv 1) (da_cons de_int (da_cons de_int da_nil))))) (da_cons (dv 2) da_nil))))
      (dss_cons (ds_set (i := 4) scDelayedL.nd rfl (.inr rfl) (de_ixL (dq (de_f (df_lst (da_cons (de_op op_sub rd_I0 (de_call Dp.ok rd_dip hr1 Dp.at_ Dp.kp Dp.bi (da_cons (dv 0) (da_cons de_int da_nil))) de_int) (da_cons (de_op op_sub rd_I0 (de_call Dp.ok rd_dip hr1 Dp.at_ Dp.kp Dp.bi (da_cons (dv 0) (da_cons (de_op op_mul rd_I de_int (de_op op_pow rd_I de_int de_int)) da_nil))) (de_op op_pow rd_I de_int de_int)) da_nil))))) (de_call Dp.ok rd_dip hr1 Dp.at_ Dp.kp Dp.bi (da_cons (dv 0) (da_cons de_int da_nil)))))
      (dss_cons (ds_set (i := 5) scDelayedL.nd rfl (.inl rfl) (de_f (df_listRg2A rfl T.list T.range (de_op op_sub rd_I0 de_int (dv 1)) (dv 1))))
      (dss_cons (ds_for [6, 7] PassesOwn.never rfl (di_list (de_ixT (dv 3) de_int)) (dg_tup rfl (dgs_cons (dg_name (i := 6) scDelayedL.nd rfl (.inl rfl)) (dgs_cons (dg_name (i := 7) scDelayedL.nd rfl (.inl rfl)) dgs_nil)) (.cons (.cons .nil)))
        (dss_one (ds_set (i := 5) scDelayedL.nd rfl (.inl rfl) (de_f (df_cat (dq (dv 5)) (dq (de_f (df_lst (da_cons (de_op op_sub rd_I0 (dv 6) (dv 1)) (da_cons (dv 6) (da_cons (de_op op_sub rd_I0 (de_op op_sub rd_I0 (dv 6) (dv 4)) (dv 1)) (da_cons (de_op op_sub rd_I0 (dv 6) (dv 4)) da_nil))))))))))))
      (dss_cons (ds_set (i := 8) scDelayedL.nd rfl (.inl rfl) (de_call Nl.ok (rd_spD rfl) hr1 Nl.at_ Nl.kp Nl.bi (da_cons (de_f (df_lc (own := [("spot", 6)]) rfl scDelayedL.nd (di_list (dv 5))
          (blkOk_by (N := ["well", "size", "far", "one", "by", "spots", "spot", "offset", "owed", "left", "right", "told"]) (sc := defScope sDelayedL) (by decide +kernel)) (fun _ _ _ _ _ => (dg_name (i := 6) scDelayedL.nd rfl (.inl rfl))) (fun _ _ _ _ _ => dts_one (dt_cmp op_ne rd_Ne (de_call Of.ok (rd_spD rfl) hr1 Of.at_ Of.kp Of.bi (da_cons (dv 3) (da_cons (dv 6) da_nil))) (de_call Of.ok (rd_spD rfl) hr1 Of.at_ Of.kp Of.bi (da_cons (dv 3) (da_cons (de_op op_add rd_I0 (dv 6) (dv 4)) da_nil)))))
          (fun _ _ _ _ _ => (dv 6)))) da_nil)))
      (dss_cons (ds_par (i := 9) (j := 10) rfl scDelayedL.nd rfl rfl (by decide) rfl rfl (da_cons (de_call Md.ok (rd_spD rfl) hr8 Md.at_ Md.kp Md.bi (da_cons (dv 3) da_nil)) (da_cons (de_cmeth ZR.at_ cr cm GD bD (rd_spD rfl) hr7 (da_cons (dv 1) (da_cons (dv 4) da_nil))) da_nil)) (by rfl))
      (dss_cons (ds_set (i := 11) scDelayedL.nd rfl (.inl rfl) (de_f (df_lst (da_cons (de_call Tu.ok (rd_spD rfl) hr8 Tu.at_ Tu.kp Tu.bi (da_cons (dv 9) (da_cons (dv 10) da_nil))) (da_cons (de_call Tu.ok (rd_spD rfl) hr8 Tu.at_ Tu.kp Tu.bi (da_cons (dv 10) (da_cons (dv 9) da_nil))) da_nil)))))
      (dss_one (ds_ret (de_and (de_cmp op_eq rd_Eq (de_b (call_rep2 hgd hu) (by rfl) T.repr (by decide +kernel) rd_repr (da_cons (dv 11) da_nil)) (de_b (call_rep2 hgd hu) (by rfl) T.repr (by decide +kernel) rd_repr (da_cons (de_f (df_lst (da_cons (dv 8) (da_cons (dv 8) da_nil)))) da_nil))) (de_one (de_callG Sy.ok (rd_spD rfl) hgd hr7 Sy.at_ Sy.kp Sy.bi (da_cons (dv 9) (da_cons (dv 3) da_nil)))))))))))))), fun ds n K h => ?_⟩
    obtain ⟨z, far, rfl, hn, hz, hfz, hfb, k⟩ := h
    refine ⟨z, 0, 9, rfl, by omega, hz, rfl, by omega, fun b0 o0 tails m tk tn hm => ?_⟩
    obtain ⟨zn, rfl⟩ : ∃ zn : Nat, z = (zn : Int) := ⟨z.toNat, by omega⟩
    have lz : b0.length = zn := by have := tk.len; omega
    have tl0 : TabL b0 o0 (tell b0 o0).2 := tabL_of (by omega) (by omega) tk.many tk.asc tk.up (fun v hv => by have := tk.bb v hv; omega) (fun c hc => by have := tk.cb c hc; omega)
    have tl := tabL_moved tl0 (by rw [lz]; exact hfz) hfb (fun c hc => by have := tk.cb c hc; omega)
    refine ⟨b0, o0, [dInt tails], far, rfl, by have := tk.many; omega, ?_⟩
    generalize mvR far o0 = cs at tl
    generalize (tell b0 cs).2 = TT at tl
    clear tl0 tn
    obtain ⟨l0, l1, many, asc, up, ro, tt, tv, ttl, bb, cb⟩ := id tl
    refine ⟨by omega, by decide, by decide, fun a a0 a1 => ⟨⟨by decide, by decide, by decide⟩, .inl ⟨by decide, by decide⟩, by omega, by decide, by decide, fun b b0' b1 => ⟨⟨by decide, by decide, by decide⟩, two1000r, ?_⟩⟩⟩
    refine ⟨by omega, by decide, by decide, fun u u0 u1 => ⟨_, two_at u0 u1, ?_⟩⟩
    have a2 : a < 40 := a1
    have b2 : b < 2 * 10 ^ 30 := b1
    have hp : (10 : Int) ^ (30 : Int).toNat = 10 ^ 30 := rfl
    have lby := ifb u (a - 20) (b - 10 ^ (30 : Int).toNat) (-(10 ^ 30)) (10 ^ 30) (by omega) (by omega) (by omega) (by omega)
    obtain ⟨by_, hby⟩ : ∃ by_ : Int, (if u = 0 then a - 20 else b - 10 ^ (30 : Int).toNat) = by_ := ⟨_, rfl⟩
    rw [hby] at lby
    refine ⟨0 - (zn : Int), (zn : Int), rfl, rfl, by omega, ?_⟩
    have hel : ∀ i (h : i < cs.length), cs.take (i + 1) = cs.take i ++ [cs[i]] := fun i h => by rw [List.take_add_one, List.getElem?_eq_getElem h]; rfl
    refine ⟨_, atI_nat (j := 1) rfl, fun i δ m' => ∃ (ss : List Int) (y6 y7 : Option SV), δ = [some (.dat .pool), some (.dat (.int (zn : Int))), some (.dat (.int far)), some (.dat (.tup [dInt b0, dPrs cs])), some (.dat (.int by_)), some (.dat (dInt ss)), y6, y7, none, none, none, none] ∧ (∀ k, k ∈ ss ↔ DelL zn by_ (cs.take i) k) ∧ ss.length = 2 * zn + 4 * i ∧ m' ≤ m + 3, ⟨rgI (0 - (zn : Int)) zn, none, none, by rw [← hby]; rfl, fun k => ?_, ?_, by omega⟩, ?_, ?_⟩
    · rw [rgI_mem]
      exact ⟨fun h => .inl ⟨by omega, h.2⟩, fun h => h.elim (fun h => ⟨by omega, h.2⟩) fun ⟨c, hc, _⟩ => nomatch hc⟩
    · rw [rgI_len]
      omega
    · rintro i δ m' hi ⟨ss, y6, y7, rfl, sm, sl, hm'⟩
      have hi : i < cs.length := by simpa using hi
      show dgT (dgCons (dgN 6) (dgCons (dgN 7) dgNil)) ((cs.map dPr).getD i .non) _ _
      rw [getD_prW hi]
      have et := hel i hi
      generalize cs[i] = c at et ⊢
      refine ⟨(by decide : 4 ≤ 1000), by show (ss.map DV.int).length + 4 ≤ 100000; rw [List.length_map, sl]; omega, ss ++ [c.1 - zn, c.1, c.1 - by_ - zn, c.1 - by_], some (.dat (.int c.1)), some (.dat (.int c.2)), ?_, fun k => ?_, by rw [List.length_append, sl]; show 2 * zn + 4 * i + 4 = _; omega, hm'⟩
      · rw [show dInt (ss ++ [c.1 - zn, c.1, c.1 - by_ - zn, c.1 - by_]) = .lst (ss.map DV.int ++ [.int (c.1 - zn), .int c.1, .int (c.1 - by_ - zn), .int (c.1 - by_)]) by unfold dInt; rw [List.map_append]; rfl]
        rfl
      · rw [et, List.mem_append, sm k]
        generalize cs.take i = done_
        unfold DelL
        constructor
        · rintro ((h | ⟨d, hd, h⟩) | h)
          · exact .inl h
          · exact .inr ⟨d, List.mem_append_left _ hd, h⟩
          · exact .inr ⟨c, List.mem_append_right _ (List.mem_singleton.mpr rfl), by simpa using h⟩
        · rintro (h | ⟨d, hd, h⟩)
          · exact .inl (.inl h)
          · rcases List.mem_append.mp hd with hd | hd
            · exact .inl (.inr ⟨d, hd, h⟩)
            · rw [List.mem_singleton.mp hd] at h
              exact .inr (by simpa using h)
    rintro δ m' ⟨ss, y6, y7, rfl, sm, sl, hm'⟩
    rw [List.length_map, List.take_length] at sm
    rw [List.length_map] at sl
    have n0 : 0 < zn := by omega
    have all : ∀ x, NearP (DelP b0 cs by_) x → x ∈ ss := fun x hx => (sm x).mpr (delL_mem (nearP_spot n0 (fun t ht => by have := del_step l0 t ht; rw [lz] at this; exact this) hx))
    have bnd : ∀ x, NearP (DelP b0 cs by_) x → -(10 ^ 39) ≤ x ∧ x ≤ 10 ^ 39 := fun x hx => by
      rcases (sm x).mp (all x hx) with h | ⟨c, hc, h⟩
      · omega
      · have := (cb c hc).1
        omega
    refine ⟨by rw [List.length_map]; omega, fun i acc m2 => acc = ((ss.take i).filter fun x => decide (DelP b0 cs by_ x)).map DV.int ∧ m2 = m', ⟨rfl, rfl⟩, ?_, ?_⟩
    · rintro i acc m2 hi ⟨rfl, rfl⟩
      have hi : i < ss.length := by simpa using hi
      simp only [getD_intr hi]
      obtain ⟨s1, s2⟩ := filt_step (p := DelP b0 cs by_) hi
      generalize ss.getD i 0 = x at s1 s2 ⊢
      refine ⟨b0, cs, [], _, rfl, l0, b0, cs, [], _, rfl, l0, rfl, fun g => ⟨s1 (ne_ints g), rfl⟩, fun g => ⟨s2 (ne_intsF g), rfl⟩⟩
    rintro acc m2 ⟨rfl, rfl⟩
    rw [List.length_map, List.take_length]
    refine ⟨_, DelP b0 cs by_, rfl, fun x hx => of_decide_eq_true (List.mem_filter.mp hx).2, fun x hx => (List.mem_filter (p := fun x => decide (DelP b0 cs by_ x))).mpr ⟨all x hx, decide_eq_true hx.1⟩, fun ow how => ?_⟩
    have h12 : zn ≤ 12 := by omega
    have dok := (delay_ok (z := zn) (v := by_) n0 h12).1
    have dv2 := (delay_ok (z := zn) (v := by_) n0 h12).2
    have dlen : (List.replicate zn by_).length = zn := List.length_replicate
    have tp : ∀ t, DelP b0 cs by_ t ↔ TurnP b0 TT (List.replicate zn by_) [] t := fun t => by
      unfold TurnP DelP val
      rw [dv2, dv2, tv, tv]
      omega
    refine ⟨b0, cs, [], rfl, l0, l1, by omega, asc, up, ?_⟩
    rw [← tt]
    refine ⟨(zn : Int), by_, rfl, by omega, by omega, ?_⟩
    rw [show ((zn : Int)).toNat = zn from rfl]
    have m24 : TT.length * b0.length ≤ 24 * 12 := Nat.mul_le_mul ttl l1
    have m24b : TT.length * (List.replicate zn by_).length ≤ 24 * 12 := Nat.mul_le_mul ttl (by omega)
    refine ⟨b0, TT, List.replicate zn by_, [], rfl, ro, dok, by omega, by show TT.length + 0 * b0.length ≤ 500; omega, by show 0 + TT.length * b0.length ≤ 500; omega, fun o1 h1 => ?_⟩
    obtain rfl : ow = o1 := (how.congr tp).uniq h1
    clear h1
    refine ⟨List.replicate zn by_, [], b0, TT, rfl, dok, ro, by omega, by show 0 + TT.length * (List.replicate zn by_).length ≤ 500; omega, by show TT.length + 0 * (List.replicate zn by_).length ≤ 500; omega, fun o1 h1 => ?_⟩
    obtain rfl : ow = o1 := ((how.congr tp).congr fun t => (TurnP.symm t).symm).uniq h1
    clear h1
    have r1 := ow_rp how bnd
    have p1 := how.pu
    have rT : Rp (DV.lst [ow, ow]).py 400 40 := (Rp.list (.cons r1 (.cons r1 .nil))).mono (by decide) (by decide)
    have pT : (DV.lst [ow, ow]).pu = true := (puAll_iff _).mpr fun x hx => by
      have : x = ow := by simpa using hx
      rw [this]
      exact p1
    refine ⟨two1000r, ⟨400, 40, rT, by decide, by decide⟩, pT, two1000r, ⟨400, 40, rT, by decide, by decide⟩, pT, rfl, fun _ => ?_, fun g => absurd rfl (of_decide_eq_false g)⟩
    subst tt
    exact ⟨b0, cs, [], rfl, l0, l1, by omega, asc, up, fun v hv => by have := bb v hv; omega, fun c hc => by have := cb c hc; omega, k _ (by omega)⟩
end

/-! ### k43: the window of several tables -/
def tabD (t : List Int × List (Int × Int) × List DV) : DV := .tup (dInt t.1 :: dPrs t.2.1 :: t.2.2)
def spW (ts : List (List Int × List (Int × Int) × List DV)) : List Int := 0 :: ts.flatMap fun t => t.2.1.map (·.1)
def ofW (ts : List (List Int × List (Int × Int) × List DV)) : List Int := 0 :: ts.flatMap fun t => t.1 ++ t.2.1.map (·.2)
theorem spW_take {ts : List (List Int × List (Int × Int) × List DV)} {i : Nat} (h : i < ts.length) : spW (ts.take (i + 1)) = spW (ts.take i) ++ (ts[i]).2.1.map (·.1) := by
  unfold spW
  rw [List.take_add_one, List.getElem?_eq_getElem h, List.flatMap_append]
  simp
theorem ofW_take {ts : List (List Int × List (Int × Int) × List DV)} {i : Nat} (h : i < ts.length) : ofW (ts.take (i + 1)) = ofW (ts.take i) ++ ((ts[i]).1 ++ (ts[i]).2.1.map (·.2)) := by
  unfold ofW
  rw [List.take_add_one, List.getElem?_eq_getElem h, List.flatMap_append]
  simp
structure WinOk2 (z : Int) (ts : List (List Int × List (Int × Int) × List DV)) (lo hi re : Int) : Prop where
  re0 : 1 ≤ re
  offs : ∀ t ∈ ts, ∀ x, -re < lawOff t.1 t.2.1 x ∧ lawOff t.1 t.2.1 x < re
  lo0 : lo ≤ -re - 2 * z
  hi0 : re + 2 * z + 1 ≤ hi
  spl : ∀ t ∈ ts, ∀ c ∈ t.2.1, lo + re + 2 * z ≤ c.1 ∧ c.1 + re + 2 * z + 1 ≤ hi
  low : ∀ B : Int, 0 ≤ B → (∀ t ∈ ts, (∀ v ∈ t.1, -B ≤ v ∧ v ≤ B) ∧ ∀ c ∈ t.2.1, -B ≤ c.2 ∧ c.2 ≤ B) → re ≤ B + 1
  wide : ∀ S : Int, 0 ≤ S → (∀ t ∈ ts, ∀ c ∈ t.2.1, -S ≤ c.1 ∧ c.1 ≤ S) → -(S + re + 2 * z) ≤ lo ∧ hi ≤ S + re + 2 * z + 1
def fWindow2 : FD := fun ds n K => ∃ (t0 : List Int × List (Int × Int) × List DV) (tr : List (List Int × List (Int × Int) × List DV)), ds = [.lst ((t0 :: tr).map tabD)] ∧ tr.length ≤ 3 ∧ (∀ t ∈ t0 :: tr, 0 < t.1.length ∧ t.1.length ≤ 12 ∧ t.2.1.length ≤ 60) ∧ ∀ lo hi re, WinOk2 (t0.1.length : Nat) (t0 :: tr) lo hi re → K (.tup [.int lo, .int hi, .int re]) n
section
variable {P : Program} {w : World} {K : PySem.W.Frag} {mg : Str → Option Value} {base : Heap}
theorem scWindow : FnScope ["tables", "size", "spots", "offsets", "table", "reach", "here", "offset"] ["tables"] (defScope sWindow) := ⟨rfl, rfl, rfl, by decide +kernel, rfl, by decide +kernel, by decide +kernel⟩
theorem ok_window2 {f R L : Addr} {fd : FuncData} (F : Fun K "_law_window" "_law_window" sWindow f fd) (T : Blt mg) : FnOk P w K mg base CX0 1 f fd ["tables"] (spD (Wr R L) fWindow2) := by
  refine okD F scWindow (Wr R L) fWindow2 (fun ds n K h => ?_) (fun p cdv A outer s H E hr => ?_)
  · obtain ⟨t0, tr, rfl, _⟩ := h
    rfl
  ·
    refine ⟨_, _, (dss_cons (ds_par3 (i := 1) (j := 2) (l := 3) rfl scWindow.nd rfl rfl rfl (by decide) (by decide) (by decide) rfl rfl rfl (da_cons (de_bQ call_len_seq (by rfl) T.len PySem.boot_len rd_len (dq (de_ixT (de_ixL (dq (dv 0)) de_int) de_int))) (da_cons (de_f (df_lst (da_cons de_int da_nil))) (da_cons (de_f (df_lst (da_cons de_int da_nil))) da_nil))) (by rfl))
      (dss_cons (ds_for [4] PassesOwn.never rfl (di_list (dv 0)) (dg_name (i := 4) scWindow.nd rfl (.inl rfl))
        (dss_cons (ds_set (i := 2) scWindow.nd rfl (.inl rfl) (de_f (df_cat (dq (dv 2)) (dq (de_f (df_lc (g := (gTup K 2 (gCons (gName 6) (gCons (gName 7) gNil)))) (own := [("here", 6), ("offset", 7)]) rfl scWindow.nd (di_list (de_ixT (dv 4) de_int))
          (blkOk_by (N := ["tables", "size", "spots", "offsets", "table", "reach", "here", "offset"]) (sc := defScope sWindow) (by decide +kernel)) (fun _ _ _ _ _ => (dg_tup rfl (dgs_cons (dg_name (i := 6) scWindow.nd rfl (.inl rfl)) (dgs_cons (dg_name (i := 7) scWindow.nd rfl (.inl rfl)) dgs_nil)) (.cons (.cons .nil)))) (fun _ _ _ _ _ => dts_nil)
          (fun _ _ _ _ _ => (dv 6))))))))
        (dss_one (ds_set (i := 3) scWindow.nd rfl (.inl rfl) (de_f (df_cat (dq (de_f (df_cat (dq (dv 3)) (dq (de_ixT (dv 4) de_int))))) (dq (de_f (df_lc (g := (gTup K 2 (gCons (gName 6) (gCons (gName 7) gNil)))) (own := [("here", 6), ("offset", 7)]) rfl scWindow.nd (di_list (de_ixT (dv 4) de_int))
          (blkOk_by (N := ["tables", "size", "spots", "offsets", "table", "reach", "here", "offset"]) (sc := defScope sWindow) (by decide +kernel)) (fun _ _ _ _ _ => (dg_tup rfl (dgs_cons (dg_name (i := 6) scWindow.nd rfl (.inl rfl)) (dgs_cons (dg_name (i := 7) scWindow.nd rfl (.inl rfl)) dgs_nil)) (.cons (.cons .nil)))) (fun _ _ _ _ _ => dts_nil)
          (fun _ _ _ _ _ => (dv 7)))))))))))
      (dss_cons (ds_set (i := 5) scWindow.nd rfl (.inl rfl) (de_op op_add rd_I0 de_int (de_bQ (cr_max rfl) (by rfl) T.max (by decide +kernel) rd_max (dq (de_f (df_lc (own := [("offset", 7)]) rfl scWindow.nd (di_list (dv 3))
          (blkOk_by (N := ["tables", "size", "spots", "offsets", "table", "reach", "here", "offset"]) (sc := defScope sWindow) (by decide +kernel)) (fun _ _ _ _ _ => (dg_name (i := 7) scWindow.nd rfl (.inl rfl))) (fun _ _ _ _ _ => dts_nil)
          (fun _ _ _ _ _ => (de_b call_abs (by rfl) T.abs (by decide +kernel) rd_C1 (da_cons (dv 7) da_nil)))))))))
      (dss_one (ds_ret (de_tup (da_cons (de_op op_sub rd_I0 (de_op op_sub rd_I0 (de_bQ (cr_min rfl) (by rfl) T.min (by decide +kernel) rd_min (dq (dv 2))) (dv 5)) (de_op op_mul rd_I de_int (dv 1))) (da_cons (de_op op_add rd_I0 (de_op op_add rd_I0 (de_op op_add rd_I0 (de_bQ (cr_max rfl) (by rfl) T.max (by decide +kernel) rd_max (dq (dv 2))) (dv 5)) (de_op op_mul rd_I de_int (dv 1))) de_int) (da_cons (dv 5) da_nil))))))))), fun ds n K h => ?_⟩
    obtain ⟨t0, tr, rfl, tl, tk, k⟩ := h
    obtain ⟨ts, ets⟩ : ∃ ts, ts = t0 :: tr := ⟨_, rfl⟩
    have tsl : ts.length ≤ 4 := by rw [ets, List.length_cons]; omega
    have el : (((t0.1.map DV.int).length : Nat) : Int) = (t0.1.length : Nat) := by rw [List.length_map]
    rw [← ets] at tk k ⊢
    have h0 : atI (ts.map tabD) 0 = some (tabD t0) := by rw [ets]; exact atI_nat (j := 0) rfl
    refine ⟨_, h0, _, atI_nat (j := 0) rfl, one1000r, one1000r, ?_⟩
    refine ⟨fun i δ m => ∃ y4, δ = [some (.dat (.lst (ts.map tabD))), some (.dat (.int ((t0.1.map DV.int).length : Nat))), some (.dat (dInt (spW (ts.take i)))), some (.dat (dInt (ofW (ts.take i)))), y4, none, none, none] ∧ (spW (ts.take i)).length ≤ 1 + 60 * i ∧ (ofW (ts.take i)).length ≤ 1 + 72 * i ∧ m = n, ⟨none, rfl, by show 1 ≤ 1 + 60 * 0; omega, by show 1 ≤ 1 + 72 * 0; omega, rfl⟩, ?_, ?_⟩
    · rintro i δ m hi ⟨y4, rfl, l1, l2, rfl⟩
      have hi : i < ts.length := by simpa using hi
      have eg : (ts.map tabD).getD i .non = tabD ts[i] := by
        rw [List.getD_eq_getElem?_getD, List.getElem?_map, List.getElem?_eq_getElem hi]
        rfl
      show dgN 4 ((ts.map tabD).getD i .non) _ _
      rw [eg]
      have e1 := spW_take hi
      have e2 := ofW_take hi
      obtain ⟨_, b12, c60⟩ := tk _ (List.getElem_mem hi)
      generalize ts[i] = t at e1 e2 b12 c60 ⊢
      obtain ⟨bs, cs, rest⟩ := t
      have b12 : bs.length ≤ 12 := b12
      have c60 : cs.length ≤ 60 := c60
      have e1 : spW (ts.take (i + 1)) = spW (ts.take i) ++ cs.map (·.1) := e1
      have e2 : ofW (ts.take (i + 1)) = ofW (ts.take i) ++ (bs ++ cs.map (·.2)) := e2
      generalize spW (ts.take i) = SP at l1 e1 ⊢
      generalize ofW (ts.take i) = OF at l2 e2 ⊢
      refine ⟨_, atI_nat (j := 1) rfl, ?_⟩
      refine ⟨by rw [List.length_map]; omega, fun j acc m1 => acc = (cs.take j).map (fun c => DV.int c.1) ∧ m1 = m, ⟨rfl, rfl⟩, ?_, ?_⟩
      · rintro j acc m1 hj ⟨rfl, rfl⟩
        have hj : j < cs.length := by simpa using hj
        have et : cs.take (j + 1) = cs.take j ++ [cs[j]] := by rw [List.take_add_one, List.getElem?_eq_getElem hj]; rfl
        show dgT (dgCons (dgN 6) (dgCons (dgN 7) dgNil)) ((cs.map dPr).getD j .non) _ _
        rw [getD_prW hj]
        generalize cs[j] = x at et
        exact ⟨fun _ => ⟨by rw [et, List.map_append]; rfl, rfl⟩, (fun z => nomatch z)⟩
      rintro acc m1 ⟨rfl, rfl⟩
      rw [show (cs.map dPr).length = cs.length from List.length_map _, List.take_length]
      refine ⟨by rw [List.length_map, List.length_map]; omega, ?_⟩
      refine ⟨dInt bs, atI_nat (j := 0) rfl, by show (OF.map DV.int).length + (bs.map DV.int).length ≤ 100000; rw [List.length_map, List.length_map]; omega, _, atI_nat (j := 1) rfl, ?_⟩
      refine ⟨by rw [List.length_map]; omega, fun j acc m2 => acc = (cs.take j).map (fun c => DV.int c.2) ∧ m2 = m1, ⟨rfl, rfl⟩, ?_, ?_⟩
      · rintro j acc m2 hj ⟨rfl, rfl⟩
        have hj : j < cs.length := by simpa using hj
        have et : cs.take (j + 1) = cs.take j ++ [cs[j]] := by rw [List.take_add_one, List.getElem?_eq_getElem hj]; rfl
        show dgT (dgCons (dgN 6) (dgCons (dgN 7) dgNil)) ((cs.map dPr).getD j .non) _ _
        rw [getD_prW hj]
        generalize cs[j] = x at et
        exact ⟨fun _ => ⟨by rw [et, List.map_append]; rfl, rfl⟩, (fun z => nomatch z)⟩
      rintro acc m2 ⟨rfl, rfl⟩
      rw [show (cs.map dPr).length = cs.length from List.length_map _, List.take_length]
      have f1 : dInt (SP ++ cs.map (·.1)) = .lst (SP.map DV.int ++ cs.map (fun c => DV.int c.1)) := by unfold dInt; rw [List.map_append, List.map_map]; rfl
      have f2 : dInt (OF ++ (bs ++ cs.map (·.2))) = .lst (OF.map DV.int ++ bs.map DV.int ++ cs.map (fun c => DV.int c.2)) := by unfold dInt; rw [List.map_append, List.map_append, List.map_map, List.append_assoc]; rfl
      refine ⟨by rw [List.length_append, List.length_map, List.length_map, List.length_map]; omega, some (.dat (tabD (bs, cs, rest))), ?_, ?_, ?_, rfl⟩
      · rw [e1, e2, f1, f2]
        rfl
      · rw [e1, List.length_append, List.length_map]
        omega
      · rw [e2, List.length_append, List.length_append, List.length_map]
        omega
    rintro δ m ⟨y4, rfl, sl, ol, rfl⟩
    rw [show (ts.map tabD).length = ts.length from List.length_map _, List.take_length] at sl ol ⊢
    obtain ⟨SP, hSP⟩ : ∃ SP, SP = spW ts := ⟨_, rfl⟩
    obtain ⟨OF, hOF⟩ : ∃ OF, OF = ofW ts := ⟨_, rfl⟩
    rw [← hSP, ← hOF]
    rw [← hSP] at sl
    rw [← hOF] at ol
    have sp0 : 0 < SP.length := by rw [hSP]; exact Nat.succ_pos _
    have of0 : 0 < OF.length := by rw [hOF]; exact Nat.succ_pos _
    refine ⟨by rw [List.length_map]; omega, fun j acc m1 => acc = ((OF.take j).map fun i => if i < 0 then -i else i).map DV.int ∧ m1 = m, ⟨rfl, rfl⟩, ?_, ?_⟩
    · rintro j acc m1 hj ⟨rfl, rfl⟩
      have hj2 : j < OF.length := by simpa using hj
      have et : OF.take (j + 1) = OF.take j ++ [OF[j]] := by rw [List.take_add_one, List.getElem?_eq_getElem hj2]; rfl
      show dgN 7 ((OF.map DV.int).getD j .non) _ _
      rw [getD_intr hj2, show OF.getD j 0 = OF[j] by rw [List.getD_eq_getElem?_getD, List.getElem?_eq_getElem hj2]; rfl]
      generalize OF[j] = x at et
      refine ⟨fun _ => ⟨?_, rfl⟩, (fun z => nomatch z)⟩
      rw [et, List.map_append, List.map_append]
      rfl
    rintro acc m1 ⟨rfl, rfl⟩
    rw [show (OF.map DV.int).length = OF.length from List.length_map _, List.take_length]
    refine ⟨_, rfl, by rw [List.length_map]; omega, fun M hM hMx => ?_⟩
    refine ⟨SP, rfl, by omega, fun mi hmi hml => ?_⟩
    refine ⟨.inl ⟨by decide, by decide⟩, SP, rfl, by omega, fun mx hmx hmu => ⟨.inl ⟨by decide, by decide⟩, (by decide : 3 ≤ 1000), ?_⟩⟩
    rw [el]
    have inO : ∀ t ∈ ts, ∀ v ∈ t.1 ++ t.2.1.map (·.2), v ∈ OF := fun t ht v hv => by
      rw [hOF]
      exact List.mem_cons_of_mem _ (List.mem_flatMap.mpr ⟨t, ht, hv⟩)
    have inS : ∀ t ∈ ts, ∀ c ∈ t.2.1, c.1 ∈ SP := fun t ht c hc => by
      rw [hSP]
      exact List.mem_cons_of_mem _ (List.mem_flatMap.mpr ⟨t, ht, List.mem_map.mpr ⟨c, hc, rfl⟩⟩)
    have mx2 : ∀ v ∈ OF, -M ≤ v ∧ v ≤ M := fun v hv => by
      have := hMx _ (List.mem_map.mpr ⟨v, hv, rfl⟩)
      split at this <;> omega
    have M0 : 0 ≤ M := by
      have := mx2 0 (by rw [hOF]; exact List.mem_cons_self)
      omega
    have s0 : mi ≤ 0 ∧ 0 ≤ mx := ⟨hml 0 (by rw [hSP]; exact List.mem_cons_self), hmu 0 (by rw [hSP]; exact List.mem_cons_self)⟩
    refine k _ _ _ ⟨by omega, fun t ht x => ?_, by omega, by omega, fun t ht c hc => ?_, fun B b0 h1 => ?_, fun S s00 h1 => ?_⟩
    · rcases lawOff_mem (cs := t.2.1) (t := x) (tk t ht).1 with h | ⟨c, hc, h⟩
      · have := mx2 _ (inO t ht _ (List.mem_append_left _ h))
        omega
      · have := mx2 c.2 (inO t ht _ (List.mem_append_right _ (List.mem_map.mpr ⟨c, hc, rfl⟩)))
        omega
    · have a := hml c.1 (inS t ht c hc)
      have b := hmu c.1 (inS t ht c hc)
      omega
    · obtain ⟨v, hv, e⟩ := List.mem_map.mp hM
      have : -B ≤ v ∧ v ≤ B := by
        rw [hOF] at hv
        rcases List.mem_cons.mp hv with rfl | h
        · omega
        · obtain ⟨t, ht, hv⟩ := List.mem_flatMap.mp h
          rcases List.mem_append.mp hv with hv | hv
          · exact (h1 t ht).1 v hv
          · obtain ⟨c, hc, rfl⟩ := List.mem_map.mp hv
            exact (h1 t ht).2 c hc
      split at e <;> omega
    · have key : ∀ x ∈ SP, -S ≤ x ∧ x ≤ S := fun x hx => by
        rw [hSP] at hx
        rcases List.mem_cons.mp hx with rfl | h
        · omega
        · obtain ⟨t, ht, hx⟩ := List.mem_flatMap.mp h
          obtain ⟨c, hc, rfl⟩ := List.mem_map.mp hx
          exact h1 t ht c hc
      have a := key mi hmi
      have b := key mx hmx
      omega
end

theorem low_week {bs : List Int} {cs : List (Int × Int)} (l0 : 0 < bs.length) (t : Int) : ∃ d : Int, val bs [] t = val bs cs (t - d) + d ∧ val bs [] (t + 1) = val bs cs (t + 1 - d) + d := by
  obtain ⟨lo, h1, h2⟩ := low_of cs (t - 1)
  have per : ∀ n : Nat, ∀ t, val bs [] (t - n * (bs.length : Nat)) = val bs [] t - n * (bs.length : Nat) := fun n => by
    induction n with
    | zero => intro t; simp
    | succ n ih =>
      intro t
      have e : t - ((n + 1 : Nat) : Int) * ((bs.length : Nat) : Int) = t - (n : Int) * (bs.length : Nat) - (bs.length : Nat) := by
        rw [show ((n + 1 : Nat) : Int) = (n : Int) + 1 from rfl, Int.add_mul, Int.one_mul]
        omega
      have e2 := lawOff_prev (bs := bs) (cs := []) l0 (t := t - (n : Int) * (bs.length : Nat)) (fun z => nomatch z)
      have := ih t
      have e3 : ((n + 1 : Nat) : Int) * ((bs.length : Nat) : Int) = (n : Int) * (bs.length : Nat) + (bs.length : Nat) := by
        rw [show ((n + 1 : Nat) : Int) = (n : Int) + 1 from rfl, Int.add_mul, Int.one_mul]
      rw [e]
      unfold val at this ⊢
      omega
  have lowv : ∀ x, x ≤ lo → val bs cs x = val bs [] x := fun x hx => by
    unfold val
    rw [lawOff_lo fun c hc => by have := h2 c hc; omega]
    rfl
  have n0 : ((t + 1 - lo).toNat : Int) ≤ ((t + 1 - lo).toNat : Int) * ((bs.length : Nat) : Int) := by
    have := Int.mul_le_mul_of_nonneg_left (show (1 : Int) ≤ ((bs.length : Nat) : Int) by omega) (show (0 : Int) ≤ ((t + 1 - lo).toNat : Int) by omega)
    omega
  refine ⟨((t + 1 - lo).toNat : Int) * ((bs.length : Nat) : Int), ?_, ?_⟩
  · rw [lowv _ (by omega), per]
    omega
  · rw [lowv _ (by omega), per]
    omega
theorem up_low {bs : List Int} {cs : List (Int × Int)} (l0 : 0 < bs.length) (u : Up bs cs) : Up bs [] := fun t => by
  obtain ⟨d, h1, h2⟩ := low_week (cs := cs) l0 t
  have := u (t - d)
  rw [show t - d + 1 = t + 1 - d by omega] at this
  omega

/-! ### k43: two tables near 0, moved together -/
theorem ne_strs {a b : V} (g : (!decide (a = b)) = true) : a ≠ b := fun e => by
  rw [decide_eq_true e] at g
  cases g
theorem turn_dn {b1 b2 : List Int} {c1 c2 : List (Int × Int)} {z : Nat} {m re t : Int} (l1 : b1.length = z) (l2 : b2.length = z) (z0 : 0 < z) (o1 : ∀ x, -re < lawOff b1 c1 x ∧ lawOff b1 c1 x < re) (o2 : ∀ x, -re < lawOff b2 c2 x ∧ lawOff b2 c2 x < re)
    (h1 : ∀ c ∈ c1, m ≤ c.1) (h2 : ∀ c ∈ c2, m ≤ c.1) (ht : t + re ≤ m) (re0 : 1 ≤ re) : TurnP b1 c1 b2 c2 (t - z) ↔ TurnP b1 c1 b2 c2 t := by
  have s1 : ∀ x, x < m → val b1 c1 (x - z) = val b1 c1 x - z := fun x hx => by
    have := off_week (bs := b1) (cs := c1) (t := x) (by omega) fun hm => by
      obtain ⟨c, hc, e⟩ := List.mem_map.mp hm
      have := h1 c hc
      omega
    rw [l1] at this
    unfold val
    omega
  have s2 : ∀ x, x < m → val b2 c2 (x - z) = val b2 c2 x - z := fun x hx => by
    have := off_week (bs := b2) (cs := c2) (t := x) (by omega) fun hm => by
      obtain ⟨c, hc, e⟩ := List.mem_map.mp hm
      have := h2 c hc
      omega
    rw [l2] at this
    unfold val
    omega
  have v1 := o1 t
  have v2 := o2 t
  unfold TurnP
  rw [s1 t (by omega), s2 t (by omega), s2 (val b1 c1 t) (by unfold val; omega), s1 (val b2 c2 t) (by unfold val; omega)]
  omega
theorem turn_up {b1 b2 : List Int} {c1 c2 : List (Int × Int)} {z : Nat} {m re t : Int} (l1 : b1.length = z) (l2 : b2.length = z) (z0 : 0 < z) (o1 : ∀ x, -re < lawOff b1 c1 x ∧ lawOff b1 c1 x < re) (o2 : ∀ x, -re < lawOff b2 c2 x ∧ lawOff b2 c2 x < re)
    (h1 : ∀ c ∈ c1, c.1 ≤ m) (h2 : ∀ c ∈ c2, c.1 ≤ m) (ht : m + re ≤ t) (re0 : 1 ≤ re) : TurnP b1 c1 b2 c2 (t + z) ↔ TurnP b1 c1 b2 c2 t := by
  have s1 : ∀ x, m < x + z → val b1 c1 (x + z) = val b1 c1 x + z := fun x hx => by
    have := off_week (bs := b1) (cs := c1) (t := x + z) (by omega) fun hm => by
      obtain ⟨c, hc, e⟩ := List.mem_map.mp hm
      have := h1 c hc
      omega
    rw [l1, show x + (z : Int) - (z : Nat) = x by omega] at this
    unfold val
    omega
  have s2 : ∀ x, m < x + z → val b2 c2 (x + z) = val b2 c2 x + z := fun x hx => by
    have := off_week (bs := b2) (cs := c2) (t := x + z) (by omega) fun hm => by
      obtain ⟨c, hc, e⟩ := List.mem_map.mp hm
      have := h2 c hc
      omega
    rw [l2, show x + (z : Int) - (z : Nat) = x by omega] at this
    unfold val
    omega
  have v1 := o1 t
  have v2 := o2 t
  unfold TurnP
  rw [s1 t (by omega), s2 t (by omega), s2 (val b1 c1 t) (by unfold val; omega), s1 (val b2 c2 t) (by unfold val; omega)]
  omega
/-- a table near 0 -/
structure NearT (zn : Nat) (bs : List Int) (cs : List (Int × Int)) : Prop where
  len : bs.length = zn
  asc : cs.Pairwise fun a b => a.1 < b.1
  up : Up bs cs
  many : cs.length ≤ 24
  bb : ∀ v ∈ bs, -1500 ≤ v ∧ v ≤ 1500
  cb : ∀ c ∈ cs, (-250 ≤ c.1 ∧ c.1 ≤ 250) ∧ -1500 ≤ c.2 ∧ c.2 ≤ 1500
theorem nearT_rep {zn : Nat} {v : Int} (z0 : 0 < zn) (h : -1500 ≤ v ∧ v ≤ 1500) (z12 : zn ≤ 12) : NearT zn (List.replicate zn v) [] := by
  refine ⟨List.length_replicate, .nil, fun t => ?_, by decide, fun x hx => by rw [List.eq_of_mem_replicate hx]; exact h, fun c hc => nomatch hc⟩
  unfold val
  rw [(delay_ok z0 z12).2, (delay_ok z0 z12).2]
  omega
theorem atI_rg {f : Int → Int} {a b k : Int} (h0 : 0 ≤ k) (h1 : k < b - a) : atI (((rgI a b).map f).map DV.int) k = some (.int (f (a + k))) := by
  obtain ⟨n, rfl⟩ : ∃ n : Nat, k = (n : Int) := ⟨k.toNat, by omega⟩
  refine atI_nat (j := n) ?_
  have : (rgI a b)[n]? = some (a + n) := by
    unfold rgI
    rw [List.getElem?_map, List.getElem?_range (by omega)]
    rfl
  rw [List.getElem?_map, List.getElem?_map, this]
  rfl
theorem turn_moved {b1 b2 : List Int} {c1 c2 : List (Int × Int)} {far : Int} (l1 : 0 < b1.length) (l2 : b2.length = b1.length) (h : far % (b1.length : Int) = 0) (t : Int) : TurnP b1 (mvR far c1) b2 (mvR far c2) t ↔ TurnP b1 c1 b2 c2 (t - far) := by
  have e1 : ∀ x, val b1 (mvR far c1) x = val b1 c1 (x - far) + far := fun x => by
    unfold val
    rw [mvR_off l1 h]
    omega
  have e2 : ∀ x, val b2 (mvR far c2) x = val b2 c2 (x - far) + far := fun x => by
    unfold val
    rw [mvR_off (by omega) (by rw [l2]; exact h)]
    omega
  unfold TurnP
  rw [e1 t, e2 t, e2, e1, show val b1 c1 (t - far) + far - far = val b1 c1 (t - far) by omega, show val b2 c2 (t - far) + far - far = val b2 c2 (t - far) by omega]
  omega
theorem turn_tell {b1 b2 : List Int} {c1 c2 d1 d2 : List (Int × Int)} (h1 : ∀ t, lawOff b1 d1 t = lawOff b1 c1 t) (h2 : ∀ t, lawOff b2 d2 t = lawOff b2 c2 t) (t : Int) : TurnP b1 d1 b2 d2 t ↔ TurnP b1 c1 b2 c2 t := by
  unfold TurnP val
  rw [h1, h2, h2, h1]
theorem turn_weeks {zn : Nat} {b2 : List Int} {v : Int} (z0 : 0 < zn) (z12 : zn ≤ 12) (l2 : b2.length = zn) (t : Int) : ¬ TurnP (List.replicate zn (zn * v)) [] b2 [] t := by
  have dv := (delay_ok (v := (zn : Int) * v) z0 z12).2
  have e : lawOff b2 [] (t + zn * v) = lawOff b2 [] t := by
    show wkOff b2 _ = wkOff b2 _
    unfold wkOff
    rw [l2, show t + (zn : Int) * v = t + v * (zn : Int) by rw [Int.mul_comm], Int.add_mul_emod_self_right]
  unfold TurnP val
  rw [dv, dv, e]
  omega
section
variable {P : Program} {w : World} {K : PySem.W.Frag} {mg : Str → Option Value} {base : Heap}
theorem scNear : FnScope ["well", "size", "far", "kind", "one", "two", "low", "high", "reach", "first", "second", "odd", "spot", "at", "skip", "there", "left", "right", "owed", "told", "weeks", "plain"] ["well", "size", "far"] (defScope sNear) := ⟨rfl, rfl, rfl, by decide +kernel, rfl, by decide +kernel, by decide +kernel⟩
theorem ok_near43 {f R L fT fB fM fV fN fW fLi fU fI fD pD fY : Addr} {mc : Value} {fd dT dB dM dV dN dW dLi dU dI dD dY : FuncData} (F : Fun K "_law_near" "_law_near" sNear f fd) (ZR : RuC K mg R) (T : Blt mg) (Dp : At P w K mg base 1 "_law_dip" ["well", "span"] spDip fT dT) (Tb : At P w K mg base 3 "_law_table" ["well", "size", "far", "leap"] (spD (Wr R L) fTableN) fB dB)
    (Mv : At P w K mg base 1 "_law_moved" ["table", "far"] (spD (Wr R L) fMoved) fV dV) (Md : At P w K mg base 8 "_law_made" ["table"] (spD (Wr R L) fMade) fM dM) (Nm : At P w K mg base 2 "_law_nearest_moved" ["odd", "low", "size", "far"] (spD (Wr R L) fNearMv) fN dN) (Wi : At P w K mg base 1 "_law_window" ["tables"] (spD (Wr R L) fWindow2) fW dW)
    (Li : At P w K mg base 2 "_law_list" ["table", "low", "high"] (spD (Wr R L) fListL) fLi dLi) (Tu : At P w K mg base 8 "parting_in_turn" ["rule", "other"] (spD (Wr R L) fTurn) fU dU) (kTu : KBn K dU ["rule", "other"] 0 ["other", "rule"] (gSw Value.none) (gSw V.non))
    (MKR : Mk K R fI) (GRI : FnOk P w K mg base CX0 5 fI dI ["self", "base", "changes"] (spRuI R L K)) (bRI : Binds K dI ["self", "base", "changes"] [])
    (cr : ClX.CRead K R mc) (cm : ClX.CMet K R mc "delay" pD fD) (GD : FnOk P w K mg base CX0 7 fD dD ["cls", "week", "number"] (spD (Wr R L) fDelay)) (bD : Binds K dD ["cls", "week", "number"] [])
    (Sy : AtG P w K mg base 7 "_law_stays" ["made", "table"] (spD (Wr R L) fStays) fY dY) : FnG P w K mg base 9 f fd ["well", "size", "far"] (spD (Wr R L) (fPart43 1150)) := by
  refine okGD F scNear (Wr R L) (fPart43 1150) (fun ds n K h => ?_) (fun p cdv A outer s H E hgd hr => ?_)
  · obtain ⟨z, far, rfl, _⟩ := h
    rfl
  · have hu := hr.units
    have hr1 : Room 1 _ := hr.mono (by decide)
    have hr2 : Room 2 _ := hr.mono (by decide)
    have hr3 : Room 3 _ := hr.mono (by decide)
    have hr6 : Room 6 _ := hr.mono (by decide)
    have hr7 : Room 7 _ := hr.mono (by decide)
    have hr8 : Room 8 _ := hr.mono (by decide)
    refine ⟨_, _, (dss_cons (ds_set (i := 3) scNear.nd rfl (.inl rfl) (de_call Dp.ok rd_dip hr1 Dp.at_ Dp.kp Dp.bi (da_cons (dv 0) (da_cons de_int da_nil))))
      (dss_cons (ds_par (i := 4) (j := 5) rfl scNear.nd rfl rfl (by decide) rfl rfl (da_cons (de_call Tb.ok (rd_spD rfl) hr3 Tb.at_ Tb.kp Tb.bi (da_cons (dv 0) (da_cons (dv 1) (da_cons de_int (da_cons de_int da_nil))))) (da_cons (de_call Tb.ok (rd_spD rfl) hr3 Tb.at_ Tb.kp Tb.bi (da_cons (dv 0) (da_cons (dv 1) (da_cons de_int (da_cons de_int da_nil))))) da_nil)) (by rfl))
      (dss_cut (ds_if (dt_cmp op_eq rd_Eq (dv 3) de_int)
        (dss_one (ds_set (i := 5) scNear.nd rfl (.inl rfl) (de_tup (da_cons (de_f (df_rep (dq (de_f (df_lst (da_cons (de_op op_sub rd_I0 (de_call Dp.ok rd_dip hr1 Dp.at_ Dp.kp Dp.bi (da_cons (dv 0) (da_cons de_int da_nil))) de_int) da_nil)))) (dv 1))) (da_cons (de_f (df_lst da_nil)) (da_cons (de_f (df_lst (da_cons de_int da_nil))) da_nil))))))
        dss_nil)
      (dss_cut (ds_if (dt_cmp op_eq rd_Eq (dv 3) de_int)
        (dss_one (ds_set (i := 5) scNear.nd rfl (.inl rfl) (de_tup (da_cons (de_f (df_rep (dq (de_f (df_lst (da_cons (de_op op_mul rd_I (dv 1) (de_op op_sub rd_I0 (de_call Dp.ok rd_dip hr1 Dp.at_ Dp.kp Dp.bi (da_cons (dv 0) (da_cons de_int da_nil))) de_int)) da_nil)))) (dv 1))) (da_cons (de_f (df_lst da_nil)) (da_cons (de_f (df_lst (da_cons de_int da_nil))) da_nil))))))
        dss_nil)
      (dss_cut (ds_if (dt_cmp op_eq rd_Eq (dv 3) de_int)
        (dss_one (ds_set (i := 5) scNear.nd rfl (.inl rfl) (dv 4)))
        dss_nil)
      (dss_cons (ds_asg [6, 7, 8] (de_call Wi.ok (rd_spD rfl) hr1 Wi.at_ Wi.kp Wi.bi (da_cons (de_f (df_lst (da_cons (dv 4) (da_cons (dv 5) da_nil)))) da_nil)) (dg_tup rfl (dgs_cons (dg_name (i := 6) scNear.nd rfl (.inl rfl)) (dgs_cons (dg_name (i := 7) scNear.nd rfl (.inl rfl)) (dgs_cons (dg_name (i := 8) scNear.nd rfl (.inl rfl)) dgs_nil))) (.cons (.cons (.cons .nil)))))
      (dss_cons (ds_par (i := 9) (j := 10) rfl scNear.nd rfl rfl (by decide) rfl rfl (da_cons (de_call Li.ok (rd_spD rfl) hr2 Li.at_ Li.kp Li.bi (da_cons (dv 4) (da_cons (de_op op_sub rd_I0 (dv 6) (dv 8)) (da_cons (de_op op_add rd_I0 (dv 7) (dv 8)) da_nil)))) (da_cons (de_call Li.ok (rd_spD rfl) hr2 Li.at_ Li.kp Li.bi (da_cons (dv 5) (da_cons (de_op op_sub rd_I0 (dv 6) (dv 8)) (da_cons (de_op op_add rd_I0 (dv 7) (dv 8)) da_nil)))) da_nil)) (by rfl))
      (dss_cons (ds_setO (i := 11) scNear.nd rfl (.inl rfl) (df_lst da_nil))
      (dss_cons (ds_for [12] PassesOwn.never rfl (di_range2 (by rfl) T.range (da_cons (dv 6) (da_cons (dv 7) da_nil))) (dg_name (i := 12) scNear.nd rfl (.inl rfl))
        (dss_cons (ds_par (i := 13) (j := 14) rfl scNear.nd rfl rfl (by decide) rfl rfl (da_cons (de_op op_add rd_I0 (de_op op_sub rd_I0 (dv 12) (dv 6)) (dv 8)) (da_cons (de_op op_sub rd_I0 (dv 8) (dv 6)) da_nil)) (by rfl))
        (dss_cons (ds_set (i := 15) scNear.nd rfl (.inl rfl) (de_ixL (dq (dv 10)) (de_op op_add rd_I0 (de_ixL (dq (dv 9)) (dv 13)) (dv 14))))
        (dss_one (ds_app 11 (he := (de_cmp op_ne rd_Ne (dv 15) (de_ixL (dq (dv 9)) (de_op op_add rd_I0 (de_ixL (dq (dv 10)) (dv 13)) (dv 14))))))))))
      (dss_cons (ds_par (i := 4) (j := 5) rfl scNear.nd rfl rfl (by decide) rfl rfl (da_cons (de_call Mv.ok (rd_spD rfl) hr1 Mv.at_ Mv.kp Mv.bi (da_cons (dv 4) (da_cons (dv 2) da_nil))) (da_cons (de_call Mv.ok (rd_spD rfl) hr1 Mv.at_ Mv.kp Mv.bi (da_cons (dv 5) (da_cons (dv 2) da_nil))) da_nil)) (by rfl))
      (dss_frz 11 (dss_cons (ds_par3 (i := 16) (j := 17) (l := 18) rfl scNear.nd rfl rfl rfl (by decide) (by decide) (by decide) rfl rfl rfl (da_cons (de_call Md.ok (rd_spD rfl) hr8 Md.at_ Md.kp Md.bi (da_cons (dv 4) da_nil)) (da_cons (de_call Md.ok (rd_spD rfl) hr8 Md.at_ Md.kp Md.bi (da_cons (dv 5) da_nil)) (da_cons (de_call Nm.ok (rd_spD rfl) hr2 Nm.at_ Nm.kp Nm.bi (da_cons (dv 11) (da_cons (dv 6) (da_cons (dv 1) (da_cons (dv 2) da_nil))))) da_nil))) (by rfl))
      (dss_cons (ds_set (i := 19) scNear.nd rfl (.inl rfl) (de_f (df_lst (da_cons (de_call Tu.ok (rd_spD rfl) hr8 Tu.at_ Tu.kp Tu.bi (da_cons (dv 16) (da_cons (dv 17) da_nil))) (da_cons (de_call Tu.ok (rd_spD rfl) hr8 Tu.at_ Tu.kp Tu.bi (da_cons (dv 17) (da_cons (dv 16) da_nil))) (da_cons (de_callSw Tu.ok (rd_spD rfl) hr8 Tu.at_ Tu.kp kTu (dkw_cons (dv 17) (dkw_cons (dv 16) dkw_nil))) da_nil))))))
      (dss_cut (ds_if (DW.dt (dw_or (dt_cmp op_ne rd_Ne (de_b (call_rep2 hgd hu) (by rfl) T.repr (by decide +kernel) rd_repr (da_cons (dv 19) da_nil)) (de_b (call_rep2 hgd hu) (by rfl) T.repr (by decide +kernel) rd_repr (da_cons (de_f (df_rep (dq (de_f (df_lst (da_cons (dv 18) da_nil)))) de_int)) da_nil))) (dw_or1 (DW.dt (dw_and (dt_cmp op_eq rd_Eq (dv 3) de_int) (dw_and1 (dt_cmp op_notN rd_NotN (dv 18) de_non)))))))
        (dss_one (ds_ret de_bl))
        dss_nil)
      (dss_cons (ds_set (i := 20) scNear.nd rfl (.inl rfl) (de_cmeth ZR.at_ cr cm GD bD (rd_spD rfl) hr7 (da_cons (dv 1) (da_cons (de_op op_mul rd_I (dv 1) (de_op op_sub rd_I0 (de_call Dp.ok rd_dip hr1 Dp.at_ Dp.kp Dp.bi (da_cons (dv 0) (da_cons (de_op op_mul rd_I de_int (de_op op_pow rd_I de_int de_int)) da_nil))) (de_op op_pow rd_I de_int de_int))) da_nil))))
      (dss_cons (ds_set (i := 21) scNear.nd rfl (.inl rfl) (let A := (da_cons (de_f (df_tQ call_list_of (by rfl) T.list (by decide +kernel) rd_list (dq (de_ixT (dv 5) de_int)))) (da_cons (de_f (df_lst da_nil)) da_nil)); de_make MKR GRI (trE_rule A.tr) hr6 ZR.at_ bRI A.pa))
      (dss_cons (ds_if (DW.dt (dw_or (dt_cmp op_notN rd_NotN (de_call Tu.ok (rd_spD rfl) hr8 Tu.at_ Tu.kp Tu.bi (da_cons (dv 16) (da_cons (de_call Md.ok (rd_spD rfl) hr8 Md.at_ Md.kp Md.bi (da_cons (dv 4) da_nil)) da_nil))) de_non) (dw_or1 (dt_cmp op_notN rd_NotN (de_call Tu.ok (rd_spD rfl) hr8 Tu.at_ Tu.kp Tu.bi (da_cons (dv 20) (da_cons (dv 21) da_nil))) de_non))))
        (dss_one (ds_ret de_bl))
        dss_nil)
      (dss_one (ds_ret (de_and (de_callG Sy.ok (rd_spD rfl) hgd hr7 Sy.at_ Sy.kp Sy.bi (da_cons (dv 16) (da_cons (dv 4) da_nil))) (de_one (de_callG Sy.ok (rd_spD rfl) hgd hr7 Sy.at_ Sy.kp Sy.bi (da_cons (dv 17) (da_cons (dv 5) da_nil)))))))))))))))))))))))), fun ds n K h => ?_⟩
    obtain ⟨z, far, rfl, hn, hz, hfz, hfb, k⟩ := h
    obtain ⟨zn, rfl⟩ : ∃ zn : Nat, z = (zn : Int) := ⟨z.toNat, by omega⟩
    have z0 : 0 < zn := by omega
    have z12 : zn ≤ 12 := by omega
    have er : ∀ v : Int, DV.lst ((List.replicate ((zn : Int)).toNat [DV.int v]).flatten) = dInt (List.replicate zn v) := fun v => by
      rw [show ((zn : Int)).toNat = zn from rfl, flat_rep]
      unfold dInt
      rw [List.map_replicate]
    refine ⟨by omega, by decide, by decide, fun kd k0 k1 => ?_⟩
    refine ⟨zn, 0, 4, rfl, by omega, by omega, rfl, by omega, fun b1 o1 tl1 m1 tk1 tn1 hm1 => ⟨zn, 0, 4, rfl, by omega, by omega, rfl, by omega, fun b2 o2 tl2 m2 tk2 tn2 hm2 => ?_⟩⟩
    have nt1 : NearT zn b1 o1 := ⟨by have := tk1.len; omega, tk1.asc, tk1.up, tk1.many, fun v hv => by have := tn1.lb v hv; omega, fun c hc => by have := tn1.cb c hc; omega⟩
    have nt2 : NearT zn b2 o2 := ⟨by have := tk2.len; omega, tk2.asc, tk2.up, tk2.many, fun v hv => by have := tn2.lb v hv; omega, fun c hc => by have := tn2.cb c hc; omega⟩
    refine ⟨fun δ m' => ∃ b o tl, δ = [some (.dat .pool), some (.dat (.int (zn : Int))), some (.dat (.int far)), some (.dat (.int kd)), some (.dat (.tup [dInt b1, dPrs o1, dInt tl1])), some (.dat (.tup [dInt b, dPrs o, dInt tl])), none, none, none, none, none, none, none, none, none, none, none, none, none, none, none, none] ∧ NearT zn b o ∧ m' ≤ m2 + 1, ⟨rfl, fun g => ?_, fun g => ⟨b2, o2, tl2, rfl, nt2, by omega⟩⟩, ?_⟩
    · refine ⟨by omega, by decide, by decide, fun d d0 d1 => ⟨one1000r, by omega, by omega, ?_, Nat.zero_le _, one1000r, three1000r, ?_⟩⟩
      · show 1 * ((zn : Int)).toNat ≤ 100000
        omega
      · have d2 : d < 19 := d1
        refine ⟨List.replicate zn (d - 9), [], [0], ?_, nearT_rep z0 (by omega) z12, by omega⟩
        rw [← er]
        rfl
    rintro δ m' ⟨b, o, tl, rfl, nt, hm'⟩
    refine ⟨fun δ m' => ∃ b o tl, δ = [some (.dat .pool), some (.dat (.int (zn : Int))), some (.dat (.int far)), some (.dat (.int kd)), some (.dat (.tup [dInt b1, dPrs o1, dInt tl1])), some (.dat (.tup [dInt b, dPrs o, dInt tl])), none, none, none, none, none, none, none, none, none, none, none, none, none, none, none, none] ∧ NearT zn b o ∧ m' ≤ m2 + 2, ⟨rfl, fun g => ?_, fun g => ⟨b, o, tl, rfl, nt, by omega⟩⟩, ?_⟩
    · refine ⟨by omega, by decide, by decide, fun d d0 d1 => ⟨.inl ⟨by omega, by omega⟩, one1000r, by omega, by omega, ?_, Nat.zero_le _, one1000r, three1000r, ?_⟩⟩
      · show 1 * ((zn : Int)).toNat ≤ 100000
        omega
      · have d2 : d < 7 := d1
        have u1 := Int.mul_le_mul_of_nonneg_left (show d - 3 ≤ 3 by omega) (show (0 : Int) ≤ (zn : Int) by omega)
        have u2 := Int.mul_le_mul_of_nonneg_left (show -3 ≤ d - 3 by omega) (show (0 : Int) ≤ (zn : Int) by omega)
        refine ⟨List.replicate zn ((zn : Int) * (d - 3)), [], [0], ?_, nearT_rep z0 (by omega) z12, by omega⟩
        rw [← er]
        rfl
    clear hm' nt
    rintro δ m' ⟨b, o, tl, rfl, nt, hm'⟩
    refine ⟨fun δ m' => ∃ b o tl, δ = [some (.dat .pool), some (.dat (.int (zn : Int))), some (.dat (.int far)), some (.dat (.int kd)), some (.dat (.tup [dInt b1, dPrs o1, dInt tl1])), some (.dat (.tup [dInt b, dPrs o, dInt tl])), none, none, none, none, none, none, none, none, none, none, none, none, none, none, none, none] ∧ NearT zn b o ∧ (kd = 2 → b = b1 ∧ o = o1) ∧ m' ≤ m2 + 2, ⟨rfl, fun g => ⟨b1, o1, tl1, rfl, nt1, fun _ => ⟨rfl, rfl⟩, hm'⟩, fun g => ⟨b, o, tl, rfl, nt, fun e => absurd (congrArg V.int e) (of_decide_eq_false g), hm'⟩⟩, ?_⟩
    clear nt2 tn2 tk2
    rintro δ m' ⟨b2, o2, tl2, rfl, nt2, same, hm3⟩
    have l1 := nt1.len
    have l2 := nt2.len
    have q1 := nt1.many
    have q2 := nt2.many
    refine ⟨two1000r, (b1, o1, [dInt tl1]), [(b2, o2, [dInt tl2])], rfl, (by show 1 ≤ 3; decide), fun t ht => ?_, fun lo hi re w => ?_⟩
    · rcases List.mem_cons.mp ht with rfl | ht
      · show 0 < b1.length ∧ b1.length ≤ 12 ∧ o1.length ≤ 60
        omega
      · rw [List.mem_singleton.mp ht]
        show 0 < b2.length ∧ b2.length ≤ 12 ∧ o2.length ≤ 60
        omega
    have in1 : (b1, o1, [dInt tl1]) ∈ [(b1, o1, [dInt tl1]), (b2, o2, [dInt tl2])] := List.mem_cons_self ..
    have in2 : (b2, o2, [dInt tl2]) ∈ [(b1, o1, [dInt tl1]), (b2, o2, [dInt tl2])] := List.mem_cons_of_mem _ (List.mem_cons_self ..)
    have re0 := w.re0
    have of1 : ∀ x, -re < lawOff b1 o1 x ∧ lawOff b1 o1 x < re := w.offs _ in1
    have of2 : ∀ x, -re < lawOff b2 o2 x ∧ lawOff b2 o2 x < re := w.offs _ in2
    have lo0 : lo ≤ -re - 2 * (b1.length : Nat) := w.lo0
    have hi0 : re + 2 * (b1.length : Nat) + 1 ≤ hi := w.hi0
    have sp1 : ∀ c ∈ o1, lo + re + 2 * (b1.length : Nat) ≤ c.1 ∧ c.1 + re + 2 * (b1.length : Nat) + 1 ≤ hi := w.spl _ in1
    have sp2 : ∀ c ∈ o2, lo + re + 2 * (b1.length : Nat) ≤ c.1 ∧ c.1 + re + 2 * (b1.length : Nat) + 1 ≤ hi := w.spl _ in2
    have each : ∀ {P : List Int × List (Int × Int) × List DV → Prop}, P (b1, o1, [dInt tl1]) → P (b2, o2, [dInt tl2]) → ∀ t ∈ [(b1, o1, [dInt tl1]), (b2, o2, [dInt tl2])], P t := fun {P} p1 p2 t ht => by
      rcases List.mem_cons.mp ht with rfl | ht
      · exact p1
      · rw [List.mem_singleton.mp ht]
        exact p2
    have reB := w.low 1500 (by decide) (each ⟨nt1.bb, fun c hc => (nt1.cb c hc).2⟩ ⟨nt2.bb, fun c hc => (nt2.cb c hc).2⟩)
    have wid : -(250 + re + 2 * ((b1.length : Nat) : Int)) ≤ lo ∧ hi ≤ 250 + re + 2 * ((b1.length : Nat) : Int) + 1 := w.wide 250 (by decide) (each (fun c hc => (nt1.cb c hc).1) fun c hc => (nt2.cb c hc).1)
    clear w each in1 in2
    rw [l1] at lo0 hi0 sp1 sp2 wid
    refine ⟨b1, o1, [dInt tl1], lo - re, hi + re, rfl, by omega, by omega, nt1.asc, by omega, by omega, by omega, b2, o2, [dInt tl2], lo - re, hi + re, rfl, by omega, by omega, nt2.asc, by omega, by omega, by omega, Nat.zero_le _, ?_⟩
    have ga : ∀ {b : List Int} {o : List (Int × Int)} (k : Int), lo - re ≤ k → k < hi + re → atI (((rgI (lo - re) (hi + re)).map (val b o)).map DV.int) (k - (lo - re)) = some (.int (val b o k)) := fun {b o} k h1 h2 => by
      rw [atI_rg (by omega) (by omega), show lo - re + (k - (lo - re)) = k by omega]
    refine ⟨⟨by omega, by omega, by omega, by omega⟩, fun i δ m3 => ∃ y12 y13 y14 y15 : Option SV, δ = [some (.dat .pool), some (.dat (.int (zn : Int))), some (.dat (.int far)), some (.dat (.int kd)), some (.dat (.tup [dInt b1, dPrs o1, dInt tl1])), some (.dat (.tup [dInt b2, dPrs o2, dInt tl2])), some (.dat (.int lo)), some (.dat (.int hi)), some (.dat (.int re)), some (.dat (dInt ((rgI (lo - re) (hi + re)).map (val b1 o1)))), some (.dat (dInt ((rgI (lo - re) (hi + re)).map (val b2 o2)))), some (.own (((List.range i).map fun (j : Nat) => !decide (val b2 o2 (val b1 o1 (lo + j)) = val b1 o1 (val b2 o2 (lo + j)))).map DV.bl)), y12, y13, y14, y15, none, none, none, none, none, none] ∧ m3 = m', ⟨none, none, none, none, rfl, rfl⟩, ?_, ?_⟩
    · rintro i δ m3 hi' ⟨y12, y13, y14, y15, rfl, rfl⟩
      have hi2 : i < (hi - lo).toNat := hi'
      obtain ⟨sp, hsp⟩ : ∃ sp : Int, lo + (i : Int) = sp := ⟨_, rfl⟩
      have v1 := of1 sp
      have v2 := of2 sp
      have a1 := ga (b := b1) (o := o1) sp (by omega) (by omega)
      have a2 := ga (b := b2) (o := o2) sp (by omega) (by omega)
      have a3 := ga (b := b2) (o := o2) (val b1 o1 sp) (by unfold val; omega) (by unfold val; omega)
      have a4 := ga (b := b1) (o := o1) (val b2 o2 sp) (by unfold val; omega) (by unfold val; omega)
      have f1 : lo + (i : Int) - lo + re = sp - (lo - re) := by omega
      have f2 : ∀ x : Int, x + (re - lo) = x - (lo - re) := fun x => by omega
      refine ⟨.int (val b1 o1 sp), by show atI _ (lo + (i : Int) - lo + re) = _; rw [f1]; exact a1, .int (val b2 o2 (val b1 o1 sp)), by show atI _ (val b1 o1 sp + (re - lo)) = _; rw [f2]; exact a3, ?_⟩
      refine ⟨.int (val b2 o2 sp), by show atI _ (lo + (i : Int) - lo + re) = _; rw [f1]; exact a2, .int (val b1 o1 (val b2 o2 sp)), by show atI _ (val b2 o2 sp + (re - lo)) = _; rw [f2]; exact a4, rfl, by rw [List.length_map, List.length_map, List.length_range]; omega, ?_⟩
      refine ⟨some (.dat (.int (lo + (i : Int)))), some (.dat (.int (lo + (i : Int) - lo + re))), some (.dat (.int (re - lo))), some (.dat (.int (val b2 o2 (val b1 o1 sp)))), ?_, rfl⟩
      have eb : (!decide (V.int (val b2 o2 (val b1 o1 sp)) = V.int (val b1 o1 (val b2 o2 sp)))) = (!decide (val b2 o2 (val b1 o1 (lo + (i : Int))) = val b1 o1 (val b2 o2 (lo + (i : Int))))) := by
        rw [hsp]
        congr 1
        exact decide_eq_decide.mpr ⟨fun h => V.int.inj h, fun h => congrArg V.int h⟩
      have eO : ((List.range (i + 1)).map fun (j : Nat) => !decide (val b2 o2 (val b1 o1 (lo + j)) = val b1 o1 (val b2 o2 (lo + j)))).map DV.bl = (((List.range i).map fun (j : Nat) => !decide (val b2 o2 (val b1 o1 (lo + j)) = val b1 o1 (val b2 o2 (lo + j)))).map DV.bl) ++ [DV.bl (!decide (V.int (val b2 o2 (val b1 o1 sp)) = V.int (val b1 o1 (val b2 o2 sp))))] := by
        rw [List.range_succ, List.map_append, List.map_append, eb]
        rfl
      rw [eO]
      rfl
    rintro δ m3 ⟨y12, y13, y14, y15, rfl, rfl⟩
    have tL1 : TabL b1 o1 (tell b1 o1).2 := tabL_of (by omega) (by omega) q1 nt1.asc nt1.up (fun v hv => by have := nt1.bb v hv; omega) (fun c hc => by have := nt1.cb c hc; omega)
    have tL2 : TabL b2 o2 (tell b2 o2).2 := tabL_of (by omega) (by omega) q2 nt2.asc nt2.up (fun v hv => by have := nt2.bb v hv; omega) (fun c hc => by have := nt2.cb c hc; omega)
    have fz1 : far % (b1.length : Int) = 0 := by rw [l1]; exact hfz
    have fz2 : far % (b2.length : Int) = 0 := by rw [l2]; exact hfz
    have tM1 := tabL_moved tL1 fz1 hfb (fun c hc => by have := nt1.cb c hc; omega)
    have tM2 := tabL_moved tL2 fz2 hfb (fun c hc => by have := nt2.cb c hc; omega)
    have pmv := turn_moved (b1 := b1) (b2 := b2) (c1 := o1) (c2 := o2) (far := far) (by omega) (by omega) fz1
    refine ⟨b1, o1, [dInt tl1], far, rfl, by omega, b2, o2, [dInt tl2], far, rfl, by omega, ?_⟩
    have sameM : kd = 2 → b2 = b1 ∧ mvR far o2 = mvR far o1 := fun e => by
      obtain ⟨e1, e2⟩ := same e
      exact ⟨e1, by rw [e2]⟩
    generalize hM1 : mvR far o1 = c1 at tM1 pmv sameM ⊢
    generalize hM2 : mvR far o2 = c2 at tM2 pmv sameM ⊢
    refine ⟨b1, c1, [], rfl, tM1.l0, tM1.l1, by have := tM1.many; omega, tM1.asc, tM1.up, ?_⟩
    refine ⟨b2, c2, [], rfl, tM2.l0, tM2.l1, by have := tM2.many; omega, tM2.asc, tM2.up, ?_⟩
    have wp : WinP (TurnP b1 o1 b2 o2) lo hi (zn : Int) := ⟨by omega, by omega, fun t ht => turn_dn (m := lo + re + 2 * (zn : Int)) (re := re) l1 l2 z0 of1 of2 (fun c hc => (sp1 c hc).1) (fun c hc => (sp2 c hc).1) (by omega) re0, fun t ht => turn_up (m := hi - re - 2 * (zn : Int) - 1) (re := re) l1 l2 z0 of1 of2 (fun c hc => by have := (sp1 c hc).2; omega) (fun c hc => by have := (sp2 c hc).2; omega) (by omega) re0⟩
    refine ⟨TurnP b1 o1 b2 o2, _, lo, hi, (zn : Int), far, rfl, by rw [List.length_map, List.length_range]; omega, by rw [List.length_map, List.length_range]; omega, by omega, wp, fun i b hb => ?_, fun ow how => ?_⟩
    · rw [List.getElem?_map] at hb
      cases hr2 : (List.range (hi - lo).toNat)[i]? with
      | none => rw [hr2] at hb; cases hb
      | some j =>
        rw [hr2] at hb
        obtain ⟨jl, rfl⟩ := List.getElem?_eq_some_iff.mp hr2
        rw [List.getElem_range] at hb
        cases hb
        unfold TurnP
        simp
    have how := how.congr fun t => (pmv t).symm
    obtain ⟨TT1, e1⟩ : ∃ TT, TT = (tell b1 c1).2 := ⟨_, rfl⟩
    obtain ⟨TT2, e2⟩ : ∃ TT, TT = (tell b2 c2).2 := ⟨_, rfl⟩
    rw [← e1] at tM1 ⊢
    rw [← e2] at tM2 ⊢
    have howT : OwOk (TurnP b1 TT1 b2 TT2) ow := how.congr fun t => (turn_tell tM1.tv tM2.tv t).symm
    have ll : b2.length = b1.length := by omega
    have w1 : TT1.length * b1.length ≤ 24 * 12 := Nat.mul_le_mul tM1.tl tM1.l1
    have w2 : TT2.length * b1.length ≤ 24 * 12 := Nat.mul_le_mul tM2.tl tM1.l1
    have w3 : TT1.length * b2.length ≤ 24 * 12 := Nat.mul_le_mul tM1.tl tM2.l1
    have w4 : TT2.length * b2.length ≤ 24 * 12 := Nat.mul_le_mul tM2.tl tM2.l1
    have t1 := tM1.tl
    have t2 := tM2.tl
    refine ⟨b1, TT1, b2, TT2, rfl, tM1.ro, tM2.ro, ll, by omega, by omega, fun r hr => ?_⟩
    obtain rfl : ow = r := howT.uniq hr
    clear hr
    refine ⟨b2, TT2, b1, TT1, rfl, tM2.ro, tM1.ro, ll.symm, by omega, by omega, fun r hr => ?_⟩
    obtain rfl : ow = r := (howT.congr fun t => (TurnP.symm t).symm).uniq hr
    clear hr
    refine ⟨b1, TT1, b2, TT2, rfl, tM1.ro, tM2.ro, ll, by omega, by omega, fun r hr => ?_⟩
    obtain rfl : ow = r := howT.uniq hr
    clear hr
    have bnd : ∀ x, NearP (TurnP b1 TT1 b2 TT2) x → -(10 ^ 39) ≤ x ∧ x ≤ 10 ^ 39 := fun x hx => by
      have hx2 := (hx.congr fun t => turn_tell tM1.tv tM2.tv t).congr pmv
      rcases wp.spot hx2 with h | h <;> omega
    have r1 := ow_rp howT bnd
    have p1 := howT.pu
    have rT : Rp (DV.lst [ow, ow, ow]).py 400 40 := (Rp.list (.cons r1 (.cons r1 (.cons r1 .nil)))).mono (by decide) (by decide)
    have pT : (DV.lst [ow, ow, ow]).pu = true := (puAll_iff _).mpr fun x hx => by
      have : x = ow := by simpa using hx
      rw [this]
      exact p1
    refine ⟨three1000r, ?_⟩
    obtain ⟨OD, hOD⟩ : ∃ OD : DV, OD = .lst (((List.range (hi - lo).toNat).map fun (j : Nat) => !decide (val b2 o2 (val b1 o1 (lo + j)) = val b1 o1 (val b2 o2 (lo + j)))).map DV.bl) := ⟨_, rfl⟩
    refine ⟨fun δ m4 => δ = [some (.dat .pool), some (.dat (.int (zn : Int))), some (.dat (.int far)), some (.dat (.int kd)), some (.dat (.tup [dInt b1, dPrs c1])), some (.dat (.tup [dInt b2, dPrs c2])), some (.dat (.int lo)), some (.dat (.int hi)), some (.dat (.int re)), some (.dat (dInt ((rgI (lo - re) (hi + re)).map (val b1 o1)))), some (.dat (dInt ((rgI (lo - re) (hi + re)).map (val b2 o2)))), some (.dat OD), y12, y13, y14, y15, some (.dat (.obj (.rul b1 TT1))), some (.dat (.obj (.rul b2 TT2))), some (.dat ow), some (.dat (.lst [ow, ow, ow])), none, none] ∧ m4 = m3, ⟨⟨400, 40, rT, by decide, by decide⟩, pT, one1000r, by decide, by decide, (by decide : 1 * 3 ≤ 100000), ⟨400, 40, rT, by decide, by decide⟩, pT, rfl, fun g => absurd rfl (ne_strs g), fun _ => ⟨rfl, fun g => ⟨rfl, fun g2 => ?_, fun _ => ⟨by rw [hOD]; rfl, rfl⟩⟩, fun _ => ⟨(fun z => nomatch z), fun _ => ⟨by rw [hOD]; rfl, rfl⟩⟩⟩⟩, ?_⟩
    · exfalso
      obtain ⟨s1, s2⟩ := sameM (V.int.inj (of_decide_eq_true g))
      have : ow = .non := by
        rcases how with ⟨e, _⟩ | ⟨x, _, hx⟩
        · exact e
        · have := hx.1
          rw [s1, s2] at this
          exact absurd rfl this
      rw [this] at g2
      cases g2
    rintro δ m4 ⟨rfl, rfl⟩
    have ten29 : (10 : Int) ^ (29 : Int).toNat = 10 ^ 29 := rfl
    refine ⟨⟨by decide, by decide, by decide⟩, .inl ⟨by decide, by decide⟩, by omega, by decide, by decide, fun v v0 v1 => ⟨⟨by decide, by decide, by decide⟩, .inl ⟨by omega, by omega⟩, ?_⟩⟩
    refine ⟨(zn : Int), (zn : Int) * (v - 10 ^ (29 : Int).toNat), rfl, by omega, by omega, ?_⟩
    generalize v - 10 ^ (29 : Int).toNat = v'
    rw [show ((zn : Int)).toNat = zn from rfl]
    have rz : RuOk (List.replicate zn ((zn : Int) * v')) [] := (delay_ok z0 z12).1
    have lz : (List.replicate zn ((zn : Int) * v')).length = zn := List.length_replicate
    have up2 := up_low tM2.l0 tM2.up
    have rs2 : RisesC b2 [] := up2.rises tM2.l0 .nil
    have ro2 : RuOk b2 [] := ruOk_of (cs := []) tM2.l0 tM2.l1 .nil rs2
    refine ⟨_, atI_nat (j := 0) rfl, ?_⟩
    refine ⟨by decide, b2, [], rfl, tM2.l0, tM2.l1, by decide, .nil, rs2, ?_⟩
    refine ⟨b1, c1, [], rfl, tM1.l0, tM1.l1, by have := tM1.many; omega, tM1.asc, tM1.up, ?_⟩
    rw [← e1]
    refine ⟨b1, TT1, b1, TT1, rfl, tM1.ro, tM1.ro, rfl, by omega, by omega, fun r hr => ?_⟩
    obtain rfl : DV.non = r := OwOk.uniq (p := TurnP b1 TT1 b1 TT1) (.inl ⟨rfl, fun t ht => ht rfl⟩) hr
    clear hr
    refine ⟨rfl, (fun g => nomatch g), fun _ => ?_⟩
    refine ⟨List.replicate zn ((zn : Int) * v'), [], b2, [], rfl, rz, ro2, by omega, by show 0 + 0 * _ ≤ 500; omega, by show 0 + 0 * _ ≤ 500; omega, fun r hr => ?_⟩
    obtain rfl : DV.non = r := OwOk.uniq (p := TurnP (List.replicate zn ((zn : Int) * v')) [] b2 []) (.inl ⟨rfl, turn_weeks z0 z12 l2⟩) hr
    clear hr
    refine ⟨rfl, (fun g => nomatch g), fun _ => ?_⟩
    subst e1
    subst e2
    refine ⟨b1, c1, [], rfl, tM1.l0, tM1.l1, by have := tM1.many; omega, tM1.asc, tM1.up, fun v hv => by have := tM1.bb v hv; omega, fun c hc => by have := tM1.cb c hc; omega, ?_⟩
    refine ⟨fun _ => ?_, fun g => nomatch g⟩
    refine ⟨b2, c2, [], rfl, tM2.l0, tM2.l1, by have := tM2.many; omega, tM2.asc, tM2.up, fun v hv => by have := tM2.bb v hv; omega, fun c hc => by have := tM2.cb c hc; omega, ?_⟩
    exact k _ (by omega)
end

/-! ### sorted(set(xs)) of a long list with few different ints -/
theorem nodup_few : ∀ {l us : List Int}, l.Nodup → (∀ k ∈ l, k ∈ us) → l.length ≤ us.length
  | [], _, _, _ => Nat.zero_le _
  | x :: l, us, nd, h => by
    have hx := h x (List.mem_cons_self ..)
    have n2 := List.nodup_cons.mp nd
    have := nodup_few (l := l) (us := us.erase x) n2.2 fun k hk => (List.mem_erase_of_ne (fun (e : k = x) => n2.1 (e ▸ hk))).mpr (h k (List.mem_cons_of_mem _ hk))
    have := List.length_erase_of_mem hx
    have := List.length_pos_of_mem hx
    rw [List.length_cons]
    omega
theorem setR_few {w : World} {h : Heap} {a : Addr} {S : Int → Bool} {n : Nat} {us : List Int} (R : SetR w h a S n) (cov : ∀ k, S k = true → k ∈ us) : n ≤ us.length := by
  obtain ⟨o, es, ep, t, _, _, _, _, nd, hm, _, _, hn, _⟩ := R
  have := nodup_few nd fun k hk => cov k ((hm k).mpr hk)
  rw [List.length_map, Array.length_toList, hn] at this
  exact this
section
variable {P : Program} {w : World} {A : Around} {E : Value → Shared → Prop} {s : Shared}
theorem upd_few {I : Addr} {fp wr : List Addr} {G : Array GenState → Array GenState → Prop} {n : Nat} {Pv : Nat → Value → Prop} {St : Nat → Shared → Prop} {R : Result → Shared → Prop} (walk : WalksS P w A.in1 I fp wr G n Pv St) (S : Addr) (out : S ∉ fp) (ks us : List Int) (cov : ∀ k ∈ ks, k ∈ us) (few : us.length + 1 < scanBound) (hn : n = ks.length) (hval : ∀ i v, Pv i v → ∃ k t, ks[i]? = some k ∧ v = .int k t)
    (j i : Nat) (s : Shared) (hj : n - i = j) (hi : i ≤ n) (hst : St i s) (hS : ∃ c, SetR w s.heap S (fun x => decide (x ∈ ks.take i)) c)
    (hR : ∀ s' c, Moved (S :: wr) G s s' → c ≤ us.length → SetR w s'.heap S (fun x => decide (x ∈ ks)) c → R (.ok (.ret .none)) s') : codeAny (model P w) A (.builtin "set.update.loop" ⟨[.ref S, .ref I], []⟩) R s := by
  have nw : S ∉ wr := fun h => out (walk.sub _ h)
  have sub : ∀ b ∈ wr, b ∈ S :: wr := fun b hb => List.mem_cons_of_mem _ hb
  have covt : ∀ i x, (decide (x ∈ ks.take i)) = true → x ∈ us := fun i x h => cov x (List.mem_of_mem_take (of_decide_eq_true h))
  induction j generalizing i s with
  | zero =>
    have hin : i = n := by omega
    obtain ⟨c, hc⟩ := hS
    refine codeAny_builtin F.entry_set_update_loop ?_
    rw [Around.under_plainId F.plain_set_update_loop _]
    show wpAny _ A.in1 (pyNext (.ref I) >>= _) _ _ s
    refine wpAny_bind (walk.done s _ _ (hin ▸ hst) fun s' mv => ?_)
    rw [List.take_of_length_le (by omega)] at hc
    exact wpAny_pure (hR s' c (mv.mono sub) (setR_few hc fun k hk => cov k (of_decide_eq_true hk)) (hc.at fun o e => mv.heap S o nw e))
  | succ j ih =>
    have lt : i < n := by omega
    obtain ⟨c, hc⟩ := hS
    have cu := setR_few hc (covt i)
    refine codeAny_builtin F.entry_set_update_loop ?_
    rw [Around.under_plainId F.plain_set_update_loop _]
    show wpAny _ A.in1 (pyNext (.ref I) >>= _) _ _ s
    refine wpAny_bind (walk.item i s _ _ lt hst fun v s' hP hst' mv => ?_)
    obtain ⟨z, t, hz, rfl⟩ := hval i v hP
    have hc' := hc.at (h' := s'.heap) fun o e => mv.heap S o nw e
    show wpAny _ A.in1 (holding [Value.int z t] (setAdd S (.int z t)) >>= _) _ _ s'
    refine wpAny_bind (wpAny_holding ?_)
    unfold setAdd
    refine wpAny_holding (wpAny_bind ((intKind P w).pyHash (k := z) (intKind_is _ _ _ _) (setR_add_hashed (s := { s' with toks := s'.toks + 1 }) hc' (by omega) fun h' but hc2 => ?_)))
    have hc3 := hc2.congr (S' := fun x => decide (x ∈ ks.take (i + 1))) fun x => by
      rw [List.take_add_one, hz]
      simp [List.mem_append]
    refine wpAny_pure ⟨plainId_quiet F.plain_set_update_loop _, ih (i + 1) _ (by omega) lt (walk.frame _ s' _ _ hst' (Nat.le_succ _) fun b hb o e => ?_) ⟨_, hc3⟩ fun s'' c2 mv2 h2 h3 => ?_⟩
    · rw [but.2 b (fun h : b = S => out (by rw [← h]; exact hb))]
      exact e
    · refine hR s'' c2 (Moved.trans walk.gtrans ((mv.mono sub).then_heap (Nat.le_succ _) fun b o hb e => ?_) mv2) h2 h3
      rw [but.2 b (fun h : b = S => hb (by rw [h]; exact List.mem_cons_self))]
      exact e
set_option maxHeartbeats 3200000 in
theorem call_setD {l : Addr} {items : Array Value} (ks : List Int) {Q : Value → Shared → Prop} (noErr : A.handled = none) (at_ : s.heap.IsList l items) (iA : IntsAre items.toList ks) (us : List Int) (cov : ∀ k ∈ ks, k ∈ us) (few : us.length + 1 < scanBound)
    (h : ∀ (h' : Heap) (tk c : Nat), SetR w h' s.heap.objs.size (fun j => decide (j ∈ ks)) c → c ≤ us.length → (∀ b o, s.heap.get? b = some o → h'.get? b = some o) → Q (.ref s.heap.objs.size) { s with heap := h', toks := tk }) :
    wpAny (model P w) A (call (.type "set") [.ref l]) Q E s := by
  have sz : items.size = ks.length := Array.length_toList.symm.trans (IntsAre.length iA)
  obtain ⟨c, tl, mro⟩ := F.called_set.mro
  have mk1 := F.called_set.made
  have mk2 := F.called_set.sub
  refine wpAny_call (codeAny_of_tree ?_)
  show wpAny _ _ (callAny (.type "set") _) _ _ _
  refine wpAny_pure ⟨Code.quiet_builtin _ (by decide +kernel), codeAny_builtin F.entry_type_call ?_⟩
  rw [Around.under_plain (weight_type_call_type "set" [.ref l] []) rfl]
  have mk3 := F.called_set.notType
  have mk4 := F.called_set.canCreate
  have mk5 := F.typeCall_set_1 (.ref l)
  repeat (any_goals (first | assumption | wp_step))
  refine codeAny_mono (code_set_led1 (.ref l) (E := E) (Q₁ := fun obj sa => obj = .ref s.heap.objs.size ∧ sa = { s with heap := s.heap.push { cls := .type "set", dict := none, data := .set #[] 0 (.fresh 0 0 (!w.params.followText "set-order")) } }) ⟨rfl, rfl⟩) fun r sa made => ?_
  rcases r with e | fl
  · exact made
  rcases fl with _ | _ | _ | obj
  iterate 3 exact made.elim
  obtain ⟨rfl, rfl⟩ := made
  generalize grown : s.heap.push { cls := .type "set", dict := none, data := .set #[] 0 (.fresh 0 0 (!w.params.followText "set-order")) } = g0
  have here : g0.get? s.heap.objs.size = some { cls := .type "set", dict := none, data := .set #[] 0 (.fresh 0 0 (!w.params.followText "set-order")) } := by rw [← grown]; exact Heap.get?_push_size _ rfl
  have kept0 : ∀ b o, s.heap.get? b = some o → g0.get? b = some o := fun b o e => by rw [← grown]; exact Heap.get?_push_of_some _ e
  have total : g0.objs.size = s.heap.objs.size + 1 := by rw [← grown]; exact Heap.size_push ..
  have isSet : Shared.TypeIs { s with heap := g0 } (.ref s.heap.objs.size) "set" := ⟨_, here, rfl⟩
  have look := F.called_set.init.lookup
  have bnd := F.called_set.init.bind (.ref s.heap.objs.size)
  repeat (any_goals (first | assumption | wp_step))
  refine codeAny_mono (codeAny_call_builtin (R := wants (fun r sb => r = .none ∧ ∃ h' tk c, sb = { s with heap := h', toks := tk } ∧ SetR w h' s.heap.objs.size (fun j => decide (j ∈ ks)) c ∧ c ≤ us.length ∧ ∀ b o, s.heap.get? b = some o → h'.get? b = some o) E)
    F.called_set.init.plain F.entry_set_init (check_set_init_1 isSet ?_)) fun r sb done => ?_
  · obtain ⟨ol, eol, cl, nl, dl⟩ := at_
    obtain ⟨oc, od, odt, osl⟩ := ol
    simp only at cl dl
    subst cl
    subst dl
    have eol0 : g0.get? l = some { cls := .type "list", dict := od, data := .seq items nl, slots := osl } := kept0 _ _ eol
    have sub1 := F.sub_list_set
    have sub2 := F.sub_list_frozenset
    have noDict : (Value.type "list" == Value.type "dict") = false := by decide
    have list0 : g0.IsList l items := ⟨_, eol0, rfl, nl, rfl⟩
    unfold Builtin.«set.__init__» noKeywords Builtin.Frozenset.updateFrom
    generalize iterIs : pyIter = PI
    wp_walk
    subst iterIs
    refine wpAny_pyIter_list list0 ?_
    refine wpAny_bind (wpAny_runValue ?_)
    have lS : l < s.heap.objs.size := Heap.lt_size eol
    have noErr3 : A.in1.in1.in1.handled = none := by simp [noErr]
    have ne1 : l ≠ g0.objs.size := by
      rw [total]
      exact Nat.ne_of_lt (Nat.lt_succ_of_lt lS)
    have outside : s.heap.objs.size ∉ [g0.objs.size, l] := by
      rw [total]
      simp only [List.mem_cons, List.not_mem_nil, or_false, not_or]
      exact ⟨Nat.ne_of_lt (Nat.lt_succ_self _), Nat.ne_of_gt lS⟩
    refine upd_few ((Walks.list noErr3 _ l ne1 items).toS) s.heap.objs.size outside ks us cov few sz (fun i v e => ?_) (items.size - 0) 0 _ (by omega) (Nat.zero_le _) ⟨⟨_, Heap.get?_push_size _ rfl, rfl, rfl⟩, list0.push _⟩
      ⟨0, setR_new_at (Heap.get?_push_of_some _ here)⟩ (fun s' c' mv le isR => ?_)
    · have lt : i < ks.length := by
        rw [← sz]
        exact (Array.getElem?_eq_some_iff.mp e).1
      obtain ⟨t, et⟩ := PyProof.Rows.IntsAre.int_at iA i v (by rw [Array.getElem?_toList]; exact e)
      refine ⟨ks[i], t, List.getElem?_eq_getElem lt, ?_⟩
      rw [et, List.getD_eq_getElem?_getD, List.getElem?_eq_getElem lt] <;> rfl
    · obtain ⟨h', gn, dr, tk', oss⟩ := s'
      obtain rfl : gn = s.gens := mv.gens
      obtain rfl : dr = s.drawn := mv.drawn
      obtain rfl : oss = s.os := mv.os
      show wpAny _ _ _ _ _ _
      refine wpAny_pure ?_
      show wpAny _ _ (ret Value.none) _ _ _
      refine wpAny_pure ⟨rfl, h', tk', c', rfl, isR, le, fun b o e => mv.heap b o ?_ (Heap.get?_push_of_some _ (kept0 b o e))⟩
      have lt := Heap.lt_size e
      simp only [List.mem_cons, List.not_mem_nil, or_false, not_or]
      exact ⟨Nat.ne_of_lt lt, by rw [total]; exact Nat.ne_of_lt (Nat.lt_succ_of_lt lt)⟩
  · rcases r with e | fl
    · exact done
    rcases fl with _ | _ | _ | v
    iterate 3 exact done.elim
    obtain ⟨rfl, h', tk, c', rfl, isR, le, kp⟩ := done
    repeat (any_goals (first | assumption | wp_step))
    exact h _ _ _ isR le kp
end
section
variable {X : Cx}
def rSetD (X : Cx) : List V → Hp → VK → Prop := fun xs H Q => ∃ (l : Addr) (ks : List Int), xs = [.ref l] ∧ SqL X.K H l (ks.map V.int) ∧ ∃ us : List Int, (∀ k ∈ ks, k ∈ us) ∧ us.length + 1 < scanBound ∧
  ∀ (a : Addr) (n : Nat), H a = none → n ≤ us.length → Q (.ref a) (upd H a (SetO X.w a (fun j => decide (j ∈ ks)) n))
theorem cr_setD (calm : X.calm = true) : CallR X (.type "set") (rSetD X) := by
  intro pins s σ H xs us Q I r h
  obtain ⟨l, ks, rfl, hs, us', cov, few, q⟩ := h
  obtain ⟨its, rv, hl, _⟩ := I.list hs
  rw [Vals.ref1 r]
  refine call_setD ks (I.ok.hd calm) hl.isList rv.ints us' cov few fun h' tk c isR le kp => ?_
  exact ⟨.ref s.heap.objs.size, _, I.laid (t' := tk) kp (Nat.le_refl _) (setO_new isR), rfl, q _ c (I.hok.fresh (Nat.le_refl _)) le⟩
end
section
variable {X : Cx} {W : Wo} {e : Expr} {ta : TA} {dA : TDA} {p p2 pos pos2 : Pos}
def dSSD (a : TDA) : TDA := fun δ n K => a δ n fun ds m => DV.intsOf ds fun xs => ∃ us : List Int, (∀ k ∈ xs, k ∈ us) ∧ us.length ≤ 4000 ∧ ∀ ys : List Int, ys.Pairwise (· < ·) → (∀ k, k ∈ ys ↔ k ∈ xs) → ys.length ≤ us.length → K (ys.map DV.int) m
theorem dssd_tr {t : TE} (hc : X.calm = true) (ha : TrQ W t dA) : TrF W (tCB (rSortedSetI X.w) (tCons (tCB (rSetD X) (tCons t tNil)) tNil)) (dSSD dA) := fun B Φ M σ H δ n Q K ok c h =>
  ha B Φ M σ H δ n _ _ ok (fun ds m q vs H1 f1 p1 hq nb ra h => by
    obtain ⟨xs, rfl, us, cov, lx, h⟩ := h
    rw [ra.ints] at hq
    refine ⟨q, xs, rfl, SqL.of hq, us, cov, Nat.lt_of_le_of_lt (Nat.succ_le_succ lx) (by decide), fun a z na zl => ?_⟩
    refine ⟨a, fun j => decide (j ∈ xs), z, rfl, upd_same, Nat.le_trans (Nat.le_trans zl lx) (by decide), fun ns b asc mem nl nbn => ?_⟩
    have ba : b ≠ a := fun w => by
      rw [w, upd_same] at nbn
      cases nbn
    have nb1 : H1 b = none := by
      rw [upd_ne ba] at nbn
      exact nbn
    refine c _ _ _ _ _ ((f1.upd (.inl (none_fr f1 p1 na))).upd (.inl (none_fr f1 p1 nb1))) (pl_new (pl_new p1 na) nbn) (none_fr f1 p1 nb1) upd_same (repA_ints ns) (h ns asc (fun k => ?_) (by omega))
    rw [mem k]
    exact decide_eq_true_iff) h
theorem df_SSD {t : TE} (hc : X.calm = true) (hg : Gl X "sorted") (hm : X.mg "sorted" = none) (hg2 : Gl X "set") (hm2 : X.mg "set" = none) (ha : DQ X W e t dA)
    (hs : starEach [e] X.env = (false, eval e X.env) :: starEach [] X.env := by rfl) (hs2 : starEach [.Call (.Name "set" p2) [e] [] pos2] X.env = (false, eval (.Call (.Name "set" p2) [e] [] pos2) X.env) :: starEach [] X.env := by rfl) (hpl : (backTo pos (starEach [] X.env)).any (·.1) = false := by rfl) (hpl2 : (backTo pos2 (starEach [] X.env)).any (·.1) = false := by rfl) :
    DF X W (.Call (.Name "sorted" p) [.Call (.Name "set" p2) [e] [] pos2] [] pos) (tCB (rSortedSetI X.w) (tCons (tCB (rSetD X) (tCons t tNil)) tNil)) (dSSD dA) :=
  ⟨pe_callB (cr_sortedSetI hc) hg hm (by decide +kernel) (pa_cons (pe_callTy (cr_setD hc) hg2 hm2 (by decide +kernel) (pa_cons ha.pe pa_nil hs) (by decide) (by decide) hs hpl2) pa_nil hs2) (by decide) (by decide) hs2 hpl, dssd_tr hc ha.tr⟩
end

/-! ### a, b = e, [..] with a list of one's own -/
section
variable {X : Cx} {W : Wo}
def dPar2O (i j : Nat) (a : TD) (b : TDA) : TDS := fun DD δ n => a δ n fun x m => b δ m fun ys m2 => DD.nx ((δ.set i (some (.dat x))).set j (some (.own ys))) m2
theorem ds_par2O {i j : Nat} {x y : Str} {a b : Expr} {ta tb : TE} {da : TD} {db : TDA} {px py pt pos : Pos} {kt k2 pt2} (hc : X.calm = true) (hN : X.N.Nodup) (hi : X.N[i]? = some x) (hj : X.N[j]? = some y) (hij : i ≠ j)
    (hx : X.env.scope.names.lookup x = some .local) (hy : X.env.scope.names.lookup y = some .local) (ha : DE X W a ta da) (hb : DF X W b tb db)
    (hw : swappedStores [.Tuple [.Name x px, .Name y py] kt pt] (.Tuple [a, b] k2 pt2) X.env = pure (some [x, y]))
    (hs : swapsWithSole [.Tuple [.Name x px, .Name y py] kt pt] (.Tuple [a, b] k2 pt2) pos.line X.env = pure false := by rfl)
    (s1 : starEach [a, b] X.env = (false, eval a X.env) :: starEach [b] X.env := by rfl) (s2 : starEach [b] X.env = (false, eval b X.env) :: starEach [] X.env := by rfl) :
    DS X W (.Assign [.Tuple [.Name x px, .Name y py] kt pt] (.Tuple [a, b] k2 pt2) pos) (tPar i j (tCons ta (tCons tb tNil))) (dPar2O i j da db) :=
  ⟨ps_par hc hN hi hj hij hx hy (pa_cons ha.pe (pa_cons hb.pe pa_nil s2) s1) hw hs, fun B Φ M σ H δ n D DD ok sm q =>
  ha.tr B Φ M σ H δ n _ _ ok (fun r m v H1 f1 p1 ra q => hb.tr B Φ M σ H1 δ m _ _ (ok.expr f1 p1) (fun ys m2 q2 vs2 H2 f2 p2 n2 h2 r2 q => by
    exact ⟨v, .ref q2, rfl, sm.nx _ _ _ _ _ (((ok.expr f1 p1).set ra i).setOwn f2 p2 n2 h2 r2 j) q⟩) q) q⟩
end

/-! ### k43: lowered tables; the steps of two tables -/
def lowR (d : Int) (cs : List (Int × Int)) : List (Int × Int) := cs.map fun c => (c.1, c.2 - d)
theorem lowR_len (d : Int) (cs : List (Int × Int)) : (lowR d cs).length = cs.length := List.length_map _
theorem lowR_off {bs : List Int} {cs : List (Int × Int)} (d : Int) (l0 : 0 < bs.length) (t : Int) : lawOff (bs.map (· - d)) (lowR d cs) t = lawOff bs cs t - d := by
  have := lawOff_moved (far := 0) (up := -d) (cs := cs) l0 (Int.zero_emod _) t
  have e1 : bs.map (· - d) = bs.map (· + -d) := rfl
  have e2 : lowR d cs = cs.map fun c => (c.1 + 0, c.2 + -d) := by
    unfold lowR
    refine List.map_congr_left fun c _ => ?_
    rw [Int.add_zero]
    rfl
  rw [e1, e2, this, Int.sub_zero]
  omega
theorem lowR_up {bs : List Int} {cs : List (Int × Int)} (d : Int) (l0 : 0 < bs.length) (u : Up bs cs) : Up (bs.map (· - d)) (lowR d cs) := fun t => by
  have := u t
  unfold val at this ⊢
  rw [lowR_off d l0, lowR_off d l0]
  omega
theorem lowR_asc {cs : List (Int × Int)} (d : Int) (a : cs.Pairwise fun a b => a.1 < b.1) : (lowR d cs).Pairwise fun a b => a.1 < b.1 := List.pairwise_map.mpr (a.imp fun h => h)
theorem lowR_take (d : Int) (cs : List (Int × Int)) (k : Nat) : (lowR d cs).take k = lowR d (cs.take k) := by
  unfold lowR
  rw [List.map_take]
def fLowered : FD := fun ds n K => ∃ b bt cs x, ds = [.tup [dInt (b :: bt), dPrs cs, x]] ∧ bt.length ≤ 12 ∧ cs.length ≤ 1000 ∧ K (.tup [dInt ((b :: bt).map (· - b)), dPrs (lowR b cs), x]) n
/-- the spots of two tables -/
def stepSp (F : Int → Int) (c1 c2 : List (Int × Int)) : List Int := 0 :: ((c1 ++ c2).map (·.1) ++ c2.flatMap fun c => [F c.1, F (c.1 + 1)])
theorem stepSp_len (F : Int → Int) (c1 c2 : List (Int × Int)) : (stepSp F c1 c2).length = 1 + c1.length + 3 * c2.length := by
  have : ∀ c : List (Int × Int), (c.flatMap fun c => [F c.1, F (c.1 + 1)]).length = 2 * c.length := fun c => by
    induction c with
    | nil => rfl
    | cons a c ih =>
      rw [List.flatMap_cons, List.length_append, ih, List.length_cons, List.length_cons, List.length_cons, List.length_nil]
      omega
  unfold stepSp
  rw [List.length_cons, List.length_append, this, List.length_map, List.length_append]
  omega
def StepM (z : Int) (sp : List Int) (k : Int) : Prop := ∃ s ∈ sp, s - z - 1 ≤ k ∧ k ≤ s + z + 1
def fStepsL : FD := fun ds n K => ∃ b1 c1 r1 b2 c2 r2 F, ds = [.tup (dInt b1 :: dPrs c1 :: r1), .tup (dInt b2 :: dPrs c2 :: r2)] ∧ (0 < b1.length ∧ b1.length ≤ 12) ∧ c1.length ≤ 24 ∧ c2.length ≤ 24 ∧ Up b1 c1 ∧ (∀ u, val b1 c1 (F u - 1) < u ∧ u ≤ val b1 c1 (F u)) ∧
  ∀ found : List Int, (∀ k, k ∈ found ↔ StepM (b1.length : Nat) (stepSp F c1 c2) k) → found.length ≤ 27 * 97 → K (dInt found) n
theorem first_uniq {bs : List Int} {cs : List (Int × Int)} (up : Up bs cs) {u a b : Int} (a1 : val bs cs (a - 1) < u) (a2 : u ≤ val bs cs a) (b1 : val bs cs (b - 1) < u) (b2 : u ≤ val bs cs b) : a = b := by
  have mono : ∀ n : Nat, ∀ x, val bs cs x ≤ val bs cs (x + n) := fun n => by
    induction n with
    | zero => intro x; rw [show x + ((0 : Nat) : Int) = x by omega]; exact Int.le_refl _
    | succ n ih =>
      intro x
      have := ih x
      have := up (x + n)
      rw [show x + ((n + 1 : Nat) : Int) = x + n + 1 by omega]
      omega
  rcases Int.lt_trichotomy a b with h | h | h
  · have := mono (b - 1 - a).toNat a
    rw [show a + ((b - 1 - a).toNat : Int) = b - 1 by omega] at this
    omega
  · exact h
  · have := mono (a - 1 - b).toNat b
    rw [show b + ((a - 1 - b).toNat : Int) = a - 1 by omega] at this
    omega
theorem sp_take {cc : List (Int × Int)} {i : Nat} (h : i < cc.length) : (0 :: (cc.take (i + 1)).map (·.1)).map DV.int = (0 :: (cc.take i).map (·.1)).map DV.int ++ [.int cc[i].1] := by
  rw [List.take_add_one, List.getElem?_eq_getElem h, List.map_append, ← List.cons_append, List.map_append]
  rfl
theorem fp_take (F : Int → Int) {cc : List (Int × Int)} {i : Nat} (h : i < cc.length) : ((cc.take (i + 1)).flatMap fun c => [F c.1, F (c.1 + 1)]) = ((cc.take i).flatMap fun c => [F c.1, F (c.1 + 1)]) ++ [F cc[i].1, F (cc[i].1 + 1)] := by
  rw [List.take_add_one, List.getElem?_eq_getElem h, List.flatMap_append]
  simp
theorem snoc_last (gs : List Int) (l : Int) : atI ((gs ++ [l]).map DV.int) (-1) = some (.int l) := by
  unfold atI ixN
  rw [List.length_map, List.length_append, if_neg (by decide), if_pos (by simp; omega)]
  show ((gs ++ [l]).map DV.int)[(-1 + ((gs.length + 1 : Nat) : Int)).toNat]? = _
  rw [show (-1 + ((gs.length + 1 : Nat) : Int)).toNat = gs.length by omega, List.getElem?_map, List.getElem?_append_right (Nat.le_refl _), Nat.sub_self]
  rfl
theorem steps_next {z : Nat} {ys fs : List Int} {i : Nat} {s low : Int} (asc : ys.Pairwise (· < ·)) (hi : i < ys.length) (hs : s = ys.getD i 0) (fm : ∀ k, k ∈ fs ↔ StepM z (ys.take i) k) (f0 : i = 0 → fs = []) (fj : ∀ j, i = j + 1 → ∃ gs, fs = gs ++ [ys.getD j 0 + z + 1])
    (hl : (fs = [] ∧ low = s - z - 1) ∨ ∃ gs l, fs = gs ++ [l] ∧ low = if l + 1 > s - z - 1 then l + 1 else s - z - 1) :
    (s - z - 1 ≤ low ∧ low ≤ s + z + 1) ∧ (∀ k, k ∈ fs ++ rgI low (s + z + 2) ↔ StepM z (ys.take (i + 1)) k) ∧ ∃ gs, fs ++ rgI low (s + z + 2) = gs ++ [s + z + 1] := by
  have et : ys.take (i + 1) = ys.take i ++ [s] := by
    rw [List.take_add_one, List.getElem?_eq_getElem hi, hs, List.getD_eq_getElem?_getD, List.getElem?_eq_getElem hi]
    rfl
  have low2 : (s - z - 1 ≤ low ∧ low ≤ s + z + 1) ∧ ∀ k, s - z - 1 ≤ k → k < low → k ∈ fs := by
    by_cases c : i = 0
    · rcases hl with ⟨_, e⟩ | ⟨gs, l, e, _⟩
      · exact ⟨by omega, fun k h1 h2 => by omega⟩
      · rw [f0 c] at e
        cases gs <;> cases e
    · obtain ⟨j, rfl⟩ : ∃ j, i = j + 1 := ⟨i - 1, by omega⟩
      obtain ⟨gs, e⟩ := fj j rfl
      obtain ⟨p, hp⟩ : ∃ p : Int, p = ys.getD j 0 := ⟨_, rfl⟩
      rw [← hp] at e
      have hj : j < ys.length := by omega
      have ps : p < s := by
        have := List.pairwise_iff_getElem.mp asc j (j + 1) hj hi (by omega)
        rw [hp, hs, List.getD_eq_getElem?_getD, List.getD_eq_getElem?_getD, List.getElem?_eq_getElem hj, List.getElem?_eq_getElem hi]
        exact this
      have hlow : low = if p + z + 1 + 1 > s - z - 1 then p + z + 1 + 1 else s - z - 1 := by
        rcases hl with ⟨e2, _⟩ | ⟨gs', l, e2, h⟩
        · rw [e2] at e
          cases gs <;> cases e
        · rw [e2] at e
          have := List.append_inj_right' e rfl
          cases this
          exact h
      have pm : p ∈ ys.take (j + 1) := by
        rw [List.take_add_one, List.getElem?_eq_getElem hj, hp, List.getD_eq_getElem?_getD, List.getElem?_eq_getElem hj]
        exact List.mem_append_right _ (List.mem_singleton.mpr rfl)
      refine ⟨by split at hlow <;> omega, fun k h1 h2 => (fm k).mpr ⟨p, pm, by split at hlow <;> omega, by split at hlow <;> omega⟩⟩
  refine ⟨low2.1, fun k => ?_, fs ++ rgI low (s + z + 1), ?_⟩
  · rw [List.mem_append, rgI_mem, fm k, et]
    constructor
    · rintro (⟨t, ht, h⟩ | h)
      · exact ⟨t, List.mem_append_left _ ht, h⟩
      · exact ⟨s, List.mem_append_right _ (List.mem_singleton.mpr rfl), by omega, by omega⟩
    · rintro ⟨t, ht, h⟩
      rcases List.mem_append.mp ht with ht | ht
      · exact .inl ⟨t, ht, h⟩
      · rw [List.mem_singleton.mp ht] at h
        by_cases c : k < low
        · exact .inl ((fm k).mp (low2.2 k (by omega) c))
        · exact .inr ⟨by omega, by omega⟩
  · have := low2.1
    rw [List.append_assoc]
    congr 1
    unfold rgI
    rw [show (s + z + 2 - low).toNat = (s + z + 1 - low).toNat + 1 by omega, List.range_succ, List.map_append]
    congr 1
    show [low + (((s + z + 1 - low).toNat : Nat) : Int)] = _
    rw [show low + (((s + z + 1 - low).toNat : Nat) : Int) = s + z + 1 by omega]
section
variable {P : Program} {w : World} {K : PySem.W.Frag} {mg : Str → Option Value} {base : Heap}
theorem scLowered : FnScope ["table", "less", "offset", "spot"] ["table"] (defScope sLowered) := ⟨rfl, rfl, rfl, by decide +kernel, rfl, by decide +kernel, by decide +kernel⟩
theorem ok_lowered43 {f R L : Addr} {fd : FuncData} (F : Fun K "_law_lowered" "_law_lowered" sLowered f fd) : FnOk P w K mg base CX0 1 f fd ["table"] (spD (Wr R L) fLowered) := by
  refine okD F scLowered (Wr R L) fLowered (fun ds n K h => ?_) (fun p cdv A outer s H E hr => ?_)
  · obtain ⟨b, bt, cs, x, rfl, _⟩ := h
    rfl
  ·
    refine ⟨_, _, (dss_cons (ds_set (i := 1) scLowered.nd rfl (.inr rfl) (de_ixL (dq (de_ixT (dv 0) de_int)) de_int))
      (dss_one (ds_ret (de_tup (da_cons (de_f (df_lc (own := [("offset", 2)]) rfl scLowered.nd (di_list (de_ixT (dv 0) de_int))
          (blkOk_by (N := ["table", "less", "offset", "spot"]) (sc := defScope sLowered) (by decide +kernel)) (fun _ _ _ _ _ => (dg_name (i := 2) scLowered.nd rfl (.inl rfl))) (fun _ _ _ _ _ => dts_nil)
          (fun _ _ _ _ _ => (de_op op_sub rd_I0 (dv 2) (dv 1))))) (da_cons (de_f (df_lc (g := (gTup K 2 (gCons (gName 3) (gCons (gName 2) gNil)))) (own := [("spot", 3), ("offset", 2)]) rfl scLowered.nd (di_list (de_ixT (dv 0) de_int))
          (blkOk_by (N := ["table", "less", "offset", "spot"]) (sc := defScope sLowered) (by decide +kernel)) (fun _ _ _ _ _ => (dg_tup rfl (dgs_cons (dg_name (i := 3) scLowered.nd rfl (.inl rfl)) (dgs_cons (dg_name (i := 2) scLowered.nd rfl (.inl rfl)) dgs_nil)) (.cons (.cons .nil)))) (fun _ _ _ _ _ => dts_nil)
          (fun _ _ _ _ _ => (de_tup (da_cons (dv 3) (da_cons (de_op op_sub rd_I0 (dv 2) (dv 1)) da_nil)))))) (da_cons (de_ixT (dv 0) de_int) da_nil))))))), fun ds n K h => ?_⟩
    obtain ⟨b, bt, cs, x, rfl, bl, cl, k⟩ := h
    refine ⟨_, atI_nat (j := 0) rfl, _, atI_nat (j := 0) rfl, ?_⟩
    obtain ⟨bs, hbs⟩ : ∃ bs, bs = b :: bt := ⟨_, rfl⟩
    have bl' : bs.length ≤ 13 := by rw [hbs, List.length_cons]; omega
    rw [← hbs] at k ⊢
    refine ⟨_, atI_nat (j := 0) rfl, ?_⟩
    refine ⟨by rw [List.length_map]; omega, fun i acc m => acc = ((bs.map (· - b)).take i).map DV.int ∧ m = n, ⟨rfl, rfl⟩, ?_, ?_⟩
    · rintro i acc m hi ⟨rfl, rfl⟩
      have hi : i < bs.length := by simpa using hi
      have et : (bs.map (· - b)).take (i + 1) = (bs.map (· - b)).take i ++ [bs.getD i 0 - b] := by
        rw [List.take_add_one, List.getElem?_map, List.getElem?_eq_getElem hi, List.getD_eq_getElem?_getD, List.getElem?_eq_getElem hi]
        rfl
      simp only [getD_intr hi]
      exact ⟨fun _ => ⟨by rw [et, List.map_append]; rfl, rfl⟩, (fun z => nomatch z)⟩
    rintro acc m ⟨rfl, rfl⟩
    rw [show ((bs.map (· - b)).take (bs.map DV.int).length) = bs.map (· - b) by rw [List.take_of_length_le (by rw [List.length_map, List.length_map]; exact Nat.le_refl _)]]
    refine ⟨_, atI_nat (j := 1) rfl, ?_⟩
    refine ⟨by rw [List.length_map]; omega, fun i acc m' => acc = ((lowR b cs).take i).map dPr ∧ m' = m, ⟨rfl, rfl⟩, ?_, ?_⟩
    · rintro i acc m' hi ⟨rfl, rfl⟩
      have hi : i < cs.length := by simpa using hi
      show dgT (dgCons (dgN 3) (dgCons (dgN 2) dgNil)) ((cs.map dPr).getD i .non) _ _
      rw [getD_prW hi]
      have et : (lowR b cs).take (i + 1) = (lowR b cs).take i ++ [(cs[i].1, cs[i].2 - b)] := by
        have eg : (lowR b cs)[i]? = some (cs[i].1, cs[i].2 - b) := by
          unfold lowR
          rw [List.getElem?_map, List.getElem?_eq_getElem hi]
          rfl
        rw [List.take_add_one, eg]
        rfl
      exact ⟨fun _ => ⟨two1000r, by rw [et, List.map_append]; rfl, rfl⟩, (fun z => nomatch z)⟩
    rintro acc m' ⟨rfl, rfl⟩
    rw [List.length_map, ← lowR_len b cs, List.take_length]
    exact ⟨_, atI_nat (j := 2) rfl, three1000r, k⟩
theorem scStepsL : FnScope ["one", "two", "size", "spots", "spot", "offset", "found", "low"] ["one", "two"] (defScope sStepsL) := ⟨rfl, rfl, rfl, by decide +kernel, rfl, by decide +kernel, by decide +kernel⟩
theorem ok_steps43 {f R L fF : Addr} {fd dF : FuncData} (F : Fun K "_law_steps" "_law_steps" sStepsL f fd) (T : Blt mg) (T5 : Blt5 mg) (hset : mg "set" = none) (Fi : At P w K mg base 2 "_law_first" ["table", "spot"] (spD (Wr R L) fFirst) fF dF) : FnOk P w K mg base CX0 3 f fd ["one", "two"] (spD (Wr R L) fStepsL) := by
  refine okD F scStepsL (Wr R L) fStepsL (fun ds n K h => ?_) (fun p cdv A outer s H E hr => ?_)
  · obtain ⟨b1, c1, r1, b2, c2, r2, F, rfl, _⟩ := h
    rfl
  · have hu := hr.units
    have hr2 : Room 2 _ := hr.mono (by decide)
    refine ⟨_, _, (dss_cons (ds_par2O (i := 2) (j := 3) rfl scStepsL.nd rfl rfl (by decide) rfl rfl (de_bQ call_len_seq (by rfl) T.len PySem.boot_len rd_len (dq (de_ixT (dv 0) de_int))) (df_lst (da_cons de_int da_nil)) (by rfl))
      (dss_cons (ds_for [4, 5] PassesOwn.never rfl (di_list (de_f (df_cat (dq (de_ixT (dv 0) de_int)) (dq (de_ixT (dv 1) de_int))))) (dg_tup rfl (dgs_cons (dg_name (i := 4) scStepsL.nd rfl (.inl rfl)) (dgs_cons (dg_name (i := 5) scStepsL.nd rfl (.inl rfl)) dgs_nil)) (.cons (.cons .nil)))
        (dss_one (ds_app 3 (he := (dv 4)))))
      (dss_frz 3 (dss_cons (ds_for [4, 5] PassesOwn.never rfl (di_list (de_ixT (dv 1) de_int)) (dg_tup rfl (dgs_cons (dg_name (i := 4) scStepsL.nd rfl (.inl rfl)) (dgs_cons (dg_name (i := 5) scStepsL.nd rfl (.inl rfl)) dgs_nil)) (.cons (.cons .nil)))
        (dss_one (ds_set (i := 3) scStepsL.nd rfl (.inl rfl) (de_f (df_cat (dq (dv 3)) (dq (de_f (df_lst (da_cons (de_call Fi.ok (rd_spD rfl) hr2 Fi.at_ Fi.kp Fi.bi (da_cons (dv 0) (da_cons (dv 4) da_nil))) (da_cons (de_call Fi.ok (rd_spD rfl) hr2 Fi.at_ Fi.kp Fi.bi (da_cons (dv 0) (da_cons (de_op op_add rd_I0 (dv 4) de_int) da_nil))) da_nil))))))))))
      (dss_cons (ds_set (i := 6) scStepsL.nd rfl (.inl rfl) (de_f (df_lst da_nil)))
      (dss_cons (ds_for [4] PassesOwn.never rfl (di_list (de_f (df_SS rfl (by rfl) T5.sorted (by rfl) hset (dq (dv 3))))) (dg_name (i := 4) scStepsL.nd rfl (.inl rfl))
        (dss_cons (ds_set (i := 7) scStepsL.nd rfl (.inl rfl) (de_if (dt_cmp (op_eqD hu) rd_eqDt (dv 6) (de_f (df_lst da_nil))) (de_op op_sub rd_I0 (de_op op_sub rd_I0 (dv 4) (dv 2)) de_int) (de_b (call_max2 rfl) (by rfl) T.max (by decide +kernel) rd_C2 (da_cons (de_op op_sub rd_I0 (de_op op_sub rd_I0 (dv 4) (dv 2)) de_int) (da_cons (de_op op_add rd_I0 (de_ixL (dq (dv 6)) (de_un un_neg rd_U de_int)) de_int) da_nil)))))
        (dss_one (ds_set (i := 6) scStepsL.nd rfl (.inl rfl) (de_f (df_cat (dq (dv 6)) (dq (de_f (df_listRg2A rfl T.list T.range (dv 7) (de_op op_add rd_I0 (de_op op_add rd_I0 (dv 4) (dv 2)) de_int))))))))))
      (dss_one (ds_ret (dv 6))))))))), fun ds n K h => ?_⟩
    obtain ⟨b1, c1, r1, b2, c2, r2, F, rfl, ⟨l0, l1⟩, n1, n2, up, hF, k⟩ := h
    have el : (((b1.map DV.int).length : Nat) : Int) = (b1.length : Nat) := by rw [List.length_map]
    refine ⟨_, atI_nat (j := 0) rfl, one1000r, ?_⟩
    refine ⟨_, atI_nat (j := 1) rfl, _, atI_nat (j := 1) rfl, ?_⟩
    refine ⟨by rw [List.length_map, List.length_map]; omega, fun i δ m => ∃ y4 y5 : Option SV, δ = [some (.dat (.tup (dInt b1 :: dPrs c1 :: r1))), some (.dat (.tup (dInt b2 :: dPrs c2 :: r2))), some (.dat (.int (((b1.map DV.int).length : Nat) : Int))), some (.own ((0 :: ((c1 ++ c2).take i).map (·.1)).map DV.int)), y4, y5, none, none] ∧ m = n, ⟨none, none, rfl, rfl⟩, ?_, ?_⟩
    · rintro i δ m hi ⟨y4, y5, rfl, rfl⟩
      rw [← List.map_append] at hi ⊢
      have hi : i < (c1 ++ c2).length := by rw [List.length_map] at hi; exact hi
      show dgT (dgCons (dgN 4) (dgCons (dgN 5) dgNil)) (((c1 ++ c2).map dPr).getD i .non) _ _
      rw [getD_prW hi]
      exact ⟨by rw [List.length_map, List.length_cons, List.length_map, List.length_take]; rw [List.length_append] at hi ⊢; omega, some (.dat (.int (c1 ++ c2)[i].1)), some (.dat (.int (c1 ++ c2)[i].2)), by rw [sp_take hi]; rfl, rfl⟩
    rintro δ m ⟨y4, y5, rfl, rfl⟩
    rw [el, ← List.map_append, show ((c1 ++ c2).map dPr).length = (c1 ++ c2).length from List.length_map .., List.take_length]
    obtain ⟨s0, hs0⟩ : ∃ s0 : List Int, s0 = 0 :: (c1 ++ c2).map (·.1) := ⟨_, rfl⟩
    rw [← hs0]
    have s0l : s0.length ≤ 49 := by rw [hs0, List.length_cons, List.length_map, List.length_append]; omega
    refine ⟨_, atI_nat (j := 1) rfl, fun i δ m' => ∃ y4 y5 : Option SV, δ = [some (.dat (.tup (dInt b1 :: dPrs c1 :: r1))), some (.dat (.tup (dInt b2 :: dPrs c2 :: r2))), some (.dat (.int (b1.length : Nat))), some (.dat (dInt (s0 ++ (c2.take i).flatMap fun c => [F c.1, F (c.1 + 1)]))), y4, y5, none, none] ∧ (s0 ++ (c2.take i).flatMap fun c => [F c.1, F (c.1 + 1)]).length ≤ 49 + 2 * i ∧ m' = m, ⟨y4, y5, by rw [List.take_zero, List.flatMap_nil, List.append_nil]; rfl, by rw [List.take_zero, List.flatMap_nil, List.append_nil]; omega, rfl⟩, ?_, ?_⟩
    · rintro i δ m' hi ⟨z4, z5, rfl, sl, rfl⟩
      have hi : i < c2.length := by simpa using hi
      show dgT (dgCons (dgN 4) (dgCons (dgN 5) dgNil)) ((c2.map dPr).getD i .non) _ _
      rw [getD_prW hi]
      have et := fp_take F hi
      obtain ⟨ss, hss⟩ : ∃ ss : List Int, ss = s0 ++ (c2.take i).flatMap fun c => [F c.1, F (c.1 + 1)] := ⟨_, rfl⟩
      rw [← hss] at sl ⊢
      generalize c2[i] = c at et ⊢
      have f1 := hF c.1
      have f2 := hF (c.1 + 1)
      refine ⟨b1, c1, r1, c.1, rfl, l0, l1, by omega, fun t t1 t2 => ?_⟩
      obtain rfl := first_uniq up f1.1 f1.2 t1 t2
      refine ⟨b1, c1, r1, c.1 + 1, rfl, l0, l1, by omega, fun t t3 t4 => ?_⟩
      obtain rfl := first_uniq up f2.1 f2.2 t3 t4
      refine ⟨two1000r, by show (ss.map DV.int).length + 2 ≤ 100000; rw [List.length_map]; omega, some (.dat (.int c.1)), some (.dat (.int c.2)), ?_, by rw [et, ← List.append_assoc, ← hss, List.length_append]; show ss.length + 2 ≤ _; omega, rfl⟩
      rw [et, ← List.append_assoc, ← hss, show dInt (ss ++ [F c.1, F (c.1 + 1)]) = .lst (ss.map DV.int ++ [.int (F c.1), .int (F (c.1 + 1))]) by unfold dInt; rw [List.map_append]; rfl]
      rfl
    rintro δ m' ⟨z4, z5, rfl, sl, rfl⟩
    rw [List.length_map] at sl ⊢
    rw [List.take_length] at sl ⊢
    have esp : s0 ++ (c2.flatMap fun c => [F c.1, F (c.1 + 1)]) = stepSp F c1 c2 := by rw [hs0]; rfl
    rw [esp] at sl ⊢
    generalize stepSp F c1 c2 = sp at sl k ⊢
    clear hF up el hs0 s0l esp
    obtain ⟨z, hz⟩ : ∃ z : Nat, z = b1.length := ⟨_, rfl⟩
    rw [← hz] at l0 l1 k ⊢
    refine ⟨Nat.zero_le _, sp, rfl, by omega, fun ys asc mem yl => ?_⟩
    refine ⟨fun i δ m2 => ∃ (fs : List Int) (y4 y7 : Option SV), δ = [some (.dat (.tup (dInt b1 :: dPrs c1 :: r1))), some (.dat (.tup (dInt b2 :: dPrs c2 :: r2))), some (.dat (.int (z : Nat))), some (.dat (dInt sp)), y4, z5, some (.dat (dInt fs)), y7] ∧ (∀ k, k ∈ fs ↔ StepM z (ys.take i) k) ∧ fs.length ≤ 27 * i ∧ (i = 0 → fs = []) ∧ (∀ j, i = j + 1 → ∃ gs, fs = gs ++ [ys.getD j 0 + z + 1]) ∧ m2 = m', ⟨[], z4, none, rfl, fun k => ⟨(fun h => nomatch h), fun ⟨s, hs, _⟩ => nomatch hs⟩, Nat.zero_le _, fun _ => rfl, fun j h => by omega, rfl⟩, ?_, ?_⟩
    · rintro i δ m2 hi ⟨fs, y4, y7, rfl, fm, fl, f0, fj, rfl⟩
      have hi : i < ys.length := by simpa using hi
      simp only [getD_intr hi]
      obtain ⟨s, hs⟩ : ∃ s : Int, s = ys.getD i 0 := ⟨_, rfl⟩
      rw [← hs]
      have ee : PyData.eqv (dInt fs).py (DV.lst []).py = decide (fs = []) := by
        rw [show DV.lst [] = dInt [] from rfl, py_ints, py_ints, eqv_ints]
      refine ⟨Nat.zero_le _, pu_ints fs, rfl, by rw [py_ints]; exact shaped_ints _, rfl, fun g => ?_, fun g => ?_⟩
      · rw [ee] at g
        obtain ⟨q1, q2, gs, q3⟩ := steps_next (low := s - z - 1) asc hi hs fm f0 fj (.inl ⟨of_decide_eq_true g, rfl⟩)
        refine ⟨s - z - 1, s + z + 2, rfl, rfl, by omega, by rw [List.length_map, List.length_map, rgI_len]; omega, fs ++ rgI (s - z - 1) (s + z + 2), some (.dat (.int s)), some (.dat (.int (s - z - 1))), by unfold dInt; rw [List.map_append]; rfl, q2, by rw [List.length_append, rgI_len]; omega, fun h => absurd h (Nat.succ_ne_zero i), fun j hj => ⟨gs, ?_⟩, rfl⟩
        obtain rfl : i = j := by omega
        rw [q3, hs]
      · rw [ee] at g
        have ne : i ≠ 0 := fun e => of_decide_eq_false g (f0 e)
        obtain ⟨j, rfl⟩ : ∃ j, i = j + 1 := ⟨i - 1, by omega⟩
        obtain ⟨gs, e⟩ := fj j rfl
        obtain ⟨l, hl⟩ : ∃ l : Int, l = ys.getD j 0 + z + 1 := ⟨_, rfl⟩
        have e' : fs = gs ++ [l] := by rw [hl]; exact e
        obtain ⟨low, hlow⟩ : ∃ low : Int, low = if l + 1 > s - z - 1 then l + 1 else s - z - 1 := ⟨_, rfl⟩
        obtain ⟨q1, q2, gs', q3⟩ := steps_next (low := low) asc hi hs fm f0 fj (.inr ⟨gs, l, e', hlow⟩)
        refine ⟨.int l, by rw [e']; exact snoc_last gs l, ?_⟩
        refine ⟨low, s + z + 2, by rw [hlow], rfl, by omega, by rw [List.length_map, List.length_map, rgI_len]; omega, fs ++ rgI low (s + z + 2), some (.dat (.int s)), some (.dat (.int low)), by unfold dInt; rw [List.map_append, hlow]; rfl, q2, by rw [List.length_append, rgI_len]; omega, fun h => absurd h (Nat.succ_ne_zero _), fun j' hj => ⟨gs', ?_⟩, rfl⟩
        obtain rfl : j + 1 = j' := by omega
        rw [q3, hs]
    rintro δ m2 ⟨fs, y4, y7, rfl, fm, fl, f0, fj, rfl⟩
    rw [List.length_map] at fm fl
    rw [List.take_length] at fm
    exact k fs (fun k => (fm k).trans ⟨fun ⟨s, hs, h⟩ => ⟨s, (mem s).mp hs, h⟩, fun ⟨s, hs, h⟩ => ⟨s, (mem s).mpr hs, h⟩⟩) (by omega)
end

/-! ### tables of weeks, also far away, with a narrower count of draws -/
def fTableX : FD := fun ds n K => ∃ z far leap : Int, ds = [.pool, .int z, .int far, .int leap] ∧ n ≤ 10 ^ 7 ∧ (1 ≤ z ∧ z ≤ 12) ∧ (far = 0 ∨ far = 1) ∧ (0 ≤ leap ∧ leap ≤ 10 ^ 29) ∧ ∀ lead rows tails m, TabOk z (10 ^ 33) lead rows tails → m ≤ n + 560 → K (.tup [dInt lead, dPrs rows, dInt tails]) m
section
variable {P : Program} {w : World} {K : PySem.W.Frag} {mg : Str → Option Value} {base : Heap}
theorem ok_tableX {f fT fM fL R L : Addr} {fd dT dM dL : FuncData} (F : Fun K "_law_table" "_law_table" sTable f fd) (T : Blt mg) (Dp : At P w K mg base 1 "_law_dip" ["well", "span"] spDip fT dT) (Mo : At P w K mg base 2 "_law_more" ["well", "size"] (spD (Wr R L) fMore) fM dM) (Le : At P w K mg base 1 "_law_lead" ["more", "spot", "here"] (spD (Wr R L) fLead) fL dL) : FnOk P w K mg base CX0 3 f fd ["well", "size", "far", "leap"] (spD (Wr R L) fTableX) := by
  refine okD F scTable (Wr R L) fTableX (fun ds n K h => ?_) (fun p cdv A outer s H E hr => ?_)
  · obtain ⟨z, far, leap, rfl, _⟩ := h
    rfl
  · 
    have hr1 : Room 1 _ := hr.mono (by decide)
    have hr2 : Room 2 _ := hr.mono (by decide)
    refine ⟨_, _, (dss_cons (ds_par (i := 4) (j := 5) rfl scTable.nd rfl rfl (by decide) rfl rfl (da_cons (de_call Mo.ok (rd_spD rfl) hr2 Mo.at_ Mo.kp Mo.bi (da_cons (dv 0) (da_cons (dv 1) da_nil))) (da_cons (de_call Dp.ok rd_dip hr1 Dp.at_ Dp.kp Dp.bi (da_cons (dv 0) (da_cons (de_op op_add rd_I0 de_int (de_t call_int1 (by rfl) T.int (by decide +kernel) rd_int (da_cons (de_cmp op_lt rd_B0 (dv 1) de_int) da_nil))) da_nil))) da_nil)) (by rfl))
      (dss_cons (ds_par (i := 6) (j := 7) rfl scTable.nd rfl rfl (by decide) rfl rfl (da_cons (de_op op_sub rd_I0 (de_call Dp.ok rd_dip hr1 Dp.at_ Dp.kp Dp.bi (da_cons (dv 0) (da_cons de_int da_nil))) de_int) (da_cons (de_op op_sub rd_I0 (de_call Dp.ok rd_dip hr1 Dp.at_ Dp.kp Dp.bi (da_cons (dv 0) (da_cons de_int da_nil))) de_int) da_nil)) (by rfl))
      (dss_cut (ds_if (dt_cmp op_eq rd_Eq (dv 2) de_int)
        (dss_cons (ds_set (i := 6) scTable.nd rfl (.inl rfl) (de_op op_add rd_I0 (dv 6) (de_op op_mul rd_I (de_op op_sub rd_I0 (de_call Dp.ok rd_dip hr1 Dp.at_ Dp.kp Dp.bi (da_cons (dv 0) (da_cons de_int da_nil))) de_int) (de_call Dp.ok rd_dip hr1 Dp.at_ Dp.kp Dp.bi (da_cons (dv 0) (da_cons (de_op op_pow rd_I de_int de_int) da_nil))))))
        (dss_one (ds_set (i := 7) scTable.nd rfl (.inl rfl) (de_op op_add rd_I0 (dv 7) (de_op op_mul rd_I (de_op op_sub rd_I0 (de_call Dp.ok rd_dip hr1 Dp.at_ Dp.kp Dp.bi (da_cons (dv 0) (da_cons de_int da_nil))) de_int) (de_call Dp.ok rd_dip hr1 Dp.at_ Dp.kp Dp.bi (da_cons (dv 0) (da_cons (de_op op_pow rd_I de_int de_int) da_nil))))))))
        dss_nil)
      (dss_cons (ds_set (i := 7) scTable.nd rfl (.inl rfl) (de_op op_add rd_I0 (dv 7) (dv 6)))
      (dss_cons (ds_par3O (i := 8) (j := 9) (l := 10) rfl scTable.nd rfl rfl rfl (by decide) (by decide) (by decide) rfl rfl rfl (de_call Le.ok (rd_spD rfl) hr1 Le.at_ Le.kp Le.bi (da_cons (dv 4) (da_cons (dv 6) (da_cons (dv 7) da_nil)))) (df_lst da_nil) (df_lst (da_cons de_int da_nil)) (by rfl))
      (dss_cons (ds_for [11] PassesOwn.never rfl (di_range1 (by rfl) T.range (da_cons (dv 5) da_nil)) (dg_name (i := 11) scTable.nd rfl (.inl rfl))
        (dss_cons (ds_for [12] PassesOwn.never rfl (di_range1 (by rfl) T.range (da_cons (de_call Dp.ok rd_dip hr1 Dp.at_ Dp.kp Dp.bi (da_cons (dv 0) (da_cons (de_op op_add rd_I0 (de_op op_sub rd_I0 (de_ixL (dq (de_f (df_lst (da_cons de_int (da_cons de_int (da_cons de_int (da_cons de_int da_nil))))))) (dv 5)) (dv 1)) de_int) da_nil))) da_nil)) (dg_name (i := 12) scTable.nd rfl (.inl rfl))
          (dss_cons (ds_app 9 (he := (de_tup (da_cons (dv 6) (da_cons (de_op op_sub rd_I0 (dv 7) (dv 6)) da_nil)))))
          (dss_cons (ds_set (i := 13) scTable.nd rfl (.inl rfl) (de_call Dp.ok rd_dip hr1 Dp.at_ Dp.kp Dp.bi (da_cons (dv 0) (da_cons de_int da_nil))))
          (dss_cons (ds_set (i := 7) scTable.nd rfl (.inl rfl) (de_op op_add rd_I0 (dv 7) (de_if (dt_cmp op_lt rd_B0 (dv 13) de_int) (dv 13) (de_call Dp.ok rd_dip hr1 Dp.at_ Dp.kp Dp.bi (da_cons (dv 0) (da_cons (de_op op_add rd_I0 (dv 3) de_int) da_nil))))))
          (dss_one (ds_set (i := 6) scTable.nd rfl (.inl rfl) (de_op op_add rd_I0 (dv 6) de_int)))))))
        (dss_cons (ds_set (i := 4) scTable.nd rfl (.inl rfl) (de_call Mo.ok (rd_spD rfl) hr2 Mo.at_ Mo.kp Mo.bi (da_cons (dv 0) (da_cons (dv 1) da_nil))))
        (dss_cons (ds_for [12] PassesOwn.never rfl (di_range1 (by rfl) T.range (da_cons (dv 1) da_nil)) (dg_name (i := 12) scTable.nd rfl (.inl rfl))
          (dss_cons (ds_app 9 (he := (de_tup (da_cons (dv 6) (da_cons (de_op op_sub rd_I0 (dv 7) (dv 6)) da_nil)))))
          (dss_cons (ds_set (i := 7) scTable.nd rfl (.inl rfl) (de_op op_add rd_I0 (dv 7) (de_ixL (dq (dv 4)) (de_op op_mod rd_I (de_t call_int1 (by rfl) T.int (by decide +kernel) rd_int (da_cons (dv 6) da_nil)) (dv 1)))))
          (dss_one (ds_set (i := 6) scTable.nd rfl (.inl rfl) (de_op op_add rd_I0 (dv 6) de_int))))))
        (dss_cons (ds_app 10 (he := (de_bQ call_len_seq (by rfl) T.len PySem.boot_len rd_len (do_ 9))))
        (dss_cons (ds_set (i := 14) scTable.nd rfl (.inl rfl) (de_op op_add rd_I0 (de_call Dp.ok rd_dip hr1 Dp.at_ Dp.kp Dp.bi (da_cons (dv 0) (da_cons de_int da_nil))) (de_op op_mul rd_I (de_op op_mul rd_I (dv 2) (de_call Dp.ok rd_dip hr1 Dp.at_ Dp.kp Dp.bi (da_cons (dv 0) (da_cons de_int da_nil)))) (de_call Dp.ok rd_dip hr1 Dp.at_ Dp.kp Dp.bi (da_cons (dv 0) (da_cons (de_op op_pow rd_I de_int de_int) da_nil))))))
        (dss_cons (ds_par (i := 6) (j := 7) rfl scTable.nd rfl rfl (by decide) rfl rfl (da_cons (de_op op_add rd_I0 (dv 6) (de_op op_mul rd_I (dv 14) (dv 1))) (da_cons (de_op op_add rd_I0 (dv 7) (de_op op_mul rd_I (dv 14) (dv 1))) da_nil)) (by rfl))
        (dss_one (ds_for [12] PassesOwn.never rfl (di_range1 (by rfl) T.range (da_cons (de_call Dp.ok rd_dip hr1 Dp.at_ Dp.kp Dp.bi (da_cons (dv 0) (da_cons (dv 1) da_nil))) da_nil)) (dg_name (i := 12) scTable.nd rfl (.inl rfl))
          (dss_cons (ds_set (i := 7) scTable.nd rfl (.inl rfl) (de_op op_add rd_I0 (dv 7) (de_ixL (dq (dv 4)) (de_op op_mod rd_I (de_t call_int1 (by rfl) T.int (by decide +kernel) rd_int (da_cons (dv 6) da_nil)) (dv 1)))))
          (dss_one (ds_set (i := 6) scTable.nd rfl (.inl rfl) (de_op op_add rd_I0 (dv 6) de_int)))))))))))))
      (dss_frz 9 (dss_frz 10 (dss_one (ds_ret (de_tup (da_cons (dv 8) (da_cons (dv 9) (da_cons (dv 10) da_nil)))))))))))))), fun ds n K h => ?_⟩
    obtain ⟨z, far, leap, rfl, hn, ⟨z0, z1⟩, hfar, ⟨p0, p1⟩, k⟩ := h
    refine ⟨z, rfl, by omega, z0, z1, fun ms m mo ml hm => ?_⟩
    have sz : ∀ b : Bool, 0 ≤ (if b = true then (1 : Int) else 0) ∧ (if b = true then (1 : Int) else 0) ≤ 1 := fun b => by cases b <;> decide
    have sb := sz (decide (z < 9))
    refine ⟨by omega, by omega, by omega, fun parts q0 q1 => ?_⟩
    refine ⟨by omega, by decide, by decide, fun a a0 a1 => ⟨by omega, by decide, by decide, fun b b0 b1 => ?_⟩⟩
    refine ⟨fun δ m' => ∃ s h : Int, δ = [some (.dat .pool), some (.dat (.int z)), some (.dat (.int far)), some (.dat (.int leap)), some (.dat (dInt ms)), some (.dat (.int parts)), some (.dat (.int s)), some (.dat (.int h)), none, none, none, none, none, none, none] ∧ (-(2 * 10 ^ 30) ≤ s ∧ s ≤ 2 * 10 ^ 30) ∧ (-(2 * 10 ^ 30) ≤ h ∧ h ≤ 2 * 10 ^ 30) ∧ m' ≤ m + 10, ⟨rfl, fun g => ?_, fun g => ?_⟩, ?_⟩
    · refine ⟨by omega, by decide, by decide, fun u u0 u1 => ⟨⟨by decide, by decide, by decide⟩, by omega, by decide, by decide, fun v v0 v1 => ⟨.inl ⟨by omega, by omega⟩, ?_⟩⟩⟩
      have v2 : v < 10 ^ 30 := v1
      have uv := sign3b u0 u1 v0 (Int.le_of_lt v2)
      refine ⟨by omega, by decide, by decide, fun u' u0' u1' => ⟨⟨by decide, by decide, by decide⟩, by omega, by decide, by decide, fun v' v0' v1' => ⟨.inl ⟨by omega, by omega⟩, ?_⟩⟩⟩
      have v2' : v' < 10 ^ 30 := v1'
      have uv' := sign3b u0' u1' v0' (Int.le_of_lt v2')
      exact ⟨a - 20 + (u - 1) * v, b - 12 + (u' - 1) * v', rfl, by omega, by omega, by omega⟩
    · exact ⟨a - 20, b - 12, rfl, by omega, by omega, by omega⟩
    · rintro δ m' ⟨s, h, rfl, ⟨s0, s1⟩, ⟨h0, h1⟩, hm'⟩
      refine ⟨ms, s, h + s, rfl, mo, by omega, fun lead ll up fut => ?_⟩
      have lb := lead_bound mo ll fut
      refine ⟨by decide, one1000r, [0], rfl, ?_⟩
      refine ⟨by omega, by omega, fun i δ mi => ∃ (cs : List (Int × Int)) (tails ms' : List Int) (s h : Int) (y11 y12 y13 y14 : Option SV), δ = [some (.dat .pool), some (.dat (.int z)), some (.dat (.int far)), some (.dat (.int leap)), some (.dat (dInt ms')), some (.dat (.int parts)), some (.dat (.int s)), some (.dat (.int h)), some (.dat (dInt lead)), some (.own (cs.map dPr)), some (.own (tails.map DV.int)), y11, y12, y13, y14] ∧
        TabInv lead cs ms' s h ∧ (cs.length : Int) ≤ i * limOf parts ∧ ((-(10 ^ 31 * ((i : Int) + 1)) ≤ s ∧ s ≤ 10 ^ 31 * ((i : Int) + 1)) ∧ -(10 ^ 31 * ((i : Int) + 1)) ≤ h ∧ h ≤ 10 ^ 31 * ((i : Int) + 1)) ∧ (∀ c ∈ cs, (-(10 ^ 31 * ((i : Int) + 1)) ≤ c.1 ∧ c.1 ≤ 10 ^ 31 * ((i : Int) + 1)) ∧ -(10 ^ 31 * ((i : Int) + 1)) ≤ c.1 + c.2 ∧ c.1 + c.2 ≤ 10 ^ 31 * ((i : Int) + 1)) ∧
        (∀ t ∈ tails, ∃ k : Nat, t = k ∧ k ≤ cs.length ∧ Up lead (cs.take k)) ∧ tails.length = i + 1 ∧ mi ≤ n + 100 + i * 150,
        ⟨[], [0], ms, s, h + s, none, none, none, none, rfl, ⟨ll, mo, up, .nil, (fun c hc => nomatch hc), fut⟩, by simp, by omega, (fun c hc => nomatch hc), fun t ht => ⟨0, by simpa using ht, Nat.zero_le _, up⟩, rfl, by omega⟩, ?_, ?_⟩
      · rintro i δ mi hi ⟨cs, tails, ms', s, h, y11, y12, y13, y14, rfl, inv, cl, ⟨⟨s0, s1⟩, h0, h1⟩, cb, tl, tn, hmi⟩
        have pr : 1 ≤ parts ∧ parts ≤ 3 := by omega
        obtain ⟨lat, l24, l8, lle, l12⟩ := lim_at pr.1 pr.2
        have zl : z ≤ limOf parts := by
          by_cases q : parts ≤ 2
          · have := l12 q
            omega
          · have : (if decide (z < 9) = true then (1 : Int) else 0) = 1 := by
              have q3 : parts < 3 + (if decide (z < 9) = true then (1 : Int) else 0) := q1
              omega
            have : z < 9 := by
              by_cases q9 : z < 9
              · exact q9
              · rw [decide_eq_false q9] at this
                cases this
            omega
        have lz' : (ms'.length : Int) = z := by have := inv.len; omega
        have ic : (cs.length : Int) + limOf parts ≤ 24 := by
          have : ((i : Int) + 1) * limOf parts ≤ parts * limOf parts := Int.mul_le_mul_of_nonneg_right (by omega) (by omega)
          rw [Int.add_mul] at this
          omega
        refine ⟨by decide, .int (limOf parts), lat, by omega, by omega, by omega, fun r r0 r1 => ⟨by omega, by omega, ?_⟩⟩
        have rn : ((r.toNat : Nat) : Int) = r := Int.toNat_of_nonneg r0
        have r2 : r ≤ limOf parts - z := by
          have r3 : r < limOf parts - z + 1 := r1
          omega
        refine ⟨fun j δ mj => ∃ (vs : List Int) (h' : Int) (y12 y13 y14 : Option SV), δ = [some (.dat .pool), some (.dat (.int z)), some (.dat (.int far)), some (.dat (.int leap)), some (.dat (dInt ms')), some (.dat (.int parts)), some (.dat (.int (s + (vs.length : Nat)))), some (.dat (.int h')), some (.dat (dInt lead)), some (.own ((cs ++ rowsOf s vs).map dPr)), some (.own (tails.map DV.int)), some (.dat (.int (0 + (i : Int)))), y12, y13, y14] ∧
          vs.length = j ∧ Ris vs h h' ∧ h' ≤ h + (j : Int) * (10 ^ 29 + 3) ∧ mj ≤ n + 101 + i * 150 + 3 * j,
          ⟨[], h, y12, y13, y14, ?_, rfl, .start h, by omega, by omega⟩, ?_, ?_⟩
        · rw [show rowsOf s [] = [] from rfl, List.append_nil, show s + (([] : List Int).length : Nat) = s by simp]
          rfl
        · rintro j δ mj hj ⟨vs, h', y12, y13, y14, rfl, vl, ri, hh, hmj⟩
          refine ⟨two1000r, by rw [List.length_map, List.length_append, rowsOf_len]; omega, ?_⟩
          refine ⟨by omega, by decide, by decide, fun kd k0 k1 => ?_⟩
          have er : (cs ++ rowsOf s vs).map dPr ++ [dPr (s + (vs.length : Nat), h' - (s + (vs.length : Nat)))] = (cs ++ rowsOf s (vs ++ [h'])).map dPr := by
            rw [rowsOf_snoc, ← List.append_assoc, map_snoc]
          have es : s + (vs.length : Nat) + 1 = s + ((vs ++ [h']).length : Nat) := by
            rw [List.length_append, List.length_singleton]
            omega
          refine ⟨fun g => ?_, fun g => ⟨by omega, by omega, by omega, fun q q0 q1 => ?_⟩⟩
          · have g2 : kd < 3 := of_decide_eq_true g
            refine ⟨vs ++ [h'], h' + kd, some (.dat (.int (0 + (j : Int)))), some (.dat (.int kd)), y14, by rw [← er, ← es]; rfl, by rw [List.length_append, vl]; rfl, ri.snoc (by omega), by omega, by omega⟩
          · have q2 : q < leap + 1 := q1
            refine ⟨vs ++ [h'], h' + q, some (.dat (.int (0 + (j : Int)))), some (.dat (.int kd)), y14, by rw [← er, ← es]; rfl, by rw [List.length_append, vl]; rfl, ri.snoc (by omega), by omega, by omega⟩
        rintro δ mj ⟨vs, hb, y12', y13', y14', rfl, vl, ri, hh, hmj⟩
        have hr1b := ri.ab
        have vlo := ri.lo
        refine ⟨z, rfl, by omega, z0, z1, fun ms2 m2 mo2 ml2 hm2 => ?_⟩
        have l2 : 0 < ms2.length := mo2.l0
        refine ⟨by omega, by omega, fun j δ mj => ∃ (y12 : Option SV), δ = [some (.dat .pool), some (.dat (.int z)), some (.dat (.int far)), some (.dat (.int leap)), some (.dat (dInt ms2)), some (.dat (.int parts)), some (.dat (.int (s + (vs.length : Nat) + (j : Nat)))), some (.dat (.int (hop ms2 (s + (vs.length : Nat)) hb j))), some (.dat (dInt lead)), some (.own ((cs ++ rowsOf s (vs ++ (List.range j).map fun (i : Nat) => hop ms2 (s + (vs.length : Nat)) hb i)).map dPr)), some (.own (tails.map DV.int)), some (.dat (.int (0 + (i : Int)))), y12, y13', y14'] ∧ mj = m2, ⟨y12', ?_, rfl⟩, ?_, ?_⟩
        · rw [List.range_zero, List.map_nil, List.append_nil, show s + (vs.length : Nat) + ((0 : Nat) : Int) = s + (vs.length : Nat) by omega]
          rfl
        · rintro j δ mj hj ⟨y12, rfl, rfl⟩
          have hj2 : j < ms2.length := by omega
          have er : (cs ++ rowsOf s (vs ++ (List.range j).map fun (i : Nat) => hop ms2 (s + (vs.length : Nat)) hb i)).map dPr ++ [dPr (s + (vs.length : Nat) + (j : Nat), hop ms2 (s + (vs.length : Nat)) hb j - (s + (vs.length : Nat) + (j : Nat)))] = (cs ++ rowsOf s (vs ++ (List.range (j + 1)).map fun (i : Nat) => hop ms2 (s + (vs.length : Nat)) hb i)).map dPr := by
            rw [List.range_succ, map_snoc, ← List.append_assoc, rowsOf_snoc, ← List.append_assoc, map_snoc, List.length_append, List.length_map, List.length_range, show s + ((vs.length + j : Nat) : Int) = s + (vs.length : Nat) + (j : Nat) by omega]
          refine ⟨two1000r, by rw [List.length_map, List.length_append, rowsOf_len, List.length_append, List.length_map, List.length_range]; omega, ?_⟩
          refine ⟨by omega, .int (wkOff ms2 (s + (vs.length : Nat) + (j : Nat))), by rw [← ml2]; exact atI_wkD l2, ?_⟩
          refine ⟨some (.dat (.int (0 + (j : Int)))), ?_, rfl⟩
          rw [← er, show s + (vs.length : Nat) + ((j + 1 : Nat) : Int) = s + (vs.length : Nat) + (j : Nat) + 1 by omega]
          rfl
        rintro δ mj ⟨y12'', rfl, rfl⟩
        have zn2 : z.toNat = ms2.length := by omega
        rw [zn2]
        have inv2 := inv.run mo2 (by omega) ri
        have wk := hop_week mo2 (s + (vs.length : Nat)) hb
        have rl : (rowsOf s (vs ++ (List.range ms2.length).map fun (i : Nat) => hop ms2 (s + (vs.length : Nat)) hb i)).length = vs.length + ms2.length := by rw [rowsOf_len, List.length_append, List.length_map, List.length_range]
        have rb : ∀ c ∈ rowsOf s (vs ++ (List.range ms2.length).map fun (i : Nat) => hop ms2 (s + (vs.length : Nat)) hb i), (s ≤ c.1 ∧ c.1 ≤ s + 36) ∧ h ≤ c.1 + c.2 ∧ c.1 + c.2 ≤ hb + 12 := fun c hc => by
          obtain ⟨q, hq, e1, e2⟩ := rowsOf_mem hc
          have hm : (vs ++ (List.range ms2.length).map fun (i : Nat) => hop ms2 (s + (vs.length : Nat)) hb i).getD q 0 ∈ (vs ++ (List.range ms2.length).map fun (i : Nat) => hop ms2 (s + (vs.length : Nat)) hb i) := by
            rw [List.getD_eq_getElem?_getD, List.getElem?_eq_getElem hq]
            exact List.getElem_mem hq
          rw [List.length_append, List.length_map, List.length_range] at hq
          rcases List.mem_append.mp hm with h1 | h1
          · have := vlo _ h1
            have := ri.le _ h1
            omega
          · obtain ⟨q2, hq2, e3⟩ := List.mem_map.mp h1
            have hq2 := List.mem_range.mp hq2
            have := hop_le mo2 (s + (vs.length : Nat)) hb (Nat.zero_le q2)
            have := hop_le mo2 (s + (vs.length : Nat)) hb (show q2 ≤ ms2.length by omega)
            have : hop ms2 (s + (vs.length : Nat)) hb 0 = hb := rfl
            omega
        generalize hop ms2 (s + (vs.length : Nat)) hb ms2.length = h2 at inv2 wk
        generalize rowsOf s (vs ++ (List.range ms2.length).map fun (i : Nat) => hop ms2 (s + (vs.length : Nat)) hb i) = rs at inv2 rl rb
        have tln : tails.length ≤ 4 := by omega
        refine ⟨by rw [List.length_map]; omega, ?_⟩
        refine ⟨by omega, by decide, by decide, fun a1 a10 a11 => ⟨by omega, by decide, by decide, fun a2 a20 a21 => ⟨.inl ⟨by omega, by omega⟩, ?_⟩⟩⟩
        refine ⟨⟨by decide, by decide, by decide⟩, by omega, by decide, by decide, fun a3 a30 a31 => ⟨.inl ⟨?_, ?_⟩, ?_⟩⟩
        · have : far * a2 = 0 ∨ far * a2 = 1 := by
            rcases hfar with q | q <;> rw [q] <;> omega
          show -(2 ^ 64) < far * a2
          omega
        · have : far * a2 = 0 ∨ far * a2 = 1 := by
            rcases hfar with q | q <;> rw [q] <;> omega
          show far * a2 < 2 ^ 64
          omega
        have a32 : a3 < 10 ^ 29 := a31
        have ap : 0 ≤ a1 + far * a2 * a3 ∧ a1 + far * a2 * a3 ≤ 10 ^ 29 + 2 := by
          have : far * a2 = 0 ∨ far * a2 = 1 := by
            rcases hfar with q | q <;> rw [q] <;> omega
          rcases this with q | q <;> rw [q] <;> omega
        refine ⟨.inr ⟨by omega, by omega⟩, .inr ⟨by omega, by omega⟩, ?_⟩
        have apz : 0 ≤ (a1 + far * a2 * a3) * z ∧ (a1 + far * a2 * a3) * z ≤ (10 ^ 29 + 2) * 12 := ⟨Int.mul_nonneg ap.1 (by omega), Int.mul_le_mul ap.2 z1 (by omega) (by decide)⟩
        have inv3 := inv2.weeks ap.1
        rw [show ((ms2.length : Nat) : Int) = z from ml2] at inv3
        refine ⟨by omega, by omega, by omega, fun d d0 d1 => ⟨by omega, by omega, ?_⟩⟩
        have dn : ((d.toNat : Nat) : Int) = d := Int.toNat_of_nonneg d0
        have et : tails.map DV.int ++ [DV.int (((cs ++ rs).map dPr).length : Nat)] = (tails ++ [((cs ++ rs).length : Int)]).map DV.int := by
          rw [map_snoc, List.length_map]
        refine ⟨fun j δ mj => ∃ (s3 h3 : Int) (y12 : Option SV), δ = [some (.dat .pool), some (.dat (.int z)), some (.dat (.int far)), some (.dat (.int leap)), some (.dat (dInt ms2)), some (.dat (.int parts)), some (.dat (.int s3)), some (.dat (.int h3)), some (.dat (dInt lead)), some (.own ((cs ++ rs).map dPr)), some (.own ((tails ++ [((cs ++ rs).length : Int)]).map DV.int)), some (.dat (.int (0 + (i : Int)))), y12, y13', some (.dat (.int (a1 + far * a2 * a3)))] ∧
          TabInv lead (cs ++ rs) ms2 s3 h3 ∧ (s + (vs.length : Nat) + z + (a1 + far * a2 * a3) * z ≤ s3 ∧ s3 ≤ s + (vs.length : Nat) + z + (a1 + far * a2 * a3) * z + j) ∧ (h2 + (a1 + far * a2 * a3) * z ≤ h3 ∧ h3 ≤ h2 + (a1 + far * a2 * a3) * z + 12 * (j : Int)) ∧ mj ≤ n + 140 + i * 150 + 80,
          ⟨s + (vs.length : Nat) + z + (a1 + far * a2 * a3) * z, h2 + (a1 + far * a2 * a3) * z, y12'', ?_, inv3, by omega, by omega, by omega⟩, ?_, ?_⟩
        · rw [← et, ← ml2]
          rfl
        · rintro j δ mj hj ⟨s3, h3, y12, rfl, inv4, sb3, hb3, hmj⟩
          have ws := wk_small mo2 s3
          refine ⟨by omega, .int (wkOff ms2 s3), by rw [← ml2]; exact atI_wkD l2, ?_⟩
          exact ⟨s3 + 1, h3 + wkOff ms2 s3, some (.dat (.int (0 + (j : Int)))), rfl, inv4.step, by omega, by omega, by omega⟩
        · rintro δ mj ⟨s3, h3, y12, rfl, inv4, sb3, hb3, hmj⟩
          refine ⟨cs ++ rs, tails ++ [((cs ++ rs).length : Int)], ms2, s3, h3, _, _, _, _, rfl, inv4, ?_, ?_, ?_, ?_, ?_, ?_⟩
          · rw [List.length_append, rl]
            push_cast
            rw [Int.add_mul]
            omega
          · omega
          · intro c hc
            rcases List.mem_append.mp hc with h1 | h1
            · have := cb c h1
              omega
            · have := rb c h1
              omega
          · intro t ht
            rcases List.mem_append.mp ht with h1 | h1
            · obtain ⟨q, e1, e2, e3⟩ := tl t h1
              exact ⟨q, e1, by rw [List.length_append]; omega, by rw [take_app e2]; exact e3⟩
            · exact ⟨(cs ++ rs).length, List.mem_singleton.mp h1, Nat.le_refl _, by rw [List.take_length]; exact inv4.up⟩
          · rw [List.length_append, tn]
            rfl
          · omega
      · rintro δ mi ⟨cs, tails, ms', s, h, y11, y12, y13, y14, rfl, inv, cl, ⟨⟨s0, s1⟩, h0, h1⟩, cb, tl, tn, hmi⟩
        have pn : ((parts.toNat : Nat) : Int) = parts := Int.toNat_of_nonneg q0
        have pr : parts ≤ 3 := by omega
        refine ⟨three1000r, k lead cs tails mi ⟨by omega, z0, z1, inv.asc, inv.up, ?_, fun v hv => ?_, fun c hc => ?_, tl, by omega⟩ (by omega)⟩
        · by_cases q : parts = 0
          · rw [pn, q] at cl
            omega
          · obtain ⟨_, l24, _⟩ := lim_at (show 1 ≤ parts by omega) pr
            rw [pn, l24] at cl
            omega
        · have := lb v hv
          omega
        · have := cb c hc
          omega
end

/-! ### k43: two tables far apart -/
theorem up_mono {bs : List Int} {cs : List (Int × Int)} (up : Up bs cs) {a b : Int} (h : a ≤ b) : val bs cs a ≤ val bs cs b := by
  have mono : ∀ n : Nat, ∀ x, val bs cs x ≤ val bs cs (x + n) := fun n => by
    induction n with
    | zero => intro x; rw [show x + ((0 : Nat) : Int) = x by omega]; exact Int.le_refl _
    | succ n ih =>
      intro x
      have := ih x
      have := up (x + n)
      rw [show x + ((n + 1 : Nat) : Int) = x + n + 1 by omega]
      omega
  have := mono (b - a).toNat a
  rw [show a + ((b - a).toNat : Int) = b by omega] at this
  exact this
theorem first_plain {b1 : List Int} {c1 : List (Int × Int)} (l0 : 0 < b1.length) (up : Up b1 c1) {f s t : Int} (f1 : val b1 c1 (f - 1) < s) (f2 : s ≤ val b1 c1 f) (ht : t ∉ c1.map (·.1)) (e : val b1 c1 t = s) : f ≤ t ∧ t < f + (b1.length : Nat) := by
  have ow := off_week (bs := b1) (cs := c1) l0 ht
  constructor
  · by_cases c : f ≤ t
    · exact c
    · have := up_mono up (show t ≤ f - 1 by omega)
      omega
  · by_cases c : t < f + (b1.length : Nat)
    · exact c
    · have := up_mono up (show f ≤ t - (b1.length : Nat) by omega)
      unfold val at this e f2
      omega
def turnCuts (F1 F2 : Int → Int) (z : Nat) (c1 c2 : List (Int × Int)) : List Int := (c1 ++ c2).map (·.1) ++ ((c2.flatMap fun c => rgI (F1 c.1) (F1 c.1 + z)) ++ c1.flatMap fun c => rgI (F2 c.1) (F2 c.1 + z))
theorem turn_step {b1 b2 : List Int} {c1 c2 : List (Int × Int)} {F1 F2 : Int → Int} (l0 : 0 < b1.length) (ll : b2.length = b1.length) (u1 : Up b1 c1) (u2 : Up b2 c2) (h1 : ∀ u, val b1 c1 (F1 u - 1) < u ∧ u ≤ val b1 c1 (F1 u)) (h2 : ∀ u, val b2 c2 (F2 u - 1) < u ∧ u ≤ val b2 c2 (F2 u))
    (t : Int) (h : t ∉ turnCuts F1 F2 b1.length c1 c2) : TurnP b1 c1 b2 c2 (t - (b1.length : Nat)) ↔ TurnP b1 c1 b2 c2 t := by
  unfold turnCuts at h
  rw [List.mem_append, List.mem_append, List.map_append, List.mem_append] at h
  have n1 : t ∉ c1.map (·.1) := fun z => h (.inl (.inl z))
  have n2 : t ∉ c2.map (·.1) := fun z => h (.inl (.inr z))
  have l02 : 0 < b2.length := by omega
  have n3 : val b1 c1 t ∉ c2.map (·.1) := fun z => by
    obtain ⟨c, hc, e⟩ := List.mem_map.mp z
    have f := first_plain l0 u1 (h1 c.1).1 (h1 c.1).2 n1 e.symm
    exact h (.inr (.inl (List.mem_flatMap.mpr ⟨c, hc, rgI_mem.mpr f⟩)))
  have n4 : val b2 c2 t ∉ c1.map (·.1) := fun z => by
    obtain ⟨c, hc, e⟩ := List.mem_map.mp z
    have f := first_plain l02 u2 (h2 c.1).1 (h2 c.1).2 n2 e.symm
    rw [ll] at f
    exact h (.inr (.inr (List.mem_flatMap.mpr ⟨c, hc, rgI_mem.mpr f⟩)))
  have e1 := off_week (bs := b1) (cs := c1) l0 n1
  have e2 := off_week (bs := b2) (cs := c2) l02 n2
  have e3 := off_week (bs := b2) (cs := c2) l02 n3
  have e4 := off_week (bs := b1) (cs := c1) l0 n4
  rw [ll] at e2 e3
  have v1 : val b1 c1 (t - (b1.length : Nat)) = val b1 c1 t - (b1.length : Nat) := by unfold val; omega
  have v2 : val b2 c2 (t - (b1.length : Nat)) = val b2 c2 t - (b1.length : Nat) := by unfold val; omega
  unfold TurnP
  rw [v1, v2]
  generalize val b1 c1 t = x at e3 ⊢
  generalize val b2 c2 t = y at e4 ⊢
  unfold val
  omega
theorem turn_mem {b1 b2 : List Int} {c1 c2 : List (Int × Int)} {F1 F2 : Int → Int} (l0 : 0 < b1.length) (ll : b2.length = b1.length) (u1 : Up b1 c1) (u2 : Up b2 c2) (h1 : ∀ u, val b1 c1 (F1 u - 1) < u ∧ u ≤ val b1 c1 (F1 u)) (h2 : ∀ u, val b2 c2 (F2 u - 1) < u ∧ u ≤ val b2 c2 (F2 u))
    {x : Int} (h : NearP (TurnP b1 c1 b2 c2) x) : StepM (b1.length : Nat) (stepSp F1 c1 c2) x ∨ StepM (b1.length : Nat) (stepSp F2 c2 c1) x := by
  obtain ⟨t, ht, e⟩ := nearP_spot l0 (turn_step l0 ll u1 u2 h1 h2) h
  unfold stepSp
  rcases ht with ht | ht
  · unfold turnCuts at ht
    rcases List.mem_append.mp ht with ht | ht
    · exact .inl ⟨t, List.mem_cons_of_mem _ (List.mem_append_left _ ht), by omega, by omega⟩
    rcases List.mem_append.mp ht with ht | ht
    · obtain ⟨c, hc, ht⟩ := List.mem_flatMap.mp ht
      have := rgI_mem.mp ht
      exact .inl ⟨F1 c.1, List.mem_cons_of_mem _ (List.mem_append_right _ (List.mem_flatMap.mpr ⟨c, hc, List.mem_cons_self ..⟩)), by omega, by omega⟩
    · obtain ⟨c, hc, ht⟩ := List.mem_flatMap.mp ht
      have := rgI_mem.mp ht
      exact .inr ⟨F2 c.1, List.mem_cons_of_mem _ (List.mem_append_right _ (List.mem_flatMap.mpr ⟨c, hc, List.mem_cons_self ..⟩)), by omega, by omega⟩
  · exact .inl ⟨0, List.mem_cons_self .., by omega, by omega⟩
def stepAll (F1 F2 : Int → Int) (c1 c2 : List (Int × Int)) : List Int := 0 :: ((c1 ++ c2).map (·.1) ++ ((c2.flatMap fun c => [F1 c.1, F1 (c.1 + 1)]) ++ c1.flatMap fun c => [F2 c.1, F2 (c.1 + 1)]))
theorem stepAll_len (F1 F2 : Int → Int) (c1 c2 : List (Int × Int)) : (stepAll F1 F2 c1 c2).length = 1 + 3 * (c1.length + c2.length) := by
  have : ∀ (F : Int → Int) (c : List (Int × Int)), (c.flatMap fun c => [F c.1, F (c.1 + 1)]).length = 2 * c.length := fun F c => by
    induction c with
    | nil => rfl
    | cons a c ih =>
      rw [List.flatMap_cons, List.length_append, ih, List.length_cons, List.length_cons, List.length_cons, List.length_nil]
      omega
  unfold stepAll
  rw [List.length_cons, List.length_append, List.length_append, this, this, List.length_map, List.length_append]
  omega
theorem stepAll_1 {F1 F2 : Int → Int} {c1 c2 : List (Int × Int)} {s : Int} (h : s ∈ stepSp F1 c1 c2) : s ∈ stepAll F1 F2 c1 c2 := by
  unfold stepSp at h
  unfold stepAll
  simp only [List.mem_cons, List.mem_append] at h ⊢
  rcases h with h | h | h
  · exact .inl h
  · exact .inr (.inl h)
  · exact .inr (.inr (.inl h))
theorem stepAll_2 {F1 F2 : Int → Int} {c1 c2 : List (Int × Int)} {s : Int} (h : s ∈ stepSp F2 c2 c1) : s ∈ stepAll F1 F2 c1 c2 := by
  unfold stepSp at h
  unfold stepAll
  simp only [List.mem_cons, List.mem_append, List.map_append] at h ⊢
  rcases h with h | h | h
  · exact .inl h
  · exact .inr (.inl h.symm)
  · exact .inr (.inr (.inr h))
theorem flat_len {α : Type} (g : α → List Int) (b : Nat) : ∀ l : List α, (∀ s, (g s).length ≤ b) → (l.flatMap g).length ≤ l.length * b
  | [], _ => Nat.zero_le _
  | a :: l, h => by
    have := flat_len g b l h
    have := h a
    rw [List.flatMap_cons, List.length_append, List.length_cons, Nat.add_mul, Nat.one_mul]
    omega
/-- all the moments near one of the spots -/
theorem step_cov {z : Nat} (z1 : z ≤ 12) {F1 F2 : Int → Int} {c1 c2 : List (Int × Int)} (n1 : c1.length ≤ 24) (n2 : c2.length ≤ 24) : ∃ us : List Int, us.length ≤ 4000 ∧ ∀ k, StepM z (stepSp F1 c1 c2) k ∨ StepM z (stepSp F2 c2 c1) k → k ∈ us := by
  refine ⟨(stepAll F1 F2 c1 c2).flatMap fun s => rgI (s - z - 1) (s + z + 2), ?_, fun k hk => ?_⟩
  · have h1 := flat_len (fun s : Int => rgI (s - z - 1) (s + z + 2)) 27 (stepAll F1 F2 c1 c2) fun s => by
      show (rgI (s - z - 1) (s + z + 2)).length ≤ 27
      rw [rgI_len]
      omega
    rw [stepAll_len] at h1
    have : (1 + 3 * (c1.length + c2.length)) * 27 ≤ 145 * 27 := Nat.mul_le_mul_right _ (by omega)
    omega
  · obtain ⟨s, hs, h⟩ : ∃ s ∈ stepAll F1 F2 c1 c2, s - z - 1 ≤ k ∧ k ≤ s + z + 1 := hk.elim (fun ⟨s, hs, h⟩ => ⟨s, stepAll_1 hs, h⟩) fun ⟨s, hs, h⟩ => ⟨s, stepAll_2 hs, h⟩
    exact List.mem_flatMap.mpr ⟨s, hs, rgI_mem.mpr (by omega)⟩
theorem first_pick {bs : List Int} {cs : List (Int × Int)} (l0 : 0 < bs.length) : ∃ F : Int → Int, ∀ u, val bs cs (F u - 1) < u ∧ u ≤ val bs cs (F u) := by
  have key : ∀ u, ∃ f, val bs cs (f - 1) < u ∧ u ≤ val bs cs f := fun u => by
    obtain ⟨s, h1, h2⟩ := late_ex (cs := cs) l0 (u - 1)
    exact ⟨s + 1, by rw [show s + 1 - 1 = s by omega]; omega, by omega⟩
  exact ⟨fun u => (key u).choose, fun u => (key u).choose_spec⟩
theorem off_of {bs : List Int} {cs : List (Int × Int)} {B : Int} (l0 : 0 < bs.length) (bb : ∀ v ∈ bs, -B ≤ v ∧ v ≤ B) (cb : ∀ c ∈ cs, -B ≤ c.2 ∧ c.2 ≤ B) (t : Int) : -B ≤ lawOff bs cs t ∧ lawOff bs cs t ≤ B := by
  rcases lawOff_mem (cs := cs) (t := t) l0 with h | ⟨c, hc, h⟩
  · exact bb _ h
  · rw [h]
    exact cb c hc
theorem step_bnd {F : Int → Int} {b1 : List Int} {c1 c2 : List (Int × Int)} {z k B : Int} (B0 : 0 ≤ B) (hF : ∀ u, val b1 c1 (F u - 1) < u ∧ u ≤ val b1 c1 (F u)) (o : ∀ t, -B ≤ lawOff b1 c1 t ∧ lawOff b1 c1 t ≤ B) (m1 : ∀ c ∈ c1, -B ≤ c.1 ∧ c.1 ≤ B) (m2 : ∀ c ∈ c2, -B ≤ c.1 ∧ c.1 ≤ B) (h : StepM z (stepSp F c1 c2) k) (z1 : z ≤ 12) : -(2 * B + 15) ≤ k ∧ k ≤ 2 * B + 15 := by
  obtain ⟨s, hs, h⟩ := h
  have fb : ∀ u, u - B ≤ F u ∧ F u ≤ u + B := fun u => by
    have h1 := hF u
    have h2 := o (F u)
    have h3 := o (F u - 1)
    unfold val at h1
    omega
  unfold stepSp at hs
  rw [List.mem_cons, List.mem_append] at hs
  rcases hs with rfl | hs | hs
  · omega
  · obtain ⟨c, hc, rfl⟩ := List.mem_map.mp hs
    rcases List.mem_append.mp hc with hc | hc
    · have := m1 c hc
      omega
    · have := m2 c hc
      omega
  · obtain ⟨c, hc, hs⟩ := List.mem_flatMap.mp hs
    have := m2 c hc
    have := fb c.1
    have := fb (c.1 + 1)
    rcases List.mem_cons.mp hs with rfl | hs
    · omega
    · rw [List.mem_singleton.mp hs] at h
      omega
theorem cut_prs43 (rows : List (Int × Int)) (k : Nat) : cutD (rows.map dPr) none (some (k : Int)) = (rows.take k).map dPr := by
  have e : ∀ d, HT.sIx (rows.map dPr).length d (some (k : Int)) = min k rows.length := fun d => by
    rw [List.length_map]
    show (if (k : Int) < 0 then ((k : Int) + (rows.length : Int)).toNat else min (k : Int).toNat rows.length) = _
    rw [if_neg (by omega)]
    rfl
  unfold cutD
  rw [e, HT.sIx_none, List.drop_zero, Nat.sub_zero, List.map_take]
  by_cases c : k ≤ rows.length
  · rw [Nat.min_eq_left c]
  · rw [Nat.min_eq_right (by omega), List.take_of_length_le (by rw [List.length_map]; exact Nat.le_refl _), List.take_of_length_le (by rw [List.length_map]; omega)]
instance {b1 b2 : List Int} {c1 c2 : List (Int × Int)} : DecidablePred (TurnP b1 c1 b2 c2) := fun t => inferInstanceAs (Decidable (_ ≠ _))
def fApart43 : FD := fun ds n K => ∃ z : Int, ds = [.pool, .int z] ∧ n ≤ 2 * 10 ^ 6 ∧ (1 ≤ z ∧ z ≤ 12) ∧ ∀ m, m ≤ n + 1150 → K (.bl true) m
section
variable {P : Program} {w : World} {K : PySem.W.Frag} {mg : Str → Option Value} {base : Heap}
theorem scApartL : FnScope ["well", "size", "one", "two", "unlike", "spot", "here", "there", "owed", "left", "right", "told"] ["well", "size"] (defScope sApartL) := ⟨rfl, rfl, rfl, by decide +kernel, rfl, by decide +kernel, by decide +kernel⟩
theorem ok_apart43 {f R L fT fB fM fO fN fU fL fS fY : Addr} {fd dT dB dM dO dN dU dL dS dY : FuncData} (F : Fun K "_law_apart" "_law_apart" sApartL f fd) (ZR : RuC K mg R) (T : Blt mg) (T5 : Blt5 mg) (hset : mg "set" = none) (Dp : At P w K mg base 1 "_law_dip" ["well", "span"] spDip fT dT) (Tb : At P w K mg base 3 "_law_table" ["well", "size", "far", "leap"] (spD (Wr R L) fTableX) fB dB)
    (Lo : At P w K mg base 1 "_law_lowered" ["table"] (spD (Wr R L) fLowered) fL dL) (Sp : At P w K mg base 3 "_law_steps" ["one", "two"] (spD (Wr R L) fStepsL) fS dS) (Md : At P w K mg base 8 "_law_made" ["table"] (spD (Wr R L) fMade) fM dM) (Of : At P w K mg base 1 "_law_offset" ["table", "spot"] (spD (Wr R L) fOffB) fO dO) (Nl : At P w K mg base 1 "_law_nearest" ["spots"] (spD (Wr R L) fNearQ) fN dN) (Tu : At P w K mg base 8 "parting_in_turn" ["rule", "other"] (spD (Wr R L) fTurn) fU dU)
    (Sy : AtG P w K mg base 7 "_law_stays" ["made", "table"] (spD (Wr R L) fStays) fY dY) : FnG P w K mg base 9 f fd ["well", "size"] (spD (Wr R L) fApart43) := by
  refine okGD F scApartL (Wr R L) fApart43 (fun ds n K h => ?_) (fun p cdv A outer s H E hgd hr => ?_)
  · obtain ⟨z, rfl, _⟩ := h
    rfl
  · have hu := hr.units
    have hr1 : Room 1 _ := hr.mono (by decide)
    have hr3 : Room 3 _ := hr.mono (by decide)
    have hr7 : Room 7 _ := hr.mono (by decide)
    have hr8 : Room 8 _ := hr.mono (by decide)
    refine ⟨_, _, (dss_cons (ds_par (i := 2) (j := 3) rfl scApartL.nd rfl rfl (by decide) rfl rfl (da_cons (de_call Lo.ok (rd_spD rfl) hr1 Lo.at_ Lo.kp Lo.bi (da_cons (de_call Tb.ok (rd_spD rfl) hr3 Tb.at_ Tb.kp Tb.bi (da_cons (dv 0) (da_cons (dv 1) (da_cons de_int (da_cons de_int da_nil))))) da_nil)) (da_cons (de_call Lo.ok (rd_spD rfl) hr1 Lo.at_ Lo.kp Lo.bi (da_cons (de_call Tb.ok (rd_spD rfl) hr3 Tb.at_ Tb.kp Tb.bi (da_cons (dv 0) (da_cons (dv 1) (da_cons de_int (da_cons de_int da_nil))))) da_nil)) da_nil)) (by rfl))
      (dss_cut (ds_if (dt_cmp op_eq rd_Eq (de_call Dp.ok rd_dip hr1 Dp.at_ Dp.kp Dp.bi (da_cons (dv 0) (da_cons de_int da_nil))) de_int)
        (dss_one (ds_set (i := 3) scApartL.nd rfl (.inl rfl) (de_tup (da_cons (de_ixT (dv 3) de_int) (da_cons (de_f (df_sl (dq (de_ixT (dv 3) de_int)) do_none (do_some (de_ixL (dq (de_ixT (dv 3) de_int)) (de_b (call_min2 rfl) (by rfl) T.min (by decide +kernel) rd_C2 (da_cons de_int (da_cons (de_op op_sub rd_I0 (de_bQ call_len_seq (by rfl) T.len PySem.boot_len rd_len (dq (de_ixT (dv 3) de_int))) de_int) da_nil))))))) da_nil)))))
        dss_nil)
      (dss_cons (ds_setO (i := 4) scApartL.nd rfl (.inl rfl) (df_lst da_nil))
      (dss_cons (ds_for [5] PassesOwn.never rfl (di_list (de_f (df_SSD rfl (by rfl) T5.sorted (by rfl) hset (dq (de_f (df_cat (dq (de_call Sp.ok (rd_spD rfl) hr3 Sp.at_ Sp.kp Sp.bi (da_cons (dv 2) (da_cons (dv 3) da_nil)))) (dq (de_call Sp.ok (rd_spD rfl) hr3 Sp.at_ Sp.kp Sp.bi (da_cons (dv 3) (da_cons (dv 2) da_nil)))))))))) (dg_name (i := 5) scApartL.nd rfl (.inl rfl))
        (dss_cons (ds_par (i := 6) (j := 7) rfl scApartL.nd rfl rfl (by decide) rfl rfl (da_cons (de_op op_add rd_I0 (dv 5) (de_call Of.ok (rd_spD rfl) hr1 Of.at_ Of.kp Of.bi (da_cons (dv 2) (da_cons (dv 5) da_nil)))) (da_cons (de_op op_add rd_I0 (dv 5) (de_call Of.ok (rd_spD rfl) hr1 Of.at_ Of.kp Of.bi (da_cons (dv 3) (da_cons (dv 5) da_nil)))) da_nil)) (by rfl))
        (dss_one (ds_if (dt_cmp op_ne rd_Ne (de_op op_add rd_I0 (dv 6) (de_call Of.ok (rd_spD rfl) hr1 Of.at_ Of.kp Of.bi (da_cons (dv 3) (da_cons (dv 6) da_nil)))) (de_op op_add rd_I0 (dv 7) (de_call Of.ok (rd_spD rfl) hr1 Of.at_ Of.kp Of.bi (da_cons (dv 2) (da_cons (dv 7) da_nil)))))
          (dss_one (ds_app 4 (he := (dv 5))))
          dss_nil))))
      (dss_frz 4 (dss_cons (ds_par3 (i := 8) (j := 9) (l := 10) rfl scApartL.nd rfl rfl rfl (by decide) (by decide) (by decide) rfl rfl rfl (da_cons (de_call Nl.ok (rd_spD rfl) hr1 Nl.at_ Nl.kp Nl.bi (da_cons (dv 4) da_nil)) (da_cons (de_call Md.ok (rd_spD rfl) hr8 Md.at_ Md.kp Md.bi (da_cons (dv 2) da_nil)) (da_cons (de_call Md.ok (rd_spD rfl) hr8 Md.at_ Md.kp Md.bi (da_cons (dv 3) da_nil)) da_nil))) (by rfl))
      (dss_cons (ds_set (i := 11) scApartL.nd rfl (.inl rfl) (de_f (df_lst (da_cons (de_call Tu.ok (rd_spD rfl) hr8 Tu.at_ Tu.kp Tu.bi (da_cons (dv 9) (da_cons (dv 10) da_nil))) (da_cons (de_call Tu.ok (rd_spD rfl) hr8 Tu.at_ Tu.kp Tu.bi (da_cons (dv 10) (da_cons (dv 9) da_nil))) da_nil)))))
      (dss_one (ds_ret (de_and (de_cmp op_eq rd_Eq (de_b (call_rep2 hgd hu) (by rfl) T.repr (by decide +kernel) rd_repr (da_cons (dv 11) da_nil)) (de_b (call_rep2 hgd hu) (by rfl) T.repr (by decide +kernel) rd_repr (da_cons (de_f (df_lst (da_cons (dv 8) (da_cons (dv 8) da_nil)))) da_nil))) (de_and (de_callG Sy.ok (rd_spD rfl) hgd hr7 Sy.at_ Sy.kp Sy.bi (da_cons (dv 9) (da_cons (dv 2) da_nil))) (de_one (de_callG Sy.ok (rd_spD rfl) hgd hr7 Sy.at_ Sy.kp Sy.bi (da_cons (dv 10) (da_cons (dv 3) da_nil))))))))))))))), fun ds n K h => ?_⟩
    obtain ⟨z, rfl, hn, hz, k⟩ := h
    obtain ⟨zn, rfl⟩ : ∃ zn : Nat, z = (zn : Int) := ⟨z.toNat, by omega⟩
    have z0 : 0 < zn := by omega
    have z12 : zn ≤ 12 := by omega
    refine ⟨zn, 1, 4, rfl, by omega, by omega, .inr rfl, by omega, fun b1 o1 tl1 m1 tk1 hm1 => ?_⟩
    obtain ⟨v1, bt1, rfl⟩ : ∃ v bt, b1 = v :: bt := by
      have := tk1.len
      cases b1 with
      | nil => simp at this; omega
      | cons v bt => exact ⟨v, bt, rfl⟩
    have n1 := tk1.len
    rw [List.length_cons] at n1
    refine ⟨v1, bt1, o1, dInt tl1, rfl, by omega, by have := tk1.many; omega, ?_⟩
    refine ⟨zn, 1, 4, rfl, by omega, by omega, .inr rfl, by omega, fun b2 o2 tl2 m2 tk2 hm2 => ?_⟩
    obtain ⟨v2, bt2, rfl⟩ : ∃ v bt, b2 = v :: bt := by
      have := tk2.len
      cases b2 with
      | nil => simp at this; omega
      | cons v bt => exact ⟨v, bt, rfl⟩
    have n2 := tk2.len
    rw [List.length_cons] at n2
    refine ⟨v2, bt2, o2, dInt tl2, rfl, by omega, by have := tk2.many; omega, ?_⟩
    have low : ∀ {v : Int} {bt : List Int} {o : List (Int × Int)} {tl : List Int}, TabOk zn (10 ^ 33) (v :: bt) o tl → ((v :: bt).map (· - v)).length = zn ∧ (∀ q, Up (v :: bt) (o.take q) → TabL ((v :: bt).map (· - v)) (lowR v (o.take q)) (tell ((v :: bt).map (· - v)) (lowR v (o.take q))).2) ∧ (∀ x ∈ (v :: bt).map (· - v), -(3 * 10 ^ 33) ≤ x ∧ x ≤ 3 * 10 ^ 33) ∧ ∀ c ∈ lowR v o, (-(3 * 10 ^ 33) ≤ c.1 ∧ c.1 ≤ 3 * 10 ^ 33) ∧ -(3 * 10 ^ 33) ≤ c.2 ∧ c.2 ≤ 3 * 10 ^ 33 := fun {v bt o tl} tk => by
      have hv := tk.bb v (List.mem_cons_self ..)
      have ll : ((v :: bt).map (· - v)).length = zn := by rw [List.length_map]; have := tk.len; omega
      have bb : ∀ x ∈ (v :: bt).map (· - v), -(3 * 10 ^ 33) ≤ x ∧ x ≤ 3 * 10 ^ 33 := fun x hx => by
        obtain ⟨y, hy, rfl⟩ := List.mem_map.mp hx
        have := tk.bb y hy
        omega
      have cb : ∀ c ∈ lowR v o, (-(3 * 10 ^ 33) ≤ c.1 ∧ c.1 ≤ 3 * 10 ^ 33) ∧ -(3 * 10 ^ 33) ≤ c.2 ∧ c.2 ≤ 3 * 10 ^ 33 := fun c hc => by
        obtain ⟨y, hy, rfl⟩ := List.mem_map.mp hc
        have := tk.cb y hy
        show (-(3 * 10 ^ 33) ≤ y.1 ∧ y.1 ≤ 3 * 10 ^ 33) ∧ -(3 * 10 ^ 33) ≤ y.2 - v ∧ y.2 - v ≤ 3 * 10 ^ 33
        omega
      refine ⟨ll, fun q uq => ?_, bb, cb⟩
      refine tabL_of (by omega) (by omega) (by rw [lowR_len, List.length_take]; have := tk.many; omega) (lowR_asc v (tk.asc.sublist (List.take_sublist _ _))) (lowR_up v (Nat.succ_pos _) uq) (fun x hx => by have := bb x hx; omega) fun c hc => ?_
      have := cb c (by rw [← lowR_take] at hc; exact List.mem_of_mem_take hc)
      omega
    obtain ⟨ll1, tb1, bb1, cb1⟩ := low tk1
    obtain ⟨ll2, tb2, bb2, cb2⟩ := low tk2
    have q1 := tb1 o1.length (by rw [List.take_length]; exact tk1.up)
    rw [List.take_length] at q1
    have q2 := tb2 o2.length (by rw [List.take_length]; exact tk2.up)
    rw [List.take_length] at q2
    clear low tb1
    have sm := tk2.some
    have ends := tk2.ends
    generalize (v1 :: bt1).map (· - v1) = L1 at ll1 q1 bb1 ⊢
    generalize lowR v1 o1 = C1 at q1 cb1 ⊢
    generalize (v2 :: bt2).map (· - v2) = L2 at ll2 q2 bb2 tb2 ⊢
    refine ⟨fun δ m' => ∃ C tl, δ = [some (.dat .pool), some (.dat (.int (zn : Int))), some (.dat (.tup [dInt L1, dPrs C1, dInt tl1])), some (.dat (.tup (dInt L2 :: dPrs C :: tl))), none, none, none, none, none, none, none, none] ∧ TabL L2 C (tell L2 C).2 ∧ (∀ c ∈ C, (-(3 * 10 ^ 33) ≤ c.1 ∧ c.1 ≤ 3 * 10 ^ 33) ∧ -(3 * 10 ^ 33) ≤ c.2 ∧ c.2 ≤ 3 * 10 ^ 33) ∧ m' ≤ m2 + 1, ⟨by omega, by decide, by decide, fun d d0 d1 => ⟨rfl, fun g => ?_, fun g => ⟨lowR v2 o2, [dInt tl2], rfl, q2, cb2, by omega⟩⟩⟩, ?_⟩
    · obtain ⟨t, ht, hat⟩ : ∃ t ∈ tl2, atI (tl2.map DV.int) (if (((tl2.map DV.int).length : Nat) : Int) - 1 < 1 then (((tl2.map DV.int).length : Nat) : Int) - 1 else 1) = some (.int t) := by
        rw [List.length_map]
        obtain ⟨q, hq, e⟩ : ∃ q : Nat, q < tl2.length ∧ (if ((tl2.length : Nat) : Int) - 1 < 1 then ((tl2.length : Nat) : Int) - 1 else 1) = (q : Int) := by
          by_cases c : tl2.length = 1
          · exact ⟨0, by omega, by rw [if_pos (by omega)]; omega⟩
          · exact ⟨1, by omega, by rw [if_neg (by omega)]; rfl⟩
        rw [e]
        exact ⟨tl2[q], List.getElem_mem hq, atI_nat (j := q) (by rw [List.getElem?_map, List.getElem?_eq_getElem hq]; rfl)⟩
      obtain ⟨q, rfl, qle, uq⟩ := ends t ht
      refine ⟨_, atI_nat (j := 0) rfl, _, atI_nat (j := 1) rfl, _, atI_nat (j := 2) rfl, _, atI_nat (j := 2) rfl, _, hat, two1000r, lowR v2 (o2.take q), [], ?_, tb2 q uq, fun c hc => cb2 c (by rw [← lowR_take] at hc; exact List.mem_of_mem_take hc), by omega⟩
      rw [← lowR_take]
      unfold dPrs
      rw [← cut_prs43]
      rfl
    rintro δ m' ⟨C2, tl, rfl, q2, cb2, hm'⟩
    clear ends sm tb2 n1 n2
    obtain ⟨F1, h1⟩ := first_pick (cs := C1) q1.l0
    obtain ⟨F2, h2⟩ := first_pick (cs := C2) q2.l0
    have u1 := q1.up
    have u2 := q2.up
    have c1 := q1.many
    have c2 := q2.many
    have l1 : 0 < L1.length := by omega
    have l2 : 0 < L2.length := by omega
    have ll : L2.length = L1.length := by omega
    obtain ⟨us, usl, cov⟩ := step_cov (F1 := F1) (F2 := F2) z12 c1 c2
    refine ⟨Nat.zero_le _, L1, C1, [dInt tl1], L2, C2, tl, F1, rfl, by omega, by omega, by omega, u1, h1, fun f1 fm1 fl1 => ?_⟩
    refine ⟨L2, C2, tl, L1, C1, [dInt tl1], F2, rfl, by omega, by omega, by omega, u2, h2, fun f2 fm2 fl2 => ?_⟩
    rw [ll1] at fm1
    rw [ll2] at fm2
    refine ⟨by rw [List.length_map, List.length_map]; omega, f1 ++ f2, by rw [List.map_append], us, fun k hk => cov k ((List.mem_append.mp hk).elim (fun h => .inl ((fm1 k).mp h)) fun h => .inr ((fm2 k).mp h)), usl, fun ys asc mem yl => ?_⟩
    have all : ∀ x, NearP (TurnP L1 C1 L2 C2) x → x ∈ ys := fun x hx => (mem x).mpr (by
      have := turn_mem l1 ll u1 u2 h1 h2 hx
      rw [ll1] at this
      exact List.mem_append.mpr (this.elim (fun h => .inl ((fm1 x).mpr h)) fun h => .inr ((fm2 x).mpr h)))
    have bnd : ∀ x, NearP (TurnP L1 C1 L2 C2) x → -(10 ^ 39) ≤ x ∧ x ≤ 10 ^ 39 := fun x hx => by
      rcases turn_mem l1 ll u1 u2 h1 h2 hx with h | h
      · have := step_bnd (B := 3 * 10 ^ 33) (by decide) h1 (off_of l1 bb1 fun c hc => (cb1 c hc).2) (fun c hc => (cb1 c hc).1) (fun c hc => (cb2 c hc).1) h (by omega)
        omega
      · have := step_bnd (B := 3 * 10 ^ 33) (by decide) h2 (off_of l2 bb2 fun c hc => (cb2 c hc).2) (fun c hc => (cb2 c hc).1) (fun c hc => (cb1 c hc).1) h (by omega)
        omega
    clear fm1 fm2 h1 h2 cov mem
    refine ⟨fun i δ m3 => ∃ y5 y6 y7 : Option SV, δ = [some (.dat .pool), some (.dat (.int (zn : Int))), some (.dat (.tup [dInt L1, dPrs C1, dInt tl1])), some (.dat (.tup (dInt L2 :: dPrs C2 :: tl))), some (.own (((ys.take i).filter fun x => decide (TurnP L1 C1 L2 C2 x)).map DV.int)), y5, y6, y7, none, none, none, none] ∧ m3 = m', ⟨none, none, none, rfl, rfl⟩, ?_, ?_⟩
    · rintro i δ m3 hi ⟨y5, y6, y7, rfl, rfl⟩
      have hi : i < ys.length := by simpa using hi
      simp only [getD_intr hi]
      obtain ⟨s1, s2⟩ := filt_step (p := TurnP L1 C1 L2 C2) hi
      generalize ys.getD i 0 = x at s1 s2 ⊢
      refine ⟨L1, C1, [dInt tl1], x, rfl, l1, L2, C2, tl, x, rfl, l2, ?_⟩
      have fl : ((ys.take i).filter fun x => decide (TurnP L1 C1 L2 C2 x)).length ≤ 4000 := Nat.le_trans (List.length_filter_le _ _) (by rw [List.length_take]; omega)
      refine ⟨L2, C2, tl, _, rfl, l2, L1, C1, [dInt tl1], _, rfl, l1, rfl, fun g => ⟨by rw [List.length_map]; omega, some (.dat (.int x)), some (.dat (.int (val L1 C1 x))), some (.dat (.int (val L2 C2 x))), by rw [← s1 (ne_ints g)]; rfl, rfl⟩, fun g => ⟨some (.dat (.int x)), some (.dat (.int (val L1 C1 x))), some (.dat (.int (val L2 C2 x))), by rw [← s2 (ne_intsF g)]; rfl, rfl⟩⟩
    rintro δ m3 ⟨y5, y6, y7, rfl, rfl⟩
    rw [List.length_map, List.take_length]
    refine ⟨_, TurnP L1 C1 L2 C2, rfl, fun x hx => of_decide_eq_true (List.mem_filter.mp hx).2, fun x hx => (List.mem_filter (p := fun x => decide (TurnP L1 C1 L2 C2 x))).mpr ⟨all x hx, decide_eq_true hx.1⟩, fun ow how => ?_⟩
    obtain ⟨TT1, e1⟩ : ∃ TT, TT = (tell L1 C1).2 := ⟨_, rfl⟩
    obtain ⟨TT2, e2⟩ : ∃ TT, TT = (tell L2 C2).2 := ⟨_, rfl⟩
    refine ⟨L1, C1, [dInt tl1], rfl, l1, by omega, by omega, q1.asc, u1, ?_⟩
    refine ⟨L2, C2, tl, rfl, l2, by omega, by omega, q2.asc, u2, ?_⟩
    rw [← e1, ← e2]
    rw [← e1] at q1
    rw [← e2] at q2
    have howT : OwOk (TurnP L1 TT1 L2 TT2) ow := how.congr fun t => (turn_tell q1.tv q2.tv t).symm
    have t1 := q1.tl
    have t2 := q2.tl
    have w1 : TT1.length * L1.length ≤ 24 * 12 := Nat.mul_le_mul t1 q1.l1
    have w2 : TT2.length * L1.length ≤ 24 * 12 := Nat.mul_le_mul t2 q1.l1
    have w3 : TT1.length * L2.length ≤ 24 * 12 := Nat.mul_le_mul t1 q2.l1
    have w4 : TT2.length * L2.length ≤ 24 * 12 := Nat.mul_le_mul t2 q2.l1
    refine ⟨L1, TT1, L2, TT2, rfl, q1.ro, q2.ro, ll, by omega, by omega, fun r hr => ?_⟩
    obtain rfl : ow = r := howT.uniq hr
    clear hr
    refine ⟨L2, TT2, L1, TT1, rfl, q2.ro, q1.ro, ll.symm, by omega, by omega, fun r hr => ?_⟩
    obtain rfl : ow = r := (howT.congr fun t => (TurnP.symm t).symm).uniq hr
    clear hr
    have r1 := ow_rp how bnd
    have p1 := how.pu
    have rT : Rp (DV.lst [ow, ow]).py 400 40 := (Rp.list (.cons r1 (.cons r1 .nil))).mono (by decide) (by decide)
    have pT : (DV.lst [ow, ow]).pu = true := (puAll_iff _).mpr fun x hx => by
      have : x = ow := by simpa using hx
      rw [this]
      exact p1
    refine ⟨two1000r, ⟨400, 40, rT, by decide, by decide⟩, pT, two1000r, ⟨400, 40, rT, by decide, by decide⟩, pT, rfl, fun _ => ?_, fun g => absurd rfl (of_decide_eq_false g)⟩
    subst e1
    subst e2
    refine ⟨L1, C1, [dInt tl1], rfl, l1, by omega, by omega, q1.asc, u1, fun v hv => by have := bb1 v hv; omega, fun c hc => by have := cb1 c hc; omega, fun _ => ?_, fun g => nomatch g⟩
    exact ⟨L2, C2, tl, rfl, l2, by omega, by omega, q2.asc, u2, fun v hv => by have := bb2 v hv; omega, fun c hc => by have := cb2 c hc; omega, k _ (by omega)⟩
end

/-! ### k43: what the law asks -/
section
variable {P : Program} {w : World} {K : PySem.W.Frag} {mg : Str → Option Value} {base : Heap}
theorem scRight : FnScope ["well", "size", "far"] ["well"] (defScope sRight) := ⟨rfl, rfl, rfl, by decide +kernel, rfl, by decide +kernel, by decide +kernel⟩
theorem ok_right43 {f R L fT fN fD fA : Addr} {fd dT dN dD dA : FuncData} (F : Fun K "_law_right" "_law_right" sRight f fd) (T : Blt mg) (Dp : At P w K mg base 1 "_law_dip" ["well", "span"] spDip fT dT) (Ne : AtG P w K mg base 9 "_law_near" ["well", "size", "far"] (spD (Wr R L) (fPart43 1150)) fN dN)
    (De : AtG P w K mg base 9 "_law_delayed" ["well", "size", "far"] (spD (Wr R L) (fPart43 600)) fD dD) (Ap : AtG P w K mg base 9 "_law_apart" ["well", "size"] (spD (Wr R L) fApart43) fA dA) : FnG P w K mg base 10 f fd ["well"] (spD (Wr R L) fRightB) := by
  refine okGD F scRight (Wr R L) fRightB (fun ds n K h => ?_) (fun p cdv A outer s H E hgd hr => ?_)
  · obtain ⟨rfl, _⟩ := h
    rfl
  · 
    have hr1 : Room 1 _ := hr.mono (by decide)
    have hr9 : Room 9 _ := hr.mono (by decide)
    refine ⟨_, _, (dss_cons (ds_set (i := 1) scRight.nd rfl (.inl rfl) (de_op op_add rd_I0 de_int (de_call Dp.ok rd_dip hr1 Dp.at_ Dp.kp Dp.bi (da_cons (dv 0) (da_cons (de_ixL (dq (de_f (df_lst (da_cons de_int (da_cons de_int da_nil))))) (de_call Dp.ok rd_dip hr1 Dp.at_ Dp.kp Dp.bi (da_cons (dv 0) (da_cons de_int da_nil)))) da_nil)))))
      (dss_cons (ds_set (i := 2) scRight.nd rfl (.inl rfl) (de_op op_mul rd_I (de_op op_mul rd_I (dv 1) (de_op op_sub rd_I0 (de_call Dp.ok rd_dip hr1 Dp.at_ Dp.kp Dp.bi (da_cons (dv 0) (da_cons de_int da_nil))) de_int)) (de_call Dp.ok rd_dip hr1 Dp.at_ Dp.kp Dp.bi (da_cons (dv 0) (da_cons (de_op op_pow rd_I de_int de_int) da_nil)))))
      (dss_one (ds_ret (de_and (de_callG Ne.ok (rd_spD rfl) hgd hr9 Ne.at_ Ne.kp Ne.bi (da_cons (dv 0) (da_cons (dv 1) (da_cons (dv 2) da_nil)))) (de_and (de_callG De.ok (rd_spD rfl) hgd hr9 De.at_ De.kp De.bi (da_cons (dv 0) (da_cons (dv 1) (da_cons (dv 2) da_nil)))) (de_one (de_callG Ap.ok (rd_spD rfl) hgd hr9 Ap.at_ Ap.kp Ap.bi (da_cons (dv 0) (da_cons (dv 1) da_nil)))))))))), fun ds n K h => ?_⟩
    obtain ⟨rfl, hn, k⟩ := h
    refine ⟨two1000r, by omega, by decide, by decide, fun u u0 u1 => ⟨_, two_at u0 u1, ?_⟩⟩
    have hs := ifb u (5 : Int) (12 : Int) 5 12 (by omega) (by omega) (by omega) (by omega)
    obtain ⟨sp, hsp⟩ : ∃ sp : Int, (if u = 0 then (5 : Int) else 12) = sp := ⟨_, rfl⟩
    rw [hsp] at hs ⊢
    refine ⟨by omega, by omega, by omega, fun v v0 v1 => ?_⟩
    have v2 : v < sp := v1
    obtain ⟨z, hz⟩ : ∃ z : Int, 1 + v = z := ⟨_, rfl⟩
    have z1 : 1 ≤ z ∧ z ≤ 12 := by omega
    refine ⟨by omega, by decide, by decide, fun a a0 a1 => ⟨.inl ⟨by omega, by omega⟩, ?_⟩⟩
    rw [hz]
    have a2 : a < 3 := a1
    refine ⟨⟨by decide, by decide, by decide⟩, by omega, by decide, by decide, fun b b0 b1 => ?_⟩
    have b2 : b < 10 ^ 29 := b1
    obtain ⟨q, hq⟩ : ∃ q : Int, z * (a - 1) = q := ⟨_, rfl⟩
    have qb : -12 ≤ q ∧ q ≤ 12 := by
      have h1 := Int.mul_le_mul_of_nonneg_left (show a - 1 ≤ 1 by omega) (show (0 : Int) ≤ z by omega)
      have h2 := Int.mul_le_mul_of_nonneg_left (show -1 ≤ a - 1 by omega) (show (0 : Int) ≤ z by omega)
      omega
    have qe : (fun i j : Int => DV.int (i * j)) z (a - 1) = DV.int q := congrArg DV.int hq
    rw [qe]
    refine ⟨.inl ⟨by omega, by omega⟩, ?_⟩
    obtain ⟨far, hf⟩ : ∃ far : Int, q * b = far := ⟨_, rfl⟩
    have fb : -(10 ^ 32) ≤ far ∧ far ≤ 10 ^ 32 := by
      have h1 := Int.mul_le_mul_of_nonneg_right (show q ≤ 12 by omega) b0
      have h2 := Int.mul_le_mul_of_nonneg_right (show -12 ≤ q by omega) b0
      omega
    have fz : far % z = 0 := by
      rw [← hf, ← hq, Int.mul_assoc]
      exact Int.mul_emod_right ..
    refine ⟨z, far, by rw [← hf, ← hz], by omega, z1, fz, fb, fun m hm => ⟨fun _ => ?_, fun g => nomatch g⟩⟩
    refine ⟨z, far, by rw [← hf, ← hz], by omega, z1, fz, fb, fun m2 hm2 => ⟨fun _ => ?_, fun g => nomatch g⟩⟩
    exact ⟨z, by rw [← hz], by omega, z1, fun m3 hm3 => k _ (by omega)⟩
end

section
theorem all_mk {l : PySem.W.OpenLaw} {w : World} {K : PySem.W.Frag} {h : Heap} {mg : Str → Option Value} {fa LL RR f0 f1 f2 f3 f4 f5 f6 f7 f8 f9 f10 f11 f12 f13 f14 f15 f16 f17 f18 f19 f20 f21 f22 f23 f24 f25 f26 f27 f28 f29 f30 f31 f32 f33 f34 f35 f36 f37 f38 f39 f40 f41 f42 p42 f43 p43 f44 p44 f45 p45 f46 f47 f48 f49 f50 f51 f52 f53 f54 : Addr} (X : K.In h) (G : h.Ns mainGlobals mg) (hfa : mg "law" = some (.ref fa))
    {oc0 kV0 dc0 pm0 cd0 ct0 : Value} {od0 an0 : Option Addr} {sl0 : Array (Option Value)}
    {oc1 kV1 dc1 pm1 cd1 ct1 : Value} {od1 an1 : Option Addr} {sl1 : Array (Option Value)}
    {oc2 kV2 dc2 pm2 cd2 ct2 : Value} {od2 an2 : Option Addr} {sl2 : Array (Option Value)}
    {oc3 kV3 dc3 pm3 cd3 ct3 : Value} {od3 an3 : Option Addr} {sl3 : Array (Option Value)}
    {oc4 kV4 dc4 pm4 cd4 ct4 : Value} {od4 an4 : Option Addr} {sl4 : Array (Option Value)}
    {oc5 kV5 dc5 pm5 cd5 ct5 : Value} {od5 an5 : Option Addr} {sl5 : Array (Option Value)}
    {oc6 kV6 dc6 pm6 cd6 ct6 ocT6 : Value} {od6 an6 odT6 : Option Addr} {sl6 slT6 : Array (Option Value)} {dT6 : Addr} {tk6 : Tok} {nT6 : Nat}
    {oc7 kV7 dc7 pm7 cd7 ct7 : Value} {od7 an7 : Option Addr} {sl7 : Array (Option Value)}
    {oc8 kV8 dc8 pm8 cd8 ct8 : Value} {od8 an8 : Option Addr} {sl8 : Array (Option Value)}
    {oc9 kV9 dc9 pm9 cd9 ct9 : Value} {od9 an9 : Option Addr} {sl9 : Array (Option Value)}
    {oc10 kV10 dc10 pm10 cd10 ct10 : Value} {od10 an10 : Option Addr} {sl10 : Array (Option Value)}
    {oc11 kV11 dc11 pm11 cd11 ct11 : Value} {od11 an11 : Option Addr} {sl11 : Array (Option Value)}
    {oc12 kV12 dc12 pm12 cd12 ct12 : Value} {od12 an12 : Option Addr} {sl12 : Array (Option Value)}
    {oc13 kV13 dc13 pm13 cd13 ct13 : Value} {od13 an13 : Option Addr} {sl13 : Array (Option Value)}
    {oc14 kV14 dc14 pm14 cd14 ct14 : Value} {od14 an14 : Option Addr} {sl14 : Array (Option Value)}
    {oc15 kV15 dc15 pm15 cd15 ct15 : Value} {od15 an15 : Option Addr} {sl15 : Array (Option Value)}
    {oc16 kV16 dc16 pm16 cd16 ct16 : Value} {od16 an16 : Option Addr} {sl16 : Array (Option Value)}
    {oc17 kV17 dc17 pm17 cd17 ct17 : Value} {od17 an17 : Option Addr} {sl17 : Array (Option Value)}
    {oc18 kV18 dc18 pm18 cd18 ct18 : Value} {od18 an18 : Option Addr} {sl18 : Array (Option Value)}
    {oc19 kV19 dc19 pm19 cd19 ct19 : Value} {od19 an19 : Option Addr} {sl19 : Array (Option Value)}
    {oc20 kV20 dc20 pm20 cd20 ct20 : Value} {od20 an20 : Option Addr} {sl20 : Array (Option Value)}
    {oc21 kV21 dc21 pm21 cd21 ct21 : Value} {od21 an21 : Option Addr} {sl21 : Array (Option Value)}
    {oc22 kV22 dc22 pm22 cd22 ct22 : Value} {od22 an22 : Option Addr} {sl22 : Array (Option Value)}
    {oc23 kV23 dc23 pm23 cd23 ct23 : Value} {od23 an23 : Option Addr} {sl23 : Array (Option Value)}
    {oc24 kV24 dc24 pm24 cd24 ct24 : Value} {od24 an24 : Option Addr} {sl24 : Array (Option Value)}
    {oc25 kV25 dc25 pm25 cd25 ct25 : Value} {od25 an25 : Option Addr} {sl25 : Array (Option Value)}
    {oc26 kV26 dc26 pm26 cd26 ct26 : Value} {od26 an26 : Option Addr} {sl26 : Array (Option Value)}
    {oc27 kV27 dc27 pm27 cd27 ct27 : Value} {od27 an27 : Option Addr} {sl27 : Array (Option Value)}
    {oc28 kV28 dc28 pm28 cd28 ct28 : Value} {od28 an28 : Option Addr} {sl28 : Array (Option Value)}
    {oc29 kV29 dc29 pm29 cd29 ct29 : Value} {od29 an29 : Option Addr} {sl29 : Array (Option Value)}
    {oc30 kV30 dc30 pm30 cd30 ct30 : Value} {od30 an30 : Option Addr} {sl30 : Array (Option Value)}
    {oc31 kV31 dc31 pm31 cd31 ct31 : Value} {od31 an31 : Option Addr} {sl31 : Array (Option Value)}
    {oc32 kV32 dc32 pm32 cd32 ct32 : Value} {od32 an32 : Option Addr} {sl32 : Array (Option Value)}
    {oc33 kV33 dc33 pm33 cd33 ct33 : Value} {od33 an33 : Option Addr} {sl33 : Array (Option Value)}
    {oc34 kV34 dc34 pm34 cd34 ct34 : Value} {od34 an34 : Option Addr} {sl34 : Array (Option Value)}
    {oc35 kV35 dc35 pm35 cd35 ct35 : Value} {od35 an35 : Option Addr} {sl35 : Array (Option Value)}
    {oc36 kV36 dc36 pm36 cd36 ct36 : Value} {od36 an36 : Option Addr} {sl36 : Array (Option Value)}
    {oc37 kV37 dc37 pm37 cd37 ct37 : Value} {od37 an37 : Option Addr} {sl37 : Array (Option Value)}
    {oc38 kV38 dc38 pm38 cd38 ct38 : Value} {od38 an38 : Option Addr} {sl38 : Array (Option Value)}
    {oc39 kV39 dc39 pm39 cd39 ct39 : Value} {od39 an39 : Option Addr} {sl39 : Array (Option Value)}
    {oc40 kV40 dc40 pm40 cd40 ct40 : Value} {od40 an40 : Option Addr} {sl40 : Array (Option Value)}
    {oc41 kV41 dc41 pm41 cd41 ct41 : Value} {od41 an41 : Option Addr} {sl41 : Array (Option Value)}
    {rs42 : List Value}
    {oc42 kV42 dc42 pm42 cd42 ct42 : Value} {od42 an42 : Option Addr} {sl42 : Array (Option Value)}
    {rs43 : List Value}
    {oc43 kV43 dc43 pm43 cd43 ct43 : Value} {od43 an43 : Option Addr} {sl43 : Array (Option Value)}
    {rs44 : List Value}
    {oc44 kV44 dc44 pm44 cd44 ct44 : Value} {od44 an44 : Option Addr} {sl44 : Array (Option Value)}
    {rs45 : List Value}
    {oc45 kV45 dc45 pm45 cd45 ct45 : Value} {od45 an45 : Option Addr} {sl45 : Array (Option Value)}
    {oc46 kV46 dc46 pm46 cd46 ct46 : Value} {od46 an46 : Option Addr} {sl46 : Array (Option Value)}
    {oc47 kV47 dc47 pm47 cd47 ct47 : Value} {od47 an47 : Option Addr} {sl47 : Array (Option Value)}
    {oc48 kV48 dc48 pm48 cd48 ct48 : Value} {od48 an48 : Option Addr} {sl48 : Array (Option Value)}
    {oc49 kV49 dc49 pm49 cd49 ct49 : Value} {od49 an49 : Option Addr} {sl49 : Array (Option Value)}
    {oc50 kV50 dc50 pm50 cd50 ct50 : Value} {od50 an50 : Option Addr} {sl50 : Array (Option Value)}
    {oc51 kV51 dc51 pm51 cd51 ct51 : Value} {od51 an51 : Option Addr} {sl51 : Array (Option Value)}
    {oc52 kV52 dc52 pm52 cd52 ct52 : Value} {od52 an52 : Option Addr} {sl52 : Array (Option Value)}
    {oc53 kV53 dc53 pm53 cd53 ct53 : Value} {od53 an53 : Option Addr} {sl53 : Array (Option Value)}
    {oc54 kV54 dc54 pm54 cd54 ct54 : Value} {od54 an54 : Option Addr} {sl54 : Array (Option Value)}
    {t_GREATEST_WEEK : Tok}
    (aLL : PySem.W.nsIn K mainGlobals "Lane" = some (some (.ref LL)))
    (aRR : PySem.W.nsIn K mainGlobals "Rule" = some (some (.ref RR)))
    (a0 : PySem.W.nsIn K mainGlobals "check_week" = some (some (.ref f0)))
    (l0 : K.lookup f0 = some ⟨oc0, od0, .func (PySem.W.fnOf "check_week" "check_week" (defArgs sChkWeek) (defBody sChkWeek) (defScope sChkWeek) .none kV0 dc0 pm0 an0 cd0 ct0), sl0⟩)
    (c0 : PySem.W.codeIn K cd0 "check_week" = true)
    (k0 : PySem.W.keepIn K (.ref f0) = true)
    (a1 : PySem.W.nsIn K mainGlobals "check_weeks" = some (some (.ref f1)))
    (l1 : K.lookup f1 = some ⟨oc1, od1, .func (PySem.W.fnOf "check_weeks" "check_weeks" (defArgs sWeeks) (defBody sWeeks) (defScope sWeeks) .none kV1 dc1 pm1 an1 cd1 ct1), sl1⟩)
    (c1 : PySem.W.codeIn K cd1 "check_weeks" = true)
    (k1 : PySem.W.keepIn K (.ref f1) = true)
    (a2 : PySem.W.nsIn K mainGlobals "is_behind" = some (some (.ref f2)))
    (l2 : K.lookup f2 = some ⟨oc2, od2, .func (PySem.W.fnOf "is_behind" "is_behind" (defArgs sBehind) (defBody sBehind) (defScope sBehind) .none kV2 dc2 pm2 an2 cd2 ct2), sl2⟩)
    (c2 : PySem.W.codeIn K cd2 "is_behind" = true)
    (k2 : PySem.W.keepIn K (.ref f2) = true)
    (a3 : PySem.W.nsIn K mainGlobals "changed_moments" = some (some (.ref f3)))
    (l3 : K.lookup f3 = some ⟨oc3, od3, .func (PySem.W.fnOf "changed_moments" "changed_moments" (defArgs sChanged) (defBody sChanged) (defScope sChanged) .none kV3 dc3 pm3 an3 cd3 ct3), sl3⟩)
    (c3 : PySem.W.codeIn K cd3 "changed_moments" = true)
    (k3 : PySem.W.keepIn K (.ref f3) = true)
    (a4 : PySem.W.nsIn K mainGlobals "nearness" = some (some (.ref f4)))
    (l4 : K.lookup f4 = some ⟨oc4, od4, .func (PySem.W.fnOf "nearness" "nearness" (defArgs sNearness) (defBody sNearness) (defScope sNearness) .none kV4 dc4 pm4 an4 cd4 ct4), sl4⟩)
    (c4 : PySem.W.codeIn K cd4 "nearness" = true)
    (k4 : PySem.W.keepIn K (.ref f4) = true)
    (a5 : PySem.W.nsIn K mainGlobals "nearest" = some (some (.ref f5)))
    (l5 : K.lookup f5 = some ⟨oc5, od5, .func (PySem.W.fnOf "nearest" "nearest" (defArgs sNearest) (defBody sNearest) (defScope sNearest) .none kV5 dc5 pm5 an5 cd5 ct5), sl5⟩)
    (c5 : PySem.W.codeIn K cd5 "nearest" = true)
    (k5 : PySem.W.keepIn K (.ref f5) = true)
    (a6 : PySem.W.nsIn K mainGlobals "beside" = some (some (.ref f6)))
    (l6 : K.lookup f6 = some ⟨oc6, od6, .func (PySem.W.fnOf "beside" "beside" (defArgs sBeside) (defBody sBeside) (defScope sBeside) (.ref dT6) kV6 dc6 pm6 an6 cd6 ct6), sl6⟩)
    (lT6 : K.lookup dT6 = some ⟨ocT6, odT6, .seq #[.int 0 tk6] nT6, slT6⟩)
    (c6 : PySem.W.codeIn K cd6 "beside" = true)
    (k6 : PySem.W.keepIn K (.ref f6) = true)
    (a7 : PySem.W.nsIn K mainGlobals "many_upto" = some (some (.ref f7)))
    (l7 : K.lookup f7 = some ⟨oc7, od7, .func (PySem.W.fnOf "many_upto" "many_upto" (defArgs sUpto) (defBody sUpto) (defScope sUpto) .none kV7 dc7 pm7 an7 cd7 ct7), sl7⟩)
    (c7 : PySem.W.codeIn K cd7 "many_upto" = true)
    (k7 : PySem.W.keepIn K (.ref f7) = true)
    (a8 : PySem.W.nsIn K mainGlobals "telling_changes" = some (some (.ref f8)))
    (l8 : K.lookup f8 = some ⟨oc8, od8, .func (PySem.W.fnOf "telling_changes" "telling_changes" (defArgs sTelling) (defBody sTelling) (defScope sTelling) .none kV8 dc8 pm8 an8 cd8 ct8), sl8⟩)
    (c8 : PySem.W.codeIn K cd8 "telling_changes" = true)
    (k8 : PySem.W.keepIn K (.ref f8) = true)
    (a9 : PySem.W.nsIn K mainGlobals "lanes_of" = some (some (.ref f9)))
    (l9 : K.lookup f9 = some ⟨oc9, od9, .func (PySem.W.fnOf "lanes_of" "lanes_of" (defArgs sLanes) (defBody sLanes) (defScope sLanes) .none kV9 dc9 pm9 an9 cd9 ct9), sl9⟩)
    (c9 : PySem.W.codeIn K cd9 "lanes_of" = true)
    (k9 : PySem.W.keepIn K (.ref f9) = true)
    (a10 : PySem.W.nsIn K mainGlobals "check_ascending" = some (some (.ref f10)))
    (l10 : K.lookup f10 = some ⟨oc10, od10, .func (PySem.W.fnOf "check_ascending" "check_ascending" (defArgs sAscend) (defBody sAscend) (defScope sAscend) .none kV10 dc10 pm10 an10 cd10 ct10), sl10⟩)
    (c10 : PySem.W.codeIn K cd10 "check_ascending" = true)
    (k10 : PySem.W.keepIn K (.ref f10) = true)
    (a11 : PySem.W.nsIn K mainGlobals "check_rising" = some (some (.ref f11)))
    (l11 : K.lookup f11 = some ⟨oc11, od11, .func (PySem.W.fnOf "check_rising" "check_rising" (defArgs sRising) (defBody sRising) (defScope sRising) .none kV11 dc11 pm11 an11 cd11 ct11), sl11⟩)
    (c11 : PySem.W.codeIn K cd11 "check_rising" = true)
    (k11 : PySem.W.keepIn K (.ref f11) = true)
    (a12 : PySem.W.nsIn K mainGlobals "joint_changes" = some (some (.ref f12)))
    (l12 : K.lookup f12 = some ⟨oc12, od12, .func (PySem.W.fnOf "joint_changes" "joint_changes" (defArgs sJoint) (defBody sJoint) (defScope sJoint) .none kV12 dc12 pm12 an12 cd12 ct12), sl12⟩)
    (c12 : PySem.W.codeIn K cd12 "joint_changes" = true)
    (k12 : PySem.W.keepIn K (.ref f12) = true)
    (a13 : PySem.W.nsIn K mainGlobals "passing_moments" = some (some (.ref f13)))
    (l13 : K.lookup f13 = some ⟨oc13, od13, .func (PySem.W.fnOf "passing_moments" "passing_moments" (defArgs sPassing) (defBody sPassing) (defScope sPassing) .none kV13 dc13 pm13 an13 cd13 ct13), sl13⟩)
    (c13 : PySem.W.codeIn K cd13 "passing_moments" = true)
    (k13 : PySem.W.keepIn K (.ref f13) = true)
    (a14 : PySem.W.nsIn K mainGlobals "telling_moments" = some (some (.ref f14)))
    (l14 : K.lookup f14 = some ⟨oc14, od14, .func (PySem.W.fnOf "telling_moments" "telling_moments" (defArgs sTellingM) (defBody sTellingM) (defScope sTellingM) .none kV14 dc14 pm14 an14 cd14 ct14), sl14⟩)
    (c14 : PySem.W.codeIn K cd14 "telling_moments" = true)
    (k14 : PySem.W.keepIn K (.ref f14) = true)
    (a15 : PySem.W.nsIn K mainGlobals "parting" = some (some (.ref f15)))
    (l15 : K.lookup f15 = some ⟨oc15, od15, .func (PySem.W.fnOf "parting" "parting" (defArgs sParting) (defBody sParting) (defScope sParting) .none kV15 dc15 pm15 an15 cd15 ct15), sl15⟩)
    (c15 : PySem.W.codeIn K cd15 "parting" = true)
    (k15 : PySem.W.keepIn K (.ref f15) = true)
    (a16 : PySem.W.nsIn K mainGlobals "parting_in_turn" = some (some (.ref f16)))
    (l16 : K.lookup f16 = some ⟨oc16, od16, .func (PySem.W.fnOf "parting_in_turn" "parting_in_turn" (defArgs sPartTurn) (defBody sPartTurn) (defScope sPartTurn) .none kV16 dc16 pm16 an16 cd16 ct16), sl16⟩)
    (c16 : PySem.W.codeIn K cd16 "parting_in_turn" = true)
    (k16 : PySem.W.keepIn K (.ref f16) = true)
    (a17 : PySem.W.nsIn K mainGlobals "_law_well" = some (some (.ref f17)))
    (l17 : K.lookup f17 = some ⟨oc17, od17, .func (PySem.W.fnOf "_law_well" "_law_well" (defArgs sWell) (defBody sWell) (defScope sWell) .none kV17 dc17 pm17 an17 cd17 ct17), sl17⟩)
    (c17 : PySem.W.codeIn K cd17 "_law_well" = true)
    (k17 : PySem.W.keepIn K (.ref f17) = true)
    (a18 : PySem.W.nsIn K mainGlobals "_law_dip" = some (some (.ref f18)))
    (l18 : K.lookup f18 = some ⟨oc18, od18, .func (PySem.W.fnOf "_law_dip" "_law_dip" (defArgs sDip) (defBody sDip) (defScope sDip) .none kV18 dc18 pm18 an18 cd18 ct18), sl18⟩)
    (c18 : PySem.W.codeIn K cd18 "_law_dip" = true)
    (k18 : PySem.W.keepIn K (.ref f18) = true)
    (a19 : PySem.W.nsIn K mainGlobals "_law_more" = some (some (.ref f19)))
    (l19 : K.lookup f19 = some ⟨oc19, od19, .func (PySem.W.fnOf "_law_more" "_law_more" (defArgs sMore) (defBody sMore) (defScope sMore) .none kV19 dc19 pm19 an19 cd19 ct19), sl19⟩)
    (c19 : PySem.W.codeIn K cd19 "_law_more" = true)
    (k19 : PySem.W.keepIn K (.ref f19) = true)
    (a20 : PySem.W.nsIn K mainGlobals "_law_lead" = some (some (.ref f20)))
    (l20 : K.lookup f20 = some ⟨oc20, od20, .func (PySem.W.fnOf "_law_lead" "_law_lead" (defArgs sLead) (defBody sLead) (defScope sLead) .none kV20 dc20 pm20 an20 cd20 ct20), sl20⟩)
    (c20 : PySem.W.codeIn K cd20 "_law_lead" = true)
    (k20 : PySem.W.keepIn K (.ref f20) = true)
    (a21 : PySem.W.nsIn K mainGlobals "_law_table" = some (some (.ref f21)))
    (l21 : K.lookup f21 = some ⟨oc21, od21, .func (PySem.W.fnOf "_law_table" "_law_table" (defArgs sTable) (defBody sTable) (defScope sTable) .none kV21 dc21 pm21 an21 cd21 ct21), sl21⟩)
    (c21 : PySem.W.codeIn K cd21 "_law_table" = true)
    (k21 : PySem.W.keepIn K (.ref f21) = true)
    (a22 : PySem.W.nsIn K mainGlobals "_law_made" = some (some (.ref f22)))
    (l22 : K.lookup f22 = some ⟨oc22, od22, .func (PySem.W.fnOf "_law_made" "_law_made" (defArgs sMade) (defBody sMade) (defScope sMade) .none kV22 dc22 pm22 an22 cd22 ct22), sl22⟩)
    (c22 : PySem.W.codeIn K cd22 "_law_made" = true)
    (k22 : PySem.W.keepIn K (.ref f22) = true)
    (a23 : PySem.W.nsIn K mainGlobals "_law_stays" = some (some (.ref f23)))
    (l23 : K.lookup f23 = some ⟨oc23, od23, .func (PySem.W.fnOf "_law_stays" "_law_stays" (defArgs sStays) (defBody sStays) (defScope sStays) .none kV23 dc23 pm23 an23 cd23 ct23), sl23⟩)
    (c23 : PySem.W.codeIn K cd23 "_law_stays" = true)
    (k23 : PySem.W.keepIn K (.ref f23) = true)
    (a24 : PySem.W.nsIn K mainGlobals "_law_offset" = some (some (.ref f24)))
    (l24 : K.lookup f24 = some ⟨oc24, od24, .func (PySem.W.fnOf "_law_offset" "_law_offset" (defArgs sOffL) (defBody sOffL) (defScope sOffL) .none kV24 dc24 pm24 an24 cd24 ct24), sl24⟩)
    (c24 : PySem.W.codeIn K cd24 "_law_offset" = true)
    (k24 : PySem.W.keepIn K (.ref f24) = true)
    (a25 : PySem.W.nsIn K mainGlobals "_law_list" = some (some (.ref f25)))
    (l25 : K.lookup f25 = some ⟨oc25, od25, .func (PySem.W.fnOf "_law_list" "_law_list" (defArgs sListL) (defBody sListL) (defScope sListL) .none kV25 dc25 pm25 an25 cd25 ct25), sl25⟩)
    (c25 : PySem.W.codeIn K cd25 "_law_list" = true)
    (k25 : PySem.W.keepIn K (.ref f25) = true)
    (a26 : PySem.W.nsIn K mainGlobals "_law_window" = some (some (.ref f26)))
    (l26 : K.lookup f26 = some ⟨oc26, od26, .func (PySem.W.fnOf "_law_window" "_law_window" (defArgs sWindow) (defBody sWindow) (defScope sWindow) .none kV26 dc26 pm26 an26 cd26 ct26), sl26⟩)
    (c26 : PySem.W.codeIn K cd26 "_law_window" = true)
    (k26 : PySem.W.keepIn K (.ref f26) = true)
    (a27 : PySem.W.nsIn K mainGlobals "_law_nearest" = some (some (.ref f27)))
    (l27 : K.lookup f27 = some ⟨oc27, od27, .func (PySem.W.fnOf "_law_nearest" "_law_nearest" (defArgs sNearL) (defBody sNearL) (defScope sNearL) .none kV27 dc27 pm27 an27 cd27 ct27), sl27⟩)
    (c27 : PySem.W.codeIn K cd27 "_law_nearest" = true)
    (k27 : PySem.W.keepIn K (.ref f27) = true)
    (a28 : PySem.W.nsIn K mainGlobals "_law_moved" = some (some (.ref f28)))
    (l28 : K.lookup f28 = some ⟨oc28, od28, .func (PySem.W.fnOf "_law_moved" "_law_moved" (defArgs sMovedL) (defBody sMovedL) (defScope sMovedL) .none kV28 dc28 pm28 an28 cd28 ct28), sl28⟩)
    (c28 : PySem.W.codeIn K cd28 "_law_moved" = true)
    (k28 : PySem.W.keepIn K (.ref f28) = true)
    (a29 : PySem.W.nsIn K mainGlobals "_law_nearest_moved" = some (some (.ref f29)))
    (l29 : K.lookup f29 = some ⟨oc29, od29, .func (PySem.W.fnOf "_law_nearest_moved" "_law_nearest_moved" (defArgs sNearMv) (defBody sNearMv) (defScope sNearMv) .none kV29 dc29 pm29 an29 cd29 ct29), sl29⟩)
    (c29 : PySem.W.codeIn K cd29 "_law_nearest_moved" = true)
    (k29 : PySem.W.keepIn K (.ref f29) = true)
    (a30 : PySem.W.nsIn K mainGlobals "_law_near" = some (some (.ref f30)))
    (l30 : K.lookup f30 = some ⟨oc30, od30, .func (PySem.W.fnOf "_law_near" "_law_near" (defArgs sNear) (defBody sNear) (defScope sNear) .none kV30 dc30 pm30 an30 cd30 ct30), sl30⟩)
    (c30 : PySem.W.codeIn K cd30 "_law_near" = true)
    (k30 : PySem.W.keepIn K (.ref f30) = true)
    (a31 : PySem.W.nsIn K mainGlobals "_law_delayed" = some (some (.ref f31)))
    (l31 : K.lookup f31 = some ⟨oc31, od31, .func (PySem.W.fnOf "_law_delayed" "_law_delayed" (defArgs sDelayedL) (defBody sDelayedL) (defScope sDelayedL) .none kV31 dc31 pm31 an31 cd31 ct31), sl31⟩)
    (c31 : PySem.W.codeIn K cd31 "_law_delayed" = true)
    (k31 : PySem.W.keepIn K (.ref f31) = true)
    (a32 : PySem.W.nsIn K mainGlobals "_law_first" = some (some (.ref f32)))
    (l32 : K.lookup f32 = some ⟨oc32, od32, .func (PySem.W.fnOf "_law_first" "_law_first" (defArgs sFirst) (defBody sFirst) (defScope sFirst) .none kV32 dc32 pm32 an32 cd32 ct32), sl32⟩)
    (c32 : PySem.W.codeIn K cd32 "_law_first" = true)
    (k32 : PySem.W.keepIn K (.ref f32) = true)
    (a33 : PySem.W.nsIn K mainGlobals "_law_lowered" = some (some (.ref f33)))
    (l33 : K.lookup f33 = some ⟨oc33, od33, .func (PySem.W.fnOf "_law_lowered" "_law_lowered" (defArgs sLowered) (defBody sLowered) (defScope sLowered) .none kV33 dc33 pm33 an33 cd33 ct33), sl33⟩)
    (c33 : PySem.W.codeIn K cd33 "_law_lowered" = true)
    (k33 : PySem.W.keepIn K (.ref f33) = true)
    (a34 : PySem.W.nsIn K mainGlobals "_law_steps" = some (some (.ref f34)))
    (l34 : K.lookup f34 = some ⟨oc34, od34, .func (PySem.W.fnOf "_law_steps" "_law_steps" (defArgs sStepsL) (defBody sStepsL) (defScope sStepsL) .none kV34 dc34 pm34 an34 cd34 ct34), sl34⟩)
    (c34 : PySem.W.codeIn K cd34 "_law_steps" = true)
    (k34 : PySem.W.keepIn K (.ref f34) = true)
    (a35 : PySem.W.nsIn K mainGlobals "_law_apart" = some (some (.ref f35)))
    (l35 : K.lookup f35 = some ⟨oc35, od35, .func (PySem.W.fnOf "_law_apart" "_law_apart" (defArgs sApartL) (defBody sApartL) (defScope sApartL) .none kV35 dc35 pm35 an35 cd35 ct35), sl35⟩)
    (c35 : PySem.W.codeIn K cd35 "_law_apart" = true)
    (k35 : PySem.W.keepIn K (.ref f35) = true)
    (a36 : PySem.W.nsIn K mainGlobals "_law_right" = some (some (.ref f36)))
    (l36 : K.lookup f36 = some ⟨oc36, od36, .func (PySem.W.fnOf "_law_right" "_law_right" (defArgs sRight) (defBody sRight) (defScope sRight) .none kV36 dc36 pm36 an36 cd36 ct36), sl36⟩)
    (c36 : PySem.W.codeIn K cd36 "_law_right" = true)
    (k36 : PySem.W.keepIn K (.ref f36) = true)
    (a37 : PySem.W.nsIn K mainGlobals "law" = some (some (.ref f37)))
    (l37 : K.lookup f37 = some ⟨oc37, od37, .func (PySem.W.fnOf "law" "law" (defArgs sLaw) (defBody sLaw) (defScope sLaw) .none kV37 dc37 pm37 an37 cd37 ct37), sl37⟩)
    (c37 : PySem.W.codeIn K cd37 "law" = true)
    (k37 : PySem.W.keepIn K (.ref f37) = true)
    (a38 : PySem.W.findIn K (.ref LL) "__init__" = some (some (.ref f38)))
    (i38 : PySem.W.isFn K (.ref f38) = true)
    (j38 : PySem.W.fnIn K f38 = true)
    (l38 : K.lookup f38 = some ⟨oc38, od38, .func (PySem.W.fnOf "__init__" "Lane.__init__" (defArgs sLaneI) (defBody sLaneI) (defScope sLaneI) .none kV38 dc38 pm38 an38 cd38 ct38), sl38⟩)
    (c38 : PySem.W.codeIn K cd38 "Lane.__init__" = true)
    (k38 : PySem.W.keepIn K (.ref f38) = true)
    (a39 : PySem.W.findIn K (.ref LL) "offset" = some (some (.ref f39)))
    (i39 : PySem.W.isFn K (.ref f39) = true)
    (j39 : PySem.W.fnIn K f39 = true)
    (l39 : K.lookup f39 = some ⟨oc39, od39, .func (PySem.W.fnOf "offset" "Lane.offset" (defArgs sLaneOff) (defBody sLaneOff) (defScope sLaneOff) .none kV39 dc39 pm39 an39 cd39 ct39), sl39⟩)
    (c39 : PySem.W.codeIn K cd39 "Lane.offset" = true)
    (k39 : PySem.W.keepIn K (.ref f39) = true)
    (a40 : PySem.W.findIn K (.ref LL) "latest_start" = some (some (.ref f40)))
    (i40 : PySem.W.isFn K (.ref f40) = true)
    (j40 : PySem.W.fnIn K f40 = true)
    (l40 : K.lookup f40 = some ⟨oc40, od40, .func (PySem.W.fnOf "latest_start" "Lane.latest_start" (defArgs sLaneLat) (defBody sLaneLat) (defScope sLaneLat) .none kV40 dc40 pm40 an40 cd40 ct40), sl40⟩)
    (c40 : PySem.W.codeIn K cd40 "Lane.latest_start" = true)
    (k40 : PySem.W.keepIn K (.ref f40) = true)
    (a41 : PySem.W.findIn K (.ref RR) "__init__" = some (some (.ref f41)))
    (i41 : PySem.W.isFn K (.ref f41) = true)
    (j41 : PySem.W.fnIn K f41 = true)
    (l41 : K.lookup f41 = some ⟨oc41, od41, .func (PySem.W.fnOf "__init__" "Rule.__init__" (defArgs sRuI) (defBody sRuI) (defScope sRuI) .none kV41 dc41 pm41 an41 cd41 ct41), sl41⟩)
    (c41 : PySem.W.codeIn K cd41 "Rule.__init__" = true)
    (k41 : PySem.W.keepIn K (.ref f41) = true)
    (a42 : PySem.W.findCls K (.ref RR) (.type "type") "delay" = some (.get (.builtin "classmethod.__get__") (.ref p42) .none (.ref RR)))
    (r42 : PySem.W.recIn K p42 "classmethod" = some (.ref f42 :: rs42))
    (j42 : PySem.W.fnIn K f42 = true)
    (l42 : K.lookup f42 = some ⟨oc42, od42, .func (PySem.W.fnOf "delay" "Rule.delay" (defArgs sRuDelay) (defBody sRuDelay) (defScope sRuDelay) .none kV42 dc42 pm42 an42 cd42 ct42), sl42⟩)
    (c42 : PySem.W.codeIn K cd42 "Rule.delay" = true)
    (k42 : PySem.W.keepIn K (.ref f42) = true)
    (a43 : PySem.W.findIn K (.ref RR) "week" = some (some (.ref p43)))
    (g43 : PySem.W.specialIn K (.ref p43) "__get__" = some (some (.builtin "property.__get__")))
    (t43 : PySem.W.takesIn K (.ref p43) = some true)
    (r43 : PySem.W.recIn K p43 "property" = some (.ref f43 :: rs43))
    (l43 : K.lookup f43 = some ⟨oc43, od43, .func (PySem.W.fnOf "week" "Rule.week" (defArgs sRuWeek) (defBody sRuWeek) (defScope sRuWeek) .none kV43 dc43 pm43 an43 cd43 ct43), sl43⟩)
    (c43 : PySem.W.codeIn K cd43 "Rule.week" = true)
    (k43 : PySem.W.keepIn K (.ref f43) = true)
    (a44 : PySem.W.findIn K (.ref RR) "base" = some (some (.ref p44)))
    (g44 : PySem.W.specialIn K (.ref p44) "__get__" = some (some (.builtin "property.__get__")))
    (t44 : PySem.W.takesIn K (.ref p44) = some true)
    (r44 : PySem.W.recIn K p44 "property" = some (.ref f44 :: rs44))
    (l44 : K.lookup f44 = some ⟨oc44, od44, .func (PySem.W.fnOf "base" "Rule.base" (defArgs sRuBase) (defBody sRuBase) (defScope sRuBase) .none kV44 dc44 pm44 an44 cd44 ct44), sl44⟩)
    (c44 : PySem.W.codeIn K cd44 "Rule.base" = true)
    (k44 : PySem.W.keepIn K (.ref f44) = true)
    (a45 : PySem.W.findIn K (.ref RR) "changes" = some (some (.ref p45)))
    (g45 : PySem.W.specialIn K (.ref p45) "__get__" = some (some (.builtin "property.__get__")))
    (t45 : PySem.W.takesIn K (.ref p45) = some true)
    (r45 : PySem.W.recIn K p45 "property" = some (.ref f45 :: rs45))
    (l45 : K.lookup f45 = some ⟨oc45, od45, .func (PySem.W.fnOf "changes" "Rule.changes" (defArgs sRuChanges) (defBody sRuChanges) (defScope sRuChanges) .none kV45 dc45 pm45 an45 cd45 ct45), sl45⟩)
    (c45 : PySem.W.codeIn K cd45 "Rule.changes" = true)
    (k45 : PySem.W.keepIn K (.ref f45) = true)
    (a46 : PySem.W.findIn K (.ref RR) "offset" = some (some (.ref f46)))
    (i46 : PySem.W.isFn K (.ref f46) = true)
    (j46 : PySem.W.fnIn K f46 = true)
    (l46 : K.lookup f46 = some ⟨oc46, od46, .func (PySem.W.fnOf "offset" "Rule.offset" (defArgs sRuOff) (defBody sRuOff) (defScope sRuOff) .none kV46 dc46 pm46 an46 cd46 ct46), sl46⟩)
    (c46 : PySem.W.codeIn K cd46 "Rule.offset" = true)
    (k46 : PySem.W.keepIn K (.ref f46) = true)
    (a47 : PySem.W.findIn K (.ref RR) "answer" = some (some (.ref f47)))
    (i47 : PySem.W.isFn K (.ref f47) = true)
    (j47 : PySem.W.fnIn K f47 = true)
    (l47 : K.lookup f47 = some ⟨oc47, od47, .func (PySem.W.fnOf "answer" "Rule.answer" (defArgs sRuAns) (defBody sRuAns) (defScope sRuAns) .none kV47 dc47 pm47 an47 cd47 ct47), sl47⟩)
    (c47 : PySem.W.codeIn K cd47 "Rule.answer" = true)
    (k47 : PySem.W.keepIn K (.ref f47) = true)
    (a48 : PySem.W.findIn K (.ref RR) "latest_start" = some (some (.ref f48)))
    (i48 : PySem.W.isFn K (.ref f48) = true)
    (j48 : PySem.W.fnIn K f48 = true)
    (l48 : K.lookup f48 = some ⟨oc48, od48, .func (PySem.W.fnOf "latest_start" "Rule.latest_start" (defArgs sRuLat) (defBody sRuLat) (defScope sRuLat) .none kV48 dc48 pm48 an48 cd48 ct48), sl48⟩)
    (c48 : PySem.W.codeIn K cd48 "Rule.latest_start" = true)
    (k48 : PySem.W.keepIn K (.ref f48) = true)
    (a49 : PySem.W.findIn K (.ref RR) "__call__" = some (some (.ref f49)))
    (i49 : PySem.W.isFn K (.ref f49) = true)
    (j49 : PySem.W.fnIn K f49 = true)
    (l49 : K.lookup f49 = some ⟨oc49, od49, .func (PySem.W.fnOf "__call__" "Rule.__call__" (defArgs sRuCall) (defBody sRuCall) (defScope sRuCall) .none kV49 dc49 pm49 an49 cd49 ct49), sl49⟩)
    (c49 : PySem.W.codeIn K cd49 "Rule.__call__" = true)
    (k49 : PySem.W.keepIn K (.ref f49) = true)
    (a50 : PySem.W.findIn K (.ref RR) "__contains__" = some (some (.ref f50)))
    (i50 : PySem.W.isFn K (.ref f50) = true)
    (j50 : PySem.W.fnIn K f50 = true)
    (l50 : K.lookup f50 = some ⟨oc50, od50, .func (PySem.W.fnOf "__contains__" "Rule.__contains__" (defArgs sRuHas) (defBody sRuHas) (defScope sRuHas) .none kV50 dc50 pm50 an50 cd50 ct50), sl50⟩)
    (c50 : PySem.W.codeIn K cd50 "Rule.__contains__" = true)
    (k50 : PySem.W.keepIn K (.ref f50) = true)
    (a51 : PySem.W.findIn K (.ref RR) "__eq__" = some (some (.ref f51)))
    (i51 : PySem.W.isFn K (.ref f51) = true)
    (j51 : PySem.W.fnIn K f51 = true)
    (l51 : K.lookup f51 = some ⟨oc51, od51, .func (PySem.W.fnOf "__eq__" "Rule.__eq__" (defArgs sRuEq) (defBody sRuEq) (defScope sRuEq) .none kV51 dc51 pm51 an51 cd51 ct51), sl51⟩)
    (c51 : PySem.W.codeIn K cd51 "Rule.__eq__" = true)
    (k51 : PySem.W.keepIn K (.ref f51) = true)
    (a52 : PySem.W.findIn K (.ref RR) "__rshift__" = some (some (.ref f52)))
    (i52 : PySem.W.isFn K (.ref f52) = true)
    (j52 : PySem.W.fnIn K f52 = true)
    (l52 : K.lookup f52 = some ⟨oc52, od52, .func (PySem.W.fnOf "__rshift__" "Rule.__rshift__" (defArgs sRuShr) (defBody sRuShr) (defScope sRuShr) .none kV52 dc52 pm52 an52 cd52 ct52), sl52⟩)
    (c52 : PySem.W.codeIn K cd52 "Rule.__rshift__" = true)
    (k52 : PySem.W.keepIn K (.ref f52) = true)
    (a53 : PySem.W.findIn K (.ref RR) "__or__" = some (some (.ref f53)))
    (i53 : PySem.W.isFn K (.ref f53) = true)
    (j53 : PySem.W.fnIn K f53 = true)
    (l53 : K.lookup f53 = some ⟨oc53, od53, .func (PySem.W.fnOf "__or__" "Rule.__or__" (defArgs sRuOr) (defBody sRuOr) (defScope sRuOr) .none kV53 dc53 pm53 an53 cd53 ct53), sl53⟩)
    (c53 : PySem.W.codeIn K cd53 "Rule.__or__" = true)
    (k53 : PySem.W.keepIn K (.ref f53) = true)
    (a54 : PySem.W.findIn K (.ref RR) "__and__" = some (some (.ref f54)))
    (i54 : PySem.W.isFn K (.ref f54) = true)
    (j54 : PySem.W.fnIn K f54 = true)
    (l54 : K.lookup f54 = some ⟨oc54, od54, .func (PySem.W.fnOf "__and__" "Rule.__and__" (defArgs sRuAnd) (defBody sRuAnd) (defScope sRuAnd) .none kV54 dc54 pm54 an54 cd54 ct54), sl54⟩)
    (c54 : PySem.W.codeIn K cd54 "Rule.__and__" = true)
    (k54 : PySem.W.keepIn K (.ref f54) = true)
    (z_int : PySem.W.nsIn K mainGlobals "int" = some none)
    (z_len : PySem.W.nsIn K mainGlobals "len" = some none)
    (z_abs : PySem.W.nsIn K mainGlobals "abs" = some none)
    (z_max : PySem.W.nsIn K mainGlobals "max" = some none)
    (z_min : PySem.W.nsIn K mainGlobals "min" = some none)
    (z_range : PySem.W.nsIn K mainGlobals "range" = some none)
    (z_repr : PySem.W.nsIn K mainGlobals "repr" = some none)
    (z_list : PySem.W.nsIn K mainGlobals "list" = some none)
    (z_enumerate : PySem.W.nsIn K mainGlobals "enumerate" = some none)
    (z_sorted : PySem.W.nsIn K mainGlobals "sorted" = some none)
    (z_zip : PySem.W.nsIn K mainGlobals "zip" = some none)
    (z_set : PySem.W.nsIn K mainGlobals "set" = some none)
    (z_isinstance : PySem.W.nsIn K mainGlobals "isinstance" = some none)
    (z_dict : PySem.W.nsIn K mainGlobals "dict" = some none)
    (q_GREATEST_WEEK : PySem.W.nsIn K mainGlobals "GREATEST_WEEK" = some (some (.int 12 t_GREATEST_WEEK)))
    (pgLL : PySem.W.plainGet K LL Str.empty = true)
    (hdLL : PySem.W.hasDictIn K LL = true)
    (poLL : PySem.W.plainOver K LL = true)
    (mkLL : PySem.W.makesIn K LL = true)
    (kcLL : PySem.W.keepIn K (.ref LL) = true)
    (saLL : PySem.W.findIn K (.ref LL) "__setattr__" = some (some (.builtin "object.__setattr__")))
    (nLLrest : PySem.W.findIn K (.ref LL) "rest" = some none)
    (nLLstep : PySem.W.findIn K (.ref LL) "step" = some none)
    (nLLmarks : PySem.W.findIn K (.ref LL) "marks" = some none)
    (nLLoffsets : PySem.W.findIn K (.ref LL) "offsets" = some none)
    (nLLgoals : PySem.W.findIn K (.ref LL) "goals" = some none)
    (pgRR : PySem.W.plainGet K RR Str.empty = true)
    (hdRR : PySem.W.hasDictIn K RR = true)
    (poRR : PySem.W.plainOver K RR = true)
    (mkRR : PySem.W.makesIn K RR = true)
    (kcRR : PySem.W.keepIn K (.ref RR) = true)
    (saRR : PySem.W.findIn K (.ref RR) "__setattr__" = some (some (.builtin "object.__setattr__")))
    (nRR_base : PySem.W.findIn K (.ref RR) "_base" = some none)
    (nRR_changes : PySem.W.findIn K (.ref RR) "_changes" = some none)
    (nRR_lanes : PySem.W.findIn K (.ref RR) "_lanes" = some none)
    (icA : PySem.W.findIn K (.ref RR) "__class__" = some (some (.builtin "object.__class__")))
    (icN : PySem.W.specialIn K (.builtin "object.__class__") "__get__" = some (some (.builtin "getset_descriptor.__get__")))
    (icT : PySem.W.takesIn K (.builtin "object.__class__") = some true)
    (icM : PySem.W.mroIn K RR (.type "object") = some true)
    (neRR : PySem.W.findIn K (.ref RR) "__ne__" = some (some (.builtin "object.__ne__")))
    (sfRR : PySem.W.selfFirst K RR = true)
    (rdRR : PySem.W.readsIn K RR (.type "type") = true)
    (gaRR : PySem.W.specialIn K (.ref RR) "__getattribute__" = some (some (.builtin "type.__getattribute__"))) :
    ∃ fd : FuncData, (∀ (s : Shared) (v : Value), BindsTo s fd ⟨[v], []⟩ [("script", v)]) ∧ ∀ base : Heap, K.In base → base.Ns mainGlobals mg → FnG l.prog w K mg base 11 fa fd ["script"] (spLaw K) := by
  have e := hfa.symm.trans (PySem.W.mg_of X G a37)
  cases e
  have F_sChkWeek := fun_mk (st := sChkWeek) l0 c0 k0
  have b_sChkWeek := F_sChkWeek.binds (ps := ["number"]) fun _ _ _ _ _ _ us hl => match us, hl with | [_], _ => rfl
  have m_sChkWeek := PySem.W.mg_of X G a0
  have k_sChkWeek := k0
  have F_sWeeks := fun_mk (st := sWeeks) l1 c1 k1
  have b_sWeeks := F_sWeeks.binds (ps := ["one", "other"]) fun _ _ _ _ _ _ us hl => match us, hl with | [_, _], _ => rfl
  have m_sWeeks := PySem.W.mg_of X G a1
  have k_sWeeks := k1
  have F_sBehind := fun_mk (st := sBehind) l2 c2 k2
  have b_sBehind := F_sBehind.binds (ps := ["changes", "index"]) fun _ _ _ _ _ _ us hl => match us, hl with | [_, _], _ => rfl
  have m_sBehind := PySem.W.mg_of X G a2
  have k_sBehind := k2
  have F_sChanged := fun_mk (st := sChanged) l3 c3 k3
  have m_sChanged := PySem.W.mg_of X G a3
  have k_sChanged := k3
  have F_sNearness := fun_mk (st := sNearness) l4 c4 k4
  have b_sNearness := F_sNearness.binds (ps := ["moment"]) fun _ _ _ _ _ _ us hl => match us, hl with | [_], _ => rfl
  have m_sNearness := PySem.W.mg_of X G a4
  have k_sNearness := k4
  have F_sNearest := fun_mk (st := sNearest) l5 c5 k5
  have b_sNearest := F_sNearest.binds (ps := ["moments"]) fun _ _ _ _ _ _ us hl => match us, hl with | [_], _ => rfl
  have m_sNearest := PySem.W.mg_of X G a5
  have k_sNearest := k5
  have F_sBeside : FunD K "beside" "beside" (defArgs sBeside) (defBody sBeside) (defScope sBeside) [.int 0] [] f6 _ := ⟨⟨_, _, _, _, _, _, _, _, _, _, rfl, l6, c6, .inr ⟨by decide, dT6, _, [.int 0 tk6], nT6, rfl, lT6, rfl, .cons ⟨_, rfl⟩ .nil⟩, .inl rfl⟩, k6⟩
  have m_sBeside := PySem.W.mg_of X G a6
  have k_sBeside := k6
  have F_sUpto := fun_mk (st := sUpto) l7 c7 k7
  have b_sUpto := F_sUpto.binds (ps := ["numbers", "limit"]) fun _ _ _ _ _ _ us hl => match us, hl with | [_, _], _ => rfl
  have m_sUpto := PySem.W.mg_of X G a7
  have k_sUpto := k7
  have F_sTelling := fun_mk (st := sTelling) l8 c8 k8
  have b_sTelling := F_sTelling.binds (ps := ["base", "changes"]) fun _ _ _ _ _ _ us hl => match us, hl with | [_, _], _ => rfl
  have m_sTelling := PySem.W.mg_of X G a8
  have k_sTelling := k8
  have F_sLanes := fun_mk (st := sLanes) l9 c9 k9
  have b_sLanes := F_sLanes.binds (ps := ["base", "changes"]) fun _ _ _ _ _ _ us hl => match us, hl with | [_, _], _ => rfl
  have m_sLanes := PySem.W.mg_of X G a9
  have k_sLanes := k9
  have F_sAscend := fun_mk (st := sAscend) l10 c10 k10
  have b_sAscend := F_sAscend.binds (ps := ["changes"]) fun _ _ _ _ _ _ us hl => match us, hl with | [_], _ => rfl
  have m_sAscend := PySem.W.mg_of X G a10
  have k_sAscend := k10
  have F_sRising := fun_mk (st := sRising) l11 c11 k11
  have b_sRising := F_sRising.binds (ps := ["rule"]) fun _ _ _ _ _ _ us hl => match us, hl with | [_], _ => rfl
  have m_sRising := PySem.W.mg_of X G a11
  have k_sRising := k11
  have F_sJoint := fun_mk (st := sJoint) l12 c12 k12
  have b_sJoint := F_sJoint.binds (ps := ["one", "other", "moments"]) fun _ _ _ _ _ _ us hl => match us, hl with | [_, _, _], _ => rfl
  have m_sJoint := PySem.W.mg_of X G a12
  have k_sJoint := k12
  have F_sPassing := fun_mk (st := sPassing) l13 c13 k13
  have b_sPassing := F_sPassing.binds (ps := ["one", "other"]) fun _ _ _ _ _ _ us hl => match us, hl with | [_, _], _ => rfl
  have m_sPassing := PySem.W.mg_of X G a13
  have k_sPassing := k13
  have F_sTellingM := fun_mk (st := sTellingM) l14 c14 k14
  have b_sTellingM := F_sTellingM.binds (ps := ["rule", "other"]) fun _ _ _ _ _ _ us hl => match us, hl with | [_, _], _ => rfl
  have m_sTellingM := PySem.W.mg_of X G a14
  have k_sTellingM := k14
  have F_sParting := fun_mk (st := sParting) l15 c15 k15
  have b_sParting := F_sParting.binds (ps := ["rule", "other"]) fun _ _ _ _ _ _ us hl => match us, hl with | [_, _], _ => rfl
  have m_sParting := PySem.W.mg_of X G a15
  have k_sParting := k15
  have F_sPartTurn := fun_mk (st := sPartTurn) l16 c16 k16
  have b_sPartTurn := F_sPartTurn.binds (ps := ["rule", "other"]) fun _ _ _ _ _ _ us hl => match us, hl with | [_, _], _ => rfl
  have m_sPartTurn := PySem.W.mg_of X G a16
  have k_sPartTurn := k16
  have F_sWell := fun_mk (st := sWell) l17 c17 k17
  have b_sWell := F_sWell.binds (ps := ["script", "place"]) fun _ _ _ _ _ _ us hl => match us, hl with | [_, _], _ => rfl
  have m_sWell := PySem.W.mg_of X G a17
  have k_sWell := k17
  have F_sDip := fun_mk (st := sDip) l18 c18 k18
  have b_sDip := F_sDip.binds (ps := ["well", "span"]) fun _ _ _ _ _ _ us hl => match us, hl with | [_, _], _ => rfl
  have m_sDip := PySem.W.mg_of X G a18
  have k_sDip := k18
  have F_sMore := fun_mk (st := sMore) l19 c19 k19
  have b_sMore := F_sMore.binds (ps := ["well", "size"]) fun _ _ _ _ _ _ us hl => match us, hl with | [_, _], _ => rfl
  have m_sMore := PySem.W.mg_of X G a19
  have k_sMore := k19
  have F_sLead := fun_mk (st := sLead) l20 c20 k20
  have b_sLead := F_sLead.binds (ps := ["more", "spot", "here"]) fun _ _ _ _ _ _ us hl => match us, hl with | [_, _, _], _ => rfl
  have m_sLead := PySem.W.mg_of X G a20
  have k_sLead := k20
  have F_sTable := fun_mk (st := sTable) l21 c21 k21
  have b_sTable := F_sTable.binds (ps := ["well", "size", "far", "leap"]) fun _ _ _ _ _ _ us hl => match us, hl with | [_, _, _, _], _ => rfl
  have m_sTable := PySem.W.mg_of X G a21
  have k_sTable := k21
  have F_sMade := fun_mk (st := sMade) l22 c22 k22
  have b_sMade := F_sMade.binds (ps := ["table"]) fun _ _ _ _ _ _ us hl => match us, hl with | [_], _ => rfl
  have m_sMade := PySem.W.mg_of X G a22
  have k_sMade := k22
  have F_sStays := fun_mk (st := sStays) l23 c23 k23
  have b_sStays := F_sStays.binds (ps := ["made", "table"]) fun _ _ _ _ _ _ us hl => match us, hl with | [_, _], _ => rfl
  have m_sStays := PySem.W.mg_of X G a23
  have k_sStays := k23
  have F_sOffL := fun_mk (st := sOffL) l24 c24 k24
  have b_sOffL := F_sOffL.binds (ps := ["table", "spot"]) fun _ _ _ _ _ _ us hl => match us, hl with | [_, _], _ => rfl
  have m_sOffL := PySem.W.mg_of X G a24
  have k_sOffL := k24
  have F_sListL := fun_mk (st := sListL) l25 c25 k25
  have b_sListL := F_sListL.binds (ps := ["table", "low", "high"]) fun _ _ _ _ _ _ us hl => match us, hl with | [_, _, _], _ => rfl
  have m_sListL := PySem.W.mg_of X G a25
  have k_sListL := k25
  have F_sWindow := fun_mk (st := sWindow) l26 c26 k26
  have b_sWindow := F_sWindow.binds (ps := ["tables"]) fun _ _ _ _ _ _ us hl => match us, hl with | [_], _ => rfl
  have m_sWindow := PySem.W.mg_of X G a26
  have k_sWindow := k26
  have F_sNearL := fun_mk (st := sNearL) l27 c27 k27
  have b_sNearL := F_sNearL.binds (ps := ["spots"]) fun _ _ _ _ _ _ us hl => match us, hl with | [_], _ => rfl
  have m_sNearL := PySem.W.mg_of X G a27
  have k_sNearL := k27
  have F_sMovedL := fun_mk (st := sMovedL) l28 c28 k28
  have b_sMovedL := F_sMovedL.binds (ps := ["table", "far"]) fun _ _ _ _ _ _ us hl => match us, hl with | [_, _], _ => rfl
  have m_sMovedL := PySem.W.mg_of X G a28
  have k_sMovedL := k28
  have F_sNearMv := fun_mk (st := sNearMv) l29 c29 k29
  have b_sNearMv := F_sNearMv.binds (ps := ["odd", "low", "size", "far"]) fun _ _ _ _ _ _ us hl => match us, hl with | [_, _, _, _], _ => rfl
  have m_sNearMv := PySem.W.mg_of X G a29
  have k_sNearMv := k29
  have F_sNear := fun_mk (st := sNear) l30 c30 k30
  have b_sNear := F_sNear.binds (ps := ["well", "size", "far"]) fun _ _ _ _ _ _ us hl => match us, hl with | [_, _, _], _ => rfl
  have m_sNear := PySem.W.mg_of X G a30
  have k_sNear := k30
  have F_sDelayedL := fun_mk (st := sDelayedL) l31 c31 k31
  have b_sDelayedL := F_sDelayedL.binds (ps := ["well", "size", "far"]) fun _ _ _ _ _ _ us hl => match us, hl with | [_, _, _], _ => rfl
  have m_sDelayedL := PySem.W.mg_of X G a31
  have k_sDelayedL := k31
  have F_sFirst := fun_mk (st := sFirst) l32 c32 k32
  have b_sFirst := F_sFirst.binds (ps := ["table", "spot"]) fun _ _ _ _ _ _ us hl => match us, hl with | [_, _], _ => rfl
  have m_sFirst := PySem.W.mg_of X G a32
  have k_sFirst := k32
  have F_sLowered := fun_mk (st := sLowered) l33 c33 k33
  have b_sLowered := F_sLowered.binds (ps := ["table"]) fun _ _ _ _ _ _ us hl => match us, hl with | [_], _ => rfl
  have m_sLowered := PySem.W.mg_of X G a33
  have k_sLowered := k33
  have F_sStepsL := fun_mk (st := sStepsL) l34 c34 k34
  have b_sStepsL := F_sStepsL.binds (ps := ["one", "two"]) fun _ _ _ _ _ _ us hl => match us, hl with | [_, _], _ => rfl
  have m_sStepsL := PySem.W.mg_of X G a34
  have k_sStepsL := k34
  have F_sApartL := fun_mk (st := sApartL) l35 c35 k35
  have b_sApartL := F_sApartL.binds (ps := ["well", "size"]) fun _ _ _ _ _ _ us hl => match us, hl with | [_, _], _ => rfl
  have m_sApartL := PySem.W.mg_of X G a35
  have k_sApartL := k35
  have F_sRight := fun_mk (st := sRight) l36 c36 k36
  have b_sRight := F_sRight.binds (ps := ["well"]) fun _ _ _ _ _ _ us hl => match us, hl with | [_], _ => rfl
  have m_sRight := PySem.W.mg_of X G a36
  have k_sRight := k36
  have F_sLaw := fun_mk (st := sLaw) l37 c37 k37
  have b_sLaw := F_sLaw.binds (ps := ["script"]) fun _ _ _ _ _ _ us hl => match us, hl with | [_], _ => rfl
  have m_sLaw := PySem.W.mg_of X G a37
  have k_sLaw := k37
  have o_sLaneI : Own K LL "__init__" f38 := ⟨a38, i38, j38⟩
  have F_sLaneI := fun_mk (st := sLaneI) l38 c38 k38
  have b_sLaneI := F_sLaneI.binds (ps := ["self", "rest", "step", "offset", "changes"]) fun _ _ _ _ _ _ us hl => match us, hl with | [_, _, _, _, _], _ => rfl
  have h_sLaneI : Meth K LL "__init__" f38 := ⟨a38, i38, k38⟩
  have MKLL : Mk K LL f38 := ⟨mkLL, a38, i38, kcLL⟩
  have o_sLaneOff : Own K LL "offset" f39 := ⟨a39, i39, j39⟩
  have F_sLaneOff := fun_mk (st := sLaneOff) l39 c39 k39
  have b_sLaneOff := F_sLaneOff.binds (ps := ["self", "moment"]) fun _ _ _ _ _ _ us hl => match us, hl with | [_, _], _ => rfl
  have h_sLaneOff : Meth K LL "offset" f39 := ⟨a39, i39, k39⟩
  have o_sLaneLat : Own K LL "latest_start" f40 := ⟨a40, i40, j40⟩
  have F_sLaneLat := fun_mk (st := sLaneLat) l40 c40 k40
  have b_sLaneLat := F_sLaneLat.binds (ps := ["self", "goal"]) fun _ _ _ _ _ _ us hl => match us, hl with | [_, _], _ => rfl
  have h_sLaneLat : Meth K LL "latest_start" f40 := ⟨a40, i40, k40⟩
  have o_sRuI : Own K RR "__init__" f41 := ⟨a41, i41, j41⟩
  have F_sRuI := fun_mk (st := sRuI) l41 c41 k41
  have b_sRuI := F_sRuI.binds (ps := ["self", "base", "changes"]) fun _ _ _ _ _ _ us hl => match us, hl with | [_, _, _], _ => rfl
  have h_sRuI : Meth K RR "__init__" f41 := ⟨a41, i41, k41⟩
  have MKRR : Mk K RR f41 := ⟨mkRR, a41, i41, kcRR⟩
  have cm_sRuDelay : ClX.CMet K RR (.type "type") "delay" p42 f42 := ⟨a42, ⟨_, r42⟩, j42⟩
  have F_sRuDelay := fun_mk (st := sRuDelay) l42 c42 k42
  have b_sRuDelay := F_sRuDelay.binds (ps := ["cls", "week", "number"]) fun _ _ _ _ _ _ us hl => match us, hl with | [_, _, _], _ => rfl
  have F_sRuWeek := fun_mk (st := sRuWeek) l43 c43 k43
  have b_sRuWeek := F_sRuWeek.binds (ps := ["self"]) fun _ _ _ _ _ _ us hl => match us, hl with | [_], _ => rfl
  have P_sRuWeek : PropOf K RR "week" p43 f43 := ⟨a43, g43, t43, _, r43⟩
  have F_sRuBase := fun_mk (st := sRuBase) l44 c44 k44
  have b_sRuBase := F_sRuBase.binds (ps := ["self"]) fun _ _ _ _ _ _ us hl => match us, hl with | [_], _ => rfl
  have P_sRuBase : PropOf K RR "base" p44 f44 := ⟨a44, g44, t44, _, r44⟩
  have F_sRuChanges := fun_mk (st := sRuChanges) l45 c45 k45
  have b_sRuChanges := F_sRuChanges.binds (ps := ["self"]) fun _ _ _ _ _ _ us hl => match us, hl with | [_], _ => rfl
  have P_sRuChanges : PropOf K RR "changes" p45 f45 := ⟨a45, g45, t45, _, r45⟩
  have o_sRuOff : Own K RR "offset" f46 := ⟨a46, i46, j46⟩
  have F_sRuOff := fun_mk (st := sRuOff) l46 c46 k46
  have b_sRuOff := F_sRuOff.binds (ps := ["self", "moment"]) fun _ _ _ _ _ _ us hl => match us, hl with | [_, _], _ => rfl
  have h_sRuOff : Meth K RR "offset" f46 := ⟨a46, i46, k46⟩
  have o_sRuAns : Own K RR "answer" f47 := ⟨a47, i47, j47⟩
  have F_sRuAns := fun_mk (st := sRuAns) l47 c47 k47
  have b_sRuAns := F_sRuAns.binds (ps := ["self", "moment"]) fun _ _ _ _ _ _ us hl => match us, hl with | [_, _], _ => rfl
  have h_sRuAns : Meth K RR "answer" f47 := ⟨a47, i47, k47⟩
  have o_sRuLat : Own K RR "latest_start" f48 := ⟨a48, i48, j48⟩
  have F_sRuLat := fun_mk (st := sRuLat) l48 c48 k48
  have b_sRuLat := F_sRuLat.binds (ps := ["self", "goal"]) fun _ _ _ _ _ _ us hl => match us, hl with | [_, _], _ => rfl
  have h_sRuLat : Meth K RR "latest_start" f48 := ⟨a48, i48, k48⟩
  have o_sRuCall : Own K RR "__call__" f49 := ⟨a49, i49, j49⟩
  have F_sRuCall := fun_mk (st := sRuCall) l49 c49 k49
  have b_sRuCall := F_sRuCall.binds (ps := ["self", "moment"]) fun _ _ _ _ _ _ us hl => match us, hl with | [_, _], _ => rfl
  have h_sRuCall : Meth K RR "__call__" f49 := ⟨a49, i49, k49⟩
  have o_sRuHas : Own K RR "__contains__" f50 := ⟨a50, i50, j50⟩
  have F_sRuHas := fun_mk (st := sRuHas) l50 c50 k50
  have b_sRuHas := F_sRuHas.binds (ps := ["self", "x"]) fun _ _ _ _ _ _ us hl => match us, hl with | [_, _], _ => rfl
  have h_sRuHas : Meth K RR "__contains__" f50 := ⟨a50, i50, k50⟩
  have o_sRuEq : Own K RR "__eq__" f51 := ⟨a51, i51, j51⟩
  have F_sRuEq := fun_mk (st := sRuEq) l51 c51 k51
  have b_sRuEq := F_sRuEq.binds (ps := ["self", "other"]) fun _ _ _ _ _ _ us hl => match us, hl with | [_, _], _ => rfl
  have h_sRuEq : Meth K RR "__eq__" f51 := ⟨a51, i51, k51⟩
  have o_sRuShr : Own K RR "__rshift__" f52 := ⟨a52, i52, j52⟩
  have F_sRuShr := fun_mk (st := sRuShr) l52 c52 k52
  have b_sRuShr := F_sRuShr.binds (ps := ["self", "other"]) fun _ _ _ _ _ _ us hl => match us, hl with | [_, _], _ => rfl
  have h_sRuShr : Meth K RR "__rshift__" f52 := ⟨a52, i52, k52⟩
  have o_sRuOr : Own K RR "__or__" f53 := ⟨a53, i53, j53⟩
  have F_sRuOr := fun_mk (st := sRuOr) l53 c53 k53
  have b_sRuOr := F_sRuOr.binds (ps := ["self", "other"]) fun _ _ _ _ _ _ us hl => match us, hl with | [_, _], _ => rfl
  have h_sRuOr : Meth K RR "__or__" f53 := ⟨a53, i53, k53⟩
  have o_sRuAnd : Own K RR "__and__" f54 := ⟨a54, i54, j54⟩
  have F_sRuAnd := fun_mk (st := sRuAnd) l54 c54 k54
  have b_sRuAnd := F_sRuAnd.binds (ps := ["self", "other"]) fun _ _ _ _ _ _ us hl => match us, hl with | [_, _], _ => rfl
  have h_sRuAnd : Meth K RR "__and__" f54 := ⟨a54, i54, k54⟩
  have clLL : Cls K LL := ⟨pgLL, hdLL, poLL, saLL⟩
  have mgLL := PySem.W.mg_of X G aLL
  have clRR : Cls K RR := ⟨pgRR, hdRR, poRR, saRR⟩
  have mgRR := PySem.W.mg_of X G aRR
  have n_int : mg "int" = none := PySem.W.mg_none_of X G z_int
  have n_len : mg "len" = none := PySem.W.mg_none_of X G z_len
  have n_abs : mg "abs" = none := PySem.W.mg_none_of X G z_abs
  have n_max : mg "max" = none := PySem.W.mg_none_of X G z_max
  have n_min : mg "min" = none := PySem.W.mg_none_of X G z_min
  have n_range : mg "range" = none := PySem.W.mg_none_of X G z_range
  have n_repr : mg "repr" = none := PySem.W.mg_none_of X G z_repr
  have n_list : mg "list" = none := PySem.W.mg_none_of X G z_list
  have n_enumerate : mg "enumerate" = none := PySem.W.mg_none_of X G z_enumerate
  have n_sorted : mg "sorted" = none := PySem.W.mg_none_of X G z_sorted
  have n_zip : mg "zip" = none := PySem.W.mg_none_of X G z_zip
  have n_set : mg "set" = none := PySem.W.mg_none_of X G z_set
  have n_isinstance : mg "isinstance" = none := PySem.W.mg_none_of X G z_isinstance
  have n_dict : mg "dict" = none := PySem.W.mg_none_of X G z_dict
  have v_GREATEST_WEEK := PySem.W.mg_of X G q_GREATEST_WEEK
  refine ⟨PySem.W.fnOf "law" "law" (defArgs sLaw) (defBody sLaw) (defScope sLaw) .none kV37 dc37 pm37 an37 cd37 ct37, fun s v => .of_eq rfl, fun base _ _ => ?_⟩
  have T : Blt mg := ⟨n_int, n_len, n_abs, n_max, n_min, n_range, n_repr, n_list⟩
  have QW : ConW mg := ⟨⟨_, v_GREATEST_WEEK⟩⟩
  have ZL : LaC K mg LL := ⟨clLL, nLLrest, nLLstep, nLLmarks, nLLoffsets, nLLgoals, mgLL⟩
  have ZR : RuC K mg RR := ⟨clRR, nRR_base, nRR_changes, nRR_lanes, mgRR⟩
  have T5 : Blt5 mg := ⟨n_sorted⟩
  have CWk : At l.prog w K mg base 1 "check_week" ["number"] spChkW _ _ := ⟨ok_chkW F_sChkWeek QW, m_sChkWeek, k_sChkWeek, b_sChkWeek⟩
  have IBh : At l.prog w K mg base 1 "is_behind" ["changes", "index"] (spBehind K) _ _ := ⟨ok_behind F_sBehind, m_sBehind, k_sBehind, b_sBehind⟩
  have Up : At l.prog w K mg base 1 "many_upto" ["numbers", "limit"] spUpto _ _ := ⟨ok_upto F_sUpto T, m_sUpto, k_sUpto, b_sUpto⟩
  have GLI : FnOk l.prog w K mg base CX0 1 _ _ ["self", "rest", "step", "offset", "changes"] (spLaneI LL K) := ok_laneI F_sLaneI ZL
  have GLO : FnOk l.prog w K mg base CX0 2 _ _ ["self", "moment"] (spLaneOff LL) := ok_laneOff F_sLaneOff ZL Up
  have Te0 : At l.prog w K mg base 1 "telling_changes" ["base", "changes"] (spTelling K) _ _ := ⟨ok_telling F_sTelling T, m_sTelling, k_sTelling, b_sTelling⟩
  have La0 : At l.prog w K mg base 3 "lanes_of" ["base", "changes"] (spLanes LL K) _ _ := ⟨ok_lanes F_sLanes T n_enumerate ZL MKLL GLI b_sLaneI, m_sLanes, k_sLanes, b_sLanes⟩
  have V1 : Pp l.prog w K mg base RR "week" (spRuWeek RR LL) _ _ _ := ⟨P_sRuWeek, ok_ruWeek F_sRuWeek ZR T, b_sRuWeek⟩
  have V2 : Pp l.prog w K mg base RR "base" (spRuBase RR LL) _ _ _ := ⟨P_sRuBase, ok_ruBase F_sRuBase ZR T, b_sRuBase⟩
  have V3 : Pp l.prog w K mg base RR "changes" (spChOf (ThR RR LL)) _ _ _ := ⟨P_sRuChanges, ok_ruChanges F_sRuChanges ZR T, b_sRuChanges⟩
  have ChM : AtR l.prog w K mg base 3 "changed_moments" (spMoms (ThR RR LL)) _ := ⟨ok_moms F_sChanged ZR.cl thR T5 V3, m_sChanged, k_sChanged⟩
  have GRO : FnOk l.prog w K mg base CX0 3 _ _ ["self", "moment"] (spRuOff RR LL) := ok_ruOff F_sRuOff ZR T ZL h_sLaneOff GLO b_sLaneOff
  have GRA : FnOk l.prog w K mg base CX0 4 _ _ ["self", "moment"] (spRuAns RR LL) := ok_ruAns F_sRuAns ZR h_sRuOff GRO b_sRuOff
  have GRC : FnOk l.prog w K mg base CX0 5 _ _ ["self", "moment"] (spRuAns RR LL) := ok_ruCall F_sRuCall ZR h_sRuAns GRA b_sRuAns
  have FB := ok_besideG (P := l.prog) (w := w) (mg := mg) (base := base) F_sBeside T T5
  obtain ⟨dd, rB, bB⟩ := F_sBeside.binds1 (ps := ["cuts", "week", "centre"]) 2 0 (by decide) (by decide) (fun T kV doc pm an cdv ct us its l1 l2 => match us, its, l1, l2 with | [a, b], [d], _, _ => ⟨_, rfl, rfl⟩)
  have Ac0 : At l.prog w K mg base 2 "check_ascending" ["changes"] (spAscend K) _ _ := ⟨ok_ascend F_sAscend T IBh, m_sAscend, k_sAscend, b_sAscend⟩
  have Ri0 : At l.prog w K mg base 4 "check_rising" ["rule"] (spRising RR LL) _ _ := ⟨ok_rising F_sRising ZR ChM FB m_sBeside k_sBeside bB rB V1 h_sRuOff GRO b_sRuOff, m_sRising, k_sRising, b_sRising⟩
  have GRI : FnOk l.prog w K mg base CX0 5 _ _ ["self", "base", "changes"] (spRuI RR LL K) := ok_ruI F_sRuI ZR T CWk Ac0 Te0 La0 Ri0
  have GLL : FnOk l.prog w K mg base CX0 2 _ _ ["self", "goal"] (spLaneLat LL) := ok_laneLat F_sLaneLat ZL T Up
  have GRL : FnOk l.prog w K mg base CX0 3 _ _ ["self", "goal"] (spRuLat RR LL) := ok_ruLat F_sRuLat ZR T ZL h_sLaneLat GLL b_sLaneLat
  have Wk : At l.prog w K mg base 3 "check_weeks" ["one", "other"] (spD (Wr RR LL) fWeeks) _ _ := ⟨ok_weeks F_sWeeks ZR V1, m_sWeeks, k_sWeeks, b_sWeeks⟩
  have GOr : FnOk l.prog w K mg base CX0 7 _ _ ["self", "other"] (spD (Wr RR LL) (fJoin mx)) := ok_ruOr F_sRuOr ZR T n_zip Wk ChM V2 h_sRuOff GRO b_sRuOff MKRR GRI b_sRuI
  have GAnd : FnOk l.prog w K mg base CX0 7 _ _ ["self", "other"] (spD (Wr RR LL) (fJoin mn)) := ok_ruAnd F_sRuAnd ZR T n_zip Wk ChM V2 h_sRuOff GRO b_sRuOff MKRR GRI b_sRuI
  have Jo : At l.prog w K mg base 5 "joint_changes" ["one", "other", "moments"] (spD (Wr RR LL) fJointC) _ _ := ⟨ok_joint F_sJoint ZR h_sRuAns GRA b_sRuAns, m_sJoint, k_sJoint, b_sJoint⟩
  have Ps : At l.prog w K mg base 4 "passing_moments" ["one", "other"] (spD (Wr RR LL) fPassG) _ _ := ⟨ok_passG F_sPassing ZR T T5 n_set ChM h_sRuLat GRL b_sRuLat, m_sPassing, k_sPassing, b_sPassing⟩
  have GShrG : FnOk l.prog w K mg base CX0 7 _ _ ["self", "other"] (spD (Wr RR LL) fShrG) := ok_ruShrG F_sRuShr ZR T n_enumerate Wk Jo Ps V2 MKRR GRI b_sRuI
  have GShr := GShrG.imp (spD_imp shr0_imp)
  have GEq : FnOk l.prog w K mg base CX0 1 _ _ ["self", "other"] (spD (Wr RR LL) fEqR) := ok_ruEq F_sRuEq ZR n_isinstance ⟨clRR, icA, icN, icT, icM, if_pos (beq_self_eq_true _)⟩
  have GHas : FnOk l.prog w K mg base CX0 5 _ _ ["self", "x"] (spD (Wr RR LL) fHas) := ok_ruHas F_sRuHas ZR h_sRuAns GRA b_sRuAns h_sRuLat GRL b_sRuLat
  have GDl : FnOk l.prog w K mg base CX0 7 _ _ ["cls", "week", "number"] (spD (Wr RR LL) fDelay) := ok_ruDelay F_sRuDelay T CWk MKRR GRI b_sRuI
  have Wl : At l.prog w K mg base 1 "_law_well" ["script", "place"] (spWell K) _ _ := ⟨ok_wellB F_sWell T, m_sWell, k_sWell, b_sWell⟩
  have Dp : At l.prog w K mg base 1 "_law_dip" ["well", "span"] spDip _ _ := ⟨ok_dip F_sDip T, m_sDip, k_sDip, b_sDip⟩
  have Mo : At l.prog w K mg base 2 "_law_more" ["well", "size"] (spD (Wr RR LL) fMore) _ _ := ⟨ok_more F_sMore T Dp, m_sMore, k_sMore, b_sMore⟩
  have Le : At l.prog w K mg base 1 "_law_lead" ["more", "spot", "here"] (spD (Wr RR LL) fLead) _ _ := ⟨ok_lead F_sLead T, m_sLead, k_sLead, b_sLead⟩
  have Of : At l.prog w K mg base 1 "_law_offset" ["table", "spot"] (spD (Wr RR LL) fOffB) _ _ := ⟨ok_offB F_sOffL T, m_sOffL, k_sOffL, b_sOffL⟩
  have Md : At l.prog w K mg base 8 "_law_made" ["table"] (spD (Wr RR LL) fMade) _ _ := ⟨ok_made F_sMade T ZR MKRR GRI b_sRuI sfRR o_sRuOr GOr b_sRuOr o_sRuAnd GAnd b_sRuAnd o_sRuShr GShr b_sRuShr ⟨rdRR, gaRR⟩ cm_sRuDelay GDl b_sRuDelay, m_sMade, k_sMade, b_sMade⟩
  have Fi : At l.prog w K mg base 2 "_law_first" ["table", "spot"] (spD (Wr RR LL) fFirst) _ _ := ⟨ok_first F_sFirst T Of, m_sFirst, k_sFirst, b_sFirst⟩
  have Sy : AtG l.prog w K mg base 7 "_law_stays" ["made", "table"] (spD (Wr RR LL) fStays) _ _ := ⟨ok_stays F_sStays T ZR V1 V2 V3 MKRR GRI b_sRuI ⟨o_sRuEq.at_, o_sRuEq.fn, neRR, icM⟩ GEq b_sRuEq o_sRuHas GHas b_sRuHas ⟨o_sRuCall.at_, o_sRuCall.fn, o_sRuCall.fi⟩ GRC b_sRuCall, m_sStays, k_sStays, b_sStays⟩
  have FBK := ok_besideK (P := l.prog) (w := w) (mg := mg) (base := base) F_sBeside T T5
  have Ns : At l.prog w K mg base 1 "nearness" ["moment"] (spD (Wr RR LL) fNess) _ _ := ⟨ok_nearness F_sNearness T, m_sNearness, k_sNearness, b_sNearness⟩
  have Nt : At l.prog w K mg base 3 "nearest" ["moments"] (spD (Wr RR LL) fNearest) _ _ := ⟨ok_nearest F_sNearest T Ns, m_sNearest, k_sNearest, b_sNearest⟩
  have Tm : At l.prog w K mg base 4 "telling_moments" ["rule", "other"] (spD (Wr RR LL) fTell) _ _ := ⟨ok_tellM F_sTellingM ZR V1 ChM FBK m_sBeside k_sBeside bB rB, m_sTellingM, k_sTellingM, b_sTellingM⟩
  have Pt : At l.prog w K mg base 5 "parting" ["rule", "other"] (spD (Wr RR LL) (fPartG PartP)) _ _ := ⟨ok_parting F_sParting ZR Wk Tm Nt h_sRuOff GRO b_sRuOff, m_sParting, k_sParting, b_sParting⟩
  have Tu : At l.prog w K mg base 8 "parting_in_turn" ["rule", "other"] (spD (Wr RR LL) fTurn) _ _ := ⟨ok_turn F_sPartTurn Pt sfRR o_sRuShr GShrG b_sRuShr, m_sPartTurn, k_sPartTurn, b_sPartTurn⟩
  have Nl : At l.prog w K mg base 1 "_law_nearest" ["spots"] (spD (Wr RR LL) fNearest) _ _ := ⟨ok_nearL F_sNearL T, m_sNearL, k_sNearL, b_sNearL⟩
  have Nq : At l.prog w K mg base 1 "_law_nearest" ["spots"] (spD (Wr RR LL) fNearQ) _ _ := ⟨Nl.ok.imp (spD_imp nearQ_imp), Nl.at_, Nl.kp, Nl.bi⟩
  have Nm : At l.prog w K mg base 2 "_law_nearest_moved" ["odd", "low", "size", "far"] (spD (Wr RR LL) fNearMv) _ _ := ⟨ok_nearMv F_sNearMv T Nl, m_sNearMv, k_sNearMv, b_sNearMv⟩
  have Wi : At l.prog w K mg base 1 "_law_window" ["tables"] (spD (Wr RR LL) fWindow2) _ _ := ⟨ok_window2 F_sWindow T, m_sWindow, k_sWindow, b_sWindow⟩
  have Li : At l.prog w K mg base 2 "_law_list" ["table", "low", "high"] (spD (Wr RR LL) fListL) _ _ := ⟨ok_listL F_sListL T n_dict Of, m_sListL, k_sListL, b_sListL⟩
  have Mv : At l.prog w K mg base 1 "_law_moved" ["table", "far"] (spD (Wr RR LL) fMoved) _ _ := ⟨ok_moved43 F_sMovedL, m_sMovedL, k_sMovedL, b_sMovedL⟩
  have Lo : At l.prog w K mg base 1 "_law_lowered" ["table"] (spD (Wr RR LL) fLowered) _ _ := ⟨ok_lowered43 F_sLowered, m_sLowered, k_sLowered, b_sLowered⟩
  have Sp : At l.prog w K mg base 3 "_law_steps" ["one", "two"] (spD (Wr RR LL) fStepsL) _ _ := ⟨ok_steps43 F_sStepsL T T5 n_set Fi, m_sStepsL, k_sStepsL, b_sStepsL⟩
  have TbN : At l.prog w K mg base 3 "_law_table" ["well", "size", "far", "leap"] (spD (Wr RR LL) fTableN) _ _ := ⟨ok_tableN F_sTable T Dp Mo Le, m_sTable, k_sTable, b_sTable⟩
  have TbX : At l.prog w K mg base 3 "_law_table" ["well", "size", "far", "leap"] (spD (Wr RR LL) fTableX) _ _ := ⟨ok_tableX F_sTable T Dp Mo Le, m_sTable, k_sTable, b_sTable⟩
  have Ne : AtG l.prog w K mg base 9 "_law_near" ["well", "size", "far"] (spD (Wr RR LL) (fPart43 1150)) _ _ := ⟨ok_near43 F_sNear ZR T Dp TbN Mv Md Nm Wi Li Tu (kb_two F_sPartTurn fun _ _ _ _ _ _ _ _ => rfl) MKRR GRI b_sRuI ⟨rdRR, gaRR⟩ cm_sRuDelay GDl b_sRuDelay Sy, m_sNear, k_sNear, b_sNear⟩
  have De : AtG l.prog w K mg base 9 "_law_delayed" ["well", "size", "far"] (spD (Wr RR LL) (fPart43 600)) _ _ := ⟨ok_delayed43 F_sDelayedL ZR T Dp TbN Mv Md Of Nq Tu ⟨rdRR, gaRR⟩ cm_sRuDelay GDl b_sRuDelay Sy, m_sDelayedL, k_sDelayedL, b_sDelayedL⟩
  have Ap : AtG l.prog w K mg base 9 "_law_apart" ["well", "size"] (spD (Wr RR LL) fApart43) _ _ := ⟨ok_apart43 F_sApartL ZR T T5 n_set Dp TbX Lo Sp Md Of Nq Tu Sy, m_sApartL, k_sApartL, b_sApartL⟩
  have GF : FnG l.prog w K mg base 10 _ _ ["well"] spFits := fits_ofB (ok_right43 F_sRight T Dp Ne De Ap)
  exact ok_law (by decide) F_sLaw T Wl GF m_sRight k_sRight b_sRight
end
end DK
open PySem PySem.W PyProof.Rows
set_option maxRecDepth 100000 in
set_option maxHeartbeats 0 in
theorem PySem.Challenge.cw_dueclocks_k43_parting_in_turn_holds : PySem.Challenge.rw_dueclocks_k43_parting_in_turn.Holds := by
  w_on; o_law; k_head; (case hw => w_witness2)
  k_fill
  refine DK.walkG (l := PySem.Challenge.rw_dueclocks_k43_parting_in_turn) (n := 63) (k := 11) (x := "script") (sp := DK.spLaw) rfl (by decide) rfl ⟨rfl, by decide, by decide⟩ (fun w h Y => PySem.W.kIn_of Y) ?F (fun J H a ns hl hO hS => ⟨a, ns, rfl, DK.Scr.of hO hS, hl, fun _ => rfl⟩)
  case F =>
    intro w mg fa h KX G hmg
    refine' DK.all_mk KX G hmg ?aLL ?aRR ?a0 ?l0 ?c0 ?k0 ?a1 ?l1 ?c1 ?k1 ?a2 ?l2 ?c2 ?k2 ?a3 ?l3 ?c3 ?k3 ?a4 ?l4 ?c4 ?k4 ?a5 ?l5 ?c5 ?k5 ?a6 ?l6 ?lT6 ?c6 ?k6 ?a7 ?l7 ?c7 ?k7 ?a8 ?l8 ?c8 ?k8 ?a9 ?l9 ?c9 ?k9 ?a10 ?l10 ?c10 ?k10 ?a11 ?l11 ?c11 ?k11 ?a12 ?l12 ?c12 ?k12 ?a13 ?l13 ?c13 ?k13 ?a14 ?l14 ?c14 ?k14 ?a15 ?l15 ?c15 ?k15 ?a16 ?l16 ?c16 ?k16 ?a17 ?l17 ?c17 ?k17 ?a18 ?l18 ?c18 ?k18 ?a19 ?l19 ?c19 ?k19 ?a20 ?l20 ?c20 ?k20 ?a21 ?l21 ?c21 ?k21 ?a22 ?l22 ?c22 ?k22 ?a23 ?l23 ?c23 ?k23 ?a24 ?l24 ?c24 ?k24 ?a25 ?l25 ?c25 ?k25 ?a26 ?l26 ?c26 ?k26 ?a27 ?l27 ?c27 ?k27 ?a28 ?l28 ?c28 ?k28 ?a29 ?l29 ?c29 ?k29 ?a30 ?l30 ?c30 ?k30 ?a31 ?l31 ?c31 ?k31 ?a32 ?l32 ?c32 ?k32 ?a33 ?l33 ?c33 ?k33 ?a34 ?l34 ?c34 ?k34 ?a35 ?l35 ?c35 ?k35 ?a36 ?l36 ?c36 ?k36 ?a37 ?l37 ?c37 ?k37 ?a38 ?i38 ?j38 ?l38 ?c38 ?k38 ?a39 ?i39 ?j39 ?l39 ?c39 ?k39 ?a40 ?i40 ?j40 ?l40 ?c40 ?k40 ?a41 ?i41 ?j41 ?l41 ?c41 ?k41 ?a42 ?r42 ?j42 ?l42 ?c42 ?k42 ?a43 ?g43 ?t43 ?r43 ?l43 ?c43 ?k43 ?a44 ?g44 ?t44 ?r44 ?l44 ?c44 ?k44 ?a45 ?g45 ?t45 ?r45 ?l45 ?c45 ?k45 ?a46 ?i46 ?j46 ?l46 ?c46 ?k46 ?a47 ?i47 ?j47 ?l47 ?c47 ?k47 ?a48 ?i48 ?j48 ?l48 ?c48 ?k48 ?a49 ?i49 ?j49 ?l49 ?c49 ?k49 ?a50 ?i50 ?j50 ?l50 ?c50 ?k50 ?a51 ?i51 ?j51 ?l51 ?c51 ?k51 ?a52 ?i52 ?j52 ?l52 ?c52 ?k52 ?a53 ?i53 ?j53 ?l53 ?c53 ?k53 ?a54 ?i54 ?j54 ?l54 ?c54 ?k54 ?z_int ?z_len ?z_abs ?z_max ?z_min ?z_range ?z_repr ?z_list ?z_enumerate ?z_sorted ?z_zip ?z_set ?z_isinstance ?z_dict ?q_GREATEST_WEEK ?pgLL ?hdLL ?poLL ?mkLL ?kcLL ?saLL ?nLLrest ?nLLstep ?nLLmarks ?nLLoffsets ?nLLgoals ?pgRR ?hdRR ?poRR ?mkRR ?kcRR ?saRR ?nRR_base ?nRR_changes ?nRR_lanes ?icA ?icN ?icT ?icM ?neRR ?sfRR ?rdRR ?gaRR
    (case aLL => k_is)
    (case aRR => k_is)
    (case a0 => k_is)
    (case l0 => k_is)
    (case c0 => k_is)
    (case k0 => k_is)
    (case a1 => k_is)
    (case l1 => k_is)
    (case c1 => k_is)
    (case k1 => k_is)
    (case a2 => k_is)
    (case l2 => k_is)
    (case c2 => k_is)
    (case k2 => k_is)
    (case a3 => k_is)
    (case l3 => k_is)
    (case c3 => k_is)
    (case k3 => k_is)
    (case a4 => k_is)
    (case l4 => k_is)
    (case c4 => k_is)
    (case k4 => k_is)
    (case a5 => k_is)
    (case l5 => k_is)
    (case c5 => k_is)
    (case k5 => k_is)
    (case a6 => k_is)
    (case l6 => k_is)
    (case lT6 => k_is)
    (case c6 => k_is)
    (case k6 => k_is)
    (case a7 => k_is)
    (case l7 => k_is)
    (case c7 => k_is)
    (case k7 => k_is)
    (case a8 => k_is)
    (case l8 => k_is)
    (case c8 => k_is)
    (case k8 => k_is)
    (case a9 => k_is)
    (case l9 => k_is)
    (case c9 => k_is)
    (case k9 => k_is)
    (case a10 => k_is)
    (case l10 => k_is)
    (case c10 => k_is)
    (case k10 => k_is)
    (case a11 => k_is)
    (case l11 => k_is)
    (case c11 => k_is)
    (case k11 => k_is)
    (case a12 => k_is)
    (case l12 => k_is)
    (case c12 => k_is)
    (case k12 => k_is)
    (case a13 => k_is)
    (case l13 => k_is)
    (case c13 => k_is)
    (case k13 => k_is)
    (case a14 => k_is)
    (case l14 => k_is)
    (case c14 => k_is)
    (case k14 => k_is)
    (case a15 => k_is)
    (case l15 => k_is)
    (case c15 => k_is)
    (case k15 => k_is)
    (case a16 => k_is)
    (case l16 => k_is)
    (case c16 => k_is)
    (case k16 => k_is)
    (case a17 => k_is)
    (case l17 => k_is)
    (case c17 => k_is)
    (case k17 => k_is)
    (case a18 => k_is)
    (case l18 => k_is)
    (case c18 => k_is)
    (case k18 => k_is)
    (case a19 => k_is)
    (case l19 => k_is)
    (case c19 => k_is)
    (case k19 => k_is)
    (case a20 => k_is)
    (case l20 => k_is)
    (case c20 => k_is)
    (case k20 => k_is)
    (case a21 => k_is)
    (case l21 => k_is)
    (case c21 => k_is)
    (case k21 => k_is)
    (case a22 => k_is)
    (case l22 => k_is)
    (case c22 => k_is)
    (case k22 => k_is)
    (case a23 => k_is)
    (case l23 => k_is)
    (case c23 => k_is)
    (case k23 => k_is)
    (case a24 => k_is)
    (case l24 => k_is)
    (case c24 => k_is)
    (case k24 => k_is)
    (case a25 => k_is)
    (case l25 => k_is)
    (case c25 => k_is)
    (case k25 => k_is)
    (case a26 => k_is)
    (case l26 => k_is)
    (case c26 => k_is)
    (case k26 => k_is)
    (case a27 => k_is)
    (case l27 => k_is)
    (case c27 => k_is)
    (case k27 => k_is)
    (case a28 => k_is)
    (case l28 => k_is)
    (case c28 => k_is)
    (case k28 => k_is)
    (case a29 => k_is)
    (case l29 => k_is)
    (case c29 => k_is)
    (case k29 => k_is)
    (case a30 => k_is)
    (case l30 => k_is)
    (case c30 => k_is)
    (case k30 => k_is)
    (case a31 => k_is)
    (case l31 => k_is)
    (case c31 => k_is)
    (case k31 => k_is)
    (case a32 => k_is)
    (case l32 => k_is)
    (case c32 => k_is)
    (case k32 => k_is)
    (case a33 => k_is)
    (case l33 => k_is)
    (case c33 => k_is)
    (case k33 => k_is)
    (case a34 => k_is)
    (case l34 => k_is)
    (case c34 => k_is)
    (case k34 => k_is)
    (case a35 => k_is)
    (case l35 => k_is)
    (case c35 => k_is)
    (case k35 => k_is)
    (case a36 => k_is)
    (case l36 => k_is)
    (case c36 => k_is)
    (case k36 => k_is)
    (case a37 => k_is)
    (case l37 => k_is)
    (case c37 => k_is)
    (case k37 => k_is)
    (case a38 => k_is)
    (case i38 => k_is)
    (case j38 => k_is)
    (case l38 => k_is)
    (case c38 => k_is)
    (case k38 => k_is)
    (case a39 => k_is)
    (case i39 => k_is)
    (case j39 => k_is)
    (case l39 => k_is)
    (case c39 => k_is)
    (case k39 => k_is)
    (case a40 => k_is)
    (case i40 => k_is)
    (case j40 => k_is)
    (case l40 => k_is)
    (case c40 => k_is)
    (case k40 => k_is)
    (case a41 => k_is)
    (case i41 => k_is)
    (case j41 => k_is)
    (case l41 => k_is)
    (case c41 => k_is)
    (case k41 => k_is)
    (case a42 => k_is)
    (case r42 => k_is)
    (case j42 => k_is)
    (case l42 => k_is)
    (case c42 => k_is)
    (case k42 => k_is)
    (case a43 => k_is)
    (case g43 => k_is)
    (case t43 => k_is)
    (case r43 => k_is)
    (case l43 => k_is)
    (case c43 => k_is)
    (case k43 => k_is)
    (case a44 => k_is)
    (case g44 => k_is)
    (case t44 => k_is)
    (case r44 => k_is)
    (case l44 => k_is)
    (case c44 => k_is)
    (case k44 => k_is)
    (case a45 => k_is)
    (case g45 => k_is)
    (case t45 => k_is)
    (case r45 => k_is)
    (case l45 => k_is)
    (case c45 => k_is)
    (case k45 => k_is)
    (case a46 => k_is)
    (case i46 => k_is)
    (case j46 => k_is)
    (case l46 => k_is)
    (case c46 => k_is)
    (case k46 => k_is)
    (case a47 => k_is)
    (case i47 => k_is)
    (case j47 => k_is)
    (case l47 => k_is)
    (case c47 => k_is)
    (case k47 => k_is)
    (case a48 => k_is)
    (case i48 => k_is)
    (case j48 => k_is)
    (case l48 => k_is)
    (case c48 => k_is)
    (case k48 => k_is)
    (case a49 => k_is)
    (case i49 => k_is)
    (case j49 => k_is)
    (case l49 => k_is)
    (case c49 => k_is)
    (case k49 => k_is)
    (case a50 => k_is)
    (case i50 => k_is)
    (case j50 => k_is)
    (case l50 => k_is)
    (case c50 => k_is)
    (case k50 => k_is)
    (case a51 => k_is)
    (case i51 => k_is)
    (case j51 => k_is)
    (case l51 => k_is)
    (case c51 => k_is)
    (case k51 => k_is)
    (case a52 => k_is)
    (case i52 => k_is)
    (case j52 => k_is)
    (case l52 => k_is)
    (case c52 => k_is)
    (case k52 => k_is)
    (case a53 => k_is)
    (case i53 => k_is)
    (case j53 => k_is)
    (case l53 => k_is)
    (case c53 => k_is)
    (case k53 => k_is)
    (case a54 => k_is)
    (case i54 => k_is)
    (case j54 => k_is)
    (case l54 => k_is)
    (case c54 => k_is)
    (case k54 => k_is)
    (case z_int => k_is)
    (case z_len => k_is)
    (case z_abs => k_is)
    (case z_max => k_is)
    (case z_min => k_is)
    (case z_range => k_is)
    (case z_repr => k_is)
    (case z_list => k_is)
    (case z_enumerate => k_is)
    (case z_sorted => k_is)
    (case z_zip => k_is)
    (case z_set => k_is)
    (case z_isinstance => k_is)
    (case z_dict => k_is)
    (case q_GREATEST_WEEK => k_is)
    (case pgLL => k_is)
    (case hdLL => k_is)
    (case poLL => k_is)
    (case mkLL => k_is)
    (case kcLL => k_is)
    (case saLL => k_is)
    (case nLLrest => k_is)
    (case nLLstep => k_is)
    (case nLLmarks => k_is)
    (case nLLoffsets => k_is)
    (case nLLgoals => k_is)
    (case pgRR => k_is)
    (case hdRR => k_is)
    (case poRR => k_is)
    (case mkRR => k_is)
    (case kcRR => k_is)
    (case saRR => k_is)
    (case nRR_base => k_is)
    (case nRR_changes => k_is)
    (case nRR_lanes => k_is)
    (case icA => k_is)
    (case icN => k_is)
    (case icT => k_is)
    (case icM => k_is)
    (case neRR => k_is)
    (case sfRR => k_is)
    (case rdRR => k_is)
    (case gaRR => k_is)

