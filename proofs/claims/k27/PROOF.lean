import PyProof.Rows.All
import Wide.All
import OpenK.AllK
import Wide.FinOn
import KE.KStateDown
import Wide.Once
import HandS.ForExc
import HandS.Comp
import HandS.Dict
import HandS.More
import HandS.Wide
import HandS.Evl
import HandS.IsInst
import HandS.Defaults
import HandS.Head0
import HandS.Head1
import HandS.Head2
import HandS.HeadEnd
import HandS.HeadHook1
import HandS.HeadHook2
import HandS.HeadHook3
import HandS.HeadHook4
import KE.GoesEnumKw
import KE.KDictPairs
import HandS.ForMost
import HandS.Walk
import HandS.SortInts
import HandS.Sort
import HandS.WideBits
import HandS.Text
import HandS.Zip
import HandS.Iter
import HandS.TupAny
import HandS.Small
import PyProof.StrOps2
import KE.KxText
import HandS.Deep
import HandS.List
import PyProof.DictUpdate
import PySem.Challenge.RW_latepresses_k27_meetings
set_option Elab.async false
set_option linter.all false
set_option maxRecDepth 100000
set_option maxHeartbeats 0
namespace K27
open PySem PySem.Spec PyProof.Rows L2
def top (i : Nat) : Stmt := PySem.Challenge.pw_latepresses_k27_meetings.main.body.getD i (.Pass ⟨0, 0, 0, 0⟩)
abbrev s_meet : Stmt := top 10
abbrev s_grown : Stmt := top 11
abbrev s_moved : Stmt := top 12
abbrev s_extent : Stmt := top 20
abbrev s_block_counts : Stmt := top 21
abbrev s_sign_of_unit : Stmt := top 22
abbrev s_signs_in : Stmt := top 23
abbrev s_is_clear : Stmt := top 24
abbrev s_is_held_up : Stmt := top 25
abbrev s_is_barred : Stmt := top 26
abbrev s_is_below : Stmt := top 27
abbrev s_is_on_spikes : Stmt := top 28
abbrev s_is_whole : Stmt := top 44
abbrev s_is_between : Stmt := top 45
abbrev s_is_row : Stmt := top 46
abbrev s_is_name : Stmt := top 47
abbrev s_ascends : Stmt := top 48
abbrev s_body_box : Stmt := top 51
abbrev s_has_trait : Stmt := top 52
abbrev s_is_fallen : Stmt := top 53
abbrev s_buckets_of : Stmt := top 64
abbrev s_put_thing : Stmt := top 65
abbrev s_meeting : Stmt := top 69
abbrev s_barring : Stmt := top 70
abbrev s_lot : Stmt := top 71
abbrev s_joining : Stmt := top 72
abbrev s_goes_along : Stmt := top 73
abbrev s_stands_on : Stmt := top 74
abbrev s_thing_in : Stmt := top 75
abbrev s_measured : Stmt := top 83
abbrev s_parts : Stmt := top 84
abbrev s_is_sign : Stmt := top 86
abbrev s_within : Stmt := top 87
abbrev s_kinds_in : Stmt := top 89
abbrev s_starts_stand_right : Stmt := top 91
abbrev s_is_script : Stmt := top 111
abbrev s_is_level : Stmt := top 118
abbrev s_are_rows : Stmt := top 119
abbrev s_is_row_of_signs : Stmt := top 120
abbrev s_are_starts : Stmt := top 121
abbrev s_is_start : Stmt := top 122
abbrev s_is_kind : Stmt := top 123
abbrev s_is_own : Stmt := top 124
abbrev s_are_traits : Stmt := top 125
abbrev s_is_game : Stmt := top 126
abbrev s_are_kinds : Stmt := top 127
abbrev s_need_game : Stmt := top 128
abbrev s_are_presses : Stmt := top 132
abbrev s_need_presses : Stmt := top 133
abbrev s_house_heard : Stmt := top 141
abbrev s_writes_of : Stmt := top 142
abbrev s_is_stung : Stmt := top 143
abbrev s_run_rules : Stmt := top 144
abbrev s_go_across : Stmt := top 149
abbrev s_go_down : Stmt := top 151
abbrev s_done : Stmt := top 157
abbrev s_need_deed : Stmt := top 158
abbrev s_law_take : Stmt := top 160
abbrev s_law_keep : Stmt := top 161
abbrev s_law_box : Stmt := top 162
abbrev s_law_meet : Stmt := top 163
abbrev s_law_has : Stmt := top 164
abbrev s_law_size : Stmt := top 165
abbrev s_law_sign : Stmt := top 166
abbrev s_law_signs : Stmt := top 167
abbrev s_law_free : Stmt := top 168
abbrev s_law_stops : Stmt := top 169
abbrev s_law_blocks : Stmt := top 170
abbrev s_law_world : Stmt := top 171
abbrev s_law_look : Stmt := top 172
abbrev s_law_lot : Stmt := top 173
abbrev s_law_rest : Stmt := top 174
abbrev s_law_shift : Stmt := top 175
abbrev s_law_step : Stmt := top 176
abbrev s_law_down : Stmt := top 177
abbrev s_law_met : Stmt := top 178
abbrev s_law_same : Stmt := top 179
abbrev s_law_rows : Stmt := top 180
abbrev s_law_kind : Stmt := top 181
abbrev s_law_spot : Stmt := top 182
abbrev s_law_fits : Stmt := top 183
abbrev s_law_things : Stmt := top 184
abbrev s_law_start : Stmt := top 185
abbrev s_law_game : Stmt := top 186
abbrev s_law_with_starts : Stmt := top 187
abbrev s_law_presses : Stmt := top 188
abbrev s_law_seen : Stmt := top 189
abbrev s_law_asked : Stmt := top 190
abbrev s_law : Stmt := top 191
abbrev s_Draft_init : Stmt := inClass (top 67) 0
abbrev s_Draft_at : Stmt := inClass (top 67) 1
abbrev s_Draft_put : Stmt := inClass (top 67) 2
abbrev s_Draft_writes : Stmt := inClass (top 67) 3
abbrev s_Looks_init : Stmt := inClass (top 130) 0
abbrev s_Looks_at : Stmt := inClass (top 130) 1
abbrev s_Looks_seen : Stmt := inClass (top 130) 2
abbrev FnQ (K : PySem.W.Frag) (x q : Str) (st : Stmt) (f : Addr) (fd : FuncData) : Prop := FunD K x q (defArgs st) (defBody st) (defScope st) [] [] f fd
def fdAt (K : PySem.W.Frag) (a : Addr) : FuncData := match K.lookup a with
  | some ⟨_, _, .func fd, _⟩ => fd
  | _ => PySem.W.fnOf "" "" (defArgs (top 0)) [] (defScope (top 0)) .none .none .none .none none .none .none
theorem fdAt_eq {K : PySem.W.Frag} {a : Addr} {x q : Str} {st : Stmt} {fd : FuncData} (F : FnQ K x q st a fd) : FnQ K x q st a (fdAt K a) := by
  obtain ⟨oc, od, dV, kV, doc, pm, an, cdv, ct, osl, e, lk, r⟩ := F.ex
  have h : fdAt K a = fd := by
    unfold fdAt
    rw [lk]
  rw [h]
  exact F
def d_meet : He.DefD := ⟨("meet", none), "meet", "meet", defArgs s_meet, defBody s_meet, defScope s_meet, [], []⟩
def d_grown : He.DefD := ⟨("grown", none), "grown", "grown", defArgs s_grown, defBody s_grown, defScope s_grown, [], []⟩
def d_moved : He.DefD := ⟨("moved", none), "moved", "moved", defArgs s_moved, defBody s_moved, defScope s_moved, [], []⟩
def d_extent : He.DefD := ⟨("extent", none), "extent", "extent", defArgs s_extent, defBody s_extent, defScope s_extent, [], []⟩
def d_block_counts : He.DefD := ⟨("block_counts", none), "block_counts", "block_counts", defArgs s_block_counts, defBody s_block_counts, defScope s_block_counts, [], []⟩
def d_sign_of_unit : He.DefD := ⟨("sign_of_unit", none), "sign_of_unit", "sign_of_unit", defArgs s_sign_of_unit, defBody s_sign_of_unit, defScope s_sign_of_unit, [], []⟩
def d_signs_in : He.DefD := ⟨("signs_in", none), "signs_in", "signs_in", defArgs s_signs_in, defBody s_signs_in, defScope s_signs_in, [], []⟩
def d_is_clear : He.DefD := ⟨("is_clear", none), "is_clear", "is_clear", defArgs s_is_clear, defBody s_is_clear, defScope s_is_clear, [], []⟩
def d_is_held_up : He.DefD := ⟨("is_held_up", none), "is_held_up", "is_held_up", defArgs s_is_held_up, defBody s_is_held_up, defScope s_is_held_up, [], []⟩
def d_is_barred : He.DefD := ⟨("is_barred", none), "is_barred", "is_barred", defArgs s_is_barred, defBody s_is_barred, defScope s_is_barred, [], []⟩
def d_is_below : He.DefD := ⟨("is_below", none), "is_below", "is_below", defArgs s_is_below, defBody s_is_below, defScope s_is_below, [], []⟩
def d_is_on_spikes : He.DefD := ⟨("is_on_spikes", none), "is_on_spikes", "is_on_spikes", defArgs s_is_on_spikes, defBody s_is_on_spikes, defScope s_is_on_spikes, [], []⟩
def d_is_whole : He.DefD := ⟨("is_whole", none), "is_whole", "is_whole", defArgs s_is_whole, defBody s_is_whole, defScope s_is_whole, [], []⟩
def d_is_between : He.DefD := ⟨("is_between", none), "is_between", "is_between", defArgs s_is_between, defBody s_is_between, defScope s_is_between, [], []⟩
def d_is_row : He.DefD := ⟨("is_row", none), "is_row", "is_row", defArgs s_is_row, defBody s_is_row, defScope s_is_row, [], []⟩
def d_is_name : He.DefD := ⟨("is_name", none), "is_name", "is_name", defArgs s_is_name, defBody s_is_name, defScope s_is_name, [], []⟩
def d_ascends : He.DefD := ⟨("ascends", none), "ascends", "ascends", defArgs s_ascends, defBody s_ascends, defScope s_ascends, [], []⟩
def d_body_box : He.DefD := ⟨("body_box", none), "body_box", "body_box", defArgs s_body_box, defBody s_body_box, defScope s_body_box, [], []⟩
def d_has_trait : He.DefD := ⟨("has_trait", none), "has_trait", "has_trait", defArgs s_has_trait, defBody s_has_trait, defScope s_has_trait, [], []⟩
def d_is_fallen : He.DefD := ⟨("is_fallen", none), "is_fallen", "is_fallen", defArgs s_is_fallen, defBody s_is_fallen, defScope s_is_fallen, [], []⟩
def d_buckets_of : He.DefD := ⟨("buckets_of", none), "buckets_of", "buckets_of", defArgs s_buckets_of, defBody s_buckets_of, defScope s_buckets_of, [], []⟩
def d_put_thing : He.DefD := ⟨("put_thing", none), "put_thing", "put_thing", defArgs s_put_thing, defBody s_put_thing, defScope s_put_thing, [], []⟩
def d_meeting : He.DefD := ⟨("meeting", none), "meeting", "meeting", defArgs s_meeting, defBody s_meeting, defScope s_meeting, [], []⟩
def d_barring : He.DefD := ⟨("_barring", none), "_barring", "_barring", defArgs s_barring, defBody s_barring, defScope s_barring, [], []⟩
def d_lot : He.DefD := ⟨("lot", none), "lot", "lot", defArgs s_lot, defBody s_lot, defScope s_lot, [], []⟩
def d_joining : He.DefD := ⟨("_joining", none), "_joining", "_joining", defArgs s_joining, defBody s_joining, defScope s_joining, [], []⟩
def d_goes_along : He.DefD := ⟨("_goes_along", none), "_goes_along", "_goes_along", defArgs s_goes_along, defBody s_goes_along, defScope s_goes_along, [], []⟩
def d_stands_on : He.DefD := ⟨("stands_on", none), "stands_on", "stands_on", defArgs s_stands_on, defBody s_stands_on, defScope s_stands_on, [], []⟩
def d_thing_in : He.DefD := ⟨("_thing_in", none), "_thing_in", "_thing_in", defArgs s_thing_in, defBody s_thing_in, defScope s_thing_in, [], []⟩
def d_measured : He.DefD := ⟨("measured", none), "measured", "measured", defArgs s_measured, defBody s_measured, defScope s_measured, [], []⟩
def d_parts : He.DefD := ⟨("_parts", none), "_parts", "_parts", defArgs s_parts, defBody s_parts, defScope s_parts, [], []⟩
def d_is_sign : He.DefD := ⟨("is_sign", none), "is_sign", "is_sign", defArgs s_is_sign, defBody s_is_sign, defScope s_is_sign, [], []⟩
def d_within : He.DefD := ⟨("within", none), "within", "within", defArgs s_within, defBody s_within, defScope s_within, [], []⟩
def d_kinds_in : He.DefD := ⟨("kinds_in", none), "kinds_in", "kinds_in", defArgs s_kinds_in, defBody s_kinds_in, defScope s_kinds_in, [], []⟩
def d_starts_stand_right : He.DefD := ⟨("starts_stand_right", none), "starts_stand_right", "starts_stand_right", defArgs s_starts_stand_right, defBody s_starts_stand_right, defScope s_starts_stand_right, [], []⟩
def d_is_script : He.DefD := ⟨("is_script", none), "is_script", "is_script", defArgs s_is_script, defBody s_is_script, defScope s_is_script, [], []⟩
def d_is_level : He.DefD := ⟨("is_level", none), "is_level", "is_level", defArgs s_is_level, defBody s_is_level, defScope s_is_level, [], []⟩
def d_are_rows : He.DefD := ⟨("_are_rows", none), "_are_rows", "_are_rows", defArgs s_are_rows, defBody s_are_rows, defScope s_are_rows, [], []⟩
def d_is_row_of_signs : He.DefD := ⟨("_is_row_of_signs", none), "_is_row_of_signs", "_is_row_of_signs", defArgs s_is_row_of_signs, defBody s_is_row_of_signs, defScope s_is_row_of_signs, [], []⟩
def d_are_starts : He.DefD := ⟨("_are_starts", none), "_are_starts", "_are_starts", defArgs s_are_starts, defBody s_are_starts, defScope s_are_starts, [], []⟩
def d_is_start : He.DefD := ⟨("_is_start", none), "_is_start", "_is_start", defArgs s_is_start, defBody s_is_start, defScope s_is_start, [], []⟩
def d_is_kind : He.DefD := ⟨("is_kind", none), "is_kind", "is_kind", defArgs s_is_kind, defBody s_is_kind, defScope s_is_kind, [], []⟩
def d_is_own : He.DefD := ⟨("_is_own", none), "_is_own", "_is_own", defArgs s_is_own, defBody s_is_own, defScope s_is_own, [], []⟩
def d_are_traits : He.DefD := ⟨("_are_traits", none), "_are_traits", "_are_traits", defArgs s_are_traits, defBody s_are_traits, defScope s_are_traits, [], []⟩
def d_is_game : He.DefD := ⟨("is_game", none), "is_game", "is_game", defArgs s_is_game, defBody s_is_game, defScope s_is_game, [], []⟩
def d_are_kinds : He.DefD := ⟨("_are_kinds", none), "_are_kinds", "_are_kinds", defArgs s_are_kinds, defBody s_are_kinds, defScope s_are_kinds, [], []⟩
def d_need_game : He.DefD := ⟨("need_game", none), "need_game", "need_game", defArgs s_need_game, defBody s_need_game, defScope s_need_game, [], []⟩
def d_are_presses : He.DefD := ⟨("are_presses", none), "are_presses", "are_presses", defArgs s_are_presses, defBody s_are_presses, defScope s_are_presses, [], []⟩
def d_need_presses : He.DefD := ⟨("need_presses", none), "need_presses", "need_presses", defArgs s_need_presses, defBody s_need_presses, defScope s_need_presses, [], []⟩
def d_house_heard : He.DefD := ⟨("house_heard", none), "house_heard", "house_heard", defArgs s_house_heard, defBody s_house_heard, defScope s_house_heard, [], []⟩
def d_writes_of : He.DefD := ⟨("writes_of", none), "writes_of", "writes_of", defArgs s_writes_of, defBody s_writes_of, defScope s_writes_of, [], []⟩
def d_is_stung : He.DefD := ⟨("_is_stung", none), "_is_stung", "_is_stung", defArgs s_is_stung, defBody s_is_stung, defScope s_is_stung, [], []⟩
def d_run_rules : He.DefD := ⟨("_run_rules", none), "_run_rules", "_run_rules", defArgs s_run_rules, defBody s_run_rules, defScope s_run_rules, [], []⟩
def d_go_across : He.DefD := ⟨("_go_across", none), "_go_across", "_go_across", defArgs s_go_across, defBody s_go_across, defScope s_go_across, [], []⟩
def d_go_down : He.DefD := ⟨("_go_down", none), "_go_down", "_go_down", defArgs s_go_down, defBody s_go_down, defScope s_go_down, [], []⟩
def d_done : He.DefD := ⟨("done", none), "done", "done", defArgs s_done, defBody s_done, defScope s_done, [], []⟩
def d_need_deed : He.DefD := ⟨("need_deed", none), "need_deed", "need_deed", defArgs s_need_deed, defBody s_need_deed, defScope s_need_deed, [], []⟩
def d_law_take : He.DefD := ⟨("_law_take", none), "_law_take", "_law_take", defArgs s_law_take, defBody s_law_take, defScope s_law_take, [], []⟩
def d_law_keep : He.DefD := ⟨("_law_keep", none), "_law_keep", "_law_keep", defArgs s_law_keep, defBody s_law_keep, defScope s_law_keep, [], []⟩
def d_law_box : He.DefD := ⟨("_law_box", none), "_law_box", "_law_box", defArgs s_law_box, defBody s_law_box, defScope s_law_box, [], []⟩
def d_law_meet : He.DefD := ⟨("_law_meet", none), "_law_meet", "_law_meet", defArgs s_law_meet, defBody s_law_meet, defScope s_law_meet, [], []⟩
def d_law_has : He.DefD := ⟨("_law_has", none), "_law_has", "_law_has", defArgs s_law_has, defBody s_law_has, defScope s_law_has, [], []⟩
def d_law_size : He.DefD := ⟨("_law_size", none), "_law_size", "_law_size", defArgs s_law_size, defBody s_law_size, defScope s_law_size, [], []⟩
def d_law_sign : He.DefD := ⟨("_law_sign", none), "_law_sign", "_law_sign", defArgs s_law_sign, defBody s_law_sign, defScope s_law_sign, [], []⟩
def d_law_signs : He.DefD := ⟨("_law_signs", none), "_law_signs", "_law_signs", defArgs s_law_signs, defBody s_law_signs, defScope s_law_signs, [], []⟩
def d_law_free : He.DefD := ⟨("_law_free", none), "_law_free", "_law_free", defArgs s_law_free, defBody s_law_free, defScope s_law_free, [], []⟩
def d_law_stops : He.DefD := ⟨("_law_stops", none), "_law_stops", "_law_stops", defArgs s_law_stops, defBody s_law_stops, defScope s_law_stops, [], []⟩
def d_law_blocks : He.DefD := ⟨("_law_blocks", none), "_law_blocks", "_law_blocks", defArgs s_law_blocks, defBody s_law_blocks, defScope s_law_blocks, [], []⟩
def d_law_world : He.DefD := ⟨("_law_world", none), "_law_world", "_law_world", defArgs s_law_world, defBody s_law_world, defScope s_law_world, [], []⟩
def d_law_look : He.DefD := ⟨("_law_look", none), "_law_look", "_law_look", defArgs s_law_look, defBody s_law_look, defScope s_law_look, [], []⟩
def d_law_lot : He.DefD := ⟨("_law_lot", none), "_law_lot", "_law_lot", defArgs s_law_lot, defBody s_law_lot, defScope s_law_lot, [], []⟩
def d_law_rest : He.DefD := ⟨("_law_rest", none), "_law_rest", "_law_rest", defArgs s_law_rest, defBody s_law_rest, defScope s_law_rest, [], []⟩
def d_law_shift : He.DefD := ⟨("_law_shift", none), "_law_shift", "_law_shift", defArgs s_law_shift, defBody s_law_shift, defScope s_law_shift, [], []⟩
def d_law_step : He.DefD := ⟨("_law_step", none), "_law_step", "_law_step", defArgs s_law_step, defBody s_law_step, defScope s_law_step, [], []⟩
def d_law_down : He.DefD := ⟨("_law_down", none), "_law_down", "_law_down", defArgs s_law_down, defBody s_law_down, defScope s_law_down, [], []⟩
def d_law_met : He.DefD := ⟨("_law_met", none), "_law_met", "_law_met", defArgs s_law_met, defBody s_law_met, defScope s_law_met, [], []⟩
def d_law_same : He.DefD := ⟨("_law_same", none), "_law_same", "_law_same", defArgs s_law_same, defBody s_law_same, defScope s_law_same, [], []⟩
def d_law_rows : He.DefD := ⟨("_law_rows", none), "_law_rows", "_law_rows", defArgs s_law_rows, defBody s_law_rows, defScope s_law_rows, [], []⟩
def d_law_kind : He.DefD := ⟨("_law_kind", none), "_law_kind", "_law_kind", defArgs s_law_kind, defBody s_law_kind, defScope s_law_kind, [], []⟩
def d_law_spot : He.DefD := ⟨("_law_spot", none), "_law_spot", "_law_spot", defArgs s_law_spot, defBody s_law_spot, defScope s_law_spot, [], []⟩
def d_law_fits : He.DefD := ⟨("_law_fits", none), "_law_fits", "_law_fits", defArgs s_law_fits, defBody s_law_fits, defScope s_law_fits, [], []⟩
def d_law_things : He.DefD := ⟨("_law_things", none), "_law_things", "_law_things", defArgs s_law_things, defBody s_law_things, defScope s_law_things, [], []⟩
def d_law_start : He.DefD := ⟨("_law_start", none), "_law_start", "_law_start", defArgs s_law_start, defBody s_law_start, defScope s_law_start, [], []⟩
def d_law_game : He.DefD := ⟨("_law_game", none), "_law_game", "_law_game", defArgs s_law_game, defBody s_law_game, defScope s_law_game, [], []⟩
def d_law_with_starts : He.DefD := ⟨("_law_with_starts", none), "_law_with_starts", "_law_with_starts", defArgs s_law_with_starts, defBody s_law_with_starts, defScope s_law_with_starts, [], []⟩
def d_law_presses : He.DefD := ⟨("_law_presses", none), "_law_presses", "_law_presses", defArgs s_law_presses, defBody s_law_presses, defScope s_law_presses, [], []⟩
def d_law_seen : He.DefD := ⟨("_law_seen", none), "_law_seen", "_law_seen", defArgs s_law_seen, defBody s_law_seen, defScope s_law_seen, [], []⟩
def d_law_asked : He.DefD := ⟨("_law_asked", none), "_law_asked", "_law_asked", defArgs s_law_asked, defBody s_law_asked, defScope s_law_asked, [], []⟩
def d_law : He.DefD := ⟨("law", none), "law", "law", defArgs s_law, defBody s_law, defScope s_law, [], []⟩
def d_Draft_init : He.DefD := ⟨("Draft", some "__init__"), "__init__", "Draft.__init__", defArgs s_Draft_init, defBody s_Draft_init, defScope s_Draft_init, [], []⟩
def d_Draft_at : He.DefD := ⟨("Draft", some "at"), "at", "Draft.at", defArgs s_Draft_at, defBody s_Draft_at, defScope s_Draft_at, [], []⟩
def d_Draft_put : He.DefD := ⟨("Draft", some "put"), "put", "Draft.put", defArgs s_Draft_put, defBody s_Draft_put, defScope s_Draft_put, [], []⟩
def d_Draft_writes : He.DefD := ⟨("Draft", some "writes"), "writes", "Draft.writes", defArgs s_Draft_writes, defBody s_Draft_writes, defScope s_Draft_writes, [], []⟩
def d_Looks_init : He.DefD := ⟨("Looks", some "__init__"), "__init__", "Looks.__init__", defArgs s_Looks_init, defBody s_Looks_init, defScope s_Looks_init, [], []⟩
def d_Looks_at : He.DefD := ⟨("Looks", some "at"), "at", "Looks.at", defArgs s_Looks_at, defBody s_Looks_at, defScope s_Looks_at, [], []⟩
def d_Looks_seen : He.DefD := ⟨("Looks", some "seen"), "seen", "Looks.seen", defArgs s_Looks_seen, defBody s_Looks_seen, defScope s_Looks_seen, [], []⟩
def loose0 : List Str := ["meet", "grown", "moved", "extent", "block_counts", "sign_of_unit", "signs_in", "is_clear", "is_held_up", "is_barred", "is_below", "is_on_spikes", "is_whole", "is_between", "is_row", "is_name", "ascends", "kept", "body_box", "has_trait", "is_fallen", "new_body", "middle_unit", "under_unit", "sign_here", "sign_under", "further_on", "with_way", "with_rest", "with_own"]
def loose1 : List Str := ["buckets_of", "put_thing", "meeting", "_barring", "lot", "_joining", "_goes_along", "stands_on", "_thing_in", "measured", "_parts", "_is_single", "is_sign", "within", "wanted_by", "kinds_in", "starts_stand_right", "next_seed", "number_in", "number_made", "_reckoned", "read_number", "_number_of_thing", "_drawn", "_own_of_first_met", "do_deeds", "do_deed", "told_by", "ran", "is_script"]
def loose2 : List Str := ["is_level", "_are_rows", "_is_row_of_signs", "_are_starts", "_is_start", "is_kind", "_is_own", "_are_traits", "is_game", "_are_kinds", "need_game", "are_presses", "need_presses", "house_heard", "writes_of", "_is_stung", "_run_rules", "_reads", "_met_things", "_bear", "_free_slot", "_go_across", "_belt", "_go_down", "_way_down", "_goes", "_goes_one", "_move_lot", "done", "need_deed"]
def loose3 : List Str := ["_law_take", "_law_keep", "_law_box", "_law_meet", "_law_has", "_law_size", "_law_sign", "_law_signs", "_law_free", "_law_stops", "_law_blocks", "_law_world", "_law_look", "_law_lot", "_law_rest", "_law_shift", "_law_step", "_law_down", "_law_met", "_law_same", "_law_rows", "_law_kind", "_law_spot", "_law_fits", "_law_things", "_law_start", "_law_game", "_law_with_starts", "_law_presses", "_law_seen"]
def loose4 : List Str := ["_law_asked", "GameError", "InvalidGame", "InvalidPress", "InvalidNumber", "InvalidSlot", "InvalidCell", "InvalidPair", "Draft", "Reading", "Looks", "DIRECTIONS", "SQUARE", "BLOCK_SQUARES", "BLOCK", "WALLS", "OUTSIDE", "BELOW", "SLOTS", "MARKS", "MET", "SEED", "MARK", "BUCKET", "MOST_SET", "MOST_WAY", "MOST_PRESS", "NO_HOUSE", "ON_THE_FLOOR", "IN_THE_AIR"]
def loose5 : List Str := ["LETTERS", "MOST_LETTERS", "SIGNS", "MOST_TUPLES", "MOST_DEEP", "RANGES", "EXPRESSION_FORMS", "DEED_FORMS", "MOST", "MOST_AWAY", "MOST_BIRTHS", "TWO_SIDED", "TRAITS", "LEAST_ROWS", "MOST_ROWS", "MOST_STARTS", "MOST_KINDS", "SCRIPTS", "ACROSS", "DOWN", "MEETINGS", "PHASES", "MOST_IN_WATER"]
def loose : List Str := loose0 ++ loose1 ++ loose2 ++ loose3 ++ loose4 ++ loose5
def fn : List He.DefD := [d_meet, d_grown, d_moved, d_extent, d_block_counts, d_sign_of_unit, d_signs_in, d_is_clear, d_is_held_up, d_is_barred, d_is_below, d_is_on_spikes, d_is_whole, d_is_between, d_is_row, d_is_name, d_ascends, d_body_box, d_has_trait, d_is_fallen, d_buckets_of, d_put_thing, d_meeting, d_barring, d_lot, d_joining, d_goes_along, d_stands_on, d_thing_in, d_measured, d_parts, d_is_sign, d_within, d_kinds_in, d_starts_stand_right, d_is_script, d_is_level, d_are_rows, d_is_row_of_signs, d_are_starts, d_is_start, d_is_kind, d_is_own, d_are_traits, d_is_game, d_are_kinds, d_need_game, d_are_presses, d_need_presses, d_house_heard, d_writes_of, d_is_stung, d_run_rules, d_go_across, d_go_down, d_done, d_need_deed, d_law_take, d_law_keep, d_law_box, d_law_meet, d_law_has, d_law_size, d_law_sign, d_law_signs, d_law_free, d_law_stops, d_law_blocks, d_law_world, d_law_look, d_law_lot, d_law_rest, d_law_shift, d_law_step, d_law_down, d_law_met, d_law_same, d_law_rows, d_law_kind, d_law_spot, d_law_fits, d_law_things, d_law_start, d_law_game, d_law_with_starts, d_law_presses, d_law_seen, d_law_asked, d_law, d_Draft_init, d_Draft_at, d_Draft_put, d_Draft_writes, d_Looks_init, d_Looks_at, d_Looks_seen]
def fa : List He.Fa := [.glo "meet", .glo "grown", .glo "moved", .glo "extent", .glo "block_counts", .glo "sign_of_unit", .glo "signs_in", .glo "is_clear", .glo "is_held_up", .glo "is_barred", .glo "is_below", .glo "is_on_spikes", .glo "is_whole", .glo "is_between", .glo "is_row", .glo "is_name", .glo "ascends", .glo "body_box", .glo "has_trait", .glo "is_fallen", .glo "buckets_of", .glo "put_thing", .glo "meeting", .glo "_barring", .glo "lot", .glo "_joining", .glo "_goes_along", .glo "stands_on", .glo "_thing_in", .glo "measured", .glo "_parts", .glo "is_sign", .glo "within", .glo "kinds_in", .glo "starts_stand_right", .glo "is_script", .glo "is_level", .glo "_are_rows", .glo "_is_row_of_signs", .glo "_are_starts", .glo "_is_start", .glo "is_kind", .glo "_is_own", .glo "_are_traits", .glo "is_game", .glo "_are_kinds", .glo "need_game", .glo "are_presses", .glo "need_presses", .glo "house_heard", .glo "writes_of", .glo "_is_stung", .glo "_run_rules", .glo "_go_across", .glo "_go_down", .glo "done", .glo "need_deed", .glo "_law_take", .glo "_law_keep", .glo "_law_box", .glo "_law_meet", .glo "_law_has", .glo "_law_size", .glo "_law_sign", .glo "_law_signs", .glo "_law_free", .glo "_law_stops", .glo "_law_blocks", .glo "_law_world", .glo "_law_look", .glo "_law_lot", .glo "_law_rest", .glo "_law_shift", .glo "_law_step", .glo "_law_down", .glo "_law_met", .glo "_law_same", .glo "_law_rows", .glo "_law_kind", .glo "_law_spot", .glo "_law_fits", .glo "_law_things", .glo "_law_start", .glo "_law_game", .glo "_law_with_starts", .glo "_law_presses", .glo "_law_seen", .glo "_law_asked", .glo "law", .free "len", .free "int", .free "isinstance", .free "range", .free "all", .free "any", .free "min", .free "max", .free "str", .free "bool", .free "tuple", .free "list", .free "sorted", .free "zip", .free "ValueError", .free "repr", .free "abs", .glo "DIRECTIONS", .int "SQUARE" 8, .int "BLOCK_SQUARES" 4, .int "BLOCK" 32, .str "WALLS" "#<>", .str "OUTSIDE" "#", .str "BELOW" ".", .int "SLOTS" 16, .int "MET" 16, .int "BUCKET" 49, .int "MOST_SET" 999, .int "MOST_WAY" 7, .int "MOST_PRESS" 63, .int "NO_HOUSE" (-1), .int "ON_THE_FLOOR" (-1), .int "IN_THE_AIR" (-2), .str "LETTERS" "abcdefghijklmnopqrstuvwxyz", .int "MOST_LETTERS" 8, .str "SIGNS" ".#=<>^wg", .int "MOST_TUPLES" 60, .int "MOST_DEEP" 8, .glo "TRAITS", .int "LEAST_ROWS" 3, .int "MOST_ROWS" 16, .int "MOST_STARTS" 12, .int "MOST_KINDS" 8, .int "SCRIPTS" 0, .int "ACROSS" 1, .int "DOWN" 2, .int "MEETINGS" 3, .int "PHASES" 5, .glo "InvalidGame", .glo "InvalidPress", .glo "InvalidNumber", .glo "InvalidPair", .glo "Draft", .cls "Draft", .mkr "Draft", .noat "Draft" "_looks", .noat "Draft" "_changed", .meth "Draft" "at", .meth "Draft" "put", .meth "Draft" "writes", .glo "Looks", .cls "Looks", .mkr "Looks", .noat "Looks" "_world", .noat "Looks" "_looked", .meth "Looks" "at", .meth "Looks" "seen"]
def tupA (K : PySem.W.Frag) (a : Addr) (vs : List He.Dv) : Bool := match K.lookup a with
  | some ⟨.type c, _, .seq its _, _⟩ => decide (c = "tuple") && (decide (its.size ≤ sizeLine) && He.relAll (vs.map (He.Dv.v K)) its.toList)
  | _ => false
theorem tupA_ok {K : PySem.W.Frag} {a : Addr} {vs : List He.Dv} (h : tupA K a vs = true) (H : Hp) : SqT K H a (vs.map (He.Dv.v K)) := by
  unfold tupA at h
  split at h
  · rename_i c dd its n sl q
    obtain ⟨h1, h2⟩ := He.ba h
    obtain ⟨h3, h4⟩ := He.ba h2
    exact .inr ⟨_, its, n, q, congrArg Value.type (of_decide_eq_true h1), rfl, of_decide_eq_true h3, He.relAll_ok h4⟩
  · cases h
/-- where a written dict's value lies -/
def dtA (K : PySem.W.Frag) (x k : Str) : Addr := match PySem.W.nsIn K (He.ga K x) k with
  | some (some (.ref a)) => a
  | _ => 0
def dtB (K : PySem.W.Frag) (x : Str) (q : Str × List He.Dv) : Bool := decide (PySem.W.nsIn K (He.ga K x) q.1 = some (some (.ref (dtA K x q.1)))) && tupA K (dtA K x q.1) q.2
def v_TRAITS : List He.Dv := [.str "bars", .str "carries", .str "falls", .str "frail", .str "pushed"]
def tabs : List He.Tab := []
/-- the four directions, as they lie -/
def dirA (K : PySem.W.Frag) (i : Nat) : Addr := match K.lookup (He.ga K "DIRECTIONS") with
  | some ⟨_, _, .seq its _, _⟩ => (match its[i]? with
    | some (.ref a) => a
    | _ => 0)
  | _ => 0
def dirV (K : PySem.W.Frag) : List V := [.ref (dirA K 0), .ref (dirA K 1), .ref (dirA K 2), .ref (dirA K 3)]
def dirB (K : PySem.W.Frag) : Bool := (match K.lookup (He.ga K "DIRECTIONS") with
  | some ⟨.type c, _, .seq its _, _⟩ => decide (c = "tuple") && (decide (its.size ≤ sizeLine) && He.relAll (dirV K) its.toList)
  | _ => false) && (tupA K (dirA K 0) [.int (-1), .int 0] && (tupA K (dirA K 1) [.int 1, .int 0] && (tupA K (dirA K 2) [.int 0, .int (-1)] && tupA K (dirA K 3) [.int 0, .int 1])))
def exs (K : PySem.W.Frag) : Bool := tupA K (He.ga K "TRAITS") v_TRAITS && (dirB K && (true))
abbrev R : PySem.W.OpenRow := PySem.W.OpenLaw.row PySem.Challenge.rw_latepresses_k27_meetings
def refs1 (g : Addr → Option Obj) (a : Addr) : List Addr := match g a with
  | some o => He.refsD o
  | none => []
def nsOf (g : Addr → Option Obj) (x : Str) : List Addr := match g (He.ga (He.frG g [mainGlobals]) x) with
  | some ⟨_, _, .cls cd, _⟩ => [cd.ns]
  | _ => []
def asC (g : Addr → Option Obj) : List Addr :=
  let l := (["Draft", "Looks"] : List Str).flatMap fun x => (nsOf g x).flatMap fun n => refs1 g n
  He.asD g 2 ++ (l ++ l.flatMap (refs1 g))
def KC (g : Addr → Option Obj) : PySem.W.Frag := He.frT g (asC g)
theorem saysC {w : World} {h : Heap} {K : PySem.W.Frag} (e : (He.obsT fa fn tabs K, exs K && true) = He.valX fn tabs w) : He.SaysX fa fn tabs [] exs w h K :=
  ⟨congrArg Prod.fst e, by have e2 : (exs K && true) = true := congrArg Prod.snd e; rw [Bool.and_true] at e2; exact e2, (fun p hp => nomatch hp), (fun p hp => nomatch hp), (fun p hp => nomatch hp)⟩
def obC (s : Shared) : He.AlX := (He.obsT fa fn tabs (KC s.heap.get?), exs (KC s.heap.get?) && true)
def saC (w : World) (h : Heap) : Prop := ∃ K, PySem.W.Frag.In K h ∧ He.SaysX fa fn tabs [] exs w h K
theorem ofC (w : World) (s : Shared) (e : obC s = He.valX fn tabs w) : saC w s.heap := ⟨KC s.heap.get?, He.frT_in, saysC e⟩
theorem keC : ∀ (w : World) (h h' : Heap), saC w h → (∀ (b : Addr) (o : Obj), h.get? b = some o → h'.get? b = some o) → saC w h' := (He.hookX 0 fa fn tabs [] exs).keeps
def hk : PySem.W.Hook := ⟨He.AlX, obC, fun w => He.valX fn tabs w, saC, ofC, keC⟩
def ob (s : PySem.W.SharedT) : He.AlX := (He.obsT fa fn tabs (KC (HandSHeadRun.getT s)), exs (KC (HandSHeadRun.getT s)) && true)
theorem ob_eq (s : PySem.W.SharedT) : ob s = hk.obs s.abs := by
  have e : HandSHeadRun.getT s = s.abs.heap.get? := funext (HandSHeadRun.getT_eq s)
  unfold ob
  rw [e]
  rfl
theorem mapAnd {α : Type _} {X : Option α} {f g : α → Bool} (h1 : X.map f = some true) (h2 : X.map g = some true) : X.map (fun s => f s && g s) = some true := by
  cases X with
  | none => cases h1
  | some x =>
    have e1 : f x = true := Option.some.inj h1
    have e2 : g x = true := Option.some.inj h2
    show some (f x && g x) = some true
    rw [e1, e2]
    rfl
theorem mapFst {α β γ : Type _} {X : Option α} {f : α → β} {g : α → γ} {a : β} {b : γ} (h : X.map (fun s => (f s, g s)) = some (a, b)) : X.map f = some a := by
  cases X with
  | none => cases h
  | some x => exact congrArg some (congrArg Prod.fst (Option.some.inj h))
theorem mapSnd {α β γ : Type _} {X : Option α} {f : α → β} {g : α → γ} {a : β} {b : γ} (h : X.map (fun s => (f s, g s)) = some (a, b)) : X.map g = some b := by
  cases X with
  | none => cases h
  | some x => exact congrArg some (congrArg Prod.snd (Option.some.inj h))
theorem map2p {α β γ : Type _} {X : Option α} {f : α → β × γ} {v : β × γ} (h1 : X.map (fun s => (f s).1) = some v.1) (h2 : X.map (fun s => (f s).2) = some v.2) : X.map f = some v := by
  cases X with
  | none => cases h1
  | some x =>
    have e1 : (f x).1 = v.1 := Option.some.inj h1
    have e2 : (f x).2 = v.2 := Option.some.inj h2
    exact congrArg some (Prod.ext e1 e2)
theorem map3 {α β γ δ : Type _} {X : Option α} {f : α → β} {g : α → γ} {h : α → δ} {a : β} {b : γ} {c : δ} (h1 : X.map f = some a) (h2 : X.map g = some b) (h3 : X.map h = some c) : X.map (fun s => (f s, g s, h s)) = some (a, b, c) := by
  cases X with
  | none => cases h1
  | some x =>
    cases h1
    cases h2
    cases h3
    rfl
theorem run0f (w : World) (os : OsState) : (HandSHeadRun.endF (HandSHeadRun.stepQ (HandSHeadRun.denQ HandSHeadRun.tabQ) R.prog (w.withFollow "special-get-raises" false)) 40000 R.prog (w.withFollow "special-get-raises" false) os).map (fun s => (fn.all (fun d => d.ok (KC (HandSHeadRun.getT s))), fn.map fun d => He.fnW (KC (HandSHeadRun.getT s)) d.at_)) = some (true, fn.map He.DefD.val) := by
  kernel_rfl
theorem run0g (w : World) (os : OsState) : (HandSHeadRun.endF (HandSHeadRun.stepQ (HandSHeadRun.denQ HandSHeadRun.tabQ) R.prog (w.withFollow "special-get-raises" false)) 40000 R.prog (w.withFollow "special-get-raises" false) os).map (fun s => (fa.all (fun f => f.ok (KC (HandSHeadRun.getT s))), (tabs.map fun t => He.dicW (KC (HandSHeadRun.getT s)) (t.1 (KC (HandSHeadRun.getT s)))), (ob s).2)) = some (true, (tabs.map fun t => some (He.keysIn (w.withFollow "special-get-raises" false).params t.2)), (hk.val (w.withFollow "special-get-raises" false)).2) := by
  kernel_rfl
theorem run0ab (w : World) (os : OsState) : (HandSHeadRun.endF (HandSHeadRun.stepQ (HandSHeadRun.denQ HandSHeadRun.tabQ) R.prog (w.withFollow "special-get-raises" false)) 40000 R.prog (w.withFollow "special-get-raises" false) os).map (fun s => (HandSHeadRun.looksF R.prog (PySem.W.boot_heap (w.withFollow "special-get-raises" false).params) s.abs, HandSHeadRun.seenQ (PySem.W.view R.prog [191]) loose (importedModules R.prog.main.body) (fun s => PySem.W.xlAt (PySem.W.view R.prog [191]) [] s && PySem.W.recOk R.toRowW.records s) s.abs)) = some (true, PySem.W.openGood (PySem.W.view R.prog [191]) loose) := by
  kernel_rfl
theorem run0c (w : World) (os : OsState) : (HandSHeadRun.endF (HandSHeadRun.stepQ (HandSHeadRun.denQ HandSHeadRun.tabQ) R.prog (w.withFollow "special-get-raises" false)) 40000 R.prog (w.withFollow "special-get-raises" false) os).map (fun s => (ob s).1) = some (hk.val (w.withFollow "special-get-raises" false)).1 := map2p (map2p (mapAnd (mapFst (run0g w os)) (mapFst (run0f w os))) (mapSnd (run0f w os))) (mapFst (mapSnd (run0g w os)))
theorem run0 (w : World) : HandSHeadRun.RunEq R (PySem.W.view R.prog [191]) hk ob 40000 loose (w.withFollow "special-get-raises" false) := fun os => map3 (mapFst (run0ab w os)) (mapSnd (run0ab w os)) (map2p (run0c w os) (mapSnd (mapSnd (run0g w os))))
theorem run1f (w : World) (os : OsState) : (HandSHeadRun.endF (HandSHeadRun.stepQ (HandSHeadRun.denQ HandSHeadRun.tabQ) R.prog (w.withFollow "special-get-raises" true)) 40000 R.prog (w.withFollow "special-get-raises" true) os).map (fun s => (fn.all (fun d => d.ok (KC (HandSHeadRun.getT s))), fn.map fun d => He.fnW (KC (HandSHeadRun.getT s)) d.at_)) = some (true, fn.map He.DefD.val) := by
  kernel_rfl
theorem run1g (w : World) (os : OsState) : (HandSHeadRun.endF (HandSHeadRun.stepQ (HandSHeadRun.denQ HandSHeadRun.tabQ) R.prog (w.withFollow "special-get-raises" true)) 40000 R.prog (w.withFollow "special-get-raises" true) os).map (fun s => (fa.all (fun f => f.ok (KC (HandSHeadRun.getT s))), (tabs.map fun t => He.dicW (KC (HandSHeadRun.getT s)) (t.1 (KC (HandSHeadRun.getT s)))), (ob s).2)) = some (true, (tabs.map fun t => some (He.keysIn (w.withFollow "special-get-raises" true).params t.2)), (hk.val (w.withFollow "special-get-raises" true)).2) := by
  kernel_rfl
theorem run1ab (w : World) (os : OsState) : (HandSHeadRun.endF (HandSHeadRun.stepQ (HandSHeadRun.denQ HandSHeadRun.tabQ) R.prog (w.withFollow "special-get-raises" true)) 40000 R.prog (w.withFollow "special-get-raises" true) os).map (fun s => (HandSHeadRun.looksF R.prog (PySem.W.boot_heap (w.withFollow "special-get-raises" true).params) s.abs, HandSHeadRun.seenQ (PySem.W.view R.prog [191]) loose (importedModules R.prog.main.body) (fun s => PySem.W.xlAt (PySem.W.view R.prog [191]) [] s && PySem.W.recOk R.toRowW.records s) s.abs)) = some (true, PySem.W.openGood (PySem.W.view R.prog [191]) loose) := by
  kernel_rfl
theorem run1c (w : World) (os : OsState) : (HandSHeadRun.endF (HandSHeadRun.stepQ (HandSHeadRun.denQ HandSHeadRun.tabQ) R.prog (w.withFollow "special-get-raises" true)) 40000 R.prog (w.withFollow "special-get-raises" true) os).map (fun s => (ob s).1) = some (hk.val (w.withFollow "special-get-raises" true)).1 := map2p (map2p (mapAnd (mapFst (run1g w os)) (mapFst (run1f w os))) (mapSnd (run1f w os))) (mapFst (mapSnd (run1g w os)))
theorem run1 (w : World) : HandSHeadRun.RunEq R (PySem.W.view R.prog [191]) hk ob 40000 loose (w.withFollow "special-get-raises" true) := fun os => map3 (mapFst (run1ab w os)) (mapSnd (run1ab w os)) (map2p (run1c w os) (mapSnd (mapSnd (run1g w os))))
theorem run (w : World) : HandSHeadRun.RunEq R (PySem.W.view R.prog [191]) hk ob 40000 loose w :=
  PySem.W.byRow2 "special-get-raises" (P := fun w => HandSHeadRun.RunEq R (PySem.W.view R.prog [191]) hk ob 40000 loose w) run0 run1 w
structure Txt (K : PySem.W.Frag) (w : World) (mg : Str → Option Value) : Prop where
  F_meet : FnQ K "meet" "meet" s_meet (He.fAd K ("meet", none)) (fdAt K (He.fAd K ("meet", none)))
  b_meet : Binds K (fdAt K (He.fAd K ("meet", none))) ["one", "other"] []
  F_grown : FnQ K "grown" "grown" s_grown (He.fAd K ("grown", none)) (fdAt K (He.fAd K ("grown", none)))
  b_grown : Binds K (fdAt K (He.fAd K ("grown", none))) ["box", "by"] []
  F_moved : FnQ K "moved" "moved" s_moved (He.fAd K ("moved", none)) (fdAt K (He.fAd K ("moved", none)))
  b_moved : Binds K (fdAt K (He.fAd K ("moved", none))) ["box", "dx", "dy"] []
  F_extent : FnQ K "extent" "extent" s_extent (He.fAd K ("extent", none)) (fdAt K (He.fAd K ("extent", none)))
  b_extent : Binds K (fdAt K (He.fAd K ("extent", none))) ["level"] []
  F_block_counts : FnQ K "block_counts" "block_counts" s_block_counts (He.fAd K ("block_counts", none)) (fdAt K (He.fAd K ("block_counts", none)))
  b_block_counts : Binds K (fdAt K (He.fAd K ("block_counts", none))) ["level"] []
  F_sign_of_unit : FnQ K "sign_of_unit" "sign_of_unit" s_sign_of_unit (He.fAd K ("sign_of_unit", none)) (fdAt K (He.fAd K ("sign_of_unit", none)))
  b_sign_of_unit : Binds K (fdAt K (He.fAd K ("sign_of_unit", none))) ["level", "x", "y"] []
  F_signs_in : FnQ K "signs_in" "signs_in" s_signs_in (He.fAd K ("signs_in", none)) (fdAt K (He.fAd K ("signs_in", none)))
  b_signs_in : Binds K (fdAt K (He.fAd K ("signs_in", none))) ["level", "box"] []
  F_is_clear : FnQ K "is_clear" "is_clear" s_is_clear (He.fAd K ("is_clear", none)) (fdAt K (He.fAd K ("is_clear", none)))
  b_is_clear : Binds K (fdAt K (He.fAd K ("is_clear", none))) ["level", "box"] []
  F_is_held_up : FnQ K "is_held_up" "is_held_up" s_is_held_up (He.fAd K ("is_held_up", none)) (fdAt K (He.fAd K ("is_held_up", none)))
  b_is_held_up : Binds K (fdAt K (He.fAd K ("is_held_up", none))) ["level", "box"] []
  F_is_barred : FnQ K "is_barred" "is_barred" s_is_barred (He.fAd K ("is_barred", none)) (fdAt K (He.fAd K ("is_barred", none)))
  b_is_barred : Binds K (fdAt K (He.fAd K ("is_barred", none))) ["level", "box", "dx", "dy"] []
  F_is_below : FnQ K "is_below" "is_below" s_is_below (He.fAd K ("is_below", none)) (fdAt K (He.fAd K ("is_below", none)))
  b_is_below : Binds K (fdAt K (He.fAd K ("is_below", none))) ["level", "box"] []
  F_is_on_spikes : FnQ K "is_on_spikes" "is_on_spikes" s_is_on_spikes (He.fAd K ("is_on_spikes", none)) (fdAt K (He.fAd K ("is_on_spikes", none)))
  b_is_on_spikes : Binds K (fdAt K (He.fAd K ("is_on_spikes", none))) ["level", "box"] []
  F_is_whole : FnQ K "is_whole" "is_whole" s_is_whole (He.fAd K ("is_whole", none)) (fdAt K (He.fAd K ("is_whole", none)))
  b_is_whole : Binds K (fdAt K (He.fAd K ("is_whole", none))) ["told"] []
  F_is_between : FnQ K "is_between" "is_between" s_is_between (He.fAd K ("is_between", none)) (fdAt K (He.fAd K ("is_between", none)))
  b_is_between : Binds K (fdAt K (He.fAd K ("is_between", none))) ["told", "low", "high"] []
  F_is_row : FnQ K "is_row" "is_row" s_is_row (He.fAd K ("is_row", none)) (fdAt K (He.fAd K ("is_row", none)))
  b_is_row : Binds K (fdAt K (He.fAd K ("is_row", none))) ["told", "low", "high"] []
  F_is_name : FnQ K "is_name" "is_name" s_is_name (He.fAd K ("is_name", none)) (fdAt K (He.fAd K ("is_name", none)))
  b_is_name : Binds K (fdAt K (He.fAd K ("is_name", none))) ["told"] []
  F_ascends : FnQ K "ascends" "ascends" s_ascends (He.fAd K ("ascends", none)) (fdAt K (He.fAd K ("ascends", none)))
  b_ascends : Binds K (fdAt K (He.fAd K ("ascends", none))) ["row"] []
  F_body_box : FnQ K "body_box" "body_box" s_body_box (He.fAd K ("body_box", none)) (fdAt K (He.fAd K ("body_box", none)))
  b_body_box : Binds K (fdAt K (He.fAd K ("body_box", none))) ["game", "thing"] []
  F_has_trait : FnQ K "has_trait" "has_trait" s_has_trait (He.fAd K ("has_trait", none)) (fdAt K (He.fAd K ("has_trait", none)))
  b_has_trait : Binds K (fdAt K (He.fAd K ("has_trait", none))) ["game", "thing", "trait"] []
  F_is_fallen : FnQ K "is_fallen" "is_fallen" s_is_fallen (He.fAd K ("is_fallen", none)) (fdAt K (He.fAd K ("is_fallen", none)))
  b_is_fallen : Binds K (fdAt K (He.fAd K ("is_fallen", none))) ["game", "thing"] []
  F_buckets_of : FnQ K "buckets_of" "buckets_of" s_buckets_of (He.fAd K ("buckets_of", none)) (fdAt K (He.fAd K ("buckets_of", none)))
  b_buckets_of : Binds K (fdAt K (He.fAd K ("buckets_of", none))) ["game", "box"] []
  F_put_thing : FnQ K "put_thing" "put_thing" s_put_thing (He.fAd K ("put_thing", none)) (fdAt K (He.fAd K ("put_thing", none)))
  b_put_thing : Binds K (fdAt K (He.fAd K ("put_thing", none))) ["game", "desk", "slot", "thing"] []
  F_meeting : FnQ K "meeting" "meeting" s_meeting (He.fAd K ("meeting", none)) (fdAt K (He.fAd K ("meeting", none)))
  b_meeting : Binds K (fdAt K (He.fAd K ("meeting", none))) ["game", "looks", "box", "but"] []
  F_barring : FnQ K "_barring" "_barring" s_barring (He.fAd K ("_barring", none)) (fdAt K (He.fAd K ("_barring", none)))
  b_barring : Binds K (fdAt K (He.fAd K ("_barring", none))) ["game", "looks", "box", "but"] []
  F_lot : FnQ K "lot" "lot" s_lot (He.fAd K ("lot", none)) (fdAt K (He.fAd K ("lot", none)))
  b_lot : Binds K (fdAt K (He.fAd K ("lot", none))) ["game", "looks", "slot", "dx", "dy"] []
  F_joining : FnQ K "_joining" "_joining" s_joining (He.fAd K ("_joining", none)) (fdAt K (He.fAd K ("_joining", none)))
  b_joining : Binds K (fdAt K (He.fAd K ("_joining", none))) ["game", "looks", "going", "slot", "dx", "dy"] []
  F_goes_along : FnQ K "_goes_along" "_goes_along" s_goes_along (He.fAd K ("_goes_along", none)) (fdAt K (He.fAd K ("_goes_along", none)))
  b_goes_along : Binds K (fdAt K (He.fAd K ("_goes_along", none))) ["game", "thing", "dy"] []
  F_stands_on : FnQ K "stands_on" "stands_on" s_stands_on (He.fAd K ("stands_on", none)) (fdAt K (He.fAd K ("stands_on", none)))
  b_stands_on : Binds K (fdAt K (He.fAd K ("stands_on", none))) ["game", "looks", "slot"] []
  F_thing_in : FnQ K "_thing_in" "_thing_in" s_thing_in (He.fAd K ("_thing_in", none)) (fdAt K (He.fAd K ("_thing_in", none)))
  b_thing_in : Binds K (fdAt K (He.fAd K ("_thing_in", none))) ["looks", "slot"] []
  F_measured : FnQ K "measured" "measured" s_measured (He.fAd K ("measured", none)) (fdAt K (He.fAd K ("measured", none)))
  b_measured : Binds K (fdAt K (He.fAd K ("measured", none))) ["script"] []
  F_parts : FnQ K "_parts" "_parts" s_parts (He.fAd K ("_parts", none)) (fdAt K (He.fAd K ("_parts", none)))
  b_parts : Binds K (fdAt K (He.fAd K ("_parts", none))) ["told", "is_deed"] []
  F_is_sign : FnQ K "is_sign" "is_sign" s_is_sign (He.fAd K ("is_sign", none)) (fdAt K (He.fAd K ("is_sign", none)))
  b_is_sign : Binds K (fdAt K (He.fAd K ("is_sign", none))) ["told"] []
  F_within : FnQ K "within" "within" s_within (He.fAd K ("within", none)) (fdAt K (He.fAd K ("within", none)))
  b_within : Binds K (fdAt K (He.fAd K ("within", none))) ["script"] []
  F_kinds_in : FnQ K "kinds_in" "kinds_in" s_kinds_in (He.fAd K ("kinds_in", none)) (fdAt K (He.fAd K ("kinds_in", none)))
  b_kinds_in : Binds K (fdAt K (He.fAd K ("kinds_in", none))) ["script"] []
  F_starts_stand_right : FnQ K "starts_stand_right" "starts_stand_right" s_starts_stand_right (He.fAd K ("starts_stand_right", none)) (fdAt K (He.fAd K ("starts_stand_right", none)))
  b_starts_stand_right : Binds K (fdAt K (He.fAd K ("starts_stand_right", none))) ["level", "kinds"] []
  F_is_script : FnQ K "is_script" "is_script" s_is_script (He.fAd K ("is_script", none)) (fdAt K (He.fAd K ("is_script", none)))
  b_is_script : Binds K (fdAt K (He.fAd K ("is_script", none))) ["told"] []
  F_is_level : FnQ K "is_level" "is_level" s_is_level (He.fAd K ("is_level", none)) (fdAt K (He.fAd K ("is_level", none)))
  b_is_level : Binds K (fdAt K (He.fAd K ("is_level", none))) ["told"] []
  F_are_rows : FnQ K "_are_rows" "_are_rows" s_are_rows (He.fAd K ("_are_rows", none)) (fdAt K (He.fAd K ("_are_rows", none)))
  b_are_rows : Binds K (fdAt K (He.fAd K ("_are_rows", none))) ["rows"] []
  F_is_row_of_signs : FnQ K "_is_row_of_signs" "_is_row_of_signs" s_is_row_of_signs (He.fAd K ("_is_row_of_signs", none)) (fdAt K (He.fAd K ("_is_row_of_signs", none)))
  b_is_row_of_signs : Binds K (fdAt K (He.fAd K ("_is_row_of_signs", none))) ["row"] []
  F_are_starts : FnQ K "_are_starts" "_are_starts" s_are_starts (He.fAd K ("_are_starts", none)) (fdAt K (He.fAd K ("_are_starts", none)))
  b_are_starts : Binds K (fdAt K (He.fAd K ("_are_starts", none))) ["starts", "houses"] []
  F_is_start : FnQ K "_is_start" "_is_start" s_is_start (He.fAd K ("_is_start", none)) (fdAt K (He.fAd K ("_is_start", none)))
  b_is_start : Binds K (fdAt K (He.fAd K ("_is_start", none))) ["start", "houses"] []
  F_is_kind : FnQ K "is_kind" "is_kind" s_is_kind (He.fAd K ("is_kind", none)) (fdAt K (He.fAd K ("is_kind", none)))
  b_is_kind : Binds K (fdAt K (He.fAd K ("is_kind", none))) ["told"] []
  F_is_own : FnQ K "_is_own" "_is_own" s_is_own (He.fAd K ("_is_own", none)) (fdAt K (He.fAd K ("_is_own", none)))
  b_is_own : Binds K (fdAt K (He.fAd K ("_is_own", none))) ["own"] []
  F_are_traits : FnQ K "_are_traits" "_are_traits" s_are_traits (He.fAd K ("_are_traits", none)) (fdAt K (He.fAd K ("_are_traits", none)))
  b_are_traits : Binds K (fdAt K (He.fAd K ("_are_traits", none))) ["traits"] []
  F_is_game : FnQ K "is_game" "is_game" s_is_game (He.fAd K ("is_game", none)) (fdAt K (He.fAd K ("is_game", none)))
  b_is_game : Binds K (fdAt K (He.fAd K ("is_game", none))) ["told"] []
  F_are_kinds : FnQ K "_are_kinds" "_are_kinds" s_are_kinds (He.fAd K ("_are_kinds", none)) (fdAt K (He.fAd K ("_are_kinds", none)))
  b_are_kinds : Binds K (fdAt K (He.fAd K ("_are_kinds", none))) ["kinds"] []
  F_need_game : FnQ K "need_game" "need_game" s_need_game (He.fAd K ("need_game", none)) (fdAt K (He.fAd K ("need_game", none)))
  b_need_game : Binds K (fdAt K (He.fAd K ("need_game", none))) ["game"] []
  F_are_presses : FnQ K "are_presses" "are_presses" s_are_presses (He.fAd K ("are_presses", none)) (fdAt K (He.fAd K ("are_presses", none)))
  b_are_presses : Binds K (fdAt K (He.fAd K ("are_presses", none))) ["game", "told"] []
  F_need_presses : FnQ K "need_presses" "need_presses" s_need_presses (He.fAd K ("need_presses", none)) (fdAt K (He.fAd K ("need_presses", none)))
  b_need_presses : Binds K (fdAt K (He.fAd K ("need_presses", none))) ["game", "presses"] []
  F_house_heard : FnQ K "house_heard" "house_heard" s_house_heard (He.fAd K ("house_heard", none)) (fdAt K (He.fAd K ("house_heard", none)))
  b_house_heard : Binds K (fdAt K (He.fAd K ("house_heard", none))) ["deed", "thing"] []
  F_writes_of : FnQ K "writes_of" "writes_of" s_writes_of (He.fAd K ("writes_of", none)) (fdAt K (He.fAd K ("writes_of", none)))
  b_writes_of : Binds K (fdAt K (He.fAd K ("writes_of", none))) ["game", "presses", "deed", "looks"] []
  F_is_stung : FnQ K "_is_stung" "_is_stung" s_is_stung (He.fAd K ("_is_stung", none)) (fdAt K (He.fAd K ("_is_stung", none)))
  b_is_stung : Binds K (fdAt K (He.fAd K ("_is_stung", none))) ["game", "thing"] []
  F_run_rules : FnQ K "_run_rules" "_run_rules" s_run_rules (He.fAd K ("_run_rules", none)) (fdAt K (He.fAd K ("_run_rules", none)))
  b_run_rules : Binds K (fdAt K (He.fAd K ("_run_rules", none))) ["game", "draft", "slot", "press"] []
  F_go_across : FnQ K "_go_across" "_go_across" s_go_across (He.fAd K ("_go_across", none)) (fdAt K (He.fAd K ("_go_across", none)))
  b_go_across : Binds K (fdAt K (He.fAd K ("_go_across", none))) ["game", "draft", "slot"] []
  F_go_down : FnQ K "_go_down" "_go_down" s_go_down (He.fAd K ("_go_down", none)) (fdAt K (He.fAd K ("_go_down", none)))
  b_go_down : Binds K (fdAt K (He.fAd K ("_go_down", none))) ["game", "draft", "slot"] []
  F_done : FnQ K "done" "done" s_done (He.fAd K ("done", none)) (fdAt K (He.fAd K ("done", none)))
  b_done : Binds K (fdAt K (He.fAd K ("done", none))) ["game", "presses", "deed", "looks"] []
  F_need_deed : FnQ K "need_deed" "need_deed" s_need_deed (He.fAd K ("need_deed", none)) (fdAt K (He.fAd K ("need_deed", none)))
  b_need_deed : Binds K (fdAt K (He.fAd K ("need_deed", none))) ["deed"] []
  F_law_take : FnQ K "_law_take" "_law_take" s_law_take (He.fAd K ("_law_take", none)) (fdAt K (He.fAd K ("_law_take", none)))
  b_law_take : Binds K (fdAt K (He.fAd K ("_law_take", none))) ["pot", "many"] []
  F_law_keep : FnQ K "_law_keep" "_law_keep" s_law_keep (He.fAd K ("_law_keep", none)) (fdAt K (He.fAd K ("_law_keep", none)))
  b_law_keep : Binds K (fdAt K (He.fAd K ("_law_keep", none))) ["number", "low", "high"] []
  F_law_box : FnQ K "_law_box" "_law_box" s_law_box (He.fAd K ("_law_box", none)) (fdAt K (He.fAd K ("_law_box", none)))
  b_law_box : Binds K (fdAt K (He.fAd K ("_law_box", none))) ["game", "thing"] []
  F_law_meet : FnQ K "_law_meet" "_law_meet" s_law_meet (He.fAd K ("_law_meet", none)) (fdAt K (He.fAd K ("_law_meet", none)))
  b_law_meet : Binds K (fdAt K (He.fAd K ("_law_meet", none))) ["one", "other"] []
  F_law_has : FnQ K "_law_has" "_law_has" s_law_has (He.fAd K ("_law_has", none)) (fdAt K (He.fAd K ("_law_has", none)))
  b_law_has : Binds K (fdAt K (He.fAd K ("_law_has", none))) ["game", "thing", "trait"] []
  F_law_size : FnQ K "_law_size" "_law_size" s_law_size (He.fAd K ("_law_size", none)) (fdAt K (He.fAd K ("_law_size", none)))
  b_law_size : Binds K (fdAt K (He.fAd K ("_law_size", none))) ["game"] []
  F_law_sign : FnQ K "_law_sign" "_law_sign" s_law_sign (He.fAd K ("_law_sign", none)) (fdAt K (He.fAd K ("_law_sign", none)))
  b_law_sign : Binds K (fdAt K (He.fAd K ("_law_sign", none))) ["game", "x", "y"] []
  F_law_signs : FnQ K "_law_signs" "_law_signs" s_law_signs (He.fAd K ("_law_signs", none)) (fdAt K (He.fAd K ("_law_signs", none)))
  b_law_signs : Binds K (fdAt K (He.fAd K ("_law_signs", none))) ["game", "box"] []
  F_law_free : FnQ K "_law_free" "_law_free" s_law_free (He.fAd K ("_law_free", none)) (fdAt K (He.fAd K ("_law_free", none)))
  b_law_free : Binds K (fdAt K (He.fAd K ("_law_free", none))) ["game", "box"] []
  F_law_stops : FnQ K "_law_stops" "_law_stops" s_law_stops (He.fAd K ("_law_stops", none)) (fdAt K (He.fAd K ("_law_stops", none)))
  b_law_stops : Binds K (fdAt K (He.fAd K ("_law_stops", none))) ["game", "box", "dx", "dy"] []
  F_law_blocks : FnQ K "_law_blocks" "_law_blocks" s_law_blocks (He.fAd K ("_law_blocks", none)) (fdAt K (He.fAd K ("_law_blocks", none)))
  b_law_blocks : Binds K (fdAt K (He.fAd K ("_law_blocks", none))) ["game", "box"] []
  F_law_world : FnQ K "_law_world" "_law_world" s_law_world (He.fAd K ("_law_world", none)) (fdAt K (He.fAd K ("_law_world", none)))
  b_law_world : Binds K (fdAt K (He.fAd K ("_law_world", none))) ["game", "w"] []
  F_law_look : FnQ K "_law_look" "_law_look" s_law_look (He.fAd K ("_law_look", none)) (fdAt K (He.fAd K ("_law_look", none)))
  b_law_look : Binds K (fdAt K (He.fAd K ("_law_look", none))) ["game", "w", "seen", "box", "but"] []
  F_law_lot : FnQ K "_law_lot" "_law_lot" s_law_lot (He.fAd K ("_law_lot", none)) (fdAt K (He.fAd K ("_law_lot", none)))
  b_law_lot : Binds K (fdAt K (He.fAd K ("_law_lot", none))) ["game", "w", "seen", "slot", "dx", "dy"] []
  F_law_rest : FnQ K "_law_rest" "_law_rest" s_law_rest (He.fAd K ("_law_rest", none)) (fdAt K (He.fAd K ("_law_rest", none)))
  b_law_rest : Binds K (fdAt K (He.fAd K ("_law_rest", none))) ["game", "w", "seen", "slot"] []
  F_law_shift : FnQ K "_law_shift" "_law_shift" s_law_shift (He.fAd K ("_law_shift", none)) (fdAt K (He.fAd K ("_law_shift", none)))
  b_law_shift : Binds K (fdAt K (He.fAd K ("_law_shift", none))) ["game", "w", "seen", "slot", "dx", "dy"] []
  F_law_step : FnQ K "_law_step" "_law_step" s_law_step (He.fAd K ("_law_step", none)) (fdAt K (He.fAd K ("_law_step", none)))
  b_law_step : Binds K (fdAt K (He.fAd K ("_law_step", none))) ["game", "w", "seen", "slot", "dx", "dy"] []
  F_law_down : FnQ K "_law_down" "_law_down" s_law_down (He.fAd K ("_law_down", none)) (fdAt K (He.fAd K ("_law_down", none)))
  b_law_down : Binds K (fdAt K (He.fAd K ("_law_down", none))) ["game", "w", "seen", "slot"] []
  F_law_met : FnQ K "_law_met" "_law_met" s_law_met (He.fAd K ("_law_met", none)) (fdAt K (He.fAd K ("_law_met", none)))
  b_law_met : Binds K (fdAt K (He.fAd K ("_law_met", none))) ["game", "w", "seen", "slot"] []
  F_law_same : FnQ K "_law_same" "_law_same" s_law_same (He.fAd K ("_law_same", none)) (fdAt K (He.fAd K ("_law_same", none)))
  b_law_same : Binds K (fdAt K (He.fAd K ("_law_same", none))) ["one", "other"] []
  F_law_rows : FnQ K "_law_rows" "_law_rows" s_law_rows (He.fAd K ("_law_rows", none)) (fdAt K (He.fAd K ("_law_rows", none)))
  b_law_rows : Binds K (fdAt K (He.fAd K ("_law_rows", none))) ["pot", "high", "wide"] []
  F_law_kind : FnQ K "_law_kind" "_law_kind" s_law_kind (He.fAd K ("_law_kind", none)) (fdAt K (He.fAd K ("_law_kind", none)))
  b_law_kind : Binds K (fdAt K (He.fAd K ("_law_kind", none))) ["pot", "k", "rules"] []
  F_law_spot : FnQ K "_law_spot" "_law_spot" s_law_spot (He.fAd K ("_law_spot", none)) (fdAt K (He.fAd K ("_law_spot", none)))
  b_law_spot : Binds K (fdAt K (He.fAd K ("_law_spot", none))) ["pot", "game", "things", "kind"] []
  F_law_fits : FnQ K "_law_fits" "_law_fits" s_law_fits (He.fAd K ("_law_fits", none)) (fdAt K (He.fAd K ("_law_fits", none)))
  b_law_fits : Binds K (fdAt K (He.fAd K ("_law_fits", none))) ["game", "things", "kind", "x", "y"] []
  F_law_things : FnQ K "_law_things" "_law_things" s_law_things (He.fAd K ("_law_things", none)) (fdAt K (He.fAd K ("_law_things", none)))
  b_law_things : Binds K (fdAt K (He.fAd K ("_law_things", none))) ["pot", "game", "many"] []
  F_law_start : FnQ K "_law_start" "_law_start" s_law_start (He.fAd K ("_law_start", none)) (fdAt K (He.fAd K ("_law_start", none)))
  b_law_start : Binds K (fdAt K (He.fAd K ("_law_start", none))) ["pot", "game", "many"] []
  F_law_game : FnQ K "_law_game" "_law_game" s_law_game (He.fAd K ("_law_game", none)) (fdAt K (He.fAd K ("_law_game", none)))
  b_law_game : Binds K (fdAt K (He.fAd K ("_law_game", none))) ["pot", "kinds", "great"] []
  F_law_with_starts : FnQ K "_law_with_starts" "_law_with_starts" s_law_with_starts (He.fAd K ("_law_with_starts", none)) (fdAt K (He.fAd K ("_law_with_starts", none)))
  b_law_with_starts : Binds K (fdAt K (He.fAd K ("_law_with_starts", none))) ["pot", "game", "w"] []
  F_law_presses : FnQ K "_law_presses" "_law_presses" s_law_presses (He.fAd K ("_law_presses", none)) (fdAt K (He.fAd K ("_law_presses", none)))
  b_law_presses : Binds K (fdAt K (He.fAd K ("_law_presses", none))) ["pot", "game"] []
  F_law_seen : FnQ K "_law_seen" "_law_seen" s_law_seen (He.fAd K ("_law_seen", none)) (fdAt K (He.fAd K ("_law_seen", none)))
  b_law_seen : Binds K (fdAt K (He.fAd K ("_law_seen", none))) ["world", "seen"] []
  F_law_asked : FnQ K "_law_asked" "_law_asked" s_law_asked (He.fAd K ("_law_asked", none)) (fdAt K (He.fAd K ("_law_asked", none)))
  b_law_asked : Binds K (fdAt K (He.fAd K ("_law_asked", none))) ["game", "w", "presses", "slot"] []
  F_law : FnQ K "law" "law" s_law (He.fAd K ("law", none)) (fdAt K (He.fAd K ("law", none)))
  b_law : Binds K (fdAt K (He.fAd K ("law", none))) ["script"] []
  F_Draft_init : FnQ K "__init__" "Draft.__init__" s_Draft_init (He.fAd K ("Draft", some "__init__")) (fdAt K (He.fAd K ("Draft", some "__init__")))
  b_Draft_init : Binds K (fdAt K (He.fAd K ("Draft", some "__init__"))) ["self", "looks"] []
  F_Draft_at : FnQ K "at" "Draft.at" s_Draft_at (He.fAd K ("Draft", some "at")) (fdAt K (He.fAd K ("Draft", some "at")))
  b_Draft_at : Binds K (fdAt K (He.fAd K ("Draft", some "at"))) ["self", "cell"] []
  F_Draft_put : FnQ K "put" "Draft.put" s_Draft_put (He.fAd K ("Draft", some "put")) (fdAt K (He.fAd K ("Draft", some "put")))
  b_Draft_put : Binds K (fdAt K (He.fAd K ("Draft", some "put"))) ["self", "cell", "value"] []
  F_Draft_writes : FnQ K "writes" "Draft.writes" s_Draft_writes (He.fAd K ("Draft", some "writes")) (fdAt K (He.fAd K ("Draft", some "writes")))
  b_Draft_writes : Binds K (fdAt K (He.fAd K ("Draft", some "writes"))) ["self"] []
  F_Looks_init : FnQ K "__init__" "Looks.__init__" s_Looks_init (He.fAd K ("Looks", some "__init__")) (fdAt K (He.fAd K ("Looks", some "__init__")))
  b_Looks_init : Binds K (fdAt K (He.fAd K ("Looks", some "__init__"))) ["self", "world"] []
  F_Looks_at : FnQ K "at" "Looks.at" s_Looks_at (He.fAd K ("Looks", some "at")) (fdAt K (He.fAd K ("Looks", some "at")))
  b_Looks_at : Binds K (fdAt K (He.fAd K ("Looks", some "at"))) ["self", "cell"] []
  F_Looks_seen : FnQ K "seen" "Looks.seen" s_Looks_seen (He.fAd K ("Looks", some "seen")) (fdAt K (He.fAd K ("Looks", some "seen")))
  b_Looks_seen : Binds K (fdAt K (He.fAd K ("Looks", some "seen"))) ["self"] []
  g_meet : mg "meet" = some (.ref (He.ga K "meet"))
  g_grown : mg "grown" = some (.ref (He.ga K "grown"))
  g_moved : mg "moved" = some (.ref (He.ga K "moved"))
  g_extent : mg "extent" = some (.ref (He.ga K "extent"))
  g_block_counts : mg "block_counts" = some (.ref (He.ga K "block_counts"))
  g_sign_of_unit : mg "sign_of_unit" = some (.ref (He.ga K "sign_of_unit"))
  g_signs_in : mg "signs_in" = some (.ref (He.ga K "signs_in"))
  g_is_clear : mg "is_clear" = some (.ref (He.ga K "is_clear"))
  g_is_held_up : mg "is_held_up" = some (.ref (He.ga K "is_held_up"))
  g_is_barred : mg "is_barred" = some (.ref (He.ga K "is_barred"))
  g_is_below : mg "is_below" = some (.ref (He.ga K "is_below"))
  g_is_on_spikes : mg "is_on_spikes" = some (.ref (He.ga K "is_on_spikes"))
  g_is_whole : mg "is_whole" = some (.ref (He.ga K "is_whole"))
  g_is_between : mg "is_between" = some (.ref (He.ga K "is_between"))
  g_is_row : mg "is_row" = some (.ref (He.ga K "is_row"))
  g_is_name : mg "is_name" = some (.ref (He.ga K "is_name"))
  g_ascends : mg "ascends" = some (.ref (He.ga K "ascends"))
  g_body_box : mg "body_box" = some (.ref (He.ga K "body_box"))
  g_has_trait : mg "has_trait" = some (.ref (He.ga K "has_trait"))
  g_is_fallen : mg "is_fallen" = some (.ref (He.ga K "is_fallen"))
  g_buckets_of : mg "buckets_of" = some (.ref (He.ga K "buckets_of"))
  g_put_thing : mg "put_thing" = some (.ref (He.ga K "put_thing"))
  g_meeting : mg "meeting" = some (.ref (He.ga K "meeting"))
  g_barring : mg "_barring" = some (.ref (He.ga K "_barring"))
  g_lot : mg "lot" = some (.ref (He.ga K "lot"))
  g_joining : mg "_joining" = some (.ref (He.ga K "_joining"))
  g_goes_along : mg "_goes_along" = some (.ref (He.ga K "_goes_along"))
  g_stands_on : mg "stands_on" = some (.ref (He.ga K "stands_on"))
  g_thing_in : mg "_thing_in" = some (.ref (He.ga K "_thing_in"))
  g_measured : mg "measured" = some (.ref (He.ga K "measured"))
  g_parts : mg "_parts" = some (.ref (He.ga K "_parts"))
  g_is_sign : mg "is_sign" = some (.ref (He.ga K "is_sign"))
  g_within : mg "within" = some (.ref (He.ga K "within"))
  g_kinds_in : mg "kinds_in" = some (.ref (He.ga K "kinds_in"))
  g_starts_stand_right : mg "starts_stand_right" = some (.ref (He.ga K "starts_stand_right"))
  g_is_script : mg "is_script" = some (.ref (He.ga K "is_script"))
  g_is_level : mg "is_level" = some (.ref (He.ga K "is_level"))
  g_are_rows : mg "_are_rows" = some (.ref (He.ga K "_are_rows"))
  g_is_row_of_signs : mg "_is_row_of_signs" = some (.ref (He.ga K "_is_row_of_signs"))
  g_are_starts : mg "_are_starts" = some (.ref (He.ga K "_are_starts"))
  g_is_start : mg "_is_start" = some (.ref (He.ga K "_is_start"))
  g_is_kind : mg "is_kind" = some (.ref (He.ga K "is_kind"))
  g_is_own : mg "_is_own" = some (.ref (He.ga K "_is_own"))
  g_are_traits : mg "_are_traits" = some (.ref (He.ga K "_are_traits"))
  g_is_game : mg "is_game" = some (.ref (He.ga K "is_game"))
  g_are_kinds : mg "_are_kinds" = some (.ref (He.ga K "_are_kinds"))
  g_need_game : mg "need_game" = some (.ref (He.ga K "need_game"))
  g_are_presses : mg "are_presses" = some (.ref (He.ga K "are_presses"))
  g_need_presses : mg "need_presses" = some (.ref (He.ga K "need_presses"))
  g_house_heard : mg "house_heard" = some (.ref (He.ga K "house_heard"))
  g_writes_of : mg "writes_of" = some (.ref (He.ga K "writes_of"))
  g_is_stung : mg "_is_stung" = some (.ref (He.ga K "_is_stung"))
  g_run_rules : mg "_run_rules" = some (.ref (He.ga K "_run_rules"))
  g_go_across : mg "_go_across" = some (.ref (He.ga K "_go_across"))
  g_go_down : mg "_go_down" = some (.ref (He.ga K "_go_down"))
  g_done : mg "done" = some (.ref (He.ga K "done"))
  g_need_deed : mg "need_deed" = some (.ref (He.ga K "need_deed"))
  g_law_take : mg "_law_take" = some (.ref (He.ga K "_law_take"))
  g_law_keep : mg "_law_keep" = some (.ref (He.ga K "_law_keep"))
  g_law_box : mg "_law_box" = some (.ref (He.ga K "_law_box"))
  g_law_meet : mg "_law_meet" = some (.ref (He.ga K "_law_meet"))
  g_law_has : mg "_law_has" = some (.ref (He.ga K "_law_has"))
  g_law_size : mg "_law_size" = some (.ref (He.ga K "_law_size"))
  g_law_sign : mg "_law_sign" = some (.ref (He.ga K "_law_sign"))
  g_law_signs : mg "_law_signs" = some (.ref (He.ga K "_law_signs"))
  g_law_free : mg "_law_free" = some (.ref (He.ga K "_law_free"))
  g_law_stops : mg "_law_stops" = some (.ref (He.ga K "_law_stops"))
  g_law_blocks : mg "_law_blocks" = some (.ref (He.ga K "_law_blocks"))
  g_law_world : mg "_law_world" = some (.ref (He.ga K "_law_world"))
  g_law_look : mg "_law_look" = some (.ref (He.ga K "_law_look"))
  g_law_lot : mg "_law_lot" = some (.ref (He.ga K "_law_lot"))
  g_law_rest : mg "_law_rest" = some (.ref (He.ga K "_law_rest"))
  g_law_shift : mg "_law_shift" = some (.ref (He.ga K "_law_shift"))
  g_law_step : mg "_law_step" = some (.ref (He.ga K "_law_step"))
  g_law_down : mg "_law_down" = some (.ref (He.ga K "_law_down"))
  g_law_met : mg "_law_met" = some (.ref (He.ga K "_law_met"))
  g_law_same : mg "_law_same" = some (.ref (He.ga K "_law_same"))
  g_law_rows : mg "_law_rows" = some (.ref (He.ga K "_law_rows"))
  g_law_kind : mg "_law_kind" = some (.ref (He.ga K "_law_kind"))
  g_law_spot : mg "_law_spot" = some (.ref (He.ga K "_law_spot"))
  g_law_fits : mg "_law_fits" = some (.ref (He.ga K "_law_fits"))
  g_law_things : mg "_law_things" = some (.ref (He.ga K "_law_things"))
  g_law_start : mg "_law_start" = some (.ref (He.ga K "_law_start"))
  g_law_game : mg "_law_game" = some (.ref (He.ga K "_law_game"))
  g_law_with_starts : mg "_law_with_starts" = some (.ref (He.ga K "_law_with_starts"))
  g_law_presses : mg "_law_presses" = some (.ref (He.ga K "_law_presses"))
  g_law_seen : mg "_law_seen" = some (.ref (He.ga K "_law_seen"))
  g_law_asked : mg "_law_asked" = some (.ref (He.ga K "_law_asked"))
  g_law : mg "law" = some (.ref (He.ga K "law"))
  n_len : mg "len" = none
  n_int : mg "int" = none
  n_isinstance : mg "isinstance" = none
  n_range : mg "range" = none
  n_all : mg "all" = none
  n_any : mg "any" = none
  n_min : mg "min" = none
  n_max : mg "max" = none
  n_str : mg "str" = none
  n_bool : mg "bool" = none
  n_tuple : mg "tuple" = none
  n_list : mg "list" = none
  n_sorted : mg "sorted" = none
  n_zip : mg "zip" = none
  n_ValueError : mg "ValueError" = none
  n_repr : mg "repr" = none
  n_abs : mg "abs" = none
  g_DIRECTIONS : mg "DIRECTIONS" = some (.ref (He.ga K "DIRECTIONS"))
  c_SQUARE : ∃ u, mg "SQUARE" = some u ∧ RelV (.int 8) u
  c_BLOCK_SQUARES : ∃ u, mg "BLOCK_SQUARES" = some u ∧ RelV (.int 4) u
  c_BLOCK : ∃ u, mg "BLOCK" = some u ∧ RelV (.int 32) u
  c_WALLS : ∃ u, mg "WALLS" = some u ∧ RelV (.str "#<>") u
  c_OUTSIDE : ∃ u, mg "OUTSIDE" = some u ∧ RelV (.str "#") u
  c_BELOW : ∃ u, mg "BELOW" = some u ∧ RelV (.str ".") u
  c_SLOTS : ∃ u, mg "SLOTS" = some u ∧ RelV (.int 16) u
  c_MET : ∃ u, mg "MET" = some u ∧ RelV (.int 16) u
  c_BUCKET : ∃ u, mg "BUCKET" = some u ∧ RelV (.int 49) u
  c_MOST_SET : ∃ u, mg "MOST_SET" = some u ∧ RelV (.int 999) u
  c_MOST_WAY : ∃ u, mg "MOST_WAY" = some u ∧ RelV (.int 7) u
  c_MOST_PRESS : ∃ u, mg "MOST_PRESS" = some u ∧ RelV (.int 63) u
  c_NO_HOUSE : ∃ u, mg "NO_HOUSE" = some u ∧ RelV (.int (-1)) u
  c_ON_THE_FLOOR : ∃ u, mg "ON_THE_FLOOR" = some u ∧ RelV (.int (-1)) u
  c_IN_THE_AIR : ∃ u, mg "IN_THE_AIR" = some u ∧ RelV (.int (-2)) u
  c_LETTERS : ∃ u, mg "LETTERS" = some u ∧ RelV (.str "abcdefghijklmnopqrstuvwxyz") u
  c_MOST_LETTERS : ∃ u, mg "MOST_LETTERS" = some u ∧ RelV (.int 8) u
  c_SIGNS : ∃ u, mg "SIGNS" = some u ∧ RelV (.str ".#=<>^wg") u
  c_MOST_TUPLES : ∃ u, mg "MOST_TUPLES" = some u ∧ RelV (.int 60) u
  c_MOST_DEEP : ∃ u, mg "MOST_DEEP" = some u ∧ RelV (.int 8) u
  g_TRAITS : mg "TRAITS" = some (.ref (He.ga K "TRAITS"))
  c_LEAST_ROWS : ∃ u, mg "LEAST_ROWS" = some u ∧ RelV (.int 3) u
  c_MOST_ROWS : ∃ u, mg "MOST_ROWS" = some u ∧ RelV (.int 16) u
  c_MOST_STARTS : ∃ u, mg "MOST_STARTS" = some u ∧ RelV (.int 12) u
  c_MOST_KINDS : ∃ u, mg "MOST_KINDS" = some u ∧ RelV (.int 8) u
  c_SCRIPTS : ∃ u, mg "SCRIPTS" = some u ∧ RelV (.int 0) u
  c_ACROSS : ∃ u, mg "ACROSS" = some u ∧ RelV (.int 1) u
  c_DOWN : ∃ u, mg "DOWN" = some u ∧ RelV (.int 2) u
  c_MEETINGS : ∃ u, mg "MEETINGS" = some u ∧ RelV (.int 3) u
  c_PHASES : ∃ u, mg "PHASES" = some u ∧ RelV (.int 5) u
  g_InvalidGame : mg "InvalidGame" = some (.ref (He.ga K "InvalidGame"))
  g_InvalidPress : mg "InvalidPress" = some (.ref (He.ga K "InvalidPress"))
  g_InvalidNumber : mg "InvalidNumber" = some (.ref (He.ga K "InvalidNumber"))
  g_InvalidPair : mg "InvalidPair" = some (.ref (He.ga K "InvalidPair"))
  g_Draft : mg "Draft" = some (.ref (He.ga K "Draft"))
  k_Draft : Cls K (He.ga K "Draft")
  m_Draft : Mk K (He.ga K "Draft") (He.fAd K ("Draft", some "__init__"))
  a_Draft__looks : NoAttr K (He.ga K "Draft") "_looks"
  a_Draft__changed : NoAttr K (He.ga K "Draft") "_changed"
  e_Draft_at : Meth K (He.ga K "Draft") "at" (He.fAd K ("Draft", some "at"))
  e_Draft_put : Meth K (He.ga K "Draft") "put" (He.fAd K ("Draft", some "put"))
  e_Draft_writes : Meth K (He.ga K "Draft") "writes" (He.fAd K ("Draft", some "writes"))
  g_Looks : mg "Looks" = some (.ref (He.ga K "Looks"))
  k_Looks : Cls K (He.ga K "Looks")
  m_Looks : Mk K (He.ga K "Looks") (He.fAd K ("Looks", some "__init__"))
  a_Looks__world : NoAttr K (He.ga K "Looks") "_world"
  a_Looks__looked : NoAttr K (He.ga K "Looks") "_looked"
  e_Looks_at : Meth K (He.ga K "Looks") "at" (He.fAd K ("Looks", some "at"))
  e_Looks_seen : Meth K (He.ga K "Looks") "seen" (He.fAd K ("Looks", some "seen"))
  t_TRAITS : ∀ H, SqT K H (He.ga K "TRAITS") (v_TRAITS.map (He.Dv.v K))
  ex : dirB K = true
theorem txt_of {K : PySem.W.Frag} {w : World} {h h0 : Heap} {mg : Str → Option Value} (X : K.In h) (G : h.Ns mainGlobals mg) (c : He.SaysX fa fn tabs [] exs w h0 K) : Txt K w mg := by
  have cd := c.t.d
  have e0 : exs K = true := c.more
  unfold exs at e0
  obtain ⟨x0, e0⟩ := He.ba e0
  obtain ⟨x1, e0⟩ := He.ba e0
  obtain ⟨fd_meet, f_meet⟩ := cd.def_ 0 (d := d_meet) rfl
  obtain ⟨fd_grown, f_grown⟩ := cd.def_ 1 (d := d_grown) rfl
  obtain ⟨fd_moved, f_moved⟩ := cd.def_ 2 (d := d_moved) rfl
  obtain ⟨fd_extent, f_extent⟩ := cd.def_ 3 (d := d_extent) rfl
  obtain ⟨fd_block_counts, f_block_counts⟩ := cd.def_ 4 (d := d_block_counts) rfl
  obtain ⟨fd_sign_of_unit, f_sign_of_unit⟩ := cd.def_ 5 (d := d_sign_of_unit) rfl
  obtain ⟨fd_signs_in, f_signs_in⟩ := cd.def_ 6 (d := d_signs_in) rfl
  obtain ⟨fd_is_clear, f_is_clear⟩ := cd.def_ 7 (d := d_is_clear) rfl
  obtain ⟨fd_is_held_up, f_is_held_up⟩ := cd.def_ 8 (d := d_is_held_up) rfl
  obtain ⟨fd_is_barred, f_is_barred⟩ := cd.def_ 9 (d := d_is_barred) rfl
  obtain ⟨fd_is_below, f_is_below⟩ := cd.def_ 10 (d := d_is_below) rfl
  obtain ⟨fd_is_on_spikes, f_is_on_spikes⟩ := cd.def_ 11 (d := d_is_on_spikes) rfl
  obtain ⟨fd_is_whole, f_is_whole⟩ := cd.def_ 12 (d := d_is_whole) rfl
  obtain ⟨fd_is_between, f_is_between⟩ := cd.def_ 13 (d := d_is_between) rfl
  obtain ⟨fd_is_row, f_is_row⟩ := cd.def_ 14 (d := d_is_row) rfl
  obtain ⟨fd_is_name, f_is_name⟩ := cd.def_ 15 (d := d_is_name) rfl
  obtain ⟨fd_ascends, f_ascends⟩ := cd.def_ 16 (d := d_ascends) rfl
  obtain ⟨fd_body_box, f_body_box⟩ := cd.def_ 17 (d := d_body_box) rfl
  obtain ⟨fd_has_trait, f_has_trait⟩ := cd.def_ 18 (d := d_has_trait) rfl
  obtain ⟨fd_is_fallen, f_is_fallen⟩ := cd.def_ 19 (d := d_is_fallen) rfl
  obtain ⟨fd_buckets_of, f_buckets_of⟩ := cd.def_ 20 (d := d_buckets_of) rfl
  obtain ⟨fd_put_thing, f_put_thing⟩ := cd.def_ 21 (d := d_put_thing) rfl
  obtain ⟨fd_meeting, f_meeting⟩ := cd.def_ 22 (d := d_meeting) rfl
  obtain ⟨fd_barring, f_barring⟩ := cd.def_ 23 (d := d_barring) rfl
  obtain ⟨fd_lot, f_lot⟩ := cd.def_ 24 (d := d_lot) rfl
  obtain ⟨fd_joining, f_joining⟩ := cd.def_ 25 (d := d_joining) rfl
  obtain ⟨fd_goes_along, f_goes_along⟩ := cd.def_ 26 (d := d_goes_along) rfl
  obtain ⟨fd_stands_on, f_stands_on⟩ := cd.def_ 27 (d := d_stands_on) rfl
  obtain ⟨fd_thing_in, f_thing_in⟩ := cd.def_ 28 (d := d_thing_in) rfl
  obtain ⟨fd_measured, f_measured⟩ := cd.def_ 29 (d := d_measured) rfl
  obtain ⟨fd_parts, f_parts⟩ := cd.def_ 30 (d := d_parts) rfl
  obtain ⟨fd_is_sign, f_is_sign⟩ := cd.def_ 31 (d := d_is_sign) rfl
  obtain ⟨fd_within, f_within⟩ := cd.def_ 32 (d := d_within) rfl
  obtain ⟨fd_kinds_in, f_kinds_in⟩ := cd.def_ 33 (d := d_kinds_in) rfl
  obtain ⟨fd_starts_stand_right, f_starts_stand_right⟩ := cd.def_ 34 (d := d_starts_stand_right) rfl
  obtain ⟨fd_is_script, f_is_script⟩ := cd.def_ 35 (d := d_is_script) rfl
  obtain ⟨fd_is_level, f_is_level⟩ := cd.def_ 36 (d := d_is_level) rfl
  obtain ⟨fd_are_rows, f_are_rows⟩ := cd.def_ 37 (d := d_are_rows) rfl
  obtain ⟨fd_is_row_of_signs, f_is_row_of_signs⟩ := cd.def_ 38 (d := d_is_row_of_signs) rfl
  obtain ⟨fd_are_starts, f_are_starts⟩ := cd.def_ 39 (d := d_are_starts) rfl
  obtain ⟨fd_is_start, f_is_start⟩ := cd.def_ 40 (d := d_is_start) rfl
  obtain ⟨fd_is_kind, f_is_kind⟩ := cd.def_ 41 (d := d_is_kind) rfl
  obtain ⟨fd_is_own, f_is_own⟩ := cd.def_ 42 (d := d_is_own) rfl
  obtain ⟨fd_are_traits, f_are_traits⟩ := cd.def_ 43 (d := d_are_traits) rfl
  obtain ⟨fd_is_game, f_is_game⟩ := cd.def_ 44 (d := d_is_game) rfl
  obtain ⟨fd_are_kinds, f_are_kinds⟩ := cd.def_ 45 (d := d_are_kinds) rfl
  obtain ⟨fd_need_game, f_need_game⟩ := cd.def_ 46 (d := d_need_game) rfl
  obtain ⟨fd_are_presses, f_are_presses⟩ := cd.def_ 47 (d := d_are_presses) rfl
  obtain ⟨fd_need_presses, f_need_presses⟩ := cd.def_ 48 (d := d_need_presses) rfl
  obtain ⟨fd_house_heard, f_house_heard⟩ := cd.def_ 49 (d := d_house_heard) rfl
  obtain ⟨fd_writes_of, f_writes_of⟩ := cd.def_ 50 (d := d_writes_of) rfl
  obtain ⟨fd_is_stung, f_is_stung⟩ := cd.def_ 51 (d := d_is_stung) rfl
  obtain ⟨fd_run_rules, f_run_rules⟩ := cd.def_ 52 (d := d_run_rules) rfl
  obtain ⟨fd_go_across, f_go_across⟩ := cd.def_ 53 (d := d_go_across) rfl
  obtain ⟨fd_go_down, f_go_down⟩ := cd.def_ 54 (d := d_go_down) rfl
  obtain ⟨fd_done, f_done⟩ := cd.def_ 55 (d := d_done) rfl
  obtain ⟨fd_need_deed, f_need_deed⟩ := cd.def_ 56 (d := d_need_deed) rfl
  obtain ⟨fd_law_take, f_law_take⟩ := cd.def_ 57 (d := d_law_take) rfl
  obtain ⟨fd_law_keep, f_law_keep⟩ := cd.def_ 58 (d := d_law_keep) rfl
  obtain ⟨fd_law_box, f_law_box⟩ := cd.def_ 59 (d := d_law_box) rfl
  obtain ⟨fd_law_meet, f_law_meet⟩ := cd.def_ 60 (d := d_law_meet) rfl
  obtain ⟨fd_law_has, f_law_has⟩ := cd.def_ 61 (d := d_law_has) rfl
  obtain ⟨fd_law_size, f_law_size⟩ := cd.def_ 62 (d := d_law_size) rfl
  obtain ⟨fd_law_sign, f_law_sign⟩ := cd.def_ 63 (d := d_law_sign) rfl
  obtain ⟨fd_law_signs, f_law_signs⟩ := cd.def_ 64 (d := d_law_signs) rfl
  obtain ⟨fd_law_free, f_law_free⟩ := cd.def_ 65 (d := d_law_free) rfl
  obtain ⟨fd_law_stops, f_law_stops⟩ := cd.def_ 66 (d := d_law_stops) rfl
  obtain ⟨fd_law_blocks, f_law_blocks⟩ := cd.def_ 67 (d := d_law_blocks) rfl
  obtain ⟨fd_law_world, f_law_world⟩ := cd.def_ 68 (d := d_law_world) rfl
  obtain ⟨fd_law_look, f_law_look⟩ := cd.def_ 69 (d := d_law_look) rfl
  obtain ⟨fd_law_lot, f_law_lot⟩ := cd.def_ 70 (d := d_law_lot) rfl
  obtain ⟨fd_law_rest, f_law_rest⟩ := cd.def_ 71 (d := d_law_rest) rfl
  obtain ⟨fd_law_shift, f_law_shift⟩ := cd.def_ 72 (d := d_law_shift) rfl
  obtain ⟨fd_law_step, f_law_step⟩ := cd.def_ 73 (d := d_law_step) rfl
  obtain ⟨fd_law_down, f_law_down⟩ := cd.def_ 74 (d := d_law_down) rfl
  obtain ⟨fd_law_met, f_law_met⟩ := cd.def_ 75 (d := d_law_met) rfl
  obtain ⟨fd_law_same, f_law_same⟩ := cd.def_ 76 (d := d_law_same) rfl
  obtain ⟨fd_law_rows, f_law_rows⟩ := cd.def_ 77 (d := d_law_rows) rfl
  obtain ⟨fd_law_kind, f_law_kind⟩ := cd.def_ 78 (d := d_law_kind) rfl
  obtain ⟨fd_law_spot, f_law_spot⟩ := cd.def_ 79 (d := d_law_spot) rfl
  obtain ⟨fd_law_fits, f_law_fits⟩ := cd.def_ 80 (d := d_law_fits) rfl
  obtain ⟨fd_law_things, f_law_things⟩ := cd.def_ 81 (d := d_law_things) rfl
  obtain ⟨fd_law_start, f_law_start⟩ := cd.def_ 82 (d := d_law_start) rfl
  obtain ⟨fd_law_game, f_law_game⟩ := cd.def_ 83 (d := d_law_game) rfl
  obtain ⟨fd_law_with_starts, f_law_with_starts⟩ := cd.def_ 84 (d := d_law_with_starts) rfl
  obtain ⟨fd_law_presses, f_law_presses⟩ := cd.def_ 85 (d := d_law_presses) rfl
  obtain ⟨fd_law_seen, f_law_seen⟩ := cd.def_ 86 (d := d_law_seen) rfl
  obtain ⟨fd_law_asked, f_law_asked⟩ := cd.def_ 87 (d := d_law_asked) rfl
  obtain ⟨fd_law, f_law⟩ := cd.def_ 88 (d := d_law) rfl
  obtain ⟨fd_Draft_init, f_Draft_init⟩ := cd.def_ 89 (d := d_Draft_init) rfl
  obtain ⟨fd_Draft_at, f_Draft_at⟩ := cd.def_ 90 (d := d_Draft_at) rfl
  obtain ⟨fd_Draft_put, f_Draft_put⟩ := cd.def_ 91 (d := d_Draft_put) rfl
  obtain ⟨fd_Draft_writes, f_Draft_writes⟩ := cd.def_ 92 (d := d_Draft_writes) rfl
  obtain ⟨fd_Looks_init, f_Looks_init⟩ := cd.def_ 93 (d := d_Looks_init) rfl
  obtain ⟨fd_Looks_at, f_Looks_at⟩ := cd.def_ 94 (d := d_Looks_at) rfl
  obtain ⟨fd_Looks_seen, f_Looks_seen⟩ := cd.def_ 95 (d := d_Looks_seen) rfl
  exact {
    F_meet := fdAt_eq f_meet
    b_meet := (fdAt_eq (st := s_meet) f_meet).bindsN fun _ _ _ _ _ _ us hl => match us, hl with | [_, _], _ => rfl
    F_grown := fdAt_eq f_grown
    b_grown := (fdAt_eq (st := s_grown) f_grown).bindsN fun _ _ _ _ _ _ us hl => match us, hl with | [_, _], _ => rfl
    F_moved := fdAt_eq f_moved
    b_moved := (fdAt_eq (st := s_moved) f_moved).bindsN fun _ _ _ _ _ _ us hl => match us, hl with | [_, _, _], _ => rfl
    F_extent := fdAt_eq f_extent
    b_extent := (fdAt_eq (st := s_extent) f_extent).bindsN fun _ _ _ _ _ _ us hl => match us, hl with | [_], _ => rfl
    F_block_counts := fdAt_eq f_block_counts
    b_block_counts := (fdAt_eq (st := s_block_counts) f_block_counts).bindsN fun _ _ _ _ _ _ us hl => match us, hl with | [_], _ => rfl
    F_sign_of_unit := fdAt_eq f_sign_of_unit
    b_sign_of_unit := (fdAt_eq (st := s_sign_of_unit) f_sign_of_unit).bindsN fun _ _ _ _ _ _ us hl => match us, hl with | [_, _, _], _ => rfl
    F_signs_in := fdAt_eq f_signs_in
    b_signs_in := (fdAt_eq (st := s_signs_in) f_signs_in).bindsN fun _ _ _ _ _ _ us hl => match us, hl with | [_, _], _ => rfl
    F_is_clear := fdAt_eq f_is_clear
    b_is_clear := (fdAt_eq (st := s_is_clear) f_is_clear).bindsN fun _ _ _ _ _ _ us hl => match us, hl with | [_, _], _ => rfl
    F_is_held_up := fdAt_eq f_is_held_up
    b_is_held_up := (fdAt_eq (st := s_is_held_up) f_is_held_up).bindsN fun _ _ _ _ _ _ us hl => match us, hl with | [_, _], _ => rfl
    F_is_barred := fdAt_eq f_is_barred
    b_is_barred := (fdAt_eq (st := s_is_barred) f_is_barred).bindsN fun _ _ _ _ _ _ us hl => match us, hl with | [_, _, _, _], _ => rfl
    F_is_below := fdAt_eq f_is_below
    b_is_below := (fdAt_eq (st := s_is_below) f_is_below).bindsN fun _ _ _ _ _ _ us hl => match us, hl with | [_, _], _ => rfl
    F_is_on_spikes := fdAt_eq f_is_on_spikes
    b_is_on_spikes := (fdAt_eq (st := s_is_on_spikes) f_is_on_spikes).bindsN fun _ _ _ _ _ _ us hl => match us, hl with | [_, _], _ => rfl
    F_is_whole := fdAt_eq f_is_whole
    b_is_whole := (fdAt_eq (st := s_is_whole) f_is_whole).bindsN fun _ _ _ _ _ _ us hl => match us, hl with | [_], _ => rfl
    F_is_between := fdAt_eq f_is_between
    b_is_between := (fdAt_eq (st := s_is_between) f_is_between).bindsN fun _ _ _ _ _ _ us hl => match us, hl with | [_, _, _], _ => rfl
    F_is_row := fdAt_eq f_is_row
    b_is_row := (fdAt_eq (st := s_is_row) f_is_row).bindsN fun _ _ _ _ _ _ us hl => match us, hl with | [_, _, _], _ => rfl
    F_is_name := fdAt_eq f_is_name
    b_is_name := (fdAt_eq (st := s_is_name) f_is_name).bindsN fun _ _ _ _ _ _ us hl => match us, hl with | [_], _ => rfl
    F_ascends := fdAt_eq f_ascends
    b_ascends := (fdAt_eq (st := s_ascends) f_ascends).bindsN fun _ _ _ _ _ _ us hl => match us, hl with | [_], _ => rfl
    F_body_box := fdAt_eq f_body_box
    b_body_box := (fdAt_eq (st := s_body_box) f_body_box).bindsN fun _ _ _ _ _ _ us hl => match us, hl with | [_, _], _ => rfl
    F_has_trait := fdAt_eq f_has_trait
    b_has_trait := (fdAt_eq (st := s_has_trait) f_has_trait).bindsN fun _ _ _ _ _ _ us hl => match us, hl with | [_, _, _], _ => rfl
    F_is_fallen := fdAt_eq f_is_fallen
    b_is_fallen := (fdAt_eq (st := s_is_fallen) f_is_fallen).bindsN fun _ _ _ _ _ _ us hl => match us, hl with | [_, _], _ => rfl
    F_buckets_of := fdAt_eq f_buckets_of
    b_buckets_of := (fdAt_eq (st := s_buckets_of) f_buckets_of).bindsN fun _ _ _ _ _ _ us hl => match us, hl with | [_, _], _ => rfl
    F_put_thing := fdAt_eq f_put_thing
    b_put_thing := (fdAt_eq (st := s_put_thing) f_put_thing).bindsN fun _ _ _ _ _ _ us hl => match us, hl with | [_, _, _, _], _ => rfl
    F_meeting := fdAt_eq f_meeting
    b_meeting := (fdAt_eq (st := s_meeting) f_meeting).bindsN fun _ _ _ _ _ _ us hl => match us, hl with | [_, _, _, _], _ => rfl
    F_barring := fdAt_eq f_barring
    b_barring := (fdAt_eq (st := s_barring) f_barring).bindsN fun _ _ _ _ _ _ us hl => match us, hl with | [_, _, _, _], _ => rfl
    F_lot := fdAt_eq f_lot
    b_lot := (fdAt_eq (st := s_lot) f_lot).bindsN fun _ _ _ _ _ _ us hl => match us, hl with | [_, _, _, _, _], _ => rfl
    F_joining := fdAt_eq f_joining
    b_joining := (fdAt_eq (st := s_joining) f_joining).bindsN fun _ _ _ _ _ _ us hl => match us, hl with | [_, _, _, _, _, _], _ => rfl
    F_goes_along := fdAt_eq f_goes_along
    b_goes_along := (fdAt_eq (st := s_goes_along) f_goes_along).bindsN fun _ _ _ _ _ _ us hl => match us, hl with | [_, _, _], _ => rfl
    F_stands_on := fdAt_eq f_stands_on
    b_stands_on := (fdAt_eq (st := s_stands_on) f_stands_on).bindsN fun _ _ _ _ _ _ us hl => match us, hl with | [_, _, _], _ => rfl
    F_thing_in := fdAt_eq f_thing_in
    b_thing_in := (fdAt_eq (st := s_thing_in) f_thing_in).bindsN fun _ _ _ _ _ _ us hl => match us, hl with | [_, _], _ => rfl
    F_measured := fdAt_eq f_measured
    b_measured := (fdAt_eq (st := s_measured) f_measured).bindsN fun _ _ _ _ _ _ us hl => match us, hl with | [_], _ => rfl
    F_parts := fdAt_eq f_parts
    b_parts := (fdAt_eq (st := s_parts) f_parts).bindsN fun _ _ _ _ _ _ us hl => match us, hl with | [_, _], _ => rfl
    F_is_sign := fdAt_eq f_is_sign
    b_is_sign := (fdAt_eq (st := s_is_sign) f_is_sign).bindsN fun _ _ _ _ _ _ us hl => match us, hl with | [_], _ => rfl
    F_within := fdAt_eq f_within
    b_within := (fdAt_eq (st := s_within) f_within).bindsN fun _ _ _ _ _ _ us hl => match us, hl with | [_], _ => rfl
    F_kinds_in := fdAt_eq f_kinds_in
    b_kinds_in := (fdAt_eq (st := s_kinds_in) f_kinds_in).bindsN fun _ _ _ _ _ _ us hl => match us, hl with | [_], _ => rfl
    F_starts_stand_right := fdAt_eq f_starts_stand_right
    b_starts_stand_right := (fdAt_eq (st := s_starts_stand_right) f_starts_stand_right).bindsN fun _ _ _ _ _ _ us hl => match us, hl with | [_, _], _ => rfl
    F_is_script := fdAt_eq f_is_script
    b_is_script := (fdAt_eq (st := s_is_script) f_is_script).bindsN fun _ _ _ _ _ _ us hl => match us, hl with | [_], _ => rfl
    F_is_level := fdAt_eq f_is_level
    b_is_level := (fdAt_eq (st := s_is_level) f_is_level).bindsN fun _ _ _ _ _ _ us hl => match us, hl with | [_], _ => rfl
    F_are_rows := fdAt_eq f_are_rows
    b_are_rows := (fdAt_eq (st := s_are_rows) f_are_rows).bindsN fun _ _ _ _ _ _ us hl => match us, hl with | [_], _ => rfl
    F_is_row_of_signs := fdAt_eq f_is_row_of_signs
    b_is_row_of_signs := (fdAt_eq (st := s_is_row_of_signs) f_is_row_of_signs).bindsN fun _ _ _ _ _ _ us hl => match us, hl with | [_], _ => rfl
    F_are_starts := fdAt_eq f_are_starts
    b_are_starts := (fdAt_eq (st := s_are_starts) f_are_starts).bindsN fun _ _ _ _ _ _ us hl => match us, hl with | [_, _], _ => rfl
    F_is_start := fdAt_eq f_is_start
    b_is_start := (fdAt_eq (st := s_is_start) f_is_start).bindsN fun _ _ _ _ _ _ us hl => match us, hl with | [_, _], _ => rfl
    F_is_kind := fdAt_eq f_is_kind
    b_is_kind := (fdAt_eq (st := s_is_kind) f_is_kind).bindsN fun _ _ _ _ _ _ us hl => match us, hl with | [_], _ => rfl
    F_is_own := fdAt_eq f_is_own
    b_is_own := (fdAt_eq (st := s_is_own) f_is_own).bindsN fun _ _ _ _ _ _ us hl => match us, hl with | [_], _ => rfl
    F_are_traits := fdAt_eq f_are_traits
    b_are_traits := (fdAt_eq (st := s_are_traits) f_are_traits).bindsN fun _ _ _ _ _ _ us hl => match us, hl with | [_], _ => rfl
    F_is_game := fdAt_eq f_is_game
    b_is_game := (fdAt_eq (st := s_is_game) f_is_game).bindsN fun _ _ _ _ _ _ us hl => match us, hl with | [_], _ => rfl
    F_are_kinds := fdAt_eq f_are_kinds
    b_are_kinds := (fdAt_eq (st := s_are_kinds) f_are_kinds).bindsN fun _ _ _ _ _ _ us hl => match us, hl with | [_], _ => rfl
    F_need_game := fdAt_eq f_need_game
    b_need_game := (fdAt_eq (st := s_need_game) f_need_game).bindsN fun _ _ _ _ _ _ us hl => match us, hl with | [_], _ => rfl
    F_are_presses := fdAt_eq f_are_presses
    b_are_presses := (fdAt_eq (st := s_are_presses) f_are_presses).bindsN fun _ _ _ _ _ _ us hl => match us, hl with | [_, _], _ => rfl
    F_need_presses := fdAt_eq f_need_presses
    b_need_presses := (fdAt_eq (st := s_need_presses) f_need_presses).bindsN fun _ _ _ _ _ _ us hl => match us, hl with | [_, _], _ => rfl
    F_house_heard := fdAt_eq f_house_heard
    b_house_heard := (fdAt_eq (st := s_house_heard) f_house_heard).bindsN fun _ _ _ _ _ _ us hl => match us, hl with | [_, _], _ => rfl
    F_writes_of := fdAt_eq f_writes_of
    b_writes_of := (fdAt_eq (st := s_writes_of) f_writes_of).bindsN fun _ _ _ _ _ _ us hl => match us, hl with | [_, _, _, _], _ => rfl
    F_is_stung := fdAt_eq f_is_stung
    b_is_stung := (fdAt_eq (st := s_is_stung) f_is_stung).bindsN fun _ _ _ _ _ _ us hl => match us, hl with | [_, _], _ => rfl
    F_run_rules := fdAt_eq f_run_rules
    b_run_rules := (fdAt_eq (st := s_run_rules) f_run_rules).bindsN fun _ _ _ _ _ _ us hl => match us, hl with | [_, _, _, _], _ => rfl
    F_go_across := fdAt_eq f_go_across
    b_go_across := (fdAt_eq (st := s_go_across) f_go_across).bindsN fun _ _ _ _ _ _ us hl => match us, hl with | [_, _, _], _ => rfl
    F_go_down := fdAt_eq f_go_down
    b_go_down := (fdAt_eq (st := s_go_down) f_go_down).bindsN fun _ _ _ _ _ _ us hl => match us, hl with | [_, _, _], _ => rfl
    F_done := fdAt_eq f_done
    b_done := (fdAt_eq (st := s_done) f_done).bindsN fun _ _ _ _ _ _ us hl => match us, hl with | [_, _, _, _], _ => rfl
    F_need_deed := fdAt_eq f_need_deed
    b_need_deed := (fdAt_eq (st := s_need_deed) f_need_deed).bindsN fun _ _ _ _ _ _ us hl => match us, hl with | [_], _ => rfl
    F_law_take := fdAt_eq f_law_take
    b_law_take := (fdAt_eq (st := s_law_take) f_law_take).bindsN fun _ _ _ _ _ _ us hl => match us, hl with | [_, _], _ => rfl
    F_law_keep := fdAt_eq f_law_keep
    b_law_keep := (fdAt_eq (st := s_law_keep) f_law_keep).bindsN fun _ _ _ _ _ _ us hl => match us, hl with | [_, _, _], _ => rfl
    F_law_box := fdAt_eq f_law_box
    b_law_box := (fdAt_eq (st := s_law_box) f_law_box).bindsN fun _ _ _ _ _ _ us hl => match us, hl with | [_, _], _ => rfl
    F_law_meet := fdAt_eq f_law_meet
    b_law_meet := (fdAt_eq (st := s_law_meet) f_law_meet).bindsN fun _ _ _ _ _ _ us hl => match us, hl with | [_, _], _ => rfl
    F_law_has := fdAt_eq f_law_has
    b_law_has := (fdAt_eq (st := s_law_has) f_law_has).bindsN fun _ _ _ _ _ _ us hl => match us, hl with | [_, _, _], _ => rfl
    F_law_size := fdAt_eq f_law_size
    b_law_size := (fdAt_eq (st := s_law_size) f_law_size).bindsN fun _ _ _ _ _ _ us hl => match us, hl with | [_], _ => rfl
    F_law_sign := fdAt_eq f_law_sign
    b_law_sign := (fdAt_eq (st := s_law_sign) f_law_sign).bindsN fun _ _ _ _ _ _ us hl => match us, hl with | [_, _, _], _ => rfl
    F_law_signs := fdAt_eq f_law_signs
    b_law_signs := (fdAt_eq (st := s_law_signs) f_law_signs).bindsN fun _ _ _ _ _ _ us hl => match us, hl with | [_, _], _ => rfl
    F_law_free := fdAt_eq f_law_free
    b_law_free := (fdAt_eq (st := s_law_free) f_law_free).bindsN fun _ _ _ _ _ _ us hl => match us, hl with | [_, _], _ => rfl
    F_law_stops := fdAt_eq f_law_stops
    b_law_stops := (fdAt_eq (st := s_law_stops) f_law_stops).bindsN fun _ _ _ _ _ _ us hl => match us, hl with | [_, _, _, _], _ => rfl
    F_law_blocks := fdAt_eq f_law_blocks
    b_law_blocks := (fdAt_eq (st := s_law_blocks) f_law_blocks).bindsN fun _ _ _ _ _ _ us hl => match us, hl with | [_, _], _ => rfl
    F_law_world := fdAt_eq f_law_world
    b_law_world := (fdAt_eq (st := s_law_world) f_law_world).bindsN fun _ _ _ _ _ _ us hl => match us, hl with | [_, _], _ => rfl
    F_law_look := fdAt_eq f_law_look
    b_law_look := (fdAt_eq (st := s_law_look) f_law_look).bindsN fun _ _ _ _ _ _ us hl => match us, hl with | [_, _, _, _, _], _ => rfl
    F_law_lot := fdAt_eq f_law_lot
    b_law_lot := (fdAt_eq (st := s_law_lot) f_law_lot).bindsN fun _ _ _ _ _ _ us hl => match us, hl with | [_, _, _, _, _, _], _ => rfl
    F_law_rest := fdAt_eq f_law_rest
    b_law_rest := (fdAt_eq (st := s_law_rest) f_law_rest).bindsN fun _ _ _ _ _ _ us hl => match us, hl with | [_, _, _, _], _ => rfl
    F_law_shift := fdAt_eq f_law_shift
    b_law_shift := (fdAt_eq (st := s_law_shift) f_law_shift).bindsN fun _ _ _ _ _ _ us hl => match us, hl with | [_, _, _, _, _, _], _ => rfl
    F_law_step := fdAt_eq f_law_step
    b_law_step := (fdAt_eq (st := s_law_step) f_law_step).bindsN fun _ _ _ _ _ _ us hl => match us, hl with | [_, _, _, _, _, _], _ => rfl
    F_law_down := fdAt_eq f_law_down
    b_law_down := (fdAt_eq (st := s_law_down) f_law_down).bindsN fun _ _ _ _ _ _ us hl => match us, hl with | [_, _, _, _], _ => rfl
    F_law_met := fdAt_eq f_law_met
    b_law_met := (fdAt_eq (st := s_law_met) f_law_met).bindsN fun _ _ _ _ _ _ us hl => match us, hl with | [_, _, _, _], _ => rfl
    F_law_same := fdAt_eq f_law_same
    b_law_same := (fdAt_eq (st := s_law_same) f_law_same).bindsN fun _ _ _ _ _ _ us hl => match us, hl with | [_, _], _ => rfl
    F_law_rows := fdAt_eq f_law_rows
    b_law_rows := (fdAt_eq (st := s_law_rows) f_law_rows).bindsN fun _ _ _ _ _ _ us hl => match us, hl with | [_, _, _], _ => rfl
    F_law_kind := fdAt_eq f_law_kind
    b_law_kind := (fdAt_eq (st := s_law_kind) f_law_kind).bindsN fun _ _ _ _ _ _ us hl => match us, hl with | [_, _, _], _ => rfl
    F_law_spot := fdAt_eq f_law_spot
    b_law_spot := (fdAt_eq (st := s_law_spot) f_law_spot).bindsN fun _ _ _ _ _ _ us hl => match us, hl with | [_, _, _, _], _ => rfl
    F_law_fits := fdAt_eq f_law_fits
    b_law_fits := (fdAt_eq (st := s_law_fits) f_law_fits).bindsN fun _ _ _ _ _ _ us hl => match us, hl with | [_, _, _, _, _], _ => rfl
    F_law_things := fdAt_eq f_law_things
    b_law_things := (fdAt_eq (st := s_law_things) f_law_things).bindsN fun _ _ _ _ _ _ us hl => match us, hl with | [_, _, _], _ => rfl
    F_law_start := fdAt_eq f_law_start
    b_law_start := (fdAt_eq (st := s_law_start) f_law_start).bindsN fun _ _ _ _ _ _ us hl => match us, hl with | [_, _, _], _ => rfl
    F_law_game := fdAt_eq f_law_game
    b_law_game := (fdAt_eq (st := s_law_game) f_law_game).bindsN fun _ _ _ _ _ _ us hl => match us, hl with | [_, _, _], _ => rfl
    F_law_with_starts := fdAt_eq f_law_with_starts
    b_law_with_starts := (fdAt_eq (st := s_law_with_starts) f_law_with_starts).bindsN fun _ _ _ _ _ _ us hl => match us, hl with | [_, _, _], _ => rfl
    F_law_presses := fdAt_eq f_law_presses
    b_law_presses := (fdAt_eq (st := s_law_presses) f_law_presses).bindsN fun _ _ _ _ _ _ us hl => match us, hl with | [_, _], _ => rfl
    F_law_seen := fdAt_eq f_law_seen
    b_law_seen := (fdAt_eq (st := s_law_seen) f_law_seen).bindsN fun _ _ _ _ _ _ us hl => match us, hl with | [_, _], _ => rfl
    F_law_asked := fdAt_eq f_law_asked
    b_law_asked := (fdAt_eq (st := s_law_asked) f_law_asked).bindsN fun _ _ _ _ _ _ us hl => match us, hl with | [_, _, _, _], _ => rfl
    F_law := fdAt_eq f_law
    b_law := (fdAt_eq (st := s_law) f_law).bindsN fun _ _ _ _ _ _ us hl => match us, hl with | [_], _ => rfl
    F_Draft_init := fdAt_eq f_Draft_init
    b_Draft_init := (fdAt_eq (st := s_Draft_init) f_Draft_init).bindsN fun _ _ _ _ _ _ us hl => match us, hl with | [_, _], _ => rfl
    F_Draft_at := fdAt_eq f_Draft_at
    b_Draft_at := (fdAt_eq (st := s_Draft_at) f_Draft_at).bindsN fun _ _ _ _ _ _ us hl => match us, hl with | [_, _], _ => rfl
    F_Draft_put := fdAt_eq f_Draft_put
    b_Draft_put := (fdAt_eq (st := s_Draft_put) f_Draft_put).bindsN fun _ _ _ _ _ _ us hl => match us, hl with | [_, _, _], _ => rfl
    F_Draft_writes := fdAt_eq f_Draft_writes
    b_Draft_writes := (fdAt_eq (st := s_Draft_writes) f_Draft_writes).bindsN fun _ _ _ _ _ _ us hl => match us, hl with | [_], _ => rfl
    F_Looks_init := fdAt_eq f_Looks_init
    b_Looks_init := (fdAt_eq (st := s_Looks_init) f_Looks_init).bindsN fun _ _ _ _ _ _ us hl => match us, hl with | [_, _], _ => rfl
    F_Looks_at := fdAt_eq f_Looks_at
    b_Looks_at := (fdAt_eq (st := s_Looks_at) f_Looks_at).bindsN fun _ _ _ _ _ _ us hl => match us, hl with | [_, _], _ => rfl
    F_Looks_seen := fdAt_eq f_Looks_seen
    b_Looks_seen := (fdAt_eq (st := s_Looks_seen) f_Looks_seen).bindsN fun _ _ _ _ _ _ us hl => match us, hl with | [_], _ => rfl
    g_meet := He.glo_ok X G (cd.fact 0 (f := .glo "meet") rfl)
    g_grown := He.glo_ok X G (cd.fact 1 (f := .glo "grown") rfl)
    g_moved := He.glo_ok X G (cd.fact 2 (f := .glo "moved") rfl)
    g_extent := He.glo_ok X G (cd.fact 3 (f := .glo "extent") rfl)
    g_block_counts := He.glo_ok X G (cd.fact 4 (f := .glo "block_counts") rfl)
    g_sign_of_unit := He.glo_ok X G (cd.fact 5 (f := .glo "sign_of_unit") rfl)
    g_signs_in := He.glo_ok X G (cd.fact 6 (f := .glo "signs_in") rfl)
    g_is_clear := He.glo_ok X G (cd.fact 7 (f := .glo "is_clear") rfl)
    g_is_held_up := He.glo_ok X G (cd.fact 8 (f := .glo "is_held_up") rfl)
    g_is_barred := He.glo_ok X G (cd.fact 9 (f := .glo "is_barred") rfl)
    g_is_below := He.glo_ok X G (cd.fact 10 (f := .glo "is_below") rfl)
    g_is_on_spikes := He.glo_ok X G (cd.fact 11 (f := .glo "is_on_spikes") rfl)
    g_is_whole := He.glo_ok X G (cd.fact 12 (f := .glo "is_whole") rfl)
    g_is_between := He.glo_ok X G (cd.fact 13 (f := .glo "is_between") rfl)
    g_is_row := He.glo_ok X G (cd.fact 14 (f := .glo "is_row") rfl)
    g_is_name := He.glo_ok X G (cd.fact 15 (f := .glo "is_name") rfl)
    g_ascends := He.glo_ok X G (cd.fact 16 (f := .glo "ascends") rfl)
    g_body_box := He.glo_ok X G (cd.fact 17 (f := .glo "body_box") rfl)
    g_has_trait := He.glo_ok X G (cd.fact 18 (f := .glo "has_trait") rfl)
    g_is_fallen := He.glo_ok X G (cd.fact 19 (f := .glo "is_fallen") rfl)
    g_buckets_of := He.glo_ok X G (cd.fact 20 (f := .glo "buckets_of") rfl)
    g_put_thing := He.glo_ok X G (cd.fact 21 (f := .glo "put_thing") rfl)
    g_meeting := He.glo_ok X G (cd.fact 22 (f := .glo "meeting") rfl)
    g_barring := He.glo_ok X G (cd.fact 23 (f := .glo "_barring") rfl)
    g_lot := He.glo_ok X G (cd.fact 24 (f := .glo "lot") rfl)
    g_joining := He.glo_ok X G (cd.fact 25 (f := .glo "_joining") rfl)
    g_goes_along := He.glo_ok X G (cd.fact 26 (f := .glo "_goes_along") rfl)
    g_stands_on := He.glo_ok X G (cd.fact 27 (f := .glo "stands_on") rfl)
    g_thing_in := He.glo_ok X G (cd.fact 28 (f := .glo "_thing_in") rfl)
    g_measured := He.glo_ok X G (cd.fact 29 (f := .glo "measured") rfl)
    g_parts := He.glo_ok X G (cd.fact 30 (f := .glo "_parts") rfl)
    g_is_sign := He.glo_ok X G (cd.fact 31 (f := .glo "is_sign") rfl)
    g_within := He.glo_ok X G (cd.fact 32 (f := .glo "within") rfl)
    g_kinds_in := He.glo_ok X G (cd.fact 33 (f := .glo "kinds_in") rfl)
    g_starts_stand_right := He.glo_ok X G (cd.fact 34 (f := .glo "starts_stand_right") rfl)
    g_is_script := He.glo_ok X G (cd.fact 35 (f := .glo "is_script") rfl)
    g_is_level := He.glo_ok X G (cd.fact 36 (f := .glo "is_level") rfl)
    g_are_rows := He.glo_ok X G (cd.fact 37 (f := .glo "_are_rows") rfl)
    g_is_row_of_signs := He.glo_ok X G (cd.fact 38 (f := .glo "_is_row_of_signs") rfl)
    g_are_starts := He.glo_ok X G (cd.fact 39 (f := .glo "_are_starts") rfl)
    g_is_start := He.glo_ok X G (cd.fact 40 (f := .glo "_is_start") rfl)
    g_is_kind := He.glo_ok X G (cd.fact 41 (f := .glo "is_kind") rfl)
    g_is_own := He.glo_ok X G (cd.fact 42 (f := .glo "_is_own") rfl)
    g_are_traits := He.glo_ok X G (cd.fact 43 (f := .glo "_are_traits") rfl)
    g_is_game := He.glo_ok X G (cd.fact 44 (f := .glo "is_game") rfl)
    g_are_kinds := He.glo_ok X G (cd.fact 45 (f := .glo "_are_kinds") rfl)
    g_need_game := He.glo_ok X G (cd.fact 46 (f := .glo "need_game") rfl)
    g_are_presses := He.glo_ok X G (cd.fact 47 (f := .glo "are_presses") rfl)
    g_need_presses := He.glo_ok X G (cd.fact 48 (f := .glo "need_presses") rfl)
    g_house_heard := He.glo_ok X G (cd.fact 49 (f := .glo "house_heard") rfl)
    g_writes_of := He.glo_ok X G (cd.fact 50 (f := .glo "writes_of") rfl)
    g_is_stung := He.glo_ok X G (cd.fact 51 (f := .glo "_is_stung") rfl)
    g_run_rules := He.glo_ok X G (cd.fact 52 (f := .glo "_run_rules") rfl)
    g_go_across := He.glo_ok X G (cd.fact 53 (f := .glo "_go_across") rfl)
    g_go_down := He.glo_ok X G (cd.fact 54 (f := .glo "_go_down") rfl)
    g_done := He.glo_ok X G (cd.fact 55 (f := .glo "done") rfl)
    g_need_deed := He.glo_ok X G (cd.fact 56 (f := .glo "need_deed") rfl)
    g_law_take := He.glo_ok X G (cd.fact 57 (f := .glo "_law_take") rfl)
    g_law_keep := He.glo_ok X G (cd.fact 58 (f := .glo "_law_keep") rfl)
    g_law_box := He.glo_ok X G (cd.fact 59 (f := .glo "_law_box") rfl)
    g_law_meet := He.glo_ok X G (cd.fact 60 (f := .glo "_law_meet") rfl)
    g_law_has := He.glo_ok X G (cd.fact 61 (f := .glo "_law_has") rfl)
    g_law_size := He.glo_ok X G (cd.fact 62 (f := .glo "_law_size") rfl)
    g_law_sign := He.glo_ok X G (cd.fact 63 (f := .glo "_law_sign") rfl)
    g_law_signs := He.glo_ok X G (cd.fact 64 (f := .glo "_law_signs") rfl)
    g_law_free := He.glo_ok X G (cd.fact 65 (f := .glo "_law_free") rfl)
    g_law_stops := He.glo_ok X G (cd.fact 66 (f := .glo "_law_stops") rfl)
    g_law_blocks := He.glo_ok X G (cd.fact 67 (f := .glo "_law_blocks") rfl)
    g_law_world := He.glo_ok X G (cd.fact 68 (f := .glo "_law_world") rfl)
    g_law_look := He.glo_ok X G (cd.fact 69 (f := .glo "_law_look") rfl)
    g_law_lot := He.glo_ok X G (cd.fact 70 (f := .glo "_law_lot") rfl)
    g_law_rest := He.glo_ok X G (cd.fact 71 (f := .glo "_law_rest") rfl)
    g_law_shift := He.glo_ok X G (cd.fact 72 (f := .glo "_law_shift") rfl)
    g_law_step := He.glo_ok X G (cd.fact 73 (f := .glo "_law_step") rfl)
    g_law_down := He.glo_ok X G (cd.fact 74 (f := .glo "_law_down") rfl)
    g_law_met := He.glo_ok X G (cd.fact 75 (f := .glo "_law_met") rfl)
    g_law_same := He.glo_ok X G (cd.fact 76 (f := .glo "_law_same") rfl)
    g_law_rows := He.glo_ok X G (cd.fact 77 (f := .glo "_law_rows") rfl)
    g_law_kind := He.glo_ok X G (cd.fact 78 (f := .glo "_law_kind") rfl)
    g_law_spot := He.glo_ok X G (cd.fact 79 (f := .glo "_law_spot") rfl)
    g_law_fits := He.glo_ok X G (cd.fact 80 (f := .glo "_law_fits") rfl)
    g_law_things := He.glo_ok X G (cd.fact 81 (f := .glo "_law_things") rfl)
    g_law_start := He.glo_ok X G (cd.fact 82 (f := .glo "_law_start") rfl)
    g_law_game := He.glo_ok X G (cd.fact 83 (f := .glo "_law_game") rfl)
    g_law_with_starts := He.glo_ok X G (cd.fact 84 (f := .glo "_law_with_starts") rfl)
    g_law_presses := He.glo_ok X G (cd.fact 85 (f := .glo "_law_presses") rfl)
    g_law_seen := He.glo_ok X G (cd.fact 86 (f := .glo "_law_seen") rfl)
    g_law_asked := He.glo_ok X G (cd.fact 87 (f := .glo "_law_asked") rfl)
    g_law := He.glo_ok X G (cd.fact 88 (f := .glo "law") rfl)
    n_len := He.free_ok X G (cd.fact 89 (f := .free "len") rfl)
    n_int := He.free_ok X G (cd.fact 90 (f := .free "int") rfl)
    n_isinstance := He.free_ok X G (cd.fact 91 (f := .free "isinstance") rfl)
    n_range := He.free_ok X G (cd.fact 92 (f := .free "range") rfl)
    n_all := He.free_ok X G (cd.fact 93 (f := .free "all") rfl)
    n_any := He.free_ok X G (cd.fact 94 (f := .free "any") rfl)
    n_min := He.free_ok X G (cd.fact 95 (f := .free "min") rfl)
    n_max := He.free_ok X G (cd.fact 96 (f := .free "max") rfl)
    n_str := He.free_ok X G (cd.fact 97 (f := .free "str") rfl)
    n_bool := He.free_ok X G (cd.fact 98 (f := .free "bool") rfl)
    n_tuple := He.free_ok X G (cd.fact 99 (f := .free "tuple") rfl)
    n_list := He.free_ok X G (cd.fact 100 (f := .free "list") rfl)
    n_sorted := He.free_ok X G (cd.fact 101 (f := .free "sorted") rfl)
    n_zip := He.free_ok X G (cd.fact 102 (f := .free "zip") rfl)
    n_ValueError := He.free_ok X G (cd.fact 103 (f := .free "ValueError") rfl)
    n_repr := He.free_ok X G (cd.fact 104 (f := .free "repr") rfl)
    n_abs := He.free_ok X G (cd.fact 105 (f := .free "abs") rfl)
    g_DIRECTIONS := He.glo_ok X G (cd.fact 106 (f := .glo "DIRECTIONS") rfl)
    c_SQUARE := by
      obtain ⟨t, e⟩ := He.int_ok X G (cd.fact 107 (f := .int "SQUARE" 8) rfl)
      exact ⟨_, e, ⟨t, rfl⟩⟩
    c_BLOCK_SQUARES := by
      obtain ⟨t, e⟩ := He.int_ok X G (cd.fact 108 (f := .int "BLOCK_SQUARES" 4) rfl)
      exact ⟨_, e, ⟨t, rfl⟩⟩
    c_BLOCK := by
      obtain ⟨t, e⟩ := He.int_ok X G (cd.fact 109 (f := .int "BLOCK" 32) rfl)
      exact ⟨_, e, ⟨t, rfl⟩⟩
    c_WALLS := by
      obtain ⟨t, e⟩ := He.str_ok X G (cd.fact 110 (f := .str "WALLS" "#<>") rfl)
      exact ⟨_, e, ⟨t, rfl⟩⟩
    c_OUTSIDE := by
      obtain ⟨t, e⟩ := He.str_ok X G (cd.fact 111 (f := .str "OUTSIDE" "#") rfl)
      exact ⟨_, e, ⟨t, rfl⟩⟩
    c_BELOW := by
      obtain ⟨t, e⟩ := He.str_ok X G (cd.fact 112 (f := .str "BELOW" ".") rfl)
      exact ⟨_, e, ⟨t, rfl⟩⟩
    c_SLOTS := by
      obtain ⟨t, e⟩ := He.int_ok X G (cd.fact 113 (f := .int "SLOTS" 16) rfl)
      exact ⟨_, e, ⟨t, rfl⟩⟩
    c_MET := by
      obtain ⟨t, e⟩ := He.int_ok X G (cd.fact 114 (f := .int "MET" 16) rfl)
      exact ⟨_, e, ⟨t, rfl⟩⟩
    c_BUCKET := by
      obtain ⟨t, e⟩ := He.int_ok X G (cd.fact 115 (f := .int "BUCKET" 49) rfl)
      exact ⟨_, e, ⟨t, rfl⟩⟩
    c_MOST_SET := by
      obtain ⟨t, e⟩ := He.int_ok X G (cd.fact 116 (f := .int "MOST_SET" 999) rfl)
      exact ⟨_, e, ⟨t, rfl⟩⟩
    c_MOST_WAY := by
      obtain ⟨t, e⟩ := He.int_ok X G (cd.fact 117 (f := .int "MOST_WAY" 7) rfl)
      exact ⟨_, e, ⟨t, rfl⟩⟩
    c_MOST_PRESS := by
      obtain ⟨t, e⟩ := He.int_ok X G (cd.fact 118 (f := .int "MOST_PRESS" 63) rfl)
      exact ⟨_, e, ⟨t, rfl⟩⟩
    c_NO_HOUSE := by
      obtain ⟨t, e⟩ := He.int_ok X G (cd.fact 119 (f := .int "NO_HOUSE" (-1)) rfl)
      exact ⟨_, e, ⟨t, rfl⟩⟩
    c_ON_THE_FLOOR := by
      obtain ⟨t, e⟩ := He.int_ok X G (cd.fact 120 (f := .int "ON_THE_FLOOR" (-1)) rfl)
      exact ⟨_, e, ⟨t, rfl⟩⟩
    c_IN_THE_AIR := by
      obtain ⟨t, e⟩ := He.int_ok X G (cd.fact 121 (f := .int "IN_THE_AIR" (-2)) rfl)
      exact ⟨_, e, ⟨t, rfl⟩⟩
    c_LETTERS := by
      obtain ⟨t, e⟩ := He.str_ok X G (cd.fact 122 (f := .str "LETTERS" "abcdefghijklmnopqrstuvwxyz") rfl)
      exact ⟨_, e, ⟨t, rfl⟩⟩
    c_MOST_LETTERS := by
      obtain ⟨t, e⟩ := He.int_ok X G (cd.fact 123 (f := .int "MOST_LETTERS" 8) rfl)
      exact ⟨_, e, ⟨t, rfl⟩⟩
    c_SIGNS := by
      obtain ⟨t, e⟩ := He.str_ok X G (cd.fact 124 (f := .str "SIGNS" ".#=<>^wg") rfl)
      exact ⟨_, e, ⟨t, rfl⟩⟩
    c_MOST_TUPLES := by
      obtain ⟨t, e⟩ := He.int_ok X G (cd.fact 125 (f := .int "MOST_TUPLES" 60) rfl)
      exact ⟨_, e, ⟨t, rfl⟩⟩
    c_MOST_DEEP := by
      obtain ⟨t, e⟩ := He.int_ok X G (cd.fact 126 (f := .int "MOST_DEEP" 8) rfl)
      exact ⟨_, e, ⟨t, rfl⟩⟩
    g_TRAITS := He.glo_ok X G (cd.fact 127 (f := .glo "TRAITS") rfl)
    c_LEAST_ROWS := by
      obtain ⟨t, e⟩ := He.int_ok X G (cd.fact 128 (f := .int "LEAST_ROWS" 3) rfl)
      exact ⟨_, e, ⟨t, rfl⟩⟩
    c_MOST_ROWS := by
      obtain ⟨t, e⟩ := He.int_ok X G (cd.fact 129 (f := .int "MOST_ROWS" 16) rfl)
      exact ⟨_, e, ⟨t, rfl⟩⟩
    c_MOST_STARTS := by
      obtain ⟨t, e⟩ := He.int_ok X G (cd.fact 130 (f := .int "MOST_STARTS" 12) rfl)
      exact ⟨_, e, ⟨t, rfl⟩⟩
    c_MOST_KINDS := by
      obtain ⟨t, e⟩ := He.int_ok X G (cd.fact 131 (f := .int "MOST_KINDS" 8) rfl)
      exact ⟨_, e, ⟨t, rfl⟩⟩
    c_SCRIPTS := by
      obtain ⟨t, e⟩ := He.int_ok X G (cd.fact 132 (f := .int "SCRIPTS" 0) rfl)
      exact ⟨_, e, ⟨t, rfl⟩⟩
    c_ACROSS := by
      obtain ⟨t, e⟩ := He.int_ok X G (cd.fact 133 (f := .int "ACROSS" 1) rfl)
      exact ⟨_, e, ⟨t, rfl⟩⟩
    c_DOWN := by
      obtain ⟨t, e⟩ := He.int_ok X G (cd.fact 134 (f := .int "DOWN" 2) rfl)
      exact ⟨_, e, ⟨t, rfl⟩⟩
    c_MEETINGS := by
      obtain ⟨t, e⟩ := He.int_ok X G (cd.fact 135 (f := .int "MEETINGS" 3) rfl)
      exact ⟨_, e, ⟨t, rfl⟩⟩
    c_PHASES := by
      obtain ⟨t, e⟩ := He.int_ok X G (cd.fact 136 (f := .int "PHASES" 5) rfl)
      exact ⟨_, e, ⟨t, rfl⟩⟩
    g_InvalidGame := He.glo_ok X G (cd.fact 137 (f := .glo "InvalidGame") rfl)
    g_InvalidPress := He.glo_ok X G (cd.fact 138 (f := .glo "InvalidPress") rfl)
    g_InvalidNumber := He.glo_ok X G (cd.fact 139 (f := .glo "InvalidNumber") rfl)
    g_InvalidPair := He.glo_ok X G (cd.fact 140 (f := .glo "InvalidPair") rfl)
    g_Draft := He.glo_ok X G (cd.fact 141 (f := .glo "Draft") rfl)
    k_Draft := He.cls_ok (cd.fact 142 (f := .cls "Draft") rfl)
    m_Draft := He.mkr_ok (cd.fact 143 (f := .mkr "Draft") rfl)
    a_Draft__looks := He.noat_ok (cd.fact 144 (f := .noat "Draft" "_looks") rfl)
    a_Draft__changed := He.noat_ok (cd.fact 145 (f := .noat "Draft" "_changed") rfl)
    e_Draft_at := He.meth_ok (cd.fact 146 (f := .meth "Draft" "at") rfl)
    e_Draft_put := He.meth_ok (cd.fact 147 (f := .meth "Draft" "put") rfl)
    e_Draft_writes := He.meth_ok (cd.fact 148 (f := .meth "Draft" "writes") rfl)
    g_Looks := He.glo_ok X G (cd.fact 149 (f := .glo "Looks") rfl)
    k_Looks := He.cls_ok (cd.fact 150 (f := .cls "Looks") rfl)
    m_Looks := He.mkr_ok (cd.fact 151 (f := .mkr "Looks") rfl)
    a_Looks__world := He.noat_ok (cd.fact 152 (f := .noat "Looks" "_world") rfl)
    a_Looks__looked := He.noat_ok (cd.fact 153 (f := .noat "Looks" "_looked") rfl)
    e_Looks_at := He.meth_ok (cd.fact 154 (f := .meth "Looks" "at") rfl)
    e_Looks_seen := He.meth_ok (cd.fact 155 (f := .meth "Looks" "seen") rfl)
    t_TRAITS := tupA_ok x0
    ex := x1
  }
end K27
set_option maxRecDepth 100000
set_option maxHeartbeats 4000000
/-! Frames, draws, data without lists. -/
namespace KF
open PySem PySem.Spec PyProof.Rows L2
/-! ### data stand while tuples stand -/
def TF (H H' : Hp) : Prop := ∀ b xs, Rd H b (.tup xs) → Rd H' b (.tup xs)
theorem TF.sq {K : PySem.W.Frag} {H H' : Hp} (e : TF H H') {a : Addr} {xs : List V} (h : SqT K H a xs) : SqT K H' a xs := by
  rcases h with h | h
  · exact .inl (e _ _ h)
  · exact .inr h
theorem TF.refl (H : Hp) : TF H H := fun _ _ h => h
theorem TF.trans {H H1 H2 : Hp} (a : TF H H1) (b : TF H1 H2) : TF H H2 := fun c xs h => b c xs (a c xs h)
theorem TF.of_new {H : Hp} {p : Addr} {o : HO} (h : H p = none) : TF H (upd H p o) := fun c xs z => by
  rcases z with z | ⟨u, z⟩
  · exact .inl (by rw [upd_ne (ne_of_none z h)]; exact z)
  · exact .inr ⟨u, by rw [upd_ne (ne_of_none z h)]; exact z⟩
/-- but for one list all stands -/
def Frm (d : Addr) (H H' : Hp) : Prop := ∀ b o, b ≠ d → H b = some o → H' b = some o
theorem Frm.refl (d : Addr) (H : Hp) : Frm d H H := fun _ _ _ h => h
theorem Frm.trans {d : Addr} {H H1 H2 : Hp} (a : Frm d H H1) (b : Frm d H1 H2) : Frm d H H2 := fun c o n h => b c o n (a c o n h)
theorem Frm.of_same {d : Addr} {H H' : Hp} (e : Same H H') : Frm d H H' := fun b o _ h => e b o h
theorem Frm.of_new {d : Addr} {H : Hp} {p : Addr} {o : HO} (h : H p = none) : Frm d H (upd H p o) := fun b u _ z => by
  rw [upd_ne (ne_of_none z h)]
  exact z
theorem Frm.of_upd {d : Addr} {H : Hp} {o : HO} : Frm d H (upd H d o) := fun b u n z => by
  rw [upd_ne n]
  exact z
theorem Frm.tf {d : Addr} {H H' : Hp} {xs : List V} (e : Frm d H H') (h : H d = some (.lst xs)) : TF H H' := fun c ys z => by
  rcases z with z | ⟨u, z⟩
  · exact .inl (e c _ (fun q => by rw [q, h] at z; cases z) z)
  · exact .inr ⟨u, e c _ (fun q => by rw [q, h] at z; cases z) z⟩
theorem new_same {H : Hp} {p : Addr} {o : HO} (h : H p = none) : Same H (upd H p o) := fun b u z => by
  rw [upd_ne (ne_of_none z h)]
  exact z
theorem same_tf {H H' : Hp} (s : Same H H') : TF H H' := fun c zs z => by
  rcases z with z | ⟨u, z⟩
  · exact .inl (s _ _ z)
  · exact .inr ⟨u, s _ _ z⟩
theorem frm_same {H0 H1 H2 : Hp} {d : Addr} (s : Same H0 H1) (n : H0 d = none) (f : Frm d H1 H2) : Same H0 H2 := fun b o z => f b o (ne_of_none z n) (s b o z)
/-- a row of draws at d, good for n more -/
def Deck (H : Hp) (d : Addr) (n : Nat) : Prop := ∃ r m i c : Int, H d = some (.lst [.int r, .int m, .int i, .int c]) ∧ 0 ≤ m ∧ m < 2305843009213693951 ∧ 0 ≤ i ∧ i ≤ 1000 ∧ 0 ≤ c ∧ c + n ≤ 1000000000000
theorem Deck.le {H : Hp} {d : Addr} {n k : Nat} (h : Deck H d n) (hk : k ≤ n) : Deck H d k := by
  obtain ⟨r, m, i, c, h0, h1, h2, h3, h4, h5, h6⟩ := h
  exact ⟨r, m, i, c, h0, h1, h2, h3, h4, h5, by omega⟩
theorem Deck.lst {H : Hp} {d : Addr} {n : Nat} (h : Deck H d n) : ∃ xs, H d = some (.lst xs) := by
  obtain ⟨r, m, i, c, h0, _⟩ := h
  exact ⟨_, h0⟩
theorem Deck.keep {H H' : Hp} {d : Addr} {n : Nat} (h : Deck H d n) (e : H' d = H d) : Deck H' d n := by
  obtain ⟨r, m, i, c, h0, h1⟩ := h
  exact ⟨r, m, i, c, by rw [e]; exact h0, h1⟩
theorem Deck.same {H H' : Hp} {d : Addr} {n : Nat} (h : Deck H d n) (e : Same H H') : Deck H' d n := by
  obtain ⟨r, m, i, c, h0, h1⟩ := h
  exact ⟨r, m, i, c, e _ _ h0, h1⟩
theorem small_ab {i : Int} {n : Nat} (h0 : 0 ≤ i) (h1 : i < 2 ^ n) : i.natAbs < 2 ^ n := by
  have e : ((i.natAbs : Nat) : Int) = i := Int.natAbs_of_nonneg h0
  have h2 : ((i.natAbs : Nat) : Int) < ((2 ^ n : Nat) : Int) := by
    rw [e, Int.natCast_pow]
    exact h1
  exact Int.ofNat_lt.mp h2
theorem pow63 : (2 : Int) ^ 63 = 9223372036854775808 := by decide
theorem pow20 : (2 : Int) ^ 20 = 1048576 := by decide
theorem pow40 : (2 : Int) ^ 40 = 1099511627776 := by decide
theorem pow122 : (2 : Nat) ^ 122 = 5316911983139663491615228241121378304 := by decide
theorem pow120 : (2 : Nat) ^ (40 + 40 + 40) = 1329227995784915872903807060280344576 := by decide
theorem ne_int {i j : Int} (h : ¬ (V.int i = V.int j)) : i ≠ j := fun e => h (by rw [e])
theorem ty_tup {K : PySem.W.Frag} {H : Hp} {a : Addr} {xs : List V} (h : SqT K H a xs) : TyX K H (.ref a) (.type "tuple") := by
  rcases h with (h | ⟨o, h⟩) | ⟨o, _, _, h, hc, _⟩
  · exact .base (.tup h)
  · exact .fTuple h
  · exact .kTuple h hc
section
variable {K : PySem.W.Frag} {H : Hp}
theorem dpa_len : ∀ {vs : List V} {ds : List PyData}, DpAll K H vs ds → vs.length = ds.length
  | [], _, h => by cases h; rfl
  | v :: vs, _, h => by
    cases h with
    | cons _ b => rw [List.length_cons, List.length_cons, dpa_len b]
theorem dpa_get : ∀ {vs : List V} {ds : List PyData} {i : Nat} {e : PyData}, DpAll K H vs ds → ds[i]? = some e → ∃ v, vs[i]? = some v ∧ Dp K H v e
  | [], _, i, e, h, he => by cases h; cases he
  | v :: vs, _, 0, e, h, he => by
    cases h with
    | cons a _ => cases he; exact ⟨v, rfl, a⟩
  | v :: vs, _, i + 1, e, h, he => by
    cases h with
    | cons _ b => exact dpa_get (vs := vs) (i := i) b he
end
/-! ### x is True, x is not True, x any value -/
def rIsT (c : Bool) : R2 := fun x y H Q => y = .bl c ∧ Q (.bl (decide (x = .bl c))) H
theorem plain_bl (c : Bool) {x : V} {u : Value} (r : RelV x u) : plainIs u (.bool c) = true := by
  cases x <;> first | (cases r; rfl) | (obtain ⟨t, rfl⟩ := r; rfl)
section
variable {X : Cx}
theorem op_isT (c : Bool) : OpR X (compareOp .Is) (rIsT c) := by
  intro pins s σ H x y v u Q I rx ry h
  obtain ⟨rfl, q⟩ := h
  cases (show u = Value.bool c from ry)
  by_cases e : x = .bl c
  · subst e
    cases (show v = Value.bool c from rx)
    exact wpAny_is_self (plain_bl c rx) ⟨.bl true, H, I, rfl, by simpa using q⟩
  · refine wpAny_is_other (plain_bl c rx) (fun z => e ?_) ⟨.bl false, H, I, rfl, by simpa [e] using q⟩
    subst z
    exact RelV.inj rx rfl
theorem op_notT (c : Bool) : OpR X (compareOp .IsNot) (fun x y H Q => y = .bl c ∧ Q (.bl (!decide (x = .bl c))) H) := by
  intro pins s σ H x y v u Q I rx ry h
  obtain ⟨rfl, q⟩ := h
  cases (show u = Value.bool c from ry)
  by_cases e : x = .bl c
  · subst e
    cases (show v = Value.bool c from rx)
    exact wpAny_isNot_self (plain_bl c rx) ⟨.bl false, H, I, rfl, by simpa using q⟩
  · refine wpAny_isNot_other (plain_bl c rx) (fun z => e ?_) ⟨.bl true, H, I, rfl, by simpa [e] using q⟩
    subst z
    exact RelV.inj rx rfl
end

/-! ### data without lists and dicts -/
mutual
def NL : PyData → Prop
  | .none => True
  | .bool _ => True
  | .int _ => True
  | .str _ => True
  | .list _ => False
  | .tuple ds => NLs ds
  | .dict _ => False
def NLs : List PyData → Prop
  | [] => True
  | d :: ds => NL d ∧ NLs ds
end
section
variable {K : PySem.W.Frag} {H H' : Hp}
mutual
theorem dp_nl (e : TF H H') : ∀ (d : PyData) (v : V), NL d → Dp K H v d → Dp K H' v d
  | .none, _, _, h => by cases h; exact .non
  | .bool _, _, _, h => by cases h; exact .bl _
  | .int _, _, _, h => by cases h; exact .int _
  | .str _, _, _, h => by cases h; exact .str _
  | .list _, _, r, _ => r.elim
  | .dict _, _, r, _ => r.elim
  | .tuple ds, _, r, h => by
    cases h with
    | tup a b => exact .tup (e.sq a) (dpa_nl e ds _ r b)
theorem dpa_nl (e : TF H H') : ∀ (ds : List PyData) (vs : List V), NLs ds → DpAll K H vs ds → DpAll K H' vs ds
  | [], _, _, h => by cases h; exact .nil
  | d :: ds, _, r, h => by
    cases h with
    | cons a b => exact .cons (dp_nl e d _ r.1 a) (dpa_nl e ds _ r.2 b)
end
end
end KF
set_option maxRecDepth 100000
set_option maxHeartbeats 4000000
/-! enumerate of a tuple, from any number on; sorted of a dict of any size; dict of a tuple of pairs. -/
namespace PySem
open Sem (wp)
set_option maxHeartbeats 1000000 in
theorem kd_meets_enum1 {v : Value} {o : Obj} {Hv : Heap → Prop} (B : Begins v o Hv) :
    Meets (Builtin.«enumerate.__new__» ⟨[.type "enumerate", v], []⟩) (fun _ R s => Hv s.heap ∧
      R (.ok (.ret (.ref (s.heap.push o).objs.size))) { s with heap := (s.heap.push o).push { cls := .type "enumerate", data := .fields #[.none, .bool false, .ref s.heap.objs.size, rawInt 0, .none, .none] } }) :=
  .of_wp fun prog w A R s hh => by
    obtain ⟨hp, g, d, tk, os⟩ := s
    obtain ⟨v1, hh⟩ := hh
    have hsub := sub_enumerate
    have start : ∀ {A' : Around} {E : Value → Shared → Prop} {Q : Value → Shared → Prop}, Q (.ref hp.objs.size) ⟨hp.push o, g, d, tk, os⟩ → wpAny (model prog w) A' (pyIter v) Q E ⟨hp, g, d, tk, os⟩ :=
      fun q => B.iter prog w _ _ ⟨hp, g, d, tk, os⟩ _ v1 q
    wp_walk using start
    refine wpAny_stack_any fun st => wpAny_pure ?_
    split
    · rename_i c _ _ _ _ _
      cases (c == Value.type "enumerate")
      · wp_walk using start
        exact ⟨_, rfl, hh⟩
      · wp_walk using start
        exact ⟨_, rfl, hh⟩
    · wp_walk using start
      exact ⟨_, rfl, hh⟩
section
variable {prog : Program} {w : World} {A : Around} {E : Value → Shared → Prop} {s : Shared}
theorem kd_enum1 {v : Value} {o : Obj} {Hv : Heap → Prop} {Q : Value → Shared → Prop} (B : Begins v o Hv) (v1 : Hv s.heap)
    (hq : ∀ h', IsEnum h' (s.heap.objs.size + 1) s.heap.objs.size 0 .none → h'.get? s.heap.objs.size = some o → h'.objs.size = s.heap.objs.size + 2 →
      (∀ b o, s.heap.get? b = some o → h'.get? b = some o) → Q (.ref (s.heap.objs.size + 1)) { s with heap := h' }) :
    wpAny (model prog w) A (call (.type "enumerate") [v]) Q E s := by
  refine callType_new F.called_enumerate (by decide) (F.typeCall_enumerate_1 _) (F.newCall_enumerate_1 _) (fun ob => F.args_object_init_2 ob _) F.entry_enumerate_new
    (kd_meets_enum1 B) ⟨v1, ?_⟩
  have hz : (s.heap.push o).objs.size = s.heap.objs.size + 1 := Heap.size_push ..
  show _ ∧ _
  rw [hz]
  have he : IsEnum ((s.heap.push o).push { cls := .type "enumerate", data := .fields #[.none, .bool false, .ref s.heap.objs.size, rawInt 0, .none, .none] }) (s.heap.objs.size + 1) s.heap.objs.size 0 .none := by
    have := Heap.get?_push_size (s.heap.push o) (o := { cls := .type "enumerate", data := .fields #[.none, .bool false, .ref s.heap.objs.size, rawInt 0, .none, .none] }) rfl
    rw [hz] at this
    exact this
  exact ⟨⟨_, he, rfl⟩, hq _ he (Heap.get?_push_of_some _ (Heap.get?_push_size _ B.free)) (by rw [Heap.size_push, hz]) fun b o x => Heap.get?_push_of_some _ (Heap.get?_push_of_some _ x)⟩
end
end PySem
namespace KD
open PySem PySem.Spec PyProof.Rows L2
/-- the tuple at a, each item behind its number, from c on, in a new pair -/
def Ity (K : PySem.W.Frag) (a : Addr) (c : Int) : It :=
  ⟨fun i G => ∃ (xs : List V) (x : V), SqT K G a xs ∧ xs[i]? = some x, fun i G v G' => ∃ t x, v = .ref t ∧ G t = none ∧ G' = upd G t (.tup [.int (c + (i : Nat)), x]) ∧ ∀ xs, SqT K G a xs → xs[i]? = some x, fun i G => ∃ xs : List V, SqT K G a xs ∧ xs.length ≤ i⟩
theorem turn_ity {P : Program} {w : World} {K : PySem.W.Frag} {elts : List Expr} {kk : Nat} {tpos : Pos} (a e it : Addr) (c : Int) :
    Turn P w K (.Tuple elts kk tpos) (Ity K a c) [e, it] e (fun i h => (∃ old, IsEnum h e it (c + ((i : Nat) : Int)) old) ∧ h.IsTupleIter it a i ∧ e ≠ it) where
  mem := by simp
  obj := fun i h st b hb => by
    obtain ⟨⟨old, he⟩, ⟨o, ho, _, hd⟩, _⟩ := st
    have z : b = e ∨ b = it := by simpa using hb
    rcases z with z | z
    · rw [z]
      exact ⟨_, he, fun v q => nomatch q⟩
    · rw [z]
      exact ⟨o, ho, fun v q => by rw [hd] at q; cases q⟩
  keep := fun i h h' st k => let ⟨⟨old, he⟩, hi, hne⟩ := st; ⟨⟨old, k e (by simp) _ he⟩, hi.at fun o q => k it (by simp) o q, hne⟩
  item := by
    intro X hP hw hK hc i pins s σ G E I hf st hg
    subst hP hw hK
    obtain ⟨⟨old, he⟩, hit, hne⟩ := st
    obtain ⟨xs, x, hq, hx⟩ := hg
    obtain ⟨its, rv, p, hz⟩ := I.tuple hq
    obtain ⟨u, hu, ru⟩ := rv.get hx
    have p2 : s.heap.IsTuple a its.toArray := p
    obtain ⟨oa, g1, g2, n1, g3⟩ := id p2
    obtain ⟨oi, i1, i2, i3⟩ := id hit
    have nai : a ≠ it := fun z => by
      rw [z, i1] at g1
      cases g1
      rw [i3] at g3
      cases g3
    have nea : e ≠ a := fun z => by
      have he2 := he
      unfold IsEnum at he2
      rw [z, g1] at he2
      cases he2
      cases g3
    have hel : e < s.heap.objs.size := Heap.lt_size he
    have hil : it < s.heap.objs.size := Heap.lt_size i1
    have D := Draws.tuple (prog := X.prog) (w := X.w) (A := X.A.in1) (I.ok.hd hc) it a nai its.toArray
    have hin : i < its.toArray.size := by
      have z : i < its.length := (List.getElem?_eq_some_iff.mp hu).1
      simpa using z
    refine wpAny_pyNext_enum_itemC D he ⟨hit, p2⟩ hin hne (by simp [hne, nea]) fun y h' tk hy ho hst' hT hsz hk => ?_
    have hy2 : y = u := by
      have z : its[i]? = some y := by simpa using hy
      rw [hu] at z
      exact (Option.some.inj z).symm
    subst hy2
    refine ⟨_, rfl, wpAny_letOwnedTupleGo_enum (s := { s with heap := h', toks := tk + 1 }) ho fun h2 he2 sb => ?_⟩
    have hT2 : h2.get? s.heap.objs.size = some { cls := .type "tuple", data := .seq #[.int (c + ((i : Nat) : Int)) tk, y] } := (sb.2 _ (Nat.ne_of_gt hel)).trans hT
    have new : ObjOk X.prog X.w (upd G s.heap.objs.size (.tup [.int (c + ((i : Nat) : Int)), x])) h2 s.heap.objs.size (.tup [.int (c + ((i : Nat) : Int)), x]) :=
      ⟨by show 2 ≤ sizeLine; decide, [.int (c + ((i : Nat) : Int)) tk, y], .cons ⟨_, rfl⟩ (.cons ru .nil), ⟨_, hT2, rfl, _, rfl⟩⟩
    have I1 : Inv X pins σ (upd G s.heap.objs.size (.tup [.int (c + ((i : Nat) : Int)), x])) { s with heap := h2, toks := tk + 1 } :=
      I.turnedNew (ch := [e, it]) (fun b ob hb q => (sb.2 b (fun z => hb (by simp [z]))).trans (hk b ob (fun z => hb (by simp [z])) (fun z => hb (by simp [z])) q)) hf (Nat.le_refl _) new
    refine ⟨.ref s.heap.objs.size, _, I1, rfl, ⟨_, x, rfl, I.hok.fresh (Nat.le_refl _), rfl, fun ys hys => by rw [I.tuple_inj hys hq]; exact hx⟩, ⟨⟨y, ?_⟩, hst'.1.at fun o q => (sb.2 it (Ne.symm hne)).trans q, hne⟩, fun b hb => ?_⟩
    · have e1 : c + ((i + 1 : Nat) : Int) = c + (i : Int) + 1 := by omega
      rw [e1]
      exact he2
    · have hb2 : b < s.heap.objs.size := by
        have z : b = e ∨ b = it := by simpa using hb
        rcases z with z | z
        · rw [z]; exact hel
        · rw [z]; exact hil
      rw [upd_ne (Nat.ne_of_lt hb2)]
      exact (hf b hb).1
  done := by
    intro X hP hw hK hc i pins s σ G E I hf st hg
    subst hP hw hK
    obtain ⟨⟨old, he⟩, hit, hne⟩ := st
    obtain ⟨xs, hq, hx⟩ := hg
    obtain ⟨its, rv, p, hz⟩ := I.tuple hq
    have p2 : s.heap.IsTuple a its.toArray := p
    obtain ⟨oa, g1, g2, n1, g3⟩ := id p2
    obtain ⟨oi, i1, i2, i3⟩ := id hit
    obtain ⟨f0, f1, f2, f3, f4, f5⟩ := hf it (by simp)
    have hl := rv.length
    have hit2 := hit
    have ends : ∀ h', Heap.ExtBut it s.heap h' → (none : Option Value) = none ∧ Inv X pins σ G { s with heap := h' } := fun h' eb => ⟨rfl, I.turned (t' := s.toks) (fun b o hb q => eb b o hb q) f0 f1 f3 f4 f5⟩
    have hT : s.TypeIs (.ref e) "enumerate" := ⟨_, he, rfl⟩
    unfold pyNext
    refine wpAny_bind (wpAny_attempt (wpAny_callSpecial?_slot (name := Str.ofString "__next__") hT F.slot_enumerate_next (wpAny_call_entry F.slot_enumerate_next hT F.entry_enumerate_next ?_ (F.args_enumerate_next_1 _))))
    show wpAny _ _ (field (.ref e) 2 >>= _) _ _ _
    refine wpAny_bind (wpAny_field he rfl (x := .ref it) rfl ?_)
    refine wpAny_bind (wpAny_nextOf_tuple_end (I.ok.hd hc) hit p2 (by simp; omega) fun h' x he' hx' => ?_)
    obtain ⟨o, ho, hc2⟩ := hx'
    refine wpAny_bind (wpAny_isInstance (T := "StopIteration") (b := true) ⟨o, ho, hc2⟩ isSubtype_stop ?_)
    exact wpAny_pure (ends _ he')
  self := fun A i s Q E st h => let ⟨⟨_, he⟩, _⟩ := st; wpAny_pyIter_enum he h
def iEnT (K : PySem.W.Frag) (ta : TA) : TI := fun σ G R => ta σ G fun vs G1 => ∃ a xs, vs = [.ref a] ∧ SqT K G1 a xs ∧ R (Ity K a 0) G1
def iEnTS (K : PySem.W.Frag) (ta tk : TA) : TI := fun σ G R => ta σ G fun vs G1 => tk σ G1 fun zs G2 => ∃ a xs c, vs = [.ref a] ∧ zs = [.int c] ∧ -(2 ^ 63) ≤ c ∧ c < 2 ^ 63 ∧ SqT K G2 a xs ∧ R (Ity K a c) G2
section
variable {X : Cx} {e : Expr} {ta tk : TA} {p pos tpos : Pos} {elts : List Expr} {kk : Nat} {kws : List Keyword}
theorem begun {pins : List (Addr × Obj)} {σ : L2.St} {G : Hp} {s1 : Shared} {R : It → Hp → Prop} {a : Addr} {c : Int} {h' : Heap} (I1 : Inv X pins σ G s1) (he : IsEnum h' (s1.heap.objs.size + 1) s1.heap.objs.size c .none)
    (hit : h'.get? s1.heap.objs.size = some { cls := .type "tuple_iterator", data := .fields #[.ref a, .int 0 0] }) (hk : ∀ b o, s1.heap.get? b = some o → h'.get? b = some o) (q : R (Ity X.K a c) G) :
    PIE X pins σ (.Tuple elts kk tpos) R (.ref (s1.heap.objs.size + 1)) { s1 with heap := h' } := by
  have I2 : Inv X pins σ G { s1 with heap := h' } := I1.kept (t' := s1.toks) hk
  have he0 : IsEnum h' (s1.heap.objs.size + 1) s1.heap.objs.size (c + ((0 : Nat) : Int)) .none := by
    rw [show c + ((0 : Nat) : Int) = c from by omega]
    exact he
  refine ⟨s1.heap.objs.size + 1, [s1.heap.objs.size + 1, s1.heap.objs.size], _, _, G, rfl, I2, turn_ity a (s1.heap.objs.size + 1) s1.heap.objs.size c, ⟨⟨.none, he0⟩, ⟨_, hit, rfl, rfl⟩, Nat.succ_ne_self _⟩, fun b hb => ?_, q⟩
  have z : b = s1.heap.objs.size + 1 ∨ b = s1.heap.objs.size := by simpa using hb
  have hle : s1.heap.objs.size ≤ b := by
    rcases z with z | z
    · rw [z]; exact Nat.le_add_right _ _
    · rw [z]; exact Nat.le_refl _
  exact I1.fpOk hle (I1.hok.fresh hle)
theorem pi_enT (hg : Gl X "enumerate") (hm : X.mg "enumerate" = none) (ha : PA X [e] ta) (hs : starEach [e] X.env = [(false, eval e X.env)] := by rfl) :
    PI X (.Tuple elts kk tpos) (.Call (.Name "enumerate" p) [e] [] pos) (iEnT X.K ta) := by
  refine ⟨fun pins s σ G R I h => ?_⟩
  refine Call_ (ld_blt I hg hm boot_enumerate (PyProof.Rows.callWith_type1 (thn (ha.run pos pins s σ G _ I h) fun us s1 ⟨vs, G1, I1, r1, q1⟩ => ?_) hs rfl))
  obtain ⟨a, xs, ex, hq, q⟩ := q1
  subst ex
  cases r1 with
  | cons r rr =>
    cases rr
    cases r
    obtain ⟨its, rv, p', hz⟩ := I1.tuple hq
    refine kd_enum1 (begins_tuple a its.toArray) (show s1.heap.IsTuple a its.toArray from p') fun h' he hit hsz hk => wpAny_pyIter_enum he (begun I1 he hit hk q)
theorem callWith_typeK {M : Model} {A : Around} {E : Value → Shared → Prop} {s : Shared} {env : Env} {T : String} {e : Expr} {rest : List Expr} {kws : List Keyword} {Q : Value → Shared → Prop}
    (h : wpAny M A (spliced (backTo pos (starEach (e :: rest) env))) (fun vs s1 => wpAny M A (evalAll ((backToKw pos (keywordEach kws env)).map (·.2)))
      (fun kvs s2 => wpAny M A (call (.type T) vs (((backToKw pos (keywordEach kws env)).filterMap (·.1)).zip kvs)) Q E s2) E s1) E s)
    (he : backTo pos (starEach (e :: rest) env) = (false, eval e env) :: backTo pos (starEach rest env) := by rfl)
    (hplain : (backTo pos (starEach (e :: rest) env)).any (·.1) = false := by rfl)
    (hall : (backToKw pos (keywordEach kws env)).all (·.1.isSome) = true := by rfl)
    (hkw : (backToKw pos (keywordEach kws env)).any (·.1.isNone) = false := by rfl) :
    wpAny M A (callWith pos (.type T) [] (backTo pos (starEach (e :: rest) env)) (backToKw pos (keywordEach kws env))) Q E s := by
  unfold callWith
  have hE : wpAny M A (evalArgs (.type T) true (backTo pos (starEach (e :: rest) env)) (backToKw pos (keywordEach kws env))) (fun a s1 => wpAny M A (call (.type T) ([] ++ a.pos) a.kw) Q E s1) E s := by
    rw [he] at h ⊢
    exact PyProof.Rows.evalArgs_kwB hall h
  refine wpAny_bind (wpAny_holding (wpAny_mono hE (fun a s1 g1 => wpAny_bind (wpAny_standAt ?_)) fun _ _ x => x))
  simp only [hplain, hkw, Bool.or_false]
  refine wpAny_bind (wpAny_pure ?_)
  exact wpAny_bind (wpAny_mono g1 (fun r s2 hr => wpAny_bind (wpAny_holding (wpAny_point (wpAny_pure hr)))) fun _ _ x => x)
theorem pi_enTS (hg : Gl X "enumerate") (hm : X.mg "enumerate" = none) (ha : PA X [e] ta) (hk : PK X kws tk)
    (hks : (backToKw pos (keywordEach kws X.env)).filterMap (·.1) = [("start" : Str)] := by rfl)
    (he : backTo pos (starEach [e] X.env) = (false, eval e X.env) :: backTo pos (starEach [] X.env) := by rfl)
    (hplain : (backTo pos (starEach [e] X.env)).any (·.1) = false := by rfl)
    (hall : (backToKw pos (keywordEach kws X.env)).all (·.1.isSome) = true := by rfl)
    (hkw : (backToKw pos (keywordEach kws X.env)).any (·.1.isNone) = false := by rfl) :
    PI X (.Tuple elts kk tpos) (.Call (.Name "enumerate" p) [e] kws pos) (iEnTS X.K ta tk) := by
  refine ⟨fun pins s σ G R I h => ?_⟩
  refine wpAny_Call_Name_kw (ld_blt I hg hm boot_enumerate ?_)
  refine callWith_typeK (thn (ha.run pos pins s σ G _ I h) fun us s1 ⟨vs, G1, I1, r1, q1⟩ => thn (hk.run pos pins s1 σ G1 _ I1 q1) fun ws s2 ⟨zs, G2, I2, r2, q2⟩ => ?_) he hplain hall hkw
  rw [hks]
  obtain ⟨a, xs, c, ex, ez, c0, c1, hq, q⟩ := q2
  subst ex ez
  cases r1 with
  | cons r rr =>
    cases rr
    cases r
    cases r2 with
    | cons t tt =>
      cases tt
      obtain ⟨t0, rfl⟩ := t
      obtain ⟨its, rv, p', hz⟩ := I2.tuple hq
      exact enum_begins_start (begins_tuple a its.toArray) (show s2.heap.IsTuple a its.toArray from p') c0 c1 fun h' he hit hsz hk => wpAny_pyIter_enum he (begun I2 he hit hk q)
end
theorem walk_ity {K : PySem.W.Frag} {a : Addr} {xs : List V} {c : Int} : Walk (Ity K a c) xs.length (fun G => SqT K G a xs) (YPair (fun i => some (.int (c + (i : Nat)))) (fun i => xs[i]?)) := by
  refine ⟨fun i _ hi q => ⟨xs, xs[i], q, by simp [hi]⟩, fun _ q => ⟨xs, q, Nat.le_refl _⟩, fun i G v G' _ q y => ?_⟩
  obtain ⟨t, x, h1, h2, h3, h4⟩ := y
  exact ⟨t, .int (c + (i : Nat)), x, h1, h2, h3, rfl, h4 xs q⟩
section
variable {X : Cx}
/-- sorted(d), its keys ints, any number of them -/
theorem call_sortedDA (hcalm : X.calm = true) : CallR X (.builtin "sorted") (fun xs G Q => ∃ (a : Addr) (kvs : List (Key × V)) (ks : List Int), xs = [.ref a] ∧ Rd G a (.dK kvs) ∧ kvs.map (·.1) = ks.map Sum.inl ∧
    ∀ (ys : List Int) (p : Addr), ys.Perm ks → ys.Pairwise (· ≤ ·) → G p = none → Q (.ref p) (upd G p (.lst (ys.map V.int)))) := by
  intro pins s σ G xs us Q I r q
  obtain ⟨a, kvs, ks, ex, hd, hks, q⟩ := q
  subst ex
  obtain ⟨u, eu, rx⟩ := vals1 r
  subst eu
  cases rx
  obtain ⟨z, lo, vs, rel, dd⟩ := dk_rd I.hok hd
  obtain ⟨ep, hat⟩ := dd.dictAt
  have hkeys : vs.map (·.1) = ks.map Sum.inl := rel.keys.symm.trans hks
  have hl : vs.length = ks.length := by
    have e := congrArg List.length hkeys
    rw [List.length_map, List.length_map] at e
    exact e
  have zv : vs.length ≤ sizeLine := by rw [← rel.length]; exact z
  refine Calls.call_function_entry PyProof.Rows.kind_sorted PyProof.Rows.plain_sorted PyProof.Rows.entry_sorted (PyProof.Rows.args_sorted1 _) ?_
  unfold Builtin.«sorted»
  refine wpAny_bind (m := checkCount "sorted" 1 1 _) (wpAny_pure ?_)
  refine wpAny_bind (PySem.W.kdu_collect (A := X.A.in1) (PySem.W.kdl_dict (knd := mixKind X.prog X.w) (kvs := vs) (ep := ep) lo) (I.ok.hd hcalm) hat zv fun h' tk acc hk hacc => ?_)
  have hal : acc.toList.length = ks.length := by rw [Array.length_toList, hacc.1, hl]
  have hS : IntsAre acc.toList ks := ints_each hal fun j v e => by
    obtain ⟨k, x, e1, e2⟩ := hacc.2 j v (by rw [← Array.getElem?_toList]; exact e)
    have e3 : (vs.map (·.1))[j]? = some k := by rw [List.getElem?_map, e1]; rfl
    rw [hkeys, List.getElem?_map] at e3
    cases e4 : ks[j]? with
    | none => rw [e4] at e3; cases e3
    | some y =>
      rw [e4] at e3
      have e5 : Sum.inl y = k := Option.some.inj e3
      subst e5
      rcases keyIs_shape (show keyIs (Sum.inl y) v = true from e2) with ⟨i, t, ek, ev⟩ | ⟨zz, t, ek, ev⟩
      · cases ek
        exact ⟨y, t, rfl, ev⟩
      · cases ek
  have I1 : Inv X pins σ G { s with heap := h', toks := tk } := I.kept hk
  have hsz : acc.toList.length ≤ sizeLine := by rw [hal, ← hl]; exact zv
  refine wpAny_bind (wpAny_newList ?_ hsz)
  have hoL : (h'.push (seqObj "list" acc.toList.toArray 0)).get? h'.objs.size = some (seqObj "list" acc.toList.toArray 0) := Heap.get?_push_size _ rfl
  show wpAny _ _ _ _ _ { s with heap := h'.push (seqObj "list" acc.toList.toArray 0), toks := tk }
  refine wpAny_bind (wpAny_holding (wpAny_call_entry PyProof.Rows.slot_list_sort ⟨_, hoL, rfl⟩ PyProof.Rows.entry_list_sort
    (SrtO.list_sort_ord (s := { s with heap := h'.push (seqObj "list" acc.toList.toArray 0), toks := tk }) SrtO.swo_int hoL hsz (fun h2 => SrtO.ints_sortable hS h2) fun out g1 g2 => ⟨_, rfl, ?_⟩) (PyProof.Rows.args_list_sort _)))
  obtain ⟨k1, k2, k3⟩ := SrtO.ints_out hS g1 g2
  obtain ⟨e', he'⟩ := PyProof.Rows.sortedHeap_at (vs := acc.toList) (out := out.toArray) hoL
  have hlen : ((out.map SrtO.iv).map V.int).length ≤ sizeLine := by
    rw [List.length_map, k2.length_eq, ← hal]
    exact hsz
  refine wpAny_pure ⟨_, rfl, .ref h'.objs.size, upd G h'.objs.size (.lst ((out.map SrtO.iv).map V.int)), I1.laid (t' := tk) (fun b u e => ?_) (Nat.le_refl _)
    (show ObjOk X.prog X.w _ _ _ (.lst ((out.map SrtO.iv).map V.int)) from ⟨hlen, out, e', vals_of_ints k1, he'⟩), rfl, q _ _ k2 k3 (I1.hok.fresh (Nat.le_refl _))⟩
  have hb : b < h'.objs.size := Heap.lt_size e
  rw [PyProof.Rows.sortedHeap_old (Nat.ne_of_lt hb) (by rw [size_push']; exact Nat.lt_succ_of_lt hb)]
  exact Heap.get?_push_of_some _ e
/-! ### plain tuples, whose objects are known; dict of one -/
def FzT (G : Hp) (a : Addr) (ys : List V) : Prop := ∃ ob : Obj, ob.dict = none ∧ G a = some (.frz ob (.tup ys))
theorem FzT.sq {K : PySem.W.Frag} {G : Hp} {a : Addr} {ys : List V} (h : FzT G a ys) : SqT K G a ys := by
  obtain ⟨ob, _, e⟩ := h
  exact .inl (.inr ⟨ob, e⟩)
/-- tuple(xs), xs a list -/
theorem call_tupleFz : CallR X (.type "tuple") (fun xs G Q => ∃ p ys, xs = [.ref p] ∧ SqL X.K G p ys ∧ ∀ l ob, G l = none → ob.dict = none → Q (.ref l) (upd G l (.frz ob (.tup ys)))) := by
  intro pins s σ G xs us Q I r h
  obtain ⟨p, ys, rfl, hq, q⟩ := h
  obtain ⟨u, rfl, rx⟩ := vals1 r
  cases rx
  obtain ⟨its, r', pl, hz⟩ := I.list hq
  have hlen := r'.length
  refine call_tuple_list pl.isList (fun h' kp => ?_) (by simp only [List.size_toArray] <;> omega)
  have I1 : Inv X pins σ G { s with heap := h' } := I.kept (t' := s.toks) kp
  have I2 : Inv X pins σ (upd G h'.objs.size (.frz { cls := .type "tuple", data := .seq its.toArray } (.tup ys))) { s with heap := h'.push { cls := .type "tuple", data := .seq its.toArray } } :=
    I1.laid (t' := s.toks) (fun b o e => Heap.get?_push_of_some _ e) (Nat.le_refl _) (show ObjOk X.prog X.w _ _ _ (.frz { cls := .type "tuple", data := .seq its.toArray } (.tup ys)) from ⟨Heap.get?_push_size _ rfl, hz, its, r', IsTup.new _ _⟩)
  exact ⟨.ref h'.objs.size, _, I2, rfl, q _ _ (I1.hok.fresh (Nat.le_refl _)) rfl⟩
theorem pairs_both {pins : List (Addr × Obj)} {σ : L2.St} {G : Hp} {s : Shared} (I : Inv X pins σ G s) : ∀ {ps : List Addr} {kvs : List (Key × V)}, Paired (fun p kv => SqT X.K G p [kV kv.1, kv.2]) ps kvs →
    ∃ (prs : List (Key × Value)) (ks : List (Value × Value)), KV kvs prs ∧ prs.length = ps.length ∧ ks.length = ps.length ∧
      ∀ (j : Nat) (k v : Value), ks[j]? = some (k, v) → ∃ (b : Addr) (y : Key), ps[j]? = some b ∧ IsTup s.heap b #[k, v] ∧ prs[j]? = some (y, v) ∧ keyIs y k = true
  | _, _, .nil => ⟨[], [], .nil, rfl, rfl, fun j _ _ e => by simp at e⟩
  | _, _, .cons (a := p) (b := kv) h t => by
    obtain ⟨prs, ks, rr, l1, l2, hp⟩ := pairs_both I t
    obtain ⟨its, rv, ht, _⟩ := I.tuple h
    obtain ⟨u, y, ei, ru, ry⟩ := vals2 rv
    subst ei
    refine ⟨(kv.1, y) :: prs, (u, y) :: ks, .cons ⟨rfl, ry⟩ rr, by rw [List.length_cons, List.length_cons, l1], by rw [List.length_cons, List.length_cons, l2], fun j k v e => ?_⟩
    cases j with
    | zero =>
      have e' : (u, y) = (k, v) := Option.some.inj e
      cases e'
      exact ⟨p, kv.1, rfl, ht, rfl, kV_is (P := X.prog) (w := X.w) ru⟩
    | succ j =>
      obtain ⟨b, z, e1, e2, e3, e4⟩ := hp j k v (by simpa using e)
      exact ⟨b, z, by simpa using e1, e2, by simpa using e3, e4⟩
/-- dict(t), t a plain tuple of pairs -/
theorem call_dictFz (hcalm : X.calm = true) : CallR X (.type "dict") (fun xs G Q => ∃ (a : Addr) (ps : List Addr) (kvs : List (Key × V)), xs = [.ref a] ∧ FzT G a (ps.map V.ref) ∧ Paired (fun p kv => SqT X.K G p [kV kv.1, kv.2]) ps kvs ∧
    ∀ p, G p = none → Q (.ref p) (upd G p (.dK (mergeK [] kvs)))) := by
  intro pins s σ G xs us Q I r q
  obtain ⟨a, ps, kvs, rfl, ⟨ob, od, ha⟩, hp, q⟩ := q
  obtain ⟨u, rfl, rx⟩ := vals1 r
  cases rx
  obtain ⟨hget, hz, its, rv, o2, g1, g2, n, g3⟩ := (show ObjOk X.prog X.w G s.heap a (.frz ob (.tup (ps.map V.ref))) from I.hok a _ ha)
  rw [hget] at g1
  cases g1
  have ei := refs_at rv
  subst ei
  rw [List.length_map] at hz
  obtain ⟨prs, ks, rel, l1, l2, hpr⟩ := pairs_both I hp
  have ok : PlainSeq "tuple" s.heap a (ps.map Value.ref).toArray ∧ PairItems s.heap (ps.map Value.ref).toArray (fun j => ps.getD j 0) ks := by
    refine ⟨⟨ob, n, hget, g2, od, g3⟩, by simp [l2], fun j k v e => ?_⟩
    obtain ⟨b, y, e1, e2, e3, e4⟩ := hpr j k v e
    have eb : ps.getD j 0 = b := by
      rw [List.getD_eq_getElem?_getD, e1]
      rfl
    show _ = some (Value.ref (ps.getD j 0)) ∧ PairAt s.heap (ps.getD j 0) k v
    rw [eb]
    exact ⟨by simp [e1], .inl e2⟩
  refine PySem.call_dict_pairs (knd := mixKind X.prog X.w) (kvs := prs) (PairArg.tuple a _ (fun j => ps.getD j 0) ks) (I.ok.hd hcalm) ok ⟨by rw [l1, l2], fun j k v e => ?_⟩ (by rw [l2]; exact hz) fun h' tk hd' kk => ?_
  · obtain ⟨b, y, e1, e2, e3, e4⟩ := hpr j k v e
    exact ⟨y, e3, e4⟩
  · have hm : (s.heap.objs.size == sysModules) = false := beq_eq_false_iff_ne.mpr (Nat.ne_of_gt I.big)
    have hlen : (mergeK [] kvs).length ≤ sizeLine := by
      refine Nat.le_trans (length_mergeK kvs []) ?_
      rw [List.length_nil, Nat.zero_add, rel.length, l1]
      exact hz
    exact ⟨.ref s.heap.objs.size, upd G s.heap.objs.size (.dK (mergeK [] kvs)), I.laid (t' := tk) (fun b o e => kk b o (fun z => nomatch z) e) (Nat.le_refl _) (show ObjOk X.prog X.w _ _ _ (.dK (mergeK [] kvs)) from ⟨hlen, hm, merged [] prs, KV.merge rel .nil, hd'⟩), rfl, q _ (I.hok.fresh (Nat.le_refl _))⟩
end
end KD
set_option maxRecDepth 100000
set_option maxHeartbeats 4000000
/-! A range that is kept, walked; a comprehension of two clauses. -/
namespace KU
open PySem PySem.Spec PyProof.Rows L2
def iRngV (te : TE) : TI := fun σ H R => te σ H fun x H1 => ∃ (a : Addr) (lo hi : Int), x = .ref a ∧ H1 a = some (.rng lo hi) ∧ (-(2 ^ 62) ≤ lo ∧ lo < 2 ^ 62 ∧ -(2 ^ 62) ≤ hi ∧ hi < 2 ^ 62) ∧ R (Itr lo (hi - lo).toNat) H1
theorem pi_rngV {X : Cx} {tg e : Expr} {te : TE} (he : PE X e te) : PI X tg e (iRngV te) := by
  refine ⟨fun pn st σ' H0 R J h => ?_⟩
  refine thn (he.run pn st σ' H0 _ J h) fun v s1 ⟨x, H1, J1, rl, asks⟩ => ?_
  obtain ⟨a, lo, hi, ex, hrg, ⟨b1, b2, b3, b4⟩, q⟩ := asks
  subst ex
  cases rl
  obtain ⟨t, u, v, hget⟩ := J1.hok a _ hrg
  refine wpAny_pyIter_range (a := lo) (b := hi) (c := 1) (t := t) (u := u) (v := v) hget (small_one b1 b2 b3 b4) ?_
  refine ⟨s1.heap.objs.size, [s1.heap.objs.size], _, _, H1, rfl, J1.kept (t' := s1.toks) (fun c o g => Heap.get?_push_of_some _ g), turn_range _ lo (hi - lo).toNat, ?_, fun c hc => ?_, q⟩
  · have g1 : lo + ((0 : Nat) : Int) * 1 = lo := by simp
    have g2 : (((hi - lo).toNat : Nat) : Int) - ((0 : Nat) : Int) = Builtin.Range.rangeSize lo hi 1 := by rw [rangeSize_one]; split <;> omega
    show IsRangeIter _ _ (lo + ((0 : Nat) : Int) * 1) ((((hi - lo).toNat : Nat) : Int) - ((0 : Nat) : Int)) 1
    rw [g1, g2]
    exact (Heap.get?_push_size _ rfl)
  · have g : c = s1.heap.objs.size := by simpa using hc
    subst g
    exact (J1.fpOk (Nat.le_refl _) (J1.hok.fresh (Nat.le_refl _)))
/-- the inner loop of a comprehension of two clauses -/
theorem lc_in {J : It} {n : Nat} {G : Hp → Prop} {Y : Nat → Hp → V → Hp → Prop} (wk : Walk J n G Y) {g : TG} {tt : TT} {te : TE} {vs : List Nat} {σ : L2.St} {H1 : Hp} {D : Addr} {Qd : Hp → Prop} (Pv : Nat → Hp → Prop) (h0 : Pv 0 H1) (hG : ∀ i H, i ≤ n → Pv i H → G H)
    (hs : ∀ i x H H', i < n → Pv i H → Y i H x H' → g x (wipe σ vs) H' fun σ2 H2 => wipe σ2 vs = wipe σ vs ∧ tt σ2 H2 fun b H3 =>
      if b = true then te σ2 H3 fun y H4 => ∃ acc, H4 D = some (.lst acc) ∧ acc.length < sizeLine ∧ Pv (i + 1) (upd H4 D (.lst (acc ++ [y]))) else Pv (i + 1) H3) (hd : ∀ H, Pv n H → Qd H) :
    ∃ W : Nat → Nat → Hp → Prop, (∃ m, W 0 m H1) ∧ ∀ i m H, W i m H →
      (J.stop i H ∧ Qd H) ∨ (J.go i H ∧ ∃ Nx : Hp → Prop, (∀ H', Nx H' → ∃ m', m' < m ∧ W (i + 1) m' H') ∧ ∀ x H', J.yld i H x H' → g x (wipe σ vs) H' fun σ2 H2 => wipe σ2 vs = wipe σ vs ∧ tt σ2 H2 fun b H3 =>
        if b = true then te σ2 H3 fun y H4 => ∃ acc, H4 D = some (.lst acc) ∧ acc.length < sizeLine ∧ Nx (upd H4 D (.lst (acc ++ [y]))) else Nx H3) := by
  refine ⟨fun i m H => m = n - i ∧ (i ≤ n ∧ Pv i H), ⟨n - 0, rfl, Nat.zero_le _, h0⟩, fun i m H hW => ?_⟩
  obtain ⟨rfl, hi, pv⟩ := hW
  rcases Nat.lt_or_ge i n with hlt | hge
  · exact .inr ⟨wk.goes i H hlt (hG i H hi pv), Pv (i + 1), fun H' p' => ⟨n - (i + 1), by omega, rfl, hlt, p'⟩, fun x H' y => hs i x H H' hlt pv (wk.yields i H x H' hlt (hG i H hi pv) y)⟩
  · obtain rfl : i = n := by omega
    exact .inl ⟨wk.stops H (hG i H hi pv), hd H pv⟩
/-- the outer one, told from what the body asks -/
theorem lc_out {J : It} {n : Nat} {G : Hp → Prop} {Y : Nat → Hp → V → Hp → Prop} (wk : Walk J n G Y) {H1 : Hp} {Qd : Hp → Prop} {B : (Hp → Prop) → V → Hp → Prop} (Pv : Nat → Hp → Prop) (h0 : Pv 0 H1) (hG : ∀ i H, i ≤ n → Pv i H → G H)
    (hs : ∀ i x H H', i < n → Pv i H → Y i H x H' → B (Pv (i + 1)) x H') (hd : ∀ H, Pv n H → Qd H) :
    ∃ W : Nat → Nat → Hp → Prop, (∃ m, W 0 m H1) ∧ ∀ i m H, W i m H → (J.stop i H ∧ Qd H) ∨ (J.go i H ∧ ∃ Nx : Hp → Prop, (∀ H', Nx H' → ∃ m', m' < m ∧ W (i + 1) m' H') ∧ ∀ x H', J.yld i H x H' → B Nx x H') := by
  refine ⟨fun i m H => m = n - i ∧ (i ≤ n ∧ Pv i H), ⟨n - 0, rfl, Nat.zero_le _, h0⟩, fun i m H hW => ?_⟩
  obtain ⟨rfl, hi, pv⟩ := hW
  rcases Nat.lt_or_ge i n with hlt | hge
  · exact .inr ⟨wk.goes i H hlt (hG i H hi pv), Pv (i + 1), fun H' p' => ⟨n - (i + 1), by omega, rfl, hlt, p'⟩, fun x H' y => hs i x H H' hlt pv (wk.yields i H x H' hlt (hG i H hi pv) y)⟩
  · obtain rfl : i = n := by omega
    exact .inl ⟨wk.stops H (hG i H hi pv), hd H pv⟩
end KU
set_option maxRecDepth 100000
set_option maxHeartbeats 4000000
/-! xs[i] += e; the draws. -/
namespace KP
open PySem PySem.Spec PyProof.Rows L2
section
variable {X : Cx}
def rIxN (K : PySem.W.Frag) : V → V → Hp → VK → Prop := fun x y H Q => ∃ (a : Addr) (xs : List V) (j : Nat) (z : V), x = .ref a ∧ y = .int (j : Int) ∧ SqL K H a xs ∧ xs[j]? = some z ∧ Q z H
theorem get_list : PGet X (rIxN X.K) := by
  intro pn st σ' H1 x y vx vy Q1 J rel1 rel2 asks
  obtain ⟨a, xs, j, z, rfl, rfl, sq, hat, q⟩ := asks
  cases rel1
  obtain ⟨tk, rfl⟩ := rel2
  obtain ⟨its, rl, il, hsz⟩ := J.list sq
  have hj : j < xs.length := (List.getElem?_eq_some_iff.mp hat).1
  obtain ⟨u, hu, ru⟩ := rl.get hat
  have hl := rl.length
  have big := line63
  exact wpAny_getItem_list il.isList (Int.natCast_nonneg j) (by omega) (by rw [Int.toNat_natCast]; simpa using hu) ⟨z, H1, J, ru, q⟩
end
end KP
namespace K27
open PySem PySem.Spec PyProof.Rows L2 KF KD KP
theorem seq_cut {a b : TS} {D : Ends} {σ : L2.St} {H : Hp} (Pv : L2.St → Hp → Prop) (hb : ∀ σ' H', Pv σ' H' → b D σ' H') (ha : ∀ R : L2.St → Hp → Prop, (∀ σ' H', Pv σ' H' → R σ' H') → a { D with nx := R } σ H) : tSeq a b D σ H := ha _ hb
theorem at0 {x : V} {xs : List V} : atI (x :: xs) 0 = some x := atI_nat (j := 0) rfl
theorem at1 {x y : V} {xs : List V} : atI (x :: y :: xs) 1 = some y := atI_nat (j := 1) rfl
theorem at2 {x y z : V} {xs : List V} : atI (x :: y :: z :: xs) 2 = some z := atI_nat (j := 2) rfl
/-- the pot of draws at d -/
def Pot (H : Hp) (d : Addr) : Prop := ∃ (r m i : Int) (cs : List Int), H d = some (.lst (.int r :: .int m :: .int i :: cs.map V.int)) ∧ 0 ≤ r ∧ 0 ≤ m ∧ m < 2147483647 ∧ 3 ≤ i ∧ i ≤ 100 ∧ cs.length ≤ 63
theorem Pot.lst {H : Hp} {d : Addr} (h : Pot H d) : ∃ xs, H d = some (.lst xs) := by
  obtain ⟨_, _, _, _, h, _⟩ := h
  exact ⟨_, h⟩
theorem Pot.keep {H H' : Hp} {d : Addr} (h : Pot H d) (e : H' d = H d) : Pot H' d := by
  obtain ⟨r, m, i, cs, h0, h1⟩ := h
  exact ⟨r, m, i, cs, by rw [e]; exact h0, h1⟩
theorem Pot.same {H H' : Hp} {d : Addr} (h : Pot H d) (e : Same H H') : Pot H' d := by
  obtain ⟨r, m, i, cs, h0, h1⟩ := h
  exact ⟨r, m, i, cs, e _ _ h0, h1⟩
section
variable {P : Program} {w : World} {K : PySem.W.Frag} {mg : Str → Option Value} {base : Heap}
def spTake : Sp := fun vs H Q _ => ∃ (d : Addr) (m : Int), vs = [.ref d, .int m] ∧ 0 < m ∧ m < 1000000000000 ∧ Pot H d ∧ ∀ (x : Int) H', 0 ≤ x → x < m → Frm d H H' → Pot H' d → Q (.int x) H'
theorem scT : FnScope ["pot", "many", "cell", "mixed", "found"] ["pot", "many"] (defScope s_law_take) := ⟨rfl, rfl, rfl, by decide +kernel, rfl, by decide +kernel, by decide +kernel⟩
theorem ok_law_take (T : Txt K w mg) : FnOk P w K mg base CX0 1 (He.fAd K ("_law_take", none)) (fdAt K (He.fAd K ("_law_take", none))) ["pot", "many"] spTake := by
  refine T.F_law_take.ok scT (fun vs H Q E h => ?_) (fun cdv A outer s H vs Q E hr h => ?_)
  · obtain ⟨d, m, rfl, _⟩ := h
    rfl
  · obtain ⟨d, m, rfl, hm0, hm1, hp, k⟩ := h
    refine ⟨_, PSs.nox (pss_cons (ps_if (PW.pt (pw_and (pt_cmpR op_eq (pe_ix (r := rIxL K) ix_list (pv 0) pe_int (fun _ _ => rfl)) pe_int (nomark _)) (pw_and1 (pt_cmpR op_lt (pe_ix (r := rIxL K) ix_list (pv 0) pe_int (fun _ _ => rfl)) (pe_callB (r := Evl.rLenS K) call_len_seq (by rfl) T.n_len PyProof.Rows.Boot.«len» (pa_cons (pv 0) pa_nil)) (nomark _))))) (pss_cons (ps_set (i := 2) scT.nd rfl (Or.inl rfl) (pe_ix (r := rIxL K) ix_list (pv 0) (pe_ix (r := rIxL K) ix_list (pv 0) pe_int (fun _ _ => rfl)) (fun _ _ => rfl)))
      (pss_cons (ps_augS (pv 0) pe_int KP.get_list pe_int ip_add set_list)
      (pss_one (ps_if (pt_cmpR op_ge (pv 2) (pe_op op_pow pe_int pe_int) (nomark _)) (pss_one (ps_asg (pe_op op_sub (pv 2) (pe_op op_pow pe_int pe_int)) (pg_sub (pv 0) pe_int set_list))) (pss_cons (ps_set (i := 3) scT.nd rfl (Or.inl rfl) (pe_op op_mod (pe_callTy call_int1 (by rfl) T.n_int PyProof.Rows.Boot.«int» (pa_cons (pv 2) pa_nil)) pe_int))
      (pss_cons (ps_set (i := 3) scT.nd rfl (Or.inl rfl) (pe_op op_mod (pe_callTy call_int1 (by rfl) T.n_int PyProof.Rows.Boot.«int» (pa_cons (pe_op op_add (pe_op op_add (pe_op op_mulW (pv 3) (pv 3)) (pe_op op_mulW pe_int (pv 3))) (pe_op op_mulW pe_int (pe_ix (r := rIxL K) ix_list (pv 0) pe_int (fun _ _ => rfl)))) pa_nil)) pe_int))
      (pss_one (ps_asg (pe_op op_mod (pe_callTy call_int1 (by rfl) T.n_int PyProof.Rows.Boot.«int» (pa_cons (pe_op op_add (pe_ix (r := rIxL K) ix_list (pv 0) pe_int (fun _ _ => rfl)) (pv 3)) pa_nil)) pe_int) (pg_sub (pv 0) pe_int set_list))))))))) pss_nil)
      (pss_cons (ps_if (pt_cmpR op_gt (pe_ix (r := rIxL K) ix_list (pv 0) pe_int (fun _ _ => rfl)) pe_int (nomark _)) (pss_cons (ps_set (i := 4) scT.nd rfl (Or.inl rfl) (pe_op op_mod (pe_callTy call_int1 (by rfl) T.n_int PyProof.Rows.Boot.«int» (pa_cons (pe_ix (r := rIxL K) ix_list (pv 0) pe_int (fun _ _ => rfl)) pa_nil)) (pv 1)))
      (pss_cons (ps_asg (pe_op op_fdivW (pe_ix (r := rIxL K) ix_list (pv 0) pe_int (fun _ _ => rfl)) (pv 1)) (pg_sub (pv 0) pe_int set_list))
      (pss_one (ps_ret (pv 4))))) pss_nil)
      (pss_cons (ps_asg (pe_op op_mod (pe_callTy call_int1 (by rfl) T.n_int PyProof.Rows.Boot.«int» (pa_cons (pe_op op_add (pe_op op_add (pe_op op_mulW (pe_ix (r := rIxL K) ix_list (pv 0) pe_int (fun _ _ => rfl)) pe_int) (pe_op op_mulW pe_int (pe_ix (r := rIxL K) ix_list (pv 0) pe_int (fun _ _ => rfl)))) pe_int) pa_nil)) pe_int) (pg_sub (pv 0) pe_int set_list))
      (pss_cons (ps_asg (pe_op op_mod (pe_callTy call_int1 (by rfl) T.n_int PyProof.Rows.Boot.«int» (pa_cons (pe_op op_add (pe_op op_mulW (pe_ix (r := rIxL K) ix_list (pv 0) pe_int (fun _ _ => rfl)) (pe_ix (r := rIxL K) ix_list (pv 0) pe_int (fun _ _ => rfl))) pe_int) pa_nil)) pe_int) (pg_sub (pv 0) pe_int set_list))
      (pss_one (ps_ret (pe_op op_mod (pe_callTy call_int1 (by rfl) T.n_int PyProof.Rows.Boot.«int» (pa_cons (pe_op op_fdivW (pe_ix (r := rIxL K) ix_list (pv 0) pe_int (fun _ _ => rfl)) pe_int) pa_nil)) (pv 1)))))))), ?_⟩
    obtain ⟨r, mm, i, cs, hd, r0, m0, m1, i3, i100, hcs⟩ := hp
    have hW : CDivW 0 m := wide_div hm0 (small_ab (n := 40) (by omega) (by rw [pow40]; omega)) (by decide) (by decide)
    have z3 : ∀ (a b c : V) (xs : List V), ixN (a :: b :: c :: xs).length 0 = some 0 ∧ ixN (a :: b :: c :: xs).length 1 = some 1 ∧ ixN (a :: b :: c :: xs).length 2 = some 2 := fun a b c xs => by
      have h1 : (0 : Int) < (xs.length : Int) + 1 + 1 + 1 := by omega
      have h2 : (1 : Int) < (xs.length : Int) + 1 + 1 + 1 := by omega
      have h3 : (2 : Int) < (xs.length : Int) + 1 + 1 + 1 := by omega
      simp [ixN, h1, h2, h3]
    have sm : ∀ {x : Int}, 0 ≤ x → x < 2147483647 → x.natAbs < 2 ^ 40 := fun a b => small_ab a (by rw [pow40]; omega)
    refine seq_cut (fun σ' H' => ∃ (v2 v3 : Option V), σ' = [some (.ref d), some (.int m), v2, v3, none] ∧ Frm d H H' ∧ Pot H' d) (fun σ' H1 hP => ?_) (fun R hR => ?_)
    rotate_left
    · have keep := hR _ _ ⟨none, none, rfl, Frm.refl _ _, ⟨r, mm, i, cs, hd, r0, m0, m1, i3, i100, hcs⟩⟩
      refine ⟨_, rfl, d, _, _, _, rfl, rfl, SqL.of hd, at0, rfl, _, rfl, ite2 (fun _ => ?_) (fun _ => keep)⟩
      refine ⟨_, rfl, d, _, _, _, rfl, rfl, SqL.of hd, at2, _, rfl, d, _, rfl, .inl (SqL.of hd), _, _, rfl, rfl, _, rfl, ite2 (fun z => ?_) (fun _ => keep)⟩
      have hlt := of_decide_eq_true z
      rw [List.length_cons, List.length_cons, List.length_cons, List.length_map] at hlt
      obtain ⟨j, rfl⟩ : ∃ j : Nat, i = ((j + 3 : Nat) : Int) := ⟨(i - 3).toNat, by omega⟩
      have hj : j < cs.length := by omega
      obtain ⟨c, hc⟩ : ∃ c, c = cs[j] := ⟨_, rfl⟩
      have hat : (V.int r :: V.int mm :: V.int ((j + 3 : Nat) : Int) :: cs.map V.int)[j + 3]? = some (.int c) := by
        rw [List.getElem?_cons_succ, List.getElem?_cons_succ, List.getElem?_cons_succ, List.getElem?_map, List.getElem?_eq_getElem hj, hc]
        rfl
      refine ⟨_, rfl, _, rfl, d, _, _, _, rfl, rfl, SqL.of hd, at2, d, _, _, _, rfl, rfl, SqL.of hd, atI_nat hat, ?_⟩
      refine ⟨_, rfl, d, _, 2, _, rfl, rfl, SqL.of hd, rfl, _, _, rfl, rfl, d, _, 2, 2, rfl, rfl, hd, (z3 _ _ _ _).2.2, ?_⟩
      obtain ⟨i2, hi2⟩ : ∃ i2 : Int, i2 = ((j + 3 : Nat) : Int) + 1 := ⟨_, rfl⟩
      have hd2 : (upd H d (.lst (V.int r :: V.int mm :: V.int i2 :: cs.map V.int))) d = some (.lst (V.int r :: V.int mm :: V.int i2 :: cs.map V.int)) := upd_same
      dsimp only [List.set_cons_succ, List.set_cons_zero]
      rw [← hi2]
      have f2 : Frm d H (upd H d (.lst (V.int r :: V.int mm :: V.int i2 :: cs.map V.int))) := Frm.of_upd
      generalize upd H d (.lst (V.int r :: V.int mm :: V.int i2 :: cs.map V.int)) = H2 at hd2 f2 ⊢
      have hp18 : (10 : Int) ^ (18 : Int).toNat = 1000000000000000000 := by decide
      refine ⟨_, rfl, _, _, rfl, rfl, ⟨by decide, by decide, by decide⟩, _, _, rfl, rfl, _, rfl, ite2 (fun z => ?_) (fun z => ?_)⟩
      · have z := of_decide_eq_true z
        refine ⟨_, rfl, _, _, rfl, rfl, ⟨by decide, by decide, by decide⟩, _, _, rfl, rfl, _, rfl, d, _, 0, 0, rfl, rfl, hd2, (z3 _ _ _ _).1, ?_⟩
        exact hR _ _ ⟨_, _, rfl, f2.trans Frm.of_upd, ⟨_, mm, i2, cs, upd_same, by omega, m0, m1, by omega, by omega, hcs⟩⟩
      · refine ⟨_, rfl, .inl ⟨_, rfl, _, _, rfl, rfl, (show (0 : Int) < 2147483647 by decide), ?_⟩⟩
        have x0 := Int.emod_nonneg c (show (2147483647 : Int) ≠ 0 by decide)
        have x1 := Int.emod_lt_of_pos c (show (0 : Int) < 2147483647 by decide)
        obtain ⟨x, hx⟩ : ∃ x, x = c % 2147483647 := ⟨_, rfl⟩
        rw [← hx] at x0 x1
        show tSeq _ _ _ (List.set _ 3 (some (V.int (c % 2147483647)))) _
        rw [← hx]
        refine ⟨_, rfl, _, rfl, _, _, rfl, rfl, wide_mul (sm x0 x1) (sm x0 x1) (by decide) (by decide) (by decide), _, rfl, _, _, rfl, rfl, wide_mul (a := 40) (by decide) (sm x0 x1) (by decide) (by decide) (by decide), _, _, rfl, rfl, _, rfl, d, _, _, _, rfl, rfl, SqL.of hd2, at2, _, _, rfl, rfl, wide_mul (a := 40) (b := 40) (by decide) (sm (by omega) (by omega)) (by decide) (by decide) (by decide), _, _, rfl, rfl, .inl ⟨_, rfl, _, _, rfl, rfl, (show (0 : Int) < 2147483629 by decide), ?_⟩⟩
        obtain ⟨x2, hx2⟩ : ∃ x2, x2 = (x * x + 69621 * x + 977 * i2) % 2147483629 := ⟨_, rfl⟩
        dsimp only [gName]
        rw [← hx2]
        refine ⟨_, rfl, d, _, _, _, rfl, rfl, SqL.of hd2, at1, _, rfl, _, _, rfl, rfl, .inl ⟨_, rfl, _, _, rfl, rfl, (show (0 : Int) < 2147483629 by decide), _, rfl, d, _, 1, 1, rfl, rfl, hd2, (z3 _ _ _ _).2.1, ?_⟩⟩
        have e1 := Int.emod_nonneg (mm + x2) (show (2147483629 : Int) ≠ 0 by decide)
        have e2 := Int.emod_lt_of_pos (mm + x2) (show (0 : Int) < 2147483629 by decide)
        exact hR _ _ ⟨_, _, rfl, f2.trans Frm.of_upd, ⟨r, _, i2, cs, upd_same, r0, e1, by omega, by omega, by omega, hcs⟩⟩
    obtain ⟨v2, v3, rfl, f1, hp1⟩ := hP
    clear hd r0 m0 m1 i3 i100 hcs
    obtain ⟨r, mm, i, cs, hd, r0, m0, m1, i3, i100, hcs⟩ := hp1
    have em0 : ∀ z : Int, 0 ≤ z % m := fun z => Int.emod_nonneg _ (by omega)
    have em1 : ∀ z : Int, z % m < m := fun z => Int.emod_lt_of_pos _ hm0
    refine ⟨_, rfl, d, _, _, _, rfl, rfl, SqL.of hd, at0, _, _, rfl, rfl, _, rfl, ite2 (fun z => ?_) (fun z => ?_)⟩
    · have z := of_decide_eq_true z
      refine ⟨_, rfl, d, _, _, _, rfl, rfl, SqL.of hd, at0, .inl ⟨_, rfl, _, rfl, _, _, rfl, rfl, hm0, ?_⟩⟩
      refine ⟨_, rfl, d, _, _, _, rfl, rfl, SqL.of hd, at0, _, rfl, _, _, rfl, rfl, hW, _, rfl, d, _, 0, 0, rfl, rfl, hd, (z3 _ _ _ _).1, _, rfl, ?_⟩
      exact k _ _ (em0 _) (em1 _) (f1.trans Frm.of_upd) ⟨_, mm, i, cs, upd_same, Int.ediv_nonneg r0 (by omega), m0, m1, i3, i100, hcs⟩
    · refine ⟨_, rfl, d, _, _, _, rfl, rfl, SqL.of hd, at1, _, _, rfl, rfl, wide_mul (b := 40) (sm m0 m1) (by decide) (by decide) (by decide) (by decide), _, rfl, d, _, _, _, rfl, rfl, SqL.of hd, at2, _, _, rfl, rfl, wide_mul (a := 40) (b := 40) (by decide) (sm (by omega) (by omega)) (by decide) (by decide) (by decide), _, _, rfl, rfl, _, _, rfl, rfl, .inl ⟨_, rfl, _, _, rfl, rfl, (show (0 : Int) < 2147483647 by decide), _, rfl, d, _, 1, 1, rfl, rfl, hd, (z3 _ _ _ _).2.1, ?_⟩⟩
      have e1 := Int.emod_nonneg (mm * 48271 + 40692 * i + 11) (show (2147483647 : Int) ≠ 0 by decide)
      have e2 := Int.emod_lt_of_pos (mm * 48271 + 40692 * i + 11) (show (0 : Int) < 2147483647 by decide)
      obtain ⟨x, hx⟩ : ∃ x, x = (mm * 48271 + 40692 * i + 11) % 2147483647 := ⟨_, rfl⟩
      rw [← hx] at e1 e2
      have hd2 : (upd H1 d (.lst (V.int r :: V.int x :: V.int i :: cs.map V.int))) d = some (.lst (V.int r :: V.int x :: V.int i :: cs.map V.int)) := upd_same
      show tSeq _ _ _ _ (upd H1 d (.lst (V.int r :: V.int ((mm * 48271 + 40692 * i + 11) % 2147483647) :: V.int i :: cs.map V.int)))
      rw [← hx]
      have f2 : Frm d H1 (upd H1 d (.lst (V.int r :: V.int x :: V.int i :: cs.map V.int))) := Frm.of_upd
      generalize upd H1 d (.lst (V.int r :: V.int x :: V.int i :: cs.map V.int)) = H2 at hd2 f2 ⊢
      refine ⟨_, rfl, d, _, _, _, rfl, rfl, SqL.of hd2, at1, _, rfl, d, _, _, _, rfl, rfl, SqL.of hd2, at1, _, _, rfl, rfl, wide_mul (sm e1 e2) (sm e1 e2) (by decide) (by decide) (by decide), _, _, rfl, rfl, .inl ⟨_, rfl, _, _, rfl, rfl, (show (0 : Int) < 2147483629 by decide), _, rfl, d, _, 1, 1, rfl, rfl, hd2, (z3 _ _ _ _).2.1, ?_⟩⟩
      have g1 := Int.emod_nonneg (x * x + 7) (show (2147483629 : Int) ≠ 0 by decide)
      have g2 := Int.emod_lt_of_pos (x * x + 7) (show (0 : Int) < 2147483629 by decide)
      obtain ⟨y, hy⟩ : ∃ y, y = (x * x + 7) % 2147483629 := ⟨_, rfl⟩
      rw [← hy] at g1 g2
      have hd3 : (upd H2 d (.lst (V.int r :: V.int y :: V.int i :: cs.map V.int))) d = some (.lst (V.int r :: V.int y :: V.int i :: cs.map V.int)) := upd_same
      dsimp only [List.set_cons_succ, List.set_cons_zero]
      rw [← hy]
      have f3 : Frm d H2 (upd H2 d (.lst (V.int r :: V.int y :: V.int i :: cs.map V.int))) := Frm.of_upd
      generalize upd H2 d (.lst (V.int r :: V.int y :: V.int i :: cs.map V.int)) = H3 at hd3 f3 ⊢
      refine ⟨_, rfl, d, _, _, _, rfl, rfl, SqL.of hd3, at1, _, _, rfl, rfl, wide_div (b := 10) (by decide) (by decide) (by decide) (by decide), .inl ⟨_, rfl, _, rfl, _, _, rfl, rfl, hm0, ?_⟩⟩
      exact k _ _ (em0 _) (em1 _) (f1.trans (f2.trans f3)) ⟨r, y, i, cs, hd3, r0, g1, by omega, i3, i100, hcs⟩
end
end K27
set_option maxRecDepth 100000
set_option maxHeartbeats 4000000
/-! Boxes, kinds, the floor. -/
namespace K27
open PySem PySem.Spec PyProof.Rows L2 KF KD KP
/-! ### what a comprehension gathers -/
def Acc (H0 : Hp) (D : Addr) (l : List V) (H : Hp) : Prop := Same H0 H ∧ H D = some (.lst l)
def fl {α : Type} (p : List α) (q : α → Bool) (f : α → V) (i : Nat) : List V := ((p.take i).filter q).map f
theorem fl_len {α : Type} (p : List α) (q : α → Bool) (f : α → V) (i : Nat) : (fl p q f i).length ≤ p.length := by
  unfold fl
  rw [List.length_map]
  exact Nat.le_trans (List.length_filter_le _ _) (by rw [List.length_take]; omega)
theorem fl_yes {α : Type} {p : List α} {q : α → Bool} {f : α → V} {i : Nat} {x : α} (hx : p[i]? = some x) (hq : q x = true) : fl p q f (i + 1) = fl p q f i ++ [f x] := by
  unfold fl
  rw [List.take_add_one, hx, List.filter_append, List.map_append]
  simp [hq]
theorem fl_no {α : Type} {p : List α} {q : α → Bool} {f : α → V} {i : Nat} {x : α} (hx : p[i]? = some x) (hq : q x = false) : fl p q f (i + 1) = fl p q f i := by
  unfold fl
  rw [List.take_add_one, hx, List.filter_append, List.map_append]
  simp [hq]
theorem fl_all {α : Type} (p : List α) (q : α → Bool) (f : α → V) : fl p q f p.length = (p.filter q).map f := by
  unfold fl
  rw [List.take_length]
theorem fl_every {α : Type} (p : List α) (f : α → V) : fl p (fun _ => true) f p.length = p.map f := by
  rw [fl_all, List.filter_eq_self.mpr (fun _ _ => rfl)]
theorem fl_rng (n : Nat) (f : Nat → V) : fl (List.range n) (fun _ => true) f n = (List.range n).map f := by
  have h := fl_every (List.range n) f
  rwa [List.length_range] at h
theorem fl_rngq (n : Nat) (q : Nat → Bool) (f : Nat → V) : fl (List.range n) q f n = ((List.range n).filter q).map f := by
  have h := fl_all (List.range n) q f
  rwa [List.length_range] at h
theorem acc_yes {α : Type} {p : List α} {q : α → Bool} {f : α → V} {i : Nat} {x : α} {H0 H H4 : Hp} {D : Addr} (hD : H0 D = none) (h : Acc H0 D (fl p q f i) H) (s : Same H H4) (hx : p[i]? = some x) (hq : q x = true) (hp : p.length ≤ 1000) :
    ∃ acc, H4 D = some (.lst acc) ∧ acc.length < sizeLine ∧ Acc H0 D (fl p q f (i + 1)) (upd H4 D (.lst (acc ++ [f x]))) := by
  refine ⟨_, s _ _ h.2, Nat.lt_of_le_of_lt (fl_len _ _ _ _) (Nat.lt_of_le_of_lt hp (by decide)), fun b o z => ?_, ?_⟩
  · rw [upd_ne (ne_of_none z hD)]
    exact s _ _ (h.1 _ _ z)
  · rw [upd_same, fl_yes hx hq]
theorem acc_no {α : Type} {p : List α} {q : α → Bool} {f : α → V} {i : Nat} {x : α} {H0 H H4 : Hp} {D : Addr} (h : Acc H0 D (fl p q f i) H) (s : Same H H4) (hx : p[i]? = some x) (hq : q x = false) : Acc H0 D (fl p q f (i + 1)) H4 := by
  rw [Acc, fl_no hx hq]
  exact ⟨h.1.trans s, s _ _ h.2⟩
theorem acc_0 {α : Type} {p : List α} {q : α → Bool} {f : α → V} {H0 : Hp} {D : Addr} (hD : H0 D = none) : Acc H0 D (fl p q f 0) (upd H0 D (.lst [])) := ⟨new_same hD, upd_same⟩
theorem rng_at {n i : Nat} (h : i < n) : (List.range n)[i]? = some i := by simp [h]
theorem walk_r0 {n : Nat} : Walk (Itr 0 n) n (fun _ => True) (YFn fun i => .int ((i : Nat) : Int)) := by
  have h := walk_range (lo := 0) (n := n)
  simpa [Int.zero_add] using h
/-! ### what is drawn -/
structure Bx where
  x : Int
  y : Int
  w : Int
  h : Int
def Bx.vs (b : Bx) : List V := [.int b.x, .int b.y, .int b.w, .int b.h]
def BxAt (K : PySem.W.Frag) (H : Hp) (v : V) (b : Bx) : Prop := ∃ a, v = .ref a ∧ SqT K H a b.vs
theorem BxAt.tf {K : PySem.W.Frag} {H H' : Hp} {v : V} {b : Bx} (h : BxAt K H v b) (t : TF H H') : BxAt K H' v b := by
  obtain ⟨a, h1, h2⟩ := h
  exact ⟨a, h1, t.sq h2⟩
structure Kd where
  nm : Str
  w : Int
  h : Int
  tr : List Str
def Kd.has (k : Kd) (t : Str) : Bool := inV (.str t) (k.tr.map V.str)
def KdAt (K : PySem.W.Frag) (H : Hp) (v : V) (k : Kd) : Prop := ∃ (a t : Addr) (ow ru : V), v = .ref a ∧ SqT K H a [.str k.nm, .int k.w, .int k.h, .ref t, ow, ru] ∧ SqT K H t (k.tr.map V.str)
theorem KdAt.tf {K : PySem.W.Frag} {H H' : Hp} {v : V} {k : Kd} (h : KdAt K H v k) (e : TF H H') : KdAt K H' v k := by
  obtain ⟨a, t, ow, ru, h1, h2, h3⟩ := h
  exact ⟨a, t, ow, ru, h1, e.sq h2, e.sq h3⟩
structure Gm where
  rows : List Str
  W : Nat
  ho : Int
  kds : List Kd
structure Gm.ok (G : Gm) : Prop where
  r1 : 1 ≤ G.rows.length
  r2 : G.rows.length ≤ 16
  wd : ∀ r ∈ G.rows, r.length = G.W
  w1 : 1 ≤ G.W
  w2 : G.W ≤ 24
  h1 : 1 ≤ G.ho
  h2 : G.ho ≤ 4
  kl : G.kds.length ≤ 8
  kw : ∀ k ∈ G.kds, 1 ≤ k.w ∧ k.w ≤ 16 ∧ 1 ≤ k.h ∧ k.h ≤ 16 ∧ k.tr.length ≤ 5
/-- the level -/
def LvAt (K : PySem.W.Frag) (H : Hp) (v : V) (G : Gm) : Prop := ∃ (l rs : Addr) (st pu : V), v = .ref l ∧ SqT K H l [.ref rs, st, .int G.ho, pu] ∧ SqT K H rs (G.rows.map V.str)
theorem LvAt.tf {K : PySem.W.Frag} {H H' : Hp} {v : V} {G : Gm} (h : LvAt K H v G) (e : TF H H') : LvAt K H' v G := by
  obtain ⟨l, rs, st, pu, h1, h2, h3⟩ := h
  exact ⟨l, rs, st, pu, h1, e.sq h2, e.sq h3⟩
def KsAt (K : PySem.W.Frag) (H : Hp) (v : V) (G : Gm) : Prop := ∃ (ks : Addr) (kv : List V), v = .ref ks ∧ SqT K H ks kv ∧ kv.length = G.kds.length ∧ ∀ (i : Nat) (k : Kd), G.kds[i]? = some k → ∃ x : V, kv[i]? = some x ∧ KdAt K H x k
theorem KsAt.tf {K : PySem.W.Frag} {H H' : Hp} {v : V} {G : Gm} (h : KsAt K H v G) (e : TF H H') : KsAt K H' v G := by
  obtain ⟨ks, kv, h1, h2, h3, h4⟩ := h
  exact ⟨ks, kv, h1, e.sq h2, h3, fun i k z => by obtain ⟨x, g1, g2⟩ := h4 i k z; exact ⟨x, g1, g2.tf e⟩⟩
def GmAt (K : PySem.W.Frag) (H : Hp) (v : V) (G : Gm) : Prop := ∃ (g : Addr) (lv ks : V), v = .ref g ∧ SqT K H g [lv, ks] ∧ LvAt K H lv G ∧ KsAt K H ks G
theorem GmAt.tf {K : PySem.W.Frag} {H H' : Hp} {v : V} {G : Gm} (h : GmAt K H v G) (e : TF H H') : GmAt K H' v G := by
  obtain ⟨g, lv, ks, h1, h2, h3, h4⟩ := h
  exact ⟨g, lv, ks, h1, e.sq h2, h3.tf e, h4.tf e⟩
structure Tg where
  k : Nat
  hs : Int
  x : Int
  y : Int
  dx : Int
  dy : Int
  rest : Int
  own : List Int
def TgAt (K : PySem.W.Frag) (H : Hp) (v : V) (t : Tg) : Prop := ∃ (a : Addr) (ow : V), v = .ref a ∧ SqT K H a [.int (t.k : Int), .int t.hs, .int t.x, .int t.y, .int t.dx, .int t.dy, .int t.rest, ow]
theorem TgAt.tf {K : PySem.W.Frag} {H H' : Hp} {v : V} {t : Tg} (h : TgAt K H v t) (e : TF H H') : TgAt K H' v t := by
  obtain ⟨a, ow, h1, h2⟩ := h
  exact ⟨a, ow, h1, e.sq h2⟩
def Tg.box (t : Tg) (k : Kd) : Bx := ⟨t.x, t.y, k.w, k.h⟩
def meets (a b : Bx) : Bool := decide (a.x < b.x + b.w) && (decide (b.x < a.x + a.w) && (decide (a.y < b.y + b.h) && decide (b.y < a.y + a.h)))
section
variable {P : Program} {w : World} {K : PySem.W.Frag} {mg : Str → Option Value} {base : Heap}
def spBox (K : PySem.W.Frag) : Sp := fun vs H Q _ => ∃ (g t : V) (G : Gm) (th : Tg) (kd : Kd), vs = [g, t] ∧ GmAt K H g G ∧ TgAt K H t th ∧ G.kds[th.k]? = some kd ∧ ∀ p H', Same H H' → H' p = some (.tup (th.box kd).vs) → Q (.ref p) H'
theorem scBox : FnScope ["game", "thing", "kind"] ["game", "thing"] (defScope s_law_box) := ⟨rfl, rfl, rfl, by decide +kernel, rfl, by decide +kernel, by decide +kernel⟩
theorem scBb : FnScope ["game", "thing", "kind"] ["game", "thing"] (defScope s_body_box) := ⟨rfl, rfl, rfl, by decide +kernel, rfl, by decide +kernel, by decide +kernel⟩
theorem ok_law_box (T : Txt K w mg) : FnOk P w K mg base CX0 1 (He.fAd K ("_law_box", none)) (fdAt K (He.fAd K ("_law_box", none))) ["game", "thing"] (spBox K) := by
  refine T.F_law_box.ok scBox (fun vs H Q E h => ?_) (fun cdv A outer s H vs Q E hr h => ?_)
  · obtain ⟨g, t, G, th, kd, rfl, _⟩ := h
    rfl
  · obtain ⟨g, t, G, th, kd, rfl, ⟨ga, lv, ks, rfl, sg, _, ⟨ka, kv, rfl, sk, _, hk⟩⟩, ⟨ta, ow, rfl, st⟩, hkd, k⟩ := h
    refine ⟨_, PSs.nox (pss_cons (ps_set (i := 2) scBox.nd rfl (Or.inl rfl) (pe_ix (r := rIxT K) ix_tup (pe_ix (r := rIxT K) ix_tup (pv 0) pe_int (fun _ _ => rfl)) (pe_ix (r := rIxT K) ix_tup (pv 1) pe_int (fun _ _ => rfl)) (fun _ _ => rfl)))
      (pss_one (ps_ret (pe_tup (pa_cons (pe_ix (r := rIxT K) ix_tup (pv 1) pe_int (fun _ _ => rfl)) (pa_cons (pe_ix (r := rIxT K) ix_tup (pv 1) pe_int (fun _ _ => rfl)) (pa_cons (pe_ix (r := rIxT K) ix_tup (pv 2) pe_int (fun _ _ => rfl)) (pa_cons (pe_ix (r := rIxT K) ix_tup (pv 2) pe_int (fun _ _ => rfl)) pa_nil)))))))), ?_⟩
    obtain ⟨x, hx, ⟨xa, xt, xo, xr, rfl, sx, _⟩⟩ := hk _ _ hkd
    refine ⟨_, rfl, ga, _, _, _, rfl, rfl, sg, atI_nat (j := 1) rfl, _, rfl, ta, _, _, _, rfl, rfl, st, atI_nat (j := 0) rfl, ka, kv, _, _, rfl, rfl, sk, atI_nat hx, ?_⟩
    exact ⟨_, rfl, ta, _, _, _, rfl, rfl, st, atI_nat (j := 2) rfl, _, rfl, ta, _, _, _, rfl, rfl, st, atI_nat (j := 3) rfl, _, rfl, xa, _, _, _, rfl, rfl, sx, atI_nat (j := 1) rfl, _, rfl, xa, _, _, _, rfl, rfl, sx, atI_nat (j := 2) rfl, (show 4 ≤ sizeLine by decide), fun p np => k p _ (new_same np) upd_same⟩
theorem ok_body_box (T : Txt K w mg) : FnOk P w K mg base CX0 1 (He.fAd K ("body_box", none)) (fdAt K (He.fAd K ("body_box", none))) ["game", "thing"] (spBox K) := by
  refine T.F_body_box.ok scBb (fun vs H Q E h => ?_) (fun cdv A outer s H vs Q E hr h => ?_)
  · obtain ⟨g, t, G, th, kd, rfl, _⟩ := h
    rfl
  · obtain ⟨g, t, G, th, kd, rfl, ⟨ga, lv, ks, rfl, sg, _, ⟨ka, kv, rfl, sk, _, hk⟩⟩, ⟨ta, ow, rfl, st⟩, hkd, k⟩ := h
    refine ⟨_, PSs.nox (pss_cons (ps_set (i := 2) scBb.nd rfl (Or.inl rfl) (pe_ix (r := rIxT K) ix_tup (pe_ix (r := rIxT K) ix_tup (pv 0) pe_int (fun _ _ => rfl)) (pe_ix (r := rIxT K) ix_tup (pv 1) pe_int (fun _ _ => rfl)) (fun _ _ => rfl)))
      (pss_one (ps_ret (pe_tup (pa_cons (pe_ix (r := rIxT K) ix_tup (pv 1) pe_int (fun _ _ => rfl)) (pa_cons (pe_ix (r := rIxT K) ix_tup (pv 1) pe_int (fun _ _ => rfl)) (pa_cons (pe_ix (r := rIxT K) ix_tup (pv 2) pe_int (fun _ _ => rfl)) (pa_cons (pe_ix (r := rIxT K) ix_tup (pv 2) pe_int (fun _ _ => rfl)) pa_nil)))))))), ?_⟩
    obtain ⟨x, hx, ⟨xa, xt, xo, xr, rfl, sx, _⟩⟩ := hk _ _ hkd
    refine ⟨_, rfl, ga, _, _, _, rfl, rfl, sg, atI_nat (j := 1) rfl, _, rfl, ta, _, _, _, rfl, rfl, st, atI_nat (j := 0) rfl, ka, kv, _, _, rfl, rfl, sk, atI_nat hx, ?_⟩
    exact ⟨_, rfl, ta, _, _, _, rfl, rfl, st, atI_nat (j := 2) rfl, _, rfl, ta, _, _, _, rfl, rfl, st, atI_nat (j := 3) rfl, _, rfl, xa, _, _, _, rfl, rfl, sx, atI_nat (j := 1) rfl, _, rfl, xa, _, _, _, rfl, rfl, sx, atI_nat (j := 2) rfl, (show 4 ≤ sizeLine by decide), fun p np => k p _ (new_same np) upd_same⟩
def spMeet (K : PySem.W.Frag) : Sp := fun vs H Q _ => ∃ (u v : V) (a b : Bx), vs = [u, v] ∧ BxAt K H u a ∧ BxAt K H v b ∧ Q (.bl (meets a b)) H
theorem scMe : FnScope ["one", "other"] ["one", "other"] (defScope s_meet) := ⟨rfl, rfl, rfl, by decide +kernel, rfl, by decide +kernel, by decide +kernel⟩
theorem scLme : FnScope ["one", "other"] ["one", "other"] (defScope s_law_meet) := ⟨rfl, rfl, rfl, by decide +kernel, rfl, by decide +kernel, by decide +kernel⟩
theorem ok_meet (T : Txt K w mg) : FnOk P w K mg base CX0 1 (He.fAd K ("meet", none)) (fdAt K (He.fAd K ("meet", none))) ["one", "other"] (spMeet K) := by
  refine T.F_meet.ok scMe (fun vs H Q E h => ?_) (fun cdv A outer s H vs Q E hr h => ?_)
  · obtain ⟨u, v, a, b, rfl, _⟩ := h
    rfl
  · obtain ⟨u, v, a, b, rfl, ⟨ua, rfl, su⟩, ⟨va, rfl, sv⟩, q⟩ := h
    refine ⟨_, PSs.nox (pss_one (ps_ret (pe_and (pe_cmpR op_lt (pe_ix (r := rIxT K) ix_tup (pv 0) pe_int (fun _ _ => rfl)) (pe_op op_add (pe_ix (r := rIxT K) ix_tup (pv 1) pe_int (fun _ _ => rfl)) (pe_ix (r := rIxT K) ix_tup (pv 1) pe_int (fun _ _ => rfl))) (nomark _)) (pe_and (pe_cmpR op_lt (pe_ix (r := rIxT K) ix_tup (pv 1) pe_int (fun _ _ => rfl)) (pe_op op_add (pe_ix (r := rIxT K) ix_tup (pv 0) pe_int (fun _ _ => rfl)) (pe_ix (r := rIxT K) ix_tup (pv 0) pe_int (fun _ _ => rfl))) (nomark _)) (pe_and (pe_cmpR op_lt (pe_ix (r := rIxT K) ix_tup (pv 0) pe_int (fun _ _ => rfl)) (pe_op op_add (pe_ix (r := rIxT K) ix_tup (pv 1) pe_int (fun _ _ => rfl)) (pe_ix (r := rIxT K) ix_tup (pv 1) pe_int (fun _ _ => rfl))) (nomark _)) (pe_one (pe_cmpR op_lt (pe_ix (r := rIxT K) ix_tup (pv 1) pe_int (fun _ _ => rfl)) (pe_op op_add (pe_ix (r := rIxT K) ix_tup (pv 0) pe_int (fun _ _ => rfl)) (pe_ix (r := rIxT K) ix_tup (pv 0) pe_int (fun _ _ => rfl))) (nomark _)))))))), ?_⟩
    have no : ∀ {c : Bool}, ¬ c = true → c = false := fun {c} z => by cases c with | true => exact absurd rfl z | false => rfl
    unfold meets at q
    refine ⟨_, rfl, ua, _, _, _, rfl, rfl, su, atI_nat (j := 0) rfl, _, rfl, va, _, _, _, rfl, rfl, sv, atI_nat (j := 0) rfl, _, rfl, va, _, _, _, rfl, rfl, sv, atI_nat (j := 2) rfl, _, _, rfl, rfl, _, _, rfl, rfl, _, rfl, ite2 (fun z => ?_) (fun z => ?_)⟩
    rotate_left
    · rw [no z] at q
      exact q
    rw [z, Bool.true_and] at q
    refine ⟨_, rfl, va, _, _, _, rfl, rfl, sv, atI_nat (j := 0) rfl, _, rfl, ua, _, _, _, rfl, rfl, su, atI_nat (j := 0) rfl, _, rfl, ua, _, _, _, rfl, rfl, su, atI_nat (j := 2) rfl, _, _, rfl, rfl, _, _, rfl, rfl, _, rfl, ite2 (fun z => ?_) (fun z => ?_)⟩
    rotate_left
    · rw [no z] at q
      exact q
    rw [z, Bool.true_and] at q
    refine ⟨_, rfl, ua, _, _, _, rfl, rfl, su, atI_nat (j := 1) rfl, _, rfl, va, _, _, _, rfl, rfl, sv, atI_nat (j := 1) rfl, _, rfl, va, _, _, _, rfl, rfl, sv, atI_nat (j := 3) rfl, _, _, rfl, rfl, _, _, rfl, rfl, _, rfl, ite2 (fun z => ?_) (fun z => ?_)⟩
    rotate_left
    · rw [no z] at q
      exact q
    rw [z, Bool.true_and] at q
    exact ⟨_, rfl, va, _, _, _, rfl, rfl, sv, atI_nat (j := 1) rfl, _, rfl, ua, _, _, _, rfl, rfl, su, atI_nat (j := 1) rfl, _, rfl, ua, _, _, _, rfl, rfl, su, atI_nat (j := 3) rfl, _, _, rfl, rfl, _, _, rfl, rfl, q⟩
theorem ok_law_meet (T : Txt K w mg) : FnOk P w K mg base CX0 1 (He.fAd K ("_law_meet", none)) (fdAt K (He.fAd K ("_law_meet", none))) ["one", "other"] (spMeet K) := by
  refine T.F_law_meet.ok scLme (fun vs H Q E h => ?_) (fun cdv A outer s H vs Q E hr h => ?_)
  · obtain ⟨u, v, a, b, rfl, _⟩ := h
    rfl
  · obtain ⟨u, v, a, b, rfl, ⟨ua, rfl, su⟩, ⟨va, rfl, sv⟩, q⟩ := h
    refine ⟨_, PSs.nox (pss_cons (ps_if (PW.pt (pw_or (pt_cmpR op_le (pe_op op_add (pe_ix (r := rIxT K) ix_tup (pv 0) pe_int (fun _ _ => rfl)) (pe_ix (r := rIxT K) ix_tup (pv 0) pe_int (fun _ _ => rfl))) (pe_ix (r := rIxT K) ix_tup (pv 1) pe_int (fun _ _ => rfl)) (nomark _)) (pw_or1 (pt_cmpR op_le (pe_op op_add (pe_ix (r := rIxT K) ix_tup (pv 1) pe_int (fun _ _ => rfl)) (pe_ix (r := rIxT K) ix_tup (pv 1) pe_int (fun _ _ => rfl))) (pe_ix (r := rIxT K) ix_tup (pv 0) pe_int (fun _ _ => rfl)) (nomark _))))) (pss_one (ps_ret pe_bl)) pss_nil)
      (pss_one (ps_ret (pe_and (pe_cmpR op_gt (pe_op op_add (pe_ix (r := rIxT K) ix_tup (pv 0) pe_int (fun _ _ => rfl)) (pe_ix (r := rIxT K) ix_tup (pv 0) pe_int (fun _ _ => rfl))) (pe_ix (r := rIxT K) ix_tup (pv 1) pe_int (fun _ _ => rfl)) (nomark _)) (pe_one (pe_cmpR op_gt (pe_op op_add (pe_ix (r := rIxT K) ix_tup (pv 1) pe_int (fun _ _ => rfl)) (pe_ix (r := rIxT K) ix_tup (pv 1) pe_int (fun _ _ => rfl))) (pe_ix (r := rIxT K) ix_tup (pv 0) pe_int (fun _ _ => rfl)) (nomark _))))))), ?_⟩
    have fal : (a.x + a.w ≤ b.x ∨ b.x + b.w ≤ a.x) → meets a b = false := fun h => by
      unfold meets
      rcases h with h | h
      · rw [decide_eq_false (show ¬ b.x < a.x + a.w by omega)]
        simp
      · rw [decide_eq_false (show ¬ a.x < b.x + b.w by omega)]
        simp
    refine ⟨_, rfl, ua, _, _, _, rfl, rfl, su, atI_nat (j := 0) rfl, _, rfl, ua, _, _, _, rfl, rfl, su, atI_nat (j := 2) rfl, _, _, rfl, rfl, _, rfl, va, _, _, _, rfl, rfl, sv, atI_nat (j := 0) rfl, _, _, rfl, rfl, _, rfl, ite2 (fun z => ?_) (fun z => ?_)⟩
    · rw [fal (.inl (of_decide_eq_true z))] at q
      exact q
    refine ⟨_, rfl, va, _, _, _, rfl, rfl, sv, atI_nat (j := 0) rfl, _, rfl, va, _, _, _, rfl, rfl, sv, atI_nat (j := 2) rfl, _, _, rfl, rfl, _, rfl, ua, _, _, _, rfl, rfl, su, atI_nat (j := 0) rfl, _, _, rfl, rfl, _, rfl, ite2 (fun z2 => ?_) (fun z2 => ?_)⟩
    · rw [fal (.inr (of_decide_eq_true z2))] at q
      exact q
    have h1 : ¬ a.x + a.w ≤ b.x := fun h => z (decide_eq_true h)
    have h2 : ¬ b.x + b.w ≤ a.x := fun h => z2 (decide_eq_true h)
    have e : meets a b = (decide (b.y < a.y + a.h) && decide (a.y < b.y + b.h)) := by
      unfold meets
      rw [decide_eq_true (show a.x < b.x + b.w by omega), decide_eq_true (show b.x < a.x + a.w by omega), Bool.true_and, Bool.true_and, Bool.and_comm]
    rw [e] at q
    refine ⟨_, rfl, ua, _, _, _, rfl, rfl, su, atI_nat (j := 1) rfl, _, rfl, ua, _, _, _, rfl, rfl, su, atI_nat (j := 3) rfl, _, _, rfl, rfl, _, rfl, va, _, _, _, rfl, rfl, sv, atI_nat (j := 1) rfl, _, _, rfl, rfl, _, rfl, ite2 (fun z => ?_) (fun z => ?_)⟩
    rotate_left
    · have z : decide (b.y < a.y + a.h) = false := by
        cases h : decide (b.y < a.y + a.h) with
        | true => exact absurd h z
        | false => rfl
      rw [z, Bool.false_and] at q
      exact q
    rw [z, Bool.true_and] at q
    exact ⟨_, rfl, va, _, _, _, rfl, rfl, sv, atI_nat (j := 1) rfl, _, rfl, va, _, _, _, rfl, rfl, sv, atI_nat (j := 3) rfl, _, _, rfl, rfl, _, rfl, ua, _, _, _, rfl, rfl, su, atI_nat (j := 1) rfl, _, _, rfl, rfl, q⟩
/-! ### moved, traits -/
def Bx.mv (b : Bx) (dx dy : Int) : Bx := ⟨b.x + dx, b.y + dy, b.w, b.h⟩
def spMv (K : PySem.W.Frag) : Sp := fun vs H Q _ => ∃ (u : V) (b : Bx) (dx dy : Int), vs = [u, .int dx, .int dy] ∧ BxAt K H u b ∧ ∀ p H', Same H H' → H' p = some (.tup (b.mv dx dy).vs) → Q (.ref p) H'
theorem scMv : FnScope ["box", "dx", "dy", "x", "y", "wide", "high"] ["box", "dx", "dy"] (defScope s_moved) := ⟨rfl, rfl, rfl, by decide +kernel, rfl, by decide +kernel, by decide +kernel⟩
theorem ok_moved (T : Txt K w mg) : FnOk P w K mg base CX0 1 (He.fAd K ("moved", none)) (fdAt K (He.fAd K ("moved", none))) ["box", "dx", "dy"] (spMv K) := by
  refine T.F_moved.ok scMv (fun vs H Q E h => ?_) (fun cdv A outer s H vs Q E hr h => ?_)
  · obtain ⟨u, b, dx, dy, rfl, _⟩ := h
    rfl
  · obtain ⟨u, b, dx, dy, rfl, ⟨ua, rfl, su⟩, k⟩ := h
    refine ⟨_, PSs.nox (pss_cons (ps_asg (pv 0) (pg_tup (by rfl) (pgs_cons (pg_name (i := 3) scMv.nd rfl (Or.inl rfl)) (pgs_cons (pg_name (i := 4) scMv.nd rfl (Or.inl rfl)) (pgs_cons (pg_name (i := 5) scMv.nd rfl (Or.inl rfl)) (pgs_cons (pg_name (i := 6) scMv.nd rfl (Or.inl rfl)) pgs_nil))))))
      (pss_one (ps_ret (pe_tup (pa_cons (pe_op op_add (pv 3) (pv 1)) (pa_cons (pe_op op_add (pv 4) (pv 2)) (pa_cons (pv 5) (pa_cons (pv 6) pa_nil)))))))), ?_⟩
    refine ⟨_, rfl, ua, _, rfl, su, rfl, _, _, rfl, _, _, rfl, _, _, rfl, _, _, rfl, rfl, ?_⟩
    exact ⟨_, rfl, _, rfl, _, _, rfl, rfl, _, rfl, _, rfl, _, _, rfl, rfl, _, rfl, _, rfl, (show 4 ≤ sizeLine by decide), fun p np => k p _ (new_same np) upd_same⟩
def spHas (K : PySem.W.Frag) : Sp := fun vs H Q _ => ∃ (g t : V) (G : Gm) (th : Tg) (kd : Kd) (n : Str), vs = [g, t, .str n] ∧ GmAt K H g G ∧ TgAt K H t th ∧ G.kds[th.k]? = some kd ∧ Q (.bl (kd.has n)) H
theorem scLh : FnScope ["game", "thing", "trait"] ["game", "thing", "trait"] (defScope s_law_has) := ⟨rfl, rfl, rfl, by decide +kernel, rfl, by decide +kernel, by decide +kernel⟩
theorem scHt : FnScope ["game", "thing", "trait"] ["game", "thing", "trait"] (defScope s_has_trait) := ⟨rfl, rfl, rfl, by decide +kernel, rfl, by decide +kernel, by decide +kernel⟩
theorem flat_strs : ∀ l : List Str, (l.map V.str).all flatV = true
  | [] => rfl
  | _ :: l => flat_strs l
theorem ok_law_has (T : Txt K w mg) : FnOk P w K mg base CX0 1 (He.fAd K ("_law_has", none)) (fdAt K (He.fAd K ("_law_has", none))) ["game", "thing", "trait"] (spHas K) := by
  refine T.F_law_has.ok scLh (fun vs H Q E h => ?_) (fun cdv A outer s H vs Q E hr h => ?_)
  · obtain ⟨g, t, G, th, kd, n, rfl, _⟩ := h
    rfl
  · obtain ⟨g, t, G, th, kd, n, rfl, ⟨ga, lv, ks, rfl, sg, _, ⟨ka, kv, rfl, sk, _, hk⟩⟩, ⟨ta, ow, rfl, st⟩, hkd, q⟩ := h
    refine ⟨_, PSs.nox (pss_one (ps_ret (pe_cmpR (r := rIn K false) op_in_seq (pv 2) (pe_ix (r := rIxT K) ix_tup (pe_ix (r := rIxT K) ix_tup (pe_ix (r := rIxT K) ix_tup (pv 0) pe_int (fun _ _ => rfl)) (pe_ix (r := rIxT K) ix_tup (pv 1) pe_int (fun _ _ => rfl)) (fun _ _ => rfl)) pe_int (fun _ _ => rfl)) rfl))), ?_⟩
    obtain ⟨x, hx, ⟨xa, xt, xo, xr, rfl, sx, sxt⟩⟩ := hk _ _ hkd
    exact ⟨_, rfl, _, rfl, ga, _, _, _, rfl, rfl, sg, atI_nat (j := 1) rfl, _, rfl, ta, _, _, _, rfl, rfl, st, atI_nat (j := 0) rfl, ka, kv, _, _, rfl, rfl, sk, atI_nat hx, xa, _, _, _, rfl, rfl, sx, atI_nat (j := 3) rfl, xt, _, rfl, .inr sxt, rfl, flat_strs _, q⟩
theorem ok_has_trait (T : Txt K w mg) : FnOk P w K mg base CX0 1 (He.fAd K ("has_trait", none)) (fdAt K (He.fAd K ("has_trait", none))) ["game", "thing", "trait"] (spHas K) := by
  refine T.F_has_trait.ok scHt (fun vs H Q E h => ?_) (fun cdv A outer s H vs Q E hr h => ?_)
  · obtain ⟨g, t, G, th, kd, n, rfl, _⟩ := h
    rfl
  · obtain ⟨g, t, G, th, kd, n, rfl, ⟨ga, lv, ks, rfl, sg, _, ⟨ka, kv, rfl, sk, _, hk⟩⟩, ⟨ta, ow, rfl, st⟩, hkd, q⟩ := h
    refine ⟨_, PSs.nox (pss_one (ps_ret (pe_cmpR (r := rIn K false) op_in_seq (pv 2) (pe_ix (r := rIxT K) ix_tup (pe_ix (r := rIxT K) ix_tup (pe_ix (r := rIxT K) ix_tup (pv 0) pe_int (fun _ _ => rfl)) (pe_ix (r := rIxT K) ix_tup (pv 1) pe_int (fun _ _ => rfl)) (fun _ _ => rfl)) pe_int (fun _ _ => rfl)) rfl))), ?_⟩
    obtain ⟨x, hx, ⟨xa, xt, xo, xr, rfl, sx, sxt⟩⟩ := hk _ _ hkd
    exact ⟨_, rfl, _, rfl, ga, _, _, _, rfl, rfl, sg, atI_nat (j := 1) rfl, _, rfl, ta, _, _, _, rfl, rfl, st, atI_nat (j := 0) rfl, ka, kv, _, _, rfl, rfl, sk, atI_nat hx, xa, _, _, _, rfl, rfl, sx, atI_nat (j := 3) rfl, xt, _, rfl, .inr sxt, rfl, flat_strs _, q⟩
/-! ### sizes -/
def Gm.wi (G : Gm) : Int := 8 * (G.W : Int)
def Gm.hi (G : Gm) : Int := 8 * (G.rows.length : Int)
theorem row_at {G : Gm} (o : G.ok) : ∃ r, G.rows[0]? = some r ∧ r.length = G.W := by
  have h := o.r1
  exact ⟨G.rows[0], List.getElem?_eq_getElem (by omega), o.wd _ (List.getElem_mem _)⟩
def spSz (K : PySem.W.Frag) : Sp := fun vs H Q _ => ∃ (g : V) (G : Gm), vs = [g] ∧ GmAt K H g G ∧ G.ok ∧ ∀ p H', Same H H' → H' p = some (.tup [.int G.wi, .int G.hi]) → Q (.ref p) H'
theorem scSz : FnScope ["game"] ["game"] (defScope s_law_size) := ⟨rfl, rfl, rfl, by decide +kernel, rfl, by decide +kernel, by decide +kernel⟩
theorem ok_law_size (T : Txt K w mg) : FnOk P w K mg base CX0 1 (He.fAd K ("_law_size", none)) (fdAt K (He.fAd K ("_law_size", none))) ["game"] (spSz K) := by
  refine T.F_law_size.ok scSz (fun vs H Q E h => ?_) (fun cdv A outer s H vs Q E hr h => ?_)
  · obtain ⟨g, G, rfl, _⟩ := h
    rfl
  · obtain ⟨g, G, rfl, ⟨ga, lv, ks, rfl, sg, ⟨l, rs, st, pu, rfl, sl, sr⟩, _⟩, o, k⟩ := h
    refine ⟨_, PSs.nox (pss_one (ps_ret (pe_tup (pa_cons (pe_op op_mulW pe_int (pe_callB call_len_str (by rfl) T.n_len PyProof.Rows.Boot.«len» (pa_cons (pe_ix (r := rIxT K) ix_tup (pe_ix (r := rIxT K) ix_tup (pe_ix (r := rIxT K) ix_tup (pv 0) pe_int (fun _ _ => rfl)) pe_int (fun _ _ => rfl)) pe_int (fun _ _ => rfl)) pa_nil))) (pa_cons (pe_op op_mulW pe_int (pe_callB (r := Evl.rLenS K) call_len_seq (by rfl) T.n_len PyProof.Rows.Boot.«len» (pa_cons (pe_ix (r := rIxT K) ix_tup (pe_ix (r := rIxT K) ix_tup (pv 0) pe_int (fun _ _ => rfl)) pe_int (fun _ _ => rfl)) pa_nil))) pa_nil))))), ?_⟩
    obtain ⟨r, hr0, hrl⟩ := row_at o
    have w2 := o.w2
    have r2 := o.r2
    have hr1 : (G.rows.map V.str)[0]? = some (.str r) := by rw [List.getElem?_map, hr0]; rfl
    have rl : r.length ≤ sizeLine := Nat.le_trans (show r.length ≤ 30 by omega) (by decide)
    have mw : ∀ n : Nat, n ≤ 1000 → CMulW 8 (n : Int) := fun n h => wide_mul (a := 40) (b := 40) (by decide) (small_ab (by omega) (by rw [pow40]; omega)) (by decide) (by decide) (by decide)
    refine ⟨_, rfl, ga, _, _, _, rfl, rfl, sg, atI_nat (j := 0) rfl, l, _, _, _, rfl, rfl, sl, atI_nat (j := 0) rfl, rs, _, _, _, rfl, rfl, sr, atI_nat hr1, r, rfl, rl, _, _, rfl, rfl, mw _ (by omega), _, rfl, ga, _, _, _, rfl, rfl, sg, atI_nat (j := 0) rfl, l, _, _, _, rfl, rfl, sl, atI_nat (j := 0) rfl, rs, _, rfl, .inr sr, _, _, rfl, rfl, mw _ (by rw [List.length_map]; omega), (show 2 ≤ sizeLine by decide), fun p np => k p _ (new_same np) ?_⟩
    rw [upd_same, hrl, List.length_map]
    rfl
def spEx (K : PySem.W.Frag) : Sp := fun vs H Q _ => ∃ (v : V) (G : Gm), vs = [v] ∧ LvAt K H v G ∧ G.ok ∧ ∀ p H', Same H H' → H' p = some (.tup [.int G.wi, .int G.hi]) → Q (.ref p) H'
theorem scEx : FnScope ["level", "rows"] ["level"] (defScope s_extent) := ⟨rfl, rfl, rfl, by decide +kernel, rfl, by decide +kernel, by decide +kernel⟩
theorem ok_extent (T : Txt K w mg) : FnOk P w K mg base CX0 1 (He.fAd K ("extent", none)) (fdAt K (He.fAd K ("extent", none))) ["level"] (spEx K) := by
  obtain ⟨u1, g1, r1⟩ := T.c_SQUARE
  refine T.F_extent.ok scEx (fun vs H Q E h => ?_) (fun cdv A outer s H vs Q E hr h => ?_)
  · obtain ⟨v, G, rfl, _⟩ := h
    rfl
  · obtain ⟨v, G, rfl, ⟨l, rs, st, pu, rfl, sl, sr⟩, o, k⟩ := h
    refine ⟨_, PSs.nox (pss_cons (ps_set (i := 1) scEx.nd rfl (Or.inl rfl) (pe_ix (r := rIxT K) ix_tup (pv 0) pe_int (fun _ _ => rfl)))
      (pss_one (ps_ret (pe_tup (pa_cons (pe_op op_mulW (pe_callB call_len_str (by rfl) T.n_len PyProof.Rows.Boot.«len» (pa_cons (pe_ix (r := rIxT K) ix_tup (pv 1) pe_int (fun _ _ => rfl)) pa_nil)) (pe_glob (v := .int 8) (by rfl) g1 r1)) (pa_cons (pe_op op_mulW (pe_callB (r := Evl.rLenS K) call_len_seq (by rfl) T.n_len PyProof.Rows.Boot.«len» (pa_cons (pv 1) pa_nil)) (pe_glob (v := .int 8) (by rfl) g1 r1)) pa_nil)))))), ?_⟩
    obtain ⟨r, hr0, hrl⟩ := row_at o
    have w2 := o.w2
    have r2 := o.r2
    have hr1 : (G.rows.map V.str)[0]? = some (.str r) := by rw [List.getElem?_map, hr0]; rfl
    have rl : r.length ≤ sizeLine := Nat.le_trans (show r.length ≤ 30 by omega) (by decide)
    have mw : ∀ n : Nat, n ≤ 1000 → CMulW (n : Int) 8 := fun n h => wide_mul (a := 40) (b := 40) (small_ab (by omega) (by rw [pow40]; omega)) (by decide) (by decide) (by decide) (by decide)
    refine ⟨_, rfl, l, _, _, _, rfl, rfl, sl, atI_nat (j := 0) rfl, _, rfl, rs, _, _, _, rfl, rfl, sr, atI_nat hr1, r, rfl, rl, _, _, rfl, rfl, mw _ (by omega), _, rfl, rs, _, rfl, .inr sr, _, _, rfl, rfl, mw _ (by rw [List.length_map]; omega), (show 2 ≤ sizeLine by decide), fun p np => k p _ (new_same np) ?_⟩
    rw [upd_same, hrl, List.length_map, Gm.wi, Gm.hi, Int.mul_comm 8, Int.mul_comm 8]
def Gm.bw (G : Gm) : Int := ((G.W : Int) + 3) / 4
def Gm.bh (G : Gm) : Int := ((G.rows.length : Int) + 3) / 4
def spBc (K : PySem.W.Frag) : Sp := fun vs H Q _ => ∃ (v : V) (G : Gm), vs = [v] ∧ LvAt K H v G ∧ G.ok ∧ ∀ p H', Same H H' → H' p = some (.tup [.int G.bh, .int G.bw]) → Q (.ref p) H'
theorem scBc : FnScope ["level", "rows", "above"] ["level"] (defScope s_block_counts) := ⟨rfl, rfl, rfl, by decide +kernel, rfl, by decide +kernel, by decide +kernel⟩
theorem ok_block_counts (T : Txt K w mg) : FnOk P w K mg base CX0 1 (He.fAd K ("block_counts", none)) (fdAt K (He.fAd K ("block_counts", none))) ["level"] (spBc K) := by
  obtain ⟨u1, g1, r1⟩ := T.c_BLOCK_SQUARES
  refine T.F_block_counts.ok scBc (fun vs H Q E h => ?_) (fun cdv A outer s H vs Q E hr h => ?_)
  · obtain ⟨v, G, rfl, _⟩ := h
    rfl
  · obtain ⟨v, G, rfl, ⟨l, rs, st, pu, rfl, sl, sr⟩, o, k⟩ := h
    refine ⟨_, PSs.nox (pss_cons (ps_set (i := 1) scBc.nd rfl (Or.inl rfl) (pe_ix (r := rIxT K) ix_tup (pv 0) pe_int (fun _ _ => rfl)))
      (pss_cons (ps_set (i := 2) scBc.nd rfl (Or.inl rfl) (pe_op op_sub (pe_glob (v := .int 4) (by rfl) g1 r1) pe_int))
      (pss_one (ps_ret (pe_tup (pa_cons (pe_op op_fdivW (pe_op op_add (pe_callB (r := Evl.rLenS K) call_len_seq (by rfl) T.n_len PyProof.Rows.Boot.«len» (pa_cons (pv 1) pa_nil)) (pv 2)) (pe_glob (v := .int 4) (by rfl) g1 r1)) (pa_cons (pe_op op_fdivW (pe_op op_add (pe_callB call_len_str (by rfl) T.n_len PyProof.Rows.Boot.«len» (pa_cons (pe_ix (r := rIxT K) ix_tup (pv 1) pe_int (fun _ _ => rfl)) pa_nil)) (pv 2)) (pe_glob (v := .int 4) (by rfl) g1 r1)) pa_nil))))))), ?_⟩
    obtain ⟨r, hr0, hrl⟩ := row_at o
    have w2 := o.w2
    have r2 := o.r2
    have hr1 : (G.rows.map V.str)[0]? = some (.str r) := by rw [List.getElem?_map, hr0]; rfl
    have rl : r.length ≤ sizeLine := Nat.le_trans (show r.length ≤ 30 by omega) (by decide)
    have d4 : ∀ i : Int, CDivW i 4 := fun i => wide_div (b := 10) (by decide) (by decide) (by decide) (by decide)
    refine ⟨_, rfl, l, _, _, _, rfl, rfl, sl, atI_nat (j := 0) rfl, _, _, rfl, rfl, _, rfl, rs, _, rfl, .inr sr, _, rfl, _, _, rfl, rfl, _, _, rfl, rfl, d4 _, _, rfl, rs, _, _, _, rfl, rfl, sr, atI_nat hr1, r, rfl, rl, _, rfl, _, _, rfl, rfl, _, _, rfl, rfl, d4 _, (show 2 ≤ sizeLine by decide), fun p np => k p _ (new_same np) ?_⟩
    rw [upd_same, hrl, List.length_map]
    rfl
def spBel (K : PySem.W.Frag) : Sp := fun vs H Q _ => ∃ (v u : V) (G : Gm) (b : Bx), vs = [v, u] ∧ LvAt K H v G ∧ G.ok ∧ BxAt K H u b ∧ ∀ H', Same H H' → Q (.bl (decide (G.hi ≤ b.y))) H'
theorem scBel : FnScope ["level", "box"] ["level", "box"] (defScope s_is_below) := ⟨rfl, rfl, rfl, by decide +kernel, rfl, by decide +kernel, by decide +kernel⟩
theorem ok_is_below (T : Txt K w mg) : FnOk P w K mg base CX0 2 (He.fAd K ("is_below", none)) (fdAt K (He.fAd K ("is_below", none))) ["level", "box"] (spBel K) := by
  refine T.F_is_below.ok scBel (fun vs H Q E h => ?_) (fun cdv A outer s H vs Q E hr h => ?_)
  · obtain ⟨v, u, G, b, rfl, _⟩ := h
    rfl
  · obtain ⟨v, u, G, b, rfl, lv, o, ⟨ua, rfl, su⟩, k⟩ := h
    refine ⟨_, PSs.nox (pss_one (ps_ret (pe_cmpR op_ge (pe_ix (r := rIxT K) ix_tup (pv 1) pe_int (fun _ _ => rfl)) (pe_ix (r := rIxT K) ix_tup (pe_call (ok_extent T) (hr.mono (by first | decide | omega)) (by rfl) T.g_extent (T.F_extent).kp T.b_extent .nil pass0 (pa_cons (pv 0) pa_nil)) pe_int (fun _ _ => rfl)) (nomark _)))), ?_⟩
    exact ⟨_, rfl, ua, _, _, _, rfl, rfl, su, atI_nat (j := 1) rfl, _, rfl, v, G, rfl, lv, o, fun p H' s hp => ⟨p, _, _, _, rfl, rfl, SqT.of hp, atI_nat (j := 1) rfl, _, _, rfl, rfl, k H' s⟩⟩
def spFal (K : PySem.W.Frag) : Sp := fun vs H Q _ => ∃ (g t : V) (G : Gm) (th : Tg) (kd : Kd), vs = [g, t] ∧ GmAt K H g G ∧ G.ok ∧ TgAt K H t th ∧ G.kds[th.k]? = some kd ∧ ∀ H', Same H H' → Q (.bl (decide (G.hi ≤ th.y))) H'
theorem scFal : FnScope ["game", "thing"] ["game", "thing"] (defScope s_is_fallen) := ⟨rfl, rfl, rfl, by decide +kernel, rfl, by decide +kernel, by decide +kernel⟩
theorem ok_is_fallen (T : Txt K w mg) : FnOk P w K mg base CX0 3 (He.fAd K ("is_fallen", none)) (fdAt K (He.fAd K ("is_fallen", none))) ["game", "thing"] (spFal K) := by
  refine T.F_is_fallen.ok scFal (fun vs H Q E h => ?_) (fun cdv A outer s H vs Q E hr h => ?_)
  · obtain ⟨g, t, G, th, kd, rfl, _⟩ := h
    rfl
  · obtain ⟨g, t, G, th, kd, rfl, hg, o, ht, hkd, k⟩ := h
    refine ⟨_, PSs.nox (pss_one (ps_ret (pe_call (ok_is_below T) (hr.mono (by first | decide | omega)) (by rfl) T.g_is_below (T.F_is_below).kp T.b_is_below .nil pass0 (pa_cons (pe_ix (r := rIxT K) ix_tup (pv 0) pe_int (fun _ _ => rfl)) (pa_cons (pe_call (ok_body_box T) (hr.mono (by first | decide | omega)) (by rfl) T.g_body_box (T.F_body_box).kp T.b_body_box .nil pass0 (pa_cons (pv 0) (pa_cons (pv 1) pa_nil))) pa_nil))))), ?_⟩
    obtain ⟨ga, lv, ks, rfl, sg, hl, _⟩ := id hg
    refine ⟨_, rfl, ga, _, _, _, rfl, rfl, sg, atI_nat (j := 0) rfl, _, rfl, _, rfl, _, t, G, th, kd, rfl, hg, ht, hkd, fun p H' s hp => ?_⟩
    exact ⟨lv, .ref p, G, th.box kd, rfl, hl.tf (same_tf s), o, ⟨p, rfl, SqT.of hp⟩, fun H2 s2 => k H2 (s.trans s2)⟩
end
end K27
set_option maxRecDepth 100000
set_option maxHeartbeats 4000000
/-! Signs. -/
namespace K27
open PySem PySem.Spec PyProof.Rows L2 KF KD KP
def rngI (lo hi : Int) : List Int := (List.range (hi - lo).toNat).map fun i : Nat => lo + (i : Int)
theorem rngI_len (lo hi : Int) : (rngI lo hi).length = (hi - lo).toNat := by rw [rngI, List.length_map, List.length_range]
theorem rngI_get {lo hi : Int} {i : Nat} (h : i < (hi - lo).toNat) : (rngI lo hi)[i]? = some (lo + (i : Int)) := by
  rw [rngI, List.getElem?_map, rng_at h]
  rfl
theorem rngI_take {lo hi : Int} {i : Nat} (h : i < (hi - lo).toNat) : (rngI lo hi).take (i + 1) = (rngI lo hi).take i ++ [lo + (i : Int)] := by
  rw [List.take_add_one, rngI_get h]
  rfl
theorem rngI_all (lo hi : Int) : (rngI lo hi).take (hi - lo).toNat = rngI lo hi := List.take_of_length_le (by rw [rngI_len]; exact Nat.le_refl _)
theorem rngI_mem {lo hi x : Int} : x ∈ rngI lo hi ↔ lo ≤ x ∧ x < hi := by
  rw [rngI, List.mem_map]
  constructor
  · rintro ⟨i, hi, rfl⟩
    have := List.mem_range.mp hi
    omega
  · intro h
    exact ⟨(x - lo).toNat, List.mem_range.mpr (by omega), by omega⟩
def Gm.cp (G : Gm) (r c : Nat) : Nat := match G.rows[r]? with
  | some s => s.cps.toList.getD c 46
  | none => 46
/-- the sign at a unit -/
def Gm.sg (G : Gm) (x y : Int) : Nat := if x < 0 ∨ y < 0 ∨ G.wi ≤ x then 35 else if G.hi ≤ y then 46 else G.cp (y / 8).toNat (x / 8).toNat
def sgV (c : Nat) : V := .str ⟨#[c]⟩
structure Bx.lim (b : Bx) : Prop where
  x1 : -100000 ≤ b.x
  x2 : b.x ≤ 100000
  y1 : -100000 ≤ b.y
  y2 : b.y ≤ 100000
  w1 : 1 ≤ b.w
  w2 : b.w ≤ 100
  h1 : 1 ≤ b.h
  h2 : b.h ≤ 100
def Gm.sgr (G : Gm) (b : Bx) (r : Int) : List Nat := (rngI (b.x / 8) ((b.x + b.w - 1) / 8 + 1)).map fun c => G.sg (8 * c) (8 * r)
def Gm.sgs (G : Gm) (b : Bx) : List Nat := (rngI (b.y / 8) ((b.y + b.h - 1) / 8 + 1)).flatMap (G.sgr b)
theorem sgr_len (G : Gm) {b : Bx} (l : b.lim) (r : Int) : (G.sgr b r).length ≤ 20 := by
  rw [Gm.sgr, List.length_map, rngI_len]
  have := l.w1
  have := l.w2
  omega
theorem flat_len {f : Int → List Nat} (h : ∀ r, (f r).length ≤ 20) : ∀ l : List Int, (l.flatMap f).length ≤ 20 * l.length
  | [] => by simp
  | x :: l => by
    rw [List.flatMap_cons, List.length_append, List.length_cons]
    have := h x
    have := flat_len h l
    omega
theorem sgs_len (G : Gm) {b : Bx} (l : b.lim) : (G.sgs b).length ≤ 400 := by
  have h := flat_len (sgr_len G l) (rngI (b.y / 8) ((b.y + b.h - 1) / 8 + 1))
  rw [rngI_len] at h
  have := l.h1
  have := l.h2
  rw [Gm.sgs]
  omega
def wall (c : Nat) : Bool := decide (c ∈ (Str.ofString "#<>").cps.toList)
def Gm.fr (G : Gm) (b : Bx) : Bool := (G.sgs b).all fun c => !wall c
def Gm.stp (G : Gm) (b : Bx) (dx dy : Int) : Bool := !G.fr (b.mv dx dy) || (decide (dy = 1) && (decide ((b.y + b.h) % 8 = 0) && (G.sgs ⟨b.x, b.y + b.h, b.w, 1⟩).any fun c => decide (c = 61)))
section
variable {P : Program} {w : World} {K : PySem.W.Frag} {mg : Str → Option Value} {base : Heap}
def spSg (K : PySem.W.Frag) : Sp := fun vs H Q _ => ∃ (g : V) (G : Gm) (x y : Int), vs = [g, .int x, .int y] ∧ GmAt K H g G ∧ G.ok ∧ ∀ H', Same H H' → Q (sgV (G.sg x y)) H'
theorem scSg : FnScope ["game", "x", "y", "wide", "high"] ["game", "x", "y"] (defScope s_law_sign) := ⟨rfl, rfl, rfl, by decide +kernel, rfl, by decide +kernel, by decide +kernel⟩
theorem ok_law_sign (T : Txt K w mg) : FnOk P w K mg base CX0 2 (He.fAd K ("_law_sign", none)) (fdAt K (He.fAd K ("_law_sign", none))) ["game", "x", "y"] (spSg K) := by
  refine T.F_law_sign.ok scSg (fun vs H Q E h => ?_) (fun cdv A outer s H vs Q E hr h => ?_)
  · obtain ⟨g, G, x, y, rfl, _⟩ := h
    rfl
  · obtain ⟨g, G, x, y, rfl, hg, o, k⟩ := h
    refine ⟨_, PSs.nox (pss_cons (ps_asg (pe_call (ok_law_size T) (hr.mono (by first | decide | omega)) (by rfl) T.g_law_size (T.F_law_size).kp T.b_law_size .nil pass0 (pa_cons (pv 0) pa_nil)) (pg_tup (by rfl) (pgs_cons (pg_name (i := 3) scSg.nd rfl (Or.inl rfl)) (pgs_cons (pg_name (i := 4) scSg.nd rfl (Or.inl rfl)) pgs_nil))))
      (pss_cons (ps_if (PW.pt (pw_or (pt_cmpR op_lt (pv 1) pe_int (nomark _)) (pw_or (pt_cmpR op_lt (pv 2) pe_int (nomark _)) (pw_or1 (pt_cmpR op_ge (pv 1) (pv 3) (nomark _)))))) (pss_one (ps_ret pe_str)) pss_nil)
      (pss_cons (ps_if (pt_cmpR op_ge (pv 2) (pv 4) (nomark _)) (pss_one (ps_ret pe_str)) pss_nil)
      (pss_one (ps_ret (pe_ix ix_str (pe_ix (r := rIxT K) ix_tup (pe_ix (r := rIxT K) ix_tup (pe_ix (r := rIxT K) ix_tup (pv 0) pe_int (fun _ _ => rfl)) pe_int (fun _ _ => rfl)) (pe_op op_fdivW (pv 2) pe_int) (fun _ _ => rfl)) (pe_op op_fdivW (pv 1) pe_int) (fun _ _ => rfl))))))), ?_⟩
    refine ⟨_, rfl, g, G, rfl, hg, o, fun p H1 s1 hp => ?_⟩
    refine ⟨p, _, rfl, SqT.of hp, rfl, _, _, rfl, _, _, rfl, rfl, ?_⟩
    have out : ∀ {v : V}, v = sgV (G.sg x y) → Q v H1 := fun e => by rw [e]; exact k H1 s1
    have e35 : V.str "#" = sgV 35 := by decide +kernel
    have e46 : V.str "." = sgV 46 := by decide +kernel
    refine ⟨_, rfl, _, _, rfl, rfl, _, rfl, ite2 (fun z => ?_) (fun z => ?_)⟩
    · have z := of_decide_eq_true z
      exact out (by rw [Gm.sg, if_pos (.inl z)]; exact e35)
    have z1 : ¬ x < 0 := fun h => z (decide_eq_true h)
    refine ⟨_, rfl, _, _, rfl, rfl, _, rfl, ite2 (fun z => ?_) (fun z => ?_)⟩
    · have z := of_decide_eq_true z
      exact out (by rw [Gm.sg, if_pos (.inr (.inl z))]; exact e35)
    have z2 : ¬ y < 0 := fun h => z (decide_eq_true h)
    refine ⟨_, rfl, _, rfl, _, _, rfl, rfl, _, rfl, ite2 (fun z => ?_) (fun z => ?_)⟩
    · have z := of_decide_eq_true z
      exact out (by rw [Gm.sg, if_pos (.inr (.inr z))]; exact e35)
    have z3 : ¬ G.wi ≤ x := fun h => z (decide_eq_true h)
    refine ⟨_, rfl, _, rfl, _, _, rfl, rfl, _, rfl, ite2 (fun z => ?_) (fun z => ?_)⟩
    · have z := of_decide_eq_true z
      exact out (by rw [Gm.sg, if_neg (by omega), if_pos z]; exact e46)
    have z4 : ¬ G.hi ≤ y := fun h => z (decide_eq_true h)
    have d8 : ∀ i : Int, CDivW i 8 := fun i => wide_div (b := 10) (by decide) (by decide) (by decide) (by decide)
    obtain ⟨ga, lv, ks, rfl, sg, ⟨l, rs, st, pu, rfl, sl, sr⟩, _⟩ := hg.tf (same_tf s1)
    have hw : G.wi = 8 * (G.W : Int) := rfl
    have hh : G.hi = 8 * (G.rows.length : Int) := rfl
    obtain ⟨r, hr2, er⟩ : ∃ r : Nat, r < G.rows.length ∧ y / 8 = (r : Int) := ⟨(y / 8).toNat, by omega, by omega⟩
    obtain ⟨c, hc2, ec⟩ : ∃ c : Nat, c < G.W ∧ x / 8 = (c : Int) := ⟨(x / 8).toNat, by omega, by omega⟩
    have hrow := List.getElem?_eq_getElem hr2
    obtain ⟨s0, hs0⟩ : ∃ s0, s0 = G.rows[r] := ⟨_, rfl⟩
    rw [← hs0] at hrow
    have hrl : s0.length = G.W := o.wd _ (List.mem_of_getElem? hrow)
    have hcl : c < s0.cps.toList.length := by
      rw [Array.length_toList]
      show c < s0.length
      omega
    have hrv : (G.rows.map V.str)[r]? = some (.str s0) := by rw [List.getElem?_map, hrow]; rfl
    have fin : sgV s0.cps.toList[c] = sgV (G.sg x y) := by
      rw [Gm.sg, if_neg (by omega), if_neg z4, er, ec, Int.toNat_natCast, Int.toNat_natCast, Gm.cp, hrow]
      dsimp only
      rw [List.getD, List.getElem?_eq_getElem hcl]
      rfl
    refine ⟨_, rfl, ga, _, _, _, rfl, rfl, sg, atI_nat (j := 0) rfl, l, _, _, _, rfl, rfl, sl, atI_nat (j := 0) rfl, _, rfl, _, _, rfl, rfl, d8 _, rs, _, _, .str s0, rfl, rfl, sr, (by rw [er]; exact atI_nat hrv), _, rfl, _, _, rfl, rfl, d8 _, s0, _, s0.cps.toList[c], rfl, rfl, Nat.le_trans (show s0.length ≤ 30 by have := o.w2; omega) (by decide), (by rw [ec]; exact atI_nat (List.getElem?_eq_getElem hcl)), ?_⟩
    show Q (sgV s0.cps.toList[c]) H1
    rw [fin]
    exact k H1 s1
def spSgs (K : PySem.W.Frag) : Sp := fun vs H Q _ => ∃ (g u : V) (G : Gm) (b : Bx), vs = [g, u] ∧ GmAt K H g G ∧ G.ok ∧ BxAt K H u b ∧ b.lim ∧ ∀ p H', Same H H' → H' p = some (.lst ((G.sgs b).map sgV)) → Q (.ref p) H'
theorem scSs : FnScope ["game", "box", "found", "row", "column"] ["game", "box"] (defScope s_law_signs) := ⟨rfl, rfl, rfl, by decide +kernel, rfl, by decide +kernel, by decide +kernel⟩
theorem ok_law_signs (T : Txt K w mg) : FnOk P w K mg base CX0 3 (He.fAd K ("_law_signs", none)) (fdAt K (He.fAd K ("_law_signs", none))) ["game", "box"] (spSgs K) := by
  refine T.F_law_signs.ok scSs (fun vs H Q E h => ?_) (fun cdv A outer s H vs Q E hr h => ?_)
  · obtain ⟨g, u, G, b, rfl, _⟩ := h
    rfl
  · obtain ⟨g, u, G, b, rfl, hg, o, hb, lim, k⟩ := h
    refine ⟨_, PSs.nox (pss_cons (ps_set (i := 2) scSs.nd rfl (Or.inl rfl) (pe_lst pa_nil))
      (pss_cons (ps_for PassesOwn.never rfl (pi_range2 (by rfl) T.n_range (pa_cons (pe_op op_fdivW (pe_ix (r := rIxT K) ix_tup (pv 1) pe_int (fun _ _ => rfl)) pe_int) (pa_cons (pe_op op_add (pe_op op_fdivW (pe_op op_sub (pe_op op_add (pe_ix (r := rIxT K) ix_tup (pv 1) pe_int (fun _ _ => rfl)) (pe_ix (r := rIxT K) ix_tup (pv 1) pe_int (fun _ _ => rfl))) pe_int) pe_int) pe_int) pa_nil))) (pg_name (i := 3) scSs.nd rfl (Or.inl rfl)) (pss_one (ps_for PassesOwn.never rfl (pi_range2 (by rfl) T.n_range (pa_cons (pe_op op_fdivW (pe_ix (r := rIxT K) ix_tup (pv 1) pe_int (fun _ _ => rfl)) pe_int) (pa_cons (pe_op op_add (pe_op op_fdivW (pe_op op_sub (pe_op op_add (pe_ix (r := rIxT K) ix_tup (pv 1) pe_int (fun _ _ => rfl)) (pe_ix (r := rIxT K) ix_tup (pv 1) pe_int (fun _ _ => rfl))) pe_int) pe_int) pe_int) pa_nil))) (pg_name (i := 4) scSs.nd rfl (Or.inl rfl)) (pss_one (ps_expr (pe_bm PySem.F.plainAttrs_list PySem.F.slot_list_append PySem.F.type_list_append mt_append (pv 2) (pa_cons (pe_call (ok_law_sign T) (hr.mono (by first | decide | omega)) (by rfl) T.g_law_sign (T.F_law_sign).kp T.b_law_sign .nil pass0 (pa_cons (pv 0) (pa_cons (pe_op op_mulW pe_int (pv 4)) (pa_cons (pe_op op_mulW pe_int (pv 3)) pa_nil)))) pa_nil)))))))
      (pss_one (ps_ret (pv 2))))), ?_⟩
    obtain ⟨ua, rfl, su⟩ := hb
    obtain ⟨l1, l2, l3, l4, l5, l6, l7, l8⟩ := id lim
    have d8 : ∀ i : Int, CDivW i 8 := fun i => wide_div (b := 10) (by decide) (by decide) (by decide) (by decide)
    have p62 : (2 : Int) ^ 62 = 4611686018427387904 := by decide
    refine ⟨(show 0 ≤ sizeLine by decide), fun p np => ?_⟩
    have s0 := new_same (o := .lst []) np
    have su0 := (same_tf s0).sq su
    obtain ⟨lo, hlo⟩ : ∃ z, z = b.y / 8 := ⟨_, rfl⟩
    obtain ⟨hi, hhi⟩ : ∃ z, z = (b.y + b.h - 1) / 8 + 1 := ⟨_, rfl⟩
    obtain ⟨lo2, hlo2⟩ : ∃ z, z = b.x / 8 := ⟨_, rfl⟩
    obtain ⟨hi2, hhi2⟩ : ∃ z, z = (b.x + b.w - 1) / 8 + 1 := ⟨_, rfl⟩
    have cnt : ∀ i, i ≤ (hi - lo).toNat → (((rngI lo hi).take i).flatMap (G.sgr b)).length ≤ 400 := fun i hi2 => by
      have h := flat_len (sgr_len G lim) ((rngI lo hi).take i)
      rw [List.length_take, rngI_len] at h
      omega
    have k' : ∀ p H', Same H H' → H' p = some (.lst (((rngI lo hi).flatMap (G.sgr b)).map sgV)) → Q (.ref p) H' := fun p H' s h => k p H' s (by rw [h, hlo, hhi]; rfl)
    refine ⟨_, rfl, ua, _, _, _, rfl, rfl, su0, atI_nat (j := 1) rfl, _, _, rfl, rfl, d8 _, _, rfl, ua, _, _, _, rfl, rfl, su0, atI_nat (j := 1) rfl, _, rfl, ua, _, _, _, rfl, rfl, su0, atI_nat (j := 3) rfl, _, _, rfl, rfl, _, _, rfl, rfl, _, _, rfl, rfl, d8 _, _, _, rfl, rfl, lo, hi, (by rw [hlo, hhi]), (by rw [p62]; omega), ?_⟩
    refine for_range (lo := lo) (n := (hi - lo).toNat) (fun i σ H' => ∃ v3 v4 : Option V, σ = [some g, some (.ref ua), some (.ref p), v3, v4] ∧ H' p = some (.lst ((((rngI lo hi).take i).flatMap (G.sgr b)).map sgV)) ∧ Same H H') ⟨_, _, rfl, by rw [List.take_zero]; exact upd_same, s0⟩ (fun i σ H1 hi1 hPv => ?_) (fun σ H1 hPv => ?_)
    rotate_left
    · obtain ⟨v3, v4, rfl, hp1, sm⟩ := hPv
      rw [rngI_all] at hp1
      exact ⟨_, rfl, k' p H1 sm hp1⟩
    obtain ⟨v3, v4, rfl, hp1, sm⟩ := hPv
    have su1 := (same_tf sm).sq su
    refine ⟨_, rfl, ua, _, _, _, rfl, rfl, su1, atI_nat (j := 0) rfl, _, _, rfl, rfl, d8 _, _, rfl, ua, _, _, _, rfl, rfl, su1, atI_nat (j := 0) rfl, _, rfl, ua, _, _, _, rfl, rfl, su1, atI_nat (j := 2) rfl, _, _, rfl, rfl, _, _, rfl, rfl, _, _, rfl, rfl, d8 _, _, _, rfl, rfl, lo2, hi2, (by rw [hlo2, hhi2]), (by rw [p62]; omega), ?_⟩
    obtain ⟨pre, hpre⟩ : ∃ z, z = ((rngI lo hi).take i).flatMap (G.sgr b) := ⟨_, rfl⟩
    have hpl : pre.length ≤ 400 := by rw [hpre]; exact cnt i (by omega)
    rw [← hpre] at hp1
    refine for_range (lo := lo2) (n := (hi2 - lo2).toNat) (fun j σ H' => ∃ v4 : Option V, σ = [some g, some (.ref ua), some (.ref p), some (.int (lo + (i : Int))), v4] ∧ H' p = some (.lst ((pre ++ ((rngI lo2 hi2).take j).map fun c => G.sg (8 * c) (8 * (lo + (i : Int)))).map sgV)) ∧ Same H H') ⟨_, rfl, by rw [List.take_zero, List.map_nil, List.append_nil]; exact hp1, sm⟩ (fun j σ H2 hj hPv => ?_) (fun σ H2 hPv => ?_)
    rotate_left
    · obtain ⟨v4, rfl, hp2, sm2⟩ := hPv
      refine ⟨_, _, rfl, ?_, sm2⟩
      rw [hp2, rngI_all, rngI_take hi1, List.flatMap_append, ← hpre, hlo2, hhi2]
      simp [Gm.sgr]
    obtain ⟨v4, rfl, hp2, sm2⟩ := hPv
    have mw : ∀ z : Int, -1000000 ≤ z → z ≤ 1000000 → CMulW 8 z := fun z h1 h2 => wide_mul (a := 40) (b := 40) (by decide) (by
      have : z.natAbs < 2 ^ 40 := by have : (2 : Nat) ^ 40 = 1099511627776 := by decide
                                     omega
      exact this) (by decide) (by decide) (by decide)
    refine ⟨_, rfl, .inl ⟨rfl, _, SqL.of hp2⟩, _, rfl, _, rfl, _, _, rfl, rfl, mw _ (by omega) (by omega), _, rfl, _, _, rfl, rfl, mw _ (by omega) (by omega), g, G, _, _, rfl, hg.tf (same_tf sm2), o, fun H3 s3 => ?_⟩
    have hp3 := s3 _ _ hp2
    refine ⟨p, _, _, rfl, rfl, hp3, ?_, _, rfl, ?_, fun c ob z => ?_⟩
    · rw [List.length_map, List.length_append, List.length_map, List.length_take, rngI_len]
      exact Nat.lt_of_lt_of_le (show _ < 1000 by omega) (by decide)
    · rw [upd_same, rngI_take hj, List.map_append, List.map_append, List.map_append, List.map_append, List.append_assoc]
      rfl
    · rw [upd_ne (ne_of_none z np)]
      exact s3 _ _ (sm2 _ _ z)
end
end K27
set_option maxRecDepth 100000
set_option maxHeartbeats 4000000
/-! Free, stopped: the law. -/
namespace K27
open PySem PySem.Spec PyProof.Rows L2 KF KD KP
section
variable {P : Program} {w : World} {K : PySem.W.Frag} {mg : Str → Option Value} {base : Heap}
def spFr (K : PySem.W.Frag) : Sp := fun vs H Q _ => ∃ (g u : V) (G : Gm) (b : Bx), vs = [g, u] ∧ GmAt K H g G ∧ G.ok ∧ BxAt K H u b ∧ b.lim ∧ ∀ H', Same H H' → Q (.bl (G.fr b)) H'
theorem scFr : FnScope ["game", "box", "sign"] ["game", "box"] (defScope s_law_free) := ⟨rfl, rfl, rfl, by decide +kernel, rfl, by decide +kernel, by decide +kernel⟩
theorem any_sg (c : Nat) : ∀ l : List Nat, inV (sgV c) (l.map sgV) = l.any fun d => decide (d = c)
  | [] => rfl
  | d :: l => by
    have h := any_sg c l
    unfold inV at h ⊢
    rw [List.map_cons, List.any_cons, List.any_cons, h]
    congr 1
    show ((⟨#[d]⟩ : Str) == ⟨#[c]⟩) = _
    by_cases e : d = c
    · rw [e, decide_eq_true rfl]
      exact beq_self_eq_true _
    · rw [decide_eq_false e]
      exact beq_eq_false_iff_ne.mpr fun z => e (by injection z with z; simpa using z)
theorem flat_sg : ∀ l : List Nat, (l.map sgV).all flatV = true
  | [] => rfl
  | _ :: l => flat_sg l
theorem ok_law_free (T : Txt K w mg) : FnOk P w K mg base CX0 4 (He.fAd K ("_law_free", none)) (fdAt K (He.fAd K ("_law_free", none))) ["game", "box"] (spFr K) := by
  refine T.F_law_free.ok scFr (fun vs H Q E h => ?_) (fun cdv A outer s H vs Q E hr h => ?_)
  · obtain ⟨g, u, G, b, rfl, _⟩ := h
    rfl
  · obtain ⟨g, u, G, b, rfl, hg, o, hb, lim, k⟩ := h
    refine ⟨_, PSs.nox (pss_one (ps_ret (pe_callB (cr_all rfl) (by rfl) T.n_all PyProof.Rows.Boot.«all» (pa_cons (pe_lc (own := [("sign", 2)]) (g := gName 2) (tt := tYes) (by rfl) scFr.nd (pi_list (pe_call (ok_law_signs T) (hr.mono (by decide)) (by rfl) T.g_law_signs (T.F_law_signs).kp T.b_law_signs .nil pass0 (pa_cons (pv 0) (pa_cons (pv 1) pa_nil)))) (blkOk_by (by kernel_rfl)) (fun _ _ _ _ _ => pg_name (i := 2) scFr.nd rfl (Or.inl rfl)) (fun _ _ _ _ _ => pts_nil) (fun _ _ _ _ _ => pe_cmpR op_notIn_sign (pv 2) pe_str rfl)) pa_nil)))), ?_⟩
    refine ⟨_, rfl, _, rfl, g, u, G, b, rfl, hg, o, hb, lim, fun p H1 s1 hp => ⟨p, rfl, ⟨_, SqL.of hp⟩, fun D hD => ?_⟩⟩
    have hl := sgs_len G lim
    refine lc_it (walk_list (K := K) (a := p) (xs := (G.sgs b).map sgV)) (fun i H' => Acc H1 D (fl (G.sgs b) (fun _ => true) (fun c => V.bl (!wall c)) i) H') (acc_0 hD) (fun i H' _ h => SqL.of (h.1 _ _ hp)) (fun i v H' Hx hi h yy => ?_) (fun H' h => ?_)
    · obtain ⟨rfl, hv⟩ := yy
      rw [List.length_map] at hi
      have hx := List.getElem?_eq_getElem hi
      rw [List.getElem?_map, hx] at hv
      cases hv
      refine ⟨rfl, ?_⟩
      dsimp only [tYes]
      rw [if_pos rfl]
      exact ⟨_, rfl, _, _, rfl, rfl, acc_yes (f := fun c => V.bl (!wall c)) hD h (Same.refl _) hx rfl (by omega)⟩
    · rw [List.length_map, fl_every] at h
      refine ⟨D, (G.sgs b).map fun c => !wall c, rfl, SqL.of (by rw [h.2, List.map_map]; rfl), ?_⟩
      rw [List.all_map]
      exact k H' (s1.trans h.1)
def spStp (K : PySem.W.Frag) : Sp := fun vs H Q _ => ∃ (g u : V) (G : Gm) (b : Bx) (dx dy : Int), vs = [g, u, .int dx, .int dy] ∧ GmAt K H g G ∧ G.ok ∧ BxAt K H u b ∧ b.lim ∧ (b.mv dx dy).lim ∧ b.y + b.h ≤ 100000 ∧ ∀ H', Same H H' → Q (.bl (G.stp b dx dy)) H'
theorem scStp : FnScope ["game", "box", "dx", "dy", "lower"] ["game", "box", "dx", "dy"] (defScope s_law_stops) := ⟨rfl, rfl, rfl, by decide +kernel, rfl, by decide +kernel, by decide +kernel⟩
theorem ok_law_stops (T : Txt K w mg) : FnOk P w K mg base CX0 5 (He.fAd K ("_law_stops", none)) (fdAt K (He.fAd K ("_law_stops", none))) ["game", "box", "dx", "dy"] (spStp K) := by
  refine T.F_law_stops.ok scStp (fun vs H Q E h => ?_) (fun cdv A outer s H vs Q E hr h => ?_)
  · obtain ⟨g, u, G, b, dx, dy, rfl, _⟩ := h
    rfl
  · obtain ⟨g, u, G, b, dx, dy, rfl, hg, o, ⟨ua, rfl, su⟩, lim, lim2, yh, k⟩ := h
    refine ⟨_, PSs.nox (pss_cons (ps_if (pt_not (pt_val (pe_call (ok_law_free T) (hr.mono (by first | decide | omega)) (by rfl) T.g_law_free (T.F_law_free).kp T.b_law_free .nil pass0 (pa_cons (pv 0) (pa_cons (pe_tup (pa_cons (pe_op op_add (pe_ix (r := rIxT K) ix_tup (pv 1) pe_int (fun _ _ => rfl)) (pv 2)) (pa_cons (pe_op op_add (pe_ix (r := rIxT K) ix_tup (pv 1) pe_int (fun _ _ => rfl)) (pv 3)) (pa_cons (pe_ix (r := rIxT K) ix_tup (pv 1) pe_int (fun _ _ => rfl)) (pa_cons (pe_ix (r := rIxT K) ix_tup (pv 1) pe_int (fun _ _ => rfl)) pa_nil))))) pa_nil))))) (pss_one (ps_ret pe_bl)) pss_nil)
      (pss_cons (ps_set (i := 4) scStp.nd rfl (Or.inl rfl) (pe_op op_add (pe_ix (r := rIxT K) ix_tup (pv 1) pe_int (fun _ _ => rfl)) (pe_ix (r := rIxT K) ix_tup (pv 1) pe_int (fun _ _ => rfl))))
      (pss_cons (ps_if (PW.pt (pw_or (pt_cmpR op_ne (pv 3) pe_int (nomark _)) (pw_or1 (pt_cmpR op_ne (pe_op op_mod (pe_callTy call_int1 (by rfl) T.n_int PyProof.Rows.Boot.«int» (pa_cons (pv 4) pa_nil)) pe_int) pe_int (nomark _))))) (pss_one (ps_ret pe_bl)) pss_nil)
      (pss_one (ps_ret (pe_cmpR (r := rIn K false) op_in_seq pe_str (pe_call (ok_law_signs T) (hr.mono (by first | decide | omega)) (by rfl) T.g_law_signs (T.F_law_signs).kp T.b_law_signs .nil pass0 (pa_cons (pv 0) (pa_cons (pe_tup (pa_cons (pe_ix (r := rIxT K) ix_tup (pv 1) pe_int (fun _ _ => rfl)) (pa_cons (pv 4) (pa_cons (pe_ix (r := rIxT K) ix_tup (pv 1) pe_int (fun _ _ => rfl)) (pa_cons pe_int pa_nil))))) pa_nil))) rfl)))))), ?_⟩
    have e61 : V.str "=" = sgV 61 := by decide +kernel
    refine ⟨_, rfl, _, rfl, ua, _, _, _, rfl, rfl, su, atI_nat (j := 0) rfl, _, rfl, _, _, rfl, rfl, _, rfl, ua, _, _, _, rfl, rfl, su, atI_nat (j := 1) rfl, _, rfl, _, _, rfl, rfl, _, rfl, ua, _, _, _, rfl, rfl, su, atI_nat (j := 2) rfl, _, rfl, ua, _, _, _, rfl, rfl, su, atI_nat (j := 3) rfl, (show 4 ≤ sizeLine by decide), fun p np => ?_⟩
    have s1 := new_same (o := .tup (b.mv dx dy).vs) np
    have sp : SqT K (upd H p (.tup (b.mv dx dy).vs)) p (b.mv dx dy).vs := SqT.of upd_same
    refine ⟨g, .ref p, G, b.mv dx dy, rfl, hg.tf (same_tf s1), o, ⟨p, rfl, sp⟩, lim2, fun H2 s2 => ?_⟩
    have S2 := s1.trans s2
    have su2 := (same_tf S2).sq su
    have kk : ∀ {v : V} {H' : Hp}, v = V.bl (G.stp b dx dy) → Same H H' → Q v H' := fun e s => by rw [e]; exact k _ s
    cases e : G.fr (b.mv dx dy) with
    | false => exact ⟨false, rfl, iteT (kk (by rw [Gm.stp, e]; rfl) S2)⟩
    | true =>
      have e2 : G.stp b dx dy = (decide (dy = 1) && (decide ((b.y + b.h) % 8 = 0) && (G.sgs ⟨b.x, b.y + b.h, b.w, 1⟩).any fun c => decide (c = 61))) := by rw [Gm.stp, e]; rfl
      refine ⟨true, rfl, iteF ?_⟩
      refine ⟨_, rfl, ua, _, _, _, rfl, rfl, su2, atI_nat (j := 1) rfl, _, rfl, ua, _, _, _, rfl, rfl, su2, atI_nat (j := 3) rfl, _, _, rfl, rfl, ?_⟩
      refine ⟨_, rfl, rfl, _, rfl, ite2 (fun z => ?_) (fun z => ?_)⟩
      · refine kk ?_ S2
        have hz : ¬ dy = 1 := fun q => by rw [q] at z; exact absurd z (by decide)
        rw [e2, decide_eq_false hz]
        rfl
      have hdy : dy = 1 := Classical.byContradiction fun q => z (by rw [decide_eq_false (fun p => q (by injection p))]; rfl)
      refine ⟨_, rfl, .inl ⟨_, rfl, _, _, rfl, rfl, (show (0 : Int) < 8 by decide), rfl, _, rfl, ite2 (fun z => ?_) (fun z => ?_)⟩⟩
      · refine kk ?_ S2
        have hz : ¬ (b.y + b.h) % 8 = 0 := fun q => by
          have z : (!decide (V.int ((b.y + b.h) % 8) = V.int 0)) = true := z
          rw [q] at z
          exact absurd z (by decide)
        rw [e2, decide_eq_false hz]
        simp
      have h8 : (b.y + b.h) % 8 = 0 := Classical.byContradiction fun q => z (by
        show (!decide (V.int ((b.y + b.h) % 8) = V.int 0)) = true
        rw [decide_eq_false (fun p => q (by injection p))]; rfl)
      refine ⟨_, rfl, _, rfl, ua, _, _, _, rfl, rfl, su2, atI_nat (j := 0) rfl, _, rfl, _, rfl, ua, _, _, _, rfl, rfl, su2, atI_nat (j := 2) rfl, (show 4 ≤ sizeLine by decide), fun p3 np3 => ?_⟩
      have s3 := new_same (o := .tup (Bx.mk b.x (b.y + b.h) b.w 1).vs) np3
      have sp3 : SqT K (upd H2 p3 (.tup (Bx.mk b.x (b.y + b.h) b.w 1).vs)) p3 (Bx.mk b.x (b.y + b.h) b.w 1).vs := SqT.of upd_same
      obtain ⟨l1, l2, l3, l4, l5, l6, l7, l8⟩ := id lim
      obtain ⟨m1, m2, m3, m4, m5, m6, m7, m8⟩ := id lim2
      have m4 : b.y + dy ≤ 100000 := m4
      have lim3 : (Bx.mk b.x (b.y + b.h) b.w 1).lim := ⟨l1, l2, show -100000 ≤ b.y + b.h by omega, ?_, l5, l6, show (1 : Int) ≤ 1 by decide, show (1 : Int) ≤ 100 by decide⟩
      rotate_left
      · exact yh
      refine ⟨g, .ref p3, G, _, rfl, hg.tf (same_tf (S2.trans s3)), o, ⟨p3, rfl, sp3⟩, lim3, fun p4 H4 s4 hp4 => ?_⟩
      refine ⟨p4, _, rfl, .inl (SqL.of hp4), rfl, flat_sg _, kk ?_ ((S2.trans s3).trans s4)⟩
      rw [e2, hdy, h8, e61]
      show V.bl (inV (sgV 61) _) = _
      rw [any_sg]
      rfl
end
end K27
set_option maxRecDepth 100000
set_option maxHeartbeats 4000000
/-! Clear, barred: the program. -/
namespace K27
open PySem PySem.Spec PyProof.Rows L2 KF KD KP
def cutL {α : Type} (l : List α) (t e : Nat) : List α := (l.drop (min t l.length)).take (min e l.length - min t l.length)
theorem cutL_mem {α : Type} {l : List α} {t e : Nat} {x : α} : x ∈ cutL l t e ↔ ∃ i, t ≤ i ∧ i < e ∧ l[i]? = some x := by
  constructor
  · intro h
    obtain ⟨j, hj⟩ := List.mem_iff_getElem?.mp h
    rw [cutL, List.getElem?_take] at hj
    split at hj
    · rw [List.getElem?_drop] at hj
      have := (List.getElem?_eq_some_iff.mp hj).1
      exact ⟨min t l.length + j, by omega, by omega, hj⟩
    · cases hj
  · rintro ⟨i, h1, h2, h3⟩
    have := (List.getElem?_eq_some_iff.mp h3).1
    refine List.mem_iff_getElem?.mpr ⟨i - min t l.length, ?_⟩
    rw [cutL, List.getElem?_take, if_pos (by omega), List.getElem?_drop, show min t l.length + (i - min t l.length) = i by omega]
    exact h3
theorem slA_gen {K : PySem.W.Frag} {H : Hp} {a : Addr} {xs : List V} {lo hi : Option Int} {Q : VK} (h : SqT K H a xs) (q : ∀ p H', Same H H' → SqT K H' p (cutV xs lo hi) → Q (.ref p) H') : rSlA K (.ref a) lo hi H Q := by
  refine ⟨a, xs, rfl, h, fun e => q a H (Same.refl _) ?_, fun _ p np => q p _ (new_same np) (SqT.of upd_same)⟩
  have e2 : cutV xs lo hi = xs := by
    unfold cutV
    rw [e.1, e.2, List.drop_zero, Nat.sub_zero, List.take_length]
  rw [e2]
  exact h
def mx0 (z : Int) : Int := if z > 0 then z else 0
theorem sIx_mx (n d : Nat) (z : Int) : HT.sIx n d (some (mx0 z)) = min (mx0 z).toNat n := by
  have h : ¬ mx0 z < 0 := by unfold mx0; split <;> omega
  show (if mx0 z < 0 then (mx0 z + (n : Int)).toNat else min (mx0 z).toNat n) = _
  rw [if_neg h]
/-- the signs of a row within a box, as the program cuts them -/
def Bx.cut (b : Bx) (s : Str) : Str := ⟨(cutL s.cps.toList (mx0 (b.x / 8)).toNat (mx0 ((b.x + b.w - 1) / 8 + 1)).toNat).toArray⟩
def Gm.ins (G : Gm) (b : Bx) : List Str := (cutL G.rows (mx0 (b.y / 8)).toNat (mx0 ((b.y + b.h - 1) / 8 + 1)).toNat).map b.cut
theorem cutV_strs (l : List Str) (x y : Int) : cutV (l.map V.str) (some (mx0 x)) (some (mx0 y)) = (cutL l (mx0 x).toNat (mx0 y).toNat).map V.str := by
  unfold cutV cutL
  rw [List.length_map, sIx_mx, sIx_mx, List.map_take, List.map_drop]
theorem cutS_cut (b : Bx) (s : Str) : cutS s (some (mx0 (b.x / 8))) (some (mx0 ((b.x + b.w - 1) / 8 + 1))) = b.cut s := by
  unfold cutS Bx.cut cutL
  rw [sIx_mx, sIx_mx, Array.length_toList]
  rfl
section
variable {P : Program} {w : World} {K : PySem.W.Frag} {mg : Str → Option Value} {base : Heap}
def spIns (K : PySem.W.Frag) : Sp := fun vs H Q _ => ∃ (v u : V) (G : Gm) (b : Bx), vs = [v, u] ∧ LvAt K H v G ∧ G.ok ∧ BxAt K H u b ∧ b.lim ∧ ∀ p H', Same H H' → H' p = some (.lst ((G.ins b).map V.str)) → Q (.ref p) H'
theorem scIns : FnScope ["level", "box", "x", "y", "wide", "high", "top", "end", "left", "right", "row"] ["level", "box"] (defScope s_signs_in) := ⟨rfl, rfl, rfl, by decide +kernel, rfl, by decide +kernel, by decide +kernel⟩
theorem ok_signs_in (T : Txt K w mg) : FnOk P w K mg base CX0 1 (He.fAd K ("signs_in", none)) (fdAt K (He.fAd K ("signs_in", none))) ["level", "box"] (spIns K) := by
  obtain ⟨u1, g1, r1⟩ := T.c_SQUARE
  refine T.F_signs_in.ok scIns (fun vs H Q E h => ?_) (fun cdv A outer s H vs Q E hr h => ?_)
  · obtain ⟨v, u, G, b, rfl, _⟩ := h
    rfl
  · obtain ⟨v, u, G, b, rfl, ⟨l, rs, st, pu, rfl, sl, sr⟩, o, ⟨ua, rfl, su⟩, lim, k⟩ := h
    refine ⟨_, PSs.nox (pss_cons (ps_asg (pv 1) (pg_tup (by rfl) (pgs_cons (pg_name (i := 2) scIns.nd rfl (Or.inl rfl)) (pgs_cons (pg_name (i := 3) scIns.nd rfl (Or.inl rfl)) (pgs_cons (pg_name (i := 4) scIns.nd rfl (Or.inl rfl)) (pgs_cons (pg_name (i := 5) scIns.nd rfl (Or.inl rfl)) pgs_nil))))))
      (pss_cons (ps_set (i := 6) scIns.nd rfl (Or.inl rfl) (pe_callB (call_max2 rfl) (by rfl) T.n_max PyProof.Rows.Boot.«max» (pa_cons pe_int (pa_cons (pe_op op_fdivW (pv 3) (pe_glob (v := .int 8) (by rfl) g1 r1)) pa_nil))))
      (pss_cons (ps_set (i := 7) scIns.nd rfl (Or.inl rfl) (pe_callB (call_max2 rfl) (by rfl) T.n_max PyProof.Rows.Boot.«max» (pa_cons pe_int (pa_cons (pe_op op_add (pe_op op_fdivW (pe_op op_sub (pe_op op_add (pv 3) (pv 5)) pe_int) (pe_glob (v := .int 8) (by rfl) g1 r1)) pe_int) pa_nil))))
      (pss_cons (ps_set (i := 8) scIns.nd rfl (Or.inr rfl) (pe_callB (call_max2 rfl) (by rfl) T.n_max PyProof.Rows.Boot.«max» (pa_cons pe_int (pa_cons (pe_op op_fdivW (pv 2) (pe_glob (v := .int 8) (by rfl) g1 r1)) pa_nil))))
      (pss_cons (ps_set (i := 9) scIns.nd rfl (Or.inr rfl) (pe_callB (call_max2 rfl) (by rfl) T.n_max PyProof.Rows.Boot.«max» (pa_cons pe_int (pa_cons (pe_op op_add (pe_op op_fdivW (pe_op op_sub (pe_op op_add (pv 2) (pv 4)) pe_int) (pe_glob (v := .int 8) (by rfl) g1 r1)) pe_int) pa_nil))))
      (pss_one (ps_ret (pe_lc (own := [("row", 10)]) (g := gName 10) (tt := tYes) (by rfl) scIns.nd (pi_tup (pe_slice (show SlR _ (rSlA K) from sl_tupA) (pe_ix (r := rIxT K) ix_tup (pv 0) pe_int (fun _ _ => rfl)) (po_some (pv 6)) (po_some (pv 7)))) (blkOk_by (own := [("row", 10)]) (N := ["level", "box", "x", "y", "wide", "high", "top", "end", "left", "right", "row"]) (sc := defScope s_signs_in) (by decide +kernel)) (fun _ _ _ _ _ => pg_name (i := 10) scIns.nd rfl (Or.inl rfl)) (fun _ _ _ _ _ => pts_nil) (fun _ _ _ _ _ => (pe_slice sl_str (pv 10) (po_some (pv 8)) (po_some (pv 9)))))))))))), ?_⟩
    have d8 : ∀ i : Int, CDivW i 8 := fun i => wide_div (b := 10) (by decide) (by decide) (by decide) (by decide)
    refine ⟨_, rfl, ua, _, rfl, su, rfl, _, _, rfl, _, _, rfl, _, _, rfl, _, _, rfl, rfl, ?_⟩
    refine ⟨_, rfl, _, _, rfl, rfl, d8 _, _, _, rfl, _, rfl, _, rfl, _, _, rfl, rfl, _, _, rfl, rfl, _, _, rfl, rfl, d8 _, _, _, rfl, rfl, _, _, rfl, _, rfl, _, _, rfl, rfl, d8 _, _, _, rfl, _, rfl, _, rfl, _, _, rfl, rfl, _, _, rfl, rfl, _, _, rfl, rfl, d8 _, _, _, rfl, rfl, _, _, rfl, ?_⟩
    obtain ⟨ss, hss⟩ : ∃ ss, ss = cutL G.rows (mx0 (b.y / 8)).toNat (mx0 ((b.y + b.h - 1) / 8 + 1)).toNat := ⟨_, rfl⟩
    have sub : ∀ s ∈ ss, s ∈ G.rows := fun s hs => by
      rw [hss] at hs
      obtain ⟨j, _, _, h2⟩ := cutL_mem.mp hs
      exact List.mem_of_getElem? h2
    have ssl : ss.length ≤ 20 := by
      rw [hss, cutL, List.length_take, List.length_drop]
      have := o.r2
      omega
    refine ⟨_, rfl, l, _, _, _, rfl, rfl, sl, atI_nat (j := 0) rfl, _, rfl, _, rfl, _, rfl, _, rfl, slA_gen sr fun p H1 s1 hp => ?_⟩
    have hp : SqT K H1 p (ss.map V.str) := by
      rw [hss, ← cutV_strs]
      exact hp
    refine ⟨p, rfl, ⟨_, hp⟩, fun D hD => ?_⟩
    refine lc_it (walk_tup (K := K) (a := p) (xs := ss.map V.str)) (fun i H' => Acc H1 D (fl ss (fun _ => true) (fun s => V.str (b.cut s)) i) H') (acc_0 hD) (fun i H' _ h => (same_tf h.1).sq hp) (fun i v H' Hx hi h yy => ?_) (fun H' h => ?_)
    · obtain ⟨rfl, hv⟩ := yy
      rw [List.length_map] at hi
      have hx := List.getElem?_eq_getElem hi
      rw [List.getElem?_map, hx] at hv
      cases hv
      refine ⟨rfl, ?_⟩
      dsimp only [tYes]
      rw [if_pos rfl]
      have sl2 : ss[i].length ≤ sizeLine := by
        have hm : ss[i] ∈ G.rows := sub _ (List.getElem_mem hi)
        rw [o.wd _ hm]
        exact Nat.le_trans (show G.W ≤ 24 from o.w2) (by decide)
      refine ⟨_, rfl, _, rfl, _, rfl, _, rfl, _, rfl, _, rfl, sl2, ?_⟩
      have ec := cutS_cut b ss[i]
      unfold mx0 at ec
      rw [ec]
      exact acc_yes (f := fun s => V.str (b.cut s)) hD h (Same.refl _) hx rfl (by omega)
    · rw [List.length_map, fl_every] at h
      exact k D H' (s1.trans h.1) (by rw [h.2, Gm.ins, ← hss, List.map_map]; rfl)
/-! ### what is clear -/
theorem wall35 : wall 35 = true := by decide +kernel
theorem wall46 : wall 46 = false := by decide +kernel
theorem sgs_mem {G : Gm} {b : Bx} {c : Nat} : c ∈ G.sgs b ↔ ∃ r x : Int, (b.y / 8 ≤ r ∧ r < (b.y + b.h - 1) / 8 + 1) ∧ (b.x / 8 ≤ x ∧ x < (b.x + b.w - 1) / 8 + 1) ∧ G.sg (8 * x) (8 * r) = c := by
  rw [Gm.sgs, List.mem_flatMap]
  constructor
  · rintro ⟨r, hr, h⟩
    rw [Gm.sgr, List.mem_map] at h
    obtain ⟨x, hx, e⟩ := h
    exact ⟨r, x, rngI_mem.mp hr, rngI_mem.mp hx, e⟩
  · rintro ⟨r, x, hr, hx, e⟩
    exact ⟨r, rngI_mem.mpr hr, by rw [Gm.sgr, List.mem_map]; exact ⟨x, rngI_mem.mpr hx, e⟩⟩
theorem fr_out {G : Gm} {b : Bx} (l : b.lim) (h : b.x < 0 ∨ b.y < 0 ∨ b.x + b.w > G.wi) : G.fr b = false := by
  obtain ⟨l1, l2, l3, l4, l5, l6, l7, l8⟩ := l
  have hw : G.wi = 8 * (G.W : Int) := rfl
  refine Bool.eq_false_iff.mpr fun z => ?_
  have z := List.all_eq_true.mp z
  have bad : 35 ∈ G.sgs b → False := fun hm => by
    have := z _ hm
    rw [wall35] at this
    cases this
  rcases h with h | h | h
  · exact bad (sgs_mem.mpr ⟨b.y / 8, b.x / 8, by omega, by omega, by rw [Gm.sg, if_pos (.inl (by omega))]⟩)
  · exact bad (sgs_mem.mpr ⟨b.y / 8, b.x / 8, by omega, by omega, by rw [Gm.sg, if_pos (.inr (.inl (by omega)))]⟩)
  · exact bad (sgs_mem.mpr ⟨b.y / 8, (b.x + b.w - 1) / 8, by omega, by omega, by rw [Gm.sg, if_pos (.inr (.inr (by omega)))]⟩)
/-- within the sides: what the program cuts is what stands in the squares of the floor -/
theorem ins_mem {G : Gm} {b : Bx} (o : G.ok) (l : b.lim) (hx : 0 ≤ b.x) (hy : 0 ≤ b.y) (hw : b.x + b.w ≤ G.wi) {c : Nat} : (∃ s ∈ G.ins b, c ∈ s.cps.toList) ↔ ∃ r x : Int, (b.y / 8 ≤ r ∧ r < (b.y + b.h - 1) / 8 + 1) ∧ (b.x / 8 ≤ x ∧ x < (b.x + b.w - 1) / 8 + 1) ∧ 8 * r < G.hi ∧ G.sg (8 * x) (8 * r) = c := by
  obtain ⟨l1, l2, l3, l4, l5, l6, l7, l8⟩ := l
  have hw2 : G.wi = 8 * (G.W : Int) := rfl
  have hh2 : G.hi = 8 * (G.rows.length : Int) := rfl
  have m1 : mx0 (b.y / 8) = b.y / 8 := by unfold mx0; split <;> omega
  have m2 : mx0 ((b.y + b.h - 1) / 8 + 1) = (b.y + b.h - 1) / 8 + 1 := by unfold mx0; split <;> omega
  have m3 : mx0 (b.x / 8) = b.x / 8 := by unfold mx0; split <;> omega
  have m4 : mx0 ((b.x + b.w - 1) / 8 + 1) = (b.x + b.w - 1) / 8 + 1 := by unfold mx0; split <;> omega
  have key : ∀ (r k : Nat) (s : Str), G.rows[r]? = some s → k < G.W → G.sg (8 * (k : Int)) (8 * (r : Int)) = s.cps.toList.getD k 46 := fun r k s hs hk => by
    have hr := (List.getElem?_eq_some_iff.mp hs).1
    rw [Gm.sg, if_neg (by omega), if_neg (by omega), Gm.cp, show (8 * (r : Int) / 8).toNat = r by omega, show (8 * (k : Int) / 8).toNat = k by omega, hs]
  constructor
  · rintro ⟨s, hs, hc⟩
    rw [Gm.ins, List.mem_map] at hs
    obtain ⟨s0, hs0, rfl⟩ := hs
    obtain ⟨r, r1, r2, hr⟩ := cutL_mem.mp hs0
    rw [m1] at r1
    rw [m2] at r2
    have hc : c ∈ cutL s0.cps.toList (mx0 (b.x / 8)).toNat (mx0 ((b.x + b.w - 1) / 8 + 1)).toNat := by
      rw [Bx.cut] at hc
      simpa using hc
    obtain ⟨k, k1, k2, hk⟩ := cutL_mem.mp hc
    rw [m3] at k1
    rw [m4] at k2
    have hrl := (List.getElem?_eq_some_iff.mp hr).1
    refine ⟨r, k, by omega, by omega, by omega, ?_⟩
    rw [key r k s0 hr (by omega), List.getD, hk]
    rfl
  · rintro ⟨r, x, hr, hx2, hlt, e⟩
    obtain ⟨rn, rfl⟩ := Int.eq_ofNat_of_zero_le (show 0 ≤ r by omega)
    obtain ⟨k, rfl⟩ := Int.eq_ofNat_of_zero_le (show 0 ≤ x by omega)
    have hrl : rn < G.rows.length := by omega
    have hkl : k < G.W := by omega
    have hrow := List.getElem?_eq_getElem hrl
    obtain ⟨s0, hs0⟩ : ∃ s0, s0 = G.rows[rn] := ⟨_, rfl⟩
    rw [← hs0] at hrow
    have hsl : s0.cps.toList.length = G.W := by
      rw [Array.length_toList]
      exact o.wd _ (List.mem_of_getElem? hrow)
    refine ⟨b.cut s0, ?_, ?_⟩
    · rw [Gm.ins, List.mem_map]
      exact ⟨s0, cutL_mem.mpr ⟨rn, by rw [m1]; omega, by rw [m2]; omega, hrow⟩, rfl⟩
    · rw [key rn k s0 hrow hkl, List.getD, List.getElem?_eq_getElem (by omega)] at e
      have hm : c ∈ cutL s0.cps.toList (mx0 (b.x / 8)).toNat (mx0 ((b.x + b.w - 1) / 8 + 1)).toNat := cutL_mem.mpr ⟨k, by rw [m3]; omega, by rw [m4]; omega, by rw [List.getElem?_eq_getElem (by omega)]; exact congrArg some e⟩
      rw [Bx.cut]
      simpa using hm
theorem sg_low {G : Gm} {x y : Int} (h0 : 0 ≤ x) (h1 : x < G.wi) (h2 : 0 ≤ y) (h3 : G.hi ≤ y) : G.sg x y = 46 := by
  rw [Gm.sg, if_neg (by omega), if_pos h3]
theorem fr_in {G : Gm} {b : Bx} (o : G.ok) (l : b.lim) (hx : 0 ≤ b.x) (hy : 0 ≤ b.y) (hw : b.x + b.w ≤ G.wi) : (G.fr b = true ↔ ∀ s ∈ G.ins b, ∀ c ∈ s.cps.toList, wall c = false) := by
  have hw2 : G.wi = 8 * (G.W : Int) := rfl
  have im := fun c => ins_mem (c := c) o l hx hy hw
  obtain ⟨l1, l2, l3, l4, l5, l6, l7, l8⟩ := l
  rw [Gm.fr, List.all_eq_true]
  constructor
  · intro h s hs c hc
    obtain ⟨r, x, h1, h2, _, e⟩ := (im c).mp ⟨s, hs, hc⟩
    have := h c (sgs_mem.mpr ⟨r, x, h1, h2, e⟩)
    simpa using this
  · intro h c hc
    obtain ⟨r, x, h1, h2, e⟩ := sgs_mem.mp hc
    by_cases hlt : 8 * r < G.hi
    · obtain ⟨s, hs, hc2⟩ := (im c).mpr ⟨r, x, h1, h2, hlt, e⟩
      rw [h s hs c hc2]
      rfl
    · rw [sg_low (by omega) (by omega) (by omega) (by omega)] at e
      rw [← e, wall46]
      rfl
end
end K27
set_option maxRecDepth 100000
set_option maxHeartbeats 4000000
/-! Clear, held up, barred. -/
namespace K27
open PySem PySem.Spec PyProof.Rows L2 KF KD KP
section
variable {P : Program} {w : World} {K : PySem.W.Frag} {mg : Str → Option Value} {base : Heap}
def spClr (K : PySem.W.Frag) : Sp := fun vs H Q _ => ∃ (v u : V) (G : Gm) (b : Bx), vs = [v, u] ∧ LvAt K H v G ∧ G.ok ∧ BxAt K H u b ∧ b.lim ∧ ∀ H', Same H H' → Q (.bl (G.fr b)) H'
theorem scClr : FnScope ["level", "box", "wide", "signs", "sign"] ["level", "box"] (defScope s_is_clear) := ⟨rfl, rfl, rfl, by decide +kernel, rfl, by decide +kernel, by decide +kernel⟩
theorem ok_is_clear (T : Txt K w mg) : FnOk P w K mg base CX0 2 (He.fAd K ("is_clear", none)) (fdAt K (He.fAd K ("is_clear", none))) ["level", "box"] (spClr K) := by
  obtain ⟨u1, g1, r1⟩ := T.c_WALLS
  refine T.F_is_clear.ok scClr (fun vs H Q E h => ?_) (fun cdv A outer s H vs Q E hr h => ?_)
  · obtain ⟨v, u, G, b, rfl, _⟩ := h
    rfl
  · obtain ⟨v, u, G, b, rfl, lv, o, hb, lim, k⟩ := h
    refine ⟨_, PSs.nox (pss_cons (ps_set (i := 2) scClr.nd rfl (Or.inl rfl) (pe_ix (r := rIxT K) ix_tup (pe_call (ok_extent T) (hr.mono (by first | decide | omega)) (by rfl) T.g_extent (T.F_extent).kp T.b_extent .nil pass0 (pa_cons (pv 0) pa_nil)) pe_int (fun _ _ => rfl)))
      (pss_cons (ps_if (PW.pt (pw_or (pt_cmpR op_lt (pe_ix (r := rIxT K) ix_tup (pv 1) pe_int (fun _ _ => rfl)) pe_int (nomark _)) (pw_or (pt_cmpR op_lt (pe_ix (r := rIxT K) ix_tup (pv 1) pe_int (fun _ _ => rfl)) pe_int (nomark _)) (pw_or1 (pt_cmpR op_gt (pe_op op_add (pe_ix (r := rIxT K) ix_tup (pv 1) pe_int (fun _ _ => rfl)) (pe_ix (r := rIxT K) ix_tup (pv 1) pe_int (fun _ _ => rfl))) (pv 2) (nomark _)))))) (pss_one (ps_ret pe_bl)) pss_nil)
      (pss_cons (ps_for PassesOwn.never rfl (pi_list (pe_call (ok_signs_in T) (hr.mono (by first | decide | omega)) (by rfl) T.g_signs_in (T.F_signs_in).kp T.b_signs_in .nil pass0 (pa_cons (pv 0) (pa_cons (pv 1) pa_nil)))) (pg_name (i := 3) scClr.nd rfl (Or.inl rfl)) (pss_one (ps_for PassesOwn.never rfl (pi_str (pv 3)) (pg_name (i := 4) scClr.nd rfl (Or.inl rfl)) (pss_one (ps_if (pt_cmpR op_in_sign (pv 4) (pe_glob (v := .str "#<>") (by rfl) g1 r1) rfl) (pss_one (ps_ret pe_bl)) pss_nil)))))
      (pss_one (ps_ret pe_bl))))), ?_⟩
    obtain ⟨ua, rfl, su⟩ := id hb
    refine ⟨_, rfl, v, G, rfl, lv, o, fun p H1 s1 hp => ⟨p, _, _, _, rfl, rfl, SqT.of hp, at0, ?_⟩⟩
    have su1 := (same_tf s1).sq su
    have out : G.fr b = false → Q (.bl false) H1 := fun e => by rw [← e]; exact k H1 s1
    refine ⟨_, rfl, ua, _, _, _, rfl, rfl, su1, atI_nat (j := 0) rfl, _, _, rfl, rfl, _, rfl, ite2 (fun z => out (fr_out lim (.inl (of_decide_eq_true z)))) (fun z1 => ?_)⟩
    refine ⟨_, rfl, ua, _, _, _, rfl, rfl, su1, atI_nat (j := 1) rfl, _, _, rfl, rfl, _, rfl, ite2 (fun z => out (fr_out lim (.inr (.inl (of_decide_eq_true z))))) (fun z2 => ?_)⟩
    refine ⟨_, rfl, ua, _, _, _, rfl, rfl, su1, atI_nat (j := 0) rfl, _, rfl, ua, _, _, _, rfl, rfl, su1, atI_nat (j := 2) rfl, _, _, rfl, rfl, _, rfl, _, _, rfl, rfl, _, rfl, ite2 (fun z => out (fr_out lim (.inr (.inr (of_decide_eq_true z))))) (fun z3 => ?_)⟩
    have h1 : 0 ≤ b.x := Int.not_lt.mp fun h => z1 (decide_eq_true h)
    have h2 : 0 ≤ b.y := Int.not_lt.mp fun h => z2 (decide_eq_true h)
    have h3 : b.x + b.w ≤ G.wi := Int.not_lt.mp fun h => z3 (decide_eq_true h)
    have fi := fr_in o lim h1 h2 h3
    refine ⟨_, rfl, _, rfl, v, .ref ua, G, b, rfl, lv.tf (same_tf s1), o, ⟨ua, rfl, su1⟩, lim, fun q H2 s2 hq => ?_⟩
    have S2 := s1.trans s2
    refine ⟨q, rfl, ⟨_, SqL.of hq⟩, ?_⟩
    refine for_list (xs := (G.ins b).map V.str) (fun i σ H' => ∃ v3 v4 : Option V, σ = [some v, some (.ref ua), some (.int G.wi), v3, v4] ∧ H' = H2 ∧ ∀ s ∈ (G.ins b).take i, ∀ c ∈ s.cps.toList, wall c = false) ⟨_, _, rfl, rfl, fun s hs => by rw [List.take_zero] at hs; cases hs⟩ (fun i σ H' _ h => by obtain ⟨_, _, _, rfl, _⟩ := h; exact SqL.of hq) (fun i y σ H' hy hPv => ?_) (fun σ H' hPv => ?_)
    rotate_left
    · obtain ⟨v3, v4, rfl, rfl, hall⟩ := hPv
      rw [List.length_map, List.take_length] at hall
      have e : G.fr b = true := fi.mpr hall
      rw [e] at k
      exact k H' S2
    obtain ⟨v3, v4, rfl, rfl, hall⟩ := hPv
    have hi : i < (G.ins b).length := by
      have := (List.getElem?_eq_some_iff.mp hy).1
      rwa [List.length_map] at this
    have hx := List.getElem?_eq_getElem hi
    obtain ⟨s0, hs0⟩ : ∃ s0, s0 = (G.ins b)[i] := ⟨_, rfl⟩
    rw [← hs0] at hx
    rw [List.getElem?_map, hx] at hy
    cases hy
    refine ⟨_, rfl, s0, rfl, ?_⟩
    refine L2.for_it walk_str (fun j σ H'' => ∃ v4 : Option V, σ = [some v, some (.ref ua), some (.int G.wi), some (.str s0), v4] ∧ H'' = H' ∧ ∀ c ∈ s0.cps.toList.take j, wall c = false) ⟨_, rfl, rfl, fun c hc => by rw [List.take_zero] at hc; cases hc⟩ (fun _ _ _ _ _ => trivial) (fun j y σ Ha Hb hj hPv hy => ?_) (fun σ Ha hPv => ?_)
    rotate_left
    · obtain ⟨v4, rfl, rfl, hc⟩ := hPv
      refine ⟨_, _, rfl, rfl, fun s hs => ?_⟩
      rw [List.take_add_one, hx] at hs
      rcases List.mem_append.mp hs with hs | hs
      · exact hall s hs
      · have e : s = s0 := by simpa using hs
        rw [e]
        rw [List.take_of_length_le (by rw [Array.length_toList]; exact Nat.le_refl _)] at hc
        exact hc
    obtain ⟨v4, rfl, rfl, hc⟩ := hPv
    obtain ⟨rfl, c, hcj, rfl⟩ := hy
    have hcl : s0.cps.toList[j]? = some c := by rw [Array.getElem?_toList]; exact hcj
    refine ⟨_, rfl, c, _, rfl, rfl, _, rfl, ite2 (fun z => ?_) (fun z => ?_)⟩
    · have e : G.fr b = false := by
        cases e : G.fr b with
        | false => rfl
        | true =>
          have := fi.mp e s0 (List.mem_of_getElem? hx) c (List.mem_of_getElem? hcl)
          have z : wall c = true := z
          rw [this] at z
          cases z
      rw [e] at k
      exact k _ S2
    · refine ⟨_, rfl, rfl, fun d hd => ?_⟩
      rw [List.take_add_one, hcl] at hd
      rcases List.mem_append.mp hd with hd | hd
      · exact hc d hd
      · have e : d = c := by simpa using hd
        rw [e]
        cases e2 : wall c with
        | false => rfl
        | true => exact absurd e2 z
theorem fr_true {G : Gm} {b : Bx} (l : b.lim) (h : G.fr b = true) : 0 ≤ b.x ∧ 0 ≤ b.y ∧ b.x + b.w ≤ G.wi := by
  refine ⟨Int.not_lt.mp fun z => ?_, Int.not_lt.mp fun z => ?_, Int.not_lt.mp fun z => ?_⟩
  · rw [fr_out l (.inl z)] at h; cases h
  · rw [fr_out l (.inr (.inl z))] at h; cases h
  · rw [fr_out l (.inr (.inr z))] at h; cases h
/-- ledges below -/
theorem ledge {G : Gm} {b : Bx} (o : G.ok) (l : b.lim) (hx : 0 ≤ b.x) (hy : 0 ≤ b.y) (hw : b.x + b.w ≤ G.wi) : ((G.ins b).any fun s => decide (61 ∈ s.cps.toList)) = (G.sgs b).any fun c => decide (c = 61) := by
  have hw2 : G.wi = 8 * (G.W : Int) := rfl
  have im := fun c => ins_mem (c := c) o l hx hy hw
  obtain ⟨l1, l2, l3, l4, l5, l6, l7, l8⟩ := l
  rw [Bool.eq_iff_iff, List.any_eq_true, List.any_eq_true]
  constructor
  · rintro ⟨s, hs, hc⟩
    obtain ⟨r, x, h1, h2, _, e⟩ := (im 61).mp ⟨s, hs, of_decide_eq_true hc⟩
    exact ⟨61, sgs_mem.mpr ⟨r, x, h1, h2, e⟩, by decide⟩
  · rintro ⟨c, hc, h61⟩
    have h61 := of_decide_eq_true h61
    subst h61
    obtain ⟨r, x, h1, h2, e⟩ := sgs_mem.mp hc
    have hlt : 8 * r < G.hi := Int.not_le.mp fun z => by
      rw [sg_low (by omega) (by omega) (by omega) z] at e
      exact absurd e (by decide)
    obtain ⟨s, hs, hc2⟩ := (im 61).mpr ⟨r, x, h1, h2, hlt, e⟩
    exact ⟨s, hs, decide_eq_true hc2⟩
def spHu (K : PySem.W.Frag) : Sp := fun vs H Q _ => ∃ (v u : V) (G : Gm) (b : Bx), vs = [v, u] ∧ LvAt K H v G ∧ G.ok ∧ BxAt K H u b ∧ b.lim ∧ (b.mv 0 1).lim ∧ b.y + b.h ≤ 100000 ∧ ∀ H', Same H H' → Q (.bl (G.stp b 0 1)) H'
theorem scHu : FnScope ["level", "box", "x", "y", "wide", "high", "side", "signs"] ["level", "box"] (defScope s_is_held_up) := ⟨rfl, rfl, rfl, by decide +kernel, rfl, by decide +kernel, by decide +kernel⟩
theorem ok_is_held_up (T : Txt K w mg) : FnOk P w K mg base CX0 3 (He.fAd K ("is_held_up", none)) (fdAt K (He.fAd K ("is_held_up", none))) ["level", "box"] (spHu K) := by
  obtain ⟨u1, g1, r1⟩ := T.c_SQUARE
  refine T.F_is_held_up.ok scHu (fun vs H Q E h => ?_) (fun cdv A outer s H vs Q E hr h => ?_)
  · obtain ⟨v, u, G, b, rfl, _⟩ := h
    rfl
  · obtain ⟨v, u, G, b, rfl, lv, o, hb, lim, lim2, yh, k⟩ := h
    refine ⟨_, PSs.nox (pss_cons (ps_if (pt_not (pt_val (pe_call (ok_is_clear T) (hr.mono (by first | decide | omega)) (by rfl) T.g_is_clear (T.F_is_clear).kp T.b_is_clear .nil pass0 (pa_cons (pv 0) (pa_cons (pe_call (ok_moved T) (hr.mono (by first | decide | omega)) (by rfl) T.g_moved (T.F_moved).kp T.b_moved .nil pass0 (pa_cons (pv 1) (pa_cons pe_int (pa_cons pe_int pa_nil)))) pa_nil))))) (pss_one (ps_ret pe_bl)) pss_nil)
      (pss_cons (ps_asg (pv 1) (pg_tup (by rfl) (pgs_cons (pg_name (i := 2) scHu.nd rfl (Or.inl rfl)) (pgs_cons (pg_name (i := 3) scHu.nd rfl (Or.inl rfl)) (pgs_cons (pg_name (i := 4) scHu.nd rfl (Or.inl rfl)) (pgs_cons (pg_name (i := 5) scHu.nd rfl (Or.inl rfl)) pgs_nil))))))
      (pss_cons (ps_set (i := 6) scHu.nd rfl (Or.inl rfl) (pe_op op_add (pv 3) (pv 5)))
      (pss_cons (ps_if (pt_cmpR op_ne (pe_op op_mod (pv 6) (pe_glob (v := .int 8) (by rfl) g1 r1)) pe_int (nomark _)) (pss_one (ps_ret pe_bl)) pss_nil)
      (pss_one (ps_ret (pe_callB (cr_any rfl) (by rfl) T.n_any PyProof.Rows.Boot.«any» (pa_cons (pe_lc (own := [("signs", 7)]) (g := gName 7) (tt := tYes) (by rfl) scHu.nd (pi_list (pe_call (ok_signs_in T) (hr.mono (by decide)) (by rfl) T.g_signs_in (T.F_signs_in).kp T.b_signs_in .nil pass0 (pa_cons (pv 0) (pa_cons (pe_tup (pa_cons (pv 2) (pa_cons (pv 6) (pa_cons (pv 4) (pa_cons pe_int pa_nil))))) pa_nil)))) (blkOk_by (by kernel_rfl)) (fun _ _ _ _ _ => pg_name (i := 7) scHu.nd rfl (Or.inl rfl)) (fun _ _ _ _ _ => pts_nil) (fun _ _ _ _ _ => pe_cmpR op_in_sign pe_str (pv 7) rfl)) pa_nil)))))))), ?_⟩
    obtain ⟨ua, rfl, su⟩ := id hb
    have kk : ∀ {v : V} {H' : Hp}, v = V.bl (G.stp b 0 1) → Same H H' → Q v H' := fun e s => by rw [e]; exact k _ s
    refine ⟨_, rfl, _, rfl, .ref ua, b, 0, 1, rfl, hb, fun p H1 s1 hp => ⟨v, .ref p, G, b.mv 0 1, rfl, lv.tf (same_tf s1), o, ⟨p, rfl, SqT.of hp⟩, lim2, fun H2 s2 => ?_⟩⟩
    have S2 := s1.trans s2
    have su2 := (same_tf S2).sq su
    cases e : G.fr (b.mv 0 1) with
    | false => exact ⟨false, rfl, iteT (kk (by rw [Gm.stp, e]; rfl) S2)⟩
    | true =>
      obtain ⟨x0, y0, xw⟩ := fr_true lim2 e
      have x0 : 0 ≤ b.x := by have : 0 ≤ b.x + 0 := x0; omega
      have y0 : 0 ≤ b.y + 1 := y0
      have xw : b.x + b.w ≤ G.wi := by have : b.x + 0 + b.w ≤ G.wi := xw; omega
      have e2 : G.stp b 0 1 = (decide ((b.y + b.h) % 8 = 0) && (G.sgs ⟨b.x, b.y + b.h, b.w, 1⟩).any fun c => decide (c = 61)) := by rw [Gm.stp, e]; rfl
      refine ⟨true, rfl, iteF ?_⟩
      refine ⟨_, rfl, ua, _, rfl, su2, rfl, _, _, rfl, _, _, rfl, _, _, rfl, _, _, rfl, rfl, ?_⟩
      refine ⟨_, rfl, _, rfl, _, _, rfl, rfl, ?_⟩
      refine ⟨_, rfl, _, _, rfl, rfl, (show (0 : Int) < 8 by decide), rfl, _, rfl, ite2 (fun z => ?_) (fun z => ?_)⟩
      · refine kk ?_ S2
        have hz : ¬ (b.y + b.h) % 8 = 0 := fun q => by
          have z : (!decide (V.int ((b.y + b.h) % 8) = V.int 0)) = true := z
          rw [q] at z
          exact absurd z (by decide)
        rw [e2, decide_eq_false hz]
        rfl
      have h8 : (b.y + b.h) % 8 = 0 := Classical.byContradiction fun q => z (by
        show (!decide (V.int ((b.y + b.h) % 8) = V.int 0)) = true
        rw [decide_eq_false (fun p => q (by injection p))]; rfl)
      obtain ⟨l1, l2, l3, l4, l5, l6, l7, l8⟩ := id lim
      have lim3 : (Bx.mk b.x (b.y + b.h) b.w 1).lim := ⟨l1, l2, show -100000 ≤ b.y + b.h by omega, yh, l5, l6, show (1 : Int) ≤ 1 by decide, show (1 : Int) ≤ 100 by decide⟩
      refine ⟨_, rfl, _, rfl, _, rfl, _, rfl, (show 4 ≤ sizeLine by decide), fun p3 np3 => ?_⟩
      have s3 := new_same (o := .tup (Bx.mk b.x (b.y + b.h) b.w 1).vs) np3
      have sp3 : SqT K (upd H2 p3 (.tup (Bx.mk b.x (b.y + b.h) b.w 1).vs)) p3 (Bx.mk b.x (b.y + b.h) b.w 1).vs := SqT.of upd_same
      refine ⟨v, .ref p3, G, _, rfl, lv.tf (same_tf (S2.trans s3)), o, ⟨p3, rfl, sp3⟩, lim3, fun p4 H4 s4 hp4 => ?_⟩
      obtain ⟨ss, hss⟩ : ∃ ss, ss = G.ins ⟨b.x, b.y + b.h, b.w, 1⟩ := ⟨_, rfl⟩
      have ssl : ss.length ≤ 20 := by
        rw [hss, Gm.ins, List.length_map, cutL, List.length_take, List.length_drop]
        have := o.r2
        omega
      rw [← hss] at hp4
      refine ⟨p4, rfl, ⟨_, SqL.of hp4⟩, fun D hD => ?_⟩
      refine lc_it (walk_list (K := K) (a := p4) (xs := ss.map V.str)) (fun i H' => Acc H4 D (fl ss (fun _ => true) (fun s => V.bl (decide (61 ∈ s.cps.toList))) i) H') (acc_0 hD) (fun i H' _ h => SqL.of (h.1 _ _ hp4)) (fun i v' H' Hx hi h yy => ?_) (fun H' h => ?_)
      · obtain ⟨rfl, hv⟩ := yy
        rw [List.length_map] at hi
        have hx := List.getElem?_eq_getElem hi
        rw [List.getElem?_map, hx] at hv
        cases hv
        refine ⟨rfl, ?_⟩
        dsimp only [tYes]
        rw [if_pos rfl]
        have e61 : V.str "=" = .str ⟨#[61]⟩ := by decide +kernel
        exact ⟨_, rfl, 61, _, e61, rfl, acc_yes (f := fun s => V.bl (decide (61 ∈ s.cps.toList))) hD h (Same.refl _) hx rfl (by omega)⟩
      · rw [List.length_map, fl_every] at h
        refine ⟨D, ss.map fun s => decide (61 ∈ s.cps.toList), rfl, SqL.of (by rw [h.2, List.map_map]; rfl), kk ?_ (((S2.trans s3).trans s4).trans h.1)⟩
        rw [e2, h8, ← ledge o lim3 x0 (show 0 ≤ b.y + b.h by omega) xw, ← hss, List.any_map]
        rfl
def dirs : List (Int × Int) := [(-1, 0), (1, 0), (0, -1), (0, 1)]
def spBar (K : PySem.W.Frag) : Sp := fun vs H Q _ => ∃ (v u : V) (G : Gm) (b : Bx) (dx dy : Int), vs = [v, u, .int dx, .int dy] ∧ (dx, dy) ∈ dirs ∧ LvAt K H v G ∧ G.ok ∧ BxAt K H u b ∧ b.lim ∧ (b.mv dx dy).lim ∧ b.y + b.h ≤ 100000 ∧ ∀ H', Same H H' → Q (.bl (G.stp b dx dy)) H'
theorem scBar : FnScope ["level", "box", "dx", "dy"] ["level", "box", "dx", "dy"] (defScope s_is_barred) := ⟨rfl, rfl, rfl, by decide +kernel, rfl, by decide +kernel, by decide +kernel⟩
theorem ok_is_barred (T : Txt K w mg) : FnOk P w K mg base CX0 4 (He.fAd K ("is_barred", none)) (fdAt K (He.fAd K ("is_barred", none))) ["level", "box", "dx", "dy"] (spBar K) := by
  refine T.F_is_barred.ok scBar (fun vs H Q E h => ?_) (fun cdv A outer s H vs Q E hr h => ?_)
  · obtain ⟨v, u, G, b, dx, dy, rfl, _⟩ := h
    rfl
  · obtain ⟨v, u, G, b, dx, dy, rfl, hd, lv, o, hb, lim, lim2, yh, k⟩ := h
    refine ⟨_, PSs.nox (pss_cons (ps_if (pt_cmpR op_gt (pv 3) pe_int (nomark _)) (pss_one (ps_ret (pe_call (ok_is_held_up T) (hr.mono (by first | decide | omega)) (by rfl) T.g_is_held_up (T.F_is_held_up).kp T.b_is_held_up .nil pass0 (pa_cons (pv 0) (pa_cons (pv 1) pa_nil))))) pss_nil)
      (pss_one (ps_ret (pe_not (pe_call (ok_is_clear T) (hr.mono (by first | decide | omega)) (by rfl) T.g_is_clear (T.F_is_clear).kp T.b_is_clear .nil pass0 (pa_cons (pv 0) (pa_cons (pe_call (ok_moved T) (hr.mono (by first | decide | omega)) (by rfl) T.g_moved (T.F_moved).kp T.b_moved .nil pass0 (pa_cons (pv 1) (pa_cons (pv 2) (pa_cons (pv 3) pa_nil)))) pa_nil))))))), ?_⟩
    refine ⟨_, rfl, _, _, rfl, rfl, _, rfl, ite2 (fun z => ?_) (fun z => ?_)⟩
    · have z := of_decide_eq_true z
      have e : dx = 0 ∧ dy = 1 := by
        simp only [dirs, List.mem_cons, List.not_mem_nil, or_false, Prod.mk.injEq] at hd
        omega
      obtain ⟨rfl, rfl⟩ := e
      exact ⟨_, rfl, _, rfl, v, u, G, b, rfl, lv, o, hb, lim, lim2, yh, k⟩
    · have z2 : ¬ dy = 1 := fun e => z (decide_eq_true (by omega))
      refine ⟨_, rfl, _, rfl, _, rfl, _, rfl, u, b, dx, dy, rfl, hb, fun p H1 s1 hp => ⟨v, .ref p, G, b.mv dx dy, rfl, lv.tf (same_tf s1), o, ⟨p, rfl, SqT.of hp⟩, lim2, fun H2 s2 => ?_⟩⟩
      have e : G.stp b dx dy = !G.fr (b.mv dx dy) := by
        rw [Gm.stp, decide_eq_false z2]
        simp
      rw [e] at k
      exact ⟨_, rfl, k H2 (s1.trans s2)⟩
end
end K27
set_option maxRecDepth 100000
set_option maxHeartbeats 4000000
/-! The buckets of a box. -/
namespace K27
open PySem PySem.Spec PyProof.Rows L2 KF KD KP
def mn (x y : Int) : Int := if x < y then x else y
def Gm.c0 (G : Gm) (b : Bx) : Int := mx0 b.x / 32
def Gm.c1 (G : Gm) (b : Bx) : Int := (mn (b.x + b.w) G.wi - 1) / 32 + 1
def Gm.r0 (G : Gm) (b : Bx) : Int := mx0 b.y / 32
def Gm.r1 (G : Gm) (b : Bx) : Int := (mn (b.y + b.h) G.hi - 1) / 32 + 1
def Gm.bkr (G : Gm) (b : Bx) (r : Int) : List Int := (rngI (G.c0 b) (G.c1 b)).map fun c => 49 + (G.bw * r + c)
/-- the cells of the buckets of a box -/
def Gm.blk (G : Gm) (b : Bx) : List Int := if meets b ⟨0, 0, G.wi, G.hi⟩ = true then (rngI (G.r0 b) (G.r1 b)).flatMap (G.bkr b) else []
theorem meets_iff (a b : Bx) : meets a b = true ↔ a.x < b.x + b.w ∧ b.x < a.x + a.w ∧ a.y < b.y + b.h ∧ b.y < a.y + a.h := by
  unfold meets
  rw [Bool.and_eq_true, Bool.and_eq_true, Bool.and_eq_true, decide_eq_true_eq, decide_eq_true_eq, decide_eq_true_eq, decide_eq_true_eq]
structure Blim (G : Gm) (b : Bx) : Prop where
  c : 0 ≤ G.c0 b ∧ G.c0 b ≤ G.c1 b ∧ G.c1 b ≤ 8 ∧ G.c1 b ≤ G.bw
  r : 0 ≤ G.r0 b ∧ G.r0 b ≤ G.r1 b ∧ G.r1 b ≤ 5 ∧ G.r1 b ≤ G.bh
theorem blim {G : Gm} {b : Bx} (o : G.ok) (l : b.lim) (m : meets b ⟨0, 0, G.wi, G.hi⟩ = true) : Blim G b := by
  obtain ⟨m1, m2, m3, m4⟩ := (meets_iff _ _).mp m
  obtain ⟨l1, l2, l3, l4, l5, l6, l7, l8⟩ := l
  have h1 : G.wi = 8 * (G.W : Int) := rfl
  have h2 : G.hi = 8 * (G.rows.length : Int) := rfl
  have h3 : G.bw = ((G.W : Int) + 3) / 4 := rfl
  have h4 : G.bh = ((G.rows.length : Int) + 3) / 4 := rfl
  have := o.w1
  have := o.w2
  have := o.r1
  have := o.r2
  dsimp only at m1 m2 m3 m4
  refine ⟨?_, ?_⟩
  · unfold Gm.c0 Gm.c1 mx0 mn
    split <;> split <;> omega
  · unfold Gm.r0 Gm.r1 mx0 mn
    split <;> split <;> omega
theorem bkr_len {G : Gm} {b : Bx} (l : Blim G b) (r : Int) : (G.bkr b r).length ≤ 8 := by
  rw [Gm.bkr, List.length_map, rngI_len]
  have := l.c
  omega
theorem flat_len8 {f : Int → List Int} (h : ∀ r, (f r).length ≤ 8) : ∀ l : List Int, (l.flatMap f).length ≤ 8 * l.length
  | [] => by simp
  | x :: l => by
    rw [List.flatMap_cons, List.length_append, List.length_cons]
    have := h x
    have := flat_len8 h l
    omega
theorem pre_len {G : Gm} {b : Bx} (l : Blim G b) (i : Nat) : (((rngI (G.r0 b) (G.r1 b)).take i).flatMap (G.bkr b)).length ≤ 40 := by
  have h := flat_len8 (bkr_len l) ((rngI (G.r0 b) (G.r1 b)).take i)
  rw [List.length_take, rngI_len] at h
  have := l.r
  omega
theorem blk_len {G : Gm} {b : Bx} (o : G.ok) (l : b.lim) : (G.blk b).length ≤ 40 := by
  unfold Gm.blk
  split
  · rename_i m
    have h := pre_len (blim o l m) ((G.r1 b) - (G.r0 b)).toNat
    rwa [rngI_all] at h
  · exact Nat.zero_le _
theorem blk_mem {G : Gm} {b : Bx} (o : G.ok) (l : b.lim) {c : Int} (h : c ∈ G.blk b) : 49 ≤ c ∧ c < 49 + G.bh * G.bw := by
  unfold Gm.blk at h
  split at h
  · rename_i m
    have bl := blim o l m
    obtain ⟨r, hr, hc⟩ := List.mem_flatMap.mp h
    have hr := rngI_mem.mp hr
    rw [Gm.bkr, List.mem_map] at hc
    obtain ⟨k, hk, rfl⟩ := hc
    have hk := rngI_mem.mp hk
    have h1 := bl.c
    have h2 := bl.r
    have e1 : 0 ≤ G.bw * r := Int.mul_nonneg (by omega) (by omega)
    have e2 : G.bw * r + G.bw ≤ G.bh * G.bw := by
      have : G.bw * (r + 1) ≤ G.bw * G.bh := Int.mul_le_mul_of_nonneg_left (by omega) (by omega)
      rw [Int.mul_add, Int.mul_one] at this
      rw [Int.mul_comm G.bh]
      exact this
    omega
  · cases h
section
variable {P : Program} {w : World} {K : PySem.W.Frag} {mg : Str → Option Value} {base : Heap}
def spBlk (K : PySem.W.Frag) : Sp := fun vs H Q _ => ∃ (g u : V) (G : Gm) (b : Bx), vs = [g, u] ∧ GmAt K H g G ∧ G.ok ∧ BxAt K H u b ∧ b.lim ∧ ∀ p H', Same H H' → H' p = some (.lst ((G.blk b).map V.int)) → H p = none → Q (.ref p) H'
theorem scBk : FnScope ["game", "box", "wide", "high", "many", "found", "row", "column"] ["game", "box"] (defScope s_law_blocks) := ⟨rfl, rfl, rfl, by decide +kernel, rfl, by decide +kernel, by decide +kernel⟩
theorem ok_law_blocks (T : Txt K w mg) : FnOk P w K mg base CX0 2 (He.fAd K ("_law_blocks", none)) (fdAt K (He.fAd K ("_law_blocks", none))) ["game", "box"] (spBlk K) := by
  refine T.F_law_blocks.ok scBk (fun vs H Q E h => ?_) (fun cdv A outer s H vs Q E hr h => ?_)
  · obtain ⟨g, u, G, b, rfl, _⟩ := h
    rfl
  · obtain ⟨g, u, G, b, rfl, hg, o, hb, lim, k⟩ := h
    refine ⟨_, PSs.nox (pss_cons (ps_asg (pe_call (ok_law_size T) (hr.mono (by first | decide | omega)) (by rfl) T.g_law_size (T.F_law_size).kp T.b_law_size .nil pass0 (pa_cons (pv 0) pa_nil)) (pg_tup (by rfl) (pgs_cons (pg_name (i := 2) scBk.nd rfl (Or.inl rfl)) (pgs_cons (pg_name (i := 3) scBk.nd rfl (Or.inl rfl)) pgs_nil))))
      (pss_cons (ps_if (pt_not (pt_val (pe_call (ok_law_meet T) (hr.mono (by first | decide | omega)) (by rfl) T.g_law_meet (T.F_law_meet).kp T.b_law_meet .nil pass0 (pa_cons (pv 1) (pa_cons (pe_tup (pa_cons pe_int (pa_cons pe_int (pa_cons (pv 2) (pa_cons (pv 3) pa_nil))))) pa_nil))))) (pss_one (ps_ret (pe_lst pa_nil))) pss_nil)
      (pss_cons (ps_set (i := 4) scBk.nd rfl (Or.inl rfl) (pe_op op_fdivW (pe_op op_add (pv 2) pe_int) pe_int))
      (pss_cons (ps_set (i := 5) scBk.nd rfl (Or.inl rfl) (pe_lst pa_nil))
      (pss_cons (ps_for PassesOwn.never rfl (pi_range2 (by rfl) T.n_range (pa_cons (pe_op op_fdivW (pe_callB (call_max2 rfl) (by rfl) T.n_max PyProof.Rows.Boot.«max» (pa_cons (pe_ix (r := rIxT K) ix_tup (pv 1) pe_int (fun _ _ => rfl)) (pa_cons pe_int pa_nil))) pe_int) (pa_cons (pe_op op_add (pe_op op_fdivW (pe_op op_sub (pe_callB (call_min2 rfl) (by rfl) T.n_min PyProof.Rows.Boot.«min» (pa_cons (pe_op op_add (pe_ix (r := rIxT K) ix_tup (pv 1) pe_int (fun _ _ => rfl)) (pe_ix (r := rIxT K) ix_tup (pv 1) pe_int (fun _ _ => rfl))) (pa_cons (pv 3) pa_nil))) pe_int) pe_int) pe_int) pa_nil))) (pg_name (i := 6) scBk.nd rfl (Or.inl rfl)) (pss_one (ps_for PassesOwn.never rfl (pi_range2 (by rfl) T.n_range (pa_cons (pe_op op_fdivW (pe_callB (call_max2 rfl) (by rfl) T.n_max PyProof.Rows.Boot.«max» (pa_cons (pe_ix (r := rIxT K) ix_tup (pv 1) pe_int (fun _ _ => rfl)) (pa_cons pe_int pa_nil))) pe_int) (pa_cons (pe_op op_add (pe_op op_fdivW (pe_op op_sub (pe_callB (call_min2 rfl) (by rfl) T.n_min PyProof.Rows.Boot.«min» (pa_cons (pe_op op_add (pe_ix (r := rIxT K) ix_tup (pv 1) pe_int (fun _ _ => rfl)) (pe_ix (r := rIxT K) ix_tup (pv 1) pe_int (fun _ _ => rfl))) (pa_cons (pv 2) pa_nil))) pe_int) pe_int) pe_int) pa_nil))) (pg_name (i := 7) scBk.nd rfl (Or.inl rfl)) (pss_one (ps_expr (pe_bm PySem.F.plainAttrs_list PySem.F.slot_list_append PySem.F.type_list_append mt_append (pv 5) (pa_cons (pe_op op_add (pe_op op_add pe_int (pe_op op_mulW (pv 4) (pv 6))) (pv 7)) pa_nil)))))))
      (pss_one (ps_ret (pv 5)))))))), ?_⟩
    obtain ⟨ua, rfl, su⟩ := id hb
    refine ⟨_, rfl, g, G, rfl, hg, o, fun p H1 s1 hp => ⟨p, _, rfl, SqT.of hp, rfl, _, _, rfl, _, _, rfl, rfl, ?_⟩⟩
    refine ⟨_, rfl, _, rfl, _, rfl, (show 4 ≤ sizeLine by decide), fun q nq => ?_⟩
    have s2 := new_same (o := .tup (Bx.mk 0 0 G.wi G.hi).vs) nq
    have sq : SqT K (upd H1 q (.tup (Bx.mk 0 0 G.wi G.hi).vs)) q (Bx.mk 0 0 G.wi G.hi).vs := SqT.of upd_same
    have S2 := s1.trans s2
    have kk : ∀ {l : List Int} (p : Addr) {H' : Hp}, G.blk b = l → Same H H' → H' p = some (.lst (l.map V.int)) → H p = none → Q (.ref p) H' := fun p H' e s h n => k p H' s (by rw [e]; exact h) n
    have nn : ∀ {p2 : Addr}, (upd H1 q (.tup (Bx.mk 0 0 G.wi G.hi).vs)) p2 = none → H p2 = none := fun {p2} np2 => by
      cases e : H p2 with
      | none => rfl
      | some z => exact absurd ((S2 _ _ e).symm.trans np2) (by simp)
    refine ⟨.ref ua, .ref q, b, _, rfl, hb.tf (same_tf S2), ⟨q, rfl, sq⟩, ?_⟩
    cases m : meets b ⟨0, 0, G.wi, G.hi⟩ with
    | false =>
      refine ⟨false, rfl, iteT ⟨(show 0 ≤ sizeLine by decide), fun p2 np2 => kk p2 (by rw [Gm.blk, if_neg (by rw [m]; decide)]) (S2.trans (new_same np2)) upd_same (nn np2)⟩⟩
    | true =>
      have bl := blim o lim m
      refine ⟨true, rfl, iteF ?_⟩
      have d32 : ∀ i : Int, CDivW i 32 := fun i => wide_div (b := 10) (by decide) (by decide) (by decide) (by decide)
      have p62 : (2 : Int) ^ 62 = 4611686018427387904 := by decide
      have emany : (G.wi + 31) / 32 = G.bw := by
        have h1 : G.wi = 8 * (G.W : Int) := rfl
        have h3 : G.bw = ((G.W : Int) + 3) / 4 := rfl
        omega
      refine ⟨_, rfl, _, _, rfl, rfl, _, _, rfl, rfl, d32 _, ?_⟩
      dsimp only [gName]
      rw [emany]
      have ex0 : (if (0 : Int) > b.x then 0 else b.x) = mx0 b.x := by unfold mx0; split <;> split <;> omega
      have ey0 : (if (0 : Int) > b.y then 0 else b.y) = mx0 b.y := by unfold mx0; split <;> split <;> omega
      have ex1 : (if G.wi < b.x + b.w then G.wi else b.x + b.w) = mn (b.x + b.w) G.wi := by unfold mn; split <;> split <;> omega
      have ey1 : (if G.hi < b.y + b.h then G.hi else b.y + b.h) = mn (b.y + b.h) G.hi := by unfold mn; split <;> split <;> omega
      refine ⟨(show 0 ≤ sizeLine by decide), fun p2 np2 => ?_⟩
      have s3 := new_same (o := .lst []) np2
      have S3 := S2.trans s3
      have su3 := (same_tf S3).sq su
      have nH : H p2 = none := by
        cases e : H p2 with
        | none => rfl
        | some z => exact absurd ((S2 _ _ e).symm.trans np2) (by simp)
      have blc := bl.c
      have blr := bl.r
      have bw0 : 1 ≤ G.bw := by have := o.w1; have h3 : G.bw = ((G.W : Int) + 3) / 4 := rfl; omega
      have bw8 : G.bw ≤ 8 := by have := o.w2; have h3 : G.bw = ((G.W : Int) + 3) / 4 := rfl; omega
      refine ⟨_, rfl, ua, _, _, _, rfl, rfl, su3, atI_nat (j := 1) rfl, _, _, rfl, _, _, rfl, rfl, d32 _, _, rfl, ua, _, _, _, rfl, rfl, su3, atI_nat (j := 1) rfl, _, rfl, ua, _, _, _, rfl, rfl, su3, atI_nat (j := 3) rfl, _, _, rfl, rfl, _, rfl, _, _, rfl, _, _, rfl, rfl, _, _, rfl, rfl, d32 _, _, _, rfl, rfl, G.r0 b, G.r1 b, (by rw [Gm.r0, Gm.r1, ← ey0, ← ey1]), (by rw [p62]; omega), ?_⟩
      have ebl : G.blk b = (rngI (G.r0 b) (G.r1 b)).flatMap (G.bkr b) := by rw [Gm.blk, if_pos m]
      refine for_range (lo := G.r0 b) (n := (G.r1 b - G.r0 b).toNat) (fun i σ H' => ∃ v6 v7 : Option V, σ = [some g, some (.ref ua), some (.int G.wi), some (.int G.hi), some (.int G.bw), some (.ref p2), v6, v7] ∧ H' p2 = some (.lst ((((rngI (G.r0 b) (G.r1 b)).take i).flatMap (G.bkr b)).map V.int)) ∧ Same H H') ⟨_, _, rfl, by rw [List.take_zero]; exact upd_same, S3⟩ (fun i σ H4 hi4 hPv => ?_) (fun σ H4 hPv => ?_)
      rotate_left
      · obtain ⟨v6, v7, rfl, hp4, sm⟩ := hPv
        rw [rngI_all] at hp4
        exact ⟨_, rfl, kk p2 ebl sm hp4 nH⟩
      obtain ⟨v6, v7, rfl, hp4, sm⟩ := hPv
      have su4 := (same_tf sm).sq su
      obtain ⟨pre, hpre⟩ : ∃ z, z = ((rngI (G.r0 b) (G.r1 b)).take i).flatMap (G.bkr b) := ⟨_, rfl⟩
      have hpl : pre.length ≤ 40 := by rw [hpre]; exact pre_len bl i
      rw [← hpre] at hp4
      refine ⟨_, rfl, ua, _, _, _, rfl, rfl, su4, atI_nat (j := 0) rfl, _, _, rfl, _, _, rfl, rfl, d32 _, _, rfl, ua, _, _, _, rfl, rfl, su4, atI_nat (j := 0) rfl, _, rfl, ua, _, _, _, rfl, rfl, su4, atI_nat (j := 2) rfl, _, _, rfl, rfl, _, rfl, _, _, rfl, _, _, rfl, rfl, _, _, rfl, rfl, d32 _, _, _, rfl, rfl, G.c0 b, G.c1 b, (by rw [Gm.c0, Gm.c1, ← ex0, ← ex1]), (by rw [p62]; omega), ?_⟩
      refine for_range (lo := G.c0 b) (n := (G.c1 b - G.c0 b).toNat) (fun j σ H' => ∃ v7 : Option V, σ = [some g, some (.ref ua), some (.int G.wi), some (.int G.hi), some (.int G.bw), some (.ref p2), some (.int (G.r0 b + (i : Int))), v7] ∧ H' p2 = some (.lst ((pre ++ ((rngI (G.c0 b) (G.c1 b)).take j).map fun c => 49 + (G.bw * (G.r0 b + (i : Int)) + c)).map V.int)) ∧ Same H H') ⟨_, rfl, by rw [List.take_zero, List.map_nil, List.append_nil]; exact hp4, sm⟩ (fun j σ H5 hj hPv => ?_) (fun σ H5 hPv => ?_)
      rotate_left
      · obtain ⟨v7, rfl, hp5, sm5⟩ := hPv
        refine ⟨_, _, rfl, ?_, sm5⟩
        rw [hp5, rngI_all, rngI_take hi4, List.flatMap_append, ← hpre]
        simp [Gm.bkr]
      obtain ⟨v7, rfl, hp5, sm5⟩ := hPv
      have mw : CMulW G.bw (G.r0 b + (i : Int)) := wide_mul (a := 40) (b := 40) (small_ab (by omega) (by rw [pow40]; omega)) (small_ab (by omega) (by rw [pow40]; omega)) (by decide) (by decide) (by decide)
      refine ⟨_, rfl, .inl ⟨rfl, _, SqL.of hp5⟩, _, rfl, _, rfl, _, _, rfl, rfl, mw, _, _, rfl, rfl, _, rfl, _, _, rfl, rfl, p2, _, _, rfl, rfl, hp5, ?_, _, rfl, ?_, fun c ob z => ?_⟩
      · rw [List.length_map, List.length_append, List.length_map, List.length_take, rngI_len]
        exact Nat.lt_of_lt_of_le (show _ < 1000 by omega) (by decide)
      · rw [upd_same, rngI_take hj, List.map_append, List.map_append, List.map_append, List.map_append, List.append_assoc]
        simp [Int.add_assoc]
      · rw [upd_ne (ne_of_none z nH)]
        exact sm5 _ _ z
def spBks (K : PySem.W.Frag) : Sp := fun vs H Q _ => ∃ (g u : V) (G : Gm) (b : Bx), vs = [g, u] ∧ GmAt K H g G ∧ G.ok ∧ BxAt K H u b ∧ b.lim ∧ ∀ p H', Same H H' → SqT K H' p ((G.blk b).map V.int) → Q (.ref p) H'
theorem scBo : FnScope ["game", "box", "level", "floor_wide", "floor_high", "x", "y", "wide", "high", "left", "right", "top", "bottom", "many", "rows", "columns", "row", "column"] ["game", "box"] (defScope s_buckets_of) := ⟨rfl, rfl, rfl, by decide +kernel, rfl, by decide +kernel, by decide +kernel⟩
theorem ok_buckets_of (T : Txt K w mg) : FnOk P w K mg base CX0 2 (He.fAd K ("buckets_of", none)) (fdAt K (He.fAd K ("buckets_of", none))) ["game", "box"] (spBks K) := by
  obtain ⟨u1, g1, r1⟩ := T.c_BLOCK
  obtain ⟨u2, g2, r2⟩ := T.c_BUCKET
  refine T.F_buckets_of.ok scBo (fun vs H Q E h => ?_) (fun cdv A outer s H vs Q E hr h => ?_)
  · obtain ⟨g, u, G, b, rfl, _⟩ := h
    rfl
  · obtain ⟨g, u, G, b, rfl, hg, o, hb, lim, k⟩ := h
    refine ⟨_, PSs.nox (pss_cons (ps_set (i := 2) scBo.nd rfl (Or.inl rfl) (pe_ix (r := rIxT K) ix_tup (pv 0) pe_int (fun _ _ => rfl)))
      (pss_cons (ps_asg (pe_call (ok_extent T) (hr.mono (by first | decide | omega)) (by rfl) T.g_extent (T.F_extent).kp T.b_extent .nil pass0 (pa_cons (pv 2) pa_nil)) (pg_tup (by rfl) (pgs_cons (pg_name (i := 3) scBo.nd rfl (Or.inl rfl)) (pgs_cons (pg_name (i := 4) scBo.nd rfl (Or.inl rfl)) pgs_nil))))
      (pss_cons (ps_asg (pv 1) (pg_tup (by rfl) (pgs_cons (pg_name (i := 5) scBo.nd rfl (Or.inl rfl)) (pgs_cons (pg_name (i := 6) scBo.nd rfl (Or.inl rfl)) (pgs_cons (pg_name (i := 7) scBo.nd rfl (Or.inl rfl)) (pgs_cons (pg_name (i := 8) scBo.nd rfl (Or.inl rfl)) pgs_nil))))))
      (pss_cons (ps_set (i := 9) scBo.nd rfl (Or.inl rfl) (pe_callB (call_max2 rfl) (by rfl) T.n_max PyProof.Rows.Boot.«max» (pa_cons pe_int (pa_cons (pv 5) pa_nil))))
      (pss_cons (ps_set (i := 10) scBo.nd rfl (Or.inl rfl) (pe_callB (call_min2 rfl) (by rfl) T.n_min PyProof.Rows.Boot.«min» (pa_cons (pv 3) (pa_cons (pe_op op_add (pv 5) (pv 7)) pa_nil))))
      (pss_cons (ps_set (i := 11) scBo.nd rfl (Or.inl rfl) (pe_callB (call_max2 rfl) (by rfl) T.n_max PyProof.Rows.Boot.«max» (pa_cons pe_int (pa_cons (pv 6) pa_nil))))
      (pss_cons (ps_set (i := 12) scBo.nd rfl (Or.inl rfl) (pe_callB (call_min2 rfl) (by rfl) T.n_min PyProof.Rows.Boot.«min» (pa_cons (pv 4) (pa_cons (pe_op op_add (pv 6) (pv 8)) pa_nil))))
      (pss_cons (ps_if (PW.pt (pw_or (pt_cmpR op_ge (pv 9) (pv 10) (nomark _)) (pw_or1 (pt_cmpR op_ge (pv 11) (pv 12) (nomark _))))) (pss_one (ps_ret (pe_tup pa_nil))) pss_nil)
      (pss_cons (ps_set (i := 13) scBo.nd rfl (Or.inr rfl) (pe_ix (r := rIxT K) ix_tup (pe_call (ok_block_counts T) (hr.mono (by first | decide | omega)) (by rfl) T.g_block_counts (T.F_block_counts).kp T.b_block_counts .nil pass0 (pa_cons (pv 2) pa_nil)) pe_int (fun _ _ => rfl)))
      (pss_cons (ps_set (i := 14) scBo.nd rfl (Or.inl rfl) (pe_callTy cr_range2 (by rfl) T.n_range PyProof.Rows.Boot.«range» (pa_cons (pe_op op_fdivW (pv 11) (pe_glob (v := .int 32) (by rfl) g1 r1)) (pa_cons (pe_op op_add (pe_op op_fdivW (pe_op op_sub (pv 12) pe_int) (pe_glob (v := .int 32) (by rfl) g1 r1)) pe_int) pa_nil))))
      (pss_cons (ps_set (i := 15) scBo.nd rfl (Or.inr rfl) (pe_callTy cr_range2 (by rfl) T.n_range PyProof.Rows.Boot.«range» (pa_cons (pe_op op_fdivW (pv 9) (pe_glob (v := .int 32) (by rfl) g1 r1)) (pa_cons (pe_op op_add (pe_op op_fdivW (pe_op op_sub (pv 10) pe_int) (pe_glob (v := .int 32) (by rfl) g1 r1)) pe_int) pa_nil))))
      (pss_one (ps_ret (pe_callTy call_tuple_of (by rfl) T.n_tuple PyProof.Rows.Boot.«tuple» (pa_cons (pe_lc2 (own := [("row", 16), ("column", 17)]) (vs1 := [17]) (g := gName 16) (tt := tYes) (g1 := gName 17) (tt1 := tYes) (by rfl) scBo.nd (KU.pi_rngV (pv 14)) (blkOk_by (by kernel_rfl)) (by decide) (fun _ _ _ _ _ => pg_name (i := 16) scBo.nd rfl (Or.inl rfl)) (fun _ _ _ _ _ => pts_nil) (fun _ _ _ _ _ => KU.pi_rngV (pv 15)) (fun _ _ _ _ _ => pg_name (i := 17) scBo.nd rfl (Or.inl rfl)) (fun _ _ _ _ _ => pts_nil) (fun _ _ _ _ _ => pe_op op_add (pe_op op_add (pe_glob (v := .int 49) (by rfl) g2 r2) (pe_op op_mulW (pv 16) (pv 13))) (pv 17))) pa_nil))))))))))))))), ?_⟩
    have d32 : ∀ i : Int, CDivW i 32 := fun i => wide_div (b := 10) (by decide) (by decide) (by decide) (by decide)
    have p62 : (2 : Int) ^ 62 = 4611686018427387904 := by decide
    obtain ⟨ga, lv, ks, rfl, sg, hl, _⟩ := id hg
    obtain ⟨ua, rfl, su⟩ := id hb
    refine ⟨_, rfl, ga, _, _, _, rfl, rfl, sg, atI_nat (j := 0) rfl, _, rfl, lv, G, rfl, hl, o, fun p H1 s1 hp => ⟨p, _, rfl, SqT.of hp, rfl, _, _, rfl, _, _, rfl, rfl, ?_⟩⟩
    refine ⟨_, rfl, ua, _, rfl, (same_tf s1).sq su, rfl, _, _, rfl, _, _, rfl, _, _, rfl, _, _, rfl, rfl, ?_⟩
    refine ⟨_, rfl, _, _, rfl, _, rfl, _, rfl, _, rfl, _, _, rfl, rfl, _, _, rfl, _, rfl, _, _, rfl, _, rfl, _, rfl, _, rfl, _, _, rfl, rfl, _, _, rfl, ?_⟩
    have ex1 : (if b.x + b.w < G.wi then b.x + b.w else G.wi) = mn (b.x + b.w) G.wi := rfl
    have ey1 : (if b.y + b.h < G.hi then b.y + b.h else G.hi) = mn (b.y + b.h) G.hi := rfl
    have ex0 : (if b.x > 0 then b.x else 0) = mx0 b.x := rfl
    have ey0 : (if b.y > 0 then b.y else 0) = mx0 b.y := rfl
    dsimp only [gName]
    rw [ex0, ex1, ey0, ey1]
    have h1 : G.wi = 8 * (G.W : Int) := rfl
    have h2 : G.hi = 8 * (G.rows.length : Int) := rfl
    have w1 := o.w1
    have r1' := o.r1
    obtain ⟨l1, l2, l3, l4, l5, l6, l7, l8⟩ := id lim
    have no : ¬ (meets b ⟨0, 0, G.wi, G.hi⟩ = true) → G.blk b = [] := fun z => by rw [Gm.blk, if_neg z]
    have emp : ¬ (meets b ⟨0, 0, G.wi, G.hi⟩ = true) → 0 ≤ sizeLine ∧ ∀ p, H1 p = none → Q (.ref p) (upd H1 p (.tup [])) := fun z => ⟨by decide, fun p2 np2 => k p2 _ (s1.trans (new_same np2)) (by rw [no z]; exact SqT.of upd_same)⟩
    refine ⟨_, rfl, _, rfl, _, _, rfl, rfl, _, rfl, ite2 (fun z => ?_) (fun z => ?_)⟩
    · have z := of_decide_eq_true z
      refine emp fun q => ?_
      obtain ⟨m1, m2, m3, m4⟩ := (meets_iff _ _).mp q
      dsimp only at m1 m2 m3 m4
      unfold mx0 mn at z
      split at z <;> split at z <;> omega
    have z1 : mx0 b.x < mn (b.x + b.w) G.wi := Int.not_le.mp fun q => z (decide_eq_true q)
    refine ⟨_, rfl, _, rfl, _, _, rfl, rfl, _, rfl, ite2 (fun z => ?_) (fun z => ?_)⟩
    · have z := of_decide_eq_true z
      refine emp fun q => ?_
      obtain ⟨m1, m2, m3, m4⟩ := (meets_iff _ _).mp q
      dsimp only at m1 m2 m3 m4
      unfold mx0 mn at z
      split at z <;> split at z <;> omega
    have z2 : mx0 b.y < mn (b.y + b.h) G.hi := Int.not_le.mp fun q => z (decide_eq_true q)
    have m : meets b ⟨0, 0, G.wi, G.hi⟩ = true := (meets_iff _ _).mpr (by
      dsimp only
      unfold mx0 mn at z1 z2
      refine ⟨?_, ?_, ?_, ?_⟩
      · split at z1 <;> split at z1 <;> omega
      · split at z1 <;> split at z1 <;> omega
      · split at z2 <;> split at z2 <;> omega
      · split at z2 <;> split at z2 <;> omega)
    have bl := blim o lim m
    have ebl : G.blk b = (rngI (G.r0 b) (G.r1 b)).flatMap (G.bkr b) := by rw [Gm.blk, if_pos m]
    have blc := bl.c
    have blr := bl.r
    have bw8 : G.bw ≤ 8 := by have := o.w2; have h3 : G.bw = ((G.W : Int) + 3) / 4 := rfl; omega
    have bw0 : 0 ≤ G.bw := by have h3 : G.bw = ((G.W : Int) + 3) / 4 := rfl; omega
    refine ⟨_, rfl, lv, G, rfl, hl.tf (same_tf s1), o, fun p2 H2 s2 hp2 => ⟨p2, _, _, _, rfl, rfl, SqT.of hp2, at1, ?_⟩⟩
    have S2 := s1.trans s2
    refine ⟨_, rfl, _, _, rfl, rfl, d32 _, _, rfl, _, _, rfl, rfl, _, _, rfl, rfl, d32 _, _, _, rfl, rfl, G.r0 b, G.r1 b, rfl, fun ra nra => ?_⟩
    have s3 := new_same (o := .rng (G.r0 b) (G.r1 b)) nra
    dsimp only [gName]
    refine seq_cut (fun σ' H' => ∃ ca : Addr, σ' = [some (.ref ga), some (.ref ua), some lv, some (.int G.wi), some (.int G.hi), some (.int b.x), some (.int b.y), some (.int b.w), some (.int b.h), some (.int (mx0 b.x)), some (.int (mn (b.x + b.w) G.wi)), some (.int (mx0 b.y)), some (.int (mn (b.y + b.h) G.hi)), some (.int G.bw), some (.ref ra), some (.ref ca), none, none] ∧ H' ra = some (.rng (G.r0 b) (G.r1 b)) ∧ H' ca = some (.rng (G.c0 b) (G.c1 b)) ∧ Same H H') (fun σ' H4 hP => ?_) (fun R hR => ?_)
    rotate_left
    · refine ⟨_, rfl, _, _, rfl, rfl, d32 _, _, rfl, _, _, rfl, rfl, _, _, rfl, rfl, d32 _, _, _, rfl, rfl, G.c0 b, G.c1 b, rfl, fun ca nca => ?_⟩
      have s4 := new_same (o := .rng (G.c0 b) (G.c1 b)) nca
      exact hR _ _ ⟨ca, rfl, s4 _ _ upd_same, upd_same, (S2.trans s3).trans s4⟩
    obtain ⟨ca, rfl, hra, hca, S4⟩ := hP
    refine ⟨_, rfl, ra, G.r0 b, G.r1 b, rfl, hra, (by rw [p62]; omega), fun D hD => ?_⟩
    refine KU.lc_out (walk_range (lo := G.r0 b) (n := (G.r1 b - G.r0 b).toNat)) (fun i H' => Acc H4 D ((((rngI (G.r0 b) (G.r1 b)).take i).flatMap (G.bkr b)).map V.int) H') ⟨new_same hD, by rw [List.take_zero]; exact upd_same⟩ (fun _ _ _ _ => trivial) (fun i x Ha Hb hi hPv hy => ?_) (fun Ha hPv => ?_)
    rotate_left
    · rw [rngI_all, ← ebl] at hPv
      have hl40 := blk_len o lim
      refine ⟨D, _, rfl, .inl ⟨SqL.of hPv.2, fun p5 np5 => k p5 _ ((S4.trans hPv.1).trans (new_same np5)) (SqT.of upd_same)⟩⟩
    obtain ⟨rfl, rfl⟩ := hy
    refine ⟨rfl, ?_⟩
    dsimp only [tYes]
    rw [if_pos rfl]
    obtain ⟨pre, hpre⟩ : ∃ z, z = ((rngI (G.r0 b) (G.r1 b)).take i).flatMap (G.bkr b) := ⟨_, rfl⟩
    have hpl : pre.length ≤ 40 := by rw [hpre]; exact pre_len bl i
    rw [← hpre] at hPv
    refine ⟨_, rfl, ca, G.c0 b, G.c1 b, rfl, hPv.1 _ _ hca, (by rw [p62]; omega), ?_⟩
    refine KU.lc_out (walk_range (lo := G.c0 b) (n := (G.c1 b - G.c0 b).toNat)) (fun j H' => Acc H4 D ((pre ++ ((rngI (G.c0 b) (G.c1 b)).take j).map fun c => 49 + (G.bw * (G.r0 b + (i : Int)) + c)).map V.int) H') (by rw [List.take_zero, List.map_nil, List.append_nil]; exact hPv) (fun _ _ _ _ => trivial) (fun j x Hc Hd hj hPv2 hy => ?_) (fun Hc hPv2 => ?_)
    rotate_left
    · rw [rngI_all] at hPv2
      rw [rngI_take hi, List.flatMap_append, ← hpre]
      simpa [Gm.bkr] using hPv2
    obtain ⟨rfl, rfl⟩ := hy
    refine ⟨rfl, ?_⟩
    dsimp only [tYes]
    rw [if_pos rfl]
    have mw : CMulW (G.r0 b + (i : Int)) G.bw := wide_mul (a := 40) (b := 40) (small_ab (by omega) (by rw [pow40]; omega)) (small_ab (by omega) (by rw [pow40]; omega)) (by decide) (by decide) (by decide)
    refine ⟨_, rfl, _, rfl, _, _, rfl, rfl, mw, _, _, rfl, rfl, _, rfl, _, _, rfl, rfl, _, hPv2.2, ?_, fun c ob z => ?_, ?_⟩
    · rw [List.length_map, List.length_append, List.length_map, List.length_take, rngI_len]
      exact Nat.lt_of_lt_of_le (show _ < 1000 by omega) (by decide)
    · rw [upd_ne (ne_of_none z hD)]
      exact hPv2.1 _ _ z
    · rw [upd_same, rngI_take hj, List.map_append, List.map_append, List.map_append, List.map_append, List.append_assoc]
      simp [Int.add_assoc, Int.mul_comm]
end
end K27
set_option maxRecDepth 100000
set_option maxHeartbeats 4000000
/-! Sets of cells. -/
namespace K27
open PySem PySem.Spec PyProof.Rows L2 KF KD KP
theorem srt_uniq : ∀ (xs ys : List Int), xs.Pairwise (· < ·) → ys.Pairwise (· < ·) → (∀ c, c ∈ xs ↔ c ∈ ys) → xs = ys
  | [], [], _, _, _ => rfl
  | [], y :: ys, _, _, h => absurd ((h y).mpr List.mem_cons_self) List.not_mem_nil
  | x :: xs, [], _, _, h => absurd ((h x).mp List.mem_cons_self) List.not_mem_nil
  | x :: xs, y :: ys, p, q, h => by
    obtain ⟨p1, p2⟩ := List.pairwise_cons.mp p
    obtain ⟨q1, q2⟩ := List.pairwise_cons.mp q
    have e : x = y := by
      rcases List.mem_cons.mp ((h x).mp List.mem_cons_self) with e | hx
      · exact e
      · rcases List.mem_cons.mp ((h y).mpr List.mem_cons_self) with e | hy
        · exact e.symm
        · have := q1 x hx
          have := p1 y hy
          omega
    subst e
    congr 1
    refine srt_uniq xs ys p2 q2 fun c => ⟨fun hc => ?_, fun hc => ?_⟩
    · rcases List.mem_cons.mp ((h c).mp (List.mem_cons_of_mem _ hc)) with e | z
      · have := p1 c hc
        omega
      · exact z
    · rcases List.mem_cons.mp ((h c).mpr (List.mem_cons_of_mem _ hc)) with e | z
      · have := q1 c hc
        omega
      · exact z
theorem lt_of {ys : List Int} (h : ys.Pairwise (· ≤ ·)) (nd : ys.Nodup) : ys.Pairwise (· < ·) := by
  induction ys with
  | nil => exact .nil
  | cons y ys ih =>
    obtain ⟨h1, h2⟩ := List.pairwise_cons.mp h
    obtain ⟨n1, n2⟩ := List.nodup_cons.mp nd
    refine List.pairwise_cons.mpr ⟨fun z hz => ?_, ih h2 n2⟩
    have := h1 z hz
    have : y ≠ z := fun e => n1 (by rw [e]; exact hz)
    omega
theorem range_lt (n : Nat) (p : Nat → Bool) : (((List.range n).filter p).map fun i : Nat => (i : Int)).Pairwise (· < ·) := by
  rw [List.pairwise_map]
  exact (List.Pairwise.filter _ (List.pairwise_lt_range (n := n))).imp fun h => by omega
/-- a cell -/
def Cel (c : Int) : Prop := (0 ≤ c ∧ c < 32) ∨ (49 ≤ c ∧ c < 73)
def celL : List Int := (rngI 0 32) ++ (rngI 49 73)
theorem celL_mem {c : Int} : c ∈ celL ↔ Cel c := by
  rw [celL, List.mem_append, rngI_mem, rngI_mem]
  exact Iff.rfl
theorem nd_len : ∀ (ks L : List Int), ks.Nodup → (∀ c ∈ ks, c ∈ L) → ks.length ≤ L.length
  | [], _, _, _ => Nat.zero_le _
  | c :: ks, L, nd, h => by
    obtain ⟨n1, n2⟩ := List.nodup_cons.mp nd
    have hc := h c List.mem_cons_self
    have h1 := nd_len ks (L.erase c) n2 fun x hx => (List.mem_erase_of_ne (fun e => n1 (by rw [← e]; exact hx))).mpr (h x (List.mem_cons_of_mem _ hx))
    rw [List.length_erase_of_mem hc] at h1
    have := List.length_pos_of_mem hc
    rw [List.length_cons]
    omega
theorem cel_len {ks : List Int} (nd : ks.Nodup) (h : ∀ c ∈ ks, Cel c) : ks.length ≤ 56 := by
  have h2 := nd_len ks celL nd fun c hc => celL_mem.mpr (h c hc)
  have : celL.length = 56 := by decide
  omega
/-- a dict whose keys are the cells of which P holds -/
def KSet (H : Hp) (d : Addr) (p : Int → Prop) : Prop := ∃ (kvs : List (Key × V)) (ks : List Int), H d = some (.dK kvs) ∧ kvs.map (·.1) = ks.map Sum.inl ∧ ks.Nodup ∧ (∀ c, c ∈ ks ↔ p c) ∧ ∀ c ∈ ks, Cel c
theorem KSet.imp {H : Hp} {d : Addr} {p q : Int → Prop} (h : KSet H d p) (e : ∀ c, p c ↔ q c) : KSet H d q := by
  obtain ⟨kvs, ks, h1, h2, h3, h4, h5⟩ := h
  exact ⟨kvs, ks, h1, h2, h3, fun c => (h4 c).trans (e c), h5⟩
theorem KSet.keep {H H' : Hp} {d : Addr} {p : Int → Prop} (h : KSet H d p) (e : H' d = H d) : KSet H' d p := by
  obtain ⟨kvs, ks, h1, h2⟩ := h
  exact ⟨kvs, ks, by rw [e]; exact h1, h2⟩
theorem KSet.same {H H' : Hp} {d : Addr} {p : Int → Prop} (h : KSet H d p) (e : Same H H') : KSet H' d p := by
  obtain ⟨kvs, ks, h1, h2⟩ := h
  exact ⟨kvs, ks, e _ _ h1, h2⟩
theorem KSet.frm {H H' : Hp} {d x : Addr} {p : Int → Prop} (h : KSet H d p) (e : Frm x H H') (n : d ≠ x) : KSet H' d p := by
  obtain ⟨kvs, ks, h1, h2⟩ := h
  exact ⟨kvs, ks, e _ _ n h1, h2⟩
theorem kset_nil {H : Hp} {d : Addr} (h : H d = some (.dK [])) : KSet H d fun _ => False := ⟨[], [], h, rfl, List.nodup_nil, fun _ => ⟨fun h => (List.not_mem_nil h).elim, fun h => h.elim⟩, fun _ h => (List.not_mem_nil h).elim⟩
theorem KSet.dict {H : Hp} {d : Addr} {p : Int → Prop} (h : KSet H d p) : ∃ kvs, H d = some (.dK kvs) := by
  obtain ⟨kvs, _, h1, _⟩ := h
  exact ⟨kvs, h1⟩
theorem kset_put {H : Hp} {d : Addr} {p : Int → Prop} {kvs : List (Key × V)} {c : Int} {v : V} (h : KSet H d p) (hd : H d = some (.dK kvs)) (hc : Cel c) : KSet (upd H d (.dK (putK kvs (.inl c) v))) d fun x => p x ∨ x = c := by
  obtain ⟨kvs', ks, h1, h2, h3, h4, h5⟩ := h
  have e : kvs' = kvs := by rw [h1] at hd; injection hd with hd; injection hd
  subst e
  have hany : (kvs'.any fun kv => decide (kv.1 = (.inl c : Key))) = decide (c ∈ ks) := by
    have g : (kvs'.any fun kv => decide (kv.1 = (.inl c : Key))) = ((kvs'.map (·.1)).any fun k => decide (k = (.inl c : Key))) := by
      rw [List.any_map]
      rfl
    rw [g, h2, List.any_map, Bool.eq_iff_iff]
    simp
  by_cases hm : c ∈ ks
  · refine ⟨_, ks, upd_same, ?_, h3, fun x => ⟨fun hx => .inl ((h4 x).mp hx), fun hx => ?_⟩, h5⟩
    · rw [putK, hany, decide_eq_true hm, if_pos rfl, List.map_map, ← h2]
      refine List.map_congr_left fun kv _ => ?_
      show (if kv.1 = Sum.inl c then (kv.1, v) else kv).1 = kv.1
      split <;> rfl
    · rcases hx with hx | rfl
      · exact (h4 x).mpr hx
      · exact hm
  · refine ⟨_, ks ++ [c], upd_same, ?_, ?_, fun x => ?_, fun x hx => ?_⟩
    · rw [putK, hany, decide_eq_false hm, if_neg (by decide), List.map_append, h2, List.map_append]
      rfl
    · rw [List.nodup_append]
      refine ⟨h3, by simp, fun a ha b hb => ?_⟩
      have hb : b = c := by simpa using hb
      exact fun z => hm (by rw [← hb, ← z]; exact ha)
    · rw [List.mem_append, List.mem_singleton, h4]
    · rcases List.mem_append.mp hx with hx | hx
      · exact h5 x hx
      · rw [List.mem_singleton.mp hx]
        exact hc
theorem KSet.len {H : Hp} {d : Addr} {p : Int → Prop} {kvs : List (Key × V)} (h : KSet H d p) (hd : H d = some (.dK kvs)) : kvs.length ≤ 56 := by
  obtain ⟨kvs', ks, h1, h2, h3, h4, h5⟩ := h
  have e : kvs' = kvs := by rw [h1] at hd; injection hd with hd; injection hd
  subst e
  have h6 := congrArg List.length h2
  rw [List.length_map, List.length_map] at h6
  have := cel_len h3 h5
  omega
section
end
end K27
set_option maxRecDepth 100000
set_option maxHeartbeats 4000000
/-! Looks. -/
namespace K27
open PySem PySem.Spec PyProof.Rows L2 KF KD KP
def LkAt (K : PySem.W.Frag) (H : Hp) (a wt ld : Addr) (p : Int → Prop) : Prop := ∃ dx, H a = some (.ins (He.ga K "Looks") dx [("_world", .ref wt), ("_looked", .ref ld)]) ∧ KSet H ld p
theorem LkAt.imp {K : PySem.W.Frag} {H : Hp} {a wt ld : Addr} {p q : Int → Prop} (h : LkAt K H a wt ld p) (e : ∀ c, p c ↔ q c) : LkAt K H a wt ld q := by
  obtain ⟨dx, h1, h2⟩ := h
  exact ⟨dx, h1, h2.imp e⟩
theorem LkAt.same {K : PySem.W.Frag} {H H' : Hp} {a wt ld : Addr} {p : Int → Prop} (h : LkAt K H a wt ld p) (e : Same H H') : LkAt K H' a wt ld p := by
  obtain ⟨dx, h1, h2⟩ := h
  exact ⟨dx, e _ _ h1, h2.same e⟩
theorem LkAt.frm {K : PySem.W.Frag} {H H' : Hp} {a wt ld x : Addr} {p : Int → Prop} (h : LkAt K H a wt ld p) (e : Frm x H H') (n1 : a ≠ x) (n2 : ld ≠ x) : LkAt K H' a wt ld p := by
  obtain ⟨dx, h1, h2⟩ := h
  exact ⟨dx, e _ _ n1 h1, h2.frm e n2⟩
theorem Frm.tfk {d : Addr} {H H' : Hp} {kvs : List (Key × V)} (f : Frm d H H') (h : H d = some (.dK kvs)) : TF H H' := fun c ys z => by
  rcases z with z | ⟨u, z⟩
  · exact .inl (f c _ (fun q => by rw [q, h] at z; cases z) z)
  · exact .inr ⟨u, f c _ (fun q => by rw [q, h] at z; cases z) z⟩
theorem LkAt.tf {K : PySem.W.Frag} {H H' : Hp} {a wt ld : Addr} {p : Int → Prop} (h : LkAt K H a wt ld p) (f : Frm ld H H') : TF H H' := by
  obtain ⟨dx, h1, h2⟩ := h
  exact Frm.tfk f h2.dict.choose_spec
section
variable {P : Program} {w : World} {K : PySem.W.Frag} {mg : Str → Option Value} {base : Heap}
theorem nf' {b : Bool} (h : b = false) : ¬ b = true := by rw [h]; decide
def spWhole : Sp := fun vs H Q _ => ∃ n : Int, vs = [.int n] ∧ Q (.bl true) H
theorem scWh : FnScope ["told"] ["told"] (defScope s_is_whole) := ⟨rfl, rfl, rfl, by decide +kernel, rfl, by decide +kernel, by decide +kernel⟩
theorem ok_is_whole (T : Txt K w mg) : FnOk P w K mg base CX0 1 (He.fAd K ("is_whole", none)) (fdAt K (He.fAd K ("is_whole", none))) ["told"] spWhole := by
  refine T.F_is_whole.ok scWh (fun vs H Q E h => ?_) (fun cdv A outer s H vs Q E hr h => ?_)
  · obtain ⟨n, rfl, _⟩ := h
    rfl
  · obtain ⟨n, rfl, q⟩ := h
    refine ⟨_, PSs.nox (pss_one (ps_ret (pe_and (pe_callB (r := rIsi K) call_isi (by rfl) T.n_isinstance PyProof.Rows.Boot.«isinstance» (pa_cons (pv 0) (pa_cons (pe_bltn (v := .ty "int") (by rfl) T.n_int PyProof.Rows.Boot.«int» rfl) pa_nil))) (pe_one (pe_not (pe_callB (r := rIsi K) call_isi (by rfl) T.n_isinstance PyProof.Rows.Boot.«isinstance» (pa_cons (pv 0) (pa_cons (pe_bltn (v := .ty "bool") (by rfl) T.n_bool PyProof.Rows.Boot.«bool» rfl) pa_nil)))))))), ?_⟩
    refine ⟨_, rfl, _, _, _, _, _, rfl, .ty "int", .base (.int n), kit_ty (r := true) (by decide +kernel), _, rfl, iteT ?_⟩
    exact ⟨_, rfl, _, _, _, _, _, rfl, .ty "bool", .base (.int n), kit_ty (r := false) (by decide +kernel), _, rfl, q⟩
def spBetween : Sp := fun vs H Q _ => ∃ n lo hi : Int, vs = [.int n, .int lo, .int hi] ∧ lo ≤ n ∧ n ≤ hi ∧ Q (.bl true) H
theorem scBe : FnScope ["told", "low", "high"] ["told", "low", "high"] (defScope s_is_between) := ⟨rfl, rfl, rfl, by decide +kernel, rfl, by decide +kernel, by decide +kernel⟩
theorem ok_is_between (T : Txt K w mg) : FnOk P w K mg base CX0 2 (He.fAd K ("is_between", none)) (fdAt K (He.fAd K ("is_between", none))) ["told", "low", "high"] spBetween := by
  refine T.F_is_between.ok scBe (fun vs H Q E h => ?_) (fun cdv A outer s H vs Q E hr h => ?_)
  · obtain ⟨n, lo, hi, rfl, _⟩ := h
    rfl
  · obtain ⟨n, lo, hi, rfl, h1, h2, q⟩ := h
    refine ⟨_, PSs.nox (pss_one (ps_ret (pe_and (pe_call (ok_is_whole T) (hr.mono (by first | decide | omega)) (by rfl) T.g_is_whole (T.F_is_whole).kp T.b_is_whole .nil pass0 (pa_cons (pv 0) pa_nil)) (pe_one (pe_chain op_le op_le (pv 1) (pv 0) (pv 2)))))), ?_⟩
    refine ⟨_, rfl, n, rfl, _, rfl, iteT ?_⟩
    refine ⟨_, rfl, _, rfl, _, _, rfl, rfl, _, rfl, ite2 (fun _ => ?_) (fun z => absurd (decide_eq_true h1) z)⟩
    refine ⟨_, rfl, _, _, rfl, rfl, ?_⟩
    show Q (V.bl (decide (n ≤ hi))) H
    rw [decide_eq_true h2]
    exact q
def spLki (K : PySem.W.Frag) : Sp := fun vs H Q _ => ∃ (a dx wt : Addr), vs = [.ref a, .ref wt] ∧ H a = some (.ins (He.ga K "Looks") dx []) ∧ ∀ H' ld, LkAt K H' a wt ld (fun _ => False) → Frm a H H' → H ld = none → Q .non H'
theorem scLki : FnScope ["self", "world"] ["self", "world"] (defScope s_Looks_init) := ⟨rfl, rfl, rfl, by decide +kernel, rfl, by decide +kernel, by decide +kernel⟩
theorem ok_Looks_init (T : Txt K w mg) : FnOk P w K mg base CX0 1 (He.fAd K ("Looks", some "__init__")) (fdAt K (He.fAd K ("Looks", some "__init__"))) ["self", "world"] (spLki K) := by
  refine T.F_Looks_init.ok scLki (fun vs H Q E h => ?_) (fun cdv A outer s H vs Q E hr h => ?_)
  · obtain ⟨a, dx, wt, rfl, _⟩ := h
    rfl
  · obtain ⟨a, dx, wt, rfl, ha, k⟩ := h
    refine ⟨_, PSs.nox (pss_cons (ps_fld (pv 0) (pv 1) rfl)
      (pss_one (ps_fld (pv 0) pe_dnewK rfl))), ?_⟩
    refine ⟨_, rfl, _, rfl, a, _, dx, _, rfl, ha, T.k_Looks, T.a_Looks__world, (show 0 < 1000 by decide), ?_⟩
    refine fun ld nld => ?_
    refine ⟨_, rfl, a, _, dx, _, rfl, (new_same nld) _ _ upd_same, T.k_Looks, T.a_Looks__looked, (show 1 < 1000 by decide), ?_⟩
    have hla : ld ≠ a := fun e => by
      rw [e, upd_same] at nld
      cases nld
    have nH : H ld = none := by
      rw [upd_ne hla] at nld
      exact nld
    refine k _ ld ⟨dx, upd_same, ?_⟩ (fun b o n z => ?_) nH
    · refine kset_nil ?_
      rw [upd_ne hla, upd_same]
    · rw [upd_ne n]
      rw [upd_ne (ne_of_none z nH), upd_ne n]
      exact z
def spAt (K : PySem.W.Frag) : Sp := fun vs H Q _ => ∃ (a wt ld : Addr) (wv : List V) (p : Int → Prop) (n : Nat) (v : V), vs = [.ref a, .int (n : Int)] ∧ LkAt K H a wt ld p ∧ SqT K H wt wv ∧ wv[n]? = some v ∧ Cel (n : Int) ∧ ∀ H', Frm ld H H' → LkAt K H' a wt ld (fun c => p c ∨ c = (n : Int)) → Q v H'
theorem scAt : FnScope ["self", "cell"] ["self", "cell"] (defScope s_Looks_at) := ⟨rfl, rfl, rfl, by decide +kernel, rfl, by decide +kernel, by decide +kernel⟩
theorem ok_Looks_at (T : Txt K w mg) : FnOk P w K mg base CX0 3 (He.fAd K ("Looks", some "at")) (fdAt K (He.fAd K ("Looks", some "at"))) ["self", "cell"] (spAt K) := by
  refine T.F_Looks_at.ok scAt (fun vs H Q E h => ?_) (fun cdv A outer s H vs Q E hr h => ?_)
  · obtain ⟨a, wt, ld, wv, p, n, v, rfl, _⟩ := h
    rfl
  · obtain ⟨a, wt, ld, wv, p, n, v, rfl, lk, sq, hv, hc, k⟩ := h
    have hu := Nat.lt_of_le_of_lt (Nat.add_le_add_left (by decide : 1 ≤ 64) _) hr.units
    refine ⟨_, PSs.nox (pss_cons (ps_if (pt_not (pt_val (pe_call (ok_is_between T) (hr.mono (by first | decide | omega)) (by rfl) T.g_is_between (T.F_is_between).kp T.b_is_between .nil pass0 (pa_cons (pv 1) (pa_cons pe_int (pa_cons (pe_op op_sub (pe_callB (r := Evl.rLenS K) call_len_seq (by rfl) T.n_len PyProof.Rows.Boot.«len» (pa_cons (pe_fld (pv 0) rfl) pa_nil)) pe_int) pa_nil)))))) (pss_one ps_never) pss_nil)
      (pss_cons (ps_dput hu (pe_fld (pv 0) rfl) (pv 1) pe_bl rfl)
      (pss_one (ps_ret (pe_ix (r := rIxT K) ix_tup (pe_fld (pv 0) rfl) (pv 1) (fun _ _ => rfl)))))), ?_⟩
    obtain ⟨dx, ha, ks⟩ := id lk
    obtain ⟨kvs, hk⟩ := ks.dict
    have hlt := (List.getElem?_eq_some_iff.mp hv).1
    refine ⟨_, rfl, _, rfl, a, _, dx, _, .ref wt, rfl, ha, T.k_Looks, T.a_Looks__world, rfl, wt, _, rfl, .inr sq, _, _, rfl, rfl, (n : Int), 0, _, rfl, by omega, by omega, true, rfl, iteF ?_⟩
    refine ⟨_, rfl, a, _, dx, _, .ref ld, rfl, ha, T.k_Looks, T.a_Looks__looked, rfl, _, rfl, ld, _, rfl, DPut.k (k := .inl (n : Int)) hk (Nat.lt_of_le_of_lt (ks.len hk) (by decide)), ?_⟩
    have hal : a ≠ ld := fun e => by
      rw [e, hk] at ha
      cases ha
    have f1 : Frm ld H (upd H ld (.dK (putK kvs (.inl (n : Int)) (.bl true)))) := Frm.of_upd
    have ha2 := f1 _ _ hal ha
    refine ⟨_, rfl, a, _, dx, _, .ref wt, rfl, ha2, T.k_Looks, T.a_Looks__world, rfl, _, rfl, wt, _, _, _, rfl, rfl, (Frm.tfk f1 hk).sq sq, atI_nat hv, ?_⟩
    exact k _ f1 ⟨dx, ha2, kset_put ks hk hc⟩
/-! ### seen -/
theorem TF.lst1 {H : Hp} {p : Addr} {o : HO} {xs : List V} (h : H p = some (.lst xs)) : TF H (upd H p o) := fun c ys z => by
  rcases z with z | ⟨u, z⟩
  · exact .inl (by rw [upd_ne (fun q => by rw [q, h] at z; cases z)]; exact z)
  · exact .inr ⟨u, by rw [upd_ne (fun q => by rw [q, h] at z; cases z)]; exact z⟩
theorem dpa_ap {K : PySem.W.Frag} {H : Hp} : ∀ {xs ys : List V} {ds es : List PyData}, DpAll K H xs ds → DpAll K H ys es → DpAll K H (xs ++ ys) (ds ++ es)
  | _, _, _, _, .nil, h => h
  | _, _, _, _, .cons a t, h => .cons a (dpa_ap t h)
theorem nl_gd : ∀ {l : List PyData}, NLs l → ∀ n, NL (l.getD n .none)
  | [], _, n => by rw [List.getD_nil]; trivial
  | d :: l, h, 0 => h.1
  | d :: l, h, n + 1 => by rw [List.getD_cons_succ]; exact nl_gd h.2 n
def seenD (wd : List PyData) (ys : List Int) : PyData := .tuple (ys.map fun c => .tuple [.int c, wd.getD c.toNat .none])
theorem nls_seen (wd : List PyData) (nl : NLs wd) : ∀ ys : List Int, NLs (ys.map fun c => PyData.tuple [.int c, wd.getD c.toNat .none])
  | [] => trivial
  | c :: ys => by
    refine ⟨⟨trivial, ?_, trivial⟩, nls_seen wd nl ys⟩
    exact nl_gd nl _
/-- what a comprehension over the cells gathers -/
def SeenV (K : PySem.W.Frag) (H : Hp) (wd : List PyData) (ys : List Int) (acc : List V) : Prop := DpAll K H acc (ys.map fun c => PyData.tuple [.int c, wd.getD c.toNat .none])
theorem seen_step {K : PySem.W.Frag} {H0 H1 : Hp} {D q : Addr} {wd : List PyData} {ys : List Int} {acc : List V} {i : Nat} {c : Int} {v : V} (nl : NLs wd) (nD : H0 D = none) (sm : Same H0 H1) (hacc : H1 D = some (.lst acc)) (hs : SeenV K H1 wd (ys.take i) acc) (hy : ys[i]? = some c) (hv : Dp K H1 v (wd.getD c.toNat .none)) (nv : NL (wd.getD c.toNat .none)) (nq : H1 q = none) (hl : ys.length ≤ 1000) :
    ∃ acc', (upd H1 q (.tup [.int c, v])) D = some (.lst acc') ∧ acc'.length < sizeLine ∧ (∃ acc2, (upd (upd H1 q (.tup [.int c, v])) D (.lst (acc' ++ [.ref q]))) D = some (.lst acc2) ∧ SeenV K (upd (upd H1 q (.tup [.int c, v])) D (.lst (acc' ++ [.ref q]))) wd (ys.take (i + 1)) acc2 ∧ Same H0 (upd (upd H1 q (.tup [.int c, v])) D (.lst (acc' ++ [.ref q])))) := by
  have s1 := new_same (o := .tup [.int c, v]) nq
  have h1 := s1 _ _ hacc
  have tf := TF.lst1 (o := .lst (acc ++ [.ref q])) h1
  have al : acc.length ≤ ys.length := by
    rw [dpa_len hs, List.length_map, List.length_take]
    omega
  refine ⟨acc, h1, Nat.lt_of_le_of_lt (show acc.length ≤ 1000 by omega) (by decide), acc ++ [.ref q], upd_same, ?_, fun b o z => ?_⟩
  · unfold SeenV
    rw [List.take_add_one, hy, List.map_append]
    refine dpa_ap (dpa_nl ((same_tf s1).trans tf) _ _ (nls_seen wd nl _) hs) (.cons ?_ .nil)
    exact .tup (tf.sq (SqT.of upd_same)) (.cons (.int _) (.cons (dp_nl ((same_tf s1).trans tf) _ _ nv hv) .nil))
  · rw [upd_ne (ne_of_none z nD)]
    exact s1 _ _ (sm _ _ z)
theorem dpa_gd {K : PySem.W.Frag} {H : Hp} {wv : List V} {wd : List PyData} (d : DpAll K H wv wd) {n : Nat} (h : n < wv.length) : ∃ v, wv[n]? = some v ∧ Dp K H v (wd.getD n .none) := by
  have hl := dpa_len d
  obtain ⟨v, h1, h2⟩ := dpa_get d (List.getElem?_eq_getElem (show n < wd.length by omega))
  refine ⟨v, h1, ?_⟩
  rw [List.getD, List.getElem?_eq_getElem (show n < wd.length by omega)]
  exact h2
def spSeen (K : PySem.W.Frag) : Sp := fun vs H Q _ => ∃ (a wt ld : Addr) (wv : List V) (wd : List PyData) (p : Int → Prop), vs = [.ref a] ∧ LkAt K H a wt ld p ∧ SqT K H wt wv ∧ DpAll K H wv wd ∧ NLs wd ∧ (∀ c, p c → 0 ≤ c ∧ c < (wv.length : Int)) ∧
  ∀ t ys H', Same H H' → ys.Pairwise (· < ·) → (∀ c, c ∈ ys ↔ p c) → Dp K H' (.ref t) (seenD wd ys) → Q (.ref t) H'
theorem scSee : FnScope ["self", "cell"] ["self"] (defScope s_Looks_seen) := ⟨rfl, rfl, rfl, by decide +kernel, rfl, by decide +kernel, by decide +kernel⟩
theorem ok_Looks_seen (T : Txt K w mg) : FnOk P w K mg base CX0 1 (He.fAd K ("Looks", some "seen")) (fdAt K (He.fAd K ("Looks", some "seen"))) ["self"] (spSeen K) := by
  refine T.F_Looks_seen.ok scSee (fun vs H Q E h => ?_) (fun cdv A outer s H vs Q E hr h => ?_)
  · obtain ⟨a, wt, ld, wv, wd, p, rfl, _⟩ := h
    rfl
  · obtain ⟨a, wt, ld, wv, wd, p, rfl, lk, sq, dw, nl, hp, k⟩ := h
    refine ⟨_, PSs.nox (pss_one (ps_ret (pe_callTy call_tuple_of (by rfl) T.n_tuple PyProof.Rows.Boot.«tuple» (pa_cons (pe_lc (own := [("cell", 1)]) (g := gName 1) (tt := tYes) (by rfl) scSee.nd (pi_list (pe_callB (call_sortedDI (by rfl)) (by rfl) T.n_sorted PyProof.Rows.Boot.«sorted» (pa_cons (pe_fld (pv 0) rfl) pa_nil))) (blkOk_by (own := [("cell", 1)]) (N := ["self", "cell"]) (sc := defScope s_Looks_seen) (by decide +kernel)) (fun _ _ _ _ _ => pg_name (i := 1) scSee.nd rfl (Or.inl rfl)) (fun _ _ _ _ _ => pts_nil) (fun _ _ _ _ _ => (pe_tup (pa_cons (pv 1) (pa_cons (pe_ix (r := rIxT K) ix_tup (show PE _ _ (tFld K (tVar 0) "_world") from pe_fld (pv 0) rfl) (pv 1) (fun _ _ => rfl)) pa_nil))))) pa_nil)))), ?_⟩
    obtain ⟨dx, ha, kvs, ks, hk, hkk, hnd, hmem, hcel⟩ := id lk
    have k56 := cel_len hnd hcel
    refine ⟨_, rfl, a, _, dx, _, .ref ld, rfl, ha, T.k_Looks, T.a_Looks__looked, rfl, ld, kvs, ks, rfl, .inl hk, hkk, by omega, fun ys q hperm hsort nq => ?_⟩
    have s1 := new_same (o := .lst (ys.map V.int)) nq
    have hq : (upd H q (.lst (ys.map V.int))) q = some (.lst (ys.map V.int)) := upd_same
    have yn : ys.Nodup := hperm.nodup_iff.mpr hnd
    have yl : ys.length ≤ 1000 := by rw [hperm.length_eq]; omega
    have ym : ∀ c, c ∈ ys ↔ p c := fun c => (hperm.mem_iff).trans (hmem c)
    refine ⟨q, rfl, ⟨_, SqL.of hq⟩, fun D hD => ?_⟩
    refine lc_it (walk_list (K := K) (a := q) (xs := ys.map V.int)) (fun i H' => ∃ acc, H' D = some (.lst acc) ∧ SeenV K H' wd (ys.take i) acc ∧ Same (upd H q (.lst (ys.map V.int))) H') ⟨[], upd_same, by rw [List.take_zero]; exact .nil, new_same hD⟩ (fun i H' _ h => by obtain ⟨_, _, _, h⟩ := h; exact SqL.of (h _ _ hq)) (fun i v H' Hx hi h yy => ?_) (fun H' h => ?_)
    · obtain ⟨rfl, hv⟩ := yy
      obtain ⟨acc, hacc, hs, sm⟩ := h
      rw [List.length_map] at hi
      have hx := List.getElem?_eq_getElem hi
      obtain ⟨c, hc⟩ : ∃ c, c = ys[i] := ⟨_, rfl⟩
      rw [← hc] at hx
      rw [List.getElem?_map, hx] at hv
      cases hv
      refine ⟨rfl, ?_⟩
      dsimp only [tYes]
      rw [if_pos rfl]
      have S := s1.trans sm
      obtain ⟨c0, c1⟩ := hp c ((ym c).mp (List.mem_of_getElem? hx))
      obtain ⟨n, rfl⟩ := Int.eq_ofNat_of_zero_le c0
      have hn : n < wv.length := by omega
      obtain ⟨v, hv1, hv2⟩ := dpa_gd dw hn
      refine ⟨_, rfl, _, rfl, a, _, dx, _, .ref wt, rfl, S _ _ ha, T.k_Looks, T.a_Looks__world, rfl, _, rfl, wt, _, _, v, rfl, rfl, (same_tf S).sq sq, atI_nat hv1, (show 2 ≤ sizeLine by decide), fun q2 nq2 => ?_⟩
      exact seen_step nl hD sm hacc hs hx (by rw [Int.toNat_natCast]; exact dp_nl (same_tf S) _ _ (nl_gd nl _) hv2) (nl_gd nl _) nq2 yl
    · obtain ⟨acc, hacc, hs, sm⟩ := h
      rw [List.length_map, List.take_length] at hs
      refine ⟨D, acc, rfl, .inl ⟨SqL.of hacc, fun t nt => ?_⟩⟩
      have st := new_same (o := .tup acc) nt
      exact k t ys _ ((s1.trans sm).trans st) (lt_of hsort yn) ym (.tup (SqT.of upd_same) (dpa_nl (same_tf st) _ _ (nls_seen wd nl _) hs))
end
end K27
set_option maxRecDepth 100000
set_option maxHeartbeats 4000000
/-! Meeting: the program. -/
namespace K27
open PySem PySem.Spec PyProof.Rows L2 KF KD KP
def Gm.bx (G : Gm) (t : Tg) : Bx := match G.kds[t.k]? with
  | some kd => t.box kd
  | none => ⟨0, 0, 1, 1⟩
def Gm.hs (G : Gm) (t : Tg) (n : Str) : Bool := match G.kds[t.k]? with
  | some kd => kd.has n
  | none => false
structure TgOk (G : Gm) (t : Tg) : Prop where
  k : t.k < G.kds.length
  x1 : -1000 ≤ t.x
  x2 : t.x ≤ 1000
  y1 : -1000 ≤ t.y
  y2 : t.y ≤ 4000
  fr : G.fr (G.bx t) = true
  d1 : -7 ≤ t.dy
  d2 : t.dy ≤ 7
theorem hi_le {G : Gm} (o : G.ok) : 8 ≤ G.hi ∧ G.hi ≤ 160 := by
  have h2 : G.hi = 8 * (G.rows.length : Int) := rfl
  have := o.r1
  have := o.r2
  omega
theorem TgOk.kd {G : Gm} {t : Tg} (h : TgOk G t) : ∃ kd, G.kds[t.k]? = some kd ∧ kd ∈ G.kds := ⟨_, List.getElem?_eq_getElem h.k, List.getElem_mem h.k⟩
theorem TgOk.lim {G : Gm} {t : Tg} (o : G.ok) (h : TgOk G t) : (G.bx t).lim ∧ (∀ dx dy : Int, -1 ≤ dx → dx ≤ 1 → -1 ≤ dy → dy ≤ 1 → ((G.bx t).mv dx dy).lim) ∧ (G.bx t).y + (G.bx t).h ≤ 100000 := by
  obtain ⟨kd, hk, hm⟩ := h.kd
  obtain ⟨a1, a2, a3, a4, _⟩ := o.kw kd hm
  have hh := hi_le o
  have e : G.bx t = t.box kd := by rw [Gm.bx, hk]
  have := h.x1
  have := h.x2
  have := h.y1
  have := h.y2
  rw [e]
  refine ⟨⟨?_, ?_, ?_, ?_, ?_, ?_, ?_, ?_⟩, fun dx dy b1 b2 b3 b4 => ⟨?_, ?_, ?_, ?_, ?_, ?_, ?_, ?_⟩, ?_⟩ <;> (dsimp only [Tg.box, Bx.mv]; omega)
/-- what lies in a slot -/
def SlAt (K : PySem.W.Frag) (H : Hp) (v : V) : Option Tg → Prop
  | none => v = .non
  | some t => TgAt K H v t
theorem SlAt.tf {K : PySem.W.Frag} {H H' : Hp} {v : V} {o : Option Tg} (h : SlAt K H v o) (e : TF H H') : SlAt K H' v o := by
  cases o with
  | none => exact h
  | some t => exact TgAt.tf h e
structure SlAll (G : Gm) (sl : List (Option Tg)) : Prop where
  len : sl.length = 16
  ok : ∀ t, some t ∈ sl → TgOk G t
def inB (G : Gm) (sl : List (Option Tg)) (c : Int) (s : Nat) : Bool := match sl[s]? with
  | some (some t) => decide (c ∈ G.blk (G.bx t))
  | _ => false
def bkt (G : Gm) (sl : List (Option Tg)) (c : Int) : List Nat := (List.range 16).filter (inB G sl c)
def near (G : Gm) (sl : List (Option Tg)) (cs : List Int) (s : Nat) : Bool := cs.any fun c => inB G sl c s
def meetS (G : Gm) (sl : List (Option Tg)) (b : Bx) (s : Nat) : Bool := match sl[s]? with
  | some (some t) => meets b (G.bx t)
  | _ => false
def nV (l : List Nat) : List V := l.map fun n : Nat => V.int (n : Int)
def lookL (G : Gm) (sl : List (Option Tg)) (b : Bx) (but : List Nat) : List Nat := (List.range 16).filter fun s => !but.contains s && (near G sl (G.blk b) s && meetS G sl b s)
def seenP (G : Gm) (sl : List (Option Tg)) (b : Bx) (but : List Nat) (p : Int → Prop) (c : Int) : Prop := p c ∨ c ∈ G.blk b ∨ ∃ s : Nat, c = (s : Int) ∧ s < 16 ∧ s ∉ but ∧ near G sl (G.blk b) s = true
theorem near_thing {G : Gm} {sl : List (Option Tg)} {cs : List Int} {s : Nat} (h : near G sl cs s = true) : ∃ t, sl[s]? = some (some t) := by
  obtain ⟨c, _, hc⟩ := List.any_eq_true.mp h
  unfold inB at hc
  split at hc
  · rename_i t e
    exact ⟨t, e⟩
  · cases hc
structure WtAt (K : PySem.W.Frag) (H : Hp) (wt : Addr) (wv : List V) (G : Gm) (sl : List (Option Tg)) : Prop where
  sq : SqT K H wt wv
  len : (wv.length : Int) = 49 + G.bh * G.bw
  st : ∀ (i : Nat) (o : Option Tg), sl[i]? = some o → ∃ v : V, wv[i]? = some v ∧ SlAt K H v o
  bk : ∀ c : Nat, 49 ≤ c → c < wv.length → ∃ p : Addr, wv[c]? = some (.ref p) ∧ SqT K H p (nV (bkt G sl (c : Int)))
theorem WtAt.tf {K : PySem.W.Frag} {H H' : Hp} {wt : Addr} {wv : List V} {G : Gm} {sl : List (Option Tg)} (h : WtAt K H wt wv G sl) (e : TF H H') : WtAt K H' wt wv G sl :=
  ⟨e.sq h.sq, h.len, fun i o z => by obtain ⟨v, h1, h2⟩ := h.st i o z; exact ⟨v, h1, h2.tf e⟩, fun c h1 h2 => by obtain ⟨p, h3, h4⟩ := h.bk c h1 h2; exact ⟨p, h3, e.sq h4⟩⟩
theorem bhw {G : Gm} (o : G.ok) : G.bh * G.bw ≤ 24 ∧ 0 ≤ G.bh * G.bw := by
  have h3 : G.bw = ((G.W : Int) + 3) / 4 := rfl
  have h4 : G.bh = ((G.rows.length : Int) + 3) / 4 := rfl
  have := o.w1
  have := o.w2
  have := o.r1
  have := o.r2
  have e1 : G.bh * G.bw ≤ 4 * G.bw := Int.mul_le_mul_of_nonneg_right (by omega) (by omega)
  have e2 : 0 ≤ G.bh * G.bw := Int.mul_nonneg (by omega) (by omega)
  omega
/-- all but two -/
def F2 (x y : Addr) (H H' : Hp) : Prop := ∀ b o, b ≠ x → b ≠ y → H b = some o → H' b = some o
theorem F2.refl (x y : Addr) (H : Hp) : F2 x y H H := fun _ _ _ _ h => h
theorem F2.trans {x y : Addr} {H H1 H2 : Hp} (a : F2 x y H H1) (b : F2 x y H1 H2) : F2 x y H H2 := fun c o n m h => b c o n m (a c o n m h)
theorem F2.l {x y : Addr} {H H' : Hp} (a : Frm x H H') : F2 x y H H' := fun c o n _ h => a c o n h
theorem F2.r {x y : Addr} {H H' : Hp} (a : Frm y H H') : F2 x y H H' := fun c o _ m h => a c o m h
theorem F2.tf {x y : Addr} {H H' : Hp} {k1 k2 : List (Key × V)} (f : F2 x y H H') (h1 : H x = some (.dK k1)) (h2 : H y = some (.dK k2)) : TF H H' := fun c ys z => by
  rcases z with z | ⟨u, z⟩
  · exact .inl (f c _ (fun q => by rw [q, h1] at z; cases z) (fun q => by rw [q, h2] at z; cases z) z)
  · exact .inr ⟨u, f c _ (fun q => by rw [q, h1] at z; cases z) (fun q => by rw [q, h2] at z; cases z) z⟩
theorem F2.tfn {x y : Addr} {H H' : Hp} {k1 : List (Key × V)} (f : F2 x y H H') (h1 : H x = some (.dK k1)) (h2 : H y = none) : TF H H' := fun c ys z => by
  rcases z with z | ⟨u, z⟩
  · exact .inl (f c _ (fun q => by rw [q, h1] at z; cases z) (fun q => by rw [q, h2] at z; cases z) z)
  · exact .inr ⟨u, f c _ (fun q => by rw [q, h1] at z; cases z) (fun q => by rw [q, h2] at z; cases z) z⟩
theorem near_take {G : Gm} {sl : List (Option Tg)} {cs : List Int} {i : Nat} {c : Int} (h : cs[i]? = some c) (s : Nat) : near G sl (cs.take (i + 1)) s = true ↔ near G sl (cs.take i) s = true ∨ inB G sl c s = true := by
  unfold near
  rw [List.take_add_one, h, List.any_append, Bool.or_eq_true]
  simp
theorem bkt_mem {G : Gm} {sl : List (Option Tg)} {c : Int} {s : Nat} : s ∈ bkt G sl c ↔ s < 16 ∧ inB G sl c s = true := by
  rw [bkt, List.mem_filter, List.mem_range]
theorem meetS_at {G : Gm} {sl : List (Option Tg)} {b : Bx} {s : Nat} {t : Tg} {kd : Kd} (h : sl[s]? = some (some t)) (hk : G.kds[t.k]? = some kd) : meetS G sl b s = meets b (t.box kd) := by
  unfold meetS Gm.bx
  rw [h]
  dsimp only
  rw [hk]
theorem inV_nat (n : Nat) : ∀ l : List Nat, inV (.int (n : Int)) (nV l) = l.contains n
  | [] => rfl
  | m :: l => by
    have h := inV_nat n l
    unfold inV nV at h ⊢
    rw [List.map_cons, List.any_cons, h, List.contains_cons]
    congr 1
    show ((m : Int) == (n : Int)) = (n == m)
    rw [Bool.eq_iff_iff]
    simp
    omega
theorem flat_nat : ∀ l : List Nat, (nV l).all flatV = true
  | [] => rfl
  | _ :: l => flat_nat l
section
variable {P : Program} {w : World} {K : PySem.W.Frag} {mg : Str → Option Value} {base : Heap}
def spMeeting (K : PySem.W.Frag) : Sp := fun vs H Q _ => ∃ (g u : V) (a wt ld bu : Addr) (wv : List V) (G : Gm) (sl : List (Option Tg)) (b : Bx) (but : List Nat) (p : Int → Prop), vs = [g, .ref a, u, .ref bu] ∧ GmAt K H g G ∧ G.ok ∧ SlAll G sl ∧ LkAt K H a wt ld p ∧ WtAt K H wt wv G sl ∧ BxAt K H u b ∧ b.lim ∧ SqT K H bu (nV but) ∧
  ∀ t H', Frm ld H H' → LkAt K H' a wt ld (seenP G sl b but p) → SqT K H' t (nV (lookL G sl b but)) → Q (.ref t) H'
theorem scMt : FnScope ["game", "looks", "box", "but", "near", "cell", "slot"] ["game", "looks", "box", "but"] (defScope s_meeting) := ⟨rfl, rfl, rfl, by decide +kernel, rfl, by decide +kernel, by decide +kernel⟩
theorem ok_meeting (T : Txt K w mg) : FnOk P w K mg base CX0 4 (He.fAd K ("meeting", none)) (fdAt K (He.fAd K ("meeting", none))) ["game", "looks", "box", "but"] (spMeeting K) := by
  refine T.F_meeting.ok scMt (fun vs H Q E h => ?_) (fun cdv A outer s H vs Q E hr h => ?_)
  · obtain ⟨g, u, a, wt, ld, bu, wv, G, sl, b, but, p, rfl, _⟩ := h
    rfl
  · obtain ⟨g, u, a, wt, ld, bu, wv, G, sl, b, but, p, rfl, hg, o, sa, lk, hw, hb, lim, hbu, k⟩ := h
    have hu := Nat.lt_of_le_of_lt (Nat.add_le_add_left (by decide : 1 ≤ 64) _) hr.units
    refine ⟨_, PSs.nox (pss_cons (ps_set (i := 4) scMt.nd rfl (Or.inl rfl) pe_dnewK)
      (pss_cons (ps_for PassesOwn.never rfl (pi_tup (pe_call (ok_buckets_of T) (hr.mono (by first | decide | omega)) (by rfl) T.g_buckets_of (T.F_buckets_of).kp T.b_buckets_of .nil pass0 (pa_cons (pv 0) (pa_cons (pv 2) pa_nil)))) (pg_name (i := 5) scMt.nd rfl (Or.inl rfl)) (pss_one (ps_for PassesOwn.never rfl (pi_tup (pe_meth (pv 1) T.k_Looks T.e_Looks_at (ok_Looks_at T) (hr.mono (by decide)) T.b_Looks_at .nil pass0 (pa_cons (pv 5) pa_nil))) (pg_name (i := 6) scMt.nd rfl (Or.inl rfl)) (pss_one (ps_if (pt_cmpR (r := rIn K true) op_notIn_seq (pv 6) (pv 3) rfl) (pss_one (ps_dput hu (pv 4) (pv 6) pe_bl rfl)) pss_nil)))))
      (pss_one (ps_ret (pe_callTy call_tuple_of (by rfl) T.n_tuple PyProof.Rows.Boot.«tuple» (pa_cons (pe_lc (own := [("slot", 6)]) (g := gName 6) (by rfl) scMt.nd (pi_list (pe_callB (call_sortedDI (by rfl)) (by rfl) T.n_sorted PyProof.Rows.Boot.«sorted» (pa_cons (pv 4) pa_nil))) (blkOk_by (own := [("slot", 6)]) (N := ["game", "looks", "box", "but", "near", "cell", "slot"]) (sc := defScope s_meeting) (by decide +kernel)) (fun _ _ _ _ _ => pg_name (i := 6) scMt.nd rfl (Or.inl rfl)) (fun _ _ _ _ _ => pts_one (pt_val (pe_call (ok_meet T) (hr.mono (by first | decide | omega)) (by rfl) T.g_meet (T.F_meet).kp T.b_meet .nil pass0 (pa_cons (pv 2) (pa_cons (pe_call (ok_body_box T) (hr.mono (by first | decide | omega)) (by rfl) T.g_body_box (T.F_body_box).kp T.b_body_box .nil pass0 (pa_cons (pv 0) (pa_cons (pe_meth (pv 1) T.k_Looks T.e_Looks_at (ok_Looks_at T) (hr.mono (by first | decide | omega)) T.b_Looks_at .nil pass0 (pa_cons (pv 6) pa_nil)) pa_nil))) pa_nil))))) (fun _ _ _ _ _ => (pv 6))) pa_nil)))))), ?_⟩
    obtain ⟨dx, ha, ks⟩ := id lk
    obtain ⟨kvs0, hk0⟩ := ks.dict
    refine fun nd nnd => ?_
    have s0 := new_same (o := .dK []) nnd
    have hndl : nd ≠ ld := (ne_of_none hk0 nnd).symm
    have hnda : nd ≠ a := (ne_of_none ha nnd).symm
    have hal : a ≠ ld := fun e => by rw [e, hk0] at ha; cases ha
    refine ⟨_, rfl, _, rfl, g, u, G, b, rfl, hg.tf (same_tf s0), o, hb.tf (same_tf s0), lim, fun t1 H1 s1 ht1 => ⟨t1, rfl, ⟨_, ht1⟩, ?_⟩⟩
    have S1 := s0.trans s1
    have lk1 := lk.same S1
    have nd1 : H1 nd = some (.dK []) := s1 _ _ upd_same
    have hw1 := hw.tf (same_tf S1)
    have hbu1 := (same_tf S1).sq hbu
    obtain ⟨cs, hcs⟩ : ∃ cs, cs = G.blk b := ⟨_, rfl⟩
    have csl : cs.length ≤ 40 := by rw [hcs]; exact blk_len o lim
    have csm : ∀ c ∈ cs, 49 ≤ c ∧ c < 49 + G.bh * G.bw := fun c hc => blk_mem o lim (by rw [← hcs]; exact hc)
    have b40 := bhw o
    rw [← hcs] at ht1
    have tfo : ∀ {H' : Hp}, F2 ld nd H1 H' → TF H1 H' := fun f => F2.tf f (S1 _ _ hk0) nd1
    refine L2.for_it (walk_tup (K := K) (a := t1) (xs := cs.map V.int)) (fun i σ H' => ∃ v5 v6 : Option V, σ = [some g, some (.ref a), some u, some (.ref bu), some (.ref nd), v5, v6] ∧ F2 ld nd H1 H' ∧ KSet H' nd (fun c => ∃ s : Nat, c = (s : Int) ∧ s < 16 ∧ s ∉ but ∧ near G sl (cs.take i) s = true) ∧ LkAt K H' a wt ld (fun c => p c ∨ c ∈ cs.take i)) ⟨_, _, rfl, F2.refl _ _ _, (kset_nil nd1).imp fun c => ⟨fun z => z.elim, fun ⟨s, _, _, _, z⟩ => by rw [List.take_zero] at z; cases z⟩, lk1.imp fun c => by rw [List.take_zero]; simp⟩ (fun i σ H' _ h => by obtain ⟨_, _, _, f, _⟩ := h; exact (tfo f).sq ht1) (fun i x σ H2 Hx hi hPv hy => ?_) (fun σ H2 hPv => ?_)
    · obtain ⟨v5, v6, rfl, f2, kn2, lk2⟩ := hPv
      obtain ⟨rfl, hx⟩ := hy
      rw [List.length_map] at hi
      have hci := List.getElem?_eq_getElem hi
      obtain ⟨c, hc⟩ : ∃ c, c = cs[i] := ⟨_, rfl⟩
      rw [← hc] at hci
      rw [List.getElem?_map, hci] at hx
      cases hx
      obtain ⟨c1, c2⟩ := csm c (List.mem_of_getElem? hci)
      obtain ⟨n, rfl⟩ := Int.eq_ofNat_of_zero_le (show 0 ≤ c by omega)
      have hw2 := hw1.tf (tfo f2)
      have hl := hw2.len
      obtain ⟨pb, hpb, hpbs⟩ := hw2.bk n (by omega) (by omega)
      obtain ⟨dx2, ha2, _⟩ := id lk2
      refine ⟨_, rfl, a, dx2, _, rfl, ha2, rfl, _, rfl, a, wt, ld, wv, _, n, _, rfl, lk2, hw2.sq, hpb, .inr (by omega), fun H3 f3 lk3 => ⟨pb, rfl, ⟨_, (lk2.tf f3).sq hpbs⟩, ?_⟩⟩
      have F3 := f2.trans (F2.l (y := nd) f3)
      have kn3 := kn2.frm f3 hndl
      have tb3 := (lk2.tf f3).sq hpbs
      have hbk16 : ∀ s ∈ bkt G sl (n : Int), s < 16 := fun s hs => (bkt_mem.mp hs).1
      refine L2.for_it (walk_tup (K := K) (a := pb) (xs := nV (bkt G sl (n : Int)))) (fun j σ H' => ∃ v6 : Option V, σ = [some g, some (.ref a), some u, some (.ref bu), some (.ref nd), some (.int (n : Int)), v6] ∧ Frm nd H3 H' ∧ KSet H' nd (fun c => (∃ s : Nat, c = (s : Int) ∧ s < 16 ∧ s ∉ but ∧ near G sl (cs.take i) s = true) ∨ ∃ s : Nat, c = (s : Int) ∧ s ∉ but ∧ s ∈ (bkt G sl (n : Int)).take j)) ⟨_, rfl, Frm.refl _ _, kn3.imp fun c => by rw [List.take_zero]; simp⟩ (fun j σ H' _ h => by obtain ⟨_, _, f, _⟩ := h; exact (Frm.tfk f kn3.dict.choose_spec).sq tb3) (fun j x σ Hx H4 hj hPv hy => ?_) (fun σ H4 hPv => ?_)
      · obtain ⟨v6, rfl, f4, kn4⟩ := hPv
        obtain ⟨rfl, hx⟩ := hy
        unfold nV at hj hx
        rw [List.length_map] at hj
        have hsj := List.getElem?_eq_getElem hj
        obtain ⟨s0', hs0⟩ : ∃ z, z = (bkt G sl (n : Int))[j] := ⟨_, rfl⟩
        rw [← hs0] at hsj
        rw [List.getElem?_map, hsj] at hx
        cases hx
        have hsm := List.mem_of_getElem? hsj
        have tk : ∀ s, s ∈ (bkt G sl (n : Int)).take (j + 1) ↔ s ∈ (bkt G sl (n : Int)).take j ∨ s = s0' := fun s => by
          rw [List.take_add_one, hsj, List.mem_append]
          simp
        have tf14 : TF H1 H4 := tfo (F3.trans (F2.r (x := ld) f4))
        refine ⟨_, rfl, _, rfl, bu, _, rfl, .inr (tf14.sq hbu1), rfl, flat_nat _, _, rfl, ite2 (fun z => ?_) (fun z => ?_)⟩
        · have hnb : s0' ∉ but := by
            have z : (!inV (.int (s0' : Int)) (nV but)) = true := z
            rw [inV_nat] at z
            simpa using z
          obtain ⟨kvs4, hk4⟩ := kn4.dict
          refine ⟨_, rfl, _, rfl, nd, _, rfl, DPut.k (k := .inl (s0' : Int)) hk4 (Nat.lt_of_le_of_lt (kn4.len hk4) (by decide)), ?_⟩
          refine ⟨_, rfl, f4.trans Frm.of_upd, (kset_put kn4 hk4 (.inl (by have := hbk16 _ hsm; omega))).imp fun c => ?_⟩
          constructor
          · rintro ((h | ⟨s, h1, h2, h3⟩) | h)
            · exact .inl h
            · exact .inr ⟨s, h1, h2, (tk s).mpr (.inl h3)⟩
            · exact .inr ⟨s0', h, hnb, (tk s0').mpr (.inr rfl)⟩
          · rintro (h | ⟨s, h1, h2, h3⟩)
            · exact .inl (.inl h)
            · rcases (tk s).mp h3 with h3 | h3
              · exact .inl (.inr ⟨s, h1, h2, h3⟩)
              · exact .inr (by rw [h1, h3])
        · have hb' : s0' ∈ but := by
            have z : ¬ (!inV (.int (s0' : Int)) (nV but)) = true := z
            rw [inV_nat] at z
            simpa using z
          refine ⟨_, rfl, f4, kn4.imp fun c => ?_⟩
          constructor
          · rintro (h | ⟨s, h1, h2, h3⟩)
            · exact .inl h
            · exact .inr ⟨s, h1, h2, (tk s).mpr (.inl h3)⟩
          · rintro (h | ⟨s, h1, h2, h3⟩)
            · exact .inl h
            · rcases (tk s).mp h3 with h3 | h3
              · exact .inr ⟨s, h1, h2, h3⟩
              · exact absurd hb' (by rw [← h3]; exact h2)
      · obtain ⟨v6, rfl, f4, kn4⟩ := hPv
        refine ⟨_, _, rfl, F3.trans (F2.r (x := ld) f4), kn4.imp fun c => ?_, (lk3.frm f4 (Ne.symm hnda) (Ne.symm hndl)).imp fun c => ?_⟩
        · unfold nV
          rw [List.length_map, List.take_length]
          constructor
          · rintro (⟨s, h1, h2, h3, h4⟩ | ⟨s, h1, h2, h3⟩)
            · exact ⟨s, h1, h2, h3, (near_take hci s).mpr (.inl h4)⟩
            · obtain ⟨g1, g2⟩ := bkt_mem.mp h3
              exact ⟨s, h1, g1, h2, (near_take hci s).mpr (.inr g2)⟩
          · rintro ⟨s, h1, h2, h3, h4⟩
            rcases (near_take hci s).mp h4 with h4 | h4
            · exact .inl ⟨s, h1, h2, h3, h4⟩
            · exact .inr ⟨s, h1, h3, bkt_mem.mpr ⟨h2, h4⟩⟩
        · rw [List.take_add_one, hci]
          simp only [List.mem_append, Option.toList_some, List.mem_singleton]
          exact or_assoc
    obtain ⟨v5, v6, rfl, f2, kn2, lk2⟩ := hPv
    rw [List.length_map, List.take_length] at kn2 lk2
    obtain ⟨kvs, kl, hk, hkk, hnd, hmem, hcel⟩ := kn2
    have k56 := cel_len hnd hcel
    obtain ⟨L, hL⟩ : ∃ L, L = (List.range 16).filter fun s => !but.contains s && near G sl cs s := ⟨_, rfl⟩
    have hLm : ∀ s, s ∈ L ↔ s < 16 ∧ s ∉ but ∧ near G sl cs s = true := fun s => by
      rw [hL, List.mem_filter, List.mem_range, Bool.and_eq_true]
      simp
    have hLl : L.length ≤ 16 := by
      rw [hL]
      exact Nat.le_trans (List.length_filter_le _ _) (by rw [List.length_range]; exact Nat.le_refl _)
    refine ⟨_, rfl, nd, kvs, kl, rfl, .inl hk, hkk, by omega, fun ys q hperm hsort nq => ?_⟩
    have ey : ys.map V.int = nV L := by
      have e : ys = L.map fun i : Nat => (i : Int) := by
        refine srt_uniq _ _ (lt_of hsort (hperm.nodup_iff.mpr hnd)) (by rw [hL]; exact range_lt 16 _) fun c => ?_
        rw [hperm.mem_iff, hmem, List.mem_map]
        constructor
        · rintro ⟨s, h1, h2, h3, h4⟩
          exact ⟨s, (hLm s).mpr ⟨h2, h3, h4⟩, h1.symm⟩
        · rintro ⟨s, h1, h2⟩
          obtain ⟨g1, g2, g3⟩ := (hLm s).mp h1
          exact ⟨s, h2.symm, g1, g2, g3⟩
      rw [e, List.map_map]
      rfl
    rw [ey]
    have sq := new_same (o := .lst (nV L)) nq
    have hq : (upd H2 q (.lst (nV L))) q = some (.lst (nV L)) := upd_same
    obtain ⟨H3, hH3⟩ : ∃ X, X = upd H2 q (.lst (nV L)) := ⟨_, rfl⟩
    rw [← hH3] at sq hq ⊢
    have lk3 := lk2.same sq
    obtain ⟨dx3, ha3, ks3⟩ := id lk3
    obtain ⟨kvs3, hk3⟩ := ks3.dict
    have F3 : F2 ld nd H1 H3 := f2.trans (F2.l (Frm.of_same sq))
    have hql : q ≠ ld := fun e => by rw [e, hk3] at hq; cases hq
    refine ⟨q, rfl, ⟨_, SqL.of hq⟩, fun D hD => ?_⟩
    have hDl : D ≠ ld := (ne_of_none hk3 hD).symm
    have hDq : D ≠ q := (ne_of_none hq hD).symm
    have hDa : D ≠ a := (ne_of_none ha3 hD).symm
    have tf3 : TF H1 H3 := tfo F3
    refine lc_it (walk_list (K := K) (a := q) (xs := nV L)) (fun i H' => H' D = some (.lst (nV ((L.take i).filter (meetS G sl b)))) ∧ F2 ld D H3 H' ∧ LkAt K H' a wt ld (fun c => (p c ∨ c ∈ cs) ∨ ∃ s : Nat, c = (s : Int) ∧ s ∈ L.take i)) ⟨upd_same, F2.r Frm.of_upd, ?_⟩ (fun i H' _ h => SqL.of (h.2.1 _ _ hql (Ne.symm hDq) hq)) (fun i v Hx H4 hi h yy => ?_) (fun H4 h => ?_)
    · refine (lk3.frm (x := D) Frm.of_upd (Ne.symm hDa) (Ne.symm hDl)).imp fun c => ?_
      rw [List.take_zero]
      simp
    · obtain ⟨hacc, f4, lk4⟩ := h
      obtain ⟨rfl, hv⟩ := yy
      unfold nV at hi hv
      rw [List.length_map] at hi
      have hx := List.getElem?_eq_getElem hi
      obtain ⟨s, hs⟩ : ∃ s, s = L[i] := ⟨_, rfl⟩
      rw [← hs] at hx
      rw [List.getElem?_map, hx] at hv
      cases hv
      obtain ⟨s16, snb, snr⟩ := (hLm s).mp (List.mem_of_getElem? hx)
      obtain ⟨t, hst⟩ := near_thing snr
      obtain ⟨kd, hkd, _⟩ := (sa.ok t (List.mem_of_getElem? hst)).kd
      have tf4 : TF H1 H4 := tf3.trans (F2.tfn f4 hk3 hD)
      have hw4 := hw1.tf tf4
      obtain ⟨v, hv1, hv2⟩ := hw4.st s _ hst
      obtain ⟨dx4, ha4, _⟩ := id lk4
      refine ⟨rfl, ?_⟩
      refine ⟨_, rfl, _, rfl, _, rfl, a, dx4, _, rfl, ha4, rfl, _, rfl, a, wt, ld, wv, _, s, v, rfl, lk4, hw4.sq, hv1, .inl (by omega), fun H5 f5 lk5 => ?_⟩
      have tf5 := tf4.trans (lk4.tf f5)
      refine ⟨g, v, G, t, kd, rfl, hg.tf ((same_tf S1).trans tf5), SlAt.tf (o := some t) hv2 (lk4.tf f5), hkd, fun pb H6 s6 hpb => ?_⟩
      refine ⟨u, .ref pb, b, t.box kd, rfl, hb.tf (((same_tf S1).trans tf5).trans (same_tf s6)), ⟨pb, rfl, SqT.of hpb⟩, ?_⟩
      have hacc6 := s6 _ _ (f5 _ _ hDl hacc)
      have F6 : F2 ld D H3 H6 := (f4.trans (F2.l f5)).trans (F2.l (Frm.of_same s6))
      have lk6 := lk5.same s6
      have eP : ∀ c : Int, (((p c ∨ c ∈ cs) ∨ ∃ s' : Nat, c = (s' : Int) ∧ s' ∈ L.take i) ∨ c = (s : Int)) ↔ ((p c ∨ c ∈ cs) ∨ ∃ s' : Nat, c = (s' : Int) ∧ s' ∈ L.take (i + 1)) := fun c => by
        rw [List.take_add_one, hx]
        simp only [List.mem_append, Option.toList_some, List.mem_singleton]
        constructor
        · rintro ((h | ⟨s', h1, h2⟩) | h)
          · exact .inl h
          · exact .inr ⟨s', h1, .inl h2⟩
          · exact .inr ⟨s, h, .inr rfl⟩
        · rintro (h | ⟨s', h1, h2 | h2⟩)
          · exact .inl (.inl h)
          · exact .inl (.inr ⟨s', h1, h2⟩)
          · exact .inr (by rw [h1, h2])
      have em := meetS_at (G := G) (sl := sl) (b := b) hst hkd
      cases hm : meets b (t.box kd) with
      | true =>
        rw [hm] at em
        refine ⟨true, rfl, iteT ?_⟩
        refine ⟨_, rfl, _, hacc6, ?_, ?_, F6.trans (F2.r Frm.of_upd), (lk6.frm (x := D) Frm.of_upd (Ne.symm hDa) (Ne.symm hDl)).imp eP⟩
        · unfold nV
          rw [List.length_map]
          exact Nat.lt_of_le_of_lt (Nat.le_trans (List.length_filter_le _ _) (show (L.take i).length ≤ 16 by rw [List.length_take]; omega)) (by decide)
        · rw [upd_same, List.take_add_one, hx, List.filter_append]
          simp [em, nV]
      | false =>
        rw [hm] at em
        refine ⟨false, rfl, iteF ?_⟩
        refine ⟨?_, F6, lk6.imp eP⟩
        rw [hacc6, List.take_add_one, hx, List.filter_append]
        simp [em]
    · obtain ⟨hacc, f4, lk4⟩ := h
      unfold nV at hacc lk4
      rw [List.length_map, List.take_length] at hacc lk4
      have eL : L.filter (meetS G sl b) = lookL G sl b but := by
        rw [hL, List.filter_filter, lookL, ← hcs]
        refine List.filter_congr fun s _ => ?_
        cases but.contains s <;> cases near G sl cs s <;> cases meetS G sl b s <;> rfl
      rw [eL] at hacc
      refine ⟨D, _, rfl, .inl ⟨SqL.of hacc, fun tr ntr => ?_⟩⟩
      have st := new_same (o := .tup (nV (lookL G sl b but))) ntr
      have FF : Frm ld H4 (upd H4 tr (.tup (nV (lookL G sl b but)))) := Frm.of_same st
      refine k tr _ (fun c ob n z => ?_) ((lk4.same st).imp fun c => ?_) (SqT.of upd_same)
      · have z1 := S1 _ _ z
        have cn : c ≠ nd := fun e => by rw [e, nnd] at z; cases z
        have z3 := F3 c ob n cn z1
        exact FF c ob n (f4 c ob n (ne_of_none z3 hD) z3)
      · unfold seenP
        rw [← hcs, or_assoc]
        refine or_congr_right (or_congr_right ?_)
        constructor
        · rintro ⟨s, h1, h2⟩
          obtain ⟨g1, g2, g3⟩ := (hLm s).mp h2
          exact ⟨s, h1, g1, g2, g3⟩
        · rintro ⟨s, h1, h2, h3, h4⟩
          exact ⟨s, h1, (hLm s).mpr ⟨h2, h3, h4⟩⟩
end
end K27
set_option maxRecDepth 100000
set_option maxHeartbeats 4000000
/-! What bars: the program. -/
namespace K27
open PySem PySem.Spec PyProof.Rows L2 KF KD KP
def hsS (G : Gm) (sl : List (Option Tg)) (n : Str) (s : Nat) : Bool := match sl[s]? with
  | some (some t) => G.hs t n
  | _ => false
def barL (G : Gm) (sl : List (Option Tg)) (b : Bx) (but : List Nat) : List Nat := (lookL G sl b but).filter (hsS G sl "bars")
theorem hsS_at {G : Gm} {sl : List (Option Tg)} {n : Str} {s : Nat} {t : Tg} {kd : Kd} (h : sl[s]? = some (some t)) (hk : G.kds[t.k]? = some kd) : hsS G sl n s = kd.has n := by
  unfold hsS Gm.hs
  rw [h]
  dsimp only
  rw [hk]
theorem look_mem {G : Gm} {sl : List (Option Tg)} {b : Bx} {but : List Nat} {s : Nat} (h : s ∈ lookL G sl b but) : s < 16 ∧ s ∉ but ∧ near G sl (G.blk b) s = true := by
  rw [lookL, List.mem_filter, List.mem_range, Bool.and_eq_true, Bool.and_eq_true] at h
  obtain ⟨h1, h2, h3, _⟩ := h
  exact ⟨h1, by simpa using h2, h3⟩
theorem look_len (G : Gm) (sl : List (Option Tg)) (b : Bx) (but : List Nat) : (lookL G sl b but).length ≤ 16 := Nat.le_trans (List.length_filter_le _ _) (by rw [List.length_range]; exact Nat.le_refl _)
theorem look_nd (G : Gm) (sl : List (Option Tg)) (b : Bx) (but : List Nat) : (lookL G sl b but).Nodup := List.Pairwise.filter _ List.nodup_range
theorem seen_in {G : Gm} {sl : List (Option Tg)} {b : Bx} {but : List Nat} {p : Int → Prop} {s : Nat} (h : s ∈ lookL G sl b but) : seenP G sl b but p (s : Int) := by
  obtain ⟨h1, h2, h3⟩ := look_mem h
  exact .inr (.inr ⟨s, rfl, h1, h2, h3⟩)
theorem or_eq {p : Int → Prop} {s : Int} (h : p s) (c : Int) : (p c ∨ c = s) ↔ p c := ⟨fun z => z.elim id (fun e => by rw [e]; exact h), .inl⟩
section
variable {P : Program} {w : World} {K : PySem.W.Frag} {mg : Str → Option Value} {base : Heap}
def spBarring (K : PySem.W.Frag) : Sp := fun vs H Q _ => ∃ (g u : V) (a wt ld bu : Addr) (wv : List V) (G : Gm) (sl : List (Option Tg)) (b : Bx) (but : List Nat) (p : Int → Prop), vs = [g, .ref a, u, .ref bu] ∧ GmAt K H g G ∧ G.ok ∧ SlAll G sl ∧ LkAt K H a wt ld p ∧ WtAt K H wt wv G sl ∧ BxAt K H u b ∧ b.lim ∧ SqT K H bu (nV but) ∧
  ∀ t H', Frm ld H H' → LkAt K H' a wt ld (seenP G sl b but p) → H' t = some (.lst (nV (barL G sl b but))) → H t = none → Q (.ref t) H'
theorem scBg : FnScope ["game", "looks", "box", "but", "slot"] ["game", "looks", "box", "but"] (defScope s_barring) := ⟨rfl, rfl, rfl, by decide +kernel, rfl, by decide +kernel, by decide +kernel⟩
theorem ok_barring (T : Txt K w mg) : FnOk P w K mg base CX0 5 (He.fAd K ("_barring", none)) (fdAt K (He.fAd K ("_barring", none))) ["game", "looks", "box", "but"] (spBarring K) := by
  refine T.F_barring.ok scBg (fun vs H Q E h => ?_) (fun cdv A outer s H vs Q E hr h => ?_)
  · obtain ⟨g, u, a, wt, ld, bu, wv, G, sl, b, but, p, rfl, _⟩ := h
    rfl
  · obtain ⟨g, u, a, wt, ld, bu, wv, G, sl, b, but, p, rfl, hg, o, sa, lk, hw, hb, lim, hbu, k⟩ := h
    refine ⟨_, PSs.nox (pss_one (ps_ret (pe_lc (own := [("slot", 4)]) (g := gName 4) (by rfl) scBg.nd (pi_tup (pe_call (ok_meeting T) (hr.mono (by first | decide | omega)) (by rfl) T.g_meeting (T.F_meeting).kp T.b_meeting .nil pass0 (pa_cons (pv 0) (pa_cons (pv 1) (pa_cons (pv 2) (pa_cons (pv 3) pa_nil)))))) (blkOk_by (own := [("slot", 4)]) (N := ["game", "looks", "box", "but", "slot"]) (sc := defScope s_barring) (by decide +kernel)) (fun _ _ _ _ _ => pg_name (i := 4) scBg.nd rfl (Or.inl rfl)) (fun _ _ _ _ _ => pts_one (pt_val (pe_call (ok_has_trait T) (hr.mono (by first | decide | omega)) (by rfl) T.g_has_trait (T.F_has_trait).kp T.b_has_trait .nil pass0 (pa_cons (pv 0) (pa_cons (pe_meth (pv 1) T.k_Looks T.e_Looks_at (ok_Looks_at T) (hr.mono (by first | decide | omega)) T.b_Looks_at .nil pass0 (pa_cons (pv 4) pa_nil)) (pa_cons pe_str pa_nil)))))) (fun _ _ _ _ _ => (pv 4))))), ?_⟩
    obtain ⟨dx, ha, ks⟩ := id lk
    obtain ⟨kvs0, hk0⟩ := ks.dict
    refine ⟨_, rfl, _, rfl, _, rfl, _, rfl, g, u, a, wt, ld, bu, wv, G, sl, b, but, p, rfl, hg, o, sa, lk, hw, hb, lim, hbu, fun q H1 f1 lk1 hq => ⟨q, rfl, ⟨_, hq⟩, fun D hD => ?_⟩⟩
    have tf1 := lk.tf f1
    have hw1 := hw.tf tf1
    have hg1 := hg.tf tf1
    obtain ⟨dx1, ha1, ks1⟩ := id lk1
    obtain ⟨kvs1, hk1⟩ := ks1.dict
    have hDl : D ≠ ld := (ne_of_none hk1 hD).symm
    have hDa : D ≠ a := (ne_of_none ha1 hD).symm
    obtain ⟨L, hL⟩ : ∃ L, L = lookL G sl b but := ⟨_, rfl⟩
    have hLl : L.length ≤ 16 := by rw [hL]; exact look_len G sl b but
    have hLm : ∀ s ∈ L, s ∈ lookL G sl b but := fun s h => by rw [← hL]; exact h
    rw [← hL] at hq
    refine lc_it (walk_tup (K := K) (a := q) (xs := nV L)) (fun i H' => H' D = some (.lst (nV ((L.take i).filter (hsS G sl "bars")))) ∧ F2 ld D H1 H' ∧ LkAt K H' a wt ld (seenP G sl b but p)) ⟨upd_same, F2.r Frm.of_upd, lk1.frm (x := D) Frm.of_upd (Ne.symm hDa) (Ne.symm hDl)⟩ (fun i H' _ h => (F2.tfn h.2.1 hk1 hD).sq hq) (fun i v Hx H4 hi h yy => ?_) (fun H4 h => ?_)
    · obtain ⟨hacc, f4, lk4⟩ := h
      obtain ⟨rfl, hv⟩ := yy
      unfold nV at hi hv
      rw [List.length_map] at hi
      have hx := List.getElem?_eq_getElem hi
      obtain ⟨s, hs⟩ : ∃ s, s = L[i] := ⟨_, rfl⟩
      rw [← hs] at hx
      rw [List.getElem?_map, hx] at hv
      cases hv
      have hsL := hLm s (List.mem_of_getElem? hx)
      obtain ⟨s16, snb, snr⟩ := look_mem hsL
      obtain ⟨t, hst⟩ := near_thing snr
      obtain ⟨kd, hkd, _⟩ := (sa.ok t (List.mem_of_getElem? hst)).kd
      have tf4 := F2.tfn f4 hk1 hD
      have hw4 := hw1.tf tf4
      obtain ⟨v, hv1, hv2⟩ := hw4.st s _ hst
      obtain ⟨dx4, ha4, _⟩ := id lk4
      refine ⟨rfl, ?_⟩
      refine ⟨_, rfl, _, rfl, a, dx4, _, rfl, ha4, rfl, _, rfl, a, wt, ld, wv, _, s, v, rfl, lk4, hw4.sq, hv1, .inl (by omega), fun H5 f5 lk5 => ?_⟩
      have tf5 := tf4.trans (lk4.tf f5)
      refine ⟨g, v, G, t, kd, "bars", rfl, hg1.tf tf5, SlAt.tf (o := some t) hv2 (lk4.tf f5), hkd, ?_⟩
      have hacc5 := f5 _ _ hDl hacc
      have F5 : F2 ld D H1 H5 := f4.trans (F2.l f5)
      have lk5' := lk5.imp (or_eq (seen_in hsL))
      have em := hsS_at (G := G) (sl := sl) (n := "bars") hst hkd
      cases hm : kd.has "bars" with
      | true =>
        rw [hm] at em
        refine ⟨true, rfl, iteT ?_⟩
        refine ⟨_, rfl, _, hacc5, ?_, ?_, F5.trans (F2.r Frm.of_upd), lk5'.frm (x := D) Frm.of_upd (Ne.symm hDa) (Ne.symm hDl)⟩
        · unfold nV
          rw [List.length_map]
          exact Nat.lt_of_le_of_lt (Nat.le_trans (List.length_filter_le _ _) (show (L.take i).length ≤ 16 by rw [List.length_take]; omega)) (by decide)
        · rw [upd_same, List.take_add_one, hx, List.filter_append]
          simp [em, nV]
      | false =>
        rw [hm] at em
        refine ⟨false, rfl, iteF ?_⟩
        refine ⟨?_, F5, lk5'⟩
        rw [hacc5, List.take_add_one, hx, List.filter_append]
        simp [em]
    · obtain ⟨hacc, f4, lk4⟩ := h
      unfold nV at hacc
      rw [List.length_map, List.take_length, hL] at hacc
      refine k D H4 (fun c ob n z => ?_) lk4 hacc ?_
      · have z1 := f1 c ob n z
        exact f4 c ob n (ne_of_none z1 hD) z1
      · cases e : H D with
        | none => rfl
        | some z => exact absurd ((f1 _ _ hDl e).symm.trans hD) (by simp)
end
end K27
set_option maxRecDepth 100000
set_option maxHeartbeats 4000000
/-! Lots: the program. -/
namespace KP
open PySem PySem.Spec PyProof.Rows L2
def rNiT (K : PySem.W.Frag) : R2 := fun x y H Q => ∃ d ds, Dp K H x d ∧ Dp K H y (.tuple ds) ∧ d.canLay0 = true ∧ PyData.canLayAll0 ds = true ∧ d.depth ≤ 60 ∧ Q (.bl (!ds.any fun z => PyData.eqv z d)) H
theorem op_niT {X : Cx} (hu : X.A.units + 64 < cLine) : OpR X (compareOp .NotIn) (rNiT X.K) := by
  intro pn st σ' H1 x y vx vy Q1 J rel1 rel2 asks
  obtain ⟨d, ds, h1, h2, c1, c2, dep, q⟩ := asks
  obtain ⟨as, r1⟩ := Dp.reads J d x vx h1 rel1
  obtain ⟨bs, r2⟩ := Dp.reads J (.tuple ds) y vy h2 rel2
  exact SeqAt.notIn_tuple_reads r2 r1 c2 c1 (by have := Nat.min_le_right (PyData.depthAll ds) d.depth; omega) ⟨.bl _, H1, J, rfl, q⟩
end KP
namespace K27
open PySem PySem.Spec PyProof.Rows L2 KF KD KP
def alongS (G : Gm) (sl : List (Option Tg)) (dy : Int) (s : Nat) : Bool := hsS G sl "pushed" s || (decide (dy < 0) && hsS G sl "falls" s)
def bxS (G : Gm) (sl : List (Option Tg)) (s : Nat) : Bx := match sl[s]? with
  | some (some t) => G.bx t
  | _ => ⟨0, 0, 1, 1⟩
theorem bxS_at {G : Gm} {sl : List (Option Tg)} {s : Nat} {t : Tg} {kd : Kd} (h : sl[s]? = some (some t)) (hk : G.kds[t.k]? = some kd) : bxS G sl s = t.box kd := by
  unfold bxS Gm.bx
  rw [h]
  dsimp only
  rw [hk]
/-- what joins for one of a lot -/
def joinF (G : Gm) (sl : List (Option Tg)) (dx dy : Int) (going : List Nat) (s : Nat) : Option (List Nat) :=
  if G.stp (bxS G sl s) dx dy = true then none else if hsS G sl "bars" s = true then
    (if ((barL G sl ((bxS G sl s).mv dx dy) going).all (alongS G sl dy)) = true then some (barL G sl ((bxS G sl s).mv dx dy) going) else none) else some []
def joinP (G : Gm) (sl : List (Option Tg)) (dx dy : Int) (going : List Nat) (s : Nat) (p : Int → Prop) : Int → Prop :=
  if G.stp (bxS G sl s) dx dy = true then p else if hsS G sl "bars" s = true then seenP G sl ((bxS G sl s).mv dx dy) going p else p
theorem seen_up {G : Gm} {sl : List (Option Tg)} {b : Bx} {but : List Nat} {p : Int → Prop} {c : Int} (h : p c) : seenP G sl b but p c := .inl h
theorem join_up {G : Gm} {sl : List (Option Tg)} {dx dy : Int} {going : List Nat} {s : Nat} {p : Int → Prop} {c : Int} (h : p c) : joinP G sl dx dy going s p c := by
  unfold joinP
  split
  · exact h
  · split
    · exact seen_up h
    · exact h
section
variable {P : Program} {w : World} {K : PySem.W.Frag} {mg : Str → Option Value} {base : Heap}
def spGa (K : PySem.W.Frag) : Sp := fun vs H Q _ => ∃ (g v : V) (G : Gm) (sl : List (Option Tg)) (s : Nat) (t : Tg) (dy : Int), vs = [g, v, .int dy] ∧ GmAt K H g G ∧ SlAll G sl ∧ sl[s]? = some (some t) ∧ TgAt K H v t ∧ ∀ H', Same H H' → Q (.bl (alongS G sl dy s)) H'
theorem scGa : FnScope ["game", "thing", "dy"] ["game", "thing", "dy"] (defScope s_goes_along) := ⟨rfl, rfl, rfl, by decide +kernel, rfl, by decide +kernel, by decide +kernel⟩
theorem ok_goes_along (T : Txt K w mg) : FnOk P w K mg base CX0 2 (He.fAd K ("_goes_along", none)) (fdAt K (He.fAd K ("_goes_along", none))) ["game", "thing", "dy"] (spGa K) := by
  refine T.F_goes_along.ok scGa (fun vs H Q E h => ?_) (fun cdv A outer s H vs Q E hr h => ?_)
  · obtain ⟨g, v, G, sl, s, t, dy, rfl, _⟩ := h
    rfl
  · obtain ⟨g, v, G, sl, s, t, dy, rfl, hg, sa, hst, ht, k⟩ := h
    refine ⟨_, PSs.nox (pss_one (ps_ret (pe_or (pe_call (ok_has_trait T) (hr.mono (by first | decide | omega)) (by rfl) T.g_has_trait (T.F_has_trait).kp T.b_has_trait .nil pass0 (pa_cons (pv 0) (pa_cons (pv 1) (pa_cons pe_str pa_nil)))) (pe_one (pe_and (pe_cmpR op_lt (pv 2) pe_int (nomark _)) (pe_one (pe_call (ok_has_trait T) (hr.mono (by first | decide | omega)) (by rfl) T.g_has_trait (T.F_has_trait).kp T.b_has_trait .nil pass0 (pa_cons (pv 0) (pa_cons (pv 1) (pa_cons pe_str pa_nil)))))))))), ?_⟩
    obtain ⟨kd, hkd, _⟩ := (sa.ok t (List.mem_of_getElem? hst)).kd
    have e1 := hsS_at (G := G) (sl := sl) (n := "pushed") hst hkd
    have e2 := hsS_at (G := G) (sl := sl) (n := "falls") hst hkd
    have e : alongS G sl dy s = (kd.has "pushed" || (decide (dy < 0) && kd.has "falls")) := by rw [alongS, e1, e2]
    rw [e] at k
    refine ⟨_, rfl, _, rfl, g, v, G, t, kd, "pushed", rfl, hg, ht, hkd, ?_⟩
    cases hp : kd.has "pushed" with
    | true =>
      rw [hp] at k
      exact ⟨true, rfl, iteT (k H (Same.refl _))⟩
    | false =>
      rw [hp, Bool.false_or] at k
      refine ⟨false, rfl, iteF ?_⟩
      refine ⟨_, rfl, _, _, rfl, rfl, _, rfl, ite2 (fun z => ?_) (fun z => ?_)⟩
      · rw [z, Bool.true_and] at k
        exact ⟨_, rfl, _, rfl, g, v, G, t, kd, "falls", rfl, hg, ht, hkd, k H (Same.refl _)⟩
      · have z : decide (dy < 0) = false := by
          cases h : decide (dy < 0) with
          | true => exact absurd h z
          | false => rfl
        rw [z, Bool.false_and] at k
        exact k H (Same.refl _)
def spTi (K : PySem.W.Frag) : Sp := fun vs H Q _ => ∃ (a wt ld : Addr) (wv : List V) (G : Gm) (sl : List (Option Tg)) (s : Nat) (t : Tg) (p : Int → Prop), vs = [.ref a, .int (s : Int)] ∧ s < 16 ∧ sl[s]? = some (some t) ∧ LkAt K H a wt ld p ∧ WtAt K H wt wv G sl ∧ ∀ v H', Frm ld H H' → LkAt K H' a wt ld (fun c => p c ∨ c = (s : Int)) → TgAt K H' v t → Q v H'
theorem scTi : FnScope ["looks", "slot", "thing"] ["looks", "slot"] (defScope s_thing_in) := ⟨rfl, rfl, rfl, by decide +kernel, rfl, by decide +kernel, by decide +kernel⟩
theorem ok_thing_in (T : Txt K w mg) : FnOk P w K mg base CX0 4 (He.fAd K ("_thing_in", none)) (fdAt K (He.fAd K ("_thing_in", none))) ["looks", "slot"] (spTi K) := by
  obtain ⟨u1, g1, r1⟩ := T.c_SLOTS
  refine T.F_thing_in.ok scTi (fun vs H Q E h => ?_) (fun cdv A outer s H vs Q E hr h => ?_)
  · obtain ⟨a, wt, ld, wv, G, sl, s, t, p, rfl, _⟩ := h
    rfl
  · obtain ⟨a, wt, ld, wv, G, sl, s, t, p, rfl, s16, hst, lk, hw, k⟩ := h
    refine ⟨_, PSs.nox (pss_cons (ps_if (PW.pt (pw_or (pt_cmpR op_lt (pv 1) pe_int (nomark _)) (pw_or1 (pt_cmpR op_ge (pv 1) (pe_glob (v := .int 16) (by rfl) g1 r1) (nomark _))))) (pss_one ps_never) pss_nil)
      (pss_cons (ps_set (i := 2) scTi.nd rfl (Or.inl rfl) (pe_meth (pv 0) T.k_Looks T.e_Looks_at (ok_Looks_at T) (hr.mono (by first | decide | omega)) T.b_Looks_at .nil pass0 (pa_cons (pv 1) pa_nil)))
      (pss_cons (ps_if (pt_cmpR op_isN (pv 2) pe_non (nomark _)) (pss_one ps_never) pss_nil)
      (pss_one (ps_ret (pv 2)))))), ?_⟩
    obtain ⟨v, hv1, hv2⟩ := hw.st s _ hst
    obtain ⟨dx, ha, _⟩ := id lk
    refine ⟨_, rfl, _, _, rfl, rfl, _, rfl, ite2 (fun z => absurd (of_decide_eq_true z) (by omega)) (fun _ => ?_)⟩
    refine ⟨_, rfl, _, _, rfl, rfl, _, rfl, ite2 (fun z => absurd (of_decide_eq_true z) (by omega)) (fun _ => ?_)⟩
    refine ⟨_, rfl, a, dx, _, rfl, ha, rfl, _, rfl, a, wt, ld, wv, p, s, v, rfl, lk, hw.sq, hv1, .inl (by omega), fun H1 f1 lk1 => ?_⟩
    have ht : TgAt K H1 v t := SlAt.tf (o := some t) hv2 (lk.tf f1)
    obtain ⟨ta, ow, rfl, _⟩ := id ht
    exact ⟨_, rfl, rfl, _, rfl, ite2 (fun z => nomatch of_decide_eq_true z) (fun _ => ⟨_, rfl, k _ H1 f1 lk1 ht⟩)⟩
def spJn (K : PySem.W.Frag) : Sp := fun vs H Q _ => ∃ (g : V) (a wt ld go : Addr) (wv : List V) (G : Gm) (sl : List (Option Tg)) (going : List Nat) (s : Nat) (t : Tg) (dx dy : Int) (p : Int → Prop), vs = [g, .ref a, .ref go, .int (s : Int), .int dx, .int dy] ∧ (dx, dy) ∈ dirs ∧ GmAt K H g G ∧ G.ok ∧ SlAll G sl ∧ H go = some (.lst (nV going)) ∧ s < 16 ∧ sl[s]? = some (some t) ∧ p (s : Int) ∧ LkAt K H a wt ld p ∧ WtAt K H wt wv G sl ∧
  (joinF G sl dx dy going s = none → ∀ H', Frm ld H H' → LkAt K H' a wt ld (joinP G sl dx dy going s p) → Q .non H') ∧
  (∀ j, joinF G sl dx dy going s = some j → ∀ q H', Frm ld H H' → LkAt K H' a wt ld (joinP G sl dx dy going s p) → H' q = some (.lst (nV j)) → H q = none → Q (.ref q) H')
theorem scJn : FnScope ["game", "looks", "going", "slot", "dx", "dy", "thing", "box", "joining", "other"] ["game", "looks", "going", "slot", "dx", "dy"] (defScope s_joining) := ⟨rfl, rfl, rfl, by decide +kernel, rfl, by decide +kernel, by decide +kernel⟩
theorem ok_joining (T : Txt K w mg) : FnOk P w K mg base CX0 6 (He.fAd K ("_joining", none)) (fdAt K (He.fAd K ("_joining", none))) ["game", "looks", "going", "slot", "dx", "dy"] (spJn K) := by
  refine T.F_joining.ok scJn (fun vs H Q E h => ?_) (fun cdv A outer s H vs Q E hr h => ?_)
  · obtain ⟨g, a, wt, ld, go, wv, G, sl, going, s, t, dx, dy, p, rfl, _⟩ := h
    rfl
  · obtain ⟨g, a, wt, ld, go, wv, G, sl, going, s, t, dx, dy, p, rfl, hd, hg, o, sa, hgo, s16, hst, ps, lk, hw, k1, k2⟩ := h
    refine ⟨_, PSs.nox (pss_cons (ps_set (i := 6) scJn.nd rfl (Or.inl rfl) (pe_meth (pv 1) T.k_Looks T.e_Looks_at (ok_Looks_at T) (hr.mono (by first | decide | omega)) T.b_Looks_at .nil pass0 (pa_cons (pv 3) pa_nil)))
      (pss_cons (ps_set (i := 7) scJn.nd rfl (Or.inl rfl) (pe_call (ok_body_box T) (hr.mono (by first | decide | omega)) (by rfl) T.g_body_box (T.F_body_box).kp T.b_body_box .nil pass0 (pa_cons (pv 0) (pa_cons (pv 6) pa_nil))))
      (pss_cons (ps_if (pt_val (pe_call (ok_is_barred T) (hr.mono (by first | decide | omega)) (by rfl) T.g_is_barred (T.F_is_barred).kp T.b_is_barred .nil pass0 (pa_cons (pe_ix (r := rIxT K) ix_tup (pv 0) pe_int (fun _ _ => rfl)) (pa_cons (pv 7) (pa_cons (pv 4) (pa_cons (pv 5) pa_nil)))))) (pss_one (ps_ret pe_non)) pss_nil)
      (pss_cons (ps_if (pt_not (pt_val (pe_call (ok_has_trait T) (hr.mono (by first | decide | omega)) (by rfl) T.g_has_trait (T.F_has_trait).kp T.b_has_trait .nil pass0 (pa_cons (pv 0) (pa_cons (pv 6) (pa_cons pe_str pa_nil)))))) (pss_one (ps_ret (pe_lst pa_nil))) pss_nil)
      (pss_cons (ps_set (i := 8) scJn.nd rfl (Or.inl rfl) (pe_call (ok_barring T) (hr.mono (by first | decide | omega)) (by rfl) T.g_barring (T.F_barring).kp T.b_barring .nil pass0 (pa_cons (pv 0) (pa_cons (pv 1) (pa_cons (pe_call (ok_moved T) (hr.mono (by first | decide | omega)) (by rfl) T.g_moved (T.F_moved).kp T.b_moved .nil pass0 (pa_cons (pv 7) (pa_cons (pv 4) (pa_cons (pv 5) pa_nil)))) (pa_cons (pe_callTy call_tuple_of (by rfl) T.n_tuple PyProof.Rows.Boot.«tuple» (pa_cons (pv 2) pa_nil)) pa_nil))))))
      (pss_cons (ps_for PassesOwn.never rfl (pi_list (pv 8)) (pg_name (i := 9) scJn.nd rfl (Or.inl rfl)) (pss_one (ps_if (pt_not (pt_val (pe_call (ok_goes_along T) (hr.mono (by first | decide | omega)) (by rfl) T.g_goes_along (T.F_goes_along).kp T.b_goes_along .nil pass0 (pa_cons (pv 0) (pa_cons (pe_meth (pv 1) T.k_Looks T.e_Looks_at (ok_Looks_at T) (hr.mono (by first | decide | omega)) T.b_Looks_at .nil pass0 (pa_cons (pv 9) pa_nil)) (pa_cons (pv 5) pa_nil)))))) (pss_one (ps_ret pe_non)) pss_nil)))
      (pss_one (ps_ret (pv 8))))))))), ?_⟩
    obtain ⟨kd, hkd, _⟩ := (sa.ok t (List.mem_of_getElem? hst)).kd
    obtain ⟨lim, limd, yh⟩ := (sa.ok t (List.mem_of_getElem? hst)).lim o
    have ebx : G.bx t = t.box kd := by unfold Gm.bx; rw [hkd]
    rw [ebx] at lim limd yh
    have eb := bxS_at (G := G) (sl := sl) hst hkd
    have eh := hsS_at (G := G) (sl := sl) (n := "bars") hst hkd
    have hdd : -1 ≤ dx ∧ dx ≤ 1 ∧ -1 ≤ dy ∧ dy ≤ 1 := by
      simp only [dirs, List.mem_cons, List.not_mem_nil, or_false, Prod.mk.injEq] at hd
      omega
    obtain ⟨v, hv1, hv2⟩ := hw.st s _ hst
    obtain ⟨dx0, ha, ks0⟩ := id lk
    obtain ⟨kvs0, hk0⟩ := ks0.dict
    have hgl : go ≠ ld := fun e => by rw [e, hk0] at hgo; cases hgo
    refine ⟨_, rfl, a, dx0, _, rfl, ha, rfl, _, rfl, a, wt, ld, wv, p, s, v, rfl, lk, hw.sq, hv1, .inl (by omega), fun H1 f1 lk1 => ?_⟩
    have lk1 := lk1.imp (or_eq ps)
    have tf1 := lk.tf f1
    have hg1 := hg.tf tf1
    have ht1 : TgAt K H1 v t := SlAt.tf (o := some t) hv2 tf1
    have hw1 := hw.tf tf1
    have hgo1 := f1 _ _ hgl hgo
    refine ⟨_, rfl, _, rfl, g, v, G, t, kd, rfl, hg1, ht1, hkd, fun pb H2 s2 hpb => ?_⟩
    have tf2 := tf1.trans (same_tf s2)
    have hb2 : BxAt K H2 (.ref pb) (t.box kd) := ⟨pb, rfl, SqT.of hpb⟩
    obtain ⟨ga, lv, ksv, rfl, sg, hlv, hks⟩ := hg.tf tf2
    refine ⟨_, rfl, ga, _, _, _, rfl, rfl, sg, atI_nat (j := 0) rfl, _, rfl, _, rfl, _, rfl, lv, .ref pb, G, t.box kd, dx, dy, rfl, hd, hlv, o, hb2, lim, limd dx dy hdd.1 hdd.2.1 hdd.2.2.1 hdd.2.2.2, yh, fun H3 s3 => ?_⟩
    have S3 := s2.trans s3
    have F3 : Frm ld H H3 := f1.trans (Frm.of_same S3)
    have lk3 := lk1.same S3
    have tf3 := tf1.trans (same_tf S3)
    cases hstp : G.stp (t.box kd) dx dy with
    | true =>
      refine ⟨true, rfl, iteT (k1 ?_ H3 F3 ?_)⟩
      · rw [joinF, eb, hstp]
        rfl
      · rw [joinP, eb, hstp]
        exact lk3
    | false =>
      refine ⟨false, rfl, iteF ?_⟩
      have hg3 := GmAt.tf hg tf3
      have ht3 := TgAt.tf ht1 (same_tf S3)
      refine ⟨_, rfl, _, rfl, _, v, G, t, kd, "bars", rfl, hg3, ht3, hkd, ?_⟩
      cases hbr : kd.has "bars" with
      | false =>
        refine ⟨_, rfl, iteT ?_⟩
        dsimp only [tRet, tLst, tNil]
        refine ⟨Nat.zero_le _, fun q nq => ?_⟩
        refine k2 [] ?_ q _ (F3.trans (Frm.of_same (new_same nq))) ?_ upd_same ?_
        · rw [joinF, eb, hstp, eh, hbr]
          rfl
        · rw [joinP, eb, hstp, eh, hbr]
          exact lk3.same (new_same nq)
        · cases e : H q with
          | none => rfl
          | some z => exact absurd ((F3 _ _ (fun c => by rw [c] at nq; obtain ⟨_, z⟩ := lk3.choose_spec.2.dict; rw [z] at nq; cases nq) e).symm.trans nq) (by simp)
      | true =>
        have ej : joinF G sl dx dy going s = if ((barL G sl ((t.box kd).mv dx dy) going).all (alongS G sl dy)) = true then some (barL G sl ((t.box kd).mv dx dy) going) else none := by
          rw [joinF, eb, hstp, eh, hbr]
          rfl
        have ep : joinP G sl dx dy going s p = seenP G sl ((t.box kd).mv dx dy) going p := by
          rw [joinP, eb, hstp, eh, hbr]
          rfl
        refine ⟨_, rfl, iteF ?_⟩
        refine ⟨_, rfl, _, rfl, _, rfl, _, rfl, _, rfl, .ref pb, t.box kd, dx, dy, rfl, hb2.tf (same_tf s3), fun pm H4 s4 hpm => ?_⟩
        have S4 := S3.trans s4
        have hgo4 := s4 _ _ (s3 _ _ (s2 _ _ hgo1))
        refine ⟨_, rfl, go, _, rfl, .inl ⟨SqL.of hgo4, fun pt npt => ?_⟩⟩
        have S5 := S4.trans (new_same (o := .tup (nV going)) npt)
        have tf5 := tf1.trans (same_tf S5)
        have hb5 : BxAt K (upd H4 pt (.tup (nV going))) (.ref pm) ((t.box kd).mv dx dy) := ⟨pm, rfl, SqT.of (new_same npt _ _ hpm)⟩
        refine ⟨_, .ref pm, a, wt, ld, pt, wv, G, sl, (t.box kd).mv dx dy, going, p, rfl, hg.tf tf5, o, sa, lk1.same S5, hw.tf tf5, hb5, limd dx dy hdd.1 hdd.2.1 hdd.2.2.1 hdd.2.2.2, SqT.of upd_same, fun q H6 f6 lk6 hq nq => ?_⟩
        have F6 : Frm ld H H6 := (f1.trans (Frm.of_same S5)).trans f6
        rw [← ep] at lk6
        obtain ⟨B, hB⟩ : ∃ B, B = barL G sl ((t.box kd).mv dx dy) going := ⟨_, rfl⟩
        have hBl : ∀ s ∈ B, s ∈ lookL G sl ((t.box kd).mv dx dy) going ∧ s < 16 := fun s hs => by
          rw [hB, barL, List.mem_filter] at hs
          exact ⟨hs.1, (look_mem hs.1).1⟩
        rw [← hB] at hq ej
        have hql : q ≠ ld := fun e => by
          obtain ⟨_, h1, h2⟩ := lk6
          obtain ⟨_, h2⟩ := h2.dict
          rw [e, h2] at hq
          cases hq
        have hqn : H q = none := by
          cases e : H q with
          | none => rfl
          | some z => exact absurd (((f1.trans (Frm.of_same S5)) _ _ hql e).symm.trans nq) (by simp)
        refine ⟨_, rfl, q, rfl, ⟨_, SqL.of hq⟩, ?_⟩
        refine L2.for_it (walk_list (K := K) (a := q) (xs := nV B)) (fun i σ H' => ∃ v9 : Option V, σ = [some (.ref ga), some (.ref a), some (.ref go), some (.int (s : Int)), some (.int dx), some (.int dy), some v, some (.ref pb), some (.ref q), v9] ∧ Frm ld H6 H' ∧ LkAt K H' a wt ld (joinP G sl dx dy going s p) ∧ (B.take i).all (alongS G sl dy) = true) ⟨_, rfl, Frm.refl _ _, lk6, by rw [List.take_zero]; rfl⟩ (fun i σ H' _ h => by obtain ⟨_, _, f, _⟩ := h; exact SqL.of (f _ _ hql hq)) (fun i x σ H7 Hx hi hPv hy => ?_) (fun σ H7 hPv => ?_)
        · obtain ⟨v9, rfl, f7, lk7, al⟩ := hPv
          obtain ⟨rfl, hx⟩ := hy
          unfold nV at hi hx
          rw [List.length_map] at hi
          have hsi := List.getElem?_eq_getElem hi
          obtain ⟨u, hu⟩ : ∃ u, u = B[i] := ⟨_, rfl⟩
          rw [← hu] at hsi
          rw [List.getElem?_map, hsi] at hx
          cases hx
          obtain ⟨uL, u16⟩ := hBl u (List.mem_of_getElem? hsi)
          obtain ⟨tu, hsu⟩ := near_thing (look_mem uL).2.2
          have tf7 : TF H Hx := lk.tf (F6.trans f7)
          obtain ⟨vu, hv1u, hv2u⟩ := (hw.tf tf7).st u _ hsu
          obtain ⟨dx7, ha7, _⟩ := id lk7
          refine ⟨_, rfl, _, rfl, a, dx7, _, rfl, ha7, rfl, _, rfl, a, wt, ld, wv, _, u, vu, rfl, lk7, (hw.tf tf7).sq, hv1u, .inl (by omega), fun H8 f8 lk8 => ⟨_, rfl, ?_⟩⟩
          have lk8 := lk8.imp (or_eq (by rw [ep]; exact seen_in uL))
          have tf8 := tf7.trans (lk7.tf f8)
          refine ⟨_, vu, G, sl, u, tu, dy, rfl, hg.tf tf8, sa, hsu, SlAt.tf (o := some tu) hv2u (lk7.tf f8), fun H9 s9 => ?_⟩
          have F9 : Frm ld H6 H9 := (f7.trans f8).trans (Frm.of_same s9)
          cases hal : alongS G sl dy u with
          | true =>
            refine ⟨_, rfl, iteF ?_⟩
            refine ⟨_, rfl, F9, lk8.same s9, ?_⟩
            rw [List.take_add_one, hsi, List.all_append, al]
            simp [hal]
          | false =>
            refine ⟨_, rfl, iteT (k1 ?_ H9 (F6.trans F9) (lk8.same s9))⟩
            rw [ej]
            have e : B.all (alongS G sl dy) = false := by
              cases e : B.all (alongS G sl dy) with
              | false => rfl
              | true => exact absurd ((List.all_eq_true.mp e u (List.mem_of_getElem? hsi)).symm.trans hal) (by decide)
            rw [e]
            rfl
        · obtain ⟨v9, rfl, f7, lk7, al⟩ := hPv
          unfold nV at al
          rw [List.length_map, List.take_length] at al
          rw [al] at ej
          exact ⟨_, rfl, k2 B ej q H7 (F6.trans f7) lk7 (f7 _ _ hql hq) hqn⟩

/-! ### the whole lot -/
def seenS (G : Gm) (sl : List (Option Tg)) (b : Bx) (but : List Nat) (c : Int) : Prop := c ∈ G.blk b ∨ ∃ s : Nat, c = (s : Int) ∧ s < 16 ∧ s ∉ but ∧ near G sl (G.blk b) s = true
def joinS (G : Gm) (sl : List (Option Tg)) (dx dy : Int) (going : List Nat) (s : Nat) (c : Int) : Prop :=
  G.stp (bxS G sl s) dx dy = false ∧ hsS G sl "bars" s = true ∧ seenS G sl ((bxS G sl s).mv dx dy) going c
theorem joinP_iff (G : Gm) (sl : List (Option Tg)) (dx dy : Int) (going : List Nat) (s : Nat) (p : Int → Prop) (c : Int) : joinP G sl dx dy going s p c ↔ p c ∨ joinS G sl dx dy going s c := by
  unfold joinP joinS
  cases h1 : G.stp (bxS G sl s) dx dy with
  | true => simp
  | false =>
    cases h2 : hsS G sl "bars" s with
    | true => simp [seenP, seenS]
    | false => simp
def lotG (G : Gm) (sl : List (Option Tg)) (dx dy : Int) : Nat → List Nat → Nat → Option (List Nat)
  | 0, going, _ => some going
  | n + 1, going, i => match going[i]? with
    | none => some going
    | some s => match joinF G sl dx dy going s with
      | none => none
      | some j => lotG G sl dx dy n (going ++ j) (i + 1)
def lotS (G : Gm) (sl : List (Option Tg)) (dx dy : Int) : Nat → List Nat → Nat → Int → Prop
  | 0, _, _, _ => False
  | n + 1, going, i, c => match going[i]? with
    | none => False
    | some s => joinS G sl dx dy going s c ∨ (match joinF G sl dx dy going s with
      | none => False
      | some j => lotS G sl dx dy n (going ++ j) (i + 1) c)
theorem lotG_end {G : Gm} {sl : List (Option Tg)} {dx dy : Int} {going : List Nat} {i : Nat} (h : going.length ≤ i) : ∀ n, lotG G sl dx dy n going i = some going
  | 0 => rfl
  | n + 1 => by rw [lotG, List.getElem?_eq_none h]
theorem lotS_end {G : Gm} {sl : List (Option Tg)} {dx dy : Int} {going : List Nat} {i : Nat} (h : going.length ≤ i) (c : Int) : ∀ n, lotS G sl dx dy n going i c ↔ False
  | 0 => Iff.rfl
  | n + 1 => by rw [lotS, List.getElem?_eq_none h]
theorem lotG_none {G : Gm} {sl : List (Option Tg)} {dx dy : Int} {going : List Nat} {i s n : Nat} (h : going[i]? = some s) (hj : joinF G sl dx dy going s = none) : lotG G sl dx dy (n + 1) going i = none := by
  rw [lotG, h]
  dsimp only
  rw [hj]
theorem lotG_some {G : Gm} {sl : List (Option Tg)} {dx dy : Int} {going j : List Nat} {i s n : Nat} (h : going[i]? = some s) (hj : joinF G sl dx dy going s = some j) : lotG G sl dx dy (n + 1) going i = lotG G sl dx dy n (going ++ j) (i + 1) := by
  rw [lotG, h]
  dsimp only
  rw [hj]
theorem lotS_none {G : Gm} {sl : List (Option Tg)} {dx dy : Int} {going : List Nat} {i s n : Nat} (h : going[i]? = some s) (hj : joinF G sl dx dy going s = none) (c : Int) : lotS G sl dx dy (n + 1) going i c ↔ joinS G sl dx dy going s c := by
  rw [lotS, h]
  dsimp only
  rw [hj]
  simp
theorem lotS_some {G : Gm} {sl : List (Option Tg)} {dx dy : Int} {going j : List Nat} {i s n : Nat} (h : going[i]? = some s) (hj : joinF G sl dx dy going s = some j) (c : Int) : lotS G sl dx dy (n + 1) going i c ↔ joinS G sl dx dy going s c ∨ lotS G sl dx dy n (going ++ j) (i + 1) c := by
  rw [lotS, h]
  dsimp only
  rw [hj]
/-- those that go -/
structure GoOk (sl : List (Option Tg)) (going : List Nat) (p : Int → Prop) : Prop where
  nd : going.Nodup
  th : ∀ s ∈ going, s < 16 ∧ ∃ t, sl[s]? = some (some t)
  se : ∀ s ∈ going, p (s : Int)
theorem nat_len {l : List Nat} (nd : l.Nodup) (h : ∀ s ∈ l, s < 16) : l.length ≤ 16 := by
  have h2 := nd_len (l.map fun n : Nat => (n : Int)) (rngI 0 16) (by
    rw [List.Nodup, List.pairwise_map]
    exact nd.imp fun h z => h (by omega)) fun c hc => by
      obtain ⟨s, hs, rfl⟩ := List.mem_map.mp hc
      have := h s hs
      rw [rngI_mem]
      omega
  rw [List.length_map] at h2
  have : (rngI 0 16).length = 16 := by decide
  omega
theorem GoOk.len {sl : List (Option Tg)} {going : List Nat} {p : Int → Prop} (h : GoOk sl going p) : going.length ≤ 16 := nat_len h.nd fun s hs => (h.th s hs).1
theorem joinF_eq {G : Gm} {sl : List (Option Tg)} {dx dy : Int} {going j : List Nat} {s : Nat} (h : joinF G sl dx dy going s = some j) : j = [] ∨ (j = barL G sl ((bxS G sl s).mv dx dy) going ∧ ∀ c, joinS G sl dx dy going s c ↔ seenS G sl ((bxS G sl s).mv dx dy) going c) := by
  unfold joinF at h
  cases h1 : G.stp (bxS G sl s) dx dy with
  | true =>
    rw [h1, if_pos rfl] at h
    cases h
  | false =>
    rw [h1, if_neg (by decide)] at h
    cases h2 : hsS G sl "bars" s with
    | false =>
      rw [h2, if_neg (by decide)] at h
      exact .inl (by injection h with h; exact h.symm)
    | true =>
      rw [h2, if_pos rfl] at h
      split at h
      · injection h with h
        refine .inr ⟨h.symm, fun c => ?_⟩
        unfold joinS
        rw [h1, h2]
        simp
      · cases h
theorem GoOk.step {G : Gm} {sl : List (Option Tg)} {dx dy : Int} {going j : List Nat} {s : Nat} {p : Int → Prop} (h : GoOk sl going p) (hj : joinF G sl dx dy going s = some j) : GoOk sl (going ++ j) (joinP G sl dx dy going s p) := by
  rcases joinF_eq hj with rfl | ⟨rfl, hs⟩
  · rw [List.append_nil]
    exact ⟨h.nd, h.th, fun s m => join_up (h.se s m)⟩
  · have hm : ∀ x ∈ barL G sl ((bxS G sl s).mv dx dy) going, x ∈ lookL G sl ((bxS G sl s).mv dx dy) going := fun x hx => by
      rw [barL, List.mem_filter] at hx
      exact hx.1
    refine ⟨?_, fun x hx => ?_, fun x hx => ?_⟩
    · rw [List.nodup_append]
      refine ⟨h.nd, List.Pairwise.filter _ (look_nd _ _ _ _), fun a ha b hb e => ?_⟩
      exact (look_mem (hm b hb)).2.1 (by rw [← e]; exact ha)
    · rcases List.mem_append.mp hx with hx | hx
      · exact h.th x hx
      · obtain ⟨h1, _, h3⟩ := look_mem (hm x hx)
        exact ⟨h1, near_thing h3⟩
    · rcases List.mem_append.mp hx with hx | hx
      · exact join_up (h.se x hx)
      · rw [joinP_iff, hs]
        obtain ⟨h1, h2, h3⟩ := look_mem (hm x hx)
        exact .inr (.inr ⟨x, rfl, h1, h2, h3⟩)
/-- what lot gives -/
def lotV : Option (List Nat) → List Nat
  | none => []
  | some g => (List.range 16).filter g.contains

def dirsD : List PyData := dirs.map fun d => .tuple [.int d.1, .int d.2]
theorem dirs_dp (T : Txt K w mg) (H : Hp) : Dp K H (.ref (He.ga K "DIRECTIONS")) (.tuple dirsD) := by
  obtain ⟨h1, h2⟩ := He.ba (show (_ && _) = true from T.ex)
  obtain ⟨t0, h2⟩ := He.ba h2
  obtain ⟨t1, h2⟩ := He.ba h2
  obtain ⟨t2, t3⟩ := He.ba h2
  have pr : ∀ {a : Addr} {x y : Int}, tupA K a [.int x, .int y] = true → Dp K H (.ref a) (.tuple [.int x, .int y]) := fun h => .tup (tupA_ok h H) (.cons (.int _) (.cons (.int _) .nil))
  refine .tup (xs := dirV K) (.inr ?_) (.cons (pr t0) (.cons (pr t1) (.cons (pr t2) (.cons (pr t3) .nil))))
  cases q : K.lookup (He.ga K "DIRECTIONS") with
  | none => rw [q] at h1; cases h1
  | some o =>
    rw [q] at h1
    obtain ⟨c, d, da, fr⟩ := o
    cases c with
    | type c =>
      cases da with
      | seq its n =>
        obtain ⟨e1, h1⟩ := He.ba (show (decide (c = "tuple") && (decide (its.size ≤ sizeLine) && He.relAll (dirV K) its.toList)) = true from h1)
        obtain ⟨e2, e3⟩ := He.ba h1
        exact ⟨_, its, n, rfl, congrArg Value.type (of_decide_eq_true e1), rfl, of_decide_eq_true e2, He.relAll_ok e3⟩
      | _ => cases h1
    | _ => cases h1
def plM (σ : L2.St) : Nat := match σ[6]? with
  | some (some (V.int i)) => (16 - i).toNat
  | _ => 0
def lotP (G : Gm) (sl : List (Option Tg)) (dx dy : Int) (s : Nat) (p : Int → Prop) (c : Int) : Prop := (p c ∨ c = (s : Int)) ∨ lotS G sl dx dy 16 [s] 0 c
def lotR (G : Gm) (sl : List (Option Tg)) (dx dy : Int) (s : Nat) : List Nat := lotV (lotG G sl dx dy 16 [s] 0)
theorem lotV_some {g : List Nat} {ns : List Int} {p : Int → Prop} {sl : List (Option Tg)} (h : GoOk sl g p) (hp : ns.Perm (g.map fun n : Nat => (n : Int))) (hs : ns.Pairwise (· ≤ ·)) : ns.map V.int = nV (lotV (some g)) := by
  have nd : (g.map fun n : Nat => (n : Int)).Nodup := by
    rw [List.Nodup, List.pairwise_map]
    exact h.nd.imp fun h z => h (by omega)
  have e : ns = (lotV (some g)).map fun n : Nat => (n : Int) := by
    refine srt_uniq _ _ (lt_of hs (hp.nodup_iff.mpr nd)) (range_lt 16 _) fun c => ?_
    rw [hp.mem_iff, List.mem_map, List.mem_map]
    constructor
    · rintro ⟨s, h1, rfl⟩
      refine ⟨s, ?_, rfl⟩
      rw [lotV, List.mem_filter, List.mem_range]
      exact ⟨(h.th s h1).1, by simpa using h1⟩
    · rintro ⟨s, h1, rfl⟩
      rw [lotV, List.mem_filter] at h1
      exact ⟨s, by simpa using h1.2, rfl⟩
  rw [e, List.map_map]
  rfl
def spLot (K : PySem.W.Frag) : Sp := fun vs H Q _ => ∃ (g : V) (a wt ld : Addr) (wv : List V) (G : Gm) (sl : List (Option Tg)) (s : Nat) (t : Tg) (dx dy : Int) (p : Int → Prop), vs = [g, .ref a, .int (s : Int), .int dx, .int dy] ∧ (dx, dy) ∈ dirs ∧ GmAt K H g G ∧ G.ok ∧ SlAll G sl ∧ s < 16 ∧ sl[s]? = some (some t) ∧ LkAt K H a wt ld p ∧ WtAt K H wt wv G sl ∧
  ∀ q H', Frm ld H H' → LkAt K H' a wt ld (lotP G sl dx dy s p) → SqT K H' q (nV (lotR G sl dx dy s)) → Q (.ref q) H'
theorem scLo : FnScope ["game", "looks", "slot", "dx", "dy", "going", "place", "joining"] ["game", "looks", "slot", "dx", "dy"] (defScope s_lot) := ⟨rfl, rfl, rfl, by decide +kernel, rfl, by decide +kernel, by decide +kernel⟩
theorem ok_lot (T : Txt K w mg) : FnOk P w K mg base CX0 7 (He.fAd K ("lot", none)) (fdAt K (He.fAd K ("lot", none))) ["game", "looks", "slot", "dx", "dy"] (spLot K) := by
  refine T.F_lot.ok scLo (fun vs H Q E h => ?_) (fun cdv A outer s H vs Q E hr h => ?_)
  · obtain ⟨g, a, wt, ld, wv, G, sl, s, t, dx, dy, p, rfl, _⟩ := h
    rfl
  · obtain ⟨g, a, wt, ld, wv, G, sl, s, t, dx, dy, p, rfl, hd, hg, o, sa, s16, hst, lk, hw, k⟩ := h
    refine ⟨_, PSs.nox (pss_cons (ps_expr (pe_call (ok_thing_in T) (hr.mono (by first | decide | omega)) (by rfl) T.g_thing_in (T.F_thing_in).kp T.b_thing_in .nil pass0 (pa_cons (pv 1) (pa_cons (pv 2) pa_nil))))
      (pss_cons (ps_if (pt_cmpR (KP.op_niT hr.units) (pe_tup (pa_cons (pv 3) (pa_cons (pv 4) pa_nil))) (pe_glob (v := .ref (He.ga K "DIRECTIONS")) (by rfl) T.g_DIRECTIONS rfl) rfl) (pss_one ps_never) pss_nil)
      (pss_cons (ps_set (i := 5) scLo.nd rfl (Or.inl rfl) (pe_lst (pa_cons (pv 2) pa_nil)))
      (pss_cons (ps_set (i := 6) scLo.nd rfl (Or.inl rfl) pe_int)
      (pss_cons (ps_while PassesOwn.never (pt_cmpR op_lt (pv 6) (pe_callB (r := Evl.rLenS K) call_len_seq (by rfl) T.n_len PyProof.Rows.Boot.«len» (pa_cons (pv 5) pa_nil)) (nomark _)) (pss_cons (ps_set (i := 7) scLo.nd rfl (Or.inl rfl) (pe_call (ok_joining T) (hr.mono (by first | decide | omega)) (by rfl) T.g_joining (T.F_joining).kp T.b_joining .nil pass0 (pa_cons (pv 0) (pa_cons (pv 1) (pa_cons (pv 5) (pa_cons (pe_ix (r := rIxL K) ix_list (pv 5) (pv 6) (fun _ _ => rfl)) (pa_cons (pv 3) (pa_cons (pv 4) pa_nil))))))))
      (pss_cons (ps_if (pt_cmpR op_isN (pv 7) pe_non (nomark _)) (pss_one (ps_ret (pe_tup pa_nil))) pss_nil)
      (pss_cons (ps_expr (pe_bm PySem.F.plainAttrs_list PySem.F.slot_list_extend PySem.F.type_list_extend mt_extend (pv 5) (pa_cons (pv 7) pa_nil)))
      (pss_one (ps_aug (i := 6) scLo.nd rfl (Or.inl rfl) pe_int ip_add))))))
      (pss_one (ps_ret (pe_callTy call_tuple_of (by rfl) T.n_tuple PyProof.Rows.Boot.«tuple» (pa_cons (pe_callB cr_sorted (by rfl) T.n_sorted PyProof.Rows.Boot.«sorted» (pa_cons (pv 5) pa_nil)) pa_nil))))))))), ?_⟩
    refine ⟨_, rfl, _, rfl, a, wt, ld, wv, G, sl, s, t, p, rfl, s16, hst, lk, hw, fun v H1 f1 lk1 ht1 => ?_⟩
    have f1' : Frm ld H H1 := f1
    obtain ⟨dx0, ha0, ks0⟩ := id lk
    obtain ⟨kvs0, hk0⟩ := ks0.dict
    refine ⟨_, rfl, _, rfl, (show 2 ≤ sizeLine by decide), fun pr npr => ⟨.tuple [.int dx, .int dy], dirsD, .tup (SqT.of upd_same) (.cons (.int _) (.cons (.int _) .nil)), dirs_dp T _, rfl, by decide, Nat.le_of_ble_eq_true rfl, ?_⟩⟩
    have einD : (!dirsD.any fun z => PyData.eqv z (.tuple [.int dx, .int dy])) = false := by
      simp only [dirs, List.mem_cons, List.not_mem_nil, or_false, Prod.mk.injEq] at hd
      rcases hd with ⟨rfl, rfl⟩ | ⟨rfl, rfl⟩ | ⟨rfl, rfl⟩ | ⟨rfl, rfl⟩ <;> decide
    rw [einD]
    refine ⟨_, rfl, iteF ?_⟩
    have s2 := new_same (o := .tup [.int dx, .int dy]) npr
    refine ⟨_, rfl, (show 1 ≤ sizeLine by decide), fun go ngo => ?_⟩
    have s3 := new_same (o := .lst [.int (s : Int)]) ngo
    have S3 := s2.trans s3
    have F3 : Frm ld H _ := f1.trans (Frm.of_same S3)
    have lk3 := lk1.same S3
    have hgl : go ≠ ld := fun e => by
      obtain ⟨_, _, z⟩ := lk1
      obtain ⟨_, z⟩ := z.dict
      rw [e, s2 _ _ z] at ngo
      cases ngo
    have ngoH : H go = none := by
      cases e : H go with
      | none => rfl
      | some z => exact absurd ((s2 _ _ (f1 _ _ hgl e)).symm.trans ngo) (by simp)
    have hga : go ≠ a := (ne_of_none ha0 ngoH).symm
    have fu : ∀ {H' : Hp} {ob : HO}, Frm ld H H' → Frm ld H (upd H' go ob) := fun f b ob n z => by
      rw [upd_ne (ne_of_none z ngoH)]
      exact f b ob n z
    refine seq_cut (fun σ' H' => σ' = [some g, some (.ref a), some (.int (s : Int)), some (.int dx), some (.int dy), some (.ref go), none, none] ∧ H' = upd (upd H1 pr (.tup [.int dx, .int dy])) go (.lst (nV [s]))) (fun σ' H' hq => ?_) (fun R hR => hR _ _ ⟨rfl, rfl⟩)
    obtain ⟨rfl, rfl⟩ := hq
    refine seq_cut (fun σ' H' => σ' = [some g, some (.ref a), some (.int (s : Int)), some (.int dx), some (.int dy), some (.ref go), some (.int ((0 : Nat) : Int)), none] ∧ H' = upd (upd H1 pr (.tup [.int dx, .int dy])) go (.lst (nV [s]))) (fun σ' H' hq => ?_) (fun R hR => show R [some g, some (.ref a), some (.int (s : Int)), some (.int dx), some (.int dy), some (.ref go), some (.int ((0 : Nat) : Int)), none] _ from hR _ _ ⟨rfl, rfl⟩)
    obtain ⟨rfl, rfl⟩ := hq
    refine seq_cut (fun σ' H' => ∃ (going : List Nat) (v6 v7 : Option V) (pc : Int → Prop), σ' = [some g, some (.ref a), some (.int (s : Int)), some (.int dx), some (.int dy), some (.ref go), v6, v7] ∧ H' go = some (.lst (nV going)) ∧ Frm ld H H' ∧ LkAt K H' a wt ld pc ∧ GoOk sl going pc ∧ lotG G sl dx dy 16 [s] 0 = some going ∧ ∀ c, pc c ↔ lotP G sl dx dy s p c) (fun σ' H' hP => ?_) (fun R hR => ?_)
    · obtain ⟨going, v6, v7, pc, rfl, hgo, F, lk', gk, eG, eS⟩ := hP
      have gl := gk.len
      refine ⟨_, rfl, go, going.map (fun n : Nat => (n : Int)), rfl, SqL.of (by rw [List.map_map]; exact hgo), by rw [List.length_map]; omega, fun ns q hperm hsort nq => ?_⟩
      refine ⟨q, _, rfl, .inl ⟨SqL.of upd_same, fun q2 nq2 => ?_⟩⟩
      have S := (new_same (o := .lst (ns.map V.int)) nq).trans (new_same (o := .tup (ns.map V.int)) nq2)
      refine k q2 _ (F.trans (Frm.of_same S)) ((lk'.same S).imp eS) ?_
      rw [lotR, eG, ← lotV_some gk hperm hsort]
      exact SqT.of upd_same
    · refine while_by (fun σ' H' => ∃ (going : List Nat) (i : Nat) (v7 : Option V) (pc : Int → Prop), σ' = [some g, some (.ref a), some (.int (s : Int)), some (.int dx), some (.int dy), some (.ref go), some (.int (i : Int)), v7] ∧ H' go = some (.lst (nV going)) ∧ Frm ld H H' ∧ LkAt K H' a wt ld pc ∧ GoOk sl going pc ∧ i ≤ going.length ∧ lotG G sl dx dy (16 - i) going i = lotG G sl dx dy 16 [s] 0 ∧ ∀ c, (pc c ∨ lotS G sl dx dy (16 - i) going i c) ↔ lotP G sl dx dy s p c) (fun σ' _ => plM σ') ⟨[s], 0, _, _, rfl, upd_same, F3, lk3, ⟨by simp, fun x hx => ?_, fun x hx => ?_⟩, Nat.zero_le _, rfl, fun c => Iff.rfl⟩ (fun σ' H' hP => ?_) (fun σ' H' Q0 Q1 m z => ?_)
      · obtain rfl : x = s := by simpa using hx
        exact ⟨s16, t, hst⟩
      · obtain rfl : x = s := by simpa using hx
        exact .inr rfl
      · obtain ⟨going, i, v7, pc, rfl, hgo, F, lk', gk, hi, eG, eS⟩ := hP
        have gl := gk.len
        refine ⟨_, rfl, _, rfl, go, _, rfl, .inl (SqL.of hgo), _, _, rfl, rfl, _, rfl, ite2 (fun z => ?_) (fun z => ?_)⟩
        · have z := of_decide_eq_true z
          unfold nV at z
          rw [List.length_map] at z
          have z : i < going.length := by omega
          obtain ⟨n, hn⟩ : ∃ n, 16 - i = n + 1 := ⟨16 - i - 1, by omega⟩
          have hn2 : 16 - (i + 1) = n := by omega
          rw [hn] at eG eS
          have hsi := List.getElem?_eq_getElem z
          obtain ⟨u, hu⟩ : ∃ u, u = going[i] := ⟨_, rfl⟩
          rw [← hu] at hsi
          have hm := List.mem_of_getElem? hsi
          obtain ⟨u16, tu, htu⟩ := gk.th u hm
          have tf' : TF H H' := lk.tf F
          have hat : (nV going)[i]? = some (.int (u : Int)) := by
            unfold nV
            rw [List.getElem?_map, hsi]
            rfl
          refine ⟨_, rfl, _, rfl, _, rfl, _, rfl, _, rfl, go, _, _, _, rfl, rfl, SqL.of hgo, atI_nat hat, _, rfl, _, rfl, g, a, wt, ld, go, wv, G, sl, going, u, tu, dx, dy, pc, rfl, hd, hg.tf tf', o, sa, hgo, u16, htu, gk.se u hm, lk', hw.tf tf', fun ej H5 f5 lk5 => ?_, fun j ej q H5 f5 lk5 hq nq => ?_⟩
          · refine ⟨_, rfl, rfl, _, rfl, iteT ?_⟩
            refine ⟨(show 0 ≤ sizeLine by decide), fun q nq => ?_⟩
            refine k q _ ((F.trans f5).trans (Frm.of_same (new_same nq))) ((lk5.same (new_same nq)).imp fun c => ?_) ?_
            · rw [← eS, lotS_none hsi ej, joinP_iff]
            · rw [lotR, ← eG, lotG_none hsi ej]
              exact SqT.of upd_same
          · have hgo5 := f5 _ _ hgl hgo
            have gk' := gk.step ej
            have gl' := gk'.len
            refine ⟨_, rfl, rfl, _, rfl, iteF ?_⟩
            refine ⟨_, rfl, .inl ⟨rfl, _, SqL.of hgo5⟩, _, rfl, go, q, _, _, rfl, rfl, hgo5, hq, ?_, ?_⟩
            · unfold nV
              rw [List.length_map, List.length_map]
              rw [List.length_append] at gl'
              exact Nat.le_trans gl' (by decide)
            · refine ⟨_, rfl, _, _, rfl, rfl, ⟨⟨going ++ j, i + 1, _, _, rfl, ?_, fu (F.trans f5), lk5.frm (x := go) Frm.of_upd (Ne.symm hga) (Ne.symm hgl), gk', ?_, ?_, fun c => ?_⟩, ?_⟩⟩
              · rw [upd_same]
                unfold nV
                rw [List.map_append]
              · rw [List.length_append]
                omega
              · rw [hn2, ← eG, lotG_some hsi ej]
              · rw [hn2, ← eS, lotS_some hsi ej, joinP_iff, or_assoc]
              · show (16 - ((i : Int) + 1)).toNat < (16 - (i : Int)).toNat
                omega
        · have z : ¬ _ := fun h => z (decide_eq_true h)
          unfold nV at z
          rw [List.length_map] at z
          have z : going.length ≤ i := by omega
          refine hR _ _ ⟨going, _, _, pc, rfl, hgo, F, lk', gk, ?_, fun c => ?_⟩
          · rw [← eG, lotG_end z]
          · have := eS c
            rw [lotS_end z] at this
            simpa using this
      · obtain ⟨x, e1, y, e2, l, xs, e3, e4, i, j, e5, e6, kb, e7, q⟩ := z
        exact ⟨x, e1, y, e2, l, xs, e3, e4, i, j, e5, e6, kb, e7, m _ _ q⟩
end
end K27
set_option maxRecDepth 100000
set_option maxHeartbeats 4000000
/-! What stands on what: the program. -/
namespace K27
open PySem PySem.Spec PyProof.Rows L2 KF KD KP
theorem iteN {c A B : Prop} [Decidable c] (hc : ¬ c) (h : B) : if decide c = true then A else B := by
  rw [decide_eq_false hc]
  exact iteF h
def restF (G : Gm) (sl : List (Option Tg)) (s : Nat) : Int :=
  if hsS G sl "falls" s = true then (if G.stp (bxS G sl s) 0 1 = true then -1 else if hsS G sl "bars" s = true then (match barL G sl ((bxS G sl s).mv 0 1) [s] with
    | h :: _ => (h : Int)
    | [] => -2) else -2) else -2
def restS (G : Gm) (sl : List (Option Tg)) (s : Nat) (c : Int) : Prop := hsS G sl "falls" s = true ∧ joinS G sl 0 1 [s] s c
def restP (G : Gm) (sl : List (Option Tg)) (s : Nat) (p : Int → Prop) (c : Int) : Prop := (p c ∨ c = (s : Int)) ∨ restS G sl s c
theorem fallen_stp {G : Gm} {t : Tg} (o : G.ok) (k : TgOk G t) (h : G.hi ≤ (G.bx t).y) : G.stp (G.bx t) 0 1 = false := by
  obtain ⟨lim, limd, _⟩ := k.lim o
  have lm := limd 0 1 (by decide) (by decide) (by decide) (by decide)
  obtain ⟨p1, p2, p3⟩ := fr_true lim k.fr
  obtain ⟨l1, l2, l3, l4, l5, l6, l7, l8⟩ := lim
  have hH : G.hi = 8 * (G.rows.length : Int) := rfl
  have hW : G.wi = 8 * (G.W : Int) := rfl
  have low : ∀ b : Bx, b.x = (G.bx t).x → b.w = (G.bx t).w → G.hi ≤ b.y → ∀ c ∈ G.sgs b, c = 46 := fun b e1 e2 hy c m => by
    obtain ⟨r, x, h1, h2, e⟩ := sgs_mem.mp m
    rw [sg_low (by omega) (by omega) (by omega) (by omega)] at e
    exact e.symm
  unfold Gm.stp
  have f1 : G.fr ((G.bx t).mv 0 1) = true := List.all_eq_true.mpr fun c m => by
    rw [low ((G.bx t).mv 0 1) (by show (G.bx t).x + 0 = _; omega) rfl (by show G.hi ≤ (G.bx t).y + 1; omega) c m, wall46]
    rfl
  have f2 : ((G.sgs ⟨(G.bx t).x, (G.bx t).y + (G.bx t).h, (G.bx t).w, 1⟩).any fun c => decide (c = 61)) = false := by
    rw [List.any_eq_false]
    intro c m
    rw [low ⟨(G.bx t).x, (G.bx t).y + (G.bx t).h, (G.bx t).w, 1⟩ rfl rfl (by show G.hi ≤ (G.bx t).y + (G.bx t).h; omega) c m]
    decide
  rw [f1, f2]
  simp
theorem low_blk {G : Gm} {b : Bx} (h : G.hi ≤ b.y) : G.blk b = [] := by
  unfold Gm.blk
  refine if_neg fun z => ?_
  obtain ⟨_, _, m3, m4⟩ := (meets_iff _ _).mp z
  dsimp only at m3 m4
  omega
theorem fallen_rest {G : Gm} {sl : List (Option Tg)} {s : Nat} {t : Tg} (o : G.ok) (k : TgOk G t) (hs : sl[s]? = some (some t)) (h : G.hi ≤ (G.bx t).y) : restF G sl s = -2 ∧ ∀ c, restS G sl s c ↔ False := by
  have e : bxS G sl s = G.bx t := by unfold bxS; rw [hs]
  have st := fallen_stp o k h
  have bl : G.blk ((G.bx t).mv 0 1) = [] := low_blk (by show G.hi ≤ (G.bx t).y + 1; omega)
  have nr : ∀ x, near G sl [] x = false := fun x => rfl
  have bar : barL G sl ((G.bx t).mv 0 1) [s] = [] := by
    have lk : lookL G sl ((G.bx t).mv 0 1) [s] = [] := by
      unfold lookL
      rw [bl]
      exact List.filter_eq_nil_iff.mpr fun x _ => by rw [nr]; simp
    unfold barL
    rw [lk]
    rfl
  refine ⟨?_, fun c => ⟨fun z => ?_, fun z => z.elim⟩⟩
  · unfold restF
    rw [e, st, bar]
    simp
  · obtain ⟨_, z⟩ := z
    unfold joinS at z
    rw [e] at z
    obtain ⟨_, _, z⟩ := z
    unfold seenS at z
    rw [bl] at z
    rcases z with z | ⟨x, _, _, _, z⟩
    · exact List.not_mem_nil z
    · rw [nr] at z
      cases z
section
variable {P : Program} {w : World} {K : PySem.W.Frag} {mg : Str → Option Value} {base : Heap}
def spSt (K : PySem.W.Frag) : Sp := fun vs H Q _ => ∃ (g : V) (a wt ld : Addr) (wv : List V) (G : Gm) (sl : List (Option Tg)) (s : Nat) (t : Tg) (p : Int → Prop), vs = [g, .ref a, .int (s : Int)] ∧ GmAt K H g G ∧ G.ok ∧ SlAll G sl ∧ s < 16 ∧ sl[s]? = some (some t) ∧ LkAt K H a wt ld p ∧ WtAt K H wt wv G sl ∧
  ∀ H', Frm ld H H' → LkAt K H' a wt ld (restP G sl s p) → Q (.int (restF G sl s)) H'
theorem scSo : FnScope ["game", "looks", "slot", "thing", "box", "holding"] ["game", "looks", "slot"] (defScope s_stands_on) := ⟨rfl, rfl, rfl, by decide +kernel, rfl, by decide +kernel, by decide +kernel⟩
theorem ok_stands_on (T : Txt K w mg) : FnOk P w K mg base CX0 6 (He.fAd K ("stands_on", none)) (fdAt K (He.fAd K ("stands_on", none))) ["game", "looks", "slot"] (spSt K) := by
  obtain ⟨u1, g1, r1⟩ := T.c_IN_THE_AIR
  obtain ⟨u2, g2, r2⟩ := T.c_ON_THE_FLOOR
  refine T.F_stands_on.ok scSo (fun vs H Q E h => ?_) (fun cdv A outer s H vs Q E hr h => ?_)
  · obtain ⟨g, a, wt, ld, wv, G, sl, s, t, p, rfl, _⟩ := h
    rfl
  · obtain ⟨g, a, wt, ld, wv, G, sl, s, t, p, rfl, hg, o, sa, s16, hst, lk, hw, k⟩ := h
    refine ⟨_, PSs.nox (pss_cons (ps_set (i := 3) scSo.nd rfl (Or.inl rfl) (pe_call (ok_thing_in T) (hr.mono (by first | decide | omega)) (by rfl) T.g_thing_in (T.F_thing_in).kp T.b_thing_in .nil pass0 (pa_cons (pv 1) (pa_cons (pv 2) pa_nil))))
      (pss_cons (ps_if (PW.pt (pw_or (pt_not (pt_val (pe_call (ok_has_trait T) (hr.mono (by first | decide | omega)) (by rfl) T.g_has_trait (T.F_has_trait).kp T.b_has_trait .nil pass0 (pa_cons (pv 0) (pa_cons (pv 3) (pa_cons pe_str pa_nil)))))) (pw_or1 (pt_val (pe_call (ok_is_fallen T) (hr.mono (by first | decide | omega)) (by rfl) T.g_is_fallen (T.F_is_fallen).kp T.b_is_fallen .nil pass0 (pa_cons (pv 0) (pa_cons (pv 3) pa_nil))))))) (pss_one (ps_ret (pe_glob (v := .int (-2)) (by rfl) g1 r1))) pss_nil)
      (pss_cons (ps_set (i := 4) scSo.nd rfl (Or.inl rfl) (pe_call (ok_body_box T) (hr.mono (by first | decide | omega)) (by rfl) T.g_body_box (T.F_body_box).kp T.b_body_box .nil pass0 (pa_cons (pv 0) (pa_cons (pv 3) pa_nil))))
      (pss_cons (ps_if (pt_val (pe_call (ok_is_held_up T) (hr.mono (by first | decide | omega)) (by rfl) T.g_is_held_up (T.F_is_held_up).kp T.b_is_held_up .nil pass0 (pa_cons (pe_ix (r := rIxT K) ix_tup (pv 0) pe_int (fun _ _ => rfl)) (pa_cons (pv 4) pa_nil)))) (pss_one (ps_ret (pe_glob (v := .int (-1)) (by rfl) g2 r2))) pss_nil)
      (pss_cons (ps_if (pt_not (pt_val (pe_call (ok_has_trait T) (hr.mono (by first | decide | omega)) (by rfl) T.g_has_trait (T.F_has_trait).kp T.b_has_trait .nil pass0 (pa_cons (pv 0) (pa_cons (pv 3) (pa_cons pe_str pa_nil)))))) (pss_one (ps_ret (pe_glob (v := .int (-2)) (by rfl) g1 r1))) pss_nil)
      (pss_cons (ps_set (i := 5) scSo.nd rfl (Or.inl rfl) (pe_call (ok_barring T) (hr.mono (by first | decide | omega)) (by rfl) T.g_barring (T.F_barring).kp T.b_barring .nil pass0 (pa_cons (pv 0) (pa_cons (pv 1) (pa_cons (pe_call (ok_moved T) (hr.mono (by first | decide | omega)) (by rfl) T.g_moved (T.F_moved).kp T.b_moved .nil pass0 (pa_cons (pv 4) (pa_cons pe_int (pa_cons pe_int pa_nil)))) (pa_cons (pe_tup (pa_cons (pv 2) pa_nil)) pa_nil))))))
      (pss_one (ps_ret (pe_ifExp (pt_truth (pv 5) (by intro _; rfl)) (pe_ix (r := rIxL K) ix_list (pv 5) pe_int (fun _ _ => rfl)) (pe_glob (v := .int (-2)) (by rfl) g1 r1)))))))))), ?_⟩
    obtain ⟨kd, hkd, _⟩ := (sa.ok t (List.mem_of_getElem? hst)).kd
    obtain ⟨lim, limd, yh⟩ := (sa.ok t (List.mem_of_getElem? hst)).lim o
    have tko := sa.ok t (List.mem_of_getElem? hst)
    have ebx : G.bx t = t.box kd := by unfold Gm.bx; rw [hkd]
    rw [ebx] at lim limd yh
    have eb := bxS_at (G := G) (sl := sl) hst hkd
    have ef := hsS_at (G := G) (sl := sl) (n := "falls") hst hkd
    have eh := hsS_at (G := G) (sl := sl) (n := "bars") hst hkd
    refine ⟨_, rfl, _, rfl, a, wt, ld, wv, G, sl, s, t, p, rfl, s16, hst, lk, hw, fun v H1 f1 lk1 ht1 => ?_⟩
    have tf1 := lk.tf f1
    have hg1 := hg.tf tf1
    refine ⟨_, rfl, _, rfl, g, v, G, t, kd, "falls", rfl, hg1, ht1, hkd, ?_⟩
    have P0 : ∀ {H' : Hp}, Frm ld H H' → LkAt K H' a wt ld (fun c => p c ∨ c = (s : Int)) → (∀ c, restS G sl s c ↔ False) → LkAt K H' a wt ld (restP G sl s p) := fun _ l e => l.imp fun c => by
      unfold restP
      rw [e]
      simp
    cases hf : kd.has "falls" with
    | false =>
      have e : restF G sl s = -2 := by
        rw [restF, ef, hf]
        rfl
      rw [e] at k
      exact ⟨_, rfl, iteT (k H1 f1 (P0 f1 lk1 fun c => by rw [restS, ef, hf]; simp))⟩
    | true =>
      refine ⟨_, rfl, iteF ?_⟩
      refine ⟨_, rfl, _, rfl, g, v, G, t, kd, rfl, hg1, o, ht1, hkd, fun H2 s2 => ⟨_, rfl, ite2 (fun z => ?_) (fun _ => ?_)⟩⟩
      · have fy : G.hi ≤ (G.bx t).y := by rw [ebx]; exact of_decide_eq_true z
        obtain ⟨r1, r2⟩ := fallen_rest (sl := sl) o tko hst fy
        rw [r1] at k
        exact k H2 (f1.trans (Frm.of_same s2)) (P0 (f1.trans (Frm.of_same s2)) (lk1.same s2) r2)
      have f2 := f1.trans (Frm.of_same s2)
      have tf2 := lk.tf f2
      have hg2 := hg.tf tf2
      have ht2 := TgAt.tf ht1 (same_tf s2)
      refine ⟨_, rfl, _, rfl, g, v, G, t, kd, rfl, hg2, ht2, hkd, fun pb H3 s3 hpb => ?_⟩
      have S3 := s2.trans s3
      have f3 := f1.trans (Frm.of_same S3)
      have tf3 := lk.tf f3
      have hb3 : BxAt K H3 (.ref pb) (t.box kd) := ⟨pb, rfl, SqT.of hpb⟩
      obtain ⟨ga, lv, ksv, rfl, sg, hlv, hks⟩ := id (hg.tf tf3)
      refine ⟨_, rfl, ga, _, _, _, rfl, rfl, sg, atI_nat (j := 0) rfl, _, rfl, lv, .ref pb, G, t.box kd, rfl, hlv, o, hb3, lim, limd 0 1 (by decide) (by decide) (by decide) (by decide), yh, fun H4 s4 => ?_⟩
      have S4 := S3.trans s4
      have f4 := f1.trans (Frm.of_same S4)
      have lk4 := lk1.same S4
      have tf4 := lk.tf f4
      cases hst' : G.stp (t.box kd) 0 1 with
      | true =>
        have e : restF G sl s = -1 := by
          rw [restF, ef, hf, eb, hst']
          rfl
        rw [e] at k
        exact ⟨_, rfl, iteT (k H4 f4 (P0 f4 lk4 fun c => by rw [restS, joinS, eb, hst']; simp))⟩
      | false =>
        refine ⟨_, rfl, iteF ?_⟩
        refine ⟨_, rfl, _, rfl, _, v, G, t, kd, "bars", rfl, hg.tf tf4, TgAt.tf ht1 (same_tf S4), hkd, ?_⟩
        cases hbr : kd.has "bars" with
        | false =>
          have e : restF G sl s = -2 := by
            rw [restF, ef, hf, eb, hst', eh, hbr]
            rfl
          rw [e] at k
          exact ⟨_, rfl, iteT (k H4 f4 (P0 f4 lk4 fun c => by rw [restS, joinS, eh, hbr]; simp))⟩
        | true =>
          refine ⟨_, rfl, iteF ?_⟩
          have e : restF G sl s = (match barL G sl ((t.box kd).mv 0 1) [s] with
            | h :: _ => (h : Int)
            | [] => -2) := by
            rw [restF, ef, hf, eb, hst', eh, hbr]
            rfl
          have eS : ∀ c, restP G sl s p c ↔ seenP G sl ((t.box kd).mv 0 1) [s] (fun c => p c ∨ c = (s : Int)) c := fun c => by
            unfold restP restS joinS seenP seenS
            rw [ef, hf, eb, hst', eh, hbr]
            simp
          refine ⟨_, rfl, _, rfl, _, rfl, .ref pb, t.box kd, 0, 1, rfl, hb3.tf (same_tf s4), fun pm H5 s5 hpm => ?_⟩
          refine ⟨_, rfl, (show 1 ≤ sizeLine by decide), fun pt npt => ?_⟩
          have S6 := (S4.trans s5).trans (new_same (o := .tup [.int (s : Int)]) npt)
          have tf6 := lk.tf (f1.trans (Frm.of_same S6))
          have hb6 : BxAt K (upd H5 pt (.tup [.int (s : Int)])) (.ref pm) ((t.box kd).mv 0 1) := ⟨pm, rfl, SqT.of (new_same npt _ _ hpm)⟩
          refine ⟨_, .ref pm, a, wt, ld, pt, wv, G, sl, (t.box kd).mv 0 1, [s], _, rfl, hg.tf tf6, o, sa, lk1.same S6, hw.tf tf6, hb6, limd 0 1 (by decide) (by decide) (by decide) (by decide), SqT.of upd_same, fun q H7 f7 lk7 hq nq => ?_⟩
          have F7 : Frm ld H H7 := (f1.trans (Frm.of_same S6)).trans f7
          have lk7 := lk7.imp fun c => (eS c).symm
          have k := k H7 F7 lk7
          rw [e] at k
          cases hB : barL G sl ((t.box kd).mv 0 1) [s] with
          | nil =>
            rw [hB] at hq k
            exact ⟨_, rfl, _, .inl ⟨_, SqL.of hq, rfl⟩, iteF k⟩
          | cons h tl =>
            rw [hB] at hq k
            exact ⟨_, rfl, _, .inl ⟨_, SqL.of hq, rfl⟩, iteT ⟨_, rfl, q, _, _, _, rfl, rfl, SqL.of hq, atI_nat (j := 0) rfl, k⟩⟩
end
end K27
set_option maxRecDepth 100000
set_option maxHeartbeats 4000000
/-! The law looks. -/
namespace K27
open PySem PySem.Spec PyProof.Rows L2 KF KD KP
/-- w of the law -/
def WlAt (K : PySem.W.Frag) (H : Hp) (wa : Addr) (sl : List (Option Tg)) : Prop := ∃ wv : List V, H wa = some (.lst wv) ∧ wv.length = 49 ∧ ∀ (i : Nat) (o : Option Tg), sl[i]? = some o → ∃ v : V, wv[i]? = some v ∧ SlAt K H v o
theorem WlAt.tf {K : PySem.W.Frag} {H H' : Hp} {wa : Addr} {sl : List (Option Tg)} (h : WlAt K H wa sl) (e : TF H H') (f : H' wa = H wa) : WlAt K H' wa sl := by
  obtain ⟨wv, h1, h2, h3⟩ := h
  exact ⟨wv, by rw [f]; exact h1, h2, fun i o z => by obtain ⟨v, g1, g2⟩ := h3 i o z; exact ⟨v, g1, g2.tf e⟩⟩
theorem WlAt.lst {K : PySem.W.Frag} {H : Hp} {wa : Addr} {sl : List (Option Tg)} (h : WlAt K H wa sl) : ∃ wv, H wa = some (.lst wv) := by
  obtain ⟨wv, h1, _⟩ := h
  exact ⟨wv, h1⟩
theorem WlAt.frm {K : PySem.W.Frag} {H H' : Hp} {wa sd : Addr} {sl : List (Option Tg)} {p : Int → Prop} (h : WlAt K H wa sl) (ks : KSet H sd p) (f : Frm sd H H') : WlAt K H' wa sl := by
  obtain ⟨kvs, hk⟩ := ks.dict
  obtain ⟨wv, h1⟩ := h.lst
  refine h.tf (Frm.tfk f hk) ?_
  rw [h1]
  exact f _ _ (fun e => by rw [e, hk] at h1; cases h1) h1
def ButAt (K : PySem.W.Frag) (H : Hp) (v : V) (but : List Nat) : Prop := ∃ a, v = .ref a ∧ (SqL K H a (nV but) ∨ SqT K H a (nV but))
def lkI (G : Gm) (sl : List (Option Tg)) (cs : List Int) (b : Bx) (but : List Nat) (i : Nat) : List Nat := (List.range i).filter fun s => !but.contains s && (near G sl cs s && meetS G sl b s)
def lkP (G : Gm) (sl : List (Option Tg)) (cs : List Int) (but : List Nat) (p : Int → Prop) (i : Nat) (c : Int) : Prop := (p c ∨ c ∈ cs) ∨ ∃ s : Nat, c = (s : Int) ∧ s < i ∧ s ∉ but ∧ near G sl cs s = true
theorem lk_no {G : Gm} {sl : List (Option Tg)} {cs : List Int} {b : Bx} {but : List Nat} {i : Nat} (p : Int → Prop) (h : i ∈ but ∨ near G sl cs i = false) : lkI G sl cs b but (i + 1) = lkI G sl cs b but i ∧ ∀ c, lkP G sl cs but p i c ↔ lkP G sl cs but p (i + 1) c := by
  constructor
  · unfold lkI
    rw [List.range_succ, List.filter_append]
    rcases h with h | h <;> simp [h]
  · intro c
    unfold lkP
    constructor
    · rintro (z | ⟨s, z1, z2, z3⟩)
      · exact .inl z
      · exact .inr ⟨s, z1, by omega, z3⟩
    · rintro (z | ⟨s, z1, z2, z3, z4⟩)
      · exact .inl z
      · refine .inr ⟨s, z1, ?_, z3, z4⟩
        have : s ≠ i := fun e => by
          rcases h with h | h
          · exact z3 (by rw [e]; exact h)
          · rw [e, h] at z4
            cases z4
        omega
theorem lk_yes {G : Gm} {sl : List (Option Tg)} {cs : List Int} {b : Bx} {but : List Nat} {i : Nat} (p : Int → Prop) (h1 : i ∉ but) (h2 : near G sl cs i = true) : lkI G sl cs b but (i + 1) = (if meetS G sl b i = true then lkI G sl cs b but i ++ [i] else lkI G sl cs b but i) ∧ ∀ c, (lkP G sl cs but p i c ∨ c = (i : Int)) ↔ lkP G sl cs but p (i + 1) c := by
  constructor
  · unfold lkI
    rw [List.range_succ, List.filter_append]
    cases hm : meetS G sl b i <;> simp [h1, h2, hm]
  · intro c
    unfold lkP
    constructor
    · rintro ((z | ⟨s, z1, z2, z3⟩) | z)
      · exact .inl z
      · exact .inr ⟨s, z1, by omega, z3⟩
      · exact .inr ⟨i, z, by omega, h1, h2⟩
    · rintro (z | ⟨s, z1, z2, z3, z4⟩)
      · exact .inl (.inl z)
      · by_cases e : s = i
        · exact .inr (by rw [z1, e])
        · exact .inl (.inr ⟨s, z1, by omega, z3, z4⟩)
theorem lkI_len {G : Gm} {sl : List (Option Tg)} {cs : List Int} {b : Bx} {but : List Nat} {i : Nat} : (lkI G sl cs b but i).length ≤ i := Nat.le_trans (List.length_filter_le _ _) (by rw [List.length_range]; exact Nat.le_refl _)
theorem near_at {G : Gm} {sl : List (Option Tg)} {cs : List Int} {s : Nat} {t : Tg} {kd : Kd} (h : sl[s]? = some (some t)) (hk : G.kds[t.k]? = some kd) : near G sl cs s = (G.blk (t.box kd)).any fun c => decide (c ∈ cs) := by
  have e : G.bx t = t.box kd := by rw [Gm.bx, hk]
  have e2 : ∀ c, inB G sl c s = decide (c ∈ G.blk (t.box kd)) := fun c => by
    unfold inB
    rw [h]
    dsimp only
    rw [e]
  unfold near
  rw [Bool.eq_iff_iff, List.any_eq_true, List.any_eq_true]
  constructor
  · rintro ⟨c, h1, h2⟩
    rw [e2] at h2
    exact ⟨c, of_decide_eq_true h2, decide_eq_true h1⟩
  · rintro ⟨c, h1, h2⟩
    exact ⟨c, of_decide_eq_true h2, by rw [e2]; exact decide_eq_true h1⟩
theorem near_no {G : Gm} {sl : List (Option Tg)} {cs : List Int} {s : Nat} (h : sl[s]? = some none) : near G sl cs s = false := by
  unfold near
  rw [List.any_eq_false]
  intro c _
  unfold inB
  rw [h]
  simp
theorem meets_sym (a b : Bx) : meets a b = meets b a := by
  rw [Bool.eq_iff_iff]
  unfold meets
  simp only [Bool.and_eq_true, decide_eq_true_eq]
  omega
theorem inV_int (c : Int) : ∀ l : List Int, inV (.int c) (l.map V.int) = decide (c ∈ l)
  | [] => rfl
  | d :: l => by
    have h := inV_int c l
    unfold inV at h ⊢
    rw [List.map_cons, List.any_cons, h, Bool.eq_iff_iff]
    show ((d == c) || decide (c ∈ l)) = true ↔ _
    simp only [Bool.or_eq_true, beq_iff_eq, decide_eq_true_eq, List.mem_cons]
    constructor
    · rintro (z | z)
      · exact .inl z.symm
      · exact .inr z
    · rintro (z | z)
      · exact .inl z.symm
      · exact .inr z
theorem flat_int : ∀ l : List Int, (l.map V.int).all flatV = true
  | [] => rfl
  | _ :: l => flat_int l
section
variable {P : Program} {w : World} {K : PySem.W.Frag} {mg : Str → Option Value} {base : Heap}
def spLk (K : PySem.W.Frag) : Sp := fun vs H Q _ => ∃ (g u bv : V) (wa sd : Addr) (G : Gm) (sl : List (Option Tg)) (b : Bx) (but : List Nat) (p : Int → Prop), vs = [g, .ref wa, .ref sd, u, bv] ∧ GmAt K H g G ∧ G.ok ∧ SlAll G sl ∧ WlAt K H wa sl ∧ KSet H sd p ∧ BxAt K H u b ∧ b.lim ∧ (∃ ba, bv = .ref ba ∧ ∀ H', Frm sd H H' → SqL K H' ba (nV but) ∨ SqT K H' ba (nV but)) ∧
  ∀ q H', Frm sd H H' → KSet H' sd (seenP G sl b but p) → H' q = some (.lst (nV (lookL G sl b but))) → H q = none → Q (.ref q) H'
theorem scLlk : FnScope ["game", "w", "seen", "box", "but", "cells", "cell", "found", "slot", "own"] ["game", "w", "seen", "box", "but"] (defScope s_law_look) := ⟨rfl, rfl, rfl, by decide +kernel, rfl, by decide +kernel, by decide +kernel⟩
theorem ok_law_look (T : Txt K w mg) : FnOk P w K mg base CX0 3 (He.fAd K ("_law_look", none)) (fdAt K (He.fAd K ("_law_look", none))) ["game", "w", "seen", "box", "but"] (spLk K) := by
  refine T.F_law_look.ok scLlk (fun vs H Q E h => ?_) (fun cdv A outer s H vs Q E hr h => ?_)
  · obtain ⟨g, u, bv, wa, sd, G, sl, b, but, p, rfl, _⟩ := h
    rfl
  · obtain ⟨g, u, bv, wa, sd, G, sl, b, but, p, rfl, hg, o, sa, hw, ks, hb, lim, hbu, k⟩ := h
    have hu := Nat.lt_of_le_of_lt (Nat.add_le_add_left (by decide : 1 ≤ 64) _) hr.units
    refine ⟨_, PSs.nox (pss_cons (ps_set (i := 5) scLlk.nd rfl (Or.inr rfl) (pe_call (ok_law_blocks T) (hr.mono (by first | decide | omega)) (by rfl) T.g_law_blocks (T.F_law_blocks).kp T.b_law_blocks .nil pass0 (pa_cons (pv 0) (pa_cons (pv 3) pa_nil))))
      (pss_cons (ps_for PassesOwn.never rfl (pi_list (pv 5)) (pg_name (i := 6) scLlk.nd rfl (Or.inl rfl)) (pss_one (ps_dput hu (pv 2) (pv 6) pe_bl rfl)))
      (pss_cons (ps_set (i := 7) scLlk.nd rfl (Or.inl rfl) (pe_lst pa_nil))
      (pss_cons (ps_for PassesOwn.never rfl (pi_range1 (by rfl) T.n_range (pa_cons pe_int pa_nil)) (pg_name (i := 8) scLlk.nd rfl (Or.inl rfl)) (pss_one (ps_if (PW.pt (pw_and (pt_cmpR (r := rIn K true) op_notIn_seq (pv 8) (pv 4) rfl) (pw_and1 (pt_cmpR op_notN (pe_ix (r := rIxL K) ix_list (pv 1) (pv 8) (fun _ _ => rfl)) pe_non (nomark _))))) (pss_cons (ps_set (i := 9) scLlk.nd rfl (Or.inl rfl) (pe_call (ok_law_box T) (hr.mono (by first | decide | omega)) (by rfl) T.g_law_box (T.F_law_box).kp T.b_law_box .nil pass0 (pa_cons (pv 0) (pa_cons (pe_ix (r := rIxL K) ix_list (pv 1) (pv 8) (fun _ _ => rfl)) pa_nil))))
      (pss_one (ps_if (pt_val (pe_callB (cr_any rfl) (by rfl) T.n_any PyProof.Rows.Boot.«any» (pa_cons (pe_lc (own := [("cell", 6)]) (g := gName 6) (tt := tYes) (by rfl) scLlk.nd (pi_list (pe_call (ok_law_blocks T) (hr.mono (by first | decide | omega)) (by rfl) T.g_law_blocks (T.F_law_blocks).kp T.b_law_blocks .nil pass0 (pa_cons (pv 0) (pa_cons (pv 9) pa_nil)))) (blkOk_by (own := [("cell", 6)]) (N := ["game", "w", "seen", "box", "but", "cells", "cell", "found", "slot", "own"]) (sc := defScope s_law_look) (by decide +kernel)) (fun _ _ _ _ _ => pg_name (i := 6) scLlk.nd rfl (Or.inl rfl)) (fun _ _ _ _ _ => pts_nil) (fun _ _ _ _ _ => (pe_cmpR (r := rIn K false) op_in_seq (pv 6) (pv 5) rfl))) pa_nil))) (pss_cons (ps_dput hu (pv 2) (pv 8) pe_bl rfl)
      (pss_one (ps_if (pt_val (pe_call (ok_law_meet T) (hr.mono (by first | decide | omega)) (by rfl) T.g_law_meet (T.F_law_meet).kp T.b_law_meet .nil pass0 (pa_cons (pv 9) (pa_cons (pv 3) pa_nil)))) (pss_one (ps_expr (pe_bm PySem.F.plainAttrs_list PySem.F.slot_list_append PySem.F.type_list_append mt_append (pv 7) (pa_cons (pv 8) pa_nil)))) pss_nil))) pss_nil))) pss_nil)))
      (pss_one (ps_ret (pv 7))))))), ?_⟩
    obtain ⟨ba, rfl, hba⟩ := hbu
    obtain ⟨kvs0, hk0⟩ := id ks.dict
    refine ⟨_, rfl, _, rfl, g, u, G, b, rfl, hg, o, hb, lim, fun qc H1 s1 hqc _ => ⟨_, rfl, qc, rfl, ⟨_, SqL.of hqc⟩, ?_⟩⟩
    obtain ⟨cs, hcs⟩ : ∃ cs, cs = G.blk b := ⟨_, rfl⟩
    have csl : cs.length ≤ 40 := by rw [hcs]; exact blk_len o lim
    have csm : ∀ c ∈ cs, 49 ≤ c ∧ c < 49 + G.bh * G.bw := fun c hc => blk_mem o lim (by rw [← hcs]; exact hc)
    have b40 := bhw o
    rw [← hcs] at hqc
    have ks1 := ks.same s1
    have hqs : qc ≠ sd := fun e => by rw [e, s1 _ _ hk0] at hqc; cases hqc
    have N1 : ∀ {H' : Hp}, Frm sd H1 H' → Frm sd H H' := fun f => (Frm.of_same s1).trans f
    refine L2.for_it (walk_list (K := K) (a := qc) (xs := cs.map V.int)) (fun i σ H' => ∃ v6 : Option V, σ = [some g, some (.ref wa), some (.ref sd), some u, some (.ref ba), some (.ref qc), v6, none, none, none] ∧ Frm sd H1 H' ∧ KSet H' sd (fun c => p c ∨ c ∈ cs.take i)) ⟨_, rfl, Frm.refl _ _, ks1.imp fun c => by rw [List.take_zero]; simp⟩ (fun i σ H' _ h => by obtain ⟨_, _, f, _⟩ := h; exact SqL.of (f _ _ hqs hqc)) (fun i x σ H2 Hx hi hPv hy => ?_) (fun σ H2 hPv => ?_)
    · obtain ⟨v6, rfl, f2, k2⟩ := hPv
      obtain ⟨rfl, hx⟩ := hy
      rw [List.length_map] at hi
      have hci := List.getElem?_eq_getElem hi
      obtain ⟨c, hc⟩ : ∃ c, c = cs[i] := ⟨_, rfl⟩
      rw [← hc] at hci
      rw [List.getElem?_map, hci] at hx
      cases hx
      obtain ⟨c1, c2⟩ := csm c (List.mem_of_getElem? hci)
      obtain ⟨kvs2, hk2⟩ := k2.dict
      refine ⟨_, rfl, _, rfl, sd, _, rfl, DPut.k (k := .inl c) hk2 (Nat.lt_of_le_of_lt (k2.len hk2) (by decide)), ?_⟩
      refine ⟨_, rfl, f2.trans Frm.of_upd, (kset_put k2 hk2 (.inr (by omega))).imp fun c' => ?_⟩
      rw [List.take_add_one, hci, List.mem_append, or_assoc]
      simp
    obtain ⟨v6, rfl, f2, k2⟩ := hPv
    rw [List.length_map, List.take_length] at k2
    refine ⟨(show 0 ≤ sizeLine by decide), fun fo nfo => ?_⟩
    have s3 := new_same (o := .lst []) nfo
    have F3 := (N1 f2).trans (Frm.of_same s3)
    have k3 := k2.same s3
    have hqc2 := f2 _ _ hqs hqc
    have hfs : fo ≠ sd := fun e => by
      obtain ⟨_, z⟩ := k2.dict
      rw [e, z] at nfo
      cases nfo
    have nfoH : H fo = none := by
      cases e : H fo with
      | none => rfl
      | some z => exact absurd ((N1 f2 _ _ hfs e).symm.trans nfo) (by simp)
    have fu : ∀ {H' : Hp} {ob : HO}, Frm sd H H' → Frm sd H (upd H' fo ob) := fun f b ob n z => by
      rw [upd_ne (ne_of_none z nfoH)]
      exact f b ob n z
    have hqf : qc ≠ fo := fun e => by rw [e, nfo] at hqc2; cases hqc2
    refine ⟨16, rfl, by decide, by decide, ?_⟩
    refine L2.for_it (walk_r0 (n := 16)) (fun i σ H' => ∃ v6 v8 v9 : Option V, σ = [some g, some (.ref wa), some (.ref sd), some u, some (.ref ba), some (.ref qc), v6, some (.ref fo), v8, v9] ∧ H' qc = some (.lst (cs.map V.int)) ∧ Frm sd H H' ∧ H' fo = some (.lst (nV (lkI G sl cs b but i))) ∧ KSet H' sd (lkP G sl cs but p i)) ⟨_, _, _, rfl, s3 _ _ hqc2, F3, upd_same, k3.imp fun c => ⟨.inl, fun z => z.elim id fun ⟨s, _, h, _⟩ => absurd h (Nat.not_lt_zero _)⟩⟩ (fun _ _ _ _ _ => trivial) (fun i x σ H4 Hx hi hPv hy => ?_) (fun σ H4 hPv => ?_)
    · obtain ⟨v6, v8, v9, rfl, hq4, f4, hf4, k4⟩ := hPv
      obtain ⟨rfl, rfl⟩ := hy
      have tf4 : TF H Hx := Frm.tfk f4 hk0
      obtain ⟨wv, hwv, wl, hws⟩ := hw.frm ks f4
      refine ⟨_, rfl, _, rfl, ba, _, rfl, hba _ f4, rfl, flat_nat _, _, rfl, ite2 (fun z => ?_) (fun z => ?_)⟩
      · have hnb : i ∉ but := by
          have z : (!inV (.int (i : Int)) (nV but)) = true := z
          rw [inV_nat] at z
          simpa using z
        obtain ⟨so, hso⟩ : ∃ so, sl[i]? = some so := ⟨_, List.getElem?_eq_getElem (by rw [sa.len]; omega)⟩
        obtain ⟨v, hv1, hv2⟩ := hws i so hso
        refine ⟨_, rfl, _, rfl, wa, _, _, _, rfl, rfl, SqL.of hwv, atI_nat hv1, ?_⟩
        cases so with
        | none =>
          obtain rfl : v = .non := hv2
          obtain ⟨n1, n2⟩ := lk_no (b := b) (but := but) p (.inr (near_no (G := G) (cs := cs) hso))
          refine ⟨rfl, _, rfl, iteF ?_⟩
          exact ⟨_, _, _, rfl, hq4, f4, by rw [n1]; exact hf4, k4.imp n2⟩
        | some t =>
          obtain ⟨kd, hkd, _⟩ := (sa.ok t (List.mem_of_getElem? hso)).kd
          obtain ⟨limt, _, _⟩ := (sa.ok t (List.mem_of_getElem? hso)).lim o
          have ebx : G.bx t = t.box kd := by unfold Gm.bx; rw [hkd]
          rw [ebx] at limt
          obtain ⟨ta, ow, rfl, hta⟩ := id hv2
          refine ⟨rfl, _, rfl, iteT ?_⟩
          refine ⟨_, rfl, _, rfl, _, rfl, wa, _, _, _, rfl, rfl, SqL.of hwv, atI_nat hv1, g, _, G, t, kd, rfl, hg.tf tf4, hv2, hkd, fun pb H5 s5 hpb => ?_⟩
          have hb5 : BxAt K H5 (.ref pb) (t.box kd) := ⟨pb, rfl, SqT.of hpb⟩
          have F5 := f4.trans (Frm.of_same s5)
          have tf5 := tf4.trans (same_tf s5)
          refine ⟨_, rfl, _, rfl, g, .ref pb, G, t.box kd, rfl, hg.tf tf5, o, hb5, limt, fun p2 H6 s6 hp2 _ => ⟨p2, rfl, ⟨_, SqL.of hp2⟩, fun D hD => ?_⟩⟩
          obtain ⟨bs, hbs⟩ : ∃ bs, bs = G.blk (t.box kd) := ⟨_, rfl⟩
          have bsl : bs.length ≤ 40 := by rw [hbs]; exact blk_len o limt
          rw [← hbs] at hp2
          have S6 := s5.trans s6
          have hq6 := S6 _ _ hq4
          refine lc_it (walk_list (K := K) (a := p2) (xs := bs.map V.int)) (fun j H' => Acc H6 D (fl bs (fun _ => true) (fun c => V.bl (decide (c ∈ cs))) j) H') (acc_0 hD) (fun j H' _ h => SqL.of (h.1 _ _ hp2)) (fun j v H' Hy hj h yy => ?_) (fun H' h => ?_)
          · obtain ⟨rfl, hv⟩ := yy
            rw [List.length_map] at hj
            have hx := List.getElem?_eq_getElem hj
            rw [List.getElem?_map, hx] at hv
            cases hv
            refine ⟨rfl, ?_⟩
            dsimp only [tYes]
            rw [if_pos rfl]
            refine ⟨_, rfl, _, rfl, qc, _, rfl, .inl (SqL.of (h.1 _ _ hq6)), rfl, flat_int _, ?_⟩
            have hh := acc_yes (f := fun c => V.bl (decide (c ∈ cs))) hD h (Same.refl _) hx rfl (by omega)
            rw [← inV_int] at hh
            exact hh
          · rw [List.length_map, fl_every] at h
            refine ⟨D, bs.map fun c => decide (c ∈ cs), rfl, SqL.of (by rw [h.2, List.map_map]; rfl), ?_⟩
            rw [List.any_map]
            have S7 := S6.trans h.1
            have f7 := f4.trans (Frm.of_same S7)
            have tf7 := tf4.trans (same_tf S7)
            have k7 := k4.same S7
            have en := near_at (cs := cs) hso hkd
            rw [← hbs] at en
            cases hn : near G sl cs i with
            | false =>
              have e : (bs.any (id ∘ fun c => decide (c ∈ cs))) = false := by rw [← hn, en]; rfl
              obtain ⟨n1, n2⟩ := lk_no (b := b) (but := but) p (.inr hn)
              rw [e]
              exact ⟨_, rfl, iteF ⟨_, _, _, rfl, S7 _ _ hq4, f7, by rw [n1]; exact S7 _ _ hf4, k7.imp n2⟩⟩
            | true =>
              have e : (bs.any (id ∘ fun c => decide (c ∈ cs))) = true := by rw [← hn, en]; rfl
              obtain ⟨n1, n2⟩ := lk_yes (b := b) p hnb hn
              rw [e]
              refine ⟨_, rfl, iteT ?_⟩
              obtain ⟨kvs7, hk7⟩ := k7.dict
              refine ⟨_, rfl, _, rfl, sd, _, rfl, DPut.k (k := .inl (i : Int)) hk7 (Nat.lt_of_le_of_lt (k7.len hk7) (by decide)), ?_⟩
              have f8 := f7.trans (Frm.of_upd (d := sd) (H := H') (o := .dK (putK kvs7 (.inl (i : Int)) (.bl true))))
              have k8 := (kset_put (v := .bl true) k7 hk7 (c := (i : Int)) (.inl (by omega))).imp n2
              have hb8 : BxAt K (upd H' sd (.dK (putK kvs7 (.inl (i : Int)) (.bl true)))) (.ref pb) (t.box kd) := BxAt.tf hb5 ((same_tf (s6.trans h.1)).trans (Frm.tfk Frm.of_upd hk7))
              refine ⟨_, rfl, _, rfl, .ref pb, u, t.box kd, b, rfl, hb8, hb.tf (Frm.tfk f8 hk0), ?_⟩
              have em := meetS_at (G := G) (b := b) hso hkd
              have hq8 := Frm.of_upd (d := sd) (H := H') (o := .dK (putK kvs7 (.inl (i : Int)) (.bl true))) _ _ hqs (S7 _ _ hq4)
              have hf8 := Frm.of_upd (d := sd) (H := H') (o := .dK (putK kvs7 (.inl (i : Int)) (.bl true))) _ _ hfs (S7 _ _ hf4)
              rw [em] at n1
              rw [meets_sym]
              cases hm : meets b (t.box kd) with
              | false =>
                rw [hm, if_neg (by decide)] at n1
                exact ⟨_, rfl, iteF ⟨_, _, _, rfl, hq8, f8, by rw [n1]; exact hf8, k8⟩⟩
              | true =>
                rw [hm, if_pos rfl] at n1
                refine ⟨_, rfl, iteT ⟨_, rfl, .inl ⟨rfl, _, SqL.of hf8⟩, _, rfl, fo, _, _, rfl, rfl, hf8, ?_, _, _, _, rfl, ?_, fu f8, ?_, k8.keep (upd_ne (Ne.symm hfs))⟩⟩
                · unfold nV
                  rw [List.length_map]
                  exact Nat.lt_of_le_of_lt (Nat.le_trans lkI_len (show i ≤ 16 by omega)) (by decide)
                · rw [upd_ne hqf]
                  exact hq8
                · rw [upd_same, n1]
                  unfold nV
                  rw [List.map_append]
                  rfl
      · have hb' : i ∈ but := by
          have z : ¬ (!inV (.int (i : Int)) (nV but)) = true := z
          rw [inV_nat] at z
          simpa using z
        obtain ⟨n1, n2⟩ := lk_no (G := G) (sl := sl) (cs := cs) (b := b) p (.inl hb')
        exact ⟨_, _, _, rfl, hq4, f4, by rw [n1]; exact hf4, k4.imp n2⟩
    · obtain ⟨v6, v8, v9, rfl, hq4, f4, hf4, k4⟩ := hPv
      refine ⟨_, rfl, k fo H4 f4 (k4.imp fun c => ?_) ?_ nfoH⟩
      · unfold seenP lkP
        rw [← hcs, or_assoc]
      · rw [hf4, lookL, lkI, hcs]
end
end K27
set_option maxRecDepth 100000
set_option maxHeartbeats 4000000
/-! The law counts a lot. -/
namespace K27
open PySem PySem.Spec PyProof.Rows L2 KF KD KP
theorem GoOk.mono {sl : List (Option Tg)} {going : List Nat} {p q : Int → Prop} (h : GoOk sl going p) (e : ∀ c, p c → q c) : GoOk sl going q := ⟨h.nd, h.th, fun s m => e _ (h.se s m)⟩
def brI (G : Gm) (sl : List (Option Tg)) (L : List Nat) (j : Nat) : List Nat := (L.take j).filter (hsS G sl "bars")
theorem brI_no {G : Gm} {sl : List (Option Tg)} {L : List Nat} {j x : Nat} (h : L[j]? = some x) (hb : hsS G sl "bars" x = false) : brI G sl L (j + 1) = brI G sl L j := by
  rw [brI, List.take_add_one, h, List.filter_append, brI]
  simp [hb]
theorem brI_yes {G : Gm} {sl : List (Option Tg)} {L : List Nat} {j x : Nat} (h : L[j]? = some x) (hb : hsS G sl "bars" x = true) : brI G sl L (j + 1) = brI G sl L j ++ [x] := by
  rw [brI, List.take_add_one, h, List.filter_append, brI]
  simp [hb]
theorem brI_len {G : Gm} {sl : List (Option Tg)} {L : List Nat} {j : Nat} : (brI G sl L j).length ≤ L.length := Nat.le_trans (List.length_filter_le _ _) (by rw [List.length_take]; omega)
section
variable {P : Program} {w : World} {K : PySem.W.Frag} {mg : Str → Option Value} {base : Heap}
def spLlo (K : PySem.W.Frag) : Sp := fun vs H Q _ => ∃ (g : V) (wa sd : Addr) (G : Gm) (sl : List (Option Tg)) (s : Nat) (t : Tg) (dx dy : Int) (p : Int → Prop), vs = [g, .ref wa, .ref sd, .int (s : Int), .int dx, .int dy] ∧ (dx, dy) ∈ dirs ∧ GmAt K H g G ∧ G.ok ∧ SlAll G sl ∧ s < 16 ∧ sl[s]? = some (some t) ∧ WlAt K H wa sl ∧ KSet H sd p ∧
  ∀ q H', Frm sd H H' → KSet H' sd (fun c => p c ∨ lotS G sl dx dy 16 [s] 0 c) → H' q = some (.lst (nV (lotR G sl dx dy s))) → H q = none → Q (.ref q) H'
theorem scLlo : FnScope ["game", "w", "seen", "slot", "dx", "dy", "going", "turn", "box", "there", "other", "lifted"] ["game", "w", "seen", "slot", "dx", "dy"] (defScope s_law_lot) := ⟨rfl, rfl, rfl, by decide +kernel, rfl, by decide +kernel, by decide +kernel⟩
theorem ok_law_lot (T : Txt K w mg) : FnOk P w K mg base CX0 6 (He.fAd K ("_law_lot", none)) (fdAt K (He.fAd K ("_law_lot", none))) ["game", "w", "seen", "slot", "dx", "dy"] (spLlo K) := by
  refine T.F_law_lot.ok scLlo (fun vs H Q E h => ?_) (fun cdv A outer s H vs Q E hr h => ?_)
  · obtain ⟨g, wa, sd, G, sl, s, t, dx, dy, p, rfl, _⟩ := h
    rfl
  · obtain ⟨g, wa, sd, G, sl, s, t, dx, dy, p, rfl, hd, hg, o, sa, s16, hst, hw, ks, k⟩ := h
    refine ⟨_, PSs.nox (pss_cons (ps_set (i := 6) scLlo.nd rfl (Or.inl rfl) (pe_lst (pa_cons (pv 3) pa_nil)))
      (pss_cons (ps_for PassesOwn.never rfl (pi_range1 (by rfl) T.n_range (pa_cons pe_int pa_nil)) (pg_name (i := 7) scLlo.nd rfl (Or.inl rfl)) (pss_one (ps_if (pt_cmpR op_lt (pv 7) (pe_callB (r := Evl.rLenS K) call_len_seq (by rfl) T.n_len PyProof.Rows.Boot.«len» (pa_cons (pv 6) pa_nil)) (nomark _)) (pss_cons (ps_set (i := 8) scLlo.nd rfl (Or.inl rfl) (pe_call (ok_law_box T) (hr.mono (by first | decide | omega)) (by rfl) T.g_law_box (T.F_law_box).kp T.b_law_box .nil pass0 (pa_cons (pv 0) (pa_cons (pe_ix (r := rIxL K) ix_list (pv 1) (pe_ix (r := rIxL K) ix_list (pv 6) (pv 7) (fun _ _ => rfl)) (fun _ _ => rfl)) pa_nil))))
      (pss_cons (ps_if (pt_val (pe_call (ok_law_stops T) (hr.mono (by first | decide | omega)) (by rfl) T.g_law_stops (T.F_law_stops).kp T.b_law_stops .nil pass0 (pa_cons (pv 0) (pa_cons (pv 8) (pa_cons (pv 4) (pa_cons (pv 5) pa_nil)))))) (pss_one (ps_ret (pe_lst pa_nil))) pss_nil)
      (pss_one (ps_if (pt_val (pe_call (ok_law_has T) (hr.mono (by first | decide | omega)) (by rfl) T.g_law_has (T.F_law_has).kp T.b_law_has .nil pass0 (pa_cons (pv 0) (pa_cons (pe_ix (r := rIxL K) ix_list (pv 1) (pe_ix (r := rIxL K) ix_list (pv 6) (pv 7) (fun _ _ => rfl)) (fun _ _ => rfl)) (pa_cons pe_str pa_nil))))) (pss_cons (ps_set (i := 9) scLlo.nd rfl (Or.inl rfl) (pe_tup (pa_cons (pe_op op_add (pe_ix (r := rIxT K) ix_tup (pv 8) pe_int (fun _ _ => rfl)) (pv 4)) (pa_cons (pe_op op_add (pe_ix (r := rIxT K) ix_tup (pv 8) pe_int (fun _ _ => rfl)) (pv 5)) (pa_cons (pe_ix (r := rIxT K) ix_tup (pv 8) pe_int (fun _ _ => rfl)) (pa_cons (pe_ix (r := rIxT K) ix_tup (pv 8) pe_int (fun _ _ => rfl)) pa_nil))))))
      (pss_one (ps_for PassesOwn.never rfl (pi_list (pe_call (ok_law_look T) (hr.mono (by first | decide | omega)) (by rfl) T.g_law_look (T.F_law_look).kp T.b_law_look .nil pass0 (pa_cons (pv 0) (pa_cons (pv 1) (pa_cons (pv 2) (pa_cons (pv 9) (pa_cons (pe_callTy call_list_of (by rfl) T.n_list PyProof.Rows.Boot.«list» (pa_cons (pv 6) pa_nil)) pa_nil))))))) (pg_name (i := 10) scLlo.nd rfl (Or.inl rfl)) (pss_one (ps_if (pt_val (pe_call (ok_law_has T) (hr.mono (by first | decide | omega)) (by rfl) T.g_law_has (T.F_law_has).kp T.b_law_has .nil pass0 (pa_cons (pv 0) (pa_cons (pe_ix (r := rIxL K) ix_list (pv 1) (pv 10) (fun _ _ => rfl)) (pa_cons pe_str pa_nil))))) (pss_cons (ps_set (i := 11) scLlo.nd rfl (Or.inl rfl) (pe_and (pe_cmpR op_eq (pv 5) (pe_un un_neg pe_int) (nomark _)) (pe_one (pe_call (ok_law_has T) (hr.mono (by first | decide | omega)) (by rfl) T.g_law_has (T.F_law_has).kp T.b_law_has .nil pass0 (pa_cons (pv 0) (pa_cons (pe_ix (r := rIxL K) ix_list (pv 1) (pv 10) (fun _ _ => rfl)) (pa_cons pe_str pa_nil)))))))
      (pss_cons (ps_if (PW.pt (pw_and (pt_not (pt_val (pv 11))) (pw_and1 (pt_not (pt_val (pe_call (ok_law_has T) (hr.mono (by first | decide | omega)) (by rfl) T.g_law_has (T.F_law_has).kp T.b_law_has .nil pass0 (pa_cons (pv 0) (pa_cons (pe_ix (r := rIxL K) ix_list (pv 1) (pv 10) (fun _ _ => rfl)) (pa_cons pe_str pa_nil))))))))) (pss_one (ps_ret (pe_lst pa_nil))) pss_nil)
      (pss_one (ps_expr (pe_bm PySem.F.plainAttrs_list PySem.F.slot_list_append PySem.F.type_list_append mt_append (pv 6) (pa_cons (pv 10) pa_nil)))))) pss_nil))))) pss_nil)))) pss_nil)))
      (pss_one (ps_ret (pe_callB cr_sorted (by rfl) T.n_sorted PyProof.Rows.Boot.«sorted» (pa_cons (pv 6) pa_nil)))))), ?_⟩
    obtain ⟨kvs0, hk0⟩ := id ks.dict
    refine ⟨_, rfl, (show 1 ≤ sizeLine by decide), fun go ngo => ?_⟩
    have s1 := new_same (o := .lst [.int (s : Int)]) ngo
    have fu : ∀ {H' : Hp} {ob : HO}, Frm sd H H' → Frm sd H (upd H' go ob) := fun f b ob n z => by
      rw [upd_ne (ne_of_none z ngo)]
      exact f b ob n z
    have hgs : go ≠ sd := fun e => by rw [e, hk0] at ngo; cases ngo
    have hdd : -1 ≤ dx ∧ dx ≤ 1 ∧ -1 ≤ dy ∧ dy ≤ 1 := by
      simp only [dirs, List.mem_cons, List.not_mem_nil, or_false, Prod.mk.injEq] at hd
      omega
    refine ⟨16, rfl, by decide, by decide, ?_⟩
    refine L2.for_it (walk_r0 (n := 16)) (fun i σ H' => ∃ (going : List Nat) (v7 v8 v9 v10 v11 : Option V) (pc : Int → Prop), σ = [some g, some (.ref wa), some (.ref sd), some (.int (s : Int)), some (.int dx), some (.int dy), some (.ref go), v7, v8, v9, v10, v11] ∧ H' go = some (.lst (nV going)) ∧ Frm sd H H' ∧ KSet H' sd pc ∧ GoOk sl going (fun _ => True) ∧ lotG G sl dx dy (16 - i) going i = lotG G sl dx dy 16 [s] 0 ∧ ∀ c, (pc c ∨ lotS G sl dx dy (16 - i) going i c) ↔ (p c ∨ lotS G sl dx dy 16 [s] 0 c)) ⟨[s], _, _, _, _, _, _, rfl, upd_same, Frm.of_same s1, ks.same s1, ⟨by simp, fun x hx => ?_, fun _ _ => trivial⟩, rfl, fun c => Iff.rfl⟩ (fun _ _ _ _ _ => trivial) (fun i x σ H4 Hx hi hPv hy => ?_) (fun σ H4 hPv => ?_)
    · obtain rfl : x = s := by simpa using hx
      exact ⟨s16, t, hst⟩
    · obtain ⟨going, v7, v8, v9, v10, v11, pc, rfl, hgo, F, kc, gk, eG, eS⟩ := hPv
      obtain ⟨rfl, rfl⟩ := hy
      have gl := gk.len
      refine ⟨_, rfl, _, rfl, go, _, rfl, .inl (SqL.of hgo), _, _, rfl, rfl, _, rfl, ite2 (fun z => ?_) (fun z => ?_)⟩
      · have z := of_decide_eq_true z
        unfold nV at z
        rw [List.length_map] at z
        have z : i < going.length := by omega
        obtain ⟨n, hn⟩ : ∃ n, 16 - i = n + 1 := ⟨16 - i - 1, by omega⟩
        have hn2 : 16 - (i + 1) = n := by omega
        rw [hn] at eG eS
        have hsi := List.getElem?_eq_getElem z
        obtain ⟨u, hu⟩ : ∃ u, u = going[i] := ⟨_, rfl⟩
        rw [← hu] at hsi
        have hm := List.mem_of_getElem? hsi
        obtain ⟨u16, tu, htu⟩ := gk.th u hm
        have hat : (nV going)[i]? = some (.int (u : Int)) := by
          unfold nV
          rw [List.getElem?_map, hsi]
          rfl
        have tf4 : TF H Hx := Frm.tfk F hk0
        obtain ⟨kd, hkd, _⟩ := (sa.ok tu (List.mem_of_getElem? htu)).kd
        obtain ⟨lim, limd, yh⟩ := (sa.ok tu (List.mem_of_getElem? htu)).lim o
        have ebx : G.bx tu = tu.box kd := by unfold Gm.bx; rw [hkd]
        rw [ebx] at lim limd yh
        have eb := bxS_at (G := G) (sl := sl) htu hkd
        have eh := hsS_at (G := G) (sl := sl) (n := "bars") htu hkd
        have hw4 := hw.frm ks F
        obtain ⟨wv, hwv, wl, hws⟩ := id hw4
        obtain ⟨v, hv1, hv2⟩ := hws u _ htu
        have hv2 : TgAt K Hx v tu := hv2
        refine ⟨_, rfl, _, rfl, _, rfl, _, rfl, go, _, _, _, rfl, rfl, SqL.of hgo, atI_nat hat, wa, _, _, _, rfl, rfl, SqL.of hwv, atI_nat hv1, g, v, G, tu, kd, rfl, hg.tf tf4, hv2, hkd, fun pb H5 s5 hpb => ?_⟩
        have hb5 : BxAt K H5 (.ref pb) (tu.box kd) := ⟨pb, rfl, SqT.of hpb⟩
        refine ⟨_, rfl, _, rfl, _, rfl, _, rfl, g, .ref pb, G, tu.box kd, dx, dy, rfl, hg.tf (tf4.trans (same_tf s5)), o, hb5, lim, limd dx dy hdd.1 hdd.2.1 hdd.2.2.1 hdd.2.2.2, yh, fun H6 s6 => ?_⟩
        have S6 := s5.trans s6
        have F6 := F.trans (Frm.of_same S6)
        have tf6 := tf4.trans (same_tf S6)
        have hgo6 := S6 _ _ hgo
        have kc6 := kc.same S6
        have retE : ∀ {H' : Hp} {q : Addr} {pd : Int → Prop}, joinF G sl dx dy going u = none → Frm sd H H' → KSet H' sd pd → (∀ c, pd c ↔ pc c ∨ joinS G sl dx dy going u c) → H' q = none → Q (.ref q) (upd H' q (.lst [])) := fun {H' q pd} ej f kp ep nq => by
          have sq := new_same (o := .lst []) nq
          refine k q _ (f.trans (Frm.of_same sq)) ((kp.same sq).imp fun c => ?_) ?_ ?_
          · rw [← eS, lotS_none hsi ej, ep]
          · rw [upd_same, lotR, ← eG, lotG_none hsi ej]
            rfl
          · cases e : H q with
            | none => rfl
            | some z =>
              by_cases c : q = sd
              · obtain ⟨_, z⟩ := kp.dict
                rw [c, z] at nq
                cases nq
              · exact absurd ((f _ _ c e).symm.trans nq) (by simp)
        cases hstp : G.stp (tu.box kd) dx dy with
        | true =>
          refine ⟨_, rfl, iteT ⟨(show 0 ≤ sizeLine by decide), fun q nq => retE (H' := H6) (pd := pc) ?_ F6 kc6 (fun c => ?_) nq⟩⟩
          · rw [joinF, eb, hstp]
            rfl
          · rw [joinS, eb, hstp]
            simp
        | false =>
          refine ⟨_, rfl, iteF ?_⟩
          obtain ⟨wv6, hwv6, wl6, hws6⟩ := hw.frm ks F6
          obtain ⟨v6, hv61, hv62⟩ := hws6 u _ htu
          have hv62 : TgAt K H6 v6 tu := hv62
          refine ⟨_, rfl, _, rfl, _, rfl, _, rfl, go, _, _, _, rfl, rfl, SqL.of hgo6, atI_nat hat, wa, _, _, _, rfl, rfl, SqL.of hwv6, atI_nat hv61, g, v6, G, tu, kd, "bars", rfl, hg.tf tf6, hv62, hkd, ?_⟩
          cases hbr : kd.has "bars" with
          | false =>
            have ej : joinF G sl dx dy going u = some [] := by
              rw [joinF, eb, hstp, eh, hbr]
              rfl
            refine ⟨_, rfl, iteF ⟨going, _, _, _, _, _, pc, rfl, hgo6, F6, kc6, gk, ?_, fun c => ?_⟩⟩
            · rw [hn2, ← eG, lotG_some hsi ej, List.append_nil]
            · rw [hn2, ← eS, lotS_some hsi ej, List.append_nil]
              unfold joinS
              rw [eh, hbr]
              simp
          | true =>
            refine ⟨_, rfl, iteT ?_⟩
            have S6b : SqT K H6 pb (tu.box kd).vs := SqT.of (s6 _ _ hpb)
            refine ⟨_, rfl, pb, _, _, _, rfl, rfl, S6b, atI_nat (j := 0) rfl, _, rfl, _, _, rfl, rfl, _, rfl, pb, _, _, _, rfl, rfl, S6b, atI_nat (j := 1) rfl, _, rfl, _, _, rfl, rfl, _, rfl, pb, _, _, _, rfl, rfl, S6b, atI_nat (j := 2) rfl, _, rfl, pb, _, _, _, rfl, rfl, S6b, atI_nat (j := 3) rfl, (show 4 ≤ sizeLine by decide), fun pt npt => ?_⟩
            obtain ⟨B, hB⟩ : ∃ B, B = (tu.box kd).mv dx dy := ⟨_, rfl⟩
            have limB : B.lim := by rw [hB]; exact limd dx dy hdd.1 hdd.2.1 hdd.2.2.1 hdd.2.2.2
            have s7 := new_same (o := .tup B.vs) npt
            have hb7 : BxAt K (upd H6 pt (.tup B.vs)) (.ref pt) B := ⟨pt, rfl, SqT.of upd_same⟩
            have hgo7 := s7 _ _ hgo6
            have e7 : (HO.tup [.int ((tu.box kd).x + dx), .int ((tu.box kd).y + dy), .int (tu.box kd).w, .int (tu.box kd).h]) = .tup B.vs := by rw [hB]; rfl
            show gName 9 _ _ (upd H6 pt (HO.tup [.int ((tu.box kd).x + dx), .int ((tu.box kd).y + dy), .int (tu.box kd).w, .int (tu.box kd).h])) _
            rw [e7]
            refine ⟨_, rfl, _, rfl, _, rfl, _, rfl, _, rfl, go, nV going, rfl, .inl (SqL.of hgo7), fun ql nql => ?_⟩
            have s8 := new_same (o := .lst (nV going)) nql
            have S8 := (S6.trans s7).trans s8
            have F8 := F.trans (Frm.of_same S8)
            have tf8 := tf4.trans (same_tf S8)
            have hqls : ql ≠ sd := fun e => by
              obtain ⟨_, z⟩ := (kc6.same s7).dict
              rw [e, z] at nql
              cases nql
            refine ⟨g, .ref pt, .ref ql, wa, sd, G, sl, B, going, pc, rfl, hg.tf tf8, o, sa, hw.frm ks F8, kc.same S8, hb7.tf (same_tf s8), limB, ⟨ql, rfl, fun H' f => .inl (SqL.of (f _ _ hqls upd_same))⟩, fun q H9 f9 k9 hq nq => ⟨q, rfl, ⟨_, SqL.of hq⟩, ?_⟩⟩
            obtain ⟨L, hL⟩ : ∃ L, L = lookL G sl B going := ⟨_, rfl⟩
            rw [← hL] at hq
            have hLl : L.length ≤ 16 := by rw [hL]; exact look_len G sl B going
            have F9 := F8.trans f9
            have hgo9 := f9 _ _ hgs (s8 _ _ hgo7)
            have hqg : q ≠ go := fun e => by rw [e, s8 _ _ hgo7] at nq; cases nq
            have ep : ∀ c, seenP G sl B going pc c ↔ pc c ∨ joinS G sl dx dy going u c := fun c => by
              unfold joinS seenP
              rw [eb, hstp, eh, hbr, ← hB]
              simp [seenS]
            have ej : joinF G sl dx dy going u = if (barL G sl B going).all (alongS G sl dy) = true then some (barL G sl B going) else none := by
              rw [joinF, eb, hstp, eh, hbr, ← hB]
              rfl
            have eB : barL G sl B going = brI G sl L L.length := by rw [brI, List.take_length, hL, barL]
            rw [eB] at ej
            refine L2.for_it (walk_list (K := K) (a := q) (xs := nV L)) (fun j σ H' => ∃ v10 v11 : Option V, σ = [some g, some (.ref wa), some (.ref sd), some (.int (s : Int)), some (.int dx), some (.int dy), some (.ref go), some (.int (i : Int)), some (.ref pb), some (.ref pt), v10, v11] ∧ H' go = some (.lst (nV (going ++ brI G sl L j))) ∧ Frm sd H H' ∧ KSet H' sd (seenP G sl B going pc) ∧ (brI G sl L j).all (alongS G sl dy) = true ∧ H' q = some (.lst (nV L))) ⟨_, _, rfl, by rw [brI, List.take_zero, List.filter_nil, List.append_nil]; exact hgo9, F9, k9, by rw [brI, List.take_zero]; rfl, hq⟩ (fun j σ H' _ h => by obtain ⟨_, _, _, _, _, _, _, h⟩ := h; exact SqL.of h) (fun j x σ H10 Hy hj hPv hy => ?_) (fun σ H10 hPv => ?_)
            · obtain ⟨v10, v11, rfl, hgA, FA, kA, al, hqA⟩ := hPv
              obtain ⟨rfl, hx⟩ := hy
              unfold nV at hj hx
              rw [List.length_map] at hj
              have hsj := List.getElem?_eq_getElem hj
              obtain ⟨r, hr'⟩ : ∃ r, r = L[j] := ⟨_, rfl⟩
              rw [← hr'] at hsj
              rw [List.getElem?_map, hsj] at hx
              cases hx
              have hrL : r ∈ lookL G sl B going := by rw [← hL]; exact List.mem_of_getElem? hsj
              obtain ⟨r16, _, rn⟩ := look_mem hrL
              obtain ⟨tr, htr⟩ := near_thing rn
              obtain ⟨kr, hkr, _⟩ := (sa.ok tr (List.mem_of_getElem? htr)).kd
              have tfA : TF H Hy := Frm.tfk FA hk0
              obtain ⟨wvA, hwvA, wlA, hwsA⟩ := hw.frm ks FA
              obtain ⟨vr, hvr1, hvr2⟩ := hwsA r _ htr
              have hvr2 : TgAt K Hy vr tr := hvr2
              have e1 := hsS_at (G := G) (sl := sl) (n := "bars") htr hkr
              have e2 := hsS_at (G := G) (sl := sl) (n := "pushed") htr hkr
              have e3 := hsS_at (G := G) (sl := sl) (n := "falls") htr hkr
              refine ⟨_, rfl, _, rfl, _, rfl, wa, _, _, _, rfl, rfl, SqL.of hwvA, atI_nat hvr1, g, vr, G, tr, kr, "bars", rfl, hg.tf tfA, hvr2, hkr, ?_⟩
              cases hb : kr.has "bars" with
              | false =>
                rw [hb] at e1
                exact ⟨_, rfl, iteF ⟨_, _, rfl, by rw [brI_no hsj e1]; exact hgA, FA, kA, by rw [brI_no hsj e1]; exact al, hqA⟩⟩
              | true =>
                rw [hb] at e1
                refine ⟨_, rfl, iteT ?_⟩
                obtain ⟨lf, hlf⟩ : ∃ lf, lf = (decide (dy < 0) && kr.has "falls") := ⟨_, rfl⟩
                have ea : alongS G sl dy r = (kr.has "pushed" || lf) := by rw [alongS, e2, e3, hlf]
                have hdy : dy = -1 ↔ dy < 0 := by
                  simp only [dirs, List.mem_cons, List.not_mem_nil, or_false, Prod.mk.injEq] at hd
                  omega
                refine seq_cut (fun σ' H' => σ' = [some g, some (.ref wa), some (.ref sd), some (.int (s : Int)), some (.int dx), some (.int dy), some (.ref go), some (.int (i : Int)), some (.ref pb), some (.ref pt), some (.int (r : Int)), some (.bl lf)] ∧ H' = Hy) (fun σ' H' hq => ?_) (fun R hR => ?_)
                rotate_left
                · refine ⟨_, rfl, _, rfl, rfl, _, rfl, ite2 (fun z => ?_) (fun z => ?_)⟩
                  · have z : dy < 0 := hdy.mp (by
                      have z := of_decide_eq_true z
                      injection z)
                    refine ⟨_, rfl, _, rfl, _, rfl, wa, _, _, _, rfl, rfl, SqL.of hwvA, atI_nat hvr1, g, vr, G, tr, kr, "falls", rfl, hg.tf tfA, hvr2, hkr, hR _ _ ⟨?_, rfl⟩⟩
                    rw [hlf, decide_eq_true z]
                    rfl
                  · have z : ¬ dy < 0 := fun h => z (decide_eq_true (by rw [hdy.mpr h]))
                    refine hR _ _ ⟨?_, rfl⟩
                    rw [hlf, decide_eq_false z]
                    rfl
                obtain ⟨rfl, rfl⟩ := hq
                refine seq_cut (fun σ1 H1 => σ1 = [some g, some (.ref wa), some (.ref sd), some (.int (s : Int)), some (.int dx), some (.int dy), some (.ref go), some (.int (i : Int)), some (.ref pb), some (.ref pt), some (.int (r : Int)), some (.bl lf)] ∧ H1 = H' ∧ alongS G sl dy r = true) (fun σ1 H1 hq => ?_) (fun R hR => ?_)
                rotate_left
                · cases hlf' : lf with
                  | true =>
                    rw [hlf', Bool.or_true] at ea
                    exact ⟨_, rfl, _, rfl, iteF (hR _ _ ⟨by rw [hlf'], rfl, ea⟩)⟩
                  | false =>
                    rw [hlf', Bool.or_false] at ea
                    refine ⟨_, rfl, _, rfl, iteT ⟨_, rfl, _, rfl, _, rfl, wa, _, _, _, rfl, rfl, SqL.of hwvA, atI_nat hvr1, g, vr, G, tr, kr, "pushed", rfl, hg.tf tfA, hvr2, hkr, ?_⟩⟩
                    cases hp : kr.has "pushed" with
                    | true =>
                      rw [hp] at ea
                      exact ⟨_, rfl, iteF (hR _ _ ⟨by rw [hlf'], rfl, ea⟩)⟩
                    | false =>
                      rw [hp] at ea
                      refine ⟨_, rfl, iteT ⟨(show 0 ≤ sizeLine by decide), fun q nq => retE (H' := H') (pd := seenP G sl B going pc) ?_ FA kA ep nq⟩⟩
                      rw [ej]
                      have e : (brI G sl L L.length).all (alongS G sl dy) = false := by
                        cases e : (brI G sl L L.length).all (alongS G sl dy) with
                        | false => rfl
                        | true =>
                          have hm : r ∈ brI G sl L L.length := by
                            rw [brI, List.take_length, List.mem_filter]
                            exact ⟨List.mem_of_getElem? hsj, e1⟩
                          exact absurd ((List.all_eq_true.mp e r hm).symm.trans ea) (by decide)
                      rw [e]
                      rfl
                obtain ⟨rfl, rfl, ea'⟩ := hq
                refine ⟨_, rfl, .inl ⟨rfl, _, SqL.of hgA⟩, _, rfl, go, _, _, rfl, rfl, hgA, ?_, _, _, rfl, ?_, fu FA, kA.keep (upd_ne (Ne.symm hgs)), ?_, ?_⟩
                · unfold nV
                  rw [List.length_map, List.length_append]
                  have := brI_len (G := G) (sl := sl) (L := L) (j := j)
                  exact Nat.lt_of_le_of_lt (show going.length + (brI G sl L j).length ≤ 32 by omega) (by decide)
                · rw [upd_same, brI_yes hsj e1]
                  unfold nV
                  rw [← List.append_assoc, List.map_append (l₂ := [r])]
                  rfl
                · rw [brI_yes hsj e1, List.all_append, al]
                  simp [ea']
                · rw [upd_ne hqg]
                  exact hqA
            · obtain ⟨v10, v11, rfl, hgA, FA, kA, al, hqA⟩ := hPv
              unfold nV at hgA al
              rw [List.length_map] at hgA al
              rw [al, if_pos rfl] at ej
              refine ⟨_, _, _, _, _, _, _, rfl, hgA, FA, kA, (gk.step ej).mono fun _ _ => trivial, ?_, fun c => ?_⟩
              · rw [hn2, ← eG, lotG_some hsi ej]
              · rw [hn2, ← eS, lotS_some hsi ej, ep, or_assoc]
      · have z : ¬ _ := fun h => z (decide_eq_true h)
        unfold nV at z
        rw [List.length_map] at z
        have z : going.length ≤ i := by omega
        refine ⟨going, _, _, _, _, _, pc, rfl, hgo, F, kc, gk, ?_, fun c => ?_⟩
        · rw [← eG, lotG_end z, lotG_end (by omega)]
        · have := eS c
          rw [lotS_end z] at this
          rw [lotS_end (by omega)]
          exact this
    · obtain ⟨going, v7, v8, v9, v10, v11, pc, rfl, hgo, F, kc, gk, eG, eS⟩ := hPv
      have gl := gk.len
      refine ⟨_, rfl, go, going.map (fun n : Nat => (n : Int)), rfl, SqL.of (by rw [List.map_map]; exact hgo), by rw [List.length_map]; omega, fun ns q hperm hsort nq => ?_⟩
      have sq := new_same (o := .lst (ns.map V.int)) nq
      refine k q _ (F.trans (Frm.of_same sq)) ((kc.same sq).imp fun c => ?_) ?_ ?_
      · have := eS c
        rw [show 16 - 16 = 0 from rfl] at this
        rw [← this]
        show _ ↔ _ ∨ False
        simp
      · rw [upd_same, lotR, ← eG, lotV_some gk hperm hsort]
        rfl
      · cases e : H q with
        | none => rfl
        | some z =>
          by_cases c : q = sd
          · obtain ⟨_, z⟩ := kc.dict
            rw [c, z] at nq
            cases nq
          · exact absurd ((F _ _ c e).symm.trans nq) (by simp)
end
end K27
set_option maxRecDepth 100000
set_option maxHeartbeats 4000000
/-! The law counts a rest. -/
namespace K27
open PySem PySem.Spec PyProof.Rows L2 KF KD KP
theorem brI_head {G : Gm} {sl : List (Option Tg)} {L : List Nat} {j x : Nat} (h : L[j]? = some x) (hb : hsS G sl "bars" x = true) (h0 : brI G sl L j = []) : ∃ tl, L.filter (hsS G sl "bars") = x :: tl := by
  have e : L = L.take (j + 1) ++ L.drop (j + 1) := (List.take_append_drop _ _).symm
  have e1 := brI_yes h hb
  rw [h0] at e1
  unfold brI at e1
  refine ⟨(L.drop (j + 1)).filter (hsS G sl "bars"), ?_⟩
  conv => lhs; rw [e]
  rw [List.filter_append, e1]
  rfl
section
variable {P : Program} {w : World} {K : PySem.W.Frag} {mg : Str → Option Value} {base : Heap}
def spLre (K : PySem.W.Frag) : Sp := fun vs H Q _ => ∃ (g : V) (wa sd : Addr) (G : Gm) (sl : List (Option Tg)) (s : Nat) (t : Tg) (p : Int → Prop), vs = [g, .ref wa, .ref sd, .int (s : Int)] ∧ GmAt K H g G ∧ G.ok ∧ SlAll G sl ∧ s < 16 ∧ sl[s]? = some (some t) ∧ WlAt K H wa sl ∧ KSet H sd p ∧
  ∀ H', Frm sd H H' → KSet H' sd (fun c => p c ∨ restS G sl s c) → Q (.int (restF G sl s)) H'
theorem scLre : FnScope ["game", "w", "seen", "slot", "box", "other"] ["game", "w", "seen", "slot"] (defScope s_law_rest) := ⟨rfl, rfl, rfl, by decide +kernel, rfl, by decide +kernel, by decide +kernel⟩
theorem ok_law_rest (T : Txt K w mg) : FnOk P w K mg base CX0 6 (He.fAd K ("_law_rest", none)) (fdAt K (He.fAd K ("_law_rest", none))) ["game", "w", "seen", "slot"] (spLre K) := by
  refine T.F_law_rest.ok scLre (fun vs H Q E h => ?_) (fun cdv A outer s H vs Q E hr h => ?_)
  · obtain ⟨g, wa, sd, G, sl, s, t, p, rfl, _⟩ := h
    rfl
  · obtain ⟨g, wa, sd, G, sl, s, t, p, rfl, hg, o, sa, s16, hst, hw, ks, k⟩ := h
    refine ⟨_, PSs.nox (pss_cons (ps_if (pt_not (pt_val (pe_call (ok_law_has T) (hr.mono (by first | decide | omega)) (by rfl) T.g_law_has (T.F_law_has).kp T.b_law_has .nil pass0 (pa_cons (pv 0) (pa_cons (pe_ix (r := rIxL K) ix_list (pv 1) (pv 3) (fun _ _ => rfl)) (pa_cons pe_str pa_nil)))))) (pss_one (ps_ret (pe_un un_neg pe_int))) pss_nil)
      (pss_cons (ps_set (i := 4) scLre.nd rfl (Or.inl rfl) (pe_call (ok_law_box T) (hr.mono (by first | decide | omega)) (by rfl) T.g_law_box (T.F_law_box).kp T.b_law_box .nil pass0 (pa_cons (pv 0) (pa_cons (pe_ix (r := rIxL K) ix_list (pv 1) (pv 3) (fun _ _ => rfl)) pa_nil))))
      (pss_cons (ps_if (pt_val (pe_call (ok_law_stops T) (hr.mono (by first | decide | omega)) (by rfl) T.g_law_stops (T.F_law_stops).kp T.b_law_stops .nil pass0 (pa_cons (pv 0) (pa_cons (pv 4) (pa_cons pe_int (pa_cons pe_int pa_nil)))))) (pss_one (ps_ret (pe_un un_neg pe_int))) pss_nil)
      (pss_cons (ps_if (pt_val (pe_call (ok_law_has T) (hr.mono (by first | decide | omega)) (by rfl) T.g_law_has (T.F_law_has).kp T.b_law_has .nil pass0 (pa_cons (pv 0) (pa_cons (pe_ix (r := rIxL K) ix_list (pv 1) (pv 3) (fun _ _ => rfl)) (pa_cons pe_str pa_nil))))) (pss_one (ps_for PassesOwn.never rfl (pi_list (pe_call (ok_law_look T) (hr.mono (by first | decide | omega)) (by rfl) T.g_law_look (T.F_law_look).kp T.b_law_look .nil pass0 (pa_cons (pv 0) (pa_cons (pv 1) (pa_cons (pv 2) (pa_cons (pe_tup (pa_cons (pe_ix (r := rIxT K) ix_tup (pv 4) pe_int (fun _ _ => rfl)) (pa_cons (pe_op op_add (pe_ix (r := rIxT K) ix_tup (pv 4) pe_int (fun _ _ => rfl)) pe_int) (pa_cons (pe_ix (r := rIxT K) ix_tup (pv 4) pe_int (fun _ _ => rfl)) (pa_cons (pe_ix (r := rIxT K) ix_tup (pv 4) pe_int (fun _ _ => rfl)) pa_nil))))) (pa_cons (pe_lst (pa_cons (pv 3) pa_nil)) pa_nil))))))) (pg_name (i := 5) scLre.nd rfl (Or.inl rfl)) (pss_one (ps_if (pt_val (pe_call (ok_law_has T) (hr.mono (by first | decide | omega)) (by rfl) T.g_law_has (T.F_law_has).kp T.b_law_has .nil pass0 (pa_cons (pv 0) (pa_cons (pe_ix (r := rIxL K) ix_list (pv 1) (pv 5) (fun _ _ => rfl)) (pa_cons pe_str pa_nil))))) (pss_one (ps_ret (pv 5))) pss_nil)))) pss_nil)
      (pss_one (ps_ret (pe_un un_neg pe_int))))))), ?_⟩
    obtain ⟨kvs0, hk0⟩ := id ks.dict
    obtain ⟨kd, hkd, _⟩ := (sa.ok t (List.mem_of_getElem? hst)).kd
    obtain ⟨lim, limd, yh⟩ := (sa.ok t (List.mem_of_getElem? hst)).lim o
    have ebx : G.bx t = t.box kd := by unfold Gm.bx; rw [hkd]
    rw [ebx] at lim limd yh
    have eb := bxS_at (G := G) (sl := sl) hst hkd
    have ef := hsS_at (G := G) (sl := sl) (n := "falls") hst hkd
    have eh := hsS_at (G := G) (sl := sl) (n := "bars") hst hkd
    obtain ⟨wv, hwv, wl, hws⟩ := id hw
    obtain ⟨v, hv1, hv2⟩ := hws s _ hst
    have hv2 : TgAt K H v t := hv2
    have P0 : ∀ {H' : Hp}, Same H H' → (∀ c, restS G sl s c ↔ False) → KSet H' sd (fun c => p c ∨ restS G sl s c) := fun s e => (ks.same s).imp fun c => by
      rw [e]
      simp
    refine ⟨_, rfl, _, rfl, _, rfl, wa, _, _, _, rfl, rfl, SqL.of hwv, atI_nat hv1, g, v, G, t, kd, "falls", rfl, hg, hv2, hkd, ?_⟩
    cases hf : kd.has "falls" with
    | false =>
      have e : restF G sl s = -2 := by
        rw [restF, ef, hf]
        rfl
      rw [e] at k
      exact ⟨_, rfl, iteT ⟨_, rfl, k H (Frm.refl _ _) (P0 (Same.refl _) fun c => by rw [restS, ef, hf]; simp)⟩⟩
    | true =>
      refine ⟨_, rfl, iteF ?_⟩
      refine ⟨_, rfl, _, rfl, _, rfl, wa, _, _, _, rfl, rfl, SqL.of hwv, atI_nat hv1, g, v, G, t, kd, rfl, hg, hv2, hkd, fun pb H3 s3 hpb => ?_⟩
      have hb3 : BxAt K H3 (.ref pb) (t.box kd) := ⟨pb, rfl, SqT.of hpb⟩
      refine ⟨_, rfl, _, rfl, g, .ref pb, G, t.box kd, 0, 1, rfl, hg.tf (same_tf s3), o, hb3, lim, limd 0 1 (by decide) (by decide) (by decide) (by decide), yh, fun H4 s4 => ?_⟩
      have S4 := s3.trans s4
      cases hst' : G.stp (t.box kd) 0 1 with
      | true =>
        have e : restF G sl s = -1 := by
          rw [restF, ef, hf, eb, hst']
          rfl
        rw [e] at k
        exact ⟨_, rfl, iteT ⟨_, rfl, k H4 (Frm.of_same S4) (P0 S4 fun c => by rw [restS, joinS, eb, hst']; simp)⟩⟩
      | false =>
        refine ⟨_, rfl, iteF ?_⟩
        have S4b : SqT K H4 pb (t.box kd).vs := SqT.of (s4 _ _ hpb)
        have hw4 := hw.frm ks (Frm.of_same S4)
        obtain ⟨wv4, hwv4, _, hws4⟩ := id hw4
        obtain ⟨v4, hv41, hv42⟩ := hws4 s _ hst
        have hv42 : TgAt K H4 v4 t := hv42
        refine ⟨_, rfl, _, rfl, _, rfl, wa, _, _, _, rfl, rfl, SqL.of hwv4, atI_nat hv41, g, v4, G, t, kd, "bars", rfl, hg.tf (same_tf S4), hv42, hkd, ?_⟩
        cases hbr : kd.has "bars" with
        | false =>
          have e : restF G sl s = -2 := by
            rw [restF, ef, hf, eb, hst', eh, hbr]
            rfl
          rw [e] at k
          exact ⟨_, rfl, iteF ⟨_, rfl, k H4 (Frm.of_same S4) (P0 S4 fun c => by rw [restS, joinS, eh, hbr]; simp)⟩⟩
        | true =>
          have e : restF G sl s = (match barL G sl ((t.box kd).mv 0 1) [s] with
            | h :: _ => (h : Int)
            | [] => -2) := by
            rw [restF, ef, hf, eb, hst', eh, hbr]
            rfl
          have eS : ∀ c, seenP G sl ((t.box kd).mv 0 1) [s] p c ↔ (p c ∨ restS G sl s c) := fun c => by
            unfold restS joinS seenP seenS
            rw [ef, hf, eb, hst', eh, hbr]
            simp
          refine ⟨_, rfl, iteT ?_⟩
          refine ⟨_, rfl, _, rfl, _, rfl, _, rfl, pb, _, _, _, rfl, rfl, S4b, atI_nat (j := 0) rfl, _, rfl, pb, _, _, _, rfl, rfl, S4b, atI_nat (j := 1) rfl, _, _, rfl, rfl, _, rfl, pb, _, _, _, rfl, rfl, S4b, atI_nat (j := 2) rfl, _, rfl, pb, _, _, _, rfl, rfl, S4b, atI_nat (j := 3) rfl, (show 4 ≤ sizeLine by decide), fun pt npt => ?_⟩
          refine ⟨_, rfl, (show 1 ≤ sizeLine by decide), fun ql nql => ?_⟩
          have hmv : (t.box kd).mv 0 1 = ⟨(t.box kd).x, (t.box kd).y + 1, (t.box kd).w, (t.box kd).h⟩ := by
            unfold Bx.mv
            rw [Int.add_zero]
          have limB := limd 0 1 (by decide) (by decide) (by decide) (by decide)
          rw [hmv] at e eS limB
          have S6 := (S4.trans (new_same npt)).trans (new_same (o := .lst (nV [s])) nql)
          have F6 := Frm.of_same (d := sd) S6
          have hqls : ql ≠ sd := fun e => by
            rw [e] at nql
            rw [(new_same npt) _ _ (S4 _ _ hk0)] at nql
            cases nql
          refine ⟨g, .ref pt, .ref ql, wa, sd, G, sl, ⟨(t.box kd).x, (t.box kd).y + 1, (t.box kd).w, (t.box kd).h⟩, [s], p, rfl, hg.tf (same_tf S6), o, sa, hw.frm ks F6, ks.same S6, ⟨pt, rfl, SqT.of (new_same nql _ _ upd_same)⟩, limB, ⟨ql, rfl, fun H' f => .inl (SqL.of (f _ _ hqls upd_same))⟩, fun q H7 f7 k7 hq nq => ⟨q, rfl, ⟨_, SqL.of hq⟩, ?_⟩⟩
          obtain ⟨B, hB⟩ : ∃ B : Bx, B = ⟨(t.box kd).x, (t.box kd).y + 1, (t.box kd).w, (t.box kd).h⟩ := ⟨_, rfl⟩
          rw [← hB] at e eS hq k7
          have F7 := F6.trans f7
          obtain ⟨L, hL⟩ : ∃ L, L = lookL G sl B [s] := ⟨_, rfl⟩
          rw [← hL] at hq
          have eB : barL G sl B [s] = L.filter (hsS G sl "bars") := by rw [barL, hL]
          rw [eB] at e
          have k7 := k7.imp eS
          have tf7 : TF H H7 := Frm.tfk F7 hk0
          have hw7 := hw.frm ks F7
          refine L2.for_it (walk_list (K := K) (a := q) (xs := nV L)) (fun j σ H' => ∃ v5 : Option V, σ = [some g, some (.ref wa), some (.ref sd), some (.int (s : Int)), some (.ref pb), v5] ∧ H' = H7 ∧ brI G sl L j = []) ⟨_, rfl, rfl, by rw [brI, List.take_zero]; rfl⟩ (fun j σ H' _ h => by obtain ⟨_, _, rfl, _⟩ := h; exact SqL.of hq) (fun j x σ H10 Hy hj hPv hy => ?_) (fun σ H10 hPv => ?_)
          · obtain ⟨v5, rfl, rfl, h0⟩ := hPv
            obtain ⟨rfl, hx⟩ := hy
            unfold nV at hj hx
            rw [List.length_map] at hj
            have hsj := List.getElem?_eq_getElem hj
            obtain ⟨r, hr'⟩ : ∃ r, r = L[j] := ⟨_, rfl⟩
            rw [← hr'] at hsj
            rw [List.getElem?_map, hsj] at hx
            cases hx
            have hrL : r ∈ lookL G sl B [s] := by rw [← hL]; exact List.mem_of_getElem? hsj
            obtain ⟨r16, _, rn⟩ := look_mem hrL
            obtain ⟨tr, htr⟩ := near_thing rn
            obtain ⟨kr, hkr, _⟩ := (sa.ok tr (List.mem_of_getElem? htr)).kd
            obtain ⟨wvA, hwvA, wlA, hwsA⟩ := id hw7
            obtain ⟨vr, hvr1, hvr2⟩ := hwsA r _ htr
            have hvr2 : TgAt K Hy vr tr := hvr2
            have e1 := hsS_at (G := G) (sl := sl) (n := "bars") htr hkr
            refine ⟨_, rfl, _, rfl, _, rfl, wa, _, _, _, rfl, rfl, SqL.of hwvA, atI_nat hvr1, g, vr, G, tr, kr, "bars", rfl, hg.tf tf7, hvr2, hkr, ?_⟩
            cases hb : kr.has "bars" with
            | false =>
              rw [hb] at e1
              exact ⟨_, rfl, iteF ⟨_, rfl, rfl, by rw [brI_no hsj e1]; exact h0⟩⟩
            | true =>
              rw [hb] at e1
              obtain ⟨tl, htl⟩ := brI_head hsj e1 h0
              rw [htl] at e
              have k := k Hy F7 k7
              rw [e] at k
              exact ⟨_, rfl, iteT ⟨_, rfl, k⟩⟩
          · obtain ⟨v5, rfl, rfl, h0⟩ := hPv
            unfold nV at h0
            rw [List.length_map, brI, List.take_length] at h0
            rw [h0] at e
            have k := k H10 F7 k7
            rw [e] at k
            exact ⟨_, rfl, k⟩
end
end K27
set_option maxRecDepth 100000
set_option maxHeartbeats 4000000
/-! Buckets that are filled. -/
namespace K27
open PySem PySem.Spec PyProof.Rows L2 KF KD KP
theorem rngI_lt (lo hi : Int) : (rngI lo hi).Pairwise (· < ·) := by
  rw [rngI, List.pairwise_map]
  exact (List.pairwise_lt_range (n := (hi - lo).toNat)).imp fun h => by omega
theorem blk_nd {G : Gm} {b : Bx} (o : G.ok) (l : b.lim) : (G.blk b).Nodup := by
  unfold Gm.blk
  split
  · rename_i m
    have bl := blim o l m
    have h1 := bl.c
    rw [List.Nodup, List.pairwise_flatMap]
    refine ⟨fun r _ => ?_, (rngI_lt _ _).imp fun {r1 r2} h x hx y hy => ?_⟩
    · rw [Gm.bkr, List.pairwise_map]
      exact (rngI_lt _ _).imp fun h z => by omega
    · rw [Gm.bkr, List.mem_map] at hx hy
      obtain ⟨c1, k1, rfl⟩ := hx
      obtain ⟨c2, k2, rfl⟩ := hy
      have k1 := rngI_mem.mp k1
      have k2 := rngI_mem.mp k2
      have e2 : G.bw * r1 + G.bw ≤ G.bw * r2 := by
        have : G.bw * (r1 + 1) ≤ G.bw * r2 := Int.mul_le_mul_of_nonneg_left (by omega) (by omega)
        rw [Int.mul_add, Int.mul_one] at this
        exact this
      omega
  · exact List.nodup_nil
structure BkAt (H0 H : Hp) (b : Addr) (as : List Addr) (f : Nat → List Nat) : Prop where
  li : H b = some (.lst (as.map V.ref))
  nd : as.Nodup
  nb : ∀ a ∈ as, a ≠ b ∧ H0 a = none
  b0 : H0 b = none
  sm : Same H0 H
  at' : ∀ (k : Nat) (a : Addr), as[k]? = some a → H a = some (.lst (nV (f k)))
theorem BkAt.same {H0 H H' : Hp} {b : Addr} {as : List Addr} {f : Nat → List Nat} (h : BkAt H0 H b as f) (s : Same H H') : BkAt H0 H' b as f :=
  ⟨s _ _ h.li, h.nd, h.nb, h.b0, h.sm.trans s, fun k a z => s _ _ (h.at' k a z)⟩
theorem BkAt.imp {H0 H : Hp} {b : Addr} {as : List Addr} {f g : Nat → List Nat} (h : BkAt H0 H b as f) (e : ∀ k, k < as.length → f k = g k) : BkAt H0 H b as g :=
  ⟨h.li, h.nd, h.nb, h.b0, h.sm, fun k a z => by rw [← e k (List.getElem?_eq_some_iff.mp z).1]; exact h.at' k a z⟩
theorem bk_nil {H0 : Hp} {b : Addr} {f : Nat → List Nat} (h : H0 b = none) : BkAt H0 (upd H0 b (.lst [])) b [] f := ⟨upd_same, List.nodup_nil, fun _ h => (List.not_mem_nil h).elim, h, new_same h, fun _ _ h => by cases h⟩
theorem bk_new {H0 H : Hp} {b q : Addr} {as : List Addr} (h : BkAt H0 H b as fun _ => []) (nq : H q = none) : BkAt H0 (upd (upd H q (.lst [])) b (.lst (as.map V.ref ++ [.ref q]))) b (as ++ [q]) fun _ => [] := by
  have q0 : H0 q = none := by
    cases e : H0 q with
    | none => rfl
    | some z => exact absurd ((h.sm _ _ e).symm.trans nq) (by simp)
  have qb : q ≠ b := fun e => by rw [e, h.li] at nq; cases nq
  have qa : ∀ a ∈ as, a ≠ q := fun a ha e => by
    obtain ⟨k, hk⟩ := List.mem_iff_getElem?.mp ha
    rw [e] at hk
    rw [h.at' k q hk] at nq
    cases nq
  refine ⟨by rw [upd_same, List.map_append]; rfl, ?_, fun a ha => ?_, h.b0, fun c o z => ?_, fun k a z => ?_⟩
  · rw [List.nodup_append]
    exact ⟨h.nd, by simp, fun x hx y hy e => qa x hx (by rw [e]; simpa using hy)⟩
  · rcases List.mem_append.mp ha with ha | ha
    · exact h.nb a ha
    · obtain rfl : a = q := by simpa using ha
      exact ⟨qb, q0⟩
  · rw [upd_ne (ne_of_none z h.b0), upd_ne (ne_of_none z q0)]
    exact h.sm _ _ z
  · by_cases hk : k < as.length
    · rw [List.getElem?_append_left hk] at z
      have hm := List.mem_of_getElem? z
      rw [upd_ne (h.nb a hm).1, upd_ne (qa a hm)]
      exact h.at' k a z
    · rw [List.getElem?_append_right (by omega)] at z
      have hz : a = q := by
        cases hd : k - as.length with
        | zero =>
          rw [hd] at z
          exact (by simpa using z.symm)
        | succ n =>
          rw [hd] at z
          cases z
      subst hz
      rw [upd_ne qb, upd_same]
      rfl
theorem bk_put {H0 H : Hp} {b a : Addr} {as : List Addr} {f : Nat → List Nat} {k : Nat} {xs : List Nat} (h : BkAt H0 H b as f) (ha : as[k]? = some a) : BkAt H0 (upd H a (.lst (nV xs))) b as fun j => if j = k then xs else f j := by
  have hm := List.mem_of_getElem? ha
  have n := h.nb a hm
  refine ⟨by rw [upd_ne (Ne.symm n.1)]; exact h.li, h.nd, h.nb, h.b0, fun c o z => ?_, fun j c z => ?_⟩
  · rw [upd_ne (ne_of_none z n.2)]
    exact h.sm _ _ z
  · by_cases e : j = k
    · subst e
      rw [ha] at z
      injection z with z
      subst z
      rw [upd_same, if_pos rfl]
    · rw [if_neg e, upd_ne]
      · exact h.at' j c z
      · intro c1
        subst c1
        have hj := (List.getElem?_eq_some_iff.mp z)
        have hk := (List.getElem?_eq_some_iff.mp ha)
        exact e ((List.getElem_inj h.nd).mp (hj.2.trans hk.2.symm))
/-- what a bucket has at slot i, cell j of the thing -/
def bkI (G : Gm) (sl : List (Option Tg)) (i : Nat) (k : Nat) : List Nat := (List.range i).filter (inB G sl (49 + (k : Int)))
def bkJ (G : Gm) (sl : List (Option Tg)) (i : Nat) (cs : List Int) (k : Nat) : List Nat := bkI G sl i k ++ (if 49 + (k : Int) ∈ cs then [i] else [])
theorem bkJ_nil {G : Gm} {sl : List (Option Tg)} {i k : Nat} : bkI G sl i k = bkJ G sl i [] k := by
  rw [bkJ, if_neg List.not_mem_nil, List.append_nil]
theorem bkJ_all {G : Gm} {sl : List (Option Tg)} {i k : Nat} {t : Tg} {kd : Kd} (h : sl[i]? = some (some t)) (hk : G.kds[t.k]? = some kd) : bkJ G sl i (G.blk (t.box kd)) k = bkI G sl (i + 1) k := by
  have e : inB G sl (49 + (k : Int)) i = decide (49 + (k : Int) ∈ G.blk (t.box kd)) := by
    unfold inB
    rw [h]
    dsimp only
    rw [Gm.bx, hk]
  rw [bkJ, bkI, bkI, List.range_succ, List.filter_append]
  by_cases c : 49 + (k : Int) ∈ G.blk (t.box kd)
  · rw [if_pos c]
    simp [e, c]
  · rw [if_neg c]
    simp [e, c]
theorem bkI_none {G : Gm} {sl : List (Option Tg)} {i k : Nat} (h : sl[i]? = some none) : bkI G sl i k = bkI G sl (i + 1) k := by
  have e : inB G sl (49 + (k : Int)) i = false := by
    unfold inB
    rw [h]
  rw [bkI, bkI, List.range_succ, List.filter_append]
  simp [e]
theorem bkJ_step {G : Gm} {sl : List (Option Tg)} {i j k n : Nat} {cs : List Int} (nd : cs.Nodup) (h : cs[j]? = some (49 + (n : Int))) : (if k = n then bkJ G sl i (cs.take j) n ++ [i] else bkJ G sl i (cs.take j) k) = bkJ G sl i (cs.take (j + 1)) k := by
  have hj := (List.getElem?_eq_some_iff.mp h)
  have nin : 49 + (n : Int) ∉ cs.take j := fun hm => by
    obtain ⟨l, hl⟩ := List.mem_iff_getElem?.mp hm
    rw [List.getElem?_take] at hl
    split at hl
    · rename_i hlt
      have hl' := (List.getElem?_eq_some_iff.mp hl)
      have := (List.getElem_inj nd).mp (hl'.2.trans hj.2.symm)
      omega
    · cases hl
  rw [List.take_add_one, h, Option.toList_some]
  unfold bkJ
  by_cases e : k = n
  · subst e
    rw [if_pos rfl, if_neg nin, if_pos (by simp)]
    simp
  · rw [if_neg e]
    congr 1
    have : (49 + (k : Int) ∈ cs.take j ++ [49 + (n : Int)]) ↔ 49 + (k : Int) ∈ cs.take j := by
      simp only [List.mem_append, List.mem_singleton]
      exact ⟨fun z => z.elim id fun z => absurd z (by omega), .inl⟩
    by_cases c : 49 + (k : Int) ∈ cs.take j
    · rw [if_pos c, if_pos (this.mpr c)]
    · rw [if_neg c, if_neg (fun z => c (this.mp z))]
theorem bkI_len {G : Gm} {sl : List (Option Tg)} {i k : Nat} : (bkI G sl i k).length ≤ i := Nat.le_trans (List.length_filter_le _ _) (by rw [List.length_range]; exact Nat.le_refl _)
theorem bkJ_len {G : Gm} {sl : List (Option Tg)} {i k : Nat} {cs : List Int} : (bkJ G sl i cs k).length ≤ i + 1 := by
  rw [bkJ, List.length_append]
  have := bkI_len (G := G) (sl := sl) (i := i) (k := k)
  split <;> simp <;> omega
section
end
end K27
set_option maxRecDepth 100000
set_option maxHeartbeats 4000000
/-! Equal, and of one kind. -/
namespace K27
open PySem PySem.Spec PyProof.Rows L2 KF KD KP
theorem walk_zipT {K : PySem.W.Frag} {a b : Addr} {xs ys : List V} {n : Nat} (hn : n = min xs.length ys.length) : Walk (RZ.ItzT K a b) n (fun H => SqT K H a xs ∧ SqT K H b ys) (YPair (fun i => xs[i]?) (fun i => ys[i]?)) := by
  subst hn
  refine ⟨fun i _ hi q => ?_, fun _ q => ⟨xs, ys, q.1, q.2, by omega⟩, fun i H v H' _ q y => ?_⟩
  · have h1 : i < xs.length := by omega
    have h2 : i < ys.length := by omega
    exact ⟨xs, ys, xs[i], ys[i], q.1, q.2, by simp [h1], by simp [h2]⟩
  · obtain ⟨T, x, z, h1, h2, h3, h4, h5⟩ := y
    exact ⟨T, x, z, h1, h2, h3, h4 xs q.1, h5 ys q.2⟩
def AlOk : Nat → PyData → Prop
  | _, .none => True
  | _, .int _ => True
  | n + 1, .tuple ds => ds.length ≤ 1000 ∧ ∀ e ∈ ds, AlOk n e
  | _, _ => False
theorem nls_of : ∀ {ds : List PyData}, (∀ e ∈ ds, NL e) → NLs ds
  | [], _ => trivial
  | d :: ds, h => ⟨h d List.mem_cons_self, nls_of fun e he => h e (List.mem_cons_of_mem _ he)⟩
theorem alok_nl : ∀ (n : Nat) (d : PyData), AlOk n d → NL d
  | _, .none, _ => trivial
  | _, .int _, _ => trivial
  | n + 1, .tuple ds, h => nls_of fun e he => alok_nl n e (h.2 e he)
  | 0, .tuple _, h => h.elim
  | 0, .bool _, h => h.elim
  | _ + 1, .bool _, h => h.elim
  | 0, .str _, h => h.elim
  | _ + 1, .str _, h => h.elim
  | 0, .list _, h => h.elim
  | _ + 1, .list _, h => h.elim
  | 0, .dict _, h => h.elim
  | _ + 1, .dict _, h => h.elim
def spSame (K : PySem.W.Frag) (n : Nat) : Sp := fun vs H Q _ => ∃ (v1 v2 : V) (d : PyData), vs = [v1, v2] ∧ Dp K H v1 d ∧ Dp K H v2 d ∧ AlOk n d ∧ ∀ H', Same H H' → Q (.bl true) H'
def spSm (K : PySem.W.Frag) : Nat → Sp
  | 0 => fun _ _ _ _ => False
  | n + 1 => spSame K n
section
variable {P : Program} {w : World} {K : PySem.W.Frag} {mg : Str → Option Value} {base : Heap}
theorem scSm : FnScope ["one", "other", "a", "b"] ["one", "other"] (defScope s_law_same) := ⟨rfl, rfl, rfl, by decide +kernel, rfl, by decide +kernel, by decide +kernel⟩
theorem ok_law_same (T : Txt K w mg) : ∀ n : Nat, FnOk P w K mg base CX0 n (He.fAd K ("_law_same", none)) (fdAt K (He.fAd K ("_law_same", none))) ["one", "other"] (spSm K n)
  | 0 => ⟨fun _ _ _ _ z => z.elim, fun _ _ _ _ _ _ _ _ _ _ _ _ _ z => z.elim⟩
  | n + 1 => by
    have G := ok_law_same T n
    refine T.F_law_same.ok scSm (fun vs H Q E h => ?_) (fun cdv A outer s H vs Q E hr h => ?_)
    · obtain ⟨v1, v2, d, rfl, _⟩ := h
      rfl
    · obtain ⟨v1, v2, d, rfl, h1, h2, hp, k⟩ := h
      refine ⟨_, PSs.nox (pss_cons (ps_if (PW.pt (pw_or (pt_val (pe_callB (r := rIsi K) call_isi (by rfl) T.n_isinstance PyProof.Rows.Boot.«isinstance» (pa_cons (pv 1) (pa_cons (pe_bltn (v := .ty "tuple") (by rfl) T.n_tuple PyProof.Rows.Boot.«tuple» rfl) pa_nil)))) (pw_or1 (pt_val (pe_callB (r := rIsi K) call_isi (by rfl) T.n_isinstance PyProof.Rows.Boot.«isinstance» (pa_cons (pv 1) (pa_cons (pe_bltn (v := .ty "list") (by rfl) T.n_list PyProof.Rows.Boot.«list» rfl) pa_nil))))))) (pss_cons (ps_if (PW.pt (pw_or (pt_cmpR op_ne (pe_callB (r := rIsi K) call_isi (by rfl) T.n_isinstance PyProof.Rows.Boot.«isinstance» (pa_cons (pv 0) (pa_cons (pe_bltn (v := .ty "list") (by rfl) T.n_list PyProof.Rows.Boot.«list» rfl) pa_nil))) (pe_callB (r := rIsi K) call_isi (by rfl) T.n_isinstance PyProof.Rows.Boot.«isinstance» (pa_cons (pv 1) (pa_cons (pe_bltn (v := .ty "list") (by rfl) T.n_list PyProof.Rows.Boot.«list» rfl) pa_nil))) (nomark _)) (pw_or1 (pt_not (pt_val (pe_callB (r := rIsiT K) call_isiT (by rfl) T.n_isinstance PyProof.Rows.Boot.«isinstance» (pa_cons (pv 0) (pa_cons (pe_tup (pa_cons (pe_bltn (v := .ty "list") (by rfl) T.n_list PyProof.Rows.Boot.«list» rfl) (pa_cons (pe_bltn (v := .ty "tuple") (by rfl) T.n_tuple PyProof.Rows.Boot.«tuple» rfl) pa_nil))) pa_nil)))))))) (pss_one (ps_ret pe_bl)) pss_nil)
      (pss_one (ps_ret (pe_and (pe_cmpR op_eq (pe_callB (r := Evl.rLenS K) call_len_seq (by rfl) T.n_len PyProof.Rows.Boot.«len» (pa_cons (pv 0) pa_nil)) (pe_callB (r := Evl.rLenS K) call_len_seq (by rfl) T.n_len PyProof.Rows.Boot.«len» (pa_cons (pv 1) pa_nil)) (nomark _)) (pe_one (pe_callB (cr_all rfl) (by rfl) T.n_all PyProof.Rows.Boot.«all» (pa_cons (pe_lc (own := [("a", 2), ("b", 3)]) (g := gTup K 2 (gCons (gName 2) (gCons (gName 3) gNil))) (tt := tYes) (by rfl) scSm.nd (RZ.pi_zipA (by rfl) T.n_zip (pa_cons (pv 0) (pa_cons (pv 1) pa_nil))) (blkOk_by (own := [("a", 2), ("b", 3)]) (N := ["one", "other", "a", "b"]) (sc := defScope s_law_same) (by decide +kernel)) (fun _ _ _ _ _ => (pg_tup (by rfl) (pgs_cons (pg_name (i := 2) scSm.nd rfl (Or.inl rfl)) (pgs_cons (pg_name (i := 3) scSm.nd rfl (Or.inl rfl)) pgs_nil)))) (fun _ _ _ _ _ => pts_nil) (fun _ _ _ _ _ => (pe_call G (hr.mono (by first | decide | omega)) (by rfl) T.g_law_same (T.F_law_same).kp T.b_law_same .nil pass0 (pa_cons (pv 2) (pa_cons (pv 3) pa_nil))))) pa_nil))))))) pss_nil)
      (pss_cons (ps_if (PW.pt (pw_or (pt_cmpR op_ne (pe_callB (r := rIsi K) call_isi (by rfl) T.n_isinstance PyProof.Rows.Boot.«isinstance» (pa_cons (pv 0) (pa_cons (pe_bltn (v := .ty "bool") (by rfl) T.n_bool PyProof.Rows.Boot.«bool» rfl) pa_nil))) (pe_callB (r := rIsi K) call_isi (by rfl) T.n_isinstance PyProof.Rows.Boot.«isinstance» (pa_cons (pv 1) (pa_cons (pe_bltn (v := .ty "bool") (by rfl) T.n_bool PyProof.Rows.Boot.«bool» rfl) pa_nil))) (nomark _)) (pw_or1 (pt_val (pe_callB (r := rIsiT K) call_isiT (by rfl) T.n_isinstance PyProof.Rows.Boot.«isinstance» (pa_cons (pv 0) (pa_cons (pe_tup (pa_cons (pe_bltn (v := .ty "list") (by rfl) T.n_list PyProof.Rows.Boot.«list» rfl) (pa_cons (pe_bltn (v := .ty "tuple") (by rfl) T.n_tuple PyProof.Rows.Boot.«tuple» rfl) pa_nil))) pa_nil))))))) (pss_one (ps_ret pe_bl)) pss_nil)
      (pss_one (ps_ret (pe_cmpR op_eq (pv 0) (pv 1) (nomark _)))))), ?_⟩
      have pr : Paired ClsV [.ty "list", .ty "tuple"] [.type "list", .type "tuple"] := .cons (.ty _) (.cons (.ty _) .nil)
      have tA : ∀ {tn : String} {b1 b2 : Bool}, kitB tn "list" = some b1 → kitB tn "tuple" = some b2 → PySem.W.kitAny K (.type tn) [.type "list", .type "tuple"] = some (b1 || b2) := fun {tn b1 b2} k1 k2 => by
        refine kitAny_cons (kit_ty k1) (fun e => ?_) (fun e => by rw [e]; rfl)
        exact kitAny_cons (kit_ty k2) (fun e2 => by rw [e, e2]; exact kitAny_nil) (fun e2 => by rw [e2, Bool.or_true])
      cases d with
      | none =>
        cases h1
        cases h2
        refine ⟨_, rfl, _, _, _, _, _, rfl, .ty "tuple", .base .non, kit_ty (r := false) (by decide +kernel), _, rfl, iteF ⟨_, rfl, _, _, _, _, _, rfl, .ty "list", .base .non, kit_ty (r := false) (by decide +kernel), _, rfl, iteF ?_⟩⟩
        refine ⟨_, rfl, _, _, _, _, _, rfl, .ty "bool", .base .non, kit_ty (r := false) (by decide +kernel), _, rfl, _, _, _, _, _, rfl, .ty "bool", .base .non, kit_ty (r := false) (by decide +kernel), rfl, _, rfl, ?_⟩
        refine ite2 (fun z => absurd z (by decide)) (fun _ => ⟨_, rfl, (show 2 ≤ sizeLine by decide), fun tp ntp => ?_⟩)
        refine ⟨_, tp, _, _, _, false, rfl, upd_same, pr, .base .non, tA (b1 := false) (b2 := false) (by decide +kernel) (by decide +kernel), _, rfl, iteF ⟨_, rfl, _, rfl, rfl, ?_⟩⟩
        exact k _ (new_same ntp)
      | int i =>
        cases h1
        cases h2
        refine ⟨_, rfl, _, _, _, _, _, rfl, .ty "tuple", .base (.int i), kit_ty (r := false) (by decide +kernel), _, rfl, iteF ⟨_, rfl, _, _, _, _, _, rfl, .ty "list", .base (.int i), kit_ty (r := false) (by decide +kernel), _, rfl, iteF ?_⟩⟩
        refine ⟨_, rfl, _, _, _, _, _, rfl, .ty "bool", .base (.int i), kit_ty (r := false) (by decide +kernel), _, rfl, _, _, _, _, _, rfl, .ty "bool", .base (.int i), kit_ty (r := false) (by decide +kernel), rfl, _, rfl, ?_⟩
        refine ite2 (fun z => absurd z (by decide)) (fun _ => ⟨_, rfl, (show 2 ≤ sizeLine by decide), fun tp ntp => ?_⟩)
        refine ⟨_, tp, _, _, _, false, rfl, upd_same, pr, .base (.int i), tA (b1 := false) (b2 := false) (by decide +kernel) (by decide +kernel), _, rfl, iteF ⟨_, rfl, _, rfl, rfl, ?_⟩⟩
        rw [decide_eq_true (rfl : V.int i = V.int i)]
        exact k _ (new_same ntp)
      | tuple ds =>
        cases n with
        | zero => exact absurd hp id
        | succ m =>
          cases h1 with
          | @tup p xs _ q1 a1 =>
            cases h2 with
            | @tup q ys _ q2 a2 =>
              have l1 := dpa_len a1
              have l2 := dpa_len a2
              have hlen : ds.length ≤ 1000 := hp.1
              refine ⟨_, rfl, _, _, _, _, _, rfl, .ty "tuple", ty_tup q2, kit_ty (r := true) (by decide +kernel), _, rfl, iteT ?_⟩
              refine ⟨_, rfl, _, _, _, _, _, rfl, .ty "list", ty_tup q1, kit_ty (r := false) (by decide +kernel), _, rfl, _, _, _, _, _, rfl, .ty "list", ty_tup q2, kit_ty (r := false) (by decide +kernel), rfl, _, rfl, ?_⟩
              refine ite2 (fun z => absurd z (by decide)) (fun _ => ⟨_, rfl, (show 2 ≤ sizeLine by decide), fun tp ntp => ?_⟩)
              have s1 := new_same (o := .tup [.ty "list", .ty "tuple"]) ntp
              refine ⟨_, tp, _, _, _, true, rfl, upd_same, pr, ty_tup ((same_tf s1).sq q1), tA (b1 := false) (b2 := true) (by decide +kernel) (by decide +kernel), _, rfl, iteF ?_⟩
              obtain ⟨H1, hH1⟩ : ∃ H1, H1 = upd H tp (.tup [.ty "list", .ty "tuple"]) := ⟨_, rfl⟩
              rw [← hH1] at s1 ⊢
              have q1' := (same_tf s1).sq q1
              have q2' := (same_tf s1).sq q2
              refine ⟨_, rfl, p, _, rfl, .inr q1', _, rfl, q, _, rfl, .inr q2', rfl, _, rfl, ?_⟩
              rw [l1, l2, decide_eq_true (rfl : V.int (ds.length : Int) = V.int (ds.length : Int))]
              refine iteT ?_
              refine ⟨_, rfl, _, rfl, p, q, xs, ys, rfl, .inr ⟨q1', q2', fun D hD => ?_⟩⟩
              refine lc_it (walk_zipT (K := K) (a := p) (b := q) (xs := xs) (ys := ys) rfl) (fun i H' => Acc H1 D (fl ds (fun _ => true) (fun _ => V.bl true) i) H') (acc_0 hD) (fun i H' _ h => ⟨(same_tf h.1).sq q1', (same_tf h.1).sq q2'⟩) (fun i v H' Hx hi h yy => ?_) (fun H' h => ?_)
              · obtain ⟨T1, x1, y1, rfl, nT, rfl, hx, hy⟩ := yy
                have hi2 : i < ds.length := by omega
                have he : ds[i]? = some ds[i] := List.getElem?_eq_getElem hi2
                obtain ⟨w1, e1, d1⟩ := dpa_get a1 he
                obtain ⟨w2, e2, d2⟩ := dpa_get a2 he
                replace hx : xs[i]? = some x1 := hx
                replace hy : ys[i]? = some y1 := hy
                rw [e1] at hx
                rw [e2] at hy
                obtain rfl : w1 = x1 := Option.some.inj hx
                obtain rfl : w2 = y1 := Option.some.inj hy
                have sT := new_same (o := .tup [w1, w2]) nT
                have S2 := (s1.trans h.1).trans sT
                refine ⟨T1, _, rfl, SqT.of upd_same, rfl, _, _, rfl, _, _, rfl, rfl, ?_⟩
                refine ⟨rfl, ?_⟩
                dsimp only [tYes]
                rw [if_pos rfl]
                · refine ⟨_, rfl, _, rfl, w1, w2, ds[i], rfl, dp_nl (same_tf S2) _ _ (alok_nl _ _ (hp.2 _ (List.getElem_mem hi2))) d1, dp_nl (same_tf S2) _ _ (alok_nl _ _ (hp.2 _ (List.getElem_mem hi2))) d2, hp.2 _ (List.getElem_mem hi2), fun H3 s3 => ?_⟩
                  exact acc_yes (f := fun _ => V.bl true) hD h (sT.trans s3) he rfl hlen
              · have e : min xs.length ys.length = ds.length := by omega
                rw [e, fl_every] at h
                refine ⟨D, ds.map fun _ => true, rfl, SqL.of (by rw [h.2, List.map_map]; rfl), ?_⟩
                rw [List.all_map]
                have e : (ds.all (id ∘ fun _ => true)) = true := by simp
                rw [e]
                exact k H' (s1.trans h.1)
      | bool c => cases n <;> exact hp.elim
      | str c => cases n <;> exact hp.elim
      | _ => first | (cases n <;> exact hp.elim) | cases h1
end
end K27
set_option maxRecDepth 100000
set_option maxHeartbeats 4000000
/-! The world of the law. -/
namespace K27
open PySem PySem.Spec PyProof.Rows L2 KF KD KP
/-- w, with its data -/
def WlD (K : PySem.W.Frag) (H : Hp) (wa : Addr) (sl : List (Option Tg)) (wd : List PyData) : Prop := ∃ wv : List V, H wa = some (.lst wv) ∧ wv.length = 49 ∧ (∀ (i : Nat) (o : Option Tg), sl[i]? = some o → ∃ v : V, wv[i]? = some v ∧ SlAt K H v o) ∧ DpAll K H wv wd ∧ ∀ e ∈ wd, AlOk 2 e
theorem al_nls {n : Nat} {ds : List PyData} (h : ∀ e ∈ ds, AlOk n e) : NLs ds := nls_of fun e he => alok_nl _ _ (h e he)
theorem WlD.wl {K : PySem.W.Frag} {H : Hp} {wa : Addr} {sl : List (Option Tg)} {wd : List PyData} (h : WlD K H wa sl wd) : WlAt K H wa sl := by
  obtain ⟨wv, h1, h2, h3, _⟩ := h
  exact ⟨wv, h1, h2, h3⟩
theorem WlD.tf {K : PySem.W.Frag} {H H' : Hp} {wa : Addr} {sl : List (Option Tg)} {wd : List PyData} (h : WlD K H wa sl wd) (e : TF H H') (f : H' wa = H wa) : WlD K H' wa sl wd := by
  obtain ⟨wv, h1, h2, h3, h4, h5⟩ := h
  exact ⟨wv, by rw [f]; exact h1, h2, fun i o z => by obtain ⟨v, g1, g2⟩ := h3 i o z; exact ⟨v, g1, g2.tf e⟩, dpa_nl e _ _ (al_nls h5) h4, h5⟩
theorem WlD.same {K : PySem.W.Frag} {H H' : Hp} {wa : Addr} {sl : List (Option Tg)} {wd : List PyData} (h : WlD K H wa sl wd) (e : Same H H') : WlD K H' wa sl wd := by
  obtain ⟨wv, h1, _⟩ := id h
  exact h.tf (same_tf e) (by rw [h1]; exact e _ _ h1)
def rTupS (K : PySem.W.Frag) : List V → Hp → VK → Prop := fun xs H Q => ∃ p ys, xs = [V.ref p] ∧ ((SqL K H p ys ∧ ∀ l : Addr, H l = none → Q (V.ref l) (upd H l (.tup ys))) ∨ SqT K H p ys ∧ Q (V.ref p) H)
def bkD (l : List Nat) : PyData := .tuple (l.map fun n : Nat => PyData.int (n : Int))
theorem dpa_ints {K : PySem.W.Frag} {H : Hp} : ∀ l : List Nat, DpAll K H (nV l) (l.map fun n : Nat => PyData.int (n : Int))
  | [] => .nil
  | _ :: l => .cons (.int _) (dpa_ints l)
theorem bkD_al (l : List Nat) (h : l.length ≤ 16) : AlOk 2 (bkD l) := ⟨by rw [List.length_map]; omega, fun e he => by
  obtain ⟨n, _, rfl⟩ := List.mem_map.mp he
  trivial⟩
theorem dpa_refs {K : PySem.W.Frag} {H : Hp} : ∀ (ts : List Addr) (f : Nat → List Nat), (∀ (k : Nat) (q : Addr), ts[k]? = some q → SqT K H q (nV (f k))) → DpAll K H (ts.map V.ref) ((List.range ts.length).map fun k => bkD (f k))
  | [], _, _ => .nil
  | q :: ts, f, h => by
    rw [List.length_cons, List.range_succ_eq_map, List.map_cons, List.map_cons, List.map_map]
    exact .cons (.tup (h 0 q rfl) (dpa_ints _)) (dpa_refs ts (fun k => f (k + 1)) fun k r hr => h (k + 1) r (by rw [List.getElem?_cons_succ]; exact hr))
theorem cutV_all {xs : List V} {n : Nat} (h : xs.length = n) : cutV xs none (some (n : Int)) = xs := by
  unfold cutV
  rw [HT.sIx_nat, HT.sIx_none, List.drop_zero, Nat.sub_zero, List.take_of_length_le (by omega)]
section
variable {P : Program} {w : World} {K : PySem.W.Frag} {mg : Str → Option Value} {base : Heap}
/-- the buckets of a world, as data -/
def bksD (G : Gm) (sl : List (Option Tg)) : List PyData := (List.range (G.bh * G.bw).toNat).map fun k : Nat => bkD (bkt G sl (49 + (k : Int)))
def spWld (K : PySem.W.Frag) : Sp := fun vs H Q _ => ∃ (g : V) (wa : Addr) (G : Gm) (sl : List (Option Tg)) (wd : List PyData), vs = [g, .ref wa] ∧ GmAt K H g G ∧ G.ok ∧ SlAll G sl ∧ WlD K H wa sl wd ∧
  ∀ t wv H', Same H H' → WtAt K H' t wv G sl → DpAll K H' wv (wd ++ bksD G sl) → (∀ e ∈ wd ++ bksD G sl, AlOk 2 e) → Q (.ref t) H'
theorem scLwd : FnScope ["game", "w", "wide", "high", "buckets", "slot", "cell", "k", "bucket"] ["game", "w"] (defScope s_law_world) := ⟨rfl, rfl, rfl, by decide +kernel, rfl, by decide +kernel, by decide +kernel⟩
theorem ok_law_world (T : Txt K w mg) : FnOk P w K mg base CX0 3 (He.fAd K ("_law_world", none)) (fdAt K (He.fAd K ("_law_world", none))) ["game", "w"] (spWld K) := by
  refine T.F_law_world.ok scLwd (fun vs H Q E h => ?_) (fun cdv A outer s H vs Q E hr h => ?_)
  · obtain ⟨g, wa, G, sl, wd, rfl, _⟩ := h
    rfl
  · obtain ⟨g, wa, G, sl, wd, rfl, hg, o, sa, hw, k⟩ := h
    refine ⟨_, PSs.nox (pss_cons (ps_asg (pe_call (ok_law_size T) (hr.mono (by first | decide | omega)) (by rfl) T.g_law_size (T.F_law_size).kp T.b_law_size .nil pass0 (pa_cons (pv 0) pa_nil)) (pg_tup (by rfl) (pgs_cons (pg_name (i := 2) scLwd.nd rfl (Or.inl rfl)) (pgs_cons (pg_name (i := 3) scLwd.nd rfl (Or.inl rfl)) pgs_nil))))
      (pss_cons (ps_setLc (i := 4) (own := [("k", 7)]) (g := gName 7) (tt := tYes) (by rfl) scLwd.nd rfl rfl (sw_true rfl rfl rfl (by decide +kernel)) (pi_range1 (by rfl) T.n_range (pa_cons (pe_op op_mulW (pe_op op_fdivW (pe_op op_add (pv 3) pe_int) pe_int) (pe_op op_fdivW (pe_op op_add (pv 2) pe_int) pe_int)) pa_nil)) (blkOk_by (own := [("k", 7)]) (N := ["game", "w", "wide", "high", "buckets", "slot", "cell", "k", "bucket"]) (sc := defScope s_law_world) (by decide +kernel)) (fun _ _ _ _ _ => pg_name (i := 7) scLwd.nd rfl (Or.inl rfl)) (fun _ _ _ _ _ => pts_nil) (fun _ _ _ _ _ => (pe_lst pa_nil)))
      (pss_cons (ps_for PassesOwn.never rfl (pi_range1 (by rfl) T.n_range (pa_cons pe_int pa_nil)) (pg_name (i := 5) scLwd.nd rfl (Or.inl rfl)) (pss_one (ps_if (pt_cmpR op_notN (pe_ix (r := rIxL K) ix_list (pv 1) (pv 5) (fun _ _ => rfl)) pe_non (nomark _)) (pss_one (ps_for PassesOwn.never rfl (pi_list (pe_call (ok_law_blocks T) (hr.mono (by first | decide | omega)) (by rfl) T.g_law_blocks (T.F_law_blocks).kp T.b_law_blocks .nil pass0 (pa_cons (pv 0) (pa_cons (pe_call (ok_law_box T) (hr.mono (by first | decide | omega)) (by rfl) T.g_law_box (T.F_law_box).kp T.b_law_box .nil pass0 (pa_cons (pv 0) (pa_cons (pe_ix (r := rIxL K) ix_list (pv 1) (pv 5) (fun _ _ => rfl)) pa_nil))) pa_nil)))) (pg_name (i := 6) scLwd.nd rfl (Or.inl rfl)) (pss_one (ps_expr (pe_bm PySem.F.plainAttrs_list PySem.F.slot_list_append PySem.F.type_list_append mt_append (pe_ix (r := rIxL K) ix_list (pv 4) (pe_op op_sub (pv 6) pe_int) (fun _ _ => rfl)) (pa_cons (pv 5) pa_nil)))))) pss_nil)))
      (pss_one (ps_ret (pe_callTy (show CallR _ _ (rTupS K) from call_tuple_of) (by rfl) T.n_tuple PyProof.Rows.Boot.«tuple» (pa_cons (pe_op op_cat (pe_slice sl_list (pv 1) po_none (po_some pe_int)) (pe_lc (own := [("bucket", 8)]) (g := gName 8) (tt := tYes) (by rfl) scLwd.nd (pi_list (pv 4)) (blkOk_by (own := [("bucket", 8)]) (N := ["game", "w", "wide", "high", "buckets", "slot", "cell", "k", "bucket"]) (sc := defScope s_law_world) (by decide +kernel)) (fun _ _ _ _ _ => pg_name (i := 8) scLwd.nd rfl (Or.inl rfl)) (fun _ _ _ _ _ => pts_nil) (fun _ _ _ _ _ => (pe_callTy (show CallR _ _ (rTupS K) from call_tuple_of) (by rfl) T.n_tuple PyProof.Rows.Boot.«tuple» (pa_cons (pv 8) pa_nil))))) pa_nil))))))), ?_⟩
    have hu := hr.units
    have d32 : ∀ i : Int, CDivW i 32 := fun i => wide_div (b := 10) (by decide) (by decide) (by decide) (by decide)
    have b40 := bhw o
    have hW : G.wi = 8 * (G.W : Int) := rfl
    have hHi : G.hi = 8 * (G.rows.length : Int) := rfl
    have ew : (G.wi + 31) / 32 = G.bw := by
      have h3 : G.bw = ((G.W : Int) + 3) / 4 := rfl
      omega
    have eh : (G.hi + 31) / 32 = G.bh := by
      have h3 : G.bh = ((G.rows.length : Int) + 3) / 4 := rfl
      omega
    have bw8 : 0 ≤ G.bw ∧ G.bw ≤ 8 := by have := o.w2; have h3 : G.bw = ((G.W : Int) + 3) / 4 := rfl; omega
    have bh8 : 0 ≤ G.bh ∧ G.bh ≤ 5 := by have := o.r2; have h3 : G.bh = ((G.rows.length : Int) + 3) / 4 := rfl; omega
    have p40 : (2 : Nat) ^ 40 = 1099511627776 := by decide
    have cm : CMulW ((G.hi + 31) / 32) ((G.wi + 31) / 32) := by
      rw [ew, eh]
      exact wide_mul (a := 40) (b := 40) (small_ab bh8.1 (by omega)) (small_ab bw8.1 (by omega)) (by decide) (by decide) (by decide)
    obtain ⟨N, hN⟩ : ∃ N : Nat, N = (((G.hi + 31) / 32) * ((G.wi + 31) / 32)).toNat := ⟨_, rfl⟩
    have hNi : (N : Int) = G.bh * G.bw := by rw [hN, ew, eh]; omega
    refine ⟨_, rfl, g, G, rfl, hg, o, fun p H1 s1 hp => ⟨p, _, rfl, SqT.of hp, rfl, _, _, rfl, _, _, rfl, rfl, ?_⟩⟩
    refine ⟨_, rfl, _, _, rfl, rfl, _, _, rfl, rfl, d32 _, _, rfl, _, _, rfl, rfl, _, _, rfl, rfl, d32 _, _, _, rfl, rfl, cm, _, rfl, by rw [ew, eh]; omega, by rw [ew, eh]; omega, fun D hD => ?_⟩
    rw [← hN]
    refine lc_it (walk_r0 (n := N)) (fun i H' => ∃ as, as.length = i ∧ BkAt H1 H' D as (fun _ => [])) ⟨[], rfl, bk_nil hD⟩ (fun _ _ _ _ => trivial) (fun i v H' Hx hi h yy => ?_) (fun H' h => ?_)
    · obtain ⟨rfl, rfl⟩ := yy
      obtain ⟨as, al, bk⟩ := h
      refine ⟨rfl, ?_⟩
      dsimp only [tYes]
      rw [if_pos rfl]
      refine ⟨(show 0 ≤ sizeLine by decide), fun q nq => ?_⟩
      have bk' := bk.same (new_same (o := .lst []) nq)
      refine ⟨_, bk'.li, ?_, as ++ [q], by rw [List.length_append, al]; rfl, bk_new bk nq⟩
      rw [List.length_map, al]
      exact Nat.lt_of_lt_of_le (show i < 100 by omega) (by decide)
    · obtain ⟨as, al, bk⟩ := h
      have S0 := s1.trans bk.sm
      refine ⟨16, rfl, by decide, by decide, ?_⟩
      refine L2.for_it (walk_r0 (n := 16)) (fun i σ H' => ∃ v5 v6 : Option V, σ = [some g, some (.ref wa), some (.int G.wi), some (.int G.hi), some (.ref D), v5, v6, none, none] ∧ BkAt H1 H' D as (bkI G sl i)) ⟨_, _, rfl, bk.imp fun k _ => rfl⟩ (fun _ _ _ _ _ => trivial) (fun i x σ H4 Hx hi hPv hy => ?_) (fun σ H4 hPv => ?_)
      · obtain ⟨v5, v6, rfl, bk4⟩ := hPv
        obtain ⟨rfl, rfl⟩ := hy
        have hw4 := hw.same (s1.trans bk4.sm)
        obtain ⟨wv, hwv, wl, hws, _⟩ := id hw4
        obtain ⟨so, hso⟩ : ∃ so, sl[i]? = some so := ⟨_, List.getElem?_eq_getElem (by rw [sa.len]; omega)⟩
        obtain ⟨v, hv1, hv2⟩ := hws i so hso
        refine ⟨_, rfl, _, rfl, wa, _, _, _, rfl, rfl, SqL.of hwv, atI_nat hv1, rfl, ?_⟩
        cases so with
        | none =>
          obtain rfl : v = .non := hv2
          exact ⟨_, rfl, iteF ⟨_, _, rfl, bk4.imp fun k _ => bkI_none hso⟩⟩
        | some t =>
          have hv2 : TgAt K Hx v t := hv2
          obtain ⟨kd, hkd, _⟩ := (sa.ok t (List.mem_of_getElem? hso)).kd
          obtain ⟨limt, _, _⟩ := (sa.ok t (List.mem_of_getElem? hso)).lim o
          have ebx : G.bx t = t.box kd := by unfold Gm.bx; rw [hkd]
          rw [ebx] at limt
          obtain ⟨ta, ow, rfl, hta⟩ := id hv2
          refine ⟨_, rfl, iteT ?_⟩
          have tf4 : TF H Hx := same_tf (s1.trans bk4.sm)
          refine ⟨_, rfl, _, rfl, _, rfl, _, rfl, wa, _, _, _, rfl, rfl, SqL.of hwv, atI_nat hv1, g, _, G, t, kd, rfl, hg.tf tf4, hv2, hkd, fun pb H5 s5 hpb => ?_⟩
          have hb5 : BxAt K H5 (.ref pb) (t.box kd) := ⟨pb, rfl, SqT.of hpb⟩
          have tf5 := tf4.trans (same_tf s5)
          refine ⟨g, .ref pb, G, t.box kd, rfl, hg.tf tf5, o, hb5, limt, fun p2 H6 s6 hp2 np2 => ⟨p2, rfl, ⟨_, SqL.of hp2⟩, ?_⟩⟩
          have S6 := s5.trans s6
          have bk6 := bk4.same S6
          have npx : Hx p2 = none := by
            cases e : Hx p2 with
            | none => rfl
            | some z => exact absurd ((s5 _ _ e).symm.trans np2) (by simp)
          have pas : ∀ a ∈ as, p2 ≠ a := fun a ha e => by
            obtain ⟨k, hk⟩ := List.mem_iff_getElem?.mp ha
            rw [← e] at hk
            rw [bk4.at' k p2 hk] at npx
            cases npx
          obtain ⟨cs, hcs⟩ : ∃ cs, cs = G.blk (t.box kd) := ⟨_, rfl⟩
          have csl : cs.length ≤ 40 := by rw [hcs]; exact blk_len o limt
          have csn : cs.Nodup := by rw [hcs]; exact blk_nd o limt
          have csm : ∀ c ∈ cs, 49 ≤ c ∧ c < 49 + G.bh * G.bw := fun c hc => blk_mem o limt (by rw [← hcs]; exact hc)
          rw [← hcs] at hp2
          refine L2.for_it (walk_list (K := K) (a := p2) (xs := cs.map V.int)) (fun j σ H' => ∃ v6 : Option V, σ = [some g, some (.ref wa), some (.int G.wi), some (.int G.hi), some (.ref D), some (.int (i : Int)), v6, none, none] ∧ BkAt H1 H' D as (bkJ G sl i (cs.take j)) ∧ H' p2 = some (.lst (cs.map V.int))) ⟨_, rfl, bk6.imp fun k _ => by rw [List.take_zero]; exact bkJ_nil, hp2⟩ (fun j σ H' _ h => by obtain ⟨_, _, _, h⟩ := h; exact SqL.of h) (fun j x σ H7 Hy hj hPv hy => ?_) (fun σ H7 hPv => ?_)
          · obtain ⟨v6, rfl, bk7, hp7⟩ := hPv
            obtain ⟨rfl, hx⟩ := hy
            rw [List.length_map] at hj
            have hcj := List.getElem?_eq_getElem hj
            obtain ⟨c, hc⟩ : ∃ c, c = cs[j] := ⟨_, rfl⟩
            rw [← hc] at hcj
            rw [List.getElem?_map, hcj] at hx
            cases hx
            obtain ⟨c1, c2⟩ := csm c (List.mem_of_getElem? hcj)
            obtain ⟨n, hn⟩ := Int.eq_ofNat_of_zero_le (show 0 ≤ c - 49 by omega)
            obtain rfl : c = 49 + (n : Int) := by omega
            have hnl : n < as.length := by rw [al]; omega
            obtain ⟨ad, had⟩ : ∃ ad, as[n]? = some ad := ⟨_, List.getElem?_eq_getElem hnl⟩
            have hmem := List.mem_of_getElem? had
            have hat : (as.map V.ref)[n]? = some (.ref ad) := by rw [List.getElem?_map, had]; rfl
            have hA := bk7.at' n ad had
            refine ⟨_, rfl, _, rfl, _, _, rfl, rfl, D, _, _, .ref ad, rfl, rfl, SqL.of bk7.li, (by
              have e : (49 + (n : Int)) - 49 = (n : Int) := by omega
              rw [e]
              exact atI_nat hat), .inl ⟨rfl, _, SqL.of hA⟩, _, rfl, ad, _, _, rfl, rfl, hA, ?_, ?_⟩
            · unfold nV
              rw [List.length_map]
              exact Nat.lt_of_le_of_lt (Nat.le_trans bkJ_len (show i + 1 ≤ 16 by omega)) (by decide)
            · have bk8 := (bk_put (xs := bkJ G sl i (cs.take j) n ++ [i]) bk7 had).imp fun k _ => bkJ_step (k := k) csn hcj
              refine ⟨_, rfl, ?_, ?_⟩
              · unfold nV at bk8 ⊢
                rw [List.map_append] at bk8
                exact bk8
              · rw [upd_ne (pas ad hmem)]
                exact hp7
          · obtain ⟨v6, rfl, bk7, hp7⟩ := hPv
            rw [List.length_map, List.take_length] at bk7
            exact ⟨_, _, rfl, bk7.imp fun k _ => by rw [hcs]; exact bkJ_all hso hkd⟩
      · obtain ⟨v5, v6, rfl, bk4⟩ := hPv
        have S4 := s1.trans bk4.sm
        obtain ⟨wv, hwv, wl, hws, wdd, wnl⟩ := hw.same S4
        have ecut : cutV wv none (some 49) = wv := cutV_all (n := 49) wl
        have bk5 : ∀ p2, H4 p2 = none → BkAt H1 (upd H4 p2 (.lst wv)) D as (bkI G sl 16) := fun p2 np2 => bk4.same (new_same np2)
        refine ⟨_, rfl, _, rfl, wa, wv, rfl, SqL.of hwv, fun p2 np2 => ?_⟩
        rw [ecut]
        refine ⟨_, rfl, D, rfl, ⟨_, SqL.of (bk5 p2 np2).li⟩, fun D2 hD2 => ?_⟩
        have s5 := new_same (o := .lst wv) np2
        have bk5 := bk5 p2 np2
        obtain ⟨H5, hH5⟩ : ∃ H5, H5 = upd H4 p2 (.lst wv) := ⟨_, rfl⟩
        rw [← hH5] at s5 bk5 hD2 ⊢
        refine lc_it (walk_list (K := K) (a := D) (xs := as.map V.ref)) (fun i H' => ∃ ts : List Addr, ts.length = i ∧ H' D2 = some (.lst (ts.map V.ref)) ∧ Same H5 H' ∧ ∀ (k : Nat) (q : Addr), ts[k]? = some q → SqT K H' q (nV (bkI G sl 16 k))) ⟨[], rfl, upd_same, new_same hD2, fun _ _ h => by cases h⟩ (fun i H' _ h => by obtain ⟨_, _, _, s, _⟩ := h; exact SqL.of (s _ _ bk5.li)) (fun i v H' Hx hi h yy => ?_) (fun H' h => ?_)
        · obtain ⟨rfl, hv⟩ := yy
          obtain ⟨ts, tl, hts, sm, hq⟩ := h
          rw [List.length_map] at hi
          have hai := List.getElem?_eq_getElem hi
          obtain ⟨ad, had⟩ : ∃ ad, ad = as[i] := ⟨_, rfl⟩
          rw [← had] at hai
          rw [List.getElem?_map, hai] at hv
          cases hv
          refine ⟨rfl, ?_⟩
          dsimp only [tYes]
          rw [if_pos rfl]
          refine ⟨_, rfl, ad, _, rfl, .inl ⟨SqL.of (sm _ _ (bk5.at' i ad hai)), fun q nq => ?_⟩⟩
          have s6 := new_same (o := .tup (nV (bkI G sl 16 i))) nq
          have h6 := s6 _ _ hts
          have nD5 : H5 D2 = none := hD2
          refine ⟨_, h6, ?_, ts ++ [q], by rw [List.length_append, tl]; rfl, by rw [upd_same, List.map_append]; rfl, fun c o z => ?_, fun k r hr => ?_⟩
          · rw [List.length_map, tl]
            exact Nat.lt_of_lt_of_le (show i < 100 by omega) (by decide)
          · rw [upd_ne (ne_of_none z nD5)]
            exact s6 _ _ (sm _ _ z)
          · have tf := TF.lst1 (o := .lst (ts.map V.ref ++ [.ref q])) h6
            by_cases hk : k < ts.length
            · rw [List.getElem?_append_left hk] at hr
              exact ((same_tf s6).trans tf).sq (hq k r hr)
            · rw [List.getElem?_append_right (by omega)] at hr
              cases hd : k - ts.length with
              | zero =>
                rw [hd] at hr
                obtain rfl : q = r := by simpa using hr
                obtain rfl : k = i := by omega
                exact tf.sq (SqT.of upd_same)
              | succ n =>
                rw [hd] at hr
                cases hr
        · obtain ⟨ts, tl, hts, sm, hq⟩ := h
          rw [List.length_map] at tl
          have e5 : H5 p2 = some (.lst wv) := by rw [hH5, upd_same]
          have tl40 : ts.length ≤ 40 := by omega
          refine ⟨p2, D2, wv, ts.map V.ref, rfl, rfl, sm _ _ e5, hts, Nat.le_trans (show wv.length + (ts.map V.ref).length ≤ 100 by rw [List.length_map]; omega) (by decide), fun p3 np3 => ⟨p3, _, rfl, .inl ⟨SqL.of upd_same, fun t nt => ?_⟩⟩⟩
          have S7 := ((sm.trans (new_same (o := .lst (wv ++ ts.map V.ref)) np3)).trans (new_same (o := .tup (wv ++ ts.map V.ref)) nt))
          have S8 := (S4.trans s5).trans S7
          have hq7 : ∀ (k : Nat) (q : Addr), ts[k]? = some q → SqT K (upd (upd H' p3 (.lst (wv ++ ts.map V.ref))) t (.tup (wv ++ ts.map V.ref))) q (nV (bkI G sl 16 k)) := fun k q h => (same_tf ((new_same np3).trans (new_same nt))).sq (hq k q h)
          have eb : bksD G sl = (List.range ts.length).map fun k => bkD (bkI G sl 16 k) := by
            rw [bksD, show (G.bh * G.bw).toNat = ts.length by omega]
            rfl
          rw [eb] at k
          refine k t (wv ++ ts.map V.ref) _ S8 ⟨SqT.of upd_same, ?_, fun i o z => ?_, fun c h1 h2 => ?_⟩ (dpa_ap (dpa_nl (same_tf (s5.trans S7)) _ _ (al_nls wnl) wdd) (dpa_refs ts _ hq7)) (fun e he => (List.mem_append.mp he).elim (wnl e) fun he => ?_)
          · rw [List.length_append, List.length_map]
            omega
          · obtain ⟨v, hv1, hv2⟩ := hws i o z
            have hi := (List.getElem?_eq_some_iff.mp z).1
            rw [sa.len] at hi
            exact ⟨v, by rw [List.getElem?_append_left (by omega)]; exact hv1, hv2.tf (same_tf (s5.trans S7))⟩
          · rw [List.length_append, List.length_map] at h2
            obtain ⟨q, hq'⟩ : ∃ q, ts[c - 49]? = some q := ⟨_, List.getElem?_eq_getElem (by omega)⟩
            refine ⟨q, ?_, ?_⟩
            · rw [List.getElem?_append_right (by omega), wl, List.getElem?_map, hq']
              rfl
            · have h := hq7 (c - 49) q hq'
              rw [bkI, show (49 : Int) + ((c - 49 : Nat) : Int) = (c : Int) by omega] at h
              exact h
          · obtain ⟨k, _, rfl⟩ := List.mem_map.mp he
            exact bkD_al _ bkI_len
end
end K27
set_option maxRecDepth 100000
set_option maxHeartbeats 4000000
/-! What the law says was seen. -/
namespace K27
open PySem PySem.Spec PyProof.Rows L2 KF KD KP
section
variable {P : Program} {w : World} {K : PySem.W.Frag} {mg : Str → Option Value} {base : Heap}
def spLse (K : PySem.W.Frag) : Sp := fun vs H Q _ => ∃ (wt sd : Addr) (wv : List V) (wd : List PyData) (p : Int → Prop), vs = [.ref wt, .ref sd] ∧ KSet H sd p ∧ SqT K H wt wv ∧ DpAll K H wv wd ∧ NLs wd ∧ (∀ c, p c → 0 ≤ c ∧ c < (wv.length : Int)) ∧
  ∀ t ys H', Same H H' → ys.Pairwise (· < ·) → (∀ c, c ∈ ys ↔ p c) → Dp K H' (.ref t) (seenD wd ys) → Q (.ref t) H'
theorem scLse : FnScope ["world", "seen", "cell"] ["world", "seen"] (defScope s_law_seen) := ⟨rfl, rfl, rfl, by decide +kernel, rfl, by decide +kernel, by decide +kernel⟩
theorem ok_law_seen (T : Txt K w mg) : FnOk P w K mg base CX0 1 (He.fAd K ("_law_seen", none)) (fdAt K (He.fAd K ("_law_seen", none))) ["world", "seen"] (spLse K) := by
  refine T.F_law_seen.ok scLse (fun vs H Q E h => ?_) (fun cdv A outer s H vs Q E hr h => ?_)
  · obtain ⟨wt, sd, wv, wd, p, rfl, _⟩ := h
    rfl
  · obtain ⟨wt, sd, wv, wd, p, rfl, ks, sq, dw, nl, hp, k⟩ := h
    refine ⟨_, PSs.nox (pss_one (ps_ret (pe_callTy call_tuple_of (by rfl) T.n_tuple PyProof.Rows.Boot.«tuple» (pa_cons (pe_lc (own := [("cell", 2)]) (g := gName 2) (tt := tYes) (by rfl) scLse.nd (pi_list (pe_callB (call_sortedDI (by rfl)) (by rfl) T.n_sorted PyProof.Rows.Boot.«sorted» (pa_cons (pv 1) pa_nil))) (blkOk_by (own := [("cell", 2)]) (N := ["world", "seen", "cell"]) (sc := defScope s_law_seen) (by decide +kernel)) (fun _ _ _ _ _ => pg_name (i := 2) scLse.nd rfl (Or.inl rfl)) (fun _ _ _ _ _ => pts_nil) (fun _ _ _ _ _ => (pe_tup (pa_cons (pv 2) (pa_cons (pe_ix (r := rIxT K) ix_tup (pv 0) (pv 2) (fun _ _ => rfl)) pa_nil))))) pa_nil)))), ?_⟩
    obtain ⟨kvs, kl, hk, hkk, hnd, hmem, hcel⟩ := id ks
    have k56 := cel_len hnd hcel
    refine ⟨_, rfl, sd, kvs, kl, rfl, .inl hk, hkk, by omega, fun ys q hperm hsort nq => ?_⟩
    have s1 := new_same (o := .lst (ys.map V.int)) nq
    have hq : (upd H q (.lst (ys.map V.int))) q = some (.lst (ys.map V.int)) := upd_same
    have yn : ys.Nodup := hperm.nodup_iff.mpr hnd
    have yl : ys.length ≤ 1000 := by rw [hperm.length_eq]; omega
    have ym : ∀ c, c ∈ ys ↔ p c := fun c => (hperm.mem_iff).trans (hmem c)
    refine ⟨q, rfl, ⟨_, SqL.of hq⟩, fun D hD => ?_⟩
    refine lc_it (walk_list (K := K) (a := q) (xs := ys.map V.int)) (fun i H' => ∃ acc, H' D = some (.lst acc) ∧ SeenV K H' wd (ys.take i) acc ∧ Same (upd H q (.lst (ys.map V.int))) H') ⟨[], upd_same, by rw [List.take_zero]; exact .nil, new_same hD⟩ (fun i H' _ h => by obtain ⟨_, _, _, h⟩ := h; exact SqL.of (h _ _ hq)) (fun i v H' Hx hi h yy => ?_) (fun H' h => ?_)
    · obtain ⟨rfl, hv⟩ := yy
      obtain ⟨acc, hacc, hs, sm⟩ := h
      rw [List.length_map] at hi
      have hx := List.getElem?_eq_getElem hi
      obtain ⟨c, hc⟩ : ∃ c, c = ys[i] := ⟨_, rfl⟩
      rw [← hc] at hx
      rw [List.getElem?_map, hx] at hv
      cases hv
      refine ⟨rfl, ?_⟩
      dsimp only [tYes]
      rw [if_pos rfl]
      have S := s1.trans sm
      obtain ⟨c0, c1⟩ := hp c ((ym c).mp (List.mem_of_getElem? hx))
      obtain ⟨n, rfl⟩ := Int.eq_ofNat_of_zero_le c0
      have hn : n < wv.length := by omega
      obtain ⟨v, hv1, hv2⟩ := dpa_gd dw hn
      refine ⟨_, rfl, _, rfl, _, rfl, wt, _, _, v, rfl, rfl, (same_tf S).sq sq, atI_nat hv1, (show 2 ≤ sizeLine by decide), fun q2 nq2 => ?_⟩
      exact seen_step nl hD sm hacc hs hx (by rw [Int.toNat_natCast]; exact dp_nl (same_tf S) _ _ (nl_gd nl _) hv2) (nl_gd nl _) nq2 yl
    · obtain ⟨acc, hacc, hs, sm⟩ := h
      rw [List.length_map, List.take_length] at hs
      refine ⟨D, acc, rfl, .inl ⟨SqL.of hacc, fun t nt => ?_⟩⟩
      have st := new_same (o := .tup acc) nt
      exact k t ys _ ((s1.trans sm).trans st) (lt_of hsort yn) ym (.tup (SqT.of upd_same) (dpa_nl (same_tf st) _ _ (nls_seen wd nl _) hs))
theorem seenD_al {wd : List PyData} (h : ∀ e ∈ wd, AlOk 2 e) {ys : List Int} (hl : ys.length ≤ 1000) : AlOk 4 (seenD wd ys) := by
  refine ⟨by rw [List.length_map]; exact hl, fun e he => ?_⟩
  obtain ⟨c, _, rfl⟩ := List.mem_map.mp he
  refine ⟨(show 2 ≤ 1000 by decide), fun e2 he2 => ?_⟩
  rcases List.mem_cons.mp he2 with rfl | he2
  · trivial
  · obtain rfl : e2 = wd.getD c.toNat .none := by simpa using he2
    by_cases hc : c.toNat < wd.length
    · rw [List.getD, List.getElem?_eq_getElem hc]
      exact h _ (List.getElem_mem hc)
    · rw [List.getD, List.getElem?_eq_none (by omega)]
      trivial
end
end K27
set_option maxRecDepth 100000
set_option maxHeartbeats 4000000
/-! Rows and kinds, drawn. -/
namespace K27
open PySem PySem.Spec PyProof.Rows L2 KF KD KP
theorem foldl_size (x : Array Nat) : ∀ (n : Nat) (a : Array Nat), ((List.replicate n x).foldl (· ++ ·) a).size = a.size + n * x.size
  | 0, a => by simp
  | n + 1, a => by
    rw [List.replicate_succ, List.foldl_cons, foldl_size x n, Array.size_append, Nat.succ_mul]
    omega
theorem mul_mem (x : Array Nat) (c : Nat) : ∀ (n : Nat) (a : Array Nat), c ∈ ((List.replicate n x).foldl (· ++ ·) a).toList → c ∈ a.toList ∨ c ∈ x.toList
  | 0, a, h => .inl h
  | n + 1, a, h => by
    rw [List.replicate_succ, List.foldl_cons] at h
    rcases mul_mem x c n _ h with h | h
    · rw [Array.toList_append] at h
      exact (List.mem_append.mp h).imp id id
    · exact .inr h
def rMulS : R2 := fun x y H Q => ∃ (a : Str) (n : Nat), x = .str a ∧ y = .int (n : Int) ∧ 1 ≤ n ∧ n ≤ 1000 ∧ 1 ≤ a.length ∧ a.length ≤ 1000 ∧ ∀ z : Str, z.length = n * a.length → (∀ c ∈ z.cps.toList, c ∈ a.cps.toList) → Q (.str z) H
theorem op_mulS {X : Cx} : OpR X (binaryOp .Mult) rMulS := by
  intro pins s σ H x y v u Q I rx ry h
  obtain ⟨a, n, rfl, rfl, h1, h2, h3, h4, q⟩ := h
  obtain ⟨t, rfl⟩ := rx
  obtain ⟨t', rfl⟩ := ry
  have hm : a.length * n ≤ 1000 * 1000 := Nat.mul_le_mul h4 h2
  have hn : ¬ (n : Int) < 1 := by omega
  refine P.mul_str (by rw [decide_eq_false (by omega), decide_eq_false (by omega)]; rfl) (fun _ _ => ?_) (fun _ _ => ?_) ?_
  · have : (a.length : Int) ≤ (2 ^ 63 - 1) / (n : Int) := (Int.le_ediv_iff_mul_le (by omega)).mpr (by
      have : ((a.length * n : Nat) : Int) ≤ 1000000 := by omega
      rw [Int.natCast_mul] at this
      exact Int.le_trans this (by decide))
    omega
  · rw [Int.toNat_natCast]
    exact decide_eq_false (by
      have : (1000 * 1000 : Nat) < sizeLine := by decide
      omega)
  · rw [if_neg hn]
    split
    · rename_i z
      have hz : n = 1 := by
        rcases (Bool.or_eq_true_iff.mp z) with z | z
        · have := of_decide_eq_true z
          omega
        · have := of_decide_eq_true z
          omega
      subst hz
      exact ⟨.str a, H, I, ⟨t, rfl⟩, q a (by omega) fun _ h => h⟩
    · have hl : ((List.replicate (n : Int).toNat a.cps).foldl (· ++ ·) #[]).size = n * a.length := by
        rw [foldl_size, Int.toNat_natCast]
        simp [Str.length]
      have hm2 : n * a.length ≤ 1000 * 1000 := Nat.mul_le_mul h2 h4
      refine ⟨show ((List.replicate (n : Int).toNat a.cps).foldl (· ++ ·) #[]).size ≤ sizeLine by rw [hl]; exact Nat.le_trans hm2 (by decide), ⟨.str _, H, I.tok _, ⟨_, rfl⟩, q _ hl fun c hc => (mul_mem _ c _ _ hc).elim (fun h => (List.not_mem_nil h).elim) id⟩⟩

theorem at_mem {α : Type} {xs : List α} {x : Int} (h0 : 0 ≤ x) (h1 : x < xs.length) : ∃ v ∈ xs, atI xs x = some v := by
  obtain ⟨j, rfl⟩ := Int.eq_ofNat_of_zero_le h0
  have hj : j < xs.length := by omega
  exact ⟨xs[j], List.getElem_mem hj, atI_nat (List.getElem?_eq_getElem hj)⟩
theorem at_strs {l : List Str} {x : Int} (h0 : 0 ≤ x) (h1 : x < l.length) : ∃ m ∈ l, atI (l.map V.str) x = some (.str m) := by
  obtain ⟨v, hv, e⟩ := at_mem (xs := l.map V.str) h0 (by rw [List.length_map]; exact h1)
  obtain ⟨m, hm, rfl⟩ := List.mem_map.mp hv
  exact ⟨m, hm, e⟩
theorem at_sign {z : Str} {x : Int} (h0 : 0 ≤ x) (h1 : x < z.length) : ∃ c, atI z.cps.toList x = some c := by
  obtain ⟨v, _, e⟩ := at_mem (xs := z.cps.toList) h0 (by rw [Array.length_toList]; exact h1)
  exact ⟨v, e⟩
theorem sum_ones : ∀ {l : List Str}, (∀ y ∈ l, y.length = 1) → (l.map (·.length)).sum = l.length
  | [], _ => rfl
  | x :: l, h => by
    rw [List.map_cons, List.sum_cons, h x List.mem_cons_self, sum_ones fun y hy => h y (List.mem_cons_of_mem _ hy), List.length_cons]
    omega
theorem Pot.ne {H : Hp} {d l : Addr} (h : Pot H d) (n : H l = none) : l ≠ d := fun e => by
  obtain ⟨xs, z⟩ := h.lst
  rw [e, z] at n
  cases n
theorem Pot.upd {H : Hp} {d l : Addr} {o : HO} (h : Pot H d) (e : l ≠ d) : Pot (upd H l o) d := h.keep (upd_ne (Ne.symm e))
theorem frm_new {d p : Addr} {H H' : Hp} {o : HO} (f : Frm d H H') (n : H p = none) : Frm d H (upd H' p o) := fun b o' nb z => by
  rw [upd_ne (ne_of_none z n)]
  exact f b o' nb z
/-- one of the signs of floors -/
def isSg (c : Nat) : Bool := decide (c ∈ (Str.ofString ".#=<>^wg").cps.toList)
theorem at_signq {z : Str} {x : Int} {q : Nat → Bool} (h0 : 0 ≤ x) (h1 : x < z.length) (hq : ∀ c ∈ z.cps.toList, q c = true) : ∃ c, atI z.cps.toList x = some c ∧ q c = true := by
  obtain ⟨v, m, e⟩ := at_mem (xs := z.cps.toList) h0 (by rw [Array.length_toList]; exact h1)
  exact ⟨v, e, hq v m⟩
theorem str1 {y : Str} {q : Nat → Bool} (h : ∃ c, y = ⟨#[c]⟩ ∧ q c = true) : y.length = 1 ∧ ∀ c ∈ y.cps.toList, q c = true := by
  obtain ⟨c, rfl, hc⟩ := h
  exact ⟨rfl, fun d hd => by rw [show d = c by simpa using hd]; exact hc⟩
theorem join_mem {q : Nat → Bool} : ∀ (ys : List Str), (∀ y ∈ ys, ∀ c ∈ y.cps.toList, q c = true) → ∀ c ∈ (Str.join (Str.ofString "") ys).cps.toList, q c = true
  | [], _, c, h => by
    have h : c ∈ ([] : List Nat) := h
    cases h
  | [x], hq, c, h => hq x List.mem_cons_self c h
  | x :: y :: r, hq, c, h => by
    have h : c ∈ (x ++ Str.ofString "" ++ Str.join (Str.ofString "") (y :: r)).cps.toList := h
    rw [Str.cps_append, Str.cps_append, Array.toList_append, Array.toList_append] at h
    rcases List.mem_append.mp h with h | h
    · rcases List.mem_append.mp h with h | h
      · exact hq x List.mem_cons_self c h
      · have h : c ∈ ([] : List Nat) := h
        cases h
    · exact join_mem (y :: r) (fun z m => hq z (List.mem_cons_of_mem _ m)) c h
def menus : List Str := ["........=.......", "....#=<>^wg.=...", "wwww.w=.w.w.#wgw", "....^...=..>.<.."]
def lows : List Str := ["##########<><>=^", "..=...#.........", "=====#==<=>=.===", "^^^##^^^w^^^####", ".#=<>^wg.#=<>^wg"]
section
variable {P : Program} {w : World} {K : PySem.W.Frag} {mg : Str → Option Value} {base : Heap}
def spRw (K : PySem.W.Frag) : Sp := fun vs H Q _ => ∃ (d : Addr) (h W : Nat), vs = [.ref d, .int (h : Int), .int (W : Int)] ∧ h ≤ 30 ∧ W ≤ 30 ∧ Pot H d ∧ ∀ (f : Addr) (rows : List Str) H', Frm d H H' → Pot H' d → SqT K H' f (rows.map V.str) → rows.length = h → (∀ r ∈ rows, r.length = W ∧ ∀ c ∈ r.cps.toList, isSg c = true) → Q (.ref f) H'
theorem scRw : FnScope ["pot", "high", "wide", "menus", "signs", "under", "rows", "k", "menu", "c"] ["pot", "high", "wide"] (defScope s_law_rows) := ⟨rfl, rfl, rfl, by decide +kernel, rfl, by decide +kernel, by decide +kernel⟩
theorem ok_law_rows (T : Txt K w mg) : FnOk P w K mg base CX0 2 (He.fAd K ("_law_rows", none)) (fdAt K (He.fAd K ("_law_rows", none))) ["pot", "high", "wide"] (spRw K) := by
  refine T.F_law_rows.ok scRw (fun vs H Q E h => ?_) (fun cdv A outer s H vs Q E hr h => ?_)
  · obtain ⟨d, h, W, rfl, _⟩ := h
    rfl
  · obtain ⟨d, h, W, rfl, h30, w30, hd, k⟩ := h
    refine ⟨_, PSs.nox (pss_cons (ps_set (i := 3) scRw.nd rfl (Or.inl rfl) (pe_lst (pa_cons pe_str (pa_cons pe_str (pa_cons pe_str (pa_cons pe_str pa_nil))))))
      (pss_cons (ps_set (i := 4) scRw.nd rfl (Or.inl rfl) (pe_ix (r := rIxL K) ix_list (pv 3) (pe_call (ok_law_take T) (hr.mono (by first | decide | omega)) (by rfl) T.g_law_take (T.F_law_take).kp T.b_law_take .nil pass0 (pa_cons (pv 0) (pa_cons pe_int pa_nil))) (fun _ _ => rfl)))
      (pss_cons (ps_set (i := 3) scRw.nd rfl (Or.inl rfl) (pe_lst (pa_cons pe_str (pa_cons pe_str (pa_cons pe_str (pa_cons pe_str (pa_cons pe_str pa_nil)))))))
      (pss_cons (ps_set (i := 5) scRw.nd rfl (Or.inl rfl) (pe_ix (r := rIxL K) ix_list (pv 3) (pe_call (ok_law_take T) (hr.mono (by first | decide | omega)) (by rfl) T.g_law_take (T.F_law_take).kp T.b_law_take .nil pass0 (pa_cons (pv 0) (pa_cons pe_int pa_nil))) (fun _ _ => rfl)))
      (pss_cons (ps_set (i := 6) scRw.nd rfl (Or.inl rfl) (pe_lst pa_nil))
      (pss_cons (ps_for PassesOwn.never rfl (pi_range1 (by rfl) T.n_range (pa_cons (pv 1) pa_nil)) (pg_name (i := 7) scRw.nd rfl (Or.inl rfl)) (pss_cons (ps_set (i := 8) scRw.nd rfl (Or.inr rfl) (pe_ifExp (pt_cmpR op_eq (pv 7) (pe_op op_sub (pv 1) pe_int) (nomark _)) (pv 5) (pv 4)))
      (pss_one (ps_expr (pe_bm PySem.F.plainAttrs_list PySem.F.slot_list_append PySem.F.type_list_append mt_append (pv 6) (pa_cons (pe_join pe_str (pe_lc (own := [("c", 9)]) (g := gName 9) (tt := tYes) (by rfl) scRw.nd (pi_range1 (by rfl) T.n_range (pa_cons (pv 2) pa_nil)) (blkOk_by (own := [("c", 9)]) (N := ["pot", "high", "wide", "menus", "signs", "under", "rows", "k", "menu", "c"]) (sc := defScope s_law_rows) (by decide +kernel)) (fun _ _ _ _ _ => pg_name (i := 9) scRw.nd rfl (Or.inl rfl)) (fun _ _ _ _ _ => pts_nil) (fun _ _ _ _ _ => (pe_ix ix_str (pv 8) (pe_call (ok_law_take T) (hr.mono (by first | decide | omega)) (by rfl) T.g_law_take (T.F_law_take).kp T.b_law_take .nil pass0 (pa_cons (pv 0) (pa_cons pe_int pa_nil))) (fun _ _ => rfl))))) pa_nil))))))
      (pss_one (ps_ret (pe_callTy call_tuple_of (by rfl) T.n_tuple PyProof.Rows.Boot.«tuple» (pa_cons (pv 6) pa_nil)))))))))), ?_⟩
    refine ⟨(show 4 ≤ sizeLine by decide), fun p np => ?_⟩
    have sp := new_same (o := .lst (menus.map V.str)) np
    refine ⟨_, rfl, _, rfl, d, 4, rfl, by decide, by decide, hd.same sp, fun x1 Ha a0 a1 fa da => ?_⟩
    have hp := fa p _ (hd.ne np) upd_same
    obtain ⟨menu, hm, em⟩ := at_strs (l := menus) a0 a1
    have lm : menu.length = 16 := by
      have : ∀ m ∈ menus, m.length = 16 := by decide +kernel
      exact this _ hm
    have qm : ∀ c ∈ menu.cps.toList, isSg c = true := by
      have : ∀ m ∈ menus, ∀ c ∈ m.cps.toList, isSg c = true := by decide +kernel
      exact this _ hm
    refine ⟨p, _, _, _, rfl, rfl, SqL.of hp, em, ?_⟩
    refine ⟨(show 5 ≤ sizeLine by decide), fun p2 np2 => ?_⟩
    have sp2 := new_same (o := .lst (lows.map V.str)) np2
    refine ⟨_, rfl, _, rfl, d, 5, rfl, by decide, by decide, da.same sp2, fun x2 Hb b0 b1 fb db => ?_⟩
    have hp2 := fb p2 _ (da.ne np2) upd_same
    obtain ⟨low, hm2, em2⟩ := at_strs (l := lows) b0 b1
    have ll : low.length = 16 := by
      have : ∀ m ∈ lows, m.length = 16 := by decide +kernel
      exact this _ hm2
    have ql : ∀ c ∈ low.cps.toList, isSg c = true := by
      have : ∀ m ∈ lows, ∀ c ∈ m.cps.toList, isSg c = true := by decide +kernel
      exact this _ hm2
    refine ⟨p2, _, _, _, rfl, rfl, SqL.of hp2, em2, ?_⟩
    have fHb : Frm d H Hb := (Frm.of_same sp).trans ((fa.trans (Frm.of_same sp2)).trans fb)
    refine ⟨(show 0 ≤ sizeLine by decide), fun D hD => ?_⟩
    have Dd := db.ne hD
    refine ⟨_, rfl, (h : Int), rfl, by omega, by omega, ?_⟩
    rw [Int.toNat_natCast]
    refine L2.for_it (walk_r0 (n := h)) (fun i σ H' => ∃ (rs : List Str) (v7 v8 : Option V), σ = [some (.ref d), some (.int (h : Int)), some (.int (W : Int)), some (.ref p2), some (.str menu), some (.str low), some (.ref D), v7, v8, none] ∧ Frm d Hb H' ∧ Pot H' d ∧ H' D = some (.lst (rs.map V.str)) ∧ rs.length = i ∧ ∀ r ∈ rs, r.length = W ∧ ∀ c ∈ r.cps.toList, isSg c = true) ⟨[], _, _, rfl, frm_new (Frm.refl _ _) hD, db.upd Dd, upd_same, rfl, fun _ q => (nomatch q)⟩ (fun _ _ _ _ _ => trivial) (fun i x σ H4 Hx hi hPv hy => ?_) (fun σ H4 hPv => ?_)
    · obtain ⟨rs, v7, v8, rfl, f2, d2, hl, hlen, hrs⟩ := hPv
      obtain ⟨rfl, rfl⟩ := hy
      have ST : ∀ mm : Str, [some (V.ref d), some (.int (h : Int)), some (.int (W : Int)), some (.ref p2), some (.str menu), some (.str low), some (.ref D), some (.int (i : Int)), some (.str mm), none] = ([some (V.ref d), some (.int (h : Int)), some (.int (W : Int)), some (.ref p2), some (.str menu), some (.str low), some (.ref D), some (.int (i : Int)), some (.str mm), none] : L2.St) := fun _ => rfl
      refine seq_cut (fun σ' H' => ∃ mm : Str, σ' = [some (.ref d), some (.int (h : Int)), some (.int (W : Int)), some (.ref p2), some (.str menu), some (.str low), some (.ref D), some (.int (i : Int)), some (.str mm), none] ∧ H' = Hx ∧ mm.length = 16 ∧ ∀ c ∈ mm.cps.toList, isSg c = true) (fun σ' H' hq => ?_) (fun R hR => ?_)
      rotate_left
      · exact ⟨_, rfl, _, rfl, _, _, rfl, rfl, rfl, _, rfl, ite2 (fun _ => ⟨_, rfl, hR _ _ ⟨_, rfl, rfl, ll, ql⟩⟩) (fun _ => ⟨_, rfl, hR _ _ ⟨_, rfl, rfl, lm, qm⟩⟩)⟩
      obtain ⟨mm, rfl, rfl, lmm, qmm⟩ := hq
      refine ⟨_, rfl, .inl ⟨rfl, _, SqL.of hl⟩, ⟨_, rfl⟩, _, rfl, (W : Int), rfl, by omega, by omega, fun D2 hD2 => ?_⟩
      rw [Int.toNat_natCast]
      have D2d := d2.ne hD2
      refine lc_it (walk_r0 (n := W)) (fun j Hy => ∃ ys : List Str, Frm d H' Hy ∧ Pot Hy d ∧ Hy D2 = some (.lst (ys.map V.str)) ∧ ys.length = j ∧ ∀ y ∈ ys, ∃ c, y = ⟨#[c]⟩ ∧ isSg c = true) ⟨[], frm_new (Frm.refl _ _) hD2, d2.upd D2d, upd_same, rfl, fun _ q => (nomatch q)⟩ (fun _ _ _ _ => trivial) (fun j v Hy Hz hj h yy => ?_) (fun Hy h => ?_)
      · obtain ⟨rfl, rfl⟩ := yy
        obtain ⟨ys, f3, d3, hl3, hlen3, hys⟩ := h
        refine ⟨rfl, ?_⟩
        dsimp only [tYes]
        rw [if_pos rfl]
        refine ⟨_, rfl, _, rfl, d, 16, rfl, by decide, by decide, d3, fun x Hw c0 c1 f4 d4 => ?_⟩
        obtain ⟨c, hc, qc⟩ := at_signq (z := mm) c0 (by omega) qmm
        have hl4 := f4 _ _ D2d hl3
        refine ⟨_, _, c, rfl, rfl, Nat.le_trans (Nat.le_of_eq lmm) (by decide), hc, _, hl4, Nat.lt_of_le_of_lt (show (ys.map V.str).length ≤ 30 by rw [List.length_map]; omega) (by decide), ys ++ [⟨#[c]⟩], frm_new (f3.trans f4) hD2, d4.upd D2d, ?_, by simp [hlen3], fun y hy => ?_⟩
        · rw [List.map_append]
          exact upd_same
        · rcases List.mem_append.mp hy with hy | hy
          · exact hys y hy
          · rw [List.mem_singleton.mp hy]
            exact ⟨c, rfl, qc⟩
      · obtain ⟨ys, f3, d3, hl3, hlen3, hys0⟩ := h
        have hys : ∀ y ∈ ys, y.length = 1 := fun y m => (str1 (hys0 y m)).1
        have e1 := PySem.W.KT.join_ones ys hys
        have hl2 := f3 _ _ Dd hl
        refine ⟨_, D2, ys, rfl, rfl, .inl (SqL.of hl3), by rw [sum_ones hys, show (Str.ofString "").length = 0 by decide]; omega, D, _, _, rfl, rfl, hl2, Nat.lt_of_le_of_lt (show (rs.map V.str).length ≤ 30 by rw [List.length_map]; omega) (by decide), rs ++ [Txt.join (Str.ofString "") ys], _, _, rfl, frm_new (f2.trans f3) hD, d3.upd Dd, ?_, by simp [hlen], fun r hr => ?_⟩
        · rw [List.map_append]
          exact upd_same
        · rcases List.mem_append.mp hr with hr | hr
          · exact hrs r hr
          · rw [List.mem_singleton.mp hr]
            exact ⟨by rw [e1, hlen3], fun c hc => join_mem ys (fun y m => (str1 (hys0 y m)).2) c (by rw [← TL.join_eq]; exact hc)⟩
    · obtain ⟨rs, v7, v8, rfl, f2, d2, hl, hlen, hrs⟩ := hPv
      refine ⟨_, rfl, D, _, rfl, .inl ⟨SqL.of hl, fun t nt => ?_⟩⟩
      have st := new_same (o := .tup (rs.map V.str)) nt
      exact k t rs _ ((fHb.trans f2).trans (Frm.of_same st)) (d2.same st) (SqT.of upd_same) hlen hrs
end
end K27
set_option maxRecDepth 100000
set_option maxHeartbeats 4000000
/-! The whole game, and what makes it right. -/
namespace K27
open PySem PySem.Spec PyProof.Rows L2 KF KD KP
/-- a kind, whole: its own numbers, and no rules -/
def KxAt (K : PySem.W.Frag) (H : Hp) (v : V) (k : Kd) : Prop := ∃ (a t o r : Addr) (ow : List Int), v = .ref a ∧ SqT K H a [.str k.nm, .int k.w, .int k.h, .ref t, .ref o, .ref r] ∧ SqT K H t (k.tr.map V.str) ∧ SqT K H o (ow.map V.int) ∧ ow.length = 4 ∧ (∀ x ∈ ow, -999 ≤ x ∧ x ≤ 999) ∧ SqT K H r []
theorem KxAt.tf {K : PySem.W.Frag} {H H' : Hp} {v : V} {k : Kd} (h : KxAt K H v k) (e : TF H H') : KxAt K H' v k := by
  obtain ⟨a, t, o, r, ow, h1, h2, h3, h4, h5, h6, h7⟩ := h
  exact ⟨a, t, o, r, ow, h1, e.sq h2, e.sq h3, e.sq h4, h5, h6, e.sq h7⟩
theorem KxAt.kd {K : PySem.W.Frag} {H : Hp} {v : V} {k : Kd} (h : KxAt K H v k) : KdAt K H v k := by
  obtain ⟨a, t, o, r, ow, h1, h2, h3, _⟩ := h
  exact ⟨a, t, _, _, h1, h2, h3⟩
def KxsAt (K : PySem.W.Frag) (H : Hp) (v : V) (ks : List Kd) : Prop := ∃ (a : Addr) (kv : List V), v = .ref a ∧ SqT K H a kv ∧ kv.length = ks.length ∧ ∀ (i : Nat) (k : Kd), ks[i]? = some k → ∃ x : V, kv[i]? = some x ∧ KxAt K H x k
theorem KxsAt.tf {K : PySem.W.Frag} {H H' : Hp} {v : V} {ks : List Kd} (h : KxsAt K H v ks) (e : TF H H') : KxsAt K H' v ks := by
  obtain ⟨a, kv, h1, h2, h3, h4⟩ := h
  exact ⟨a, kv, h1, e.sq h2, h3, fun i k z => by obtain ⟨x, g1, g2⟩ := h4 i k z; exact ⟨x, g1, g2.tf e⟩⟩
theorem KxsAt.ks {K : PySem.W.Frag} {H : Hp} {v : V} {G : Gm} (h : KxsAt K H v G.kds) : KsAt K H v G := by
  obtain ⟨a, kv, h1, h2, h3, h4⟩ := h
  exact ⟨a, kv, h1, h2, h3, fun i k z => by obtain ⟨x, g1, g2⟩ := h4 i k z; exact ⟨x, g1, g2.kd⟩⟩
/-- a start: kind, house, place -/
def StAt (K : PySem.W.Frag) (H : Hp) (v : V) (t : Tg) : Prop := ∃ a : Addr, v = .ref a ∧ SqT K H a [.int (t.k : Int), .int t.hs, .int t.x, .int t.y]
theorem StAt.tf {K : PySem.W.Frag} {H H' : Hp} {v : V} {t : Tg} (h : StAt K H v t) (e : TF H H') : StAt K H' v t := by
  obtain ⟨a, h1, h2⟩ := h
  exact ⟨a, h1, e.sq h2⟩
def StsAt (K : PySem.W.Frag) (H : Hp) (v : V) (st : List Tg) : Prop := ∃ (a : Addr) (sv : List V), v = .ref a ∧ SqT K H a sv ∧ sv.length = st.length ∧ ∀ (i : Nat) (t : Tg), st[i]? = some t → ∃ x : V, sv[i]? = some x ∧ StAt K H x t
theorem StsAt.tf {K : PySem.W.Frag} {H H' : Hp} {v : V} {st : List Tg} (h : StsAt K H v st) (e : TF H H') : StsAt K H' v st := by
  obtain ⟨a, sv, h1, h2, h3, h4⟩ := h
  exact ⟨a, sv, h1, e.sq h2, h3, fun i k z => by obtain ⟨x, g1, g2⟩ := h4 i k z; exact ⟨x, g1, g2.tf e⟩⟩
/-- the level, whole -/
def LxAt (K : PySem.W.Frag) (H : Hp) (v : V) (G : Gm) (st : List Tg) (pu : Int) : Prop := ∃ (l rs : Addr) (sv : V), v = .ref l ∧ SqT K H l [.ref rs, sv, .int G.ho, .int pu] ∧ SqT K H rs (G.rows.map V.str) ∧ StsAt K H sv st
theorem LxAt.tf {K : PySem.W.Frag} {H H' : Hp} {v : V} {G : Gm} {st : List Tg} {pu : Int} (h : LxAt K H v G st pu) (e : TF H H') : LxAt K H' v G st pu := by
  obtain ⟨l, rs, sv, h1, h2, h3, h4⟩ := h
  exact ⟨l, rs, sv, h1, e.sq h2, e.sq h3, h4.tf e⟩
theorem LxAt.lv {K : PySem.W.Frag} {H : Hp} {v : V} {G : Gm} {st : List Tg} {pu : Int} (h : LxAt K H v G st pu) : LvAt K H v G := by
  obtain ⟨l, rs, sv, h1, h2, h3, h4⟩ := h
  exact ⟨l, rs, sv, _, h1, h2, h3⟩
def GxAt (K : PySem.W.Frag) (H : Hp) (v : V) (G : Gm) (st : List Tg) (pu : Int) : Prop := ∃ (g : Addr) (lv ks : V), v = .ref g ∧ SqT K H g [lv, ks] ∧ LxAt K H lv G st pu ∧ KxsAt K H ks G.kds
theorem GxAt.tf {K : PySem.W.Frag} {H H' : Hp} {v : V} {G : Gm} {st : List Tg} {pu : Int} (h : GxAt K H v G st pu) (e : TF H H') : GxAt K H' v G st pu := by
  obtain ⟨g, lv, ks, h1, h2, h3, h4⟩ := h
  exact ⟨g, lv, ks, h1, e.sq h2, h3.tf e, h4.tf e⟩
theorem GxAt.gm {K : PySem.W.Frag} {H : Hp} {v : V} {G : Gm} {st : List Tg} {pu : Int} (h : GxAt K H v G st pu) : GmAt K H v G := by
  obtain ⟨g, lv, ks, h1, h2, h3, h4⟩ := h
  exact ⟨g, lv, ks, h1, h2, h3.lv, h4.ks⟩
/-! ### the sets of traits that a kind may have, as they are drawn -/
def trn : List Str := ["bars", "carries", "falls", "frail", "pushed"]
def trB (m : Int) (i : Nat) : Bool := decide (Builtin.bitAnd (m / 2 ^ i) 1 = 1)
def trOf (m : Int) (i : Nat) : List Str := ((List.range i).filter (trB m)).map fun j => trn.getD j (Str.ofString "")
def mask2 (m : Int) : Int := if Builtin.bitAnd m 18 = 0 then m else Builtin.bitOr m 1
def masks : List Int := ((List.range 32).map fun n : Nat => (n : Int)).map mask2
def trAll : List (List Str) := masks.map fun m => trOf m 5
theorem trAll_len : ∀ l ∈ trAll, l.length ≤ 5 := by decide +kernel
theorem mask5 : ∀ n : Fin 32, 0 ≤ Builtin.bitOr (n.val : Int) 5 ∧ Builtin.bitOr (n.val : Int) 5 < 32 := by decide +kernel
theorem mask_in {m : Int} (h0 : 0 ≤ m) (h1 : m < 32) : mask2 m ∈ masks := by
  obtain ⟨n, rfl⟩ := Int.eq_ofNat_of_zero_le h0
  exact List.mem_map_of_mem (List.mem_map.mpr ⟨n, List.mem_range.mpr (by omega), rfl⟩)
theorem mask5' {m : Int} (h0 : 0 ≤ m) (h1 : m < 32) : 0 ≤ Builtin.bitOr m 5 ∧ Builtin.bitOr m 5 < 32 := by
  obtain ⟨n, rfl⟩ := Int.eq_ofNat_of_zero_le h0
  exact mask5 ⟨n, by omega⟩
theorem trOf_step {m : Int} {i : Nat} (h : i < 5) : trOf m (i + 1) = if trB m i = true then trOf m i ++ [trn.getD i (Str.ofString "")] else trOf m i := by
  unfold trOf
  rw [List.range_succ, List.filter_append, List.map_append]
  by_cases z : trB m i = true
  · simp [z]
  · simp [z]
theorem lets8 : ∀ j : Fin 8, (Str.ofString "abcdefgh").cps.toList[j.val]? = some (97 + j.val) := by decide +kernel
/-! ### what is right of it -/
structure KdR (j : Nat) (k : Kd) : Prop where
  n1 : 1 ≤ k.nm.length
  n8 : k.nm.length ≤ 8
  nl : ∀ c ∈ k.nm.cps.toList, c = 97 + j
  w1 : 1 ≤ k.w
  w2 : k.w ≤ 16
  h1 : 1 ≤ k.h
  h2 : k.h ≤ 16
  tr : k.tr ∈ trAll
structure Gm.right (G : Gm) : Prop where
  ok : G.ok
  r3 : 3 ≤ G.rows.length
  r16 : G.rows.length ≤ 16
  w4 : 4 ≤ G.W
  w24 : G.W ≤ 24
  sg : ∀ r ∈ G.rows, ∀ c ∈ r.cps.toList, isSg c = true
  k1 : 1 ≤ G.kds.length
  kr : ∀ (i : Nat) (k : Kd), G.kds[i]? = some k → KdR i k
/-- what is true of a thing by where it is put -/
structure Put1 (G : Gm) (t : Tg) : Prop where
  k : t.k < G.kds.length
  h1 : -1 ≤ t.hs
  h2 : t.hs < G.ho
  fr : G.fr (G.bx t) = true
  y2 : t.y < G.hi
  lm : (G.bx t).lim
def Put2 (G : Gm) (a b : Tg) : Prop := G.hs a "bars" = true → G.hs b "bars" = true → meets (G.bx a) (G.bx b) = false
structure StR (G : Gm) (st : List Tg) : Prop where
  len : st.length ≤ 12
  one : ∀ t ∈ st, Put1 G t
  two : st.Pairwise (Put2 G)
/-- the same of all slots -/
structure Apt (G : Gm) (sl : List (Option Tg)) : Prop where
  one : ∀ t, some t ∈ sl → Put1 G t
  two : ∀ (i j : Nat) (a b : Tg), i ≠ j → sl[i]? = some (some a) → sl[j]? = some (some b) → Put2 G a b
theorem Put2.sym {G : Gm} {a b : Tg} (h : Put2 G a b) : Put2 G b a := fun x y => by rw [meets_sym]; exact h y x
theorem Apt.put {G : Gm} {sl : List (Option Tg)} {s : Nat} {t : Tg} (h : Apt G sl) (h1 : Put1 G t) (h2 : ∀ (j : Nat) (b : Tg), s ≠ j → sl[j]? = some (some b) → Put2 G t b) : Apt G (sl.set s (some t)) := by
  refine ⟨fun u m => ?_, fun i j a b n ha hb => ?_⟩
  · rcases List.mem_or_eq_of_mem_set m with m | e
    · exact h.one u m
    · injection e with e
      rw [e]
      exact h1
  · by_cases ei : s = i
    · subst ei
      have hi := (List.getElem?_eq_some_iff.mp ha).1
      rw [List.length_set] at hi
      rw [List.getElem?_set_self hi] at ha
      injection ha with ha
      injection ha with ha
      rw [← ha]
      rw [List.getElem?_set_ne n] at hb
      exact h2 j b n hb
    · rw [List.getElem?_set_ne ei] at ha
      by_cases ej : s = j
      · subst ej
        have hi := (List.getElem?_eq_some_iff.mp hb).1
        rw [List.length_set] at hi
        rw [List.getElem?_set_self hi] at hb
        injection hb with hb
        injection hb with hb
        rw [← hb]
        exact (h2 i a ei ha).sym
      · rw [List.getElem?_set_ne ej] at hb
        exact h.two i j a b n ha hb
/-- another thing at the same place -/
theorem Apt.alike {G : Gm} {sl : List (Option Tg)} {s : Nat} {t u : Tg} (h : Apt G sl) (hs : sl[s]? = some (some t)) (e1 : u.k = t.k) (e2 : u.hs = t.hs) (e3 : u.x = t.x) (e4 : u.y = t.y) : Apt G (sl.set s (some u)) := by
  have ebx : G.bx u = G.bx t := by unfold Gm.bx Tg.box; rw [e1, e3, e4]
  have ehs : ∀ n, G.hs u n = G.hs t n := fun n => by unfold Gm.hs; rw [e1]
  have o := h.one t (List.mem_of_getElem? hs)
  refine h.put ⟨by rw [e1]; exact o.k, by rw [e2]; exact o.h1, by rw [e2]; exact o.h2, by rw [ebx]; exact o.fr, by rw [e4]; exact o.y2, by rw [ebx]; exact o.lm⟩ fun j b n hb => ?_
  unfold Put2
  rw [ebx, ehs]
  exact h.two s j t b n hs hb
theorem Apt.sts {G : Gm} {sl : List (Option Tg)} (h : Apt G sl) (n : Nat) (hn : n ≤ 12) : StR G ((sl.filterMap id).take n) := by
  refine ⟨by rw [List.length_take]; omega, fun t m => ?_, ?_⟩
  · obtain ⟨o, ho, e⟩ := List.mem_filterMap.mp (List.mem_of_mem_take m)
    have e : o = some t := e
    rw [e] at ho
    exact h.one t ho
  · refine List.Pairwise.sublist (List.take_sublist _ _) ?_
    rw [List.pairwise_filterMap]
    refine List.pairwise_iff_getElem.mpr fun i j hi hj n b hb b' hb' => ?_
    have hb : sl[i] = some b := hb
    have hb' : sl[j] = some b' := hb'
    exact h.two i j b b' (by omega) (by rw [List.getElem?_eq_getElem hi, hb]) (by rw [List.getElem?_eq_getElem hj, hb'])
end K27
set_option maxRecDepth 100000
set_option maxHeartbeats 4000000
/-! Kinds, drawn. -/
namespace K27
open PySem PySem.Spec PyProof.Rows L2 KF KD KP
theorem pot_tf {d : Addr} {H H' : Hp} (f : Frm d H H') (h : Pot H d) : TF H H' := fun c ys z => by
  obtain ⟨xs, hd⟩ := h.lst
  rcases z with z | ⟨u, z⟩
  · exact .inl (f c _ (fun q => by rw [q, hd] at z; cases z) z)
  · exact .inr ⟨u, f c _ (fun q => by rw [q, hd] at z; cases z) z⟩
section
variable {P : Program} {w : World} {K : PySem.W.Frag} {mg : Str → Option Value} {base : Heap}
def spKd (K : PySem.W.Frag) : Sp := fun vs H Q _ => ∃ (d : Addr) (j : Nat) (ru : Addr), vs = [.ref d, .int (j : Int), .ref ru] ∧ j ≤ 7 ∧ SqT K H ru [] ∧ Pot H d ∧ ∀ (a : Addr) (kd : Kd) H', Frm d H H' → Pot H' d → KxAt K H' (.ref a) kd → KdR j kd → Q (.ref a) H'
theorem scKd : FnScope ["pot", "k", "rules", "sizes", "wide", "high", "mask", "names", "traits", "own", "i"] ["pot", "k", "rules"] (defScope s_law_kind) := ⟨rfl, rfl, rfl, by decide +kernel, rfl, by decide +kernel, by decide +kernel⟩
theorem ok_law_kind (T : Txt K w mg) : FnOk P w K mg base CX0 2 (He.fAd K ("_law_kind", none)) (fdAt K (He.fAd K ("_law_kind", none))) ["pot", "k", "rules"] (spKd K) := by
  refine T.F_law_kind.ok scKd (fun vs H Q E h => ?_) (fun cdv A outer s H vs Q E hr h => ?_)
  · obtain ⟨d, j, ru, rfl, _⟩ := h
    rfl
  · obtain ⟨d, j, ru, rfl, j7, hru, hd, k⟩ := h
    refine ⟨_, PSs.nox (pss_cons (ps_set (i := 3) scKd.nd rfl (Or.inl rfl) (pe_lst (pa_cons pe_int (pa_cons pe_int (pa_cons pe_int (pa_cons (pe_op op_add pe_int (pe_call (ok_law_take T) (hr.mono (by first | decide | omega)) (by rfl) T.g_law_take (T.F_law_take).kp T.b_law_take .nil pass0 (pa_cons (pv 0) (pa_cons pe_int pa_nil)))) (pa_cons pe_int pa_nil)))))))
      (pss_cons (ps_set (i := 4) scKd.nd rfl (Or.inl rfl) (pe_ix (r := rIxL K) ix_list (pv 3) (pe_call (ok_law_take T) (hr.mono (by first | decide | omega)) (by rfl) T.g_law_take (T.F_law_take).kp T.b_law_take .nil pass0 (pa_cons (pv 0) (pa_cons pe_int pa_nil))) (fun _ _ => rfl)))
      (pss_cons (ps_set (i := 3) scKd.nd rfl (Or.inl rfl) (pe_lst (pa_cons pe_int (pa_cons pe_int (pa_cons pe_int (pa_cons (pe_op op_add pe_int (pe_call (ok_law_take T) (hr.mono (by first | decide | omega)) (by rfl) T.g_law_take (T.F_law_take).kp T.b_law_take .nil pass0 (pa_cons (pv 0) (pa_cons pe_int pa_nil)))) (pa_cons pe_int pa_nil)))))))
      (pss_cons (ps_set (i := 5) scKd.nd rfl (Or.inl rfl) (pe_ix (r := rIxL K) ix_list (pv 3) (pe_call (ok_law_take T) (hr.mono (by first | decide | omega)) (by rfl) T.g_law_take (T.F_law_take).kp T.b_law_take .nil pass0 (pa_cons (pv 0) (pa_cons pe_int pa_nil))) (fun _ _ => rfl)))
      (pss_cons (ps_set (i := 6) scKd.nd rfl (Or.inr rfl) (pe_call (ok_law_take T) (hr.mono (by first | decide | omega)) (by rfl) T.g_law_take (T.F_law_take).kp T.b_law_take .nil pass0 (pa_cons (pv 0) (pa_cons pe_int pa_nil))))
      (pss_cons (ps_if (pt_cmpR op_gt (pe_call (ok_law_take T) (hr.mono (by first | decide | omega)) (by rfl) T.g_law_take (T.F_law_take).kp T.b_law_take .nil pass0 (pa_cons (pv 0) (pa_cons pe_int pa_nil))) pe_int (nomark _)) (pss_one (ps_set (i := 6) scKd.nd rfl (Or.inr rfl) (pe_op op_or (pv 6) pe_int))) pss_nil)
      (pss_cons (ps_if (pt_cmpR op_ne (pe_op op_and (pv 6) pe_int) pe_int (nomark _)) (pss_one (ps_set (i := 6) scKd.nd rfl (Or.inr rfl) (pe_op op_or (pv 6) pe_int))) pss_nil)
      (pss_cons (ps_set (i := 7) scKd.nd rfl (Or.inr rfl) (pe_lst (pa_cons pe_str (pa_cons pe_str (pa_cons pe_str (pa_cons pe_str (pa_cons pe_str pa_nil)))))))
      (pss_cons (ps_set (i := 8) scKd.nd rfl (Or.inl rfl) (pe_callTy call_tuple_of (by rfl) T.n_tuple PyProof.Rows.Boot.«tuple» (pa_cons (pe_lc (own := [("i", 10)]) (g := gName 10) (by rfl) scKd.nd (pi_range1 (by rfl) T.n_range (pa_cons pe_int pa_nil)) (blkOk_by (own := [("i", 10)]) (N := ["pot", "k", "rules", "sizes", "wide", "high", "mask", "names", "traits", "own", "i"]) (sc := defScope s_law_kind) (by decide +kernel)) (fun _ _ _ _ _ => pg_name (i := 10) scKd.nd rfl (Or.inl rfl)) (fun _ _ _ _ _ => pts_one (pt_cmpR op_eq (pe_op op_and (pe_op op_shr (pv 6) (pv 10)) pe_int) pe_int (nomark _))) (fun _ _ _ _ _ => (pe_ix (r := rIxL K) ix_list (pv 7) (pv 10) (fun _ _ => rfl)))) pa_nil)))
      (pss_cons (ps_set (i := 9) scKd.nd rfl (Or.inl rfl) (pe_callTy call_tuple_of (by rfl) T.n_tuple PyProof.Rows.Boot.«tuple» (pa_cons (pe_lc (own := [("i", 10)]) (g := gName 10) (tt := tYes) (by rfl) scKd.nd (pi_range1 (by rfl) T.n_range (pa_cons pe_int pa_nil)) (blkOk_by (own := [("i", 10)]) (N := ["pot", "k", "rules", "sizes", "wide", "high", "mask", "names", "traits", "own", "i"]) (sc := defScope s_law_kind) (by decide +kernel)) (fun _ _ _ _ _ => pg_name (i := 10) scKd.nd rfl (Or.inl rfl)) (fun _ _ _ _ _ => pts_nil) (fun _ _ _ _ _ => (pe_op op_sub (pe_call (ok_law_take T) (hr.mono (by first | decide | omega)) (by rfl) T.g_law_take (T.F_law_take).kp T.b_law_take .nil pass0 (pa_cons (pv 0) (pa_cons pe_int pa_nil))) pe_int))) pa_nil)))
      (pss_one (ps_ret (pe_tup (pa_cons (pe_op op_mulS (pe_ix ix_str pe_str (pv 1) (fun _ _ => rfl)) (pe_op op_add pe_int (pe_call (ok_law_take T) (hr.mono (by first | decide | omega)) (by rfl) T.g_law_take (T.F_law_take).kp T.b_law_take .nil pass0 (pa_cons (pv 0) (pa_cons pe_int pa_nil))))) (pa_cons (pv 4) (pa_cons (pv 5) (pa_cons (pv 8) (pa_cons (pv 9) (pa_cons (pv 2) pa_nil))))))))))))))))))), ?_⟩
    have five : ∀ {a b c x e y : Int}, 0 ≤ y → y < 5 → (1 ≤ a ∧ a ≤ 16) → (1 ≤ b ∧ b ≤ 16) → (1 ≤ c ∧ c ≤ 16) → (1 ≤ x ∧ x ≤ 16) → (1 ≤ e ∧ e ≤ 16) → ∃ z : Int, atI [V.int a, V.int b, V.int c, V.int x, V.int e] y = some (.int z) ∧ 1 ≤ z ∧ z ≤ 16 := fun {a b c x e y} y0 y1 h1 h2 h3 h4 h5 => by
      obtain ⟨n, rfl⟩ := Int.eq_ofNat_of_zero_le y0
      have hn : n = 0 ∨ n = 1 ∨ n = 2 ∨ n = 3 ∨ n = 4 := by omega
      rcases hn with rfl | rfl | rfl | rfl | rfl
      · exact ⟨a, atI_nat rfl, h1⟩
      · exact ⟨b, atI_nat rfl, h2⟩
      · exact ⟨c, atI_nat rfl, h3⟩
      · exact ⟨x, atI_nat rfl, h4⟩
      · exact ⟨e, atI_nat rfl, h5⟩
    refine seq_cut (fun σ' H' => ∃ v3 : V, σ' = [some (.ref d), some (.int (j : Int)), some (.ref ru), some v3, none, none, none, none, none, none, none] ∧ (∃ x : Int, 1 ≤ x ∧ x ≤ 16 ∧ ∃ q : Addr, v3 = .ref q ∧ q ≠ d ∧ H' q = some (.lst [.int 8, .int 8, .int 4, .int x, .int 16])) ∧ Frm d H H' ∧ Pot H' d) (fun σ' H1 hP => ?_) (fun R hR => ?_)
    rotate_left
    · refine ⟨_, rfl, d, 16, rfl, by decide, by decide, hd, fun x H1 x0 x1 f1 d1 => ⟨_, _, rfl, rfl, (show 5 ≤ sizeLine by decide), fun q nq => hR _ _ ⟨_, rfl, ⟨1 + x, by omega, by omega, q, rfl, d1.ne nq, upd_same⟩, frm_new f1 (by
        cases e : H q with
        | none => rfl
        | some z => exact absurd ((f1 _ _ (d1.ne nq) e).symm.trans nq) (by simp)), d1.upd (d1.ne nq)⟩⟩⟩
    obtain ⟨v3, rfl, ⟨x, x1, x2, q, rfl, qd, hq⟩, f1, d1⟩ := hP
    refine seq_cut (fun σ' H' => ∃ (v3 : V) (wd : Int), σ' = [some (.ref d), some (.int (j : Int)), some (.ref ru), some v3, some (.int wd), none, none, none, none, none, none] ∧ 1 ≤ wd ∧ wd ≤ 16 ∧ Frm d H H' ∧ Pot H' d) (fun σ' H2 hP => ?_) (fun R hR => ?_)
    rotate_left
    · refine ⟨_, rfl, _, rfl, d, 5, rfl, by decide, by decide, d1, fun y H2 y0 y1 f2 d2 => ?_⟩
      obtain ⟨z, ez, z1, z2⟩ := five (a := 8) (b := 8) (c := 4) (x := x) (e := 16) y0 y1 (by decide) (by decide) (by decide) ⟨x1, x2⟩ (by decide)
      exact ⟨q, _, _, _, rfl, rfl, SqL.of (f2 _ _ qd hq), ez, hR _ _ ⟨_, z, rfl, z1, z2, f1.trans f2, d2⟩⟩
    clear hq f1 d1
    obtain ⟨v3, wd, rfl, w1, w2, f1, d1⟩ := hP
    refine seq_cut (fun σ' H' => ∃ v3 : V, σ' = [some (.ref d), some (.int (j : Int)), some (.ref ru), some v3, some (.int wd), none, none, none, none, none, none] ∧ (∃ x : Int, 1 ≤ x ∧ x ≤ 16 ∧ ∃ q : Addr, v3 = .ref q ∧ q ≠ d ∧ H' q = some (.lst [.int 8, .int 8, .int 6, .int x, .int 16])) ∧ Frm d H H' ∧ Pot H' d) (fun σ' H1 hP => ?_) (fun R hR => ?_)
    rotate_left
    · refine ⟨_, rfl, d, 16, rfl, by decide, by decide, d1, fun x H1 x0 x1 f2 d2 => ⟨_, _, rfl, rfl, (show 5 ≤ sizeLine by decide), fun q nq => hR _ _ ⟨_, rfl, ⟨1 + x, by omega, by omega, q, rfl, d2.ne nq, upd_same⟩, frm_new (f1.trans f2) (by
        cases e : H q with
        | none => rfl
        | some z => exact absurd (((f1.trans f2) _ _ (d2.ne nq) e).symm.trans nq) (by simp)), d2.upd (d2.ne nq)⟩⟩⟩
    clear x1 x2 qd f1 d1
    obtain ⟨v3, rfl, ⟨x, x1, x2, q, rfl, qd, hq⟩, f1, d1⟩ := hP
    refine seq_cut (fun σ' H' => ∃ (v3 : V) (hg : Int), σ' = [some (.ref d), some (.int (j : Int)), some (.ref ru), some v3, some (.int wd), some (.int hg), none, none, none, none, none] ∧ 1 ≤ hg ∧ hg ≤ 16 ∧ Frm d H H' ∧ Pot H' d) (fun σ' H2 hP => ?_) (fun R hR => ?_)
    rotate_left
    · refine ⟨_, rfl, _, rfl, d, 5, rfl, by decide, by decide, d1, fun y H2 y0 y1 f2 d2 => ?_⟩
      obtain ⟨z, ez, z1, z2⟩ := five (a := 8) (b := 8) (c := 6) (x := x) (e := 16) y0 y1 (by decide) (by decide) (by decide) ⟨x1, x2⟩ (by decide)
      exact ⟨q, _, _, _, rfl, rfl, SqL.of (f2 _ _ qd hq), ez, hR _ _ ⟨_, z, rfl, z1, z2, f1.trans f2, d2⟩⟩
    clear hq f1 d1
    obtain ⟨v3, hg, rfl, g1, g2, f1, d1⟩ := hP
    refine seq_cut (fun σ' H' => ∃ m : Int, σ' = [some (.ref d), some (.int (j : Int)), some (.ref ru), some v3, some (.int wd), some (.int hg), some (.int m), none, none, none, none] ∧ (0 ≤ m ∧ m < 32) ∧ Frm d H H' ∧ Pot H' d) (fun σ' H2 hP => ?_) (fun R hR => ?_)
    rotate_left
    · exact ⟨_, rfl, d, 32, rfl, by decide, by decide, d1, fun y H2 y0 y1 f2 d2 => hR _ _ ⟨y, rfl, ⟨y0, y1⟩, f1.trans f2, d2⟩⟩
    clear f1 d1
    obtain ⟨m, rfl, mb, f1, d1⟩ := hP
    refine seq_cut (fun σ' H' => ∃ m : Int, σ' = [some (.ref d), some (.int (j : Int)), some (.ref ru), some v3, some (.int wd), some (.int hg), some (.int m), none, none, none, none] ∧ (0 ≤ m ∧ m < 32) ∧ Frm d H H' ∧ Pot H' d) (fun σ' H2 hP => ?_) (fun R hR => ?_)
    rotate_left
    · refine ⟨_, rfl, d, 3, rfl, by decide, by decide, d1, fun y H2 y0 y1 f2 d2 => ⟨_, _, rfl, rfl, _, rfl, ite2 (fun _ => ?_) (fun _ => ?_)⟩⟩
      · exact ⟨_, rfl, _, _, rfl, rfl, hR _ _ ⟨_, rfl, mask5' mb.1 mb.2, f1.trans f2, d2⟩⟩
      · exact hR _ _ ⟨m, rfl, mb, f1.trans f2, d2⟩
    clear f1 d1
    obtain ⟨m, rfl, mb, f1, d1⟩ := hP
    refine seq_cut (fun σ' H' => ∃ m : Int, σ' = [some (.ref d), some (.int (j : Int)), some (.ref ru), some v3, some (.int wd), some (.int hg), some (.int m), none, none, none, none] ∧ m ∈ masks ∧ Frm d H H' ∧ Pot H' d) (fun σ' H2 hP => ?_) (fun R hR => ?_)
    rotate_left
    · have m2 := mask_in mb.1 mb.2
      unfold mask2 at m2
      refine ⟨_, rfl, _, _, rfl, rfl, rfl, _, rfl, ite2 (fun z => ?_) (fun z => ?_)⟩
      · have z : ¬ Builtin.bitAnd m 18 = 0 := fun e => by
          have z : (!decide (V.int (Builtin.bitAnd m 18) = V.int 0)) = true := z
          rw [decide_eq_true (show V.int (Builtin.bitAnd m 18) = V.int 0 from congrArg V.int e)] at z
          cases z
        rw [if_neg z] at m2
        exact ⟨_, rfl, _, _, rfl, rfl, hR _ _ ⟨_, rfl, m2, f1, d1⟩⟩
      · have z : Builtin.bitAnd m 18 = 0 := Decidable.byContradiction fun e => z (by
          dsimp only
          rw [decide_eq_false (fun q => e (V.int.inj q))]
          rfl)
        rw [if_pos z] at m2
        exact hR _ _ ⟨m, rfl, m2, f1, d1⟩
    clear f1 d1 mb
    obtain ⟨m, rfl, mb, f1, d1⟩ := hP
    refine ⟨(show 5 ≤ sizeLine by decide), fun pn npn => ?_⟩
    have sn := new_same (o := .lst (trn.map V.str)) npn
    have hpn : (upd H2 pn (.lst (trn.map V.str))) pn = some (.lst (trn.map V.str)) := upd_same
    have pnd := d1.ne npn
    have f2 := f1.trans (Frm.of_same sn)
    have d2 := d1.same sn
    refine ⟨_, rfl, by decide, by decide, fun D hD => ?_⟩
    refine lc_it (walk_r0 (n := 5)) (fun i H3 => Same (upd H2 pn (.lst (trn.map V.str))) H3 ∧ H3 D = some (.lst ((trOf m i).map V.str))) ⟨new_same hD, upd_same⟩ (fun _ _ _ _ => trivial) (fun i v H3 Hz hi h yy => ?_) (fun H3 h => ?_)
    · obtain ⟨rfl, rfl⟩ := yy
      obtain ⟨s3, hl⟩ := h
      have hlen : (trOf m i).length ≤ i := by
        unfold trOf
        rw [List.length_map]
        exact Nat.le_trans (List.length_filter_le _ _) (by rw [List.length_range]; exact Nat.le_refl _)
      have b2 : (trn.map V.str)[i]? = some (.str (trn[i]'hi)) := by rw [List.getElem?_map, List.getElem?_eq_getElem (show i < trn.length from hi)]; rfl
      have st := trOf_step (m := m) (show i < 5 from hi)
      rw [show trn.getD i (Str.ofString "") = trn[i]'hi from by rw [List.getD_eq_getElem?_getD, List.getElem?_eq_getElem (show i < trn.length from hi)]; rfl] at st
      refine ⟨rfl, _, rfl, _, rfl, _, _, rfl, rfl, Int.natCast_nonneg i, _, _, rfl, rfl, rfl, _, rfl, ?_⟩
      have eB : trB m i = decide ((fun i j => V.int (Builtin.bitAnd i j)) (m / 2 ^ ((i : Nat) : Int).toNat) 1 = V.int 1) := by
        unfold trB
        rw [Int.toNat_natCast]
        dsimp only
        exact decide_eq_decide.mpr ⟨congrArg V.int, V.int.inj⟩
      refine ite2 (fun z => ?_) (fun z => ⟨s3, ?_⟩)
      · rw [if_pos (eB.trans z)] at st
        refine ⟨_, rfl, _, rfl, pn, _, _, _, rfl, rfl, SqL.of (s3 _ _ hpn), atI_nat b2, _, hl, Nat.lt_of_le_of_lt (show ((trOf m i).map V.str).length ≤ 24 by rw [List.length_map]; omega) (by decide), fun c o z => ?_, ?_⟩
        · rw [upd_ne (ne_of_none z hD)]
          exact s3 _ _ z
        · rw [st, List.map_append]
          exact upd_same
      · rw [st, if_neg (fun e => z (eB.symm.trans e))]
        exact hl
    obtain ⟨s3, hl⟩ := h
    obtain ⟨ts, hts⟩ : ∃ ts, ts = trOf m 5 := ⟨_, rfl⟩
    rw [← hts] at hl
    have htr : ts ∈ trAll := by rw [hts]; exact List.mem_map_of_mem mb
    refine ⟨D, _, rfl, .inl ⟨SqL.of hl, fun tt ntt => ?_⟩⟩
    have st := new_same (o := .tup (ts.map V.str)) ntt
    have htt : SqT K (upd H3 tt (.tup (ts.map V.str))) tt (ts.map V.str) := SqT.of upd_same
    have f4 := f2.trans (Frm.of_same (s3.trans st))
    have d4 := d2.same (s3.trans st)
    obtain ⟨H4, hH4⟩ : ∃ H4, H4 = upd H3 tt (.tup (ts.map V.str)) := ⟨_, rfl⟩
    rw [← hH4] at htt f4 d4
    show gName 8 _ _ (upd H3 tt (.tup (ts.map V.str))) _
    rw [← hH4]
    refine ⟨_, rfl, by decide, by decide, fun D2 hD2 => ?_⟩
    have D2d := d4.ne hD2
    refine lc_it (walk_r0 (n := 4)) (fun i H5 => ∃ us : List Int, Frm d H4 H5 ∧ Pot H5 d ∧ H5 D2 = some (.lst (us.map V.int)) ∧ us.length = i ∧ ∀ x ∈ us, -999 ≤ x ∧ x ≤ 999) ⟨[], frm_new (Frm.refl _ _) hD2, d4.upd D2d, upd_same, rfl, fun _ m => (List.not_mem_nil m).elim⟩ (fun _ _ _ _ => trivial) (fun i v H5 Hz hi h yy => ?_) (fun H5 h => ?_)
    · obtain ⟨rfl, rfl⟩ := yy
      obtain ⟨us, f5, d5, hl5, hlen5, hus⟩ := h
      refine ⟨rfl, ?_⟩
      dsimp only [tYes]
      rw [if_pos rfl]
      exact ⟨_, rfl, d, 1999, rfl, by decide, by decide, d5, fun y H6 y0 y1 f6 d6 => ⟨_, _, rfl, rfl, us.map V.int, f6 _ _ D2d hl5, Nat.lt_of_le_of_lt (show (us.map V.int).length ≤ 24 by rw [List.length_map]; omega) (by decide), us ++ [y - 999], frm_new (f5.trans f6) hD2, d6.upd D2d, by rw [upd_same, List.map_append]; rfl, by simp [hlen5], fun x m => by
        rcases List.mem_append.mp m with m | m
        · exact hus x m
        · rw [List.mem_singleton.mp m]
          omega⟩⟩
    obtain ⟨us, f5, d5, hl5, hlen5, hus⟩ := h
    refine ⟨D2, _, rfl, .inl ⟨SqL.of hl5, fun ow now => ?_⟩⟩
    have f6 := (f4.trans f5).trans (Frm.of_same (new_same (o := .tup (us.map V.int)) now))
    have d6 := d5.same (new_same (o := .tup (us.map V.int)) now)
    have how6 : SqT K (upd H5 ow (.tup (us.map V.int))) ow (us.map V.int) := SqT.of upd_same
    have htt6 := (pot_tf (f5.trans (Frm.of_same (new_same (o := .tup (us.map V.int)) now))) d4).sq htt
    have hc : atI (Str.ofString "abcdefgh").cps.toList (j : Int) = some (97 + j) := atI_nat (lets8 ⟨j, by omega⟩)
    refine ⟨_, rfl, _, _, (97 + j), rfl, rfl, by decide, hc, ?_⟩
    refine ⟨_, rfl, d, 8, rfl, by decide, by decide, d6, fun y H7 y0 y1 f7 d7 => ?_⟩
    obtain ⟨n, rfl⟩ := Int.eq_ofNat_of_zero_le y0
    refine ⟨_, _, rfl, rfl, ⟨#[97 + j]⟩, n + 1, rfl, congrArg V.int (show (1 : Int) + (n : Int) = ((n + 1 : Nat) : Int) by omega), by omega, by omega, Nat.le_refl 1, (show 1 ≤ 1000 by decide), fun z hz hzc => ?_⟩
    refine ⟨_, rfl, _, rfl, _, rfl, _, rfl, _, rfl, (show 6 ≤ sizeLine by decide), fun a na => ?_⟩
    have s8 := new_same (o := .tup [V.str z, .int wd, .int hg, .ref tt, .ref ow, .ref ru]) na
    have htt8 := (same_tf s8).sq ((pot_tf f7 d6).sq htt6)
    have how8 := (same_tf s8).sq ((pot_tf f7 d6).sq how6)
    have F8 := (f6.trans f7).trans (Frm.of_same s8)
    have hz1 : z.length = n + 1 := by
      rw [hz]
      exact Nat.mul_one _
    exact k a ⟨z, wd, hg, ts⟩ _ F8 (d7.same s8) ⟨a, tt, ow, ru, us, rfl, SqT.of upd_same, htt8, how8, hlen5, hus, (pot_tf F8 hd).sq hru⟩ ⟨by show 1 ≤ z.length; omega, by show z.length ≤ 8; omega, fun c m => by simpa using hzc c m, w1, w2, g1, g2, htr⟩
end
end K27
set_option maxRecDepth 100000
set_option maxHeartbeats 4000000
/-! Games, drawn. -/
namespace K27
open PySem PySem.Spec PyProof.Rows L2 KF KD KP
def KdsOk (l : List Kd) : Prop := 1 ≤ l.length ∧ l.length ≤ 8 ∧ ∀ (i : Nat) (k : Kd), l[i]? = some k → KdR i k
theorem KdsOk.kw {l : List Kd} (h : KdsOk l) : ∀ k ∈ l, 1 ≤ k.w ∧ k.w ≤ 16 ∧ 1 ≤ k.h ∧ k.h ≤ 16 ∧ k.tr.length ≤ 5 := fun k m => by
  obtain ⟨i, hi⟩ := List.mem_iff_getElem?.mp m
  have r := h.2.2 i k hi
  exact ⟨r.w1, r.w2, r.h1, r.h2, trAll_len _ r.tr⟩
section
variable {P : Program} {w : World} {K : PySem.W.Frag} {mg : Str → Option Value} {base : Heap}
def spGm (K : PySem.W.Frag) : Sp := fun vs H Q _ => ∃ (d : Addr) (ks : V) (gr : Int) (kds : List Kd), vs = [.ref d, ks, .int gr] ∧ 0 < gr ∧ gr < 1000 ∧ KdsOk kds ∧ KxsAt K H ks kds ∧ Pot H d ∧ ∀ (v : V) (G : Gm) (pu : Int) H', Frm d H H' → Pot H' d → G.right → 0 ≤ pu → pu ≤ 3 → GxAt K H' v G [] pu → Q v H'
theorem scGm : FnScope ["pot", "kinds", "great", "high", "wide", "rows", "houses"] ["pot", "kinds", "great"] (defScope s_law_game) := ⟨rfl, rfl, rfl, by decide +kernel, rfl, by decide +kernel, by decide +kernel⟩
theorem ok_law_game (T : Txt K w mg) : FnOk P w K mg base CX0 3 (He.fAd K ("_law_game", none)) (fdAt K (He.fAd K ("_law_game", none))) ["pot", "kinds", "great"] (spGm K) := by
  refine T.F_law_game.ok scGm (fun vs H Q E h => ?_) (fun cdv A outer s H vs Q E hr h => ?_)
  · obtain ⟨d, ks, gr, kds, rfl, _⟩ := h
    rfl
  · obtain ⟨d, ks, gr, kds, rfl, g0, g1, kok, hks, hd, k⟩ := h
    refine ⟨_, PSs.nox (pss_cons (ps_par (i := 3) (j := 4) (by rfl) scGm.nd rfl rfl (by decide) rfl rfl (pa_cons (pe_op op_add pe_int (pe_call (ok_law_take T) (hr.mono (by first | decide | omega)) (by rfl) T.g_law_take (T.F_law_take).kp T.b_law_take .nil pass0 (pa_cons (pv 0) (pa_cons pe_int pa_nil)))) (pa_cons (pe_op op_add pe_int (pe_call (ok_law_take T) (hr.mono (by first | decide | omega)) (by rfl) T.g_law_take (T.F_law_take).kp T.b_law_take .nil pass0 (pa_cons (pv 0) (pa_cons pe_int pa_nil)))) pa_nil)) (by rfl))
      (pss_cons (ps_if (pt_cmpR op_eq (pe_call (ok_law_take T) (hr.mono (by first | decide | omega)) (by rfl) T.g_law_take (T.F_law_take).kp T.b_law_take .nil pass0 (pa_cons (pv 0) (pa_cons (pv 2) pa_nil))) pe_int (nomark _)) (pss_one (ps_par (i := 3) (j := 4) (by rfl) scGm.nd rfl rfl (by decide) rfl rfl (pa_cons (pe_op op_add pe_int (pe_call (ok_law_take T) (hr.mono (by first | decide | omega)) (by rfl) T.g_law_take (T.F_law_take).kp T.b_law_take .nil pass0 (pa_cons (pv 0) (pa_cons pe_int pa_nil)))) (pa_cons (pe_op op_add pe_int (pe_call (ok_law_take T) (hr.mono (by first | decide | omega)) (by rfl) T.g_law_take (T.F_law_take).kp T.b_law_take .nil pass0 (pa_cons (pv 0) (pa_cons pe_int pa_nil)))) pa_nil)) (by rfl))) pss_nil)
      (pss_cons (ps_set (i := 5) scGm.nd rfl (Or.inl rfl) (pe_call (ok_law_rows T) (hr.mono (by first | decide | omega)) (by rfl) T.g_law_rows (T.F_law_rows).kp T.b_law_rows .nil pass0 (pa_cons (pv 0) (pa_cons (pv 3) (pa_cons (pv 4) pa_nil)))))
      (pss_cons (ps_set (i := 6) scGm.nd rfl (Or.inl rfl) (pe_op op_add pe_int (pe_call (ok_law_take T) (hr.mono (by first | decide | omega)) (by rfl) T.g_law_take (T.F_law_take).kp T.b_law_take .nil pass0 (pa_cons (pv 0) (pa_cons pe_int pa_nil)))))
      (pss_one (ps_ret (pe_tup (pa_cons (pe_tup (pa_cons (pv 5) (pa_cons (pe_tup pa_nil) (pa_cons (pv 6) (pa_cons (pe_call (ok_law_take T) (hr.mono (by first | decide | omega)) (by rfl) T.g_law_take (T.F_law_take).kp T.b_law_take .nil pass0 (pa_cons (pv 0) (pa_cons pe_int pa_nil))) pa_nil))))) (pa_cons (pv 1) pa_nil))))))))), ?_⟩
    refine seq_cut (fun σ' H' => ∃ W h : Int, σ' = [some (.ref d), some ks, some (.int gr), some (.int h), some (.int W), none, none] ∧ 4 ≤ W ∧ W ≤ 24 ∧ 3 ≤ h ∧ h ≤ 16 ∧ Frm d H H' ∧ Pot H' d) (fun σ' H' hP => ?_) (fun R hR => ?_)
    rotate_left
    · refine ⟨_, rfl, d, 6, rfl, by decide, by decide, hd, fun x1 H1 a0 a1 f1' d1' => ⟨_, _, rfl, rfl, _, rfl, d, 9, rfl, by decide, by decide, d1', fun x2 H2 b0 b1 f2 d2 => ⟨_, _, rfl, rfl, ?_⟩⟩⟩
      exact ⟨_, _, rfl, hR _ _ ⟨_, _, rfl, by omega, by omega, by omega, by omega, f1'.trans f2, d2⟩⟩
    obtain ⟨W0, h0, rfl, w1, w2, h1, h2, f1, d1⟩ := hP
    refine seq_cut (fun σ' H' => ∃ W h : Int, σ' = [some (.ref d), some ks, some (.int gr), some (.int h), some (.int W), none, none] ∧ 4 ≤ W ∧ W ≤ 24 ∧ 3 ≤ h ∧ h ≤ 16 ∧ Frm d H H' ∧ Pot H' d) (fun σ' H'' hP => ?_) (fun R hR => ?_)
    rotate_left
    · refine ⟨_, rfl, _, rfl, d, gr, rfl, g0, by omega, d1, fun y H1 y0 y1 f0 d0 => ⟨rfl, _, rfl, ite2 (fun z => ?_) (fun z => hR _ _ ⟨_, _, rfl, w1, w2, h1, h2, f1.trans f0, d0⟩)⟩⟩
      refine ⟨_, rfl, d, 14, rfl, by decide, by decide, d0, fun x1 H1 a0 a1 f1' d1' => ⟨_, _, rfl, rfl, _, rfl, d, 21, rfl, by decide, by decide, d1', fun x2 H2 b0 b1 f2 d2 => ⟨_, _, rfl, rfl, ?_⟩⟩⟩
      exact ⟨_, _, rfl, hR _ _ ⟨_, _, rfl, by omega, by omega, by omega, by omega, (f1.trans f0).trans (f1'.trans f2), d2⟩⟩
    clear w1 w2 h1 h2 d1 f1
    obtain ⟨W1, h1, rfl, w1, w2, h1', h2, f1, d1⟩ := hP
    obtain ⟨W, rfl⟩ := Int.eq_ofNat_of_zero_le (show 0 ≤ W1 by omega)
    obtain ⟨h, rfl⟩ := Int.eq_ofNat_of_zero_le (show 0 ≤ h1 by omega)
    refine ⟨_, rfl, _, rfl, _, rfl, d, h, W, rfl, by omega, by omega, d1, fun rs rows H2 f2 d2 hrs rl rw' => ?_⟩
    refine ⟨_, rfl, d, 4, rfl, by decide, by decide, d2, fun y H3 y0 y1 f3 d3 => ⟨_, _, rfl, rfl, ?_⟩⟩
    refine ⟨_, rfl, (show 0 ≤ sizeLine by decide), fun st nst => ⟨_, rfl, _, rfl, d, 4, rfl, by decide, by decide, d3.same (new_same nst), fun pu H4 pu0 pu1 f4 d4 => ⟨(show 4 ≤ sizeLine by decide), fun lv nlv => ⟨_, rfl, (show 2 ≤ sizeLine by decide), fun ga nga => ?_⟩⟩⟩⟩
    have fA := ((f1.trans f2).trans f3).trans ((Frm.of_same (new_same (o := .tup []) nst)).trans f4)
    have s5 := new_same (o := .tup [V.ref rs, .ref st, .int (1 + y), .int pu]) nlv
    have s6 := new_same (o := .tup [V.ref lv, ks]) nga
    have fB := fA.trans (Frm.of_same (s5.trans s6))
    have tfr := (pot_tf f3 d2).trans ((same_tf (new_same (o := .tup []) nst)).trans ((pot_tf f4 (d3.same (new_same nst))).trans (same_tf (s5.trans s6))))
    have tfs := (pot_tf f4 (d3.same (new_same (o := .tup []) nst))).trans (same_tf (s5.trans s6))
    have okG : (Gm.mk rows W (1 + y) kds).ok := ⟨by show 1 ≤ rows.length; omega, by show rows.length ≤ 16; omega, fun r m => (rw' r m).1, by show 1 ≤ W; omega, by show W ≤ 24; omega, by show 1 ≤ 1 + y; omega, by show 1 + y ≤ 4; omega, kok.2.1, kok.kw⟩
    refine k (.ref ga) ⟨rows, W, 1 + y, kds⟩ pu _ fB (d4.same (s5.trans s6)) ⟨okG, by show 3 ≤ rows.length; omega, by show rows.length ≤ 16; omega, by show 4 ≤ W; omega, by show W ≤ 24; omega, fun r m => (rw' r m).2, kok.1, kok.2.2⟩ pu0 (by omega) ⟨ga, .ref lv, ks, rfl, SqT.of upd_same, ⟨lv, rs, .ref st, rfl, (same_tf s6).sq (SqT.of upd_same), tfr.sq hrs, ⟨st, [], rfl, tfs.sq (SqT.of upd_same), rfl, fun i t z => by cases z⟩⟩, KxsAt.tf hks (pot_tf fB hd)⟩
theorem cutV_take {xs : List V} {n : Nat} (h : n ≤ xs.length) : cutV xs none (some (n : Int)) = xs.take n := by
  unfold cutV
  rw [HT.sIx_nat, HT.sIx_none, List.drop_zero, Nat.sub_zero, Nat.min_eq_left h]
/-- values of starts -/
def SvOk (K : PySem.W.Frag) (H : Hp) (sv : List V) (st : List Tg) : Prop := sv.length = st.length ∧ ∀ (i : Nat) (t : Tg), st[i]? = some t → ∃ x : V, sv[i]? = some x ∧ StAt K H x t
theorem SvOk.nil {K : PySem.W.Frag} {H : Hp} : SvOk K H [] [] := ⟨rfl, fun i t z => by cases z⟩
theorem SvOk.tf {K : PySem.W.Frag} {H H' : Hp} {sv : List V} {st : List Tg} (h : SvOk K H sv st) (e : TF H H') : SvOk K H' sv st := ⟨h.1, fun i t z => by obtain ⟨x, g1, g2⟩ := h.2 i t z; exact ⟨x, g1, StAt.tf g2 e⟩⟩
theorem SvOk.snoc {K : PySem.W.Frag} {H : Hp} {sv : List V} {st : List Tg} {v : V} {t : Tg} (h : SvOk K H sv st) (q : StAt K H v t) : SvOk K H (sv ++ [v]) (st ++ [t]) := by
  refine ⟨by rw [List.length_append, List.length_append, h.1]; rfl, fun i u z => ?_⟩
  by_cases hi : i < st.length
  · rw [List.getElem?_append_left hi] at z
    rw [List.getElem?_append_left (by rw [h.1]; exact hi)]
    exact h.2 i u z
  · rw [List.getElem?_append_right (by omega)] at z
    rw [List.getElem?_append_right (by rw [h.1]; omega), h.1]
    have hz : i - st.length = 0 := by
      have := (List.getElem?_eq_some_iff.mp z).1
      simp only [List.length_cons, List.length_nil] at this
      omega
    rw [hz] at z ⊢
    injection z with z
    rw [← z]
    exact ⟨v, rfl, q⟩
theorem SvOk.cut {K : PySem.W.Frag} {H : Hp} {sv : List V} {st : List Tg} (h : SvOk K H sv st) (n : Nat) : SvOk K H (cutV sv none (some (n : Int))) (st.take n) := by
  have e : cutV sv none (some (n : Int)) = sv.take n := by
    unfold cutV
    rw [HT.sIx_nat, HT.sIx_none, List.drop_zero, Nat.sub_zero]
    by_cases hn : n ≤ sv.length
    · rw [Nat.min_eq_left hn]
    · rw [Nat.min_eq_right (by omega), List.take_of_length_le (Nat.le_refl _), List.take_of_length_le (by omega)]
  rw [e]
  refine ⟨by rw [List.length_take, List.length_take, h.1], fun i t z => ?_⟩
  rw [List.getElem?_take] at z ⊢
  split at z
  · rename_i hi
    rw [if_pos hi]
    exact h.2 i t z
  · cases z
theorem fm_none {sl : List (Option Tg)} {i : Nat} (h : sl[i]? = some none) : (sl.take (i + 1)).filterMap id = (sl.take i).filterMap id := by
  rw [List.take_add_one, h, List.filterMap_append]
  simp
theorem fm_some {sl : List (Option Tg)} {i : Nat} {t : Tg} (h : sl[i]? = some (some t)) : (sl.take (i + 1)).filterMap id = (sl.take i).filterMap id ++ [t] := by
  rw [List.take_add_one, h, List.filterMap_append]
  simp
def spWs (K : PySem.W.Frag) : Sp := fun vs H Q _ => ∃ (d wa : Addr) (g : V) (G : Gm) (pu : Int) (sl : List (Option Tg)), vs = [.ref d, g, .ref wa] ∧ Pot H d ∧ GxAt K H g G [] pu ∧ SlAll G sl ∧ Apt G sl ∧ WlAt K H wa sl ∧ ∀ (v : V) (st : List Tg) H', Frm d H H' → Pot H' d → GxAt K H' v G st pu → StR G st → Q v H'
theorem scWs : FnScope ["pot", "game", "w", "starts", "rows", "none", "houses", "pull", "thing"] ["pot", "game", "w"] (defScope s_law_with_starts) := ⟨rfl, rfl, rfl, by decide +kernel, rfl, by decide +kernel, by decide +kernel⟩
theorem ok_law_with_starts (T : Txt K w mg) : FnOk P w K mg base CX0 2 (He.fAd K ("_law_with_starts", none)) (fdAt K (He.fAd K ("_law_with_starts", none))) ["pot", "game", "w"] (spWs K) := by
  refine T.F_law_with_starts.ok scWs (fun vs H Q E h => ?_) (fun cdv A outer s H vs Q E hr h => ?_)
  · obtain ⟨d, wa, g, G, pu, sl, rfl, _⟩ := h
    rfl
  · obtain ⟨d, wa, g, G, pu, sl, rfl, hd, hg, sa, ap, hw, k⟩ := h
    refine ⟨_, PSs.nox (pss_cons (ps_setLc (i := 3) (own := [("thing", 8)]) (g := gName 8) (by rfl) scWs.nd rfl rfl (sw_true rfl rfl rfl (by decide +kernel)) (pi_list (pe_slice sl_list (pv 2) po_none (po_some pe_int))) (blkOk_by (own := [("thing", 8)]) (N := ["pot", "game", "w", "starts", "rows", "none", "houses", "pull", "thing"]) (sc := defScope s_law_with_starts) (by decide +kernel)) (fun _ _ _ _ _ => pg_name (i := 8) scWs.nd rfl (Or.inl rfl)) (fun _ _ _ _ _ => pts_one (pt_cmpR op_notN (pv 8) pe_non (nomark _))) (fun _ _ _ _ _ => (pe_slice (show SlR _ (rSlA K) from sl_tupA) (pv 8) po_none (po_some pe_int))))
      (pss_cons (ps_asg (pe_ix (r := rIxT K) ix_tup (pv 1) pe_int (fun _ _ => rfl)) (pg_tup (by rfl) (pgs_cons (pg_name (i := 4) scWs.nd rfl (Or.inl rfl)) (pgs_cons (pg_name (i := 5) scWs.nd rfl (Or.inl rfl)) (pgs_cons (pg_name (i := 6) scWs.nd rfl (Or.inl rfl)) (pgs_cons (pg_name (i := 7) scWs.nd rfl (Or.inl rfl)) pgs_nil))))))
      (pss_one (ps_ret (pe_tup (pa_cons (pe_tup (pa_cons (pv 4) (pa_cons (pe_callTy call_tuple_of (by rfl) T.n_tuple PyProof.Rows.Boot.«tuple» (pa_cons (pe_slice sl_list (pv 3) po_none (po_some (pe_call (ok_law_take T) (hr.mono (by first | decide | omega)) (by rfl) T.g_law_take (T.F_law_take).kp T.b_law_take .nil pass0 (pa_cons (pv 0) (pa_cons pe_int pa_nil))))) pa_nil)) (pa_cons (pv 6) (pa_cons (pv 7) pa_nil))))) (pa_cons (pe_ix (r := rIxT K) ix_tup (pv 1) pe_int (fun _ _ => rfl)) pa_nil))))))), ?_⟩
    obtain ⟨wv, hwv, wl, hws⟩ := id hw
    refine ⟨_, rfl, _, rfl, wa, wv, rfl, SqL.of hwv, fun p np => ?_⟩
    have ecut : cutV wv none (some 16) = wv.take 16 := cutV_take (n := 16) (by omega)
    rw [ecut]
    have sp := new_same (o := .lst (wv.take 16)) np
    have l16 : (wv.take 16).length = 16 := by rw [List.length_take]; omega
    refine ⟨p, rfl, ⟨_, SqL.of upd_same⟩, fun D hD => ?_⟩
    have hp : (upd H p (.lst (wv.take 16))) p = some (.lst (wv.take 16)) := upd_same
    obtain ⟨H1, hH1⟩ : ∃ H1, H1 = upd H p (.lst (wv.take 16)) := ⟨_, rfl⟩
    rw [← hH1] at sp hp hD ⊢
    refine lc_it (walk_list (K := K) (a := p) (xs := wv.take 16)) (fun i H' => ∃ acc : List V, Same H1 H' ∧ H' D = some (.lst acc) ∧ acc.length ≤ i ∧ SvOk K H' acc ((sl.take i).filterMap id)) ⟨[], new_same hD, upd_same, Nat.le_refl _, SvOk.nil⟩ (fun i H' _ h => by obtain ⟨_, s, _⟩ := h; exact SqL.of (s _ _ hp)) (fun i v H' Hx hi h yy => ?_) (fun H' h => ?_)
    · obtain ⟨rfl, hv⟩ := yy
      obtain ⟨acc, sm, hl, al, hsv⟩ := h
      rw [List.getElem?_take, if_pos (by omega)] at hv
      refine ⟨rfl, ?_⟩
      obtain ⟨so, hso⟩ : ∃ so, sl[i]? = some so := ⟨_, List.getElem?_eq_getElem (by rw [sa.len]; omega)⟩
      obtain ⟨v', hv1, hv2⟩ := hws i so hso
      rw [hv] at hv1
      injection hv1 with hv1
      subst hv1
      refine ⟨_, rfl, rfl, _, rfl, ?_⟩
      cases so with
      | none =>
        obtain rfl : v = .non := hv2
        exact iteF ⟨acc, sm, hl, by omega, by rw [fm_none hso]; exact hsv⟩
      | some t =>
        obtain ⟨ta, ow, rfl, hta⟩ := hv2
        refine iteT ?_
        refine ⟨_, rfl, _, rfl, slA_gen (Q := fun y H4 => _) ((same_tf (sp.trans sm)).sq hta) fun q H4 s4 hq => ?_⟩
        refine ⟨acc, s4 _ _ hl, Nat.lt_of_le_of_lt (show acc.length ≤ 24 by omega) (by decide), acc ++ [_], fun c o z => ?_, upd_same, by rw [List.length_append]; simp only [List.length_cons, List.length_nil]; omega, ?_⟩
        · rw [upd_ne (ne_of_none z hD)]
          exact s4 _ _ (sm _ _ z)
        · rw [fm_some hso]
          have tfu := TF.lst1 (o := .lst (acc ++ [V.ref q])) (s4 _ _ hl)
          exact (SvOk.tf hsv ((same_tf s4).trans tfu)).snoc ⟨q, rfl, tfu.sq hq⟩
    obtain ⟨acc, sm, hl, al, hsv⟩ := h
    have S1 := sp.trans sm
    obtain ⟨ga, lv, ksv, rfl, sg, hlv, hks⟩ := id (hg.tf (same_tf S1))
    obtain ⟨la, rs, st, rfl, hla, hrs, hst⟩ := id hlv
    refine ⟨_, rfl, ga, _, _, _, rfl, rfl, sg, atI_nat (j := 0) rfl, la, _, rfl, hla, rfl, _, _, rfl, _, _, rfl, _, _, rfl, _, _, rfl, rfl, ?_⟩
    have d1 := hd.same S1
    have Dd : D ≠ d := (hd.same sp).ne hD
    refine ⟨_, rfl, _, rfl, _, rfl, d, 13, rfl, by decide, by decide, d1, fun y H2 y0 y1 f2 d2 => ⟨_, rfl, D, acc, rfl, SqL.of (f2 _ _ Dd hl), fun p2 np2 => ⟨p2, _, rfl, .inl ⟨SqL.of upd_same, fun pt npt => ?_⟩⟩⟩⟩
    obtain ⟨ny, rfl⟩ := Int.eq_ofNat_of_zero_le y0
    have s3 := (new_same (o := .lst (cutV acc none (some (ny : Int)))) np2).trans (new_same (o := .tup (cutV acc none (some (ny : Int)))) npt)
    have hpt : SqT K (upd (upd H2 p2 (.lst (cutV acc none (some (ny : Int))))) pt (.tup (cutV acc none (some (ny : Int))))) pt (cutV acc none (some (ny : Int))) := SqT.of upd_same
    refine ⟨_, rfl, _, rfl, (show 4 ≤ sizeLine by decide), fun nl nnl => ⟨_, rfl, ga, [V.ref la, ksv], _, ksv, rfl, rfl, ?_, atI_nat (j := 1) rfl, (show 2 ≤ sizeLine by decide), fun ng nng => ?_⟩⟩
    · exact ((same_tf (s3.trans (new_same nnl)))).sq ((pot_tf f2 d1).sq sg)
    · have s4 := new_same (o := .tup [V.ref rs, .ref pt, .int G.ho, .int pu]) nnl
      have s5 := new_same (o := .tup [V.ref nl, ksv]) nng
      have tfr := (pot_tf f2 d1).trans (same_tf (s3.trans (s4.trans s5)))
      rw [l16] at hsv
      rw [show sl.take 16 = sl from List.take_of_length_le (by rw [sa.len]; exact Nat.le_refl _)] at hsv
      have hsv2 := SvOk.cut (SvOk.tf hsv tfr) ny
      exact k (.ref ng) ((sl.filterMap id).take ny) _ ((Frm.of_same S1).trans (f2.trans (Frm.of_same (s3.trans (s4.trans s5))))) (d2.same (s3.trans (s4.trans s5))) ⟨ng, .ref nl, ksv, rfl, SqT.of upd_same, ⟨nl, rs, .ref pt, rfl, (same_tf s5).sq (SqT.of upd_same), tfr.sq hrs, ⟨pt, _, rfl, (same_tf (s4.trans s5)).sq hpt, hsv2.1, hsv2.2⟩⟩, hks.tf tfr⟩ (ap.sts ny (by omega))
end
end K27
set_option maxRecDepth 100000
set_option maxHeartbeats 4000000
/-! Whether a thing fits. -/
namespace K27
open PySem PySem.Spec PyProof.Rows L2 KF KD KP
/-- the things, drawn so far -/
def TsAt (K : PySem.W.Frag) (H : Hp) (ta : Addr) (sl : List (Option Tg)) : Prop := ∃ tv : List V, H ta = some (.lst tv) ∧ tv.length = 16 ∧ ∀ (i : Nat) (o : Option Tg), sl[i]? = some o → ∃ v : V, tv[i]? = some v ∧ SlAt K H v o
theorem TsAt.tf {K : PySem.W.Frag} {H H' : Hp} {ta : Addr} {sl : List (Option Tg)} (h : TsAt K H ta sl) (e : TF H H') (f : H' ta = H ta) : TsAt K H' ta sl := by
  obtain ⟨tv, h1, h2, h3⟩ := h
  exact ⟨tv, by rw [f]; exact h1, h2, fun i o z => by obtain ⟨v, g1, g2⟩ := h3 i o z; exact ⟨v, g1, g2.tf e⟩⟩
theorem TsAt.same {K : PySem.W.Frag} {H H' : Hp} {ta : Addr} {sl : List (Option Tg)} (h : TsAt K H ta sl) (e : Same H H') : TsAt K H' ta sl := by
  obtain ⟨tv, h1, _⟩ := id h
  exact h.tf (same_tf e) (by rw [h1]; exact e _ _ h1)
theorem TsAt.frm {K : PySem.W.Frag} {H H' : Hp} {ta d : Addr} {sl : List (Option Tg)} (h : TsAt K H ta sl) (hd : Pot H d) (f : Frm d H H') (n : ta ≠ d) : TsAt K H' ta sl := by
  obtain ⟨tv, h1, _⟩ := id h
  exact h.tf (pot_tf f hd) (by rw [h1]; exact f _ _ n h1)
/-- a list of things -/
def ThsAt (K : PySem.W.Frag) (H : Hp) (G : Gm) (l : List V) : Prop := ∀ v ∈ l, ∃ t kd, TgAt K H v t ∧ G.kds[t.k]? = some kd ∧ TgOk G t
theorem ThsAt.tf {K : PySem.W.Frag} {H H' : Hp} {G : Gm} {l : List V} (h : ThsAt K H G l) (e : TF H H') : ThsAt K H' G l := fun v m => by
  obtain ⟨t, kd, h1, h2⟩ := h v m
  exact ⟨t, kd, TgAt.tf h1 e, h2⟩
/-- the values of a list of things -/
inductive ThsL (K : PySem.W.Frag) (H : Hp) (G : Gm) : List V → List Tg → Prop
  | nil : ThsL K H G [] []
  | cons {v : V} {t : Tg} {kd : Kd} {l : List V} {us : List Tg} : TgAt K H v t → G.kds[t.k]? = some kd → TgOk G t → ThsL K H G l us → ThsL K H G (v :: l) (t :: us)
theorem ThsL.snoc {K : PySem.W.Frag} {H : Hp} {G : Gm} {v : V} {t : Tg} {kd : Kd} {l : List V} {us : List Tg} (h : ThsL K H G l us) (h1 : TgAt K H v t) (h2 : G.kds[t.k]? = some kd) (h3 : TgOk G t) : ThsL K H G (l ++ [v]) (us ++ [t]) := by
  induction h with
  | nil => exact .cons h1 h2 h3 .nil
  | cons a b c _ ih => exact .cons a b c ih
theorem ThsL.at' {K : PySem.W.Frag} {H : Hp} {G : Gm} {l : List V} {us : List Tg} (h : ThsL K H G l us) {i : Nat} {v : V} (hv : l[i]? = some v) : ∃ t kd, us[i]? = some t ∧ TgAt K H v t ∧ G.kds[t.k]? = some kd ∧ TgOk G t := by
  induction h generalizing i with
  | nil => cases hv
  | cons a b c _ ih =>
    cases i with
    | zero =>
      injection hv with hv
      subst hv
      exact ⟨_, _, rfl, a, b, c⟩
    | succ i => exact ih hv
theorem ThsL.len {K : PySem.W.Frag} {H : Hp} {G : Gm} {l : List V} {us : List Tg} (h : ThsL K H G l us) : us.length = l.length := by
  induction h with
  | nil => rfl
  | cons a b c _ ih => rw [List.length_cons, List.length_cons, ih]
theorem fb_none {sl : List (Option Tg)} {q : Tg → Bool} {i : Nat} (h : sl[i]? = some none) : (sl.take (i + 1)).filterMap (fun o => o.filter q) = (sl.take i).filterMap fun o => o.filter q := by
  rw [List.take_add_one, h, List.filterMap_append]
  simp
theorem fb_no {sl : List (Option Tg)} {q : Tg → Bool} {i : Nat} {t : Tg} (h : sl[i]? = some (some t)) (hq : q t = false) : (sl.take (i + 1)).filterMap (fun o => o.filter q) = (sl.take i).filterMap fun o => o.filter q := by
  rw [List.take_add_one, h, List.filterMap_append]
  simp [hq]
theorem fb_yes {sl : List (Option Tg)} {q : Tg → Bool} {i : Nat} {t : Tg} (h : sl[i]? = some (some t)) (hq : q t = true) : (sl.take (i + 1)).filterMap (fun o => o.filter q) = ((sl.take i).filterMap fun o => o.filter q) ++ [t] := by
  rw [List.take_add_one, h, List.filterMap_append]
  have : Option.filter q (some t) = some t := by simp [Option.filter, hq]
  show _ ++ [some t].filterMap _ = _
  rw [List.filterMap_cons, this]
  rfl
theorem lim_box {b : Bx} (x1 : -5000 ≤ b.x) (x2 : b.x ≤ 5000) (y1 : -5000 ≤ b.y) (y2 : b.y ≤ 5000) (w1 : 1 ≤ b.w) (w2 : b.w ≤ 20) (h1 : 1 ≤ b.h) (h2 : b.h ≤ 20) : b.lim := by
  refine ⟨?_, ?_, ?_, ?_, ?_, ?_, ?_, ?_⟩ <;> omega
/-- what fits -/
structure FitQ (G : Gm) (sl : List (Option Tg)) (kd : Kd) (x y : Int) : Prop where
  x0 : 0 ≤ x
  x1 : x ≤ 1000
  y0 : 0 ≤ y
  y1 : y < G.hi
  fr : G.fr ⟨x, y, kd.w, kd.h⟩ = true
  ba : kd.has "bars" = true → ∀ (s : Nat) (t : Tg), sl[s]? = some (some t) → G.hs t "bars" = true → meets ⟨x, y, kd.w, kd.h⟩ (G.bx t) = false
theorem any_map {α : Type} (f : α → Bool) : ∀ us : List α, (us.map f).any id = us.any f
  | [] => rfl
  | u :: us => by rw [List.map_cons, List.any_cons, List.any_cons, any_map f us]; rfl
section
variable {P : Program} {w : World} {K : PySem.W.Frag} {mg : Str → Option Value} {base : Heap}
def spFit (K : PySem.W.Frag) : Sp := fun vs H Q _ => ∃ (g : V) (ta : Addr) (G : Gm) (sl : List (Option Tg)) (n : Nat) (kd : Kd) (x y : Int), vs = [g, .ref ta, .int (n : Int), .int x, .int y] ∧ GmAt K H g G ∧ G.ok ∧ SlAll G sl ∧ TsAt K H ta sl ∧ G.kds[n]? = some kd ∧ -5000 ≤ x ∧ x ≤ 5000 ∧ -5000 ≤ y ∧ y ≤ 5000 ∧ ∀ (b : Bool) H', Same H H' → (b = true → FitQ G sl kd x y) → Q (.bl b) H'
theorem scFt : FnScope ["game", "things", "kind", "x", "y", "box", "others", "thing"] ["game", "things", "kind", "x", "y"] (defScope s_law_fits) := ⟨rfl, rfl, rfl, by decide +kernel, rfl, by decide +kernel, by decide +kernel⟩
theorem ok_law_fits (T : Txt K w mg) : FnOk P w K mg base CX0 5 (He.fAd K ("_law_fits", none)) (fdAt K (He.fAd K ("_law_fits", none))) ["game", "things", "kind", "x", "y"] (spFit K) := by
  refine T.F_law_fits.ok scFt (fun vs H Q E h => ?_) (fun cdv A outer s H vs Q E hr h => ?_)
  · obtain ⟨g, ta, G, sl, n, kd, x, y, rfl, _⟩ := h
    rfl
  · obtain ⟨g, ta, G, sl, n, kd, x, y, rfl, hg, o, sa, ht, hkd, x1, x2, y1, y2, k⟩ := h
    refine ⟨_, PSs.nox (pss_cons (ps_set (i := 5) scFt.nd rfl (Or.inr rfl) (pe_tup (pa_cons (pv 3) (pa_cons (pv 4) (pa_cons (pe_ix (r := rIxT K) ix_tup (pe_ix (r := rIxT K) ix_tup (pe_ix (r := rIxT K) ix_tup (pv 0) pe_int (fun _ _ => rfl)) (pv 2) (fun _ _ => rfl)) pe_int (fun _ _ => rfl)) (pa_cons (pe_ix (r := rIxT K) ix_tup (pe_ix (r := rIxT K) ix_tup (pe_ix (r := rIxT K) ix_tup (pv 0) pe_int (fun _ _ => rfl)) (pv 2) (fun _ _ => rfl)) pe_int (fun _ _ => rfl)) pa_nil))))))
      (pss_cons (ps_if (PW.pt (pw_or (pt_cmpR op_ge (pv 4) (pe_ix (r := rIxT K) ix_tup (pe_call (ok_law_size T) (hr.mono (by first | decide | omega)) (by rfl) T.g_law_size (T.F_law_size).kp T.b_law_size .nil pass0 (pa_cons (pv 0) pa_nil)) pe_int (fun _ _ => rfl)) (nomark _)) (pw_or1 (pt_not (pt_val (pe_call (ok_law_free T) (hr.mono (by first | decide | omega)) (by rfl) T.g_law_free (T.F_law_free).kp T.b_law_free .nil pass0 (pa_cons (pv 0) (pa_cons (pv 5) pa_nil)))))))) (pss_one (ps_ret pe_bl)) pss_nil)
      (pss_cons (ps_if (pt_cmpR (r := rIn K true) op_notIn_seq pe_str (pe_ix (r := rIxT K) ix_tup (pe_ix (r := rIxT K) ix_tup (pe_ix (r := rIxT K) ix_tup (pv 0) pe_int (fun _ _ => rfl)) (pv 2) (fun _ _ => rfl)) pe_int (fun _ _ => rfl)) rfl) (pss_one (ps_ret pe_bl)) pss_nil)
      (pss_cons (ps_setLc (i := 6) (own := [("thing", 7)]) (g := gName 7) (by rfl) scFt.nd rfl rfl (sw_true rfl rfl rfl (by decide +kernel)) (pi_list (pv 1)) (blkOk_by (own := [("thing", 7)]) (N := ["game", "things", "kind", "x", "y", "box", "others", "thing"]) (sc := defScope s_law_fits) (by decide +kernel)) (fun _ _ _ _ _ => pg_name (i := 7) scFt.nd rfl (Or.inl rfl)) (fun _ _ _ _ _ => pts_one (PW.pt (pw_and (pt_cmpR op_notN (pv 7) pe_non (nomark _)) (pw_and1 (pt_val (pe_call (ok_law_has T) (hr.mono (by first | decide | omega)) (by rfl) T.g_law_has (T.F_law_has).kp T.b_law_has .nil pass0 (pa_cons (pv 0) (pa_cons (pv 7) (pa_cons pe_str pa_nil))))))))) (fun _ _ _ _ _ => (pv 7)))
      (pss_one (ps_ret (pe_not (pe_callB (cr_any rfl) (by rfl) T.n_any PyProof.Rows.Boot.«any» (pa_cons (pe_lc (own := [("thing", 7)]) (g := gName 7) (tt := tYes) (by rfl) scFt.nd (pi_list (pv 6)) (blkOk_by (own := [("thing", 7)]) (N := ["game", "things", "kind", "x", "y", "box", "others", "thing"]) (sc := defScope s_law_fits) (by decide +kernel)) (fun _ _ _ _ _ => pg_name (i := 7) scFt.nd rfl (Or.inl rfl)) (fun _ _ _ _ _ => pts_nil) (fun _ _ _ _ _ => (pe_call (ok_law_meet T) (hr.mono (by first | decide | omega)) (by rfl) T.g_law_meet (T.F_law_meet).kp T.b_law_meet .nil pass0 (pa_cons (pv 5) (pa_cons (pe_call (ok_law_box T) (hr.mono (by first | decide | omega)) (by rfl) T.g_law_box (T.F_law_box).kp T.b_law_box .nil pass0 (pa_cons (pv 0) (pa_cons (pv 7) pa_nil))) pa_nil))))) pa_nil))))))))), ?_⟩
    obtain ⟨ga, lv, ksv, rfl, sg, hlv, hks⟩ := id hg
    obtain ⟨ka, kv, rfl, hka, kl, hke⟩ := id hks
    obtain ⟨kw1, kw2, kh1, kh2, _⟩ := o.kw kd (List.mem_of_getElem? hkd)
    obtain ⟨kx, hkx, ⟨kp, kt, ow, ru, rfl, hkp, hkt⟩⟩ := hke n kd hkd
    refine ⟨_, rfl, _, rfl, _, rfl, ga, _, _, _, rfl, rfl, (same_tf (Same.refl H)).sq sg, atI_nat (j := 1) rfl, _, rfl, ka, kv, _, _, rfl, rfl, (same_tf (Same.refl H)).sq hka, atI_nat hkx, kp, _, _, _, rfl, rfl, (same_tf (Same.refl H)).sq hkp, atI_nat (j := 1) rfl, _, rfl, ga, _, _, _, rfl, rfl, (same_tf (Same.refl H)).sq sg, atI_nat (j := 1) rfl, _, rfl, ka, kv, _, _, rfl, rfl, (same_tf (Same.refl H)).sq hka, atI_nat hkx, kp, _, _, _, rfl, rfl, (same_tf (Same.refl H)).sq hkp, atI_nat (j := 2) rfl, (show 4 ≤ sizeLine by decide), fun pb npb => ?_⟩
    have s1 := new_same (o := .tup [V.int x, .int y, .int kd.w, .int kd.h]) npb
    have hb : BxAt K (upd H pb (.tup [V.int x, .int y, .int kd.w, .int kd.h])) (.ref pb) ⟨x, y, kd.w, kd.h⟩ := ⟨pb, rfl, SqT.of upd_same⟩
    have lim : (Bx.mk x y kd.w kd.h).lim := lim_box x1 x2 y1 y2 kw1 (by show kd.w ≤ 20; omega) kh1 (by show kd.h ≤ 20; omega)
    obtain ⟨H1, hH1⟩ : ∃ H1, H1 = upd H pb (.tup [V.int x, .int y, .int kd.w, .int kd.h]) := ⟨_, rfl⟩
    show gName 5 _ _ (upd H pb (.tup [V.int x, .int y, .int kd.w, .int kd.h])) _
    rw [← hH1] at s1 hb ⊢
    refine ⟨_, rfl, _, rfl, _, G, rfl, hg.tf (same_tf s1), o, fun ps H2 s2 hps => ⟨ps, _, _, _, rfl, rfl, SqT.of hps, atI_nat (j := 1) rfl, _, _, rfl, rfl, _, rfl, ite2 (fun z => iteT (k false H2 (s1.trans s2) (fun e => by cases e))) (fun z => ?_)⟩⟩
    have z : y < G.hi := by
      have : ¬ G.hi ≤ y := fun h => z (decide_eq_true h)
      omega
    refine ⟨_, rfl, _, rfl, _, .ref pb, G, _, rfl, hg.tf (same_tf (s1.trans s2)), o, hb.tf (same_tf s2), lim, fun H3 s3 => ?_⟩
    have S3 := (s1.trans s2).trans s3
    cases hfr : G.fr ⟨x, y, kd.w, kd.h⟩ with
    | false => exact ⟨_, rfl, iteT (k false H3 S3 (fun e => by cases e))⟩
    | true =>
      refine ⟨_, rfl, iteF ?_⟩
      have z : 0 ≤ x ∧ x ≤ 1000 ∧ 0 ≤ y ∧ y < G.hi := by
        have hW : G.wi = 8 * (G.W : Int) := rfl
        have := o.w2
        have no : ¬ (x < 0 ∨ y < 0 ∨ x + kd.w > G.wi) := fun h => by
          rw [fr_out lim h] at hfr
          cases hfr
        omega
      have t3 := same_tf S3
      have notb : ∀ {c : Bool}, (!c) = true → c = false := fun {c} q => by cases c with | true => cases q | false => rfl
      refine ⟨_, rfl, ga, _, _, _, rfl, rfl, t3.sq sg, atI_nat (j := 1) rfl, _, rfl, ka, kv, _, _, rfl, rfl, t3.sq hka, atI_nat hkx, kp, _, _, _, rfl, rfl, t3.sq hkp, atI_nat (j := 3) rfl, kt, _, rfl, .inr (t3.sq hkt), rfl, by simp [List.all_map, flatV], _, rfl, ite2 (fun nb => k true H3 S3 fun _ => ⟨z.1, z.2.1, z.2.2.1, z.2.2.2, hfr, fun hb => absurd hb (by unfold Kd.has; rw [show inV (V.str (Str.ofString "bars")) (List.map V.str kd.tr) = false from notb nb]; decide)⟩) (fun _ => ?_)⟩
      obtain ⟨tv, htv, tl, hts⟩ := id (ht.same S3)
      refine ⟨_, rfl, ta, rfl, ⟨_, SqL.of htv⟩, fun D hD => ?_⟩
      refine lc_it (walk_list (K := K) (a := ta) (xs := tv)) (fun i H' => ∃ acc : List V, Same H3 H' ∧ H' D = some (.lst acc) ∧ acc.length ≤ i ∧ ThsL K H3 G acc ((sl.take i).filterMap fun o => o.filter fun t => G.hs t "bars")) ⟨[], new_same hD, upd_same, Nat.le_refl _, .nil⟩ (fun i H' _ h => by obtain ⟨_, s, _⟩ := h; exact SqL.of (s _ _ htv)) (fun i v H' Hx hi h yy => ?_) (fun H' h => ?_)
      · obtain ⟨rfl, hv⟩ := yy
        obtain ⟨acc, sm, hl, al, hth⟩ := h
        refine ⟨rfl, ?_⟩
        obtain ⟨so, hso⟩ : ∃ so, sl[i]? = some so := ⟨_, List.getElem?_eq_getElem (by rw [sa.len]; omega)⟩
        obtain ⟨v', hv1, hv2⟩ := hts i so hso
        rw [hv] at hv1
        injection hv1 with hv1
        subst hv1
        refine ⟨_, rfl, rfl, _, rfl, ?_⟩
        cases so with
        | none =>
          obtain rfl : v = .non := hv2
          exact iteF (iteF ⟨acc, sm, hl, by omega, by rw [fb_none hso]; exact hth⟩)
        | some t =>
          have hv2 : TgAt K H3 v t := hv2
          obtain ⟨kd2, hkd2, _⟩ := (sa.ok t (List.mem_of_getElem? hso)).kd
          obtain ⟨tad, ow2, rfl, _⟩ := id hv2
          refine iteT ⟨_, rfl, _, rfl, _, _, G, t, kd2, "bars", rfl, hg.tf (same_tf (S3.trans sm)), TgAt.tf hv2 (same_tf sm), hkd2, _, rfl, ?_⟩
          cases hb2 : kd2.has "bars" with
          | false => exact iteF ⟨acc, sm, hl, by omega, by rw [fb_no hso (by unfold Gm.hs; rw [hkd2]; exact hb2)]; exact hth⟩
          | true =>
            refine iteT ⟨_, rfl, acc, hl, Nat.lt_of_le_of_lt (show acc.length ≤ 24 by omega) (by decide), acc ++ [_], fun c o z => ?_, upd_same, by rw [List.length_append]; simp only [List.length_cons, List.length_nil]; omega, ?_⟩
            · rw [upd_ne (ne_of_none z hD)]
              exact sm _ _ z
            · rw [fb_yes hso (by unfold Gm.hs; rw [hkd2]; exact hb2)]
              exact hth.snoc hv2 hkd2 (sa.ok t (List.mem_of_getElem? hso))
      · obtain ⟨acc, sm, hl, al, hth⟩ := h
        rw [tl, show sl.take 16 = sl from List.take_of_length_le (by rw [sa.len]; exact Nat.le_refl _)] at hth
        obtain ⟨us, hus⟩ : ∃ us, us = sl.filterMap (fun o => o.filter fun t => G.hs t "bars") := ⟨_, rfl⟩
        rw [← hus] at hth
        have ul := hth.len
        refine ⟨_, rfl, D, rfl, ⟨_, SqL.of hl⟩, fun D2 hD2 => ?_⟩
        refine lc_it (walk_list (K := K) (a := D) (xs := acc)) (fun i H5 => Same H' H5 ∧ H5 D2 = some (.lst (((us.take i).map fun t => meets ⟨x, y, kd.w, kd.h⟩ (G.bx t)).map V.bl))) ⟨new_same hD2, upd_same⟩ (fun i H5 _ h => by obtain ⟨s, _⟩ := h; exact SqL.of (s _ _ hl)) (fun i v H5 Hx hi h yy => ?_) (fun H5 h => ?_)
        · obtain ⟨rfl, hv⟩ := yy
          obtain ⟨sm2, hl2⟩ := h
          refine ⟨rfl, ?_⟩
          dsimp only [tYes]
          rw [if_pos rfl]
          obtain ⟨t, kd2, hu, ht2, hkd2, tok⟩ := hth.at' hv
          obtain ⟨tad, ow2, rfl, _⟩ := id ht2
          have ebx : G.bx t = t.box kd2 := by unfold Gm.bx; rw [hkd2]
          have S5 := (S3.trans sm).trans sm2
          refine ⟨_, rfl, _, rfl, _, rfl, _, _, G, t, kd2, rfl, hg.tf (same_tf S5), TgAt.tf ht2 (same_tf (sm.trans sm2)), hkd2, fun pc H6 s6 hpc => ?_⟩
          refine ⟨.ref pb, .ref pc, _, t.box kd2, rfl, hb.tf (same_tf ((s2.trans s3).trans ((sm.trans sm2).trans s6))), ⟨pc, rfl, SqT.of hpc⟩, ?_⟩
          refine ⟨_, s6 _ _ hl2, Nat.lt_of_le_of_lt (show ((((us.take i).map fun t => meets ⟨x, y, kd.w, kd.h⟩ (G.bx t)).map V.bl)).length ≤ 24 by rw [List.length_map, List.length_map, List.length_take]; omega) (by decide), fun c o z => ?_, ?_⟩
          · rw [upd_ne (ne_of_none z hD2)]
            exact s6 _ _ (sm2 _ _ z)
          · rw [upd_same, List.take_add_one, hu, ← ebx, List.map_append, List.map_append]
            rfl
        · obtain ⟨sm2, hl2⟩ := h
          rw [← ul, List.take_length] at hl2
          refine ⟨D2, _, rfl, SqL.of hl2, _, rfl, k _ H5 ((S3.trans sm).trans sm2) fun e => ⟨z.1, z.2.1, z.2.2.1, z.2.2.2, hfr, fun _ s t hs hb => ?_⟩⟩
          have hin : t ∈ us := by
            rw [hus]
            exact List.mem_filterMap.mpr ⟨some t, List.mem_of_getElem? hs, by simp [hb]⟩
          have e := notb e
          rw [any_map] at e
          cases q : meets ⟨x, y, kd.w, kd.h⟩ (G.bx t) with
          | false => rfl
          | true => rw [List.any_eq_true.mpr ⟨t, hin, q⟩] at e; cases e
end
end K27
set_option maxRecDepth 100000
set_option maxHeartbeats 4000000
/-! Data of lists. -/
namespace K27
open PySem PySem.Spec PyProof.Rows L2 KF KD KP
section
variable {X : Cx}
def rNeNil (K : PySem.W.Frag) (c : Bool) : R2 := fun x y H Q => ∃ ds, Dp K H x (.list ds) ∧ Dp K H y (.list []) ∧ PyData.canLayAll0 ds = true ∧ Q (.bl (c == ds.isEmpty)) H
theorem eqv_nil (ds : List PyData) : PyData.eqv (.list ds) (.list []) = ds.isEmpty := by
  cases ds <;> simp [PyData.eqv, PyData.eqvAll]
theorem op_neNil (hu : X.A.units + 64 < cLine) : OpR X (compareOp .NotEq) (rNeNil X.K false) := by
  intro pins s σ H x y v u Q I rx ry h
  obtain ⟨ds, hd, he, hc, q⟩ := h
  obtain ⟨as, r1⟩ := Dp.reads I _ x v hd rx
  obtain ⟨bs, r2⟩ := Dp.reads I _ y u he ry
  have e : (PyData.list []).depth = 1 := by simp [PyData.depth, PyData.depthAll]
  refine SeqAt.compareNe_reads r1 r2 (by simpa [PyData.canLay0] using hc) (by simp [PyData.canLay0, PyData.canLayAll0]) (by rw [e]; have := Nat.min_le_right (PyData.list ds).depth 1; omega) ⟨.bl _, H, I, rfl, ?_⟩
  rw [eqv_nil]
  simpa using q
end
theorem alok_lay : ∀ (n : Nat) (d : PyData), AlOk n d → d.canLay0 = true
  | _, .none, _ => rfl
  | _, .int _, _ => rfl
  | n + 1, .tuple ds, h => by
    have g : ∀ l : List PyData, (∀ e ∈ l, AlOk n e) → PyData.canLayAll0 l = true := fun l => by
      induction l with
      | nil => exact fun _ => rfl
      | cons d l ih =>
        intro hl
        rw [PyData.canLayAll0, alok_lay n d (hl d List.mem_cons_self), ih fun e he => hl e (List.mem_cons_of_mem _ he)]
        rfl
    rw [PyData.canLay0]
    exact g ds h.2
  | 0, .tuple _, h => h.elim
  | 0, .bool _, h => h.elim
  | _ + 1, .bool _, h => h.elim
  | 0, .str _, h => h.elim
  | _ + 1, .str _, h => h.elim
  | 0, .list _, h => h.elim
  | _ + 1, .list _, h => h.elim
  | 0, .dict _, h => h.elim
  | _ + 1, .dict _, h => h.elim
def DL (K : PySem.W.Frag) (H : Hp) (l : List V) : Prop := ∀ v ∈ l, ∃ d, Dp K H v d ∧ AlOk 2 d
theorem DL.tf {K : PySem.W.Frag} {H H' : Hp} {l : List V} (h : DL K H l) (e : TF H H') : DL K H' l := fun v m => by
  obtain ⟨d, h1, h2⟩ := h v m
  exact ⟨d, dp_nl e _ _ (alok_nl _ _ h2) h1, h2⟩
theorem DL.all {K : PySem.W.Frag} {H : Hp} : ∀ {l : List V}, DL K H l → ∃ ds, DpAll K H l ds ∧ (∀ e ∈ ds, AlOk 2 e) ∧ PyData.canLayAll0 ds = true ∧ ds.length = l.length
  | [], _ => ⟨[], .nil, fun _ m => (List.not_mem_nil m).elim, rfl, rfl⟩
  | v :: l, h => by
    obtain ⟨d, h1, h2⟩ := h v List.mem_cons_self
    obtain ⟨ds, g1, g2, g3, g4⟩ := DL.all (l := l) fun u m => h u (List.mem_cons_of_mem _ m)
    refine ⟨d :: ds, .cons h1 g1, fun e m => ?_, ?_, by rw [List.length_cons, List.length_cons, g4]⟩
    · rcases List.mem_cons.mp m with rfl | m
      · exact h2
      · exact g2 e m
    · rw [PyData.canLayAll0, alok_lay _ _ h2, g3]
      rfl
/-- is the list not the empty one -/
theorem ne_nil {K : PySem.W.Frag} {H : Hp} {a b : Addr} {l : List V} {Q : VK} (hl : H a = some (.lst l)) (hb : H b = some (.lst [])) (d : DL K H l) (q : Q (.bl (!l.isEmpty)) H) : rNeNil K false (.ref a) (.ref b) H Q := by
  obtain ⟨ds, g1, _, g3, g4⟩ := DL.all d
  refine ⟨ds, .lst (SqL.of hl) g1, .lst (SqL.of hb) .nil, g3, ?_⟩
  have e : (false == ds.isEmpty) = !l.isEmpty := by
    cases ds with
    | nil =>
      cases l with
      | nil => rfl
      | cons v l => cases g4
    | cons d ds =>
      cases l with
      | nil => cases g4
      | cons v l => rfl
  rw [e]
  exact q
theorem tg_al {K : PySem.W.Frag} {H : Hp} {a oa : Addr} {t : Tg} (h : SqT K H a [.int (t.k : Int), .int t.hs, .int t.x, .int t.y, .int t.dx, .int t.dy, .int t.rest, .ref oa]) (ho : SqT K H oa (t.own.map V.int)) (hl : t.own.length ≤ 1000) : ∃ d, Dp K H (.ref a) d ∧ AlOk 2 d := by
  have ha : ∀ l : List Int, DpAll K H (l.map V.int) (l.map PyData.int) := fun l => by
    induction l with
    | nil => exact .nil
    | cons x l ih => exact .cons (.int x) ih
  refine ⟨.tuple [.int (t.k : Int), .int t.hs, .int t.x, .int t.y, .int t.dx, .int t.dy, .int t.rest, .tuple (t.own.map PyData.int)], .tup h (.cons (.int _) (.cons (.int _) (.cons (.int _) (.cons (.int _) (.cons (.int _) (.cons (.int _) (.cons (.int _) (.cons (.tup ho (ha _)) .nil)))))))), (show 8 ≤ 1000 by decide), fun e m => ?_⟩
  have hO : AlOk 1 (.tuple (t.own.map PyData.int)) := ⟨by rw [List.length_map]; exact hl, fun e m => by
    obtain ⟨x, _, rfl⟩ := List.mem_map.mp m
    trivial⟩
  simp only [List.mem_cons, List.not_mem_nil, or_false] at m
  rcases m with rfl | rfl | rfl | rfl | rfl | rfl | rfl | rfl
  iterate 7 trivial
  exact hO
/-- a thing, with its data -/
def TgX (K : PySem.W.Frag) (H : Hp) (v : V) (t : Tg) : Prop := ∃ (a oa : Addr), v = .ref a ∧ SqT K H a [.int (t.k : Int), .int t.hs, .int t.x, .int t.y, .int t.dx, .int t.dy, .int t.rest, .ref oa] ∧ SqT K H oa (t.own.map V.int) ∧ t.own.length ≤ 1000
theorem TgX.at' {K : PySem.W.Frag} {H : Hp} {v : V} {t : Tg} (h : TgX K H v t) : TgAt K H v t := by
  obtain ⟨a, oa, h1, h2, _⟩ := h
  exact ⟨a, .ref oa, h1, h2⟩
theorem TgX.tf {K : PySem.W.Frag} {H H' : Hp} {v : V} {t : Tg} (h : TgX K H v t) (e : TF H H') : TgX K H' v t := by
  obtain ⟨a, oa, h1, h2, h3, h4⟩ := h
  exact ⟨a, oa, h1, e.sq h2, e.sq h3, h4⟩
theorem TgX.al {K : PySem.W.Frag} {H : Hp} {v : V} {t : Tg} (h : TgX K H v t) : ∃ d, Dp K H v d ∧ AlOk 2 d := by
  obtain ⟨a, oa, rfl, h2, h3, h4⟩ := h
  exact tg_al h2 h3 h4
def SlX (K : PySem.W.Frag) (H : Hp) (v : V) : Option Tg → Prop
  | none => v = .non
  | some t => TgX K H v t
theorem SlX.at' {K : PySem.W.Frag} {H : Hp} {v : V} {o : Option Tg} (h : SlX K H v o) : SlAt K H v o := by
  cases o with
  | none => exact h
  | some t => exact TgX.at' h
theorem SlX.tf {K : PySem.W.Frag} {H H' : Hp} {v : V} {o : Option Tg} (h : SlX K H v o) (e : TF H H') : SlX K H' v o := by
  cases o with
  | none => exact h
  | some t => exact TgX.tf h e
/-- the things, with their data -/
def TsD (K : PySem.W.Frag) (H : Hp) (ta : Addr) (sl : List (Option Tg)) : Prop := ∃ tv : List V, H ta = some (.lst tv) ∧ tv.length = 16 ∧ (∀ (i : Nat) (o : Option Tg), sl[i]? = some o → ∃ v : V, tv[i]? = some v ∧ SlX K H v o) ∧ DL K H tv
theorem TsD.ts {K : PySem.W.Frag} {H : Hp} {ta : Addr} {sl : List (Option Tg)} (h : TsD K H ta sl) : TsAt K H ta sl := by
  obtain ⟨tv, h1, h2, h3, _⟩ := h
  exact ⟨tv, h1, h2, fun i o z => by obtain ⟨v, g1, g2⟩ := h3 i o z; exact ⟨v, g1, g2.at'⟩⟩
theorem TsD.tf {K : PySem.W.Frag} {H H' : Hp} {ta : Addr} {sl : List (Option Tg)} (h : TsD K H ta sl) (e : TF H H') (f : H' ta = H ta) : TsD K H' ta sl := by
  obtain ⟨tv, h1, h2, h3, h4⟩ := h
  exact ⟨tv, by rw [f]; exact h1, h2, fun i o z => by obtain ⟨v, g1, g2⟩ := h3 i o z; exact ⟨v, g1, g2.tf e⟩, h4.tf e⟩
theorem TsD.same {K : PySem.W.Frag} {H H' : Hp} {ta : Addr} {sl : List (Option Tg)} (h : TsD K H ta sl) (e : Same H H') : TsD K H' ta sl := by
  obtain ⟨tv, h1, _⟩ := id h
  exact h.tf (same_tf e) (by rw [h1]; exact e _ _ h1)
theorem TsD.frm {K : PySem.W.Frag} {H H' : Hp} {ta d : Addr} {sl : List (Option Tg)} (h : TsD K H ta sl) (hd : Pot H d) (f : Frm d H H') (n : ta ≠ d) : TsD K H' ta sl := by
  obtain ⟨tv, h1, _⟩ := id h
  exact h.tf (pot_tf f hd) (by rw [h1]; exact f _ _ n h1)
theorem TsAt.ne {K : PySem.W.Frag} {H : Hp} {ta d : Addr} {G : Gm} {sl : List (Option Tg)} (h : TsAt K H ta sl) (sa : SlAll G sl) (hd : Pot H d) : ta ≠ d := fun e => by
  obtain ⟨tv, h1, h2, h3⟩ := h
  obtain ⟨r, m, i, cs, g1, _⟩ := hd
  rw [e, g1] at h1
  injection h1 with h1
  injection h1 with h1
  obtain ⟨v, h4, h5⟩ := h3 0 (sl[0]'(by rw [sa.len]; decide)) (List.getElem?_eq_getElem _)
  rw [← h1] at h4
  injection h4 with h4
  subst h4
  cases hs : sl[0]'(by rw [sa.len]; decide) with
  | none =>
    rw [hs] at h5
    cases h5
  | some t =>
    rw [hs] at h5
    obtain ⟨_, _, h5, _⟩ := h5
    cases h5
section
end
end K27
set_option maxRecDepth 100000
set_option maxHeartbeats 4000000
/-! A spot, drawn. -/
namespace K27
open PySem PySem.Spec PyProof.Rows L2 KF KD KP
def Bd (x y : Int) : Prop := -5000 ≤ x ∧ x ≤ 5000 ∧ -5000 ≤ y ∧ y ≤ 5000
theorem pick6 {K : PySem.W.Frag} {H : Hp} {p0 p1 p2 p3 : Addr} {a0 b0 a1 b1 a2 b2 a3 b3 w : Int} (h0 : SqT K H p0 [.int a0, .int b0]) (h1 : SqT K H p1 [.int a1, .int b1]) (h2 : SqT K H p2 [.int a2, .int b2]) (h3 : SqT K H p3 [.int a3, .int b3]) (g0 : Bd a0 b0) (g1 : Bd a1 b1) (g2 : Bd a2 b2) (g3 : Bd a3 b3) (w0 : 0 ≤ w) (w1 : w < 6) : ∃ (pv : Addr) (x y : Int), atI [V.ref p0, .ref p0, .ref p0, .ref p1, .ref p2, .ref p3] w = some (.ref pv) ∧ SqT K H pv [.int x, .int y] ∧ Bd x y := by
  obtain ⟨n, rfl⟩ := Int.eq_ofNat_of_zero_le w0
  have hn : n = 0 ∨ n = 1 ∨ n = 2 ∨ n = 3 ∨ n = 4 ∨ n = 5 := by omega
  rcases hn with rfl | rfl | rfl | rfl | rfl | rfl
  · exact ⟨p0, _, _, atI_nat rfl, h0, g0⟩
  · exact ⟨p0, _, _, atI_nat rfl, h0, g0⟩
  · exact ⟨p0, _, _, atI_nat rfl, h0, g0⟩
  · exact ⟨p1, _, _, atI_nat rfl, h1, g1⟩
  · exact ⟨p2, _, _, atI_nat rfl, h2, g2⟩
  · exact ⟨p3, _, _, atI_nat rfl, h3, g3⟩
section
variable {P : Program} {w : World} {K : PySem.W.Frag} {mg : Str → Option Value} {base : Heap}
def spSpt (K : PySem.W.Frag) : Sp := fun vs H Q _ => ∃ (d ta : Addr) (g : V) (G : Gm) (sl : List (Option Tg)) (n : Nat), vs = [.ref d, g, .ref ta, .int (n : Int)] ∧ Pot H d ∧ GmAt K H g G ∧ G.ok ∧ SlAll G sl ∧ TsD K H ta sl ∧ n < G.kds.length ∧ ∀ (p : Addr) (x y : Int) H', Frm d H H' → Pot H' d → SqT K H' p [.int x, .int y] → -5000 ≤ x ∧ x ≤ 5000 ∧ -5000 ≤ y ∧ y ≤ 5000 → Q (.ref p) H'
theorem scSp : FnScope ["pot", "game", "things", "kind", "wide", "high", "own_wide", "own_high", "x", "y", "way", "others", "near", "box", "along", "beside", "over", "turn", "thing"] ["pot", "game", "things", "kind"] (defScope s_law_spot) := ⟨rfl, rfl, rfl, by decide +kernel, rfl, by decide +kernel, by decide +kernel⟩
theorem ok_law_spot (T : Txt K w mg) : FnOk P w K mg base CX0 6 (He.fAd K ("_law_spot", none)) (fdAt K (He.fAd K ("_law_spot", none))) ["pot", "game", "things", "kind"] (spSpt K) := by
  refine T.F_law_spot.ok scSp (fun vs H Q E h => ?_) (fun cdv A outer s H vs Q E hr h => ?_)
  · obtain ⟨d, ta, g, G, sl, n, rfl, _⟩ := h
    rfl
  · obtain ⟨d, ta, g, G, sl, n, rfl, hd, hg, o, sa, ht, hn, k⟩ := h
    refine ⟨_, PSs.nox (pss_cons (ps_asg (pe_call (ok_law_size T) (hr.mono (by first | decide | omega)) (by rfl) T.g_law_size (T.F_law_size).kp T.b_law_size .nil pass0 (pa_cons (pv 1) pa_nil)) (pg_tup (by rfl) (pgs_cons (pg_name (i := 4) scSp.nd rfl (Or.inl rfl)) (pgs_cons (pg_name (i := 5) scSp.nd rfl (Or.inl rfl)) pgs_nil))))
      (pss_cons (ps_par (i := 6) (j := 7) (by rfl) scSp.nd rfl rfl (by decide) rfl rfl (pa_cons (pe_ix (r := rIxT K) ix_tup (pe_ix (r := rIxT K) ix_tup (pe_ix (r := rIxT K) ix_tup (pv 1) pe_int (fun _ _ => rfl)) (pv 3) (fun _ _ => rfl)) pe_int (fun _ _ => rfl)) (pa_cons (pe_ix (r := rIxT K) ix_tup (pe_ix (r := rIxT K) ix_tup (pe_ix (r := rIxT K) ix_tup (pv 1) pe_int (fun _ _ => rfl)) (pv 3) (fun _ _ => rfl)) pe_int (fun _ _ => rfl)) pa_nil)) (by rfl))
      (pss_cons (ps_par (i := 8) (j := 9) (by rfl) scSp.nd rfl rfl (by decide) rfl rfl (pa_cons (pe_call (ok_law_take T) (hr.mono (by first | decide | omega)) (by rfl) T.g_law_take (T.F_law_take).kp T.b_law_take .nil pass0 (pa_cons (pv 0) (pa_cons (pv 4) pa_nil))) (pa_cons (pe_call (ok_law_take T) (hr.mono (by first | decide | omega)) (by rfl) T.g_law_take (T.F_law_take).kp T.b_law_take .nil pass0 (pa_cons (pv 0) (pa_cons (pv 5) pa_nil))) pa_nil)) (by rfl))
      (pss_cons (ps_set (i := 10) scSp.nd rfl (Or.inl rfl) (pe_call (ok_law_take T) (hr.mono (by first | decide | omega)) (by rfl) T.g_law_take (T.F_law_take).kp T.b_law_take .nil pass0 (pa_cons (pv 0) (pa_cons pe_int pa_nil))))
      (pss_cons (ps_setLc (i := 11) (own := [("thing", 18)]) (g := gName 18) (by rfl) scSp.nd rfl rfl (sw_true rfl rfl rfl (by decide +kernel)) (pi_list (pv 2)) (blkOk_by (own := [("thing", 18)]) (N := ["pot", "game", "things", "kind", "wide", "high", "own_wide", "own_high", "x", "y", "way", "others", "near", "box", "along", "beside", "over", "turn", "thing"]) (sc := defScope s_law_spot) (by decide +kernel)) (fun _ _ _ _ _ => pg_name (i := 18) scSp.nd rfl (Or.inl rfl)) (fun _ _ _ _ _ => pts_one (pt_cmpR op_notN (pv 18) pe_non (nomark _))) (fun _ _ _ _ _ => (pv 18)))
      (pss_cons (ps_if (PW.pt (pw_and (pt_cmpR op_lt (pv 10) pe_int (nomark _)) (pw_and1 (pt_cmpR (r := rNeNil K false) (op_neNil hr.units) (pv 11) (pe_lst pa_nil) (nomark _))))) (pss_cons (ps_set (i := 12) scSp.nd rfl (Or.inl rfl) (pe_callB (call_min2 rfl) (by rfl) T.n_min PyProof.Rows.Boot.«min» (pa_cons (pe_call (ok_law_take T) (hr.mono (by first | decide | omega)) (by rfl) T.g_law_take (T.F_law_take).kp T.b_law_take .nil pass0 (pa_cons (pv 0) (pa_cons (pe_callB (r := Evl.rLenS K) call_len_seq (by rfl) T.n_len PyProof.Rows.Boot.«len» (pa_cons (pv 11) pa_nil)) pa_nil))) (pa_cons (pe_call (ok_law_take T) (hr.mono (by first | decide | omega)) (by rfl) T.g_law_take (T.F_law_take).kp T.b_law_take .nil pass0 (pa_cons (pv 0) (pa_cons (pe_callB (r := Evl.rLenS K) call_len_seq (by rfl) T.n_len PyProof.Rows.Boot.«len» (pa_cons (pv 11) pa_nil)) pa_nil))) pa_nil))))
      (pss_cons (ps_set (i := 13) scSp.nd rfl (Or.inl rfl) (pe_call (ok_law_box T) (hr.mono (by first | decide | omega)) (by rfl) T.g_law_box (T.F_law_box).kp T.b_law_box .nil pass0 (pa_cons (pv 1) (pa_cons (pe_ix (r := rIxL K) ix_list (pv 11) (pv 12) (fun _ _ => rfl)) pa_nil))))
      (pss_cons (ps_set (i := 14) scSp.nd rfl (Or.inl rfl) (pe_op op_add (pe_op op_sub (pe_op op_add (pe_ix (r := rIxT K) ix_tup (pv 13) pe_int (fun _ _ => rfl)) (pe_call (ok_law_take T) (hr.mono (by first | decide | omega)) (by rfl) T.g_law_take (T.F_law_take).kp T.b_law_take .nil pass0 (pa_cons (pv 0) (pa_cons (pe_op op_sub (pe_op op_add (pe_ix (r := rIxT K) ix_tup (pv 13) pe_int (fun _ _ => rfl)) (pv 6)) pe_int) pa_nil)))) (pv 6)) pe_int))
      (pss_cons (ps_set (i := 15) scSp.nd rfl (Or.inl rfl) (pe_op op_add (pe_op op_sub (pe_op op_add (pe_ix (r := rIxT K) ix_tup (pv 13) pe_int (fun _ _ => rfl)) (pe_call (ok_law_take T) (hr.mono (by first | decide | omega)) (by rfl) T.g_law_take (T.F_law_take).kp T.b_law_take .nil pass0 (pa_cons (pv 0) (pa_cons (pe_op op_sub (pe_op op_add (pe_ix (r := rIxT K) ix_tup (pv 13) pe_int (fun _ _ => rfl)) (pv 7)) pe_int) pa_nil)))) (pv 7)) pe_int))
      (pss_cons (ps_set (i := 16) scSp.nd rfl (Or.inl rfl) (pe_tup (pa_cons (pv 14) (pa_cons (pe_op op_sub (pe_ix (r := rIxT K) ix_tup (pv 13) pe_int (fun _ _ => rfl)) (pv 7)) pa_nil))))
      (pss_one (ps_asg (pe_ix (r := rIxL K) ix_list (pe_lst (pa_cons (pv 16) (pa_cons (pv 16) (pa_cons (pv 16) (pa_cons (pe_tup (pa_cons (pe_op op_add (pe_op op_add (pe_ix (r := rIxT K) ix_tup (pv 13) pe_int (fun _ _ => rfl)) (pe_ix (r := rIxT K) ix_tup (pv 13) pe_int (fun _ _ => rfl))) (pe_call (ok_law_take T) (hr.mono (by first | decide | omega)) (by rfl) T.g_law_take (T.F_law_take).kp T.b_law_take .nil pass0 (pa_cons (pv 0) (pa_cons pe_int pa_nil)))) (pa_cons (pv 15) pa_nil))) (pa_cons (pe_tup (pa_cons (pe_op op_sub (pe_op op_sub (pe_ix (r := rIxT K) ix_tup (pv 13) pe_int (fun _ _ => rfl)) (pv 6)) (pe_call (ok_law_take T) (hr.mono (by first | decide | omega)) (by rfl) T.g_law_take (T.F_law_take).kp T.b_law_take .nil pass0 (pa_cons (pv 0) (pa_cons pe_int pa_nil)))) (pa_cons (pv 15) pa_nil))) (pa_cons (pe_tup (pa_cons (pv 14) (pa_cons (pe_op op_add (pe_ix (r := rIxT K) ix_tup (pv 13) pe_int (fun _ _ => rfl)) (pe_ix (r := rIxT K) ix_tup (pv 13) pe_int (fun _ _ => rfl))) pa_nil))) pa_nil))))))) (pv 10) (fun _ _ => rfl)) (pg_tup (by rfl) (pgs_cons (pg_name (i := 8) scSp.nd rfl (Or.inl rfl)) (pgs_cons (pg_name (i := 9) scSp.nd rfl (Or.inl rfl)) pgs_nil)))))))))) (pss_one (ps_if (PW.pt (pw_and (pt_cmpR op_lt (pv 10) pe_int (nomark _)) (pw_and1 (pt_val (pe_call (ok_law_free T) (hr.mono (by first | decide | omega)) (by rfl) T.g_law_free (T.F_law_free).kp T.b_law_free .nil pass0 (pa_cons (pv 1) (pa_cons (pe_tup (pa_cons (pv 8) (pa_cons (pv 9) (pa_cons (pv 6) (pa_cons (pv 7) pa_nil))))) pa_nil))))))) (pss_one (ps_for PassesOwn.never rfl (pi_range1 (by rfl) T.n_range (pa_cons (pe_op op_sub (pe_op op_sub (pv 5) pe_int) (pv 9)) pa_nil)) (pg_name (i := 17) scSp.nd rfl (Or.inl rfl)) (pss_cons (ps_if (pt_val (pe_call (ok_law_stops T) (hr.mono (by first | decide | omega)) (by rfl) T.g_law_stops (T.F_law_stops).kp T.b_law_stops .nil pass0 (pa_cons (pv 1) (pa_cons (pe_tup (pa_cons (pv 8) (pa_cons (pv 9) (pa_cons (pv 6) (pa_cons (pv 7) pa_nil))))) (pa_cons pe_int (pa_cons pe_int pa_nil)))))) (pss_one ps_break) pss_nil)
      (pss_one (ps_aug (i := 9) scSp.nd rfl (Or.inl rfl) pe_int ip_add))))) pss_nil)))
      (pss_one (ps_ret (pe_tup (pa_cons (pv 8) (pa_cons (pv 9) pa_nil))))))))))), ?_⟩
    obtain ⟨ga, lv, ksv, rfl, sg, hlv, hks⟩ := id hg
    obtain ⟨ka, kv, rfl, hka, kl, hke⟩ := id hks
    obtain ⟨kd, hkd⟩ : ∃ kd, G.kds[n]? = some kd := ⟨_, List.getElem?_eq_getElem hn⟩
    obtain ⟨kw1, kw2, kh1, kh2, _⟩ := o.kw kd (List.mem_of_getElem? hkd)
    obtain ⟨kx, hkx, ⟨kp, kt, ow, ru, rfl, hkp, hkt⟩⟩ := hke n kd hkd
    have hW : G.wi = 8 * (G.W : Int) := rfl
    have hHi : G.hi = 8 * (G.rows.length : Int) := rfl
    have ow1 := o.w1
    have ow2 := o.w2
    have or1 := o.r1
    have or2 := o.r2
    have tad : ta ≠ d := ht.ts.ne sa hd
    refine ⟨_, rfl, _, G, rfl, hg, o, fun ps H1 s1 hps => ⟨ps, _, rfl, SqT.of hps, rfl, _, _, rfl, _, _, rfl, rfl, ?_⟩⟩
    have t1 := same_tf s1
    have d1 := hd.same s1
    refine ⟨_, rfl, ga, _, _, _, rfl, rfl, t1.sq sg, atI_nat (j := 1) rfl, _, rfl, ka, kv, _, _, rfl, rfl, t1.sq hka, atI_nat hkx, kp, _, _, _, rfl, rfl, t1.sq hkp, atI_nat (j := 1) rfl, _, rfl, ga, _, _, _, rfl, rfl, t1.sq sg, atI_nat (j := 1) rfl, _, rfl, ka, kv, _, _, rfl, rfl, t1.sq hka, atI_nat hkx, kp, _, _, _, rfl, rfl, t1.sq hkp, atI_nat (j := 2) rfl, _, _, rfl, ?_⟩
    refine ⟨_, rfl, _, rfl, d, G.wi, rfl, by omega, by omega, d1, fun x H2 x0 x1 f2 d2 => ⟨_, rfl, _, rfl, d, G.hi, rfl, by omega, by omega, d2, fun y H3 y0 y1 f3 d3 => ⟨_, _, rfl, ?_⟩⟩⟩
    refine ⟨_, rfl, d, 9, rfl, by decide, by decide, d3, fun way H4 w0 w1 f4 d4 => ?_⟩
    have F4 := (Frm.of_same s1).trans (f2.trans (f3.trans f4))
    have ht4 := ht.frm hd F4 tad
    obtain ⟨tv, htv, tl, hts, htd⟩ := id ht4
    refine ⟨_, rfl, ta, rfl, ⟨_, SqL.of htv⟩, fun D hD => ?_⟩
    refine lc_it (walk_list (K := K) (a := ta) (xs := tv)) (fun i H' => ∃ acc : List V, Same H4 H' ∧ H' D = some (.lst acc) ∧ acc.length ≤ i ∧ ThsAt K H4 G acc ∧ DL K H4 acc) ⟨[], new_same hD, upd_same, Nat.le_refl _, fun _ m => (List.not_mem_nil m).elim, fun _ m => (List.not_mem_nil m).elim⟩ (fun i H' _ h => by obtain ⟨_, s, _⟩ := h; exact SqL.of (s _ _ htv)) (fun i v H' Hx hi h yy => ?_) (fun H' h => ?_)
    · obtain ⟨rfl, hv⟩ := yy
      obtain ⟨acc, sm, hl, al, hth, hdl⟩ := h
      refine ⟨rfl, ?_⟩
      obtain ⟨so, hso⟩ : ∃ so, sl[i]? = some so := ⟨_, List.getElem?_eq_getElem (by rw [sa.len]; omega)⟩
      obtain ⟨v', hv1, hv2⟩ := hts i so hso
      have hv2 := hv2.at'
      rw [hv] at hv1
      injection hv1 with hv1
      subst hv1
      refine ⟨_, rfl, rfl, _, rfl, ?_⟩
      cases so with
      | none =>
        obtain rfl : v = .non := hv2
        exact iteF ⟨acc, sm, hl, by omega, hth, hdl⟩
      | some t =>
        have hv2 : TgAt K H4 v t := hv2
        obtain ⟨kd2, hkd2, _⟩ := (sa.ok t (List.mem_of_getElem? hso)).kd
        obtain ⟨tad, ow2, rfl, _⟩ := id hv2
        refine iteT ⟨_, rfl, acc, hl, Nat.lt_of_le_of_lt (show acc.length ≤ 24 by omega) (by decide), acc ++ [_], fun c o z => ?_, upd_same, by rw [List.length_append]; simp only [List.length_cons, List.length_nil]; omega, fun u m => ?_, fun u m => ?_⟩
        · rw [upd_ne (ne_of_none z hD)]
          exact sm _ _ z
        · rcases List.mem_append.mp m with m | m
          · exact hth u m
          · rw [List.mem_singleton.mp m]
            exact ⟨t, kd2, hv2, hkd2, sa.ok t (List.mem_of_getElem? hso)⟩
        · rcases List.mem_append.mp m with m | m
          · exact hdl u m
          · rw [List.mem_singleton.mp m]
            exact htd _ (List.mem_of_getElem? hv)
    obtain ⟨acc, sm, hl, al, hth, hdl⟩ := h
    have F5 := F4.trans (Frm.of_same sm)
    have d5 := d4.same sm
    have Dd : D ≠ d := d4.ne hD
    have acl : acc.length ≤ 16 := by omega
    refine seq_cut (fun σ' H'' => σ' = [some (.ref d), some (.ref ga), some (.ref ta), some (.int (n : Int)), some (.int G.wi), some (.int G.hi), some (.int kd.w), some (.int kd.h), some (.int x), some (.int y), some (.int way), some (.ref D), none, none, none, none, none, none, none] ∧ H'' = H') (fun σ' H'' hq => ?_) (fun R hR => hR _ _ ⟨rfl, rfl⟩)
    obtain ⟨rfl, rfl⟩ := hq
    refine seq_cut (fun σ' H6 => ∃ (x y : Int) (v12 v13 v14 v15 v16 v17 : Option V), σ' = [some (.ref d), some (.ref ga), some (.ref ta), some (.int (n : Int)), some (.int G.wi), some (.int G.hi), some (.int kd.w), some (.int kd.h), some (.int x), some (.int y), some (.int way), some (.ref D), v12, v13, v14, v15, v16, v17, none] ∧ -5000 ≤ x ∧ x ≤ 5000 ∧ -5000 ≤ y ∧ y ≤ 5000 ∧ Frm d H H6 ∧ Pot H6 d) (fun σ' H6 hP => ?_) (fun R hR => ?_)
    · obtain ⟨x, y, v12, v13, v14, v15, v16, v17, rfl, b1, b2, b3, b4, F6, d6⟩ := hP
      exact ⟨_, rfl, _, rfl, (show 2 ≤ sizeLine by decide), fun p np => k p x y _ (F6.trans (Frm.of_same (new_same np))) (d6.same (new_same np)) (SqT.of upd_same) ⟨b1, b2, b3, b4⟩⟩
    · refine ⟨_, rfl, _, _, rfl, rfl, _, rfl, ite2 (fun z => ?_) (fun z => ?_)⟩
      · refine ⟨_, rfl, (show 0 ≤ sizeLine by decide), fun e ne => ?_⟩
        have se := new_same (o := .lst []) ne
        refine ne_nil (se _ _ hl) upd_same (DL.tf hdl (same_tf (sm.trans se))) ⟨_, rfl, ite2 (fun z2 => ?_) (fun _ => ?_)⟩
        · have z2 : acc ≠ [] := fun e => by rw [e] at z2; cases z2
          have l1 : 1 ≤ acc.length := by
            cases acc with
            | nil => exact absurd rfl z2
            | cons _ _ => exact Nat.succ_le_succ (Nat.zero_le _)
          have dE := d5.same se
          have hlE := se _ _ hl
          refine ⟨_, rfl, _, rfl, D, _, rfl, .inl (SqL.of hlE), d, _, rfl, by omega, by omega, dE, fun ja HA a0 a1 fA dA => ?_⟩
          have hlA := fA _ _ Dd hlE
          refine ⟨_, rfl, _, rfl, D, _, rfl, .inl (SqL.of hlA), d, _, rfl, by omega, by omega, dA, fun jb HB b0 b1 fB dB => ⟨_, _, rfl, ?_⟩⟩
          have hlB := fB _ _ Dd hlA
          obtain ⟨near, hnr⟩ : ∃ near : Nat, (if jb < ja then jb else ja) = (near : Int) ∧ near < acc.length := by
            refine ⟨(if jb < ja then jb else ja).toNat, ?_, ?_⟩ <;> split <;> omega
          rw [hnr.1]
          obtain ⟨u, hu⟩ : ∃ u, acc[near]? = some u := ⟨_, List.getElem?_eq_getElem hnr.2⟩
          obtain ⟨t, kd2, ht2, hkd2, tok⟩ := hth u (List.mem_of_getElem? hu)
          obtain ⟨k2w1, k2w2, k2h1, k2h2, _⟩ := o.kw kd2 (List.mem_of_getElem? hkd2)
          have hhi := hi_le o
          have tx1 := tok.x1
          have tx2 := tok.x2
          have ty1 := tok.y1
          have ty2 := tok.y2
          obtain ⟨tad2, ow2, rfl, _⟩ := id ht2
          have tfB : TF H4 HB := (same_tf (sm.trans se)).trans ((pot_tf fA dE).trans (pot_tf fB dA))
          have FB : Frm d H HB := (F5.trans (Frm.of_same se)).trans (fA.trans fB)
          refine ⟨_, rfl, _, rfl, _, rfl, D, acc, _, _, rfl, rfl, SqL.of hlB, atI_nat hu, .ref ga, _, G, t, kd2, rfl, hg.tf (pot_tf FB hd), TgAt.tf ht2 tfB, hkd2, fun pb H6 s6 hpb => ?_⟩
          have sq6 : SqT K H6 pb (t.box kd2).vs := SqT.of hpb
          have d6 := dB.same s6
          have F6 := FB.trans (Frm.of_same s6)
          refine ⟨_, rfl, pb, _, _, _, rfl, rfl, sq6, atI_nat (j := 0) rfl, _, rfl, _, rfl, pb, _, _, _, rfl, rfl, sq6, atI_nat (j := 2) rfl, _, rfl, _, _, rfl, rfl, _, _, rfl, rfl, d, _, rfl, ?_, ?_, d6, fun c H7 c0 c1 f7 d7 => ⟨_, _, rfl, rfl, _, rfl, _, _, rfl, rfl, _, _, rfl, rfl, ?_⟩⟩
          · show 0 < kd2.w + kd.w - 1
            omega
          · show kd2.w + kd.w - 1 < 1000000000000
            omega
          have c1 : c < kd2.w + kd.w - 1 := c1
          have sq7 := (pot_tf f7 d6).sq sq6
          refine ⟨_, rfl, pb, _, _, _, rfl, rfl, sq7, atI_nat (j := 1) rfl, _, rfl, _, rfl, pb, _, _, _, rfl, rfl, sq7, atI_nat (j := 3) rfl, _, rfl, _, _, rfl, rfl, _, _, rfl, rfl, d, _, rfl, ?_, ?_, d7, fun q H8 q0 q1 f8 d8 => ⟨_, _, rfl, rfl, _, rfl, _, _, rfl, rfl, _, _, rfl, rfl, ?_⟩⟩
          · show 0 < kd2.h + kd.h - 1
            omega
          · show kd2.h + kd.h - 1 < 1000000000000
            omega
          have q1 : q < kd2.h + kd.h - 1 := q1
          have sq8 := (pot_tf f8 d7).sq sq7
          have F8 := F6.trans (f7.trans f8)
          refine ⟨_, rfl, _, rfl, pb, _, _, _, rfl, rfl, sq8, atI_nat (j := 1) rfl, _, rfl, _, _, rfl, rfl, (show 2 ≤ sizeLine by decide), fun po npo => ?_⟩
          have so := new_same (o := .tup [V.int ((t.box kd2).x + c - kd.w + 1), .int ((t.box kd2).y - kd.h)]) npo
          have sqo : SqT K (upd H8 po (.tup [V.int ((t.box kd2).x + c - kd.w + 1), .int ((t.box kd2).y - kd.h)])) po [V.int ((t.box kd2).x + c - kd.w + 1), .int ((t.box kd2).y - kd.h)] := SqT.of upd_same
          obtain ⟨H9, hH9⟩ : ∃ H9, H9 = upd H8 po (.tup [V.int ((t.box kd2).x + c - kd.w + 1), .int ((t.box kd2).y - kd.h)]) := ⟨_, rfl⟩
          show gName 16 _ _ (upd H8 po (.tup [V.int ((t.box kd2).x + c - kd.w + 1), .int ((t.box kd2).y - kd.h)])) _
          rw [← hH9] at so sqo ⊢
          have sq9 := (same_tf so).sq sq8
          have d9 := d8.same so
          refine ⟨_, rfl, _, rfl, _, rfl, _, rfl, pb, _, _, _, rfl, rfl, sq9, atI_nat (j := 0) rfl, _, rfl, pb, _, _, _, rfl, rfl, sq9, atI_nat (j := 2) rfl, _, _, rfl, rfl, _, rfl, d, 2, rfl, by decide, by decide, d9, fun e1 Ha a0 a1 fa da => ⟨_, _, rfl, rfl, _, rfl, (show 2 ≤ sizeLine by decide), fun p1 np1 => ?_⟩⟩
          have s1' := new_same (o := .tup [V.int ((t.box kd2).x + (t.box kd2).w + e1), .int ((t.box kd2).y + q - kd.h + 1)]) np1
          have r1 : SqT K (upd Ha p1 (.tup [V.int ((t.box kd2).x + (t.box kd2).w + e1), .int ((t.box kd2).y + q - kd.h + 1)])) p1 [V.int ((t.box kd2).x + (t.box kd2).w + e1), .int ((t.box kd2).y + q - kd.h + 1)] := SqT.of upd_same
          have ro := (same_tf s1').sq ((pot_tf fa d9).sq sqo)
          have sqA := (same_tf s1').sq ((pot_tf fa d9).sq sq9)
          have dA2 := da.same s1'
          have FA := (F8.trans (Frm.of_same so)).trans (fa.trans (Frm.of_same s1'))
          refine ⟨_, rfl, pb, _, _, _, rfl, rfl, sqA, atI_nat (j := 0) rfl, _, rfl, _, _, rfl, rfl, _, rfl, d, 2, rfl, by decide, by decide, dA2, fun e2 Hb b0 b1 fb db => ⟨_, _, rfl, rfl, _, rfl, (show 2 ≤ sizeLine by decide), fun p2 np2 => ?_⟩⟩
          have s2' := new_same (o := .tup [V.int ((t.box kd2).x - kd.w - e2), .int ((t.box kd2).y + q - kd.h + 1)]) np2
          have r2 : SqT K (upd Hb p2 (.tup [V.int ((t.box kd2).x - kd.w - e2), .int ((t.box kd2).y + q - kd.h + 1)])) p2 [V.int ((t.box kd2).x - kd.w - e2), .int ((t.box kd2).y + q - kd.h + 1)] := SqT.of upd_same
          have tfb := (pot_tf fb dA2).trans (same_tf s2')
          have sqB := tfb.sq sqA
          refine ⟨_, rfl, _, rfl, pb, _, _, _, rfl, rfl, sqB, atI_nat (j := 1) rfl, _, rfl, pb, _, _, _, rfl, rfl, sqB, atI_nat (j := 3) rfl, _, _, rfl, rfl, (show 2 ≤ sizeLine by decide), fun p3 np3 => ⟨(show 6 ≤ sizeLine by decide), fun pl npl => ?_⟩⟩
          have s3' := new_same (o := .tup [V.int ((t.box kd2).x + c - kd.w + 1), .int ((t.box kd2).y + (t.box kd2).h)]) np3
          have s4' := new_same (o := .lst [V.ref po, .ref po, .ref po, .ref p1, .ref p2, .ref p3]) npl
          have FZ := (FA.trans (fb.trans (Frm.of_same s2'))).trans (Frm.of_same (s3'.trans s4'))
          have dZ := (db.same s2').same (s3'.trans s4')
          have tfz := same_tf (s3'.trans s4')
          have zo := tfz.sq (tfb.sq ro)
          have z1 := tfz.sq (tfb.sq r1)
          have z2' := tfz.sq r2
          have z3 := (same_tf s4').sq (SqT.of (K := K) (upd_same (H := upd Hb p2 (.tup [V.int ((t.box kd2).x - kd.w - e2), .int ((t.box kd2).y + q - kd.h + 1)])) (a := p3) (o := .tup [V.int ((t.box kd2).x + c - kd.w + 1), .int ((t.box kd2).y + (t.box kd2).h)])))
          have bxx : (t.box kd2).x = t.x := rfl
          have bxy : (t.box kd2).y = t.y := rfl
          have bxw : (t.box kd2).w = kd2.w := rfl
          have bxh : (t.box kd2).h = kd2.h := rfl
          have w6 : way < 6 := of_decide_eq_true z
          obtain ⟨pv, X, Y, hat, hsq, hbd⟩ := pick6 zo z1 z2' z3 (by unfold Bd; omega) (by unfold Bd; omega) (by unfold Bd; omega) (by unfold Bd; omega) w0 w6
          refine ⟨_, rfl, pl, _, _, .ref pv, rfl, rfl, SqL.of upd_same, hat, pv, _, rfl, hsq, rfl, _, _, rfl, _, _, rfl, rfl, ?_⟩
          obtain ⟨g1, g2, g3, g4⟩ := hbd
          exact hR _ _ ⟨X, Y, _, _, _, _, _, _, rfl, g1, g2, g3, g4, FZ, dZ⟩
        · have hgE : GmAt K (upd H'' e (.lst [])) (.ref ga) G := hg.tf (same_tf (Same.refl H) |>.trans (pot_tf (F5.trans (Frm.of_same se)) hd))
          refine ⟨_, rfl, _, _, rfl, rfl, _, rfl, ite2 (fun z2 => ?_) (fun _ => iteF (hR _ _ ⟨x, y, _, _, _, _, _, _, rfl, by omega, by omega, by omega, by omega, F5.trans (Frm.of_same se), d5.same se⟩))⟩
          refine ⟨_, rfl, _, rfl, _, rfl, _, rfl, _, rfl, (show 4 ≤ sizeLine by decide), fun pb npb => ?_⟩
          have sb := new_same (o := .tup [V.int x, .int y, .int kd.w, .int kd.h]) npb
          have limY : ∀ q : Int, 0 ≤ q → q ≤ 400 → (Bx.mk x q kd.w kd.h).lim := fun q q0 q1 => lim_box (by show -5000 ≤ x; omega) (by show x ≤ 5000; omega) (by show -5000 ≤ q; omega) (by show q ≤ 5000; omega) kw1 (by show kd.w ≤ 20; omega) kh1 (by show kd.h ≤ 20; omega)
          refine ⟨_, .ref pb, G, ⟨x, y, kd.w, kd.h⟩, rfl, hgE.tf (same_tf sb), o, ⟨pb, rfl, SqT.of upd_same⟩, limY y y0 (by omega), fun H7 s7 => ?_⟩
          have SA := (se).trans (sb.trans s7)
          cases hfr : G.fr ⟨x, y, kd.w, kd.h⟩ with
          | false => exact ⟨_, rfl, iteF (hR _ _ ⟨x, y, _, _, _, _, _, _, rfl, by omega, by omega, by omega, by omega, F5.trans (Frm.of_same SA), d5.same SA⟩)⟩
          | true =>
            refine ⟨_, rfl, iteT ⟨_, rfl, _, _, rfl, rfl, _, rfl, _, _, rfl, rfl, _, rfl, by omega, by omega, ?_⟩⟩
            refine L2.for_it (walk_r0 (n := (G.hi - 1 - y).toNat)) (fun i σ H8 => ∃ v17 : Option V, σ = [some (.ref d), some (.ref ga), some (.ref ta), some (.int (n : Int)), some (.int G.wi), some (.int G.hi), some (.int kd.w), some (.int kd.h), some (.int x), some (.int (y + (i : Int))), some (.int way), some (.ref D), none, none, none, none, none, v17, none] ∧ Same H'' H8) ⟨_, by rw [show y + ((0 : Nat) : Int) = y by omega], SA⟩ (fun _ _ _ _ _ => trivial) (fun i x0 σ H8 Hx hi hPv hy => ?_) (fun σ H8 hPv => ?_)
            · obtain ⟨v17, rfl, S8⟩ := hPv
              obtain ⟨rfl, rfl⟩ := hy
              have F8 := F5.trans (Frm.of_same S8)
              refine ⟨_, rfl, _, rfl, _, rfl, _, rfl, _, rfl, (show 4 ≤ sizeLine by decide), fun pc npc => ?_⟩
              have scc := new_same (o := .tup [V.int x, .int (y + (i : Int)), .int kd.w, .int kd.h]) npc
              refine ⟨_, .ref pc, G, ⟨x, y + (i : Int), kd.w, kd.h⟩, 0, 1, rfl, hg.tf (pot_tf (F8.trans (Frm.of_same scc)) hd), o, ⟨pc, rfl, SqT.of upd_same⟩, limY _ (by omega) (by omega), ?_, ?_, fun H9 s9 => ?_⟩
              · have e : (Bx.mk x (y + (i : Int)) kd.w kd.h).mv 0 1 = ⟨x, y + (i : Int) + 1, kd.w, kd.h⟩ := by
                  unfold Bx.mv
                  rw [Int.add_zero]
                rw [e]
                exact limY _ (by omega) (by omega)
              · show y + (i : Int) + kd.h ≤ 100000
                omega
              · have S9 := S8.trans (scc.trans s9)
                cases hst : G.stp ⟨x, y + (i : Int), kd.w, kd.h⟩ 0 1 with
                | true => exact ⟨_, rfl, iteT (hR _ _ ⟨x, _, _, _, _, _, _, _, rfl, by omega, by omega, by omega, by omega, F5.trans (Frm.of_same S9), d5.same S9⟩)⟩
                | false =>
                  refine ⟨_, rfl, iteF ⟨_, rfl, _, _, rfl, rfl, some (.int (i : Int)), ?_, S9⟩⟩
                  rw [show y + ((i + 1 : Nat) : Int) = y + (i : Int) + 1 by omega]
                  rfl
            · obtain ⟨v17, rfl, S8⟩ := hPv
              exact hR _ _ ⟨x, _, _, _, _, _, _, _, rfl, by omega, by omega, by omega, by omega, F5.trans (Frm.of_same S8), d5.same S8⟩
      · refine iteF ?_
        have hgE : GmAt K H'' (.ref ga) G := hg.tf (same_tf (Same.refl H) |>.trans (pot_tf (F5.trans (Frm.of_same (Same.refl H''))) hd))
        refine ⟨_, rfl, _, _, rfl, rfl, _, rfl, ite2 (fun z2 => ?_) (fun _ => iteF (hR _ _ ⟨x, y, _, _, _, _, _, _, rfl, by omega, by omega, by omega, by omega, F5.trans (Frm.of_same (Same.refl H'')), d5.same (Same.refl H'')⟩))⟩
        refine ⟨_, rfl, _, rfl, _, rfl, _, rfl, _, rfl, (show 4 ≤ sizeLine by decide), fun pb npb => ?_⟩
        have sb := new_same (o := .tup [V.int x, .int y, .int kd.w, .int kd.h]) npb
        have limY : ∀ q : Int, 0 ≤ q → q ≤ 400 → (Bx.mk x q kd.w kd.h).lim := fun q q0 q1 => lim_box (by show -5000 ≤ x; omega) (by show x ≤ 5000; omega) (by show -5000 ≤ q; omega) (by show q ≤ 5000; omega) kw1 (by show kd.w ≤ 20; omega) kh1 (by show kd.h ≤ 20; omega)
        refine ⟨_, .ref pb, G, ⟨x, y, kd.w, kd.h⟩, rfl, hgE.tf (same_tf sb), o, ⟨pb, rfl, SqT.of upd_same⟩, limY y y0 (by omega), fun H7 s7 => ?_⟩
        have SA := ((Same.refl H'')).trans (sb.trans s7)
        cases hfr : G.fr ⟨x, y, kd.w, kd.h⟩ with
        | false => exact ⟨_, rfl, iteF (hR _ _ ⟨x, y, _, _, _, _, _, _, rfl, by omega, by omega, by omega, by omega, F5.trans (Frm.of_same SA), d5.same SA⟩)⟩
        | true =>
          refine ⟨_, rfl, iteT ⟨_, rfl, _, _, rfl, rfl, _, rfl, _, _, rfl, rfl, _, rfl, by omega, by omega, ?_⟩⟩
          refine L2.for_it (walk_r0 (n := (G.hi - 1 - y).toNat)) (fun i σ H8 => ∃ v17 : Option V, σ = [some (.ref d), some (.ref ga), some (.ref ta), some (.int (n : Int)), some (.int G.wi), some (.int G.hi), some (.int kd.w), some (.int kd.h), some (.int x), some (.int (y + (i : Int))), some (.int way), some (.ref D), none, none, none, none, none, v17, none] ∧ Same H'' H8) ⟨_, by rw [show y + ((0 : Nat) : Int) = y by omega], SA⟩ (fun _ _ _ _ _ => trivial) (fun i x0 σ H8 Hx hi hPv hy => ?_) (fun σ H8 hPv => ?_)
          · obtain ⟨v17, rfl, S8⟩ := hPv
            obtain ⟨rfl, rfl⟩ := hy
            have F8 := F5.trans (Frm.of_same S8)
            refine ⟨_, rfl, _, rfl, _, rfl, _, rfl, _, rfl, (show 4 ≤ sizeLine by decide), fun pc npc => ?_⟩
            have scc := new_same (o := .tup [V.int x, .int (y + (i : Int)), .int kd.w, .int kd.h]) npc
            refine ⟨_, .ref pc, G, ⟨x, y + (i : Int), kd.w, kd.h⟩, 0, 1, rfl, hg.tf (pot_tf (F8.trans (Frm.of_same scc)) hd), o, ⟨pc, rfl, SqT.of upd_same⟩, limY _ (by omega) (by omega), ?_, ?_, fun H9 s9 => ?_⟩
            · have e : (Bx.mk x (y + (i : Int)) kd.w kd.h).mv 0 1 = ⟨x, y + (i : Int) + 1, kd.w, kd.h⟩ := by
                unfold Bx.mv
                rw [Int.add_zero]
              rw [e]
              exact limY _ (by omega) (by omega)
            · show y + (i : Int) + kd.h ≤ 100000
              omega
            · have S9 := S8.trans (scc.trans s9)
              cases hst : G.stp ⟨x, y + (i : Int), kd.w, kd.h⟩ 0 1 with
              | true => exact ⟨_, rfl, iteT (hR _ _ ⟨x, _, _, _, _, _, _, _, rfl, by omega, by omega, by omega, by omega, F5.trans (Frm.of_same S9), d5.same S9⟩)⟩
              | false =>
                refine ⟨_, rfl, iteF ⟨_, rfl, _, _, rfl, rfl, some (.int (i : Int)), ?_, S9⟩⟩
                rw [show y + ((i + 1 : Nat) : Int) = y + (i : Int) + 1 by omega]
                rfl
          · obtain ⟨v17, rfl, S8⟩ := hPv
            exact hR _ _ ⟨x, _, _, _, _, _, _, _, rfl, by omega, by omega, by omega, by omega, F5.trans (Frm.of_same S8), d5.same S8⟩
end
end K27
set_option maxRecDepth 100000
set_option maxHeartbeats 4000000
/-! Things, drawn. -/
namespace K27
open PySem PySem.Spec PyProof.Rows L2 KF KD KP
theorem ixN_nat {n s : Nat} (h : s < n) : ixN n (s : Int) = some s := by
  have h1 : (s : Int) < (n : Int) := by omega
  simp [ixN, h1]
theorem TsD.put {K : PySem.W.Frag} {H : Hp} {ta : Addr} {tv : List V} {sl : List (Option Tg)} {s : Nat} {v : V} {t : Tg} (h1 : H ta = some (.lst tv)) (h2 : tv.length = 16) (h3 : ∀ (i : Nat) (o : Option Tg), sl[i]? = some o → ∃ v : V, tv[i]? = some v ∧ SlX K H v o) (h4 : DL K H tv) (hs : s < 16) (hl : sl.length = 16) (ht : TgX K H v t) : TsD K (upd H ta (.lst (tv.set s v))) ta (sl.set s (some t)) := by
  have tf := TF.lst1 (o := .lst (tv.set s v)) h1
  refine ⟨_, upd_same, by rw [List.length_set]; exact h2, fun i o z => ?_, fun u m => ?_⟩
  · by_cases e : i = s
    · subst e
      rw [List.getElem?_set_self (by omega)] at z
      injection z with z
      subst z
      exact ⟨v, by rw [List.getElem?_set_self (by omega)], TgX.tf ht tf⟩
    · rw [List.getElem?_set_ne (Ne.symm e)] at z ⊢
      obtain ⟨u, g1, g2⟩ := h3 i o z
      exact ⟨u, g1, g2.tf tf⟩
  · rcases List.mem_or_eq_of_mem_set m with m | rfl
    · exact DL.tf h4 tf u m
    · obtain ⟨d, g1, g2⟩ := ht.al
      exact ⟨d, dp_nl tf _ _ (alok_nl _ _ g2) g1, g2⟩
theorem SlAll.put {G : Gm} {sl : List (Option Tg)} {s : Nat} {t : Tg} (h : SlAll G sl) (ht : TgOk G t) : SlAll G (sl.set s (some t)) := ⟨by rw [List.length_set]; exact h.len, fun u m => by
  rcases List.mem_or_eq_of_mem_set m with m | e
  · exact h.ok u m
  · injection e with e
    rw [e]
    exact ht⟩
section
variable {P : Program} {w : World} {K : PySem.W.Frag} {mg : Str → Option Value} {base : Heap}
def spThg (K : PySem.W.Frag) : Sp := fun vs H Q _ => ∃ (d : Addr) (g : V) (G : Gm) (m : Int), vs = [.ref d, g, .int m] ∧ 0 ≤ m ∧ m ≤ 100 ∧ Pot H d ∧ GmAt K H g G ∧ G.ok ∧ 1 ≤ G.kds.length ∧ ∀ (ta : Addr) (sl : List (Option Tg)) H', Frm d H H' → Pot H' d → TsD K H' ta sl → SlAll G sl → Apt G sl → H ta = none → Q (.ref ta) H'
theorem scTh : FnScope ["pot", "game", "many", "things", "turn", "slot", "kind", "x", "y", "dx", "dy", "own", "i"] ["pot", "game", "many"] (defScope s_law_things) := ⟨rfl, rfl, rfl, by decide +kernel, rfl, by decide +kernel, by decide +kernel⟩
theorem ok_law_things (T : Txt K w mg) : FnOk P w K mg base CX0 7 (He.fAd K ("_law_things", none)) (fdAt K (He.fAd K ("_law_things", none))) ["pot", "game", "many"] (spThg K) := by
  refine T.F_law_things.ok scTh (fun vs H Q E h => ?_) (fun cdv A outer s H vs Q E hr h => ?_)
  · obtain ⟨d, g, G, m, rfl, _⟩ := h
    rfl
  · obtain ⟨d, g, G, m, rfl, m0, m1, hd, hg, o, k1, k⟩ := h
    refine ⟨_, PSs.nox (pss_cons (ps_set (i := 3) scTh.nd rfl (Or.inl rfl) (pe_op op_rep (pe_lst (pa_cons pe_non pa_nil)) pe_int))
      (pss_cons (ps_for PassesOwn.never rfl (pi_range1 (by rfl) T.n_range (pa_cons (pv 2) pa_nil)) (pg_name (i := 4) scTh.nd rfl (Or.inl rfl)) (pss_cons (ps_set (i := 5) scTh.nd rfl (Or.inl rfl) (pe_call (ok_law_take T) (hr.mono (by first | decide | omega)) (by rfl) T.g_law_take (T.F_law_take).kp T.b_law_take .nil pass0 (pa_cons (pv 0) (pa_cons pe_int pa_nil))))
      (pss_cons (ps_set (i := 6) scTh.nd rfl (Or.inl rfl) (pe_call (ok_law_take T) (hr.mono (by first | decide | omega)) (by rfl) T.g_law_take (T.F_law_take).kp T.b_law_take .nil pass0 (pa_cons (pv 0) (pa_cons (pe_callB (r := Evl.rLenS K) call_len_seq (by rfl) T.n_len PyProof.Rows.Boot.«len» (pa_cons (pe_ix (r := rIxT K) ix_tup (pv 1) pe_int (fun _ _ => rfl)) pa_nil)) pa_nil))))
      (pss_cons (ps_asg (pe_call (ok_law_spot T) (hr.mono (by first | decide | omega)) (by rfl) T.g_law_spot (T.F_law_spot).kp T.b_law_spot .nil pass0 (pa_cons (pv 0) (pa_cons (pv 1) (pa_cons (pv 3) (pa_cons (pv 6) pa_nil))))) (pg_tup (by rfl) (pgs_cons (pg_name (i := 7) scTh.nd rfl (Or.inl rfl)) (pgs_cons (pg_name (i := 8) scTh.nd rfl (Or.inl rfl)) pgs_nil))))
      (pss_one (ps_if (PW.pt (pw_and (pt_cmpR op_isN (pe_ix (r := rIxL K) ix_list (pv 3) (pv 5) (fun _ _ => rfl)) pe_non (nomark _)) (pw_and1 (pt_val (pe_call (ok_law_fits T) (hr.mono (by first | decide | omega)) (by rfl) T.g_law_fits (T.F_law_fits).kp T.b_law_fits .nil pass0 (pa_cons (pv 1) (pa_cons (pv 3) (pa_cons (pv 6) (pa_cons (pv 7) (pa_cons (pv 8) pa_nil)))))))))) (pss_cons (ps_par (i := 9) (j := 10) (by rfl) scTh.nd rfl rfl (by decide) rfl rfl (pa_cons (pe_op op_sub (pe_call (ok_law_take T) (hr.mono (by first | decide | omega)) (by rfl) T.g_law_take (T.F_law_take).kp T.b_law_take .nil pass0 (pa_cons (pv 0) (pa_cons pe_int pa_nil))) pe_int) (pa_cons (pe_op op_sub (pe_call (ok_law_take T) (hr.mono (by first | decide | omega)) (by rfl) T.g_law_take (T.F_law_take).kp T.b_law_take .nil pass0 (pa_cons (pv 0) (pa_cons pe_int pa_nil))) pe_int) pa_nil)) (by rfl))
      (pss_cons (ps_set (i := 11) scTh.nd rfl (Or.inl rfl) (pe_callTy call_tuple_of (by rfl) T.n_tuple PyProof.Rows.Boot.«tuple» (pa_cons (pe_lc (own := [("i", 12)]) (g := gName 12) (tt := tYes) (by rfl) scTh.nd (pi_range1 (by rfl) T.n_range (pa_cons pe_int pa_nil)) (blkOk_by (own := [("i", 12)]) (N := ["pot", "game", "many", "things", "turn", "slot", "kind", "x", "y", "dx", "dy", "own", "i"]) (sc := defScope s_law_things) (by decide +kernel)) (fun _ _ _ _ _ => pg_name (i := 12) scTh.nd rfl (Or.inl rfl)) (fun _ _ _ _ _ => pts_nil) (fun _ _ _ _ _ => (pe_op op_sub (pe_call (ok_law_take T) (hr.mono (by first | decide | omega)) (by rfl) T.g_law_take (T.F_law_take).kp T.b_law_take .nil pass0 (pa_cons (pv 0) (pa_cons pe_int pa_nil))) pe_int))) pa_nil)))
      (pss_one (ps_asg (pe_tup (pa_cons (pv 6) (pa_cons (pe_op op_sub (pe_call (ok_law_take T) (hr.mono (by first | decide | omega)) (by rfl) T.g_law_take (T.F_law_take).kp T.b_law_take .nil pass0 (pa_cons (pv 0) (pa_cons (pe_op op_add (pe_ix (r := rIxT K) ix_tup (pe_ix (r := rIxT K) ix_tup (pv 1) pe_int (fun _ _ => rfl)) pe_int (fun _ _ => rfl)) pe_int) pa_nil))) pe_int) (pa_cons (pv 7) (pa_cons (pv 8) (pa_cons (pv 9) (pa_cons (pv 10) (pa_cons (pe_un un_neg pe_int) (pa_cons (pv 11) pa_nil))))))))) (pg_sub (pv 3) (pv 5) set_list))))) pss_nil))))))
      (pss_one (ps_ret (pv 3))))), ?_⟩
    obtain ⟨ga, lv, ksv, rfl, sg, hlv, hks⟩ := id hg
    obtain ⟨ka, kv, rfl, hka, kl, hke⟩ := id hks
    refine ⟨(show 1 ≤ sizeLine by decide), fun p0 np0 => ⟨p0, 16, [.non], rfl, rfl, upd_same, by decide, by decide, (show 1 * 16 ≤ sizeLine by decide), fun ta nta => ?_⟩⟩
    have s0 := new_same (o := .lst [V.non]) np0
    have s1 := new_same (o := .lst (List.replicate (16 : Int).toNat [V.non]).flatten) nta
    have S1 := s0.trans s1
    have tad : ta ≠ d := (hd.same s0).ne nta
    have ntaH : H ta = none := by
      cases e : H ta with
      | none => rfl
      | some z => exact absurd ((s0 _ _ e).symm.trans nta) (by simp)
    refine ⟨_, rfl, m, rfl, by omega, by omega, ?_⟩
    refine L2.for_it (walk_r0 (n := m.toNat)) (fun i σ H' => ∃ (sl : List (Option Tg)) (v4 v5 v6 v7 v8 v9 v10 v11 : Option V), σ = [some (.ref d), some (.ref ga), some (.int m), some (.ref ta), v4, v5, v6, v7, v8, v9, v10, v11, none] ∧ Frm d H H' ∧ Pot H' d ∧ TsD K H' ta sl ∧ SlAll G sl ∧ Apt G sl) ⟨List.replicate 16 none, _, _, _, _, _, _, _, _, rfl, Frm.of_same S1, hd.same S1, ⟨_, upd_same, by decide, fun i o z => ?_, fun u m => ?_⟩, ⟨by simp, fun t m => ?_⟩, ⟨fun t m => ?_, fun i j a b n ha => ?_⟩⟩ (fun _ _ _ _ _ => trivial) (fun i x σ H4 Hx hi hPv hy => ?_) (fun σ H4 hPv => ?_)
    · have e := List.eq_of_mem_replicate (List.mem_of_getElem? z)
      have hi := (List.getElem?_eq_some_iff.mp z).1
      rw [List.length_replicate] at hi
      subst e
      refine ⟨.non, ?_, rfl⟩
      show (List.replicate 16 V.non)[i]? = some V.non
      rw [List.getElem?_replicate, if_pos hi]
    · have m : u ∈ List.replicate 16 V.non := m
      rw [List.eq_of_mem_replicate m]
      exact ⟨.none, .non, trivial⟩
    · exact absurd (List.eq_of_mem_replicate m) (by simp)
    · exact absurd (List.eq_of_mem_replicate m) (by simp)
    · exact absurd (List.eq_of_mem_replicate (List.mem_of_getElem? ha)) (by simp)
    · obtain ⟨sl, v4, v5, v6, v7, v8, v9, v10, v11, rfl, F, dp, hts, sa, ap⟩ := hPv
      obtain ⟨rfl, rfl⟩ := hy
      have tfx := pot_tf F hd
      have kl8 := o.kl
      refine ⟨_, rfl, d, 16, rfl, by decide, by decide, dp, fun s1' H5 a0 a1 f5 d5 => ?_⟩
      obtain ⟨s, rfl⟩ := Int.eq_ofNat_of_zero_le a0
      have tf5 := tfx.trans (pot_tf f5 dp)
      have kvl : kv.length ≤ 8 := by omega
      refine ⟨_, rfl, _, rfl, ga, _, _, _, rfl, rfl, tf5.sq sg, atI_nat (j := 1) rfl, ka, _, rfl, .inr (tf5.sq hka), d, _, rfl, by omega, by omega, d5, fun n1 H6 b0 b1 f6 d6 => ?_⟩
      obtain ⟨n, rfl⟩ := Int.eq_ofNat_of_zero_le b0
      have F6 := F.trans (f5.trans f6)
      have hts6 := hts.frm dp (f5.trans f6) tad
      have hg6 := hg.tf (pot_tf F6 hd)
      refine ⟨_, rfl, _, rfl, _, rfl, _, rfl, d, ta, _, G, sl, n, rfl, d6, hg6, o, sa, hts6, by omega, fun px x y H7 f7 d7 hpx hb => ⟨px, _, rfl, hpx, rfl, _, _, rfl, _, _, rfl, rfl, ?_⟩⟩
      have F7 := F6.trans f7
      have hts7 := hts6.frm d6 f7 tad
      have hg7 := hg.tf (pot_tf F7 hd)
      obtain ⟨tv, htv, tvl, htvs, htvd⟩ := id hts7
      obtain ⟨so, hso⟩ : ∃ so, sl[s]? = some so := ⟨_, List.getElem?_eq_getElem (by rw [sa.len]; omega)⟩
      obtain ⟨v, hv1, hv2⟩ := htvs s so hso
      have hv2 := hv2.at'
      refine ⟨_, rfl, _, rfl, ta, _, _, _, rfl, rfl, SqL.of htv, atI_nat hv1, rfl, _, rfl, ite2 (fun z => ?_) (fun z => iteF ⟨sl, _, _, _, _, _, _, _, _, rfl, F7, d7, hts7, sa, ap⟩)⟩
      obtain ⟨kd, hkd⟩ : ∃ kd, G.kds[n]? = some kd := ⟨_, List.getElem?_eq_getElem (by omega)⟩
      refine ⟨_, rfl, _, rfl, _, rfl, _, rfl, _, rfl, _, ta, G, sl, n, kd, x, y, rfl, hg7, o, sa, hts7.ts, hkd, hb.1, hb.2.1, hb.2.2.1, hb.2.2.2, fun bf H8 s8 hbf => ⟨bf, rfl, ?_⟩⟩
      have F8 := F7.trans (Frm.of_same s8)
      have d8 := d7.same s8
      have hts8 := hts7.same s8
      cases bf with
      | false => exact iteF ⟨sl, _, _, _, _, _, _, _, _, rfl, F8, d8, hts8, sa, ap⟩
      | true =>
        obtain ⟨e1, e2, e3, e4, e5, e6⟩ := hbf rfl
        refine iteT ?_
        refine ⟨_, rfl, d, 15, rfl, by decide, by decide, d8, fun dx H9 _ _ f9 d9 => ⟨_, _, rfl, rfl, _, rfl, d, 15, rfl, by decide, by decide, d9, fun dy H10 dy0 dy1 f10 d10 => ⟨_, _, rfl, rfl, _, _, rfl, ?_⟩⟩⟩
        have F10 := F8.trans (f9.trans f10)
        have hts10 := hts8.frm d8 (f9.trans f10) tad
        refine ⟨_, rfl, by decide, by decide, fun D2 hD2 => ?_⟩
        have D2d := d10.ne hD2
        refine lc_it (walk_r0 (n := 4)) (fun i H5 => ∃ us : List Int, Frm d H10 H5 ∧ Pot H5 d ∧ H5 D2 = some (.lst (us.map V.int)) ∧ us.length = i) ⟨[], frm_new (Frm.refl _ _) hD2, d10.upd D2d, upd_same, rfl⟩ (fun _ _ _ _ => trivial) (fun i v H5 Hz hi h yy => ?_) (fun H5 h => ?_)
        · obtain ⟨rfl, rfl⟩ := yy
          obtain ⟨us, f5, d5, hl5, hlen5⟩ := h
          refine ⟨rfl, ?_⟩
          dsimp only [tYes]
          rw [if_pos rfl]
          exact ⟨_, rfl, d, 1999, rfl, by decide, by decide, d5, fun y H6 _ _ f6 d6 => ⟨_, _, rfl, rfl, us.map V.int, f6 _ _ D2d hl5, Nat.lt_of_le_of_lt (show (us.map V.int).length ≤ 24 by rw [List.length_map]; omega) (by decide), us ++ [y - 999], frm_new (f5.trans f6) hD2, d6.upd D2d, by rw [upd_same, List.map_append]; rfl, by simp [hlen5]⟩⟩
        obtain ⟨us, f11, d11, hl11, hlen11⟩ := h
        refine ⟨D2, _, rfl, .inl ⟨SqL.of hl11, fun ow now => ?_⟩⟩
        have s12 := new_same (o := .tup (us.map V.int)) now
        have hts12 := (hts10.frm d10 f11 tad).same s12
        have d12 := d11.same s12
        have F12 := (F10.trans f11).trans (Frm.of_same s12)
        have how : SqT K (upd H5 ow (.tup (us.map V.int))) ow (us.map V.int) := SqT.of upd_same
        obtain ⟨ga', lv', ksv', eg, sg', hlv', _⟩ := hg.tf (pot_tf F12 hd)
        injection eg with eg
        subst eg
        obtain ⟨la, rs, st, pu, rfl, hla, hrs⟩ := id hlv'
        have ho1 := o.h1
        have ho2 := o.h2
        refine ⟨_, rfl, _, rfl, _, rfl, ga, _, _, _, rfl, rfl, sg', atI_nat (j := 0) rfl, la, _, _, _, rfl, rfl, hla, atI_nat (j := 2) rfl, _, _, rfl, rfl, d, _, rfl, ?_, ?_, d12, fun hs H13 hs0 hs1 f13 d13 => ⟨_, _, rfl, rfl, _, rfl, _, rfl, _, rfl, _, rfl, _, rfl, _, rfl, (show 8 ≤ sizeLine by decide), fun pn npn => ?_⟩⟩
        · show 0 < G.ho + 1
          omega
        · show G.ho + 1 < 1000000000000
          omega
        have s14 := new_same (o := .tup [V.int (n : Int), .int (hs - 1), .int x, .int y, .int (dx - 7), .int (dy - 7), .int (-2), .ref ow]) npn
        have hts14 := (hts12.frm d12 f13 tad).same s14
        have d14 := d13.same s14
        have how14 := (same_tf s14).sq ((pot_tf f13 d12).sq how)
        obtain ⟨tvZ, hZ1, hZ2, hZ3, hZ4⟩ := hts14
        have F14 := (F12.trans f13).trans (Frm.of_same s14)
        refine ⟨_, rfl, _, rfl, ta, tvZ, (s : Int), s, rfl, rfl, hZ1, ixN_nat (by omega), ?_⟩
        have ebx : ∀ (a b c d e : Int) (l : List Int), G.bx ⟨n, a, x, y, b, c, d, l⟩ = ⟨x, y, kd.w, kd.h⟩ := fun a b c d e l => by unfold Gm.bx; dsimp only; rw [hkd]; rfl
        have efr : ∀ {a b c d : Int} {l : List Int}, G.fr (G.bx ⟨n, a, x, y, b, c, d, l⟩) = true := fun {a b c d l} => by rw [ebx a b c d 0 l]; exact e5
        have tok : TgOk G ⟨n, hs - 1, x, y, dx - 7, dy - 7, -2, us⟩ := ⟨by show n < G.kds.length; omega, by show -1000 ≤ x; omega, by show x ≤ 1000; omega, by show -1000 ≤ y; omega, by show y ≤ 4000; have := (hi_le o).2; omega, efr, by show -7 ≤ dy - 7; omega, by show dy - 7 ≤ 7; omega⟩
        refine ⟨sl.set s (some ⟨n, hs - 1, x, y, dx - 7, dy - 7, -2, us⟩), _, _, _, _, _, _, _, _, rfl, frm_new F14 ntaH, d14.upd tad, TsD.put hZ1 hZ2 hZ3 hZ4 (by omega) sa.len ⟨pn, ow, rfl, SqT.of upd_same, how14, by show us.length ≤ 1000; omega⟩, sa.put tok, ap.put ⟨by show n < G.kds.length; omega, by show -1 ≤ hs - 1; omega, by show hs - 1 < G.ho; omega, efr, e4, (TgOk.lim o tok).1⟩ fun j b nj hb hbt hbb => ?_⟩
        rw [ebx _ _ _ _ 0 _]
        exact e6 (by unfold Gm.hs at hbt; dsimp only at hbt; rw [hkd] at hbt; exact hbt) j b hb hbb
    · obtain ⟨sl, v4, v5, v6, v7, v8, v9, v10, v11, rfl, F, dp, hts, sa, ap⟩ := hPv
      exact ⟨_, rfl, k ta sl H4 F dp hts sa ap ntaH⟩
end
end K27
set_option maxRecDepth 100000
set_option maxHeartbeats 4000000
/-! The start, drawn. -/
namespace K27
open PySem PySem.Spec PyProof.Rows L2 KF KD KP
/-- w, with its data -/
def WsD (K : PySem.W.Frag) (H : Hp) (wa : Addr) (sl : List (Option Tg)) : Prop := ∃ wv : List V, H wa = some (.lst wv) ∧ wv.length = 49 ∧ (∀ (i : Nat) (o : Option Tg), sl[i]? = some o → ∃ v : V, wv[i]? = some v ∧ SlX K H v o) ∧ DL K H wv
theorem WsD.wl {K : PySem.W.Frag} {H : Hp} {ta : Addr} {sl : List (Option Tg)} (h : WsD K H ta sl) : WlAt K H ta sl := by
  obtain ⟨tv, h1, h2, h3, _⟩ := h
  exact ⟨tv, h1, h2, fun i o z => by obtain ⟨v, g1, g2⟩ := h3 i o z; exact ⟨v, g1, g2.at'⟩⟩
theorem WsD.wd {K : PySem.W.Frag} {H : Hp} {ta : Addr} {sl : List (Option Tg)} (h : WsD K H ta sl) : ∃ wd, WlD K H ta sl wd := by
  obtain ⟨tv, h1, h2, h3, h4⟩ := h
  obtain ⟨ds, g1, g2, _⟩ := h4.all
  exact ⟨ds, tv, h1, h2, fun i o z => by obtain ⟨v, g1, g2⟩ := h3 i o z; exact ⟨v, g1, g2.at'⟩, g1, g2⟩
theorem WsD.tf {K : PySem.W.Frag} {H H' : Hp} {ta : Addr} {sl : List (Option Tg)} (h : WsD K H ta sl) (e : TF H H') (f : H' ta = H ta) : WsD K H' ta sl := by
  obtain ⟨tv, h1, h2, h3, h4⟩ := h
  exact ⟨tv, by rw [f]; exact h1, h2, fun i o z => by obtain ⟨v, g1, g2⟩ := h3 i o z; exact ⟨v, g1, g2.tf e⟩, h4.tf e⟩
theorem WsD.same {K : PySem.W.Frag} {H H' : Hp} {ta : Addr} {sl : List (Option Tg)} (h : WsD K H ta sl) (e : Same H H') : WsD K H' ta sl := by
  obtain ⟨tv, h1, _⟩ := id h
  exact h.tf (same_tf e) (by rw [h1]; exact e _ _ h1)
theorem WsD.frm {K : PySem.W.Frag} {H H' : Hp} {ta d : Addr} {sl : List (Option Tg)} (h : WsD K H ta sl) (hd : Pot H d) (f : Frm d H H') (n : ta ≠ d) : WsD K H' ta sl := by
  obtain ⟨tv, h1, _⟩ := id h
  exact h.tf (pot_tf f hd) (by rw [h1]; exact f _ _ n h1)
theorem WsD.put {K : PySem.W.Frag} {H : Hp} {ta : Addr} {tv : List V} {sl : List (Option Tg)} {s : Nat} {v : V} {t : Tg} (h1 : H ta = some (.lst tv)) (h2 : tv.length = 49) (h3 : ∀ (i : Nat) (o : Option Tg), sl[i]? = some o → ∃ v : V, tv[i]? = some v ∧ SlX K H v o) (h4 : DL K H tv) (hs : s < 16) (hl : sl.length = 16) (ht : TgX K H v t) : WsD K (upd H ta (.lst (tv.set s v))) ta (sl.set s (some t)) := by
  have tf := TF.lst1 (o := .lst (tv.set s v)) h1
  refine ⟨_, upd_same, by rw [List.length_set]; exact h2, fun i o z => ?_, fun u m => ?_⟩
  · by_cases e : i = s
    · subst e
      rw [List.getElem?_set_self (by omega)] at z
      injection z with z
      subst z
      exact ⟨v, by rw [List.getElem?_set_self (by omega)], TgX.tf ht tf⟩
    · rw [List.getElem?_set_ne (Ne.symm e)] at z ⊢
      obtain ⟨u, g1, g2⟩ := h3 i o z
      exact ⟨u, g1, g2.tf tf⟩
  · rcases List.mem_or_eq_of_mem_set m with m | rfl
    · exact DL.tf h4 tf u m
    · obtain ⟨d, g1, g2⟩ := ht.al
      exact ⟨d, dp_nl tf _ _ (alok_nl _ _ g2) g1, g2⟩
theorem WsD.put2 {K : PySem.W.Frag} {H : Hp} {ta : Addr} {tv : List V} {sl : List (Option Tg)} {s : Nat} {v : V} (h1 : H ta = some (.lst tv)) (h2 : tv.length = 49) (h3 : ∀ (i : Nat) (o : Option Tg), sl[i]? = some o → ∃ v : V, tv[i]? = some v ∧ SlX K H v o) (h4 : DL K H tv) (hs : 16 ≤ s) (hl : sl.length = 16) (ht : ∃ d, Dp K H v d ∧ AlOk 2 d) : WsD K (upd H ta (.lst (tv.set s v))) ta sl := by
  have tf := TF.lst1 (o := .lst (tv.set s v)) h1
  refine ⟨_, upd_same, by rw [List.length_set]; exact h2, fun i o z => ?_, fun u m => ?_⟩
  · have hi := (List.getElem?_eq_some_iff.mp z).1
    rw [List.getElem?_set_ne (by omega)]
    obtain ⟨u, g1, g2⟩ := h3 i o z
    exact ⟨u, g1, g2.tf tf⟩
  · rcases List.mem_or_eq_of_mem_set m with m | rfl
    · exact DL.tf h4 tf u m
    · obtain ⟨d, g1, g2⟩ := ht
      exact ⟨d, dp_nl tf _ _ (alok_nl _ _ g2) g1, g2⟩
theorem int_al (K : PySem.W.Frag) (H : Hp) (x : Int) : ∃ d, Dp K H (.int x) d ∧ AlOk 2 d := ⟨.int x, .int x, trivial⟩
theorem tupi_al {K : PySem.W.Frag} {H : Hp} {a : Addr} {l : List Int} (h : SqT K H a (l.map V.int)) (hl : l.length ≤ 1000) : ∃ d, Dp K H (.ref a) d ∧ AlOk 2 d := by
  have ha : ∀ l : List Int, DpAll K H (l.map V.int) (l.map PyData.int) := fun l => by
    induction l with
    | nil => exact .nil
    | cons x l ih => exact .cons (.int x) ih
  exact ⟨.tuple (l.map PyData.int), .tup h (ha l), by rw [List.length_map]; exact hl, fun e m => by
    obtain ⟨x, _, rfl⟩ := List.mem_map.mp m
    trivial⟩
theorem DL.ap {K : PySem.W.Frag} {H : Hp} {a b : List V} (h1 : DL K H a) (h2 : DL K H b) : DL K H (a ++ b) := fun v m => (List.mem_append.mp m).elim (h1 v) (h2 v)
theorem DL.ints {K : PySem.W.Frag} {H : Hp} (l : List Int) : DL K H (l.map V.int) := fun v m => by
  obtain ⟨x, _, rfl⟩ := List.mem_map.mp m
  exact int_al K H x
theorem TsAt.ne' {K : PySem.W.Frag} {H : Hp} {ta d : Addr} {G : Gm} {tv : List V} {sl : List (Option Tg)} (h1 : H ta = some (.lst tv)) (h3 : ∀ (i : Nat) (o : Option Tg), sl[i]? = some o → ∃ v : V, tv[i]? = some v ∧ SlX K H v o) (sa : SlAll G sl) (hd : Pot H d) : ta ≠ d := fun e => by
  obtain ⟨r, m, i, cs, g1, _⟩ := hd
  rw [e, g1] at h1
  injection h1 with h1
  injection h1 with h1
  obtain ⟨v, h4, h5⟩ := h3 0 (sl[0]'(by rw [sa.len]; decide)) (List.getElem?_eq_getElem _)
  have h5 := h5.at'
  rw [← h1] at h4
  injection h4 with h4
  subst h4
  cases hs : sl[0]'(by rw [sa.len]; decide) with
  | none =>
    rw [hs] at h5
    cases h5
  | some t =>
    rw [hs] at h5
    obtain ⟨_, _, h5, _⟩ := h5
    cases h5
theorem fnone {d q : Addr} {H H' : Hp} (f : Frm d H H') (n : q ≠ d) (h : H' q = none) : H q = none := by
  cases e : H q with
  | none => rfl
  | some z => exact absurd ((f _ _ n e).symm.trans h) (by simp)
theorem six (a b c x : Int) {w : Int} (w0 : 0 ≤ w) (w1 : w < 6) : ∃ z : Int, atI [V.int a, .int b, .int c, .int x, .int x, .int x] w = some (.int z) := by
  obtain ⟨n, rfl⟩ := Int.eq_ofNat_of_zero_le w0
  have hn : n = 0 ∨ n = 1 ∨ n = 2 ∨ n = 3 ∨ n = 4 ∨ n = 5 := by omega
  rcases hn with rfl | rfl | rfl | rfl | rfl | rfl
  · exact ⟨_, atI_nat rfl⟩
  · exact ⟨_, atI_nat rfl⟩
  · exact ⟨_, atI_nat rfl⟩
  · exact ⟨_, atI_nat rfl⟩
  · exact ⟨_, atI_nat rfl⟩
  · exact ⟨_, atI_nat rfl⟩
section
variable {P : Program} {w : World} {K : PySem.W.Frag} {mg : Str → Option Value} {base : Heap}
def spSrt (K : PySem.W.Frag) : Sp := fun vs H Q _ => ∃ (d : Addr) (g : V) (G : Gm) (m : Int), vs = [.ref d, g, .int m] ∧ 0 ≤ m ∧ m ≤ 100 ∧ Pot H d ∧ GmAt K H g G ∧ G.ok ∧ 1 ≤ G.kds.length ∧ ∀ (wa : Addr) (sl : List (Option Tg)) H', Frm d H H' → Pot H' d → WsD K H' wa sl → SlAll G sl → Apt G sl → wa ≠ d → Q (.ref wa) H'
theorem scSr : FnScope ["pot", "game", "many", "w", "slot", "way", "rest", "mask", "i", "other"] ["pot", "game", "many"] (defScope s_law_start) := ⟨rfl, rfl, rfl, by decide +kernel, rfl, by decide +kernel, by decide +kernel⟩
theorem ok_law_start (T : Txt K w mg) : FnOk P w K mg base CX0 8 (He.fAd K ("_law_start", none)) (fdAt K (He.fAd K ("_law_start", none))) ["pot", "game", "many"] (spSrt K) := by
  refine T.F_law_start.ok scSr (fun vs H Q E h => ?_) (fun cdv A outer s H vs Q E hr h => ?_)
  · obtain ⟨d, g, G, m, rfl, _⟩ := h
    rfl
  · obtain ⟨d, g, G, m, rfl, m0, m1, hd, hg, o, k1, k⟩ := h
    refine ⟨_, PSs.nox (pss_cons (ps_set (i := 3) scSr.nd rfl (Or.inl rfl) (pe_op op_cat (pe_op op_cat (pe_call (ok_law_things T) (hr.mono (by first | decide | omega)) (by rfl) T.g_law_things (T.F_law_things).kp T.b_law_things .nil pass0 (pa_cons (pv 0) (pa_cons (pv 1) (pa_cons (pv 2) pa_nil)))) (pe_op op_rep (pe_lst (pa_cons (pe_tup pa_nil) pa_nil)) pe_int)) (pe_lst (pa_cons (pe_call (ok_law_take T) (hr.mono (by first | decide | omega)) (by rfl) T.g_law_take (T.F_law_take).kp T.b_law_take .nil pass0 (pa_cons (pv 0) (pa_cons pe_int pa_nil))) pa_nil))))
      (pss_cons (ps_set (i := 3) scSr.nd rfl (Or.inl rfl) (pe_op op_cat (pv 3) (pe_lc (own := [("i", 8)]) (g := gName 8) (tt := tYes) (by rfl) scSr.nd (pi_range1 (by rfl) T.n_range (pa_cons pe_int pa_nil)) (blkOk_by (own := [("i", 8)]) (N := ["pot", "game", "many", "w", "slot", "way", "rest", "mask", "i", "other"]) (sc := defScope s_law_start) (by decide +kernel)) (fun _ _ _ _ _ => pg_name (i := 8) scSr.nd rfl (Or.inl rfl)) (fun _ _ _ _ _ => pts_nil) (fun _ _ _ _ _ => (pe_op op_sub (pe_call (ok_law_take T) (hr.mono (by first | decide | omega)) (by rfl) T.g_law_take (T.F_law_take).kp T.b_law_take .nil pass0 (pa_cons (pv 0) (pa_cons pe_int pa_nil))) pe_int)))))
      (pss_cons (ps_for PassesOwn.never rfl (pi_range1 (by rfl) T.n_range (pa_cons pe_int pa_nil)) (pg_name (i := 4) scSr.nd rfl (Or.inr rfl)) (pss_one (ps_if (pt_cmpR op_notN (pe_ix (r := rIxL K) ix_list (pv 3) (pv 4) (fun _ _ => rfl)) pe_non (nomark _)) (pss_cons (ps_set (i := 5) scSr.nd rfl (Or.inl rfl) (pe_call (ok_law_take T) (hr.mono (by first | decide | omega)) (by rfl) T.g_law_take (T.F_law_take).kp T.b_law_take .nil pass0 (pa_cons (pv 0) (pa_cons pe_int pa_nil))))
      (pss_cons (ps_set (i := 6) scSr.nd rfl (Or.inl rfl) (pe_call (ok_law_rest T) (hr.mono (by first | decide | omega)) (by rfl) T.g_law_rest (T.F_law_rest).kp T.b_law_rest .nil pass0 (pa_cons (pv 1) (pa_cons (pv 3) (pa_cons pe_dnewK (pa_cons (pv 4) pa_nil))))))
      (pss_cons (ps_set (i := 6) scSr.nd rfl (Or.inl rfl) (pe_ix (r := rIxL K) ix_list (pe_lst (pa_cons (pe_un un_neg pe_int) (pa_cons (pe_un un_neg pe_int) (pa_cons (pe_op op_sub (pe_call (ok_law_take T) (hr.mono (by first | decide | omega)) (by rfl) T.g_law_take (T.F_law_take).kp T.b_law_take .nil pass0 (pa_cons (pv 0) (pa_cons pe_int pa_nil))) pe_int) (pa_cons (pv 6) (pa_cons (pv 6) (pa_cons (pv 6) pa_nil))))))) (pv 5) (fun _ _ => rfl)))
      (pss_cons (ps_asg (pe_op (show OpR _ _ (rCatA K) from op_catA) (pe_slice (show SlR _ (rSlA K) from sl_tupA) (pe_ix (r := rIxL K) ix_list (pv 3) (pv 4) (fun _ _ => rfl)) po_none (po_some pe_int)) (pe_tup (pa_cons (pv 6) (pa_cons (pe_ix (r := rIxT K) ix_tup (pe_ix (r := rIxL K) ix_list (pv 3) (pv 4) (fun _ _ => rfl)) pe_int (fun _ _ => rfl)) pa_nil)))) (pg_sub (pv 3) (pv 4) set_list))
      (pss_cons (ps_set (i := 7) scSr.nd rfl (Or.inr rfl) (pe_call (ok_law_take T) (hr.mono (by first | decide | omega)) (by rfl) T.g_law_take (T.F_law_take).kp T.b_law_take .nil pass0 (pa_cons (pv 0) (pa_cons pe_int pa_nil))))
      (pss_one (ps_asg (pe_callTy call_tuple_of (by rfl) T.n_tuple PyProof.Rows.Boot.«tuple» (pa_cons (pe_lc (own := [("other", 9)]) (g := gName 9) (by rfl) scSr.nd (pi_range1 (by rfl) T.n_range (pa_cons pe_int pa_nil)) (blkOk_by (own := [("other", 9)]) (N := ["pot", "game", "many", "w", "slot", "way", "rest", "mask", "i", "other"]) (sc := defScope s_law_start) (by decide +kernel)) (fun _ _ _ _ _ => pg_name (i := 9) scSr.nd rfl (Or.inl rfl)) (fun _ _ _ _ _ => pts_one (PW.pt (pw_and (pt_cmpR op_ne (pv 9) (pv 4) (nomark _)) (pw_and1 (pt_cmpR op_eq (pe_op op_and (pe_op op_shr (pv 7) (pv 9)) pe_int) pe_int (nomark _)))))) (fun _ _ _ _ _ => (pv 9))) pa_nil)) (pg_sub (pv 3) (pe_op op_add pe_int (pv 4)) set_list)))))))) pss_nil)))
      (pss_one (ps_ret (pv 3)))))), ?_⟩
    refine seq_cut (fun σ' H' => ∃ (c2 : Addr) (wv : List V) (sl : List (Option Tg)), σ' = [some (.ref d), some g, some (.int m), some (.ref c2), none, none, none, none, none, none] ∧ H' c2 = some (.lst wv) ∧ wv.length = 33 ∧ (∀ (i : Nat) (o : Option Tg), sl[i]? = some o → ∃ v : V, wv[i]? = some v ∧ SlX K H' v o) ∧ DL K H' wv ∧ SlAll G sl ∧ Apt G sl ∧ Frm d H H' ∧ Pot H' d) (fun σ' H' hP => ?_) (fun R hR => ?_)
    rotate_left
    · refine ⟨_, rfl, _, rfl, _, rfl, d, g, G, m, rfl, m0, m1, hd, hg, o, k1, fun ta sl H1 f1 d1 hts sa ap nta => ?_⟩
      have tad := hts.ts.ne sa d1
      refine ⟨(show 0 ≤ sizeLine by decide), fun e ne => ⟨(show 1 ≤ sizeLine by decide), fun p np => ⟨p, 16, [.ref e], rfl, rfl, upd_same, by decide, by decide, (show 1 * 16 ≤ sizeLine by decide), fun r nr => ?_⟩⟩⟩
      have sA := ((new_same (o := .tup []) ne).trans (new_same (o := .lst [V.ref e]) np)).trans (new_same (o := .lst (List.replicate (16 : Int).toNat [V.ref e]).flatten) nr)
      have htsA := hts.same sA
      have dA := d1.same sA
      obtain ⟨tv, h1, h2, h3, h4⟩ := htsA
      have hE : SqT K (upd (upd (upd H1 e (.tup [])) p (.lst [V.ref e])) r (.lst (List.replicate (16 : Int).toNat [V.ref e]).flatten)) e (([] : List Int).map V.int) := SqT.of (((new_same np).trans (new_same nr)) _ _ upd_same)
      have hR' : (upd (upd (upd H1 e (.tup [])) p (.lst [V.ref e])) r (.lst (List.replicate (16 : Int).toNat [V.ref e]).flatten)) r = some (.lst (List.replicate 16 (V.ref e))) := upd_same
      obtain ⟨HA, hHA⟩ : ∃ HA, HA = upd (upd (upd H1 e (.tup [])) p (.lst [V.ref e])) r (.lst (List.replicate (16 : Int).toNat [V.ref e]).flatten) := ⟨_, rfl⟩
      rw [← hHA] at sA dA h1 h3 h4 hE hR' ⊢
      refine ⟨ta, r, tv, _, rfl, rfl, h1, hR', Nat.le_trans (show tv.length + (List.replicate 16 (V.ref e)).length ≤ 100 by rw [h2, List.length_replicate]; decide) (by decide), fun c1 nc1 => ?_⟩
      have sB := new_same (o := .lst (tv ++ List.replicate 16 (V.ref e))) nc1
      refine ⟨_, rfl, d, 65537, rfl, by decide, by decide, dA.same sB, fun x H3 _ _ f3 d3 => ⟨(show 1 ≤ sizeLine by decide), fun q nq => ?_⟩⟩
      have sC := new_same (o := .lst [V.int x]) nq
      have c1d : c1 ≠ d := dA.ne nc1
      have hc1 := sC _ _ (f3 c1 _ c1d upd_same)
      refine ⟨c1, q, _, _, rfl, rfl, hc1, upd_same, Nat.le_trans (show (tv ++ List.replicate 16 (V.ref e)).length + 1 ≤ 100 by rw [List.length_append, h2, List.length_replicate]; decide) (by decide), fun c2 nc2 => ?_⟩
      have sD := new_same (o := .lst (tv ++ List.replicate 16 (V.ref e) ++ [V.int x])) nc2
      have tfZ := (same_tf sB).trans ((pot_tf f3 (dA.same sB)).trans (same_tf (sC.trans sD)))
      refine hR _ _ ⟨c2, tv ++ List.replicate 16 (V.ref e) ++ [V.int x], sl, rfl, upd_same, ?_, fun i o z => ?_, ?_, sa, ap, ((f1.trans (Frm.of_same (sA.trans sB))).trans f3).trans (Frm.of_same (sC.trans sD)), d3.same (sC.trans sD)⟩
      · rw [List.length_append, List.length_append, h2, List.length_replicate]
        rfl
      · have hi := (List.getElem?_eq_some_iff.mp z).1
        rw [sa.len] at hi
        obtain ⟨v, g1, g2⟩ := h3 i o z
        exact ⟨v, by rw [List.getElem?_append_left (by rw [List.length_append]; omega), List.getElem?_append_left (by omega)]; exact g1, g2.tf tfZ⟩
      · refine ((DL.tf h4 tfZ).ap fun v m => ?_).ap (DL.ints [x])
        rw [List.eq_of_mem_replicate m]
        exact tupi_al (l := []) (tfZ.sq hE) (by decide)
    obtain ⟨c2, wv, sl, rfl, hc2, wl, hsl, hdl, sa, ap, f1, d1⟩ := hP
    have c2d : c2 ≠ d := TsAt.ne' hc2 hsl sa d1
    refine seq_cut (fun σ' H' => ∃ (c2 : Addr), σ' = [some (.ref d), some g, some (.int m), some (.ref c2), none, none, none, none, none, none] ∧ WsD K H' c2 sl ∧ c2 ≠ d ∧ H c2 = none ∧ Frm d H H' ∧ Pot H' d) (fun σ' H' hP => ?_) (fun R hR => ?_)
    rotate_left
    · refine ⟨_, rfl, _, rfl, by decide, by decide, fun D2 hD2 => ?_⟩
      have D2d := d1.ne hD2
      refine lc_it (walk_r0 (n := 16)) (fun i H5 => ∃ us : List Int, Frm d H' H5 ∧ Pot H5 d ∧ H5 D2 = some (.lst (us.map V.int)) ∧ us.length = i) ⟨[], frm_new (Frm.refl _ _) hD2, d1.upd D2d, upd_same, rfl⟩ (fun _ _ _ _ => trivial) (fun i v H5 Hz hi h yy => ?_) (fun H5 h => ?_)
      · obtain ⟨rfl, rfl⟩ := yy
        obtain ⟨us, f5, d5, hl5, hlen5⟩ := h
        refine ⟨rfl, ?_⟩
        dsimp only [tYes]
        rw [if_pos rfl]
        exact ⟨_, rfl, d, 1999, rfl, by decide, by decide, d5, fun y H6 _ _ f6 d6 => ⟨_, _, rfl, rfl, us.map V.int, f6 _ _ D2d hl5, Nat.lt_of_le_of_lt (show (us.map V.int).length ≤ 24 by rw [List.length_map]; omega) (by decide), us ++ [y - 999], frm_new (f5.trans f6) hD2, d6.upd D2d, by rw [upd_same, List.map_append]; rfl, by simp [hlen5]⟩⟩
      obtain ⟨us, f5, d5, hl5, hlen5⟩ := h
      refine ⟨c2, D2, wv, _, rfl, rfl, f5 _ _ c2d hc2, hl5, Nat.le_trans (show wv.length + (us.map V.int).length ≤ 100 by rw [wl, List.length_map, hlen5]; decide) (by decide), fun c3 nc3 => ?_⟩
      have sD := new_same (o := .lst (wv ++ us.map V.int)) nc3
      have tfZ := (pot_tf f5 d1).trans (same_tf sD)
      refine hR _ _ ⟨c3, rfl, ⟨_, upd_same, by rw [List.length_append, wl, List.length_map, hlen5], fun i o z => ?_, (DL.tf hdl tfZ).ap (DL.ints us)⟩, d5.ne nc3, fnone (f1.trans f5) (d5.ne nc3) nc3, (f1.trans f5).trans (Frm.of_same sD), d5.same sD⟩
      have hi := (List.getElem?_eq_some_iff.mp z).1
      rw [sa.len] at hi
      obtain ⟨v, g1, g2⟩ := hsl i o z
      exact ⟨v, by rw [List.getElem?_append_left (by omega)]; exact g1, g2.tf tfZ⟩
    clear hc2 hsl hdl c2d f1 d1
    obtain ⟨c2, rfl, hws, c2d, c2n, f1, d1⟩ := hP
    refine ⟨16, rfl, by decide, by decide, ?_⟩
    refine L2.for_it (walk_r0 (n := 16)) (fun i σ H' => ∃ (sl : List (Option Tg)) (v4 v5 v6 v7 : Option V), σ = [some (.ref d), some g, some (.int m), some (.ref c2), v4, v5, v6, v7, none, none] ∧ Frm d H H' ∧ Pot H' d ∧ WsD K H' c2 sl ∧ SlAll G sl ∧ Apt G sl) ⟨sl, _, _, _, _, rfl, f1, d1, hws, sa, ap⟩ (fun _ _ _ _ _ => trivial) (fun i x σ H4 Hx hi hPv hy => ?_) (fun σ H4 hPv => ?_)
    · obtain ⟨sl, v4, v5, v6, v7, rfl, F, dp, hw, sa, ap⟩ := hPv
      obtain ⟨rfl, rfl⟩ := hy
      obtain ⟨wv, hwv, wl, hwx, hwd⟩ := id hw
      obtain ⟨so, hso⟩ : ∃ so, sl[i]? = some so := ⟨_, List.getElem?_eq_getElem (by rw [sa.len]; omega)⟩
      obtain ⟨v, hv1, hv2⟩ := hwx i so hso
      refine ⟨_, rfl, _, rfl, c2, _, _, _, rfl, rfl, SqL.of hwv, atI_nat hv1, rfl, ?_⟩
      cases so with
      | none =>
        obtain rfl : v = .non := hv2
        exact ⟨_, rfl, iteF ⟨sl, _, _, _, _, rfl, F, dp, hw, sa, ap⟩⟩
      | some t =>
        have hv2 : TgX K Hx v t := hv2
        obtain ⟨ta, oa, rfl, hta, hoa, ol⟩ := id hv2
        refine ⟨_, rfl, iteT ?_⟩
        refine ⟨_, rfl, d, 6, rfl, by decide, by decide, dp, fun way H5 w0 w1 f5 d5 => ?_⟩
        have hw5 := hw.frm dp f5 c2d
        have F5 := F.trans f5
        refine ⟨_, rfl, _, rfl, fun nd nnd => ⟨_, rfl, ?_⟩⟩
        have s6 := new_same (o := .dK []) nnd
        have ndd : nd ≠ d := d5.ne nnd
        have nd0 : H nd = none := fnone F5 ndd nnd
        have hw6 := hw5.same s6
        have d6 := d5.same s6
        have hk6 : (upd H5 nd (.dK [])) nd = some (.dK []) := upd_same
        have F6 := F5.trans (Frm.of_same s6)
        refine ⟨_, c2, nd, G, sl, i, t, _, rfl, hg.tf (pot_tf F6 hd), o, sa, by omega, hso, hw6.wl, kset_nil hk6, fun H7 f7 _ => ?_⟩
        have tf7 := Frm.tfk f7 hk6
        have c2nd : c2 ≠ nd := fun e => by
          obtain ⟨_, z, _⟩ := hw6
          rw [e, hk6] at z
          cases z
        have e7 : ∀ b, b ≠ nd → (∃ o, (upd H5 nd (.dK [])) b = some o) → H7 b = (upd H5 nd (.dK [])) b := fun b n ⟨o, z⟩ => by rw [f7 _ _ n z, z]
        have hw7 := hw6.tf tf7 (e7 c2 c2nd (by obtain ⟨_, z, _⟩ := hw6; exact ⟨_, z⟩))
        have d7 := d6.keep (e7 d (Ne.symm ndd) (by obtain ⟨_, z⟩ := d6.lst; exact ⟨_, z⟩))
        have F7 : Frm d H H7 := fun b o n z => f7 _ _ (ne_of_none z nd0) (F6 _ _ n z)
        refine ⟨_, rfl, _, rfl, _, rfl, d, 18, rfl, by decide, by decide, d7, fun x8 H8 _ _ f8 d8 => ⟨_, _, rfl, rfl, _, rfl, _, rfl, _, rfl, (show 6 ≤ sizeLine by decide), fun pl npl => ?_⟩⟩
        obtain ⟨r, hr6⟩ := six (-2) (-1) (x8 - 2) (restF G sl i) w0 w1
        have s9 := new_same (o := .lst [V.int (-2), .int (-1), .int (x8 - 2), .int (restF G sl i), .int (restF G sl i), .int (restF G sl i)]) npl
        refine ⟨_, rfl, pl, _, _, .int r, rfl, rfl, SqL.of upd_same, hr6, ?_⟩
        have hw9 := (hw7.frm d7 f8 c2d).same s9
        have d9 := d8.same s9
        have F9 := (F7.trans f8).trans (Frm.of_same s9)
        obtain ⟨H9, hH9⟩ : ∃ H9, H9 = upd H8 pl (.lst [V.int (-2), .int (-1), .int (x8 - 2), .int (restF G sl i), .int (restF G sl i), .int (restF G sl i)]) := ⟨_, rfl⟩
        show gName 6 _ _ (upd H8 pl (.lst [V.int (-2), .int (-1), .int (x8 - 2), .int (restF G sl i), .int (restF G sl i), .int (restF G sl i)])) _
        rw [← hH9] at hw9 d9 F9 ⊢
        obtain ⟨wv9, hwv9, wl9, hwx9, hwd9⟩ := id hw9
        obtain ⟨v9, hv91, hv92⟩ := hwx9 i _ hso
        obtain ⟨ta, oa, rfl, hta, hoa, ol⟩ : TgX K H9 v9 t := hv92
        refine ⟨_, rfl, _, rfl, c2, _, _, _, rfl, rfl, SqL.of hwv9, atI_nat hv91, _, rfl, slA_gen hta fun q H10 s10 hq => ?_⟩
        have hq : SqT K H10 q [V.int (t.k : Int), V.int t.hs, V.int t.x, V.int t.y, V.int t.dx, V.int t.dy] := hq
        have hta10 := (same_tf s10).sq hta
        have hw10 := hw9.same s10
        obtain ⟨wvA, hwvA, wlA, hwxA, hwdA⟩ := id hw10
        have hwvA' : wvA = wv9 := by
          have := (s10 _ _ hwv9).symm.trans hwvA
          injection this with this
          injection this with this
          exact this.symm
        subst hwvA'
        refine ⟨_, rfl, _, rfl, _, rfl, c2, _, _, _, rfl, rfl, SqL.of hwvA, atI_nat hv91, ta, _, _, _, rfl, rfl, hta10, atI_nat (j := 7) rfl, (show 2 ≤ sizeLine by decide), fun pt npt => ?_⟩
        have s11 := new_same (o := .tup [V.int r, .ref oa]) npt
        refine ⟨q, pt, _, _, rfl, rfl, (same_tf s11).sq hq, SqT.of upd_same, (show 8 ≤ sizeLine by decide), (fun e => nomatch e), (fun _ e => nomatch e), fun _ _ pn npn => ?_⟩
        have s12 := new_same (o := .tup [V.int (t.k : Int), V.int t.hs, V.int t.x, V.int t.y, V.int t.dx, V.int t.dy, .int r, .ref oa]) npn
        have S12 := (s10.trans s11).trans s12
        have hwB := hw9.same S12
        have dB := d9.same S12
        have FB := F9.trans (Frm.of_same S12)
        have hoaB := (same_tf S12).sq hoa
        obtain ⟨wvB, hB1, hB2, hB3, hB4⟩ := id hwB
        refine ⟨_, rfl, _, rfl, c2, wvB, (i : Int), i, rfl, rfl, hB1, ixN_nat (by omega), ?_⟩
        have hwC := WsD.put (t := { t with rest := r }) hB1 hB2 hB3 hB4 (by omega) sa.len ⟨pn, oa, rfl, SqT.of upd_same, hoaB, ol⟩
        have saC := sa.put (s := i) (t := { t with rest := r }) ⟨(sa.ok t (List.mem_of_getElem? hso)).k, (sa.ok t (List.mem_of_getElem? hso)).x1, (sa.ok t (List.mem_of_getElem? hso)).x2, (sa.ok t (List.mem_of_getElem? hso)).y1, (sa.ok t (List.mem_of_getElem? hso)).y2, (sa.ok t (List.mem_of_getElem? hso)).fr, (sa.ok t (List.mem_of_getElem? hso)).d1, (sa.ok t (List.mem_of_getElem? hso)).d2⟩
        have apC := ap.alike (u := { t with rest := r }) hso rfl rfl rfl rfl
        have dC := dB.upd c2d (o := .lst (wvB.set i (.ref pn)))
        have FC := frm_new (o := .lst (wvB.set i (.ref pn))) FB c2n
        refine ⟨_, rfl, d, 65536, rfl, by decide, by decide, dC, fun mk H13 _ _ f13 d13 => ?_⟩
        have hw13 := hwC.frm dC f13 c2d
        have F13 := FC.trans f13
        refine ⟨_, rfl, by decide, by decide, fun D2 hD2 => ?_⟩
        refine lc_it (walk_r0 (n := 16)) (fun j H5 => ∃ us : List Int, Same H13 H5 ∧ H5 D2 = some (.lst (us.map V.int)) ∧ us.length ≤ j) ⟨[], new_same hD2, upd_same, Nat.le_refl _⟩ (fun _ _ _ _ => trivial) (fun j v H5 Hz hj h yy => ?_) (fun H5 h => ?_)
        · obtain ⟨rfl, rfl⟩ := yy
          obtain ⟨us, sm, hl, al⟩ := h
          refine ⟨rfl, _, rfl, _, rfl, rfl, _, rfl, ite2 (fun _ => ?_) (fun _ => iteF ⟨us, sm, hl, by omega⟩)⟩
          refine ⟨_, rfl, _, rfl, _, _, rfl, rfl, Int.natCast_nonneg j, _, _, rfl, rfl, rfl, _, rfl, ite2 (fun _ => ?_) (fun _ => ⟨us, sm, hl, by omega⟩)⟩
          refine ⟨_, rfl, _, hl, Nat.lt_of_le_of_lt (show (us.map V.int).length ≤ 24 by rw [List.length_map]; omega) (by decide), us ++ [(j : Int)], fun c o z => ?_, by rw [upd_same, List.map_append]; rfl, by rw [List.length_append]; simp only [List.length_cons, List.length_nil]; omega⟩
          rw [upd_ne (ne_of_none z hD2)]
          exact sm _ _ z
        obtain ⟨us, sm, hl, al⟩ := h
        refine ⟨D2, _, rfl, .inl ⟨SqL.of hl, fun pz npz => ?_⟩⟩
        have sz := sm.trans (new_same (o := .tup (us.map V.int)) npz)
        obtain ⟨wvZ, hZ1, hZ2, hZ3, hZ4⟩ := hw13.same sz
        have hix : ixN wvZ.length (16 + (i : Int)) = some (16 + i) := ixN_nat (n := wvZ.length) (s := 16 + i) (by omega)
        refine ⟨_, rfl, _, rfl, _, _, rfl, rfl, c2, wvZ, _, 16 + i, rfl, rfl, hZ1, hix, ?_⟩
        exact ⟨_, _, _, _, _, rfl, frm_new (F13.trans (Frm.of_same sz)) c2n, (d13.same sz).upd c2d, WsD.put2 hZ1 hZ2 hZ3 hZ4 (by omega) saC.len (tupi_al (SqT.of upd_same) (by omega)), saC, apC⟩
    · obtain ⟨sl, v4, v5, v6, v7, rfl, F, dp, hw, sa, ap⟩ := hPv
      exact ⟨_, rfl, k c2 sl H4 F dp hw sa ap c2d⟩
end
end K27
set_option maxRecDepth 100000
set_option maxHeartbeats 4000000
/-! d.update(e), for two dicts. -/
namespace KU
open PySem PySem.Spec PyProof.Rows L2
def mergeV (kvs more : List (Key × V)) : List (Key × V) := more.foldl (fun acc kv => putK acc kv.1 kv.2) kvs
theorem mergeV_len : ∀ (more kvs : List (Key × V)), (mergeV kvs more).length ≤ kvs.length + more.length
  | [], _ => Nat.le_refl _
  | kv :: more, kvs => by
    have h1 := mergeV_len more (putK kvs kv.1 kv.2)
    have h2 := length_putK kvs kv.1 kv.2
    show (mergeV (putK kvs kv.1 kv.2) more).length ≤ kvs.length + (more.length + 1)
    omega
theorem kv_merged : ∀ {more : List (Key × V)} {vs2 : List (Key × Value)}, KV more vs2 → ∀ {kvs : List (Key × V)} {vs : List (Key × Value)}, KV kvs vs → KV (mergeV kvs more) (merged vs vs2) := by
  intro more vs2 h
  induction h with
  | nil => exact fun h => h
  | cons hr _ ih => exact fun h => ih (by dsimp only; rw [hr.1]; exact h.put _ hr.2)
section
variable {X : Cx} {pins : List (Addr × Obj)} {σ : L2.St} {H : Hp} {s : Shared} {a b : Addr} {kvs more : List (Key × V)} {E : Value → Shared → Prop}
theorem d_update {Qv : Value → Shared → Prop} (J : Inv X pins σ H s) (ha : H a = some (.dK kvs)) (hb : H b = some (.dK more)) (ne : a ≠ b) (hz : kvs.length + more.length ≤ sizeLine) (fin : ∀ s2, Inv X pins σ (upd H a (.dK (mergeV kvs more))) s2 → Qv .none s2) :
    wpAny (model X.prog X.w) X.A (call (.builtin "dict.update") [.ref a, .ref b]) Qv E s := by
  obtain ⟨z1, n1, us1, rl1, dd1⟩ := dk_of J.hok ha
  obtain ⟨z2, n2, us2, rl2, dd2⟩ := dk_of J.hok hb
  refine call_meetsIn PySem.F.slot_dict_update dd1.typeIs PySem.F.entry_dict_update (PySem.F.args_dict_update_2 _ _) (meets_dict_update (mixKind X.prog X.w) a b ne n2)
    ⟨us1, us2, dd1, dd2, by rw [← rl1.length, ← rl2.length]; exact hz, fun hp3 dd3 _ sb => fin _ ?_⟩
  have there : ∃ ob, hp3.get? a = some ob := by
    obtain ⟨ob, _, _, hob, _⟩ := dd3
    exact ⟨ob, hob⟩
  exact d_write (t' := s.toks) J (by rw [ha]; exact True.intro) sb there (dk_new (Nat.le_trans (mergeV_len more kvs) hz) n1 (kv_merged rl2 rl1) dd3)
def rUpd : V → List V → Hp → VK → Prop := fun x vs H Q => ∃ (a b : Addr) (kvs more : List (Key × V)), x = .ref a ∧ vs = [.ref b] ∧ H a = some (.dK kvs) ∧ H b = some (.dK more) ∧ a ≠ b ∧ kvs.length + more.length ≤ sizeLine ∧ Q .non (upd H a (.dK (mergeV kvs more)))
theorem mt_update : MtR X "dict.update" rUpd := by
  intro pn st σ' H1 x vs v us Qv J rl1 rl2 asks
  obtain ⟨a, b, kvs, more, rfl, rfl, ha, hb, ne, hz, q⟩ := asks
  cases rl1
  obtain ⟨u, rfl, ru⟩ := rl2.one
  cases ru
  exact d_update J ha hb ne hz fun s2 J2 => ⟨.non, _, J2, rfl, q⟩
end
end KU
set_option maxRecDepth 100000
set_option maxHeartbeats 4000000
/-! The state of the law. -/
namespace K27
open PySem PySem.Spec PyProof.Rows L2 KF KD KP
theorem merge_kset {H : Hp} {d : Addr} : ∀ (more acc : List (Key × V)) (p : Int → Prop), KSet (upd H d (.dK acc)) d p → (∀ kv ∈ more, ∃ c : Int, kv.1 = .inl c ∧ Cel c) → KSet (upd H d (.dK (KU.mergeV acc more))) d (fun c => p c ∨ (.inl c : Key) ∈ more.map (·.1))
  | [], acc, p, h, _ => h.imp fun c => by simp
  | kv :: more, acc, p, h, hc => by
    obtain ⟨c, e, hcel⟩ := hc kv List.mem_cons_self
    have h1 := kset_put (v := kv.2) h upd_same hcel
    have h2 : KSet (upd H d (.dK (putK acc kv.1 kv.2))) d (fun x => p x ∨ x = c) := by
      rw [e]
      exact h1.keep (by rw [upd_same, upd_same])
    refine (merge_kset more _ _ h2 fun kv' m => hc kv' (List.mem_cons_of_mem _ m)).imp fun x => ?_
    rw [List.map_cons, List.mem_cons, e, or_assoc]
    constructor
    · rintro (z | z | z)
      · exact .inl z
      · exact .inr (.inl (by rw [z]))
      · exact .inr (.inr z)
    · rintro (z | z | z)
      · exact .inl z
      · exact .inr (.inl (by injection z))
      · exact .inr (.inr z)
theorem kset_merge {H : Hp} {d e : Addr} {p q : Int → Prop} {kvs more : List (Key × V)} (h1 : KSet H d p) (h2 : KSet H e q) (e1 : H d = some (.dK kvs)) (e2 : H e = some (.dK more)) : KSet (upd H d (.dK (KU.mergeV kvs more))) d fun c => p c ∨ q c := by
  obtain ⟨kvs2, ks, g1, g2, _, g4, g5⟩ := h2
  rw [e2] at g1
  injection g1 with g1
  injection g1 with g1
  subst g1
  refine (merge_kset more kvs p (h1.keep (by rw [upd_same, e1])) fun kv m => ?_).imp fun c => ?_
  · have hm : kv.1 ∈ more.map (·.1) := List.mem_map.mpr ⟨kv, m, rfl⟩
    rw [g2] at hm
    obtain ⟨c, hc, e⟩ := List.mem_map.mp hm
    exact ⟨c, e.symm, g5 c hc⟩
  · rw [g2]
    refine or_congr Iff.rfl ?_
    rw [← g4]
    constructor
    · intro z
      obtain ⟨x, hx, e⟩ := List.mem_map.mp z
      injection e with e
      rw [← e]
      exact hx
    · exact fun z => List.mem_map.mpr ⟨c, z, rfl⟩
/-- all but three -/
def F3 (x y z : Addr) (H H' : Hp) : Prop := ∀ b o, b ≠ x → b ≠ y → b ≠ z → H b = some o → H' b = some o
theorem F3.refl (x y z : Addr) (H : Hp) : F3 x y z H H := fun _ _ _ _ _ h => h
theorem F3.trans {x y z : Addr} {H H1 H2 : Hp} (a : F3 x y z H H1) (b : F3 x y z H1 H2) : F3 x y z H H2 := fun c o n m l h => b c o n m l (a c o n m l h)
theorem F3.a {x y z : Addr} {H H' : Hp} (a : Frm x H H') : F3 x y z H H' := fun c o n _ _ h => a c o n h
theorem F3.b {x y z : Addr} {H H' : Hp} (a : Frm y H H') : F3 x y z H H' := fun c o _ n _ h => a c o n h
theorem F3.c {x y z : Addr} {H H' : Hp} (a : Frm z H H') : F3 x y z H H' := fun c o _ _ n h => a c o n h
theorem F3.s {x y z : Addr} {H H' : Hp} (a : Same H H') : F3 x y z H H' := fun c o _ _ _ h => a c o h
/-- the state between two steps of the law -/
structure LSt (K : PySem.W.Frag) (H : Hp) (d : Addr) (g : V) (wa wt ea eld kd : Addr) (G : Gm) (sl : List (Option Tg)) (wv : List V) (wd : List PyData) (p : Int → Prop) : Prop where
  pot : Pot H d
  gm : GmAt K H g G
  ok : G.ok
  sa : SlAll G sl
  ws : WsD K H wa sl
  wtt : WtAt K H wt wv G sl
  dd : DpAll K H wv wd
  al : ∀ e ∈ wd, AlOk 2 e
  ey : LkAt K H ea wt eld p
  kn : KSet H kd p
  ne : eld ≠ kd
  wn : wa ≠ d
theorem LSt.tf {K : PySem.W.Frag} {H H' : Hp} {d : Addr} {g : V} {wa wt ea eld kd : Addr} {G : Gm} {sl : List (Option Tg)} {wv : List V} {wd : List PyData} {p : Int → Prop} (h : LSt K H d g wa wt ea eld kd G sl wv wd p) (f : F3 d eld kd H H') : TF H H' := fun c ys z => by
  obtain ⟨xs, hd⟩ := h.pot.lst
  obtain ⟨_, _, he⟩ := h.ey
  obtain ⟨k1, he⟩ := he.dict
  obtain ⟨k2, hk⟩ := h.kn.dict
  rcases z with z | ⟨u, z⟩
  · exact .inl (f c _ (fun q => by rw [q, hd] at z; cases z) (fun q => by rw [q, he] at z; cases z) (fun q => by rw [q, hk] at z; cases z) z)
  · exact .inr ⟨u, f c _ (fun q => by rw [q, hd] at z; cases z) (fun q => by rw [q, he] at z; cases z) (fun q => by rw [q, hk] at z; cases z) z⟩
/-- on to another heap -/
theorem LSt.mv {K : PySem.W.Frag} {H H' : Hp} {d : Addr} {g : V} {wa wt ea eld kd : Addr} {G : Gm} {sl : List (Option Tg)} {wv : List V} {wd : List PyData} {p q : Int → Prop} (h : LSt K H d g wa wt ea eld kd G sl wv wd p) (f : F3 d eld kd H H') (pd : Pot H' d) (ke : KSet H' eld q) (kk : KSet H' kd q) : LSt K H' d g wa wt ea eld kd G sl wv wd q := by
  have tf := h.tf f
  obtain ⟨xs, hd⟩ := h.pot.lst
  obtain ⟨dx, ha, he⟩ := h.ey
  obtain ⟨k1, he⟩ := he.dict
  obtain ⟨k2, hk⟩ := h.kn.dict
  obtain ⟨wl, hw, _⟩ := id h.ws
  refine ⟨pd, h.gm.tf tf, h.ok, h.sa, h.ws.tf tf ?_, h.wtt.tf tf, dpa_nl tf _ _ (al_nls h.al) h.dd, h.al, ⟨dx, f _ _ (fun q => ?_) (fun q => ?_) (fun q => ?_) ha, ke⟩, kk, h.ne, h.wn⟩
  · rw [hw]
    exact f _ _ h.wn (fun q => by rw [q, he] at hw; cases hw) (fun q => by rw [q, hk] at hw; cases hw) hw
  · rw [q, hd] at ha
    cases ha
  · rw [q, he] at ha
    cases ha
  · rw [q, hk] at ha
    cases ha
/-- draws -/
theorem LSt.take {K : PySem.W.Frag} {H H' : Hp} {d : Addr} {g : V} {wa wt ea eld kd : Addr} {G : Gm} {sl : List (Option Tg)} {wv : List V} {wd : List PyData} {p : Int → Prop} (h : LSt K H d g wa wt ea eld kd G sl wv wd p) (f : Frm d H H') (pd : Pot H' d) : LSt K H' d g wa wt ea eld kd G sl wv wd p := by
  obtain ⟨xs, hd⟩ := h.pot.lst
  obtain ⟨dx, ha, he⟩ := id h.ey
  obtain ⟨k1, he'⟩ := he.dict
  obtain ⟨k2, hk⟩ := h.kn.dict
  exact h.mv (F3.a f) pd (he.frm f fun q => by rw [q, hd] at he'; cases he') (h.kn.frm f fun q => by rw [q, hd] at hk; cases hk)
theorem LSt.same {K : PySem.W.Frag} {H H' : Hp} {d : Addr} {g : V} {wa wt ea eld kd : Addr} {G : Gm} {sl : List (Option Tg)} {wv : List V} {wd : List PyData} {p : Int → Prop} (h : LSt K H d g wa wt ea eld kd G sl wv wd p) (s : Same H H') : LSt K H' d g wa wt ea eld kd G sl wv wd p := by
  obtain ⟨dx, ha, he⟩ := id h.ey
  exact h.mv (F3.s s) (h.pot.same s) (he.same s) (h.kn.same s)
/-- a dict that is none of them is written -/
theorem LSt.oth {K : PySem.W.Frag} {H H' : Hp} {d : Addr} {g : V} {wa wt ea eld kd x : Addr} {G : Gm} {sl : List (Option Tg)} {wv : List V} {wd : List PyData} {p : Int → Prop} {kvs : List (Key × V)} (h : LSt K H d g wa wt ea eld kd G sl wv wd p) (f : Frm x H H') (hx : H x = some (.dK kvs)) (n1 : x ≠ eld) (n2 : x ≠ kd) : LSt K H' d g wa wt ea eld kd G sl wv wd p := by
  have tf := Frm.tfk f hx
  obtain ⟨xs, hd⟩ := h.pot.lst
  obtain ⟨dx, ha, he⟩ := h.ey
  obtain ⟨wl, hw, _⟩ := id h.ws
  refine ⟨h.pot.keep ?_, h.gm.tf tf, h.ok, h.sa, h.ws.tf tf ?_, h.wtt.tf tf, dpa_nl tf _ _ (al_nls h.al) h.dd, h.al, ⟨dx, f _ _ (fun q => by rw [q, hx] at ha; cases ha) ha, he.frm f (Ne.symm n1)⟩, h.kn.frm f (Ne.symm n2), h.ne, h.wn⟩
  · rw [hd]
    exact f _ _ (fun q => by rw [q, hx] at hd; cases hd) hd
  · rw [hw]
    exact f _ _ (fun q => by rw [q, hx] at hw; cases hw) hw
theorem seen_lt {G : Gm} {sl : List (Option Tg)} {b : Bx} {but : List Nat} {c : Int} {n : Nat} (o : G.ok) (l : b.lim) (hn : (n : Int) = 49 + G.bh * G.bw) (h : seenS G sl b but c) : (0 ≤ c ∧ c < (n : Int)) := by
  have b40 := bhw o
  rcases h with h | ⟨s, rfl, h, _⟩
  · have := blk_mem o l h
    omega
  · omega
theorem same_ys {p : Int → Prop} {xs ys : List Int} (h1 : xs.Pairwise (· < ·)) (h2 : ys.Pairwise (· < ·)) (e1 : ∀ c, c ∈ xs ↔ p c) (e2 : ∀ c, c ∈ ys ↔ p c) : xs = ys := srt_uniq _ _ h1 h2 fun c => (e1 c).trans (e2 c).symm
theorem ys_len {p : Int → Prop} {ys : List Int} (h : ys.Pairwise (· < ·)) (e : ∀ c, c ∈ ys ↔ p c) {H : Hp} {d : Addr} (k : KSet H d p) : ys.length ≤ 1000 := by
  obtain ⟨_, ks, _, _, _, g4, g5⟩ := k
  have : ys.length ≤ 56 := cel_len (h.imp fun z e => by omega) fun c hc => g5 c ((g4 c).mpr ((e c).mp hc))
  omega
theorem bkD4 (l : List Nat) (h : l.length ≤ 16) : AlOk 4 (bkD l) := ⟨by rw [List.length_map]; omega, fun e he => by
  obtain ⟨n, _, rfl⟩ := List.mem_map.mp he
  trivial⟩
theorem bkD_dp {K : PySem.W.Frag} {H : Hp} {a : Addr} {l : List Nat} (h : SqT K H a (nV l)) : Dp K H (.ref a) (bkD l) := .tup h (dpa_ints l)
theorem new_looks {H H' : Hp} {a dx C : Addr} (na : H a = none) (nd : H dx = none) (f : Frm a (upd (upd H dx (.own a)) a (.ins C dx [])) H') : Same H H' := fun b o z => by
  have h1 : b ≠ a := ne_of_none z na
  refine f b o h1 ?_
  rw [upd_ne h1, upd_ne (ne_of_none z nd)]
  exact z
theorem none_looks {H : Hp} {a dx ld : Addr} {o1 o2 : HO} (h : (upd (upd H dx o1) a o2) ld = none) : H ld = none := by
  by_cases h1 : ld = a
  · rw [h1, upd_same] at h
    cases h
  · rw [upd_ne h1] at h
    by_cases h2 : ld = dx
    · rw [h2, upd_same] at h
      cases h
    · rw [upd_ne h2] at h
      exact h
theorem LSt.exk {K : PySem.W.Frag} {H H' : Hp} {d : Addr} {g : V} {wa wt ea eld kd x : Addr} {G : Gm} {sl : List (Option Tg)} {wv : List V} {wd : List PyData} {p r : Int → Prop} (h : LSt K H d g wa wt ea eld kd G sl wv wd p) (f : F3 d eld kd H H') (k : KSet H x r) (n1 : x ≠ eld) (n2 : x ≠ kd) : KSet H' x r := by
  obtain ⟨kvs, hk⟩ := k.dict
  obtain ⟨xs, hd⟩ := h.pot.lst
  refine k.keep ?_
  rw [hk]
  exact f _ _ (fun e => by rw [e, hd] at hk; cases hk) n1 n2 hk
theorem LSt.exl {K : PySem.W.Frag} {H H' : Hp} {d : Addr} {g : V} {wa wt ea eld kd a wt2 x : Addr} {G : Gm} {sl : List (Option Tg)} {wv : List V} {wd : List PyData} {p r : Int → Prop} (h : LSt K H d g wa wt ea eld kd G sl wv wd p) (f : F3 d eld kd H H') (k : LkAt K H a wt2 x r) (n1 : x ≠ eld) (n2 : x ≠ kd) : LkAt K H' a wt2 x r := by
  obtain ⟨dx, ha, kx⟩ := k
  obtain ⟨xs, hd⟩ := h.pot.lst
  obtain ⟨_, _, he⟩ := id h.ey
  obtain ⟨k1, he⟩ := he.dict
  obtain ⟨k2, hk⟩ := h.kn.dict
  exact ⟨dx, f _ _ (fun e => by rw [e, hd] at ha; cases ha) (fun e => by rw [e, he] at ha; cases ha) (fun e => by rw [e, hk] at ha; cases ha) ha, h.exk f kx n1 n2⟩
theorem nkey {H : Hp} {x y : Addr} {p : Int → Prop} (h : H x = none) (k : KSet H y p) : x ≠ y := fun e => by
  obtain ⟨_, z⟩ := k.dict
  rw [e, z] at h
  cases h
theorem LSt.n0 {K : PySem.W.Frag} {H H' : Hp} {d : Addr} {g : V} {wa wt ea eld kd x : Addr} {G : Gm} {sl : List (Option Tg)} {wv : List V} {wd : List PyData} {p : Int → Prop} (h : LSt K H' d g wa wt ea eld kd G sl wv wd p) (f : F3 d eld kd H H') (n : H' x = none) : H x = none := by
  cases e : H x with
  | none => rfl
  | some z => exact absurd ((f _ _ (h.pot.ne n) (nkey n h.ey.choose_spec.2) (nkey n h.kn) e).symm.trans n) (by simp)
theorem F3.fr {x y z q : Addr} {H H1 H2 : Hp} (f : F3 x y z H H1) (n : H q = none) (g : Frm q H1 H2) : F3 x y z H H2 := fun b o n1 n2 n3 h => g _ _ (ne_of_none h n) (f _ _ n1 n2 n3 h)
theorem pick4 {K : PySem.W.Frag} {H : Hp} {p0 p1 p2 p3 : Addr} {w : Int} (h0 : SqT K H p0 [.int (-1), .int 0]) (h1 : SqT K H p1 [.int 1, .int 0]) (h2 : SqT K H p2 [.int 0, .int (-1)]) (h3 : SqT K H p3 [.int 0, .int 1]) (w0 : 0 ≤ w) (w1 : w < 4) : ∃ (pv : Addr) (x y : Int), atI [V.ref p0, .ref p1, .ref p2, .ref p3] w = some (.ref pv) ∧ SqT K H pv [.int x, .int y] ∧ (x, y) ∈ dirs := by
  obtain ⟨n, rfl⟩ := Int.eq_ofNat_of_zero_le w0
  have hn : n = 0 ∨ n = 1 ∨ n = 2 ∨ n = 3 := by omega
  rcases hn with rfl | rfl | rfl | rfl
  · exact ⟨p0, _, _, atI_nat rfl, h0, by decide⟩
  · exact ⟨p1, _, _, atI_nat rfl, h1, by decide⟩
  · exact ⟨p2, _, _, atI_nat rfl, h2, by decide⟩
  · exact ⟨p3, _, _, atI_nat rfl, h3, by decide⟩
theorem dirs_neg {x y : Int} (h : (x, y) ∈ dirs) : (-x, -y) ∈ dirs := by
  simp only [dirs, List.mem_cons, List.not_mem_nil, or_false, Prod.mk.injEq] at h ⊢
  omega
theorem kset_one {H : Hp} {d : Addr} {s : Nat} {v : V} (s16 : s < 16) (h : H d = some (.dK [(.inl (s : Int), v)])) : KSet H d fun c => c = (s : Int) := ⟨_, [(s : Int)], h, rfl, by simp, fun c => by simp, fun c hc => by
  obtain rfl : c = (s : Int) := by simpa using hc
  exact .inl (by omega)⟩
theorem bxS_lim {G : Gm} {sl : List (Option Tg)} (o : G.ok) (sa : SlAll G sl) (s : Nat) {dx dy : Int} (h : (dx, dy) ∈ dirs) : ((bxS G sl s).mv dx dy).lim := by
  have hdd : -1 ≤ dx ∧ dx ≤ 1 ∧ -1 ≤ dy ∧ dy ≤ 1 := by
    simp only [dirs, List.mem_cons, List.not_mem_nil, or_false, Prod.mk.injEq] at h
    omega
  unfold bxS
  split
  · rename_i t e
    exact ((sa.ok t (List.mem_of_getElem? e)).lim o).2.1 dx dy hdd.1 hdd.2.1 hdd.2.2.1 hdd.2.2.2
  · exact lim_box (by show -5000 ≤ 0 + dx; omega) (by show 0 + dx ≤ 5000; omega) (by show -5000 ≤ 0 + dy; omega) (by show 0 + dy ≤ 5000; omega) (show (1 : Int) ≤ 1 by decide) (show (1 : Int) ≤ 20 by decide) (show (1 : Int) ≤ 1 by decide) (show (1 : Int) ≤ 20 by decide)
theorem joinS_lt {G : Gm} {sl : List (Option Tg)} {dx dy c : Int} {going : List Nat} {s n : Nat} (o : G.ok) (sa : SlAll G sl) (hd : (dx, dy) ∈ dirs) (hn : (n : Int) = 49 + G.bh * G.bw) (h : joinS G sl dx dy going s c) : 0 ≤ c ∧ c < (n : Int) := seen_lt o (bxS_lim o sa s hd) hn h.2.2
theorem lotS_lt {G : Gm} {sl : List (Option Tg)} {dx dy c : Int} {n : Nat} (o : G.ok) (sa : SlAll G sl) (hd : (dx, dy) ∈ dirs) (hn : (n : Int) = 49 + G.bh * G.bw) : ∀ (m : Nat) (going : List Nat) (i : Nat), lotS G sl dx dy m going i c → 0 ≤ c ∧ c < (n : Int)
  | 0, _, _, h => h.elim
  | m + 1, going, i, h => by
    cases e : going[i]? with
    | none =>
      rw [lotS, e] at h
      exact h.elim
    | some s =>
      cases hj : joinF G sl dx dy going s with
      | none =>
        rw [lotS_none e hj] at h
        exact joinS_lt o sa hd hn h
      | some j =>
        rw [lotS_some e hj] at h
        rcases h with h | h
        · exact joinS_lt o sa hd hn h
        · exact lotS_lt o sa hd hn m _ _ h
theorem restS_lt {G : Gm} {sl : List (Option Tg)} {c : Int} {s n : Nat} (o : G.ok) (sa : SlAll G sl) (hn : (n : Int) = 49 + G.bh * G.bw) (h : restS G sl s c) : 0 ≤ c ∧ c < (n : Int) := joinS_lt o sa (by decide) hn h.2
section
end
end K27
set_option maxRecDepth 100000
set_option maxHeartbeats 4000000
/-! Drafts of worlds. -/
namespace K27
open PySem PySem.Spec PyProof.Rows L2 KF KD KP
theorem alok_dep : ∀ (n : Nat) (d : PyData), AlOk n d → d.depth ≤ n + 1
  | _, .none, _ => Nat.zero_le _
  | _, .int _, _ => Nat.zero_le _
  | n + 1, .tuple ds, h => by
    have g : ∀ l : List PyData, (∀ e ∈ l, AlOk n e) → PyData.depthAll l ≤ n + 1 := fun l => by
      induction l with
      | nil => exact fun _ => Nat.zero_le _
      | cons d l ih =>
        intro hl
        rw [PyData.depthAll]
        exact Nat.max_le.mpr ⟨alok_dep n d (hl d List.mem_cons_self), ih fun e he => hl e (List.mem_cons_of_mem _ he)⟩
    rw [PyData.depth]
    have := g ds h.2
    omega
  | 0, .tuple _, h => h.elim
  | 0, .bool _, h => h.elim
  | _ + 1, .bool _, h => h.elim
  | 0, .str _, h => h.elim
  | _ + 1, .str _, h => h.elim
  | 0, .list _, h => h.elim
  | _ + 1, .list _, h => h.elim
  | 0, .dict _, h => h.elim
  | _ + 1, .dict _, h => h.elim
theorem alok_sh {n : Nat} {d : PyData} (h : AlOk n d) (hn : n ≤ 60) : SeqAt.shaped d = true := by
  unfold SeqAt.shaped
  rw [alok_lay n d h, decide_eq_true (show d.depth ≤ 64 by have := alok_dep n d h; omega)]
  rfl
/-- the cells that were changed -/
def ChAt (K : PySem.W.Frag) (H : Hp) (ch : Addr) (chg : Int → Option PyData) : Prop := ∃ kvs : List (Key × V), H ch = some (.dK kvs) ∧ KSet H ch (fun c => (chg c).isSome = true) ∧ (∀ c, chg c = none → valV kvs (.inl c) = none) ∧ ∀ c d, chg c = some d → AlOk 2 d ∧ ∃ v, valV kvs (.inl c) = some v ∧ Dp K H v d
theorem ChAt.tf {K : PySem.W.Frag} {H H' : Hp} {ch : Addr} {chg : Int → Option PyData} (h : ChAt K H ch chg) (e : TF H H') (f : H' ch = H ch) : ChAt K H' ch chg := by
  obtain ⟨kvs, h1, h2, h3, h4⟩ := h
  refine ⟨kvs, by rw [f]; exact h1, h2.keep f, h3, fun c d z => ?_⟩
  obtain ⟨g1, v, g2, g3⟩ := h4 c d z
  exact ⟨g1, v, g2, dp_nl e _ _ (alok_nl _ _ g1) g3⟩
theorem ChAt.same {K : PySem.W.Frag} {H H' : Hp} {ch : Addr} {chg : Int → Option PyData} (h : ChAt K H ch chg) (e : Same H H') : ChAt K H' ch chg := by
  obtain ⟨kvs, h1, _⟩ := id h
  exact h.tf (same_tf e) (by rw [h1]; exact e _ _ h1)
theorem ChAt.imp {K : PySem.W.Frag} {H : Hp} {ch : Addr} {c1 c2 : Int → Option PyData} (h : ChAt K H ch c1) (e : ∀ c, c1 c = c2 c) : ChAt K H ch c2 := by
  rw [← funext e]
  exact h
def chP (chg : Int → Option PyData) (c : Int) (d : PyData) (x : Int) : Option PyData := if x = c then some d else chg x
theorem chat_put {K : PySem.W.Frag} {H : Hp} {ch : Addr} {chg : Int → Option PyData} {kvs : List (Key × V)} {c : Int} {v : V} {d : PyData} (h : ChAt K H ch chg) (hd : H ch = some (.dK kvs)) (hc : Cel c) (hv : Dp K H v d) (ha : AlOk 2 d) : ChAt K (upd H ch (.dK (putK kvs (.inl c) v))) ch (chP chg c d) := by
  obtain ⟨kvs', h1, h2, h3, h4⟩ := h
  have e : kvs' = kvs := by rw [h1] at hd; injection hd with hd; injection hd
  subst e
  have tf : TF H (upd H ch (.dK (putK kvs' (.inl c) v))) := Frm.tfk Frm.of_upd hd
  have ne : ∀ {x : Int}, x ≠ c → (Sum.inl x : Key) ≠ Sum.inl c := fun {x} n z => n (Sum.inl.inj z)
  refine ⟨_, upd_same, (kset_put h2 hd hc).imp fun x => ?_, fun x z => ?_, fun x d' z => ?_⟩
  · unfold chP
    by_cases n : x = c
    · simp [n]
    · simp [n]
  · unfold chP at z
    split at z
    · cases z
    · rename_i n
      rw [valV_put, if_neg (ne n)]
      exact h3 x z
  · unfold chP at z
    split at z
    · rename_i n
      injection z with z
      subst z
      subst n
      refine ⟨ha, v, by rw [valV_put, if_pos rfl], dp_nl tf _ _ (alok_nl _ _ ha) hv⟩
    · rename_i n
      obtain ⟨g1, u, g2, g3⟩ := h4 x d' z
      exact ⟨g1, u, by rw [valV_put, if_neg (ne n)]; exact g2, dp_nl tf _ _ (alok_nl _ _ g1) g3⟩
/-- a draft over looks -/
def DfAt (K : PySem.W.Frag) (H : Hp) (a la ch : Addr) (chg : Int → Option PyData) : Prop := (∃ dx, H a = some (.ins (He.ga K "Draft") dx [("_looks", .ref la), ("_changed", .ref ch)])) ∧ ChAt K H ch chg
theorem DfAt.same {K : PySem.W.Frag} {H H' : Hp} {a la ch : Addr} {chg : Int → Option PyData} (h : DfAt K H a la ch chg) (e : Same H H') : DfAt K H' a la ch chg := by
  obtain ⟨⟨dx, h1⟩, h2⟩ := h
  exact ⟨⟨dx, e _ _ h1⟩, h2.same e⟩
/-- what the draft has, with its looks and the world ahead of it -/
structure Dst (K : PySem.W.Frag) (H : Hp) (a la ch wt ld : Addr) (wv : List V) (wd : List PyData) (chg : Int → Option PyData) (p : Int → Prop) : Prop where
  df : DfAt K H a la ch chg
  lk : LkAt K H la wt ld p
  sq : SqT K H wt wv
  dp : DpAll K H wv wd
  al : ∀ e ∈ wd, AlOk 2 e
  in_ : ∀ c, (chg c).isSome = true → p c
  lt : ∀ c, p c → 0 ≤ c ∧ c < (wv.length : Int)
  ne : ld ≠ ch
theorem Dst.same {K : PySem.W.Frag} {H H' : Hp} {a la ch wt ld : Addr} {wv : List V} {wd : List PyData} {chg : Int → Option PyData} {p : Int → Prop} (h : Dst K H a la ch wt ld wv wd chg p) (e : Same H H') : Dst K H' a la ch wt ld wv wd chg p :=
  ⟨h.df.same e, h.lk.same e, (same_tf e).sq h.sq, dpa_nl (same_tf e) _ _ (al_nls h.al) h.dp, h.al, h.in_, h.lt, h.ne⟩
/-- what is left as it is: all but the looks and the changes -/
theorem Dst.tf {K : PySem.W.Frag} {H H' : Hp} {a la ch wt ld : Addr} {wv : List V} {wd : List PyData} {chg : Int → Option PyData} {p : Int → Prop} (h : Dst K H a la ch wt ld wv wd chg p) (f : F2 ld ch H H') : TF H H' := by
  obtain ⟨_, _, h1⟩ := h.lk
  obtain ⟨k1, h1⟩ := h1.dict
  obtain ⟨_, k2, h2, _⟩ := h.df
  exact f.tf h1 h2
theorem Dst.look {K : PySem.W.Frag} {H H' : Hp} {a la ch wt ld : Addr} {wv : List V} {wd : List PyData} {chg : Int → Option PyData} {p q : Int → Prop} (h : Dst K H a la ch wt ld wv wd chg p) (f : Frm ld H H') (l : LkAt K H' la wt ld q) (pq : ∀ c, p c → q c) (qlt : ∀ c, q c → 0 ≤ c ∧ c < (wv.length : Int)) : Dst K H' a la ch wt ld wv wd chg q := by
  have tf := h.lk.tf f
  obtain ⟨⟨dx, h1⟩, h2⟩ := h.df
  obtain ⟨kvs, h3, _⟩ := id h2
  obtain ⟨_, _, hl⟩ := h.lk
  obtain ⟨k1, hl⟩ := hl.dict
  exact ⟨⟨⟨dx, f _ _ (fun e => by rw [e, hl] at h1; cases h1) h1⟩, h2.tf tf (by rw [h3]; exact f _ _ (Ne.symm h.ne) h3)⟩, l, tf.sq h.sq, dpa_nl tf _ _ (al_nls h.al) h.dp, h.al, fun c z => pq c (h.in_ c z), qlt, h.ne⟩
section
variable {P : Program} {w : World} {K : PySem.W.Frag} {mg : Str → Option Value} {base : Heap}
def spDi (K : PySem.W.Frag) : Sp := fun vs H Q _ => ∃ (a dx la : Addr), vs = [.ref a, .ref la] ∧ H a = some (.ins (He.ga K "Draft") dx []) ∧ ∀ H' ch, DfAt K H' a la ch (fun _ => none) → Frm a H H' → H ch = none → Q .non H'
theorem scDi : FnScope ["self", "looks"] ["self", "looks"] (defScope s_Draft_init) := ⟨rfl, rfl, rfl, by decide +kernel, rfl, by decide +kernel, by decide +kernel⟩
theorem ok_Draft_init (T : Txt K w mg) : FnOk P w K mg base CX0 1 (He.fAd K ("Draft", some "__init__")) (fdAt K (He.fAd K ("Draft", some "__init__"))) ["self", "looks"] (spDi K) := by
  refine T.F_Draft_init.ok scDi (fun vs H Q E h => ?_) (fun cdv A outer s H vs Q E hr h => ?_)
  · obtain ⟨a, dx, wt, rfl, _⟩ := h
    rfl
  · obtain ⟨a, dx, wt, rfl, ha, k⟩ := h
    refine ⟨_, PSs.nox (pss_cons (ps_fld (pv 0) (pv 1) rfl)
      (pss_one (ps_fld (pv 0) pe_dnewK rfl))), ?_⟩
    refine ⟨_, rfl, _, rfl, a, _, dx, _, rfl, ha, T.k_Draft, T.a_Draft__looks, (show 0 < 1000 by decide), ?_⟩
    refine fun ld nld => ?_
    refine ⟨_, rfl, a, _, dx, _, rfl, (new_same nld) _ _ upd_same, T.k_Draft, T.a_Draft__changed, (show 1 < 1000 by decide), ?_⟩
    have hla : ld ≠ a := fun e => by
      rw [e, upd_same] at nld
      cases nld
    have nH : H ld = none := by
      rw [upd_ne hla] at nld
      exact nld
    refine k _ ld ⟨⟨dx, upd_same⟩, ⟨[], ?_, ?_, fun _ _ => rfl, fun c d z => by cases z⟩⟩ (fun b o n z => ?_) nH
    · rw [upd_ne hla, upd_same]
    · refine (kset_nil ?_).imp fun c => ⟨fun z => z.elim, fun z => by cases z⟩
      rw [upd_ne hla, upd_same]
    · rw [upd_ne n]
      rw [upd_ne (ne_of_none z nH), upd_ne n]
      exact z
/-- a cell that was not changed -/
def spDat (K : PySem.W.Frag) : Sp := fun vs H Q _ => ∃ (a la ch wt ld : Addr) (wv : List V) (wd : List PyData) (chg : Int → Option PyData) (p : Int → Prop) (n : Nat) (v : V), vs = [.ref a, .int (n : Int)] ∧ Dst K H a la ch wt ld wv wd chg p ∧ chg (n : Int) = none ∧ wv[n]? = some v ∧ Cel (n : Int) ∧ ∀ H', Frm ld H H' → Dst K H' a la ch wt ld wv wd chg (fun c => p c ∨ c = (n : Int)) → Q v H'
theorem scDat : FnScope ["self", "cell"] ["self", "cell"] (defScope s_Draft_at) := ⟨rfl, rfl, rfl, by decide +kernel, rfl, by decide +kernel, by decide +kernel⟩
theorem ok_Draft_at (T : Txt K w mg) : FnOk P w K mg base CX0 4 (He.fAd K ("Draft", some "at")) (fdAt K (He.fAd K ("Draft", some "at"))) ["self", "cell"] (spDat K) := by
  refine T.F_Draft_at.ok scDat (fun vs H Q E h => ?_) (fun cdv A outer s H vs Q E hr h => ?_)
  · obtain ⟨a, la, ch, wt, ld, wv, wd, chg, p, n, v, rfl, _⟩ := h
    rfl
  · obtain ⟨a, la, ch, wt, ld, wv, wd, chg, p, n, v, rfl, st, hn, hv, hc, k⟩ := h
    have hu := Nat.lt_of_le_of_lt (Nat.add_le_add_left (by decide : 1 ≤ 64) _) hr.units
    refine ⟨_, PSs.nox (pss_cons (ps_if (pt_cmp (pc_din hu (pv 1) (pe_fld (pv 0) rfl))) (pss_one ps_never) pss_nil)
      (pss_one (ps_ret (pe_meth (pe_fld (pv 0) rfl) T.k_Looks T.e_Looks_at (ok_Looks_at T) (hr.mono (by first | decide | omega)) T.b_Looks_at .nil pass0 (pa_cons (pv 1) pa_nil))))), ?_⟩
    obtain ⟨⟨dx, ha⟩, kvs, hk, ks, h3, h4⟩ := id st.df
    obtain ⟨dl, hla, _⟩ := id st.lk
    refine ⟨_, rfl, _, rfl, a, _, dx, _, .ref ch, rfl, ha, T.k_Draft, T.a_Draft__changed, rfl, ch, none, rfl, .inl ⟨kvs, .inl (n : Int), .inl hk, rfl, (h3 _ hn).symm⟩, _, rfl, iteF ?_⟩
    refine ⟨_, rfl, a, _, dx, _, .ref la, rfl, ha, T.k_Draft, T.a_Draft__looks, rfl, la, dl, _, rfl, hla, rfl, _, rfl, la, wt, ld, wv, p, n, v, rfl, st.lk, st.sq, hv, hc, fun H' f lk => ?_⟩
    have hlt := (List.getElem?_eq_some_iff.mp hv).1
    exact k H' f (st.look f lk (fun _ z => .inl z) fun c z => z.elim (st.lt c) fun e => by rw [e]; omega)
def spDpt (K : PySem.W.Frag) : Sp := fun vs H Q _ => ∃ (a la ch wt ld : Addr) (wv : List V) (wd : List PyData) (chg : Int → Option PyData) (p : Int → Prop) (n : Nat) (v : V) (d : PyData), vs = [.ref a, .int (n : Int), v] ∧ Dst K H a la ch wt ld wv wd chg p ∧ n < wv.length ∧ Cel (n : Int) ∧ Dp K H v d ∧ AlOk 2 d ∧ ∀ H', F2 ld ch H H' → Dst K H' a la ch wt ld wv wd (chP chg (n : Int) d) (fun c => p c ∨ c = (n : Int)) → Q .non H'
theorem scDpt : FnScope ["self", "cell", "value"] ["self", "cell", "value"] (defScope s_Draft_put) := ⟨rfl, rfl, rfl, by decide +kernel, rfl, by decide +kernel, by decide +kernel⟩
theorem ok_Draft_put (T : Txt K w mg) : FnOk P w K mg base CX0 4 (He.fAd K ("Draft", some "put")) (fdAt K (He.fAd K ("Draft", some "put"))) ["self", "cell", "value"] (spDpt K) := by
  refine T.F_Draft_put.ok scDpt (fun vs H Q E h => ?_) (fun cdv A outer s H vs Q E hr h => ?_)
  · obtain ⟨a, la, ch, wt, ld, wv, wd, chg, p, n, v, d, rfl, _⟩ := h
    rfl
  · obtain ⟨a, la, ch, wt, ld, wv, wd, chg, p, n, v, d, rfl, st, hn, hc, hv, hd, k⟩ := h
    have hu := Nat.lt_of_le_of_lt (Nat.add_le_add_left (by decide : 1 ≤ 64) _) hr.units
    refine ⟨_, PSs.nox (pss_cons (ps_expr (pe_meth (pe_fld (pv 0) rfl) T.k_Looks T.e_Looks_at (ok_Looks_at T) (hr.mono (by first | decide | omega)) T.b_Looks_at .nil pass0 (pa_cons (pv 1) pa_nil)))
      (pss_one (ps_dput hu (pe_fld (pv 0) rfl) (pv 1) (pv 2) rfl))), ?_⟩
    obtain ⟨⟨dx, ha⟩, kvs, hk, ks, h3, h4⟩ := id st.df
    obtain ⟨dl, hla, _⟩ := id st.lk
    obtain ⟨u, hu⟩ : ∃ u, wv[n]? = some u := ⟨_, List.getElem?_eq_getElem hn⟩
    refine ⟨_, rfl, a, _, dx, _, .ref la, rfl, ha, T.k_Draft, T.a_Draft__looks, rfl, la, dl, _, rfl, hla, rfl, _, rfl, la, wt, ld, wv, p, n, u, rfl, st.lk, st.sq, hu, hc, fun H1 f1 lk1 => ?_⟩
    have st1 := st.look f1 lk1 (fun _ z => .inl z) fun c z => z.elim (st.lt c) fun e => by rw [e]; omega
    have tf1 := st.lk.tf f1
    obtain ⟨⟨dx1, ha1⟩, hch1⟩ := id st1.df
    obtain ⟨kvs1, hk1, ks1, _⟩ := id hch1
    have ach : a ≠ ch := fun e => by rw [e, hk1] at ha1; cases ha1
    refine ⟨_, rfl, _, rfl, a, _, dx1, _, .ref ch, rfl, ha1, T.k_Draft, T.a_Draft__changed, rfl, _, rfl, ch, _, rfl, DPut.k (k := .inl (n : Int)) hk1 (Nat.lt_of_le_of_lt (ks1.len hk1) (by decide)), ?_⟩
    have f2 : Frm ch H1 (upd H1 ch (.dK (putK kvs1 (.inl (n : Int)) v))) := Frm.of_upd
    have tf2 : TF H1 (upd H1 ch (.dK (putK kvs1 (.inl (n : Int)) v))) := Frm.tfk f2 hk1
    have lac : la ≠ ch := fun e => by
      obtain ⟨_, z, _⟩ := st1.lk
      rw [e, hk1] at z
      cases z
    refine k _ ((F2.l f1).trans (F2.r f2)) ⟨⟨⟨dx1, f2 _ _ ach ha1⟩, chat_put hch1 hk1 hc (dp_nl tf1 _ _ (alok_nl _ _ hd) hv) hd⟩, st1.lk.frm f2 lac st1.ne, tf2.sq st1.sq, dpa_nl tf2 _ _ (al_nls st1.al) st1.dp, st1.al, fun c z => ?_, st1.lt, st1.ne⟩
    unfold chP at z
    split at z
    · rename_i e
      exact .inr e
    · exact st1.in_ c z
theorem Dst.lst {K : PySem.W.Frag} {H : Hp} {a la ch wt ld D : Addr} {wv : List V} {wd : List PyData} {chg : Int → Option PyData} {p : Int → Prop} {xs ys : List V} (h : Dst K H a la ch wt ld wv wd chg p) (hD : H D = some (.lst xs)) : Dst K (upd H D (.lst ys)) a la ch wt ld wv wd chg p := by
  have tf : TF H (upd H D (.lst ys)) := TF.lst1 hD
  obtain ⟨⟨dx, h1⟩, hc⟩ := h.df
  obtain ⟨kvs, hk, _⟩ := id hc
  obtain ⟨dl, hl, ks⟩ := h.lk
  obtain ⟨k2, hk2⟩ := ks.dict
  have nn : ∀ {b : Addr} {o : HO}, H b = some o → (∀ zs, o ≠ .lst zs) → b ≠ D := fun {b o} z n e => by
    rw [e, hD] at z
    injection z with z
    exact n _ z.symm
  have n1 := nn h1 (fun _ e => by cases e)
  have n2 := nn hk (fun _ e => by cases e)
  have n3 := nn hl (fun _ e => by cases e)
  have n4 := nn hk2 (fun _ e => by cases e)
  exact ⟨⟨⟨dx, by rw [upd_ne n1]; exact h1⟩, hc.tf tf (upd_ne n2)⟩, ⟨dl, by rw [upd_ne n3]; exact hl, ks.keep (upd_ne n4)⟩, tf.sq h.sq, dpa_nl tf _ _ (al_nls h.al) h.dp, h.al, h.in_, h.lt, h.ne⟩
/-! ### what is written -/
def chN (wd : List PyData) (chg : Int → Option PyData) (c : Int) : Bool := !PyData.eqv ((chg c).getD .none) (wd.getD c.toNat .none)
def wrD (wd : List PyData) (chg : Int → Option PyData) (ys : List Int) : PyData := .tuple ((ys.filter (chN wd chg)).map fun c => .tuple [.int c, (chg c).getD .none])
theorem nls_pr (f : Int → PyData) (h : ∀ c, NL (f c)) : ∀ ys : List Int, NLs (ys.map fun c => PyData.tuple [.int c, f c])
  | [] => trivial
  | c :: ys => ⟨⟨trivial, h c, trivial⟩, nls_pr f h ys⟩
def PrV (K : PySem.W.Frag) (H : Hp) (f : Int → PyData) (ys : List Int) (acc : List V) : Prop := DpAll K H acc (ys.map fun c => PyData.tuple [.int c, f c])
theorem pr_step {K : PySem.W.Frag} {H0 H1 : Hp} {D q : Addr} {f : Int → PyData} {ys : List Int} {acc : List V} {i : Nat} {c : Int} {v : V} (nl : ∀ c, NL (f c)) (nD : H0 D = none) (sm : Same H0 H1) (hacc : H1 D = some (.lst acc)) (hs : PrV K H1 f (ys.take i) acc) (hy : ys[i]? = some c) (hv : Dp K H1 v (f c)) (nq : H1 q = none) (hl : ys.length ≤ 1000) :
    ∃ acc', (upd H1 q (.tup [.int c, v])) D = some (.lst acc') ∧ acc'.length < sizeLine ∧ (∃ acc2, (upd (upd H1 q (.tup [.int c, v])) D (.lst (acc' ++ [.ref q]))) D = some (.lst acc2) ∧ PrV K (upd (upd H1 q (.tup [.int c, v])) D (.lst (acc' ++ [.ref q]))) f (ys.take (i + 1)) acc2 ∧ Same H0 (upd (upd H1 q (.tup [.int c, v])) D (.lst (acc' ++ [.ref q])))) := by
  have s1 := new_same (o := .tup [.int c, v]) nq
  have h1 := s1 _ _ hacc
  have tf := TF.lst1 (o := .lst (acc ++ [.ref q])) h1
  have al : acc.length ≤ ys.length := by
    rw [dpa_len hs, List.length_map, List.length_take]
    omega
  refine ⟨acc, h1, Nat.lt_of_le_of_lt (show acc.length ≤ 1000 by omega) (by decide), acc ++ [.ref q], upd_same, ?_, fun b o z => ?_⟩
  · unfold PrV
    rw [List.take_add_one, hy, List.map_append]
    refine dpa_ap (dpa_nl ((same_tf s1).trans tf) _ _ (nls_pr f nl _) hs) (.cons ?_ .nil)
    exact .tup (tf.sq (SqT.of upd_same)) (.cons (.int _) (.cons (dp_nl ((same_tf s1).trans tf) _ _ (nl c) hv) .nil))
  · rw [upd_ne (ne_of_none z nD)]
    exact s1 _ _ (sm _ _ z)
theorem Dst.nl {K : PySem.W.Frag} {H : Hp} {a la ch wt ld : Addr} {wv : List V} {wd : List PyData} {chg : Int → Option PyData} {p : Int → Prop} (h : Dst K H a la ch wt ld wv wd chg p) (c : Int) : NL ((chg c).getD .none) := by
  cases e : chg c with
  | none => exact trivial
  | some d =>
    obtain ⟨_, _, _, _, _, h4⟩ := h.df
    exact alok_nl _ _ (h4 c d e).1
def spDw (K : PySem.W.Frag) : Sp := fun vs H Q _ => ∃ (a la ch wt ld : Addr) (wv : List V) (wd : List PyData) (chg : Int → Option PyData) (p : Int → Prop), vs = [.ref a] ∧ Dst K H a la ch wt ld wv wd chg p ∧
  ∀ t ys H', Frm ld H H' → Dst K H' a la ch wt ld wv wd chg p → ys.Pairwise (· < ·) → (∀ c, c ∈ ys ↔ (chg c).isSome = true) → Dp K H' (.ref t) (wrD wd chg ys) → Q (.ref t) H'
theorem scDw : FnScope ["self", "cells", "cell"] ["self"] (defScope s_Draft_writes) := ⟨rfl, rfl, rfl, by decide +kernel, rfl, by decide +kernel, by decide +kernel⟩
theorem ok_Draft_writes (T : Txt K w mg) : FnOk P w K mg base CX0 4 (He.fAd K ("Draft", some "writes")) (fdAt K (He.fAd K ("Draft", some "writes"))) ["self"] (spDw K) := by
  refine T.F_Draft_writes.ok scDw (fun vs H Q E h => ?_) (fun cdv A outer s H vs Q E hr h => ?_)
  · obtain ⟨a, la, ch, wt, ld, wv, wd, chg, p, rfl, _⟩ := h
    rfl
  · obtain ⟨a, la, ch, wt, ld, wv, wd, chg, p, rfl, st, k⟩ := h
    have hu := Nat.lt_of_le_of_lt (Nat.add_le_add_left (by decide : 1 ≤ 64) _) hr.units
    refine ⟨_, PSs.nox (pss_cons (ps_setLc (i := 1) (own := [("cell", 2)]) (g := gName 2) (by rfl) scDw.nd rfl rfl (sw_true rfl rfl rfl (by decide +kernel)) (pi_list (pe_callB (call_sortedDI (by rfl)) (by rfl) T.n_sorted PyProof.Rows.Boot.«sorted» (pa_cons (pe_fld (pv 0) rfl) pa_nil))) (blkOk_by (own := [("cell", 2)]) (N := ["self", "cells", "cell"]) (sc := defScope s_Draft_writes) (by decide +kernel)) (fun _ _ _ _ _ => pg_name (i := 2) scDw.nd rfl (Or.inl rfl)) (fun _ _ _ _ _ => pts_one (pt_cmpR (show OpR _ _ (rNeD K) from op_neD hr.units) (pe_dget hu (show PE _ _ (tFld K (tVar 0) "_changed") from pe_fld (pv 0) rfl) (pv 2) (fun _ _ => rfl)) (pe_meth (show PE _ _ (tFld K (tVar 0) "_looks") from pe_fld (pv 0) rfl) T.k_Looks T.e_Looks_at (ok_Looks_at T) (hr.mono (by decide)) T.b_Looks_at .nil pass0 (pa_cons (pv 2) pa_nil)) (nomark _))) (fun _ _ _ _ _ => (pv 2)))
      (pss_one (ps_ret (pe_callTy call_tuple_of (by rfl) T.n_tuple PyProof.Rows.Boot.«tuple» (pa_cons (pe_lc (own := [("cell", 2)]) (g := gName 2) (tt := tYes) (by rfl) scDw.nd (pi_list (pv 1)) (blkOk_by (own := [("cell", 2)]) (N := ["self", "cells", "cell"]) (sc := defScope s_Draft_writes) (by decide +kernel)) (fun _ _ _ _ _ => pg_name (i := 2) scDw.nd rfl (Or.inl rfl)) (fun _ _ _ _ _ => pts_nil) (fun _ _ _ _ _ => (pe_tup (pa_cons (pv 2) (pa_cons (pe_dget hu (show PE _ _ (tFld K (tVar 0) "_changed") from pe_fld (pv 0) rfl) (pv 2) (fun _ _ => rfl)) pa_nil))))) pa_nil))))), ?_⟩
    obtain ⟨⟨dx, ha⟩, hch⟩ := id st.df
    obtain ⟨kvs, hk, ⟨kvs', ks, hk', hkk, hnd, hmem, hcel⟩, h3, h4⟩ := id hch
    have e : kvs' = kvs := by rw [hk'] at hk; injection hk with hk; injection hk
    subst e
    have k56 := cel_len hnd hcel
    refine ⟨_, rfl, a, _, dx, _, .ref ch, rfl, ha, T.k_Draft, T.a_Draft__changed, rfl, ch, kvs', ks, rfl, .inl hk, hkk, by omega, fun ys q hperm hsort nq => ?_⟩
    have s1 := new_same (o := .lst (ys.map V.int)) nq
    have hq : (upd H q (.lst (ys.map V.int))) q = some (.lst (ys.map V.int)) := upd_same
    have yn : ys.Nodup := hperm.nodup_iff.mpr hnd
    have yl : ys.length ≤ 1000 := by rw [hperm.length_eq]; omega
    have ym : ∀ c, c ∈ ys ↔ (chg c).isSome = true := fun c => (hperm.mem_iff).trans (hmem c)
    have st1 := st.same s1
    obtain ⟨H1, hH1⟩ : ∃ H1, H1 = upd H q (.lst (ys.map V.int)) := ⟨_, rfl⟩
    rw [← hH1] at s1 hq st1 ⊢
    have qld : q ≠ ld := fun e => by
      obtain ⟨_, _, z⟩ := st1.lk
      obtain ⟨_, z⟩ := z.dict
      rw [e, z] at hq
      cases hq
    refine ⟨q, rfl, ⟨_, SqL.of hq⟩, fun D hD => ?_⟩
    have Dld : D ≠ ld := fun e => by
      obtain ⟨_, _, z⟩ := st1.lk
      obtain ⟨_, z⟩ := z.dict
      rw [e, z] at hD
      cases hD
    refine lc_it (walk_list (K := K) (a := q) (xs := ys.map V.int)) (fun i H' => H' D = some (.lst (((ys.take i).filter (chN wd chg)).map V.int)) ∧ Frm ld H1 H' ∧ Dst K H' a la ch wt ld wv wd chg p) ⟨upd_same, Frm.of_same (new_same hD), st1.same (new_same hD)⟩ (fun i H' _ h => SqL.of (h.2.1 _ _ qld hq)) (fun i v H' Hx hi h yy => ?_) (fun H' h => ?_)
    · obtain ⟨rfl, hv⟩ := yy
      obtain ⟨hacc, f2, st2⟩ := h
      rw [List.length_map] at hi
      have hx := List.getElem?_eq_getElem hi
      obtain ⟨c, hc⟩ : ∃ c, c = ys[i] := ⟨_, rfl⟩
      rw [← hc] at hx
      rw [List.getElem?_map, hx] at hv
      cases hv
      have cin := (ym c).mp (List.mem_of_getElem? hx)
      obtain ⟨d, hd⟩ := Option.isSome_iff_exists.mp cin
      have cp := st2.in_ c cin
      obtain ⟨c0, c1⟩ := st2.lt c cp
      obtain ⟨n, rfl⟩ := Int.eq_ofNat_of_zero_le c0
      have hn : n < wv.length := by omega
      obtain ⟨u, hu1, hu2⟩ := dpa_gd st2.dp hn
      obtain ⟨⟨dx2, ha2⟩, kvs2, hk2, ks2, _, h42⟩ := id st2.df
      obtain ⟨da, v2, hv2, hdv2⟩ := h42 _ _ hd
      obtain ⟨dl2, hla2, _⟩ := id st2.lk
      have cc : Cel (n : Int) := by
        obtain ⟨_, kz, _, _, _, g4, g5⟩ := ks2
        exact g5 _ ((g4 _).mpr cin)
      refine ⟨rfl, ?_⟩
      refine ⟨_, rfl, a, _, dx2, _, .ref ch, rfl, ha2, T.k_Draft, T.a_Draft__changed, rfl, _, rfl, ch, v2, rfl, .inl ⟨kvs2, .inl (n : Int), .inl hk2, rfl, hv2.symm⟩, ?_⟩
      refine ⟨_, rfl, a, _, dx2, _, .ref la, rfl, ha2, T.k_Draft, T.a_Draft__looks, rfl, la, dl2, _, rfl, hla2, rfl, _, rfl, la, wt, ld, wv, p, n, u, rfl, st2.lk, st2.sq, hu1, cc, fun H5 f5 lk5 => ?_⟩
      have tf5 := st2.lk.tf f5
      have st5 := st2.look f5 (lk5.imp fun c => ⟨fun z => z.elim id fun e => by rw [e]; exact cp, .inl⟩) (fun _ z => z) st2.lt
      have al : AlOk 2 (wd.getD n .none) := by
        rw [List.getD_eq_getElem?_getD]
        cases e : wd[n]? with
        | none => exact trivial
        | some x => exact st2.al x (List.mem_of_getElem? e)
      have ec : chN wd chg (n : Int) = !PyData.eqv d (wd.getD n .none) := by
        unfold chN
        rw [hd, Int.toNat_natCast]
        rfl
      have h5 := f5 _ _ Dld hacc
      refine ⟨d, wd.getD n .none, dp_nl tf5 _ _ (alok_nl _ _ da) hdv2, dp_nl tf5 _ _ (alok_nl _ _ al) hu2, alok_sh da (by decide), alok_sh al (by decide), _, rfl, ite2 (fun z => ?_) (fun z => ?_)⟩
      · refine ⟨_, rfl, _, h5, ?_, ?_, fun b o nb z => ?_, st5.lst h5⟩
        · rw [List.length_map]
          exact Nat.lt_of_le_of_lt (Nat.le_trans (List.length_filter_le _ _) (by rw [List.length_take]; omega)) (show 1000 < sizeLine by decide)
        · rw [upd_same, List.take_add_one, hx, List.filter_append, List.map_append]
          have e1 : chN wd chg (n : Int) = true := ec.trans z
          simp [e1]
        · rw [upd_ne (ne_of_none z hD)]
          exact f5 _ _ nb (f2 _ _ nb z)
      · refine ⟨?_, f2.trans f5, st5⟩
        have e1 : chN wd chg (n : Int) = false := by
          rw [ec]
          cases q : (!PyData.eqv d (wd.getD n .none)) with
          | true => exact absurd q z
          | false => rfl
        rw [List.take_add_one, hx, List.filter_append, List.map_append]
        simp only [Option.toList_some, List.filter_cons, e1, Bool.false_eq_true, if_false, List.filter_nil, List.map_nil, List.append_nil]
        exact h5
    · obtain ⟨hacc, f2, st2⟩ := h
      rw [List.length_map, List.take_length] at hacc
      obtain ⟨zs, hzs⟩ : ∃ zs, zs = ys.filter (chN wd chg) := ⟨_, rfl⟩
      rw [← hzs] at hacc
      have zl : zs.length ≤ 1000 := by rw [hzs]; exact Nat.le_trans (List.length_filter_le _ _) yl
      have zy : ∀ c ∈ zs, c ∈ ys := fun c m => by rw [hzs] at m; exact (List.mem_filter.mp m).1
      refine ⟨_, rfl, D, rfl, ⟨_, SqL.of hacc⟩, fun D2 hD2 => ?_⟩
      refine lc_it (walk_list (K := K) (a := D) (xs := zs.map V.int)) (fun i H5 => ∃ acc, H5 D2 = some (.lst acc) ∧ PrV K H5 (fun c => (chg c).getD .none) (zs.take i) acc ∧ Same H' H5) ⟨[], upd_same, by rw [List.take_zero]; exact .nil, new_same hD2⟩ (fun i H' _ h => by obtain ⟨_, _, _, h⟩ := h; exact SqL.of (h _ _ hacc)) (fun i v H5 Hx hi h yy => ?_) (fun H5 h => ?_)
      · obtain ⟨rfl, hv⟩ := yy
        obtain ⟨acc, hacc2, hs, sm⟩ := h
        rw [List.length_map] at hi
        have hx := List.getElem?_eq_getElem hi
        obtain ⟨c, hc⟩ : ∃ c, c = zs[i] := ⟨_, rfl⟩
        rw [← hc] at hx
        rw [List.getElem?_map, hx] at hv
        cases hv
        refine ⟨rfl, ?_⟩
        dsimp only [tYes]
        rw [if_pos rfl]
        have cin := (ym c).mp (zy c (List.mem_of_getElem? hx))
        obtain ⟨d, hd⟩ := Option.isSome_iff_exists.mp cin
        obtain ⟨⟨dx2, ha2⟩, kvs2, hk2, ks2, _, h42⟩ := id (st2.same sm).df
        obtain ⟨da, v2, hv2, hdv2⟩ := h42 _ _ hd
        refine ⟨_, rfl, _, rfl, a, _, dx2, _, .ref ch, rfl, ha2, T.k_Draft, T.a_Draft__changed, rfl, _, rfl, ch, v2, rfl, .inl ⟨kvs2, .inl c, .inl hk2, rfl, hv2.symm⟩, (show 2 ≤ sizeLine by decide), fun q2 nq2 => ?_⟩
        exact pr_step (fun c => st2.nl c) hD2 sm hacc2 hs hx (by rw [hd]; exact hdv2) nq2 zl
      · obtain ⟨acc, hacc2, hs, sm⟩ := h
        rw [List.length_map, List.take_length] at hs
        refine ⟨D2, acc, rfl, .inl ⟨SqL.of hacc2, fun t nt => ?_⟩⟩
        have sZ := new_same (o := .tup acc) nt
        refine k t ys _ ((Frm.of_same s1).trans (f2.trans (Frm.of_same (sm.trans sZ)))) (st2.same (sm.trans sZ)) (lt_of hsort yn) ym ?_
        unfold wrD
        rw [← hzs]
        exact .tup (SqT.of upd_same) (dpa_nl (same_tf sZ) _ _ (nls_pr _ (fun c => st2.nl c) _) hs)
end
end K27
set_option maxRecDepth 100000
set_option maxHeartbeats 4000000
/-! Meeting, by a draft. -/
namespace K27
open PySem PySem.Spec PyProof.Rows L2 KF KD KP
/-- a draft of which nothing is changed yet -/
def DkAt (K : PySem.W.Frag) (H : Hp) (a wt ld la ch : Addr) (p : Int → Prop) : Prop := (∃ dx, H a = some (.ins (He.ga K "Draft") dx [("_looks", .ref la), ("_changed", .ref ch)])) ∧ H ch = some (.dK []) ∧ LkAt K H la wt ld p ∧ ld ≠ ch
theorem DkAt.imp {K : PySem.W.Frag} {H : Hp} {a wt ld la ch : Addr} {p q : Int → Prop} (h : DkAt K H a wt ld la ch p) (e : ∀ c, p c ↔ q c) : DkAt K H a wt ld la ch q := ⟨h.1, h.2.1, h.2.2.1.imp e, h.2.2.2⟩
theorem DkAt.same {K : PySem.W.Frag} {H H' : Hp} {a wt ld la ch : Addr} {p : Int → Prop} (h : DkAt K H a wt ld la ch p) (e : Same H H') : DkAt K H' a wt ld la ch p := by
  obtain ⟨⟨dx, h1⟩, h2, h3, h4⟩ := h
  exact ⟨⟨dx, e _ _ h1⟩, e _ _ h2, h3.same e, h4⟩
theorem DkAt.frm {K : PySem.W.Frag} {H H' : Hp} {a wt ld la ch x : Addr} {p : Int → Prop} (h : DkAt K H a wt ld la ch p) (e : Frm x H H') (n1 : a ≠ x) (n2 : la ≠ x) (n3 : ch ≠ x) (n4 : ld ≠ x) : DkAt K H' a wt ld la ch p := by
  obtain ⟨⟨dx, h1⟩, h2, h3, h4⟩ := h
  exact ⟨⟨dx, e _ _ n1 h1⟩, e _ _ n3 h2, h3.frm e n2 n4, h4⟩
theorem DkAt.tf {K : PySem.W.Frag} {H H' : Hp} {a wt ld la ch : Addr} {p : Int → Prop} (h : DkAt K H a wt ld la ch p) (f : Frm ld H H') : TF H H' := h.2.2.1.tf f
section
variable {P : Program} {w : World} {K : PySem.W.Frag} {mg : Str → Option Value} {base : Heap}
def spIAtD (K : PySem.W.Frag) : Sp := fun vs H Q _ => ∃ (a la ch wt ld : Addr) (wv : List V) (p : Int → Prop) (n : Nat) (v : V), vs = [.ref a, .int (n : Int)] ∧ DkAt K H a wt ld la ch p ∧ SqT K H wt wv ∧ wv[n]? = some v ∧ Cel (n : Int) ∧ ∀ H', Frm ld H H' → DkAt K H' a wt ld la ch (fun c => p c ∨ c = (n : Int)) → Q v H'
theorem scIAtd : FnScope ["self", "cell"] ["self", "cell"] (defScope s_Draft_at) := ⟨rfl, rfl, rfl, by decide +kernel, rfl, by decide +kernel, by decide +kernel⟩
theorem ok_Draft_atD (T : Txt K w mg) : FnOk P w K mg base CX0 4 (He.fAd K ("Draft", some "at")) (fdAt K (He.fAd K ("Draft", some "at"))) ["self", "cell"] (spIAtD K) := by
  refine T.F_Draft_at.ok scIAtd (fun vs H Q E h => ?_) (fun cdv A outer s H vs Q E hr h => ?_)
  · obtain ⟨a, la, ch, wt, ld, wv, p, n, v, rfl, _⟩ := h
    rfl
  · obtain ⟨a, la, ch, wt, ld, wv, p, n, v, rfl, st, sq, hv, hc, k⟩ := h
    have hu := Nat.lt_of_le_of_lt (Nat.add_le_add_left (by decide : 1 ≤ 64) _) hr.units
    refine ⟨_, PSs.nox (pss_cons (ps_if (pt_cmp (pc_din hu (pv 1) (pe_fld (pv 0) rfl))) (pss_one ps_never) pss_nil)
      (pss_one (ps_ret (pe_meth (pe_fld (pv 0) rfl) T.k_Looks T.e_Looks_at (ok_Looks_at T) (hr.mono (by first | decide | omega)) T.b_Looks_at .nil pass0 (pa_cons (pv 1) pa_nil))))), ?_⟩
    obtain ⟨⟨dx, ha⟩, hch, lk, ne⟩ := id st
    obtain ⟨dl, hla, ks⟩ := id lk
    obtain ⟨kl, hkl⟩ := ks.dict
    refine ⟨_, rfl, _, rfl, a, _, dx, _, .ref ch, rfl, ha, T.k_Draft, T.a_Draft__changed, rfl, ch, none, rfl, .inl ⟨[], .inl (n : Int), .inl hch, rfl, rfl⟩, _, rfl, iteF ?_⟩
    refine ⟨_, rfl, a, _, dx, _, .ref la, rfl, ha, T.k_Draft, T.a_Draft__looks, rfl, la, dl, _, rfl, hla, rfl, _, rfl, la, wt, ld, wv, p, n, v, rfl, lk, sq, hv, hc, fun H' f lk' => ?_⟩
    exact k H' f ⟨⟨dx, f _ _ (fun e => by rw [e, hkl] at ha; cases ha) ha⟩, f _ _ (Ne.symm ne) hch, lk', ne⟩
def spMtD (K : PySem.W.Frag) : Sp := fun vs H Q _ => ∃ (g u : V) (a la ch wt ld bu : Addr) (wv : List V) (G : Gm) (sl : List (Option Tg)) (b : Bx) (but : List Nat) (p : Int → Prop), vs = [g, .ref a, u, .ref bu] ∧ GmAt K H g G ∧ G.ok ∧ SlAll G sl ∧ DkAt K H a wt ld la ch p ∧ WtAt K H wt wv G sl ∧ BxAt K H u b ∧ b.lim ∧ SqT K H bu (nV but) ∧
  ∀ t H', Frm ld H H' → DkAt K H' a wt ld la ch (seenP G sl b but p) → SqT K H' t (nV (lookL G sl b but)) → Q (.ref t) H'
theorem ok_meetingD (T : Txt K w mg) : FnOk P w K mg base CX0 6 (He.fAd K ("meeting", none)) (fdAt K (He.fAd K ("meeting", none))) ["game", "looks", "box", "but"] (spMtD K) := by
  refine T.F_meeting.ok scMt (fun vs H Q E h => ?_) (fun cdv A outer s H vs Q E hr h => ?_)
  · obtain ⟨g, u, a, la, ch, wt, ld, bu, wv, G, sl, b, but, p, rfl, _⟩ := h
    rfl
  · obtain ⟨g, u, a, la, ch, wt, ld, bu, wv, G, sl, b, but, p, rfl, hg, o, sa, lk, hw, hb, lim, hbu, k⟩ := h
    have hu := Nat.lt_of_le_of_lt (Nat.add_le_add_left (by decide : 1 ≤ 64) _) hr.units
    refine ⟨_, PSs.nox (pss_cons (ps_set (i := 4) scMt.nd rfl (Or.inl rfl) pe_dnewK)
      (pss_cons (ps_for PassesOwn.never rfl (pi_tup (pe_call (ok_buckets_of T) (hr.mono (by first | decide | omega)) (by rfl) T.g_buckets_of (T.F_buckets_of).kp T.b_buckets_of .nil pass0 (pa_cons (pv 0) (pa_cons (pv 2) pa_nil)))) (pg_name (i := 5) scMt.nd rfl (Or.inl rfl)) (pss_one (ps_for PassesOwn.never rfl (pi_tup (pe_meth (pv 1) T.k_Draft T.e_Draft_at (ok_Draft_atD T) (hr.mono (by decide)) T.b_Draft_at .nil pass0 (pa_cons (pv 5) pa_nil))) (pg_name (i := 6) scMt.nd rfl (Or.inl rfl)) (pss_one (ps_if (pt_cmpR (r := rIn K true) op_notIn_seq (pv 6) (pv 3) rfl) (pss_one (ps_dput hu (pv 4) (pv 6) pe_bl rfl)) pss_nil)))))
      (pss_one (ps_ret (pe_callTy call_tuple_of (by rfl) T.n_tuple PyProof.Rows.Boot.«tuple» (pa_cons (pe_lc (own := [("slot", 6)]) (g := gName 6) (by rfl) scMt.nd (pi_list (pe_callB (call_sortedDI (by rfl)) (by rfl) T.n_sorted PyProof.Rows.Boot.«sorted» (pa_cons (pv 4) pa_nil))) (blkOk_by (own := [("slot", 6)]) (N := ["game", "looks", "box", "but", "near", "cell", "slot"]) (sc := defScope s_meeting) (by decide +kernel)) (fun _ _ _ _ _ => pg_name (i := 6) scMt.nd rfl (Or.inl rfl)) (fun _ _ _ _ _ => pts_one (pt_val (pe_call (ok_meet T) (hr.mono (by first | decide | omega)) (by rfl) T.g_meet (T.F_meet).kp T.b_meet .nil pass0 (pa_cons (pv 2) (pa_cons (pe_call (ok_body_box T) (hr.mono (by first | decide | omega)) (by rfl) T.g_body_box (T.F_body_box).kp T.b_body_box .nil pass0 (pa_cons (pv 0) (pa_cons (pe_meth (pv 1) T.k_Draft T.e_Draft_at (ok_Draft_atD T) (hr.mono (by decide)) T.b_Draft_at .nil pass0 (pa_cons (pv 6) pa_nil)) pa_nil))) pa_nil))))) (fun _ _ _ _ _ => (pv 6))) pa_nil)))))), ?_⟩
    obtain ⟨⟨dx, ha⟩, hch, ⟨dl, hla, ks⟩, ldch⟩ := id lk
    obtain ⟨kvs0, hk0⟩ := ks.dict
    refine fun nd nnd => ?_
    have s0 := new_same (o := .dK []) nnd
    have hndl : nd ≠ ld := (ne_of_none hk0 nnd).symm
    have hnda : nd ≠ a := (ne_of_none ha nnd).symm
    have hal : a ≠ ld := fun e => by rw [e, hk0] at ha; cases ha
    refine ⟨_, rfl, _, rfl, g, u, G, b, rfl, hg.tf (same_tf s0), o, hb.tf (same_tf s0), lim, fun t1 H1 s1 ht1 => ⟨t1, rfl, ⟨_, ht1⟩, ?_⟩⟩
    have S1 := s0.trans s1
    have lk1 := lk.same S1
    have nd1 : H1 nd = some (.dK []) := s1 _ _ upd_same
    have hw1 := hw.tf (same_tf S1)
    have hbu1 := (same_tf S1).sq hbu
    obtain ⟨cs, hcs⟩ : ∃ cs, cs = G.blk b := ⟨_, rfl⟩
    have csl : cs.length ≤ 40 := by rw [hcs]; exact blk_len o lim
    have csm : ∀ c ∈ cs, 49 ≤ c ∧ c < 49 + G.bh * G.bw := fun c hc => blk_mem o lim (by rw [← hcs]; exact hc)
    have b40 := bhw o
    rw [← hcs] at ht1
    have tfo : ∀ {H' : Hp}, F2 ld nd H1 H' → TF H1 H' := fun f => F2.tf f (S1 _ _ hk0) nd1
    refine L2.for_it (walk_tup (K := K) (a := t1) (xs := cs.map V.int)) (fun i σ H' => ∃ v5 v6 : Option V, σ = [some g, some (.ref a), some u, some (.ref bu), some (.ref nd), v5, v6] ∧ F2 ld nd H1 H' ∧ KSet H' nd (fun c => ∃ s : Nat, c = (s : Int) ∧ s < 16 ∧ s ∉ but ∧ near G sl (cs.take i) s = true) ∧ DkAt K H' a wt ld la ch (fun c => p c ∨ c ∈ cs.take i)) ⟨_, _, rfl, F2.refl _ _ _, (kset_nil nd1).imp fun c => ⟨fun z => z.elim, fun ⟨s, _, _, _, z⟩ => by rw [List.take_zero] at z; cases z⟩, lk1.imp fun c => by rw [List.take_zero]; simp⟩ (fun i σ H' _ h => by obtain ⟨_, _, _, f, _⟩ := h; exact (tfo f).sq ht1) (fun i x σ H2 Hx hi hPv hy => ?_) (fun σ H2 hPv => ?_)
    · obtain ⟨v5, v6, rfl, f2, kn2, lk2⟩ := hPv
      obtain ⟨rfl, hx⟩ := hy
      rw [List.length_map] at hi
      have hci := List.getElem?_eq_getElem hi
      obtain ⟨c, hc⟩ : ∃ c, c = cs[i] := ⟨_, rfl⟩
      rw [← hc] at hci
      rw [List.getElem?_map, hci] at hx
      cases hx
      obtain ⟨c1, c2⟩ := csm c (List.mem_of_getElem? hci)
      obtain ⟨n, rfl⟩ := Int.eq_ofNat_of_zero_le (show 0 ≤ c by omega)
      have hw2 := hw1.tf (tfo f2)
      have hl := hw2.len
      obtain ⟨pb, hpb, hpbs⟩ := hw2.bk n (by omega) (by omega)
      obtain ⟨⟨dx2, ha2⟩, _⟩ := id lk2
      refine ⟨_, rfl, a, dx2, _, rfl, ha2, rfl, _, rfl, a, la, ch, wt, ld, wv, _, n, _, rfl, lk2, hw2.sq, hpb, .inr (by omega), fun H3 f3 lk3 => ⟨pb, rfl, ⟨_, (lk2.tf f3).sq hpbs⟩, ?_⟩⟩
      have F3 := f2.trans (F2.l (y := nd) f3)
      have kn3 := kn2.frm f3 hndl
      have tb3 := (lk2.tf f3).sq hpbs
      have hbk16 : ∀ s ∈ bkt G sl (n : Int), s < 16 := fun s hs => (bkt_mem.mp hs).1
      refine L2.for_it (walk_tup (K := K) (a := pb) (xs := nV (bkt G sl (n : Int)))) (fun j σ H' => ∃ v6 : Option V, σ = [some g, some (.ref a), some u, some (.ref bu), some (.ref nd), some (.int (n : Int)), v6] ∧ Frm nd H3 H' ∧ KSet H' nd (fun c => (∃ s : Nat, c = (s : Int) ∧ s < 16 ∧ s ∉ but ∧ near G sl (cs.take i) s = true) ∨ ∃ s : Nat, c = (s : Int) ∧ s ∉ but ∧ s ∈ (bkt G sl (n : Int)).take j)) ⟨_, rfl, Frm.refl _ _, kn3.imp fun c => by rw [List.take_zero]; simp⟩ (fun j σ H' _ h => by obtain ⟨_, _, f, _⟩ := h; exact (Frm.tfk f kn3.dict.choose_spec).sq tb3) (fun j x σ Hx H4 hj hPv hy => ?_) (fun σ H4 hPv => ?_)
      · obtain ⟨v6, rfl, f4, kn4⟩ := hPv
        obtain ⟨rfl, hx⟩ := hy
        unfold nV at hj hx
        rw [List.length_map] at hj
        have hsj := List.getElem?_eq_getElem hj
        obtain ⟨s0', hs0⟩ : ∃ z, z = (bkt G sl (n : Int))[j] := ⟨_, rfl⟩
        rw [← hs0] at hsj
        rw [List.getElem?_map, hsj] at hx
        cases hx
        have hsm := List.mem_of_getElem? hsj
        have tk : ∀ s, s ∈ (bkt G sl (n : Int)).take (j + 1) ↔ s ∈ (bkt G sl (n : Int)).take j ∨ s = s0' := fun s => by
          rw [List.take_add_one, hsj, List.mem_append]
          simp
        have tf14 : TF H1 H4 := tfo (F3.trans (F2.r (x := ld) f4))
        refine ⟨_, rfl, _, rfl, bu, _, rfl, .inr (tf14.sq hbu1), rfl, flat_nat _, _, rfl, ite2 (fun z => ?_) (fun z => ?_)⟩
        · have hnb : s0' ∉ but := by
            have z : (!inV (.int (s0' : Int)) (nV but)) = true := z
            rw [inV_nat] at z
            simpa using z
          obtain ⟨kvs4, hk4⟩ := kn4.dict
          refine ⟨_, rfl, _, rfl, nd, _, rfl, DPut.k (k := .inl (s0' : Int)) hk4 (Nat.lt_of_le_of_lt (kn4.len hk4) (by decide)), ?_⟩
          refine ⟨_, rfl, f4.trans Frm.of_upd, (kset_put kn4 hk4 (.inl (by have := hbk16 _ hsm; omega))).imp fun c => ?_⟩
          constructor
          · rintro ((h | ⟨s, h1, h2, h3⟩) | h)
            · exact .inl h
            · exact .inr ⟨s, h1, h2, (tk s).mpr (.inl h3)⟩
            · exact .inr ⟨s0', h, hnb, (tk s0').mpr (.inr rfl)⟩
          · rintro (h | ⟨s, h1, h2, h3⟩)
            · exact .inl (.inl h)
            · rcases (tk s).mp h3 with h3 | h3
              · exact .inl (.inr ⟨s, h1, h2, h3⟩)
              · exact .inr (by rw [h1, h3])
        · have hb' : s0' ∈ but := by
            have z : ¬ (!inV (.int (s0' : Int)) (nV but)) = true := z
            rw [inV_nat] at z
            simpa using z
          refine ⟨_, rfl, f4, kn4.imp fun c => ?_⟩
          constructor
          · rintro (h | ⟨s, h1, h2, h3⟩)
            · exact .inl h
            · exact .inr ⟨s, h1, h2, (tk s).mpr (.inl h3)⟩
          · rintro (h | ⟨s, h1, h2, h3⟩)
            · exact .inl h
            · rcases (tk s).mp h3 with h3 | h3
              · exact .inr ⟨s, h1, h2, h3⟩
              · exact absurd hb' (by rw [← h3]; exact h2)
      · obtain ⟨v6, rfl, f4, kn4⟩ := hPv
        refine ⟨_, _, rfl, F3.trans (F2.r (x := ld) f4), kn4.imp fun c => ?_, (lk3.frm f4 (Ne.symm hnda) (ne_of_none hla nnd) (ne_of_none hch nnd) (Ne.symm hndl)).imp fun c => ?_⟩
        · unfold nV
          rw [List.length_map, List.take_length]
          constructor
          · rintro (⟨s, h1, h2, h3, h4⟩ | ⟨s, h1, h2, h3⟩)
            · exact ⟨s, h1, h2, h3, (near_take hci s).mpr (.inl h4)⟩
            · obtain ⟨g1, g2⟩ := bkt_mem.mp h3
              exact ⟨s, h1, g1, h2, (near_take hci s).mpr (.inr g2)⟩
          · rintro ⟨s, h1, h2, h3, h4⟩
            rcases (near_take hci s).mp h4 with h4 | h4
            · exact .inl ⟨s, h1, h2, h3, h4⟩
            · exact .inr ⟨s, h1, h3, bkt_mem.mpr ⟨h2, h4⟩⟩
        · rw [List.take_add_one, hci]
          simp only [List.mem_append, Option.toList_some, List.mem_singleton]
          exact or_assoc
    obtain ⟨v5, v6, rfl, f2, kn2, lk2⟩ := hPv
    rw [List.length_map, List.take_length] at kn2 lk2
    obtain ⟨kvs, kl, hk, hkk, hnd, hmem, hcel⟩ := kn2
    have k56 := cel_len hnd hcel
    obtain ⟨L, hL⟩ : ∃ L, L = (List.range 16).filter fun s => !but.contains s && near G sl cs s := ⟨_, rfl⟩
    have hLm : ∀ s, s ∈ L ↔ s < 16 ∧ s ∉ but ∧ near G sl cs s = true := fun s => by
      rw [hL, List.mem_filter, List.mem_range, Bool.and_eq_true]
      simp
    have hLl : L.length ≤ 16 := by
      rw [hL]
      exact Nat.le_trans (List.length_filter_le _ _) (by rw [List.length_range]; exact Nat.le_refl _)
    refine ⟨_, rfl, nd, kvs, kl, rfl, .inl hk, hkk, by omega, fun ys q hperm hsort nq => ?_⟩
    have ey : ys.map V.int = nV L := by
      have e : ys = L.map fun i : Nat => (i : Int) := by
        refine srt_uniq _ _ (lt_of hsort (hperm.nodup_iff.mpr hnd)) (by rw [hL]; exact range_lt 16 _) fun c => ?_
        rw [hperm.mem_iff, hmem, List.mem_map]
        constructor
        · rintro ⟨s, h1, h2, h3, h4⟩
          exact ⟨s, (hLm s).mpr ⟨h2, h3, h4⟩, h1.symm⟩
        · rintro ⟨s, h1, h2⟩
          obtain ⟨g1, g2, g3⟩ := (hLm s).mp h1
          exact ⟨s, h2.symm, g1, g2, g3⟩
      rw [e, List.map_map]
      rfl
    rw [ey]
    have sq := new_same (o := .lst (nV L)) nq
    have hq : (upd H2 q (.lst (nV L))) q = some (.lst (nV L)) := upd_same
    obtain ⟨H3, hH3⟩ : ∃ X, X = upd H2 q (.lst (nV L)) := ⟨_, rfl⟩
    rw [← hH3] at sq hq ⊢
    have lk3 := lk2.same sq
    obtain ⟨⟨dx3, ha3⟩, hch3, ⟨dl3, hla3, ks3⟩, _⟩ := id lk3
    obtain ⟨kvs3, hk3⟩ := ks3.dict
    have F3 : F2 ld nd H1 H3 := f2.trans (F2.l (Frm.of_same sq))
    have hql : q ≠ ld := fun e => by rw [e, hk3] at hq; cases hq
    refine ⟨q, rfl, ⟨_, SqL.of hq⟩, fun D hD => ?_⟩
    have hDl : D ≠ ld := (ne_of_none hk3 hD).symm
    have hDq : D ≠ q := (ne_of_none hq hD).symm
    have hDa : D ≠ a := (ne_of_none ha3 hD).symm
    have tf3 : TF H1 H3 := tfo F3
    refine lc_it (walk_list (K := K) (a := q) (xs := nV L)) (fun i H' => H' D = some (.lst (nV ((L.take i).filter (meetS G sl b)))) ∧ F2 ld D H3 H' ∧ DkAt K H' a wt ld la ch (fun c => (p c ∨ c ∈ cs) ∨ ∃ s : Nat, c = (s : Int) ∧ s ∈ L.take i)) ⟨upd_same, F2.r Frm.of_upd, ?_⟩ (fun i H' _ h => SqL.of (h.2.1 _ _ hql (Ne.symm hDq) hq)) (fun i v Hx H4 hi h yy => ?_) (fun H4 h => ?_)
    · refine (lk3.frm (x := D) Frm.of_upd (Ne.symm hDa) (ne_of_none hla3 hD) (ne_of_none hch3 hD) (Ne.symm hDl)).imp fun c => ?_
      rw [List.take_zero]
      simp
    · obtain ⟨hacc, f4, lk4⟩ := h
      obtain ⟨rfl, hv⟩ := yy
      unfold nV at hi hv
      rw [List.length_map] at hi
      have hx := List.getElem?_eq_getElem hi
      obtain ⟨s, hs⟩ : ∃ s, s = L[i] := ⟨_, rfl⟩
      rw [← hs] at hx
      rw [List.getElem?_map, hx] at hv
      cases hv
      obtain ⟨s16, snb, snr⟩ := (hLm s).mp (List.mem_of_getElem? hx)
      obtain ⟨t, hst⟩ := near_thing snr
      obtain ⟨kd, hkd, _⟩ := (sa.ok t (List.mem_of_getElem? hst)).kd
      have tf4 : TF H1 H4 := tf3.trans (F2.tfn f4 hk3 hD)
      have hw4 := hw1.tf tf4
      obtain ⟨v, hv1, hv2⟩ := hw4.st s _ hst
      obtain ⟨⟨dx4, ha4⟩, _⟩ := id lk4
      refine ⟨rfl, ?_⟩
      refine ⟨_, rfl, _, rfl, _, rfl, a, dx4, _, rfl, ha4, rfl, _, rfl, a, la, ch, wt, ld, wv, _, s, v, rfl, lk4, hw4.sq, hv1, .inl (by omega), fun H5 f5 lk5 => ?_⟩
      have tf5 := tf4.trans (lk4.tf f5)
      refine ⟨g, v, G, t, kd, rfl, hg.tf ((same_tf S1).trans tf5), SlAt.tf (o := some t) hv2 (lk4.tf f5), hkd, fun pb H6 s6 hpb => ?_⟩
      refine ⟨u, .ref pb, b, t.box kd, rfl, hb.tf (((same_tf S1).trans tf5).trans (same_tf s6)), ⟨pb, rfl, SqT.of hpb⟩, ?_⟩
      have hacc6 := s6 _ _ (f5 _ _ hDl hacc)
      have F6 : F2 ld D H3 H6 := (f4.trans (F2.l f5)).trans (F2.l (Frm.of_same s6))
      have lk6 := lk5.same s6
      have eP : ∀ c : Int, (((p c ∨ c ∈ cs) ∨ ∃ s' : Nat, c = (s' : Int) ∧ s' ∈ L.take i) ∨ c = (s : Int)) ↔ ((p c ∨ c ∈ cs) ∨ ∃ s' : Nat, c = (s' : Int) ∧ s' ∈ L.take (i + 1)) := fun c => by
        rw [List.take_add_one, hx]
        simp only [List.mem_append, Option.toList_some, List.mem_singleton]
        constructor
        · rintro ((h | ⟨s', h1, h2⟩) | h)
          · exact .inl h
          · exact .inr ⟨s', h1, .inl h2⟩
          · exact .inr ⟨s, h, .inr rfl⟩
        · rintro (h | ⟨s', h1, h2 | h2⟩)
          · exact .inl (.inl h)
          · exact .inl (.inr ⟨s', h1, h2⟩)
          · exact .inr (by rw [h1, h2])
      have em := meetS_at (G := G) (sl := sl) (b := b) hst hkd
      cases hm : meets b (t.box kd) with
      | true =>
        rw [hm] at em
        refine ⟨true, rfl, iteT ?_⟩
        refine ⟨_, rfl, _, hacc6, ?_, ?_, F6.trans (F2.r Frm.of_upd), (lk6.frm (x := D) Frm.of_upd (Ne.symm hDa) (ne_of_none hla3 hD) (ne_of_none hch3 hD) (Ne.symm hDl)).imp eP⟩
        · unfold nV
          rw [List.length_map]
          exact Nat.lt_of_le_of_lt (Nat.le_trans (List.length_filter_le _ _) (show (L.take i).length ≤ 16 by rw [List.length_take]; omega)) (by decide)
        · rw [upd_same, List.take_add_one, hx, List.filter_append]
          simp [em, nV]
      | false =>
        rw [hm] at em
        refine ⟨false, rfl, iteF ?_⟩
        refine ⟨?_, F6, lk6.imp eP⟩
        rw [hacc6, List.take_add_one, hx, List.filter_append]
        simp [em]
    · obtain ⟨hacc, f4, lk4⟩ := h
      unfold nV at hacc lk4
      rw [List.length_map, List.take_length] at hacc lk4
      have eL : L.filter (meetS G sl b) = lookL G sl b but := by
        rw [hL, List.filter_filter, lookL, ← hcs]
        refine List.filter_congr fun s _ => ?_
        cases but.contains s <;> cases near G sl cs s <;> cases meetS G sl b s <;> rfl
      rw [eL] at hacc
      refine ⟨D, _, rfl, .inl ⟨SqL.of hacc, fun tr ntr => ?_⟩⟩
      have st := new_same (o := .tup (nV (lookL G sl b but))) ntr
      have FF : Frm ld H4 (upd H4 tr (.tup (nV (lookL G sl b but)))) := Frm.of_same st
      refine k tr _ (fun c ob n z => ?_) ((lk4.same st).imp fun c => ?_) (SqT.of upd_same)
      · have z1 := S1 _ _ z
        have cn : c ≠ nd := fun e => by rw [e, nnd] at z; cases z
        have z3 := F3 c ob n cn z1
        exact FF c ob n (f4 c ob n (ne_of_none z3 hD) z3)
      · unfold seenP
        rw [← hcs, or_assoc]
        refine or_congr_right (or_congr_right ?_)
        constructor
        · rintro ⟨s, h1, h2⟩
          obtain ⟨g1, g2, g3⟩ := (hLm s).mp h2
          exact ⟨s, h1, g1, g2, g3⟩
        · rintro ⟨s, h1, h2, h3, h4⟩
          exact ⟨s, h1, (hLm s).mpr ⟨h2, h3, h4⟩⟩
end
end K27
set_option maxRecDepth 100000
set_option maxHeartbeats 4000000
/-! A deed of phase 3. -/
namespace K27
open PySem PySem.Spec PyProof.Rows L2 KF KD KP
/-- a box, larger on all sides -/
def Bx.gr (b : Bx) (n : Int) : Bx := ⟨b.x - n, b.y - n, b.w + 2 * n, b.h + 2 * n⟩
theorem gr_lim {G : Gm} {t : Tg} (o : G.ok) (h : TgOk G t) : ((G.bx t).gr 1).lim := by
  obtain ⟨kd, hk, hm⟩ := h.kd
  obtain ⟨a1, a2, a3, a4, _⟩ := o.kw kd hm
  have e : G.bx t = t.box kd := by rw [Gm.bx, hk]
  have := h.x1
  have := h.x2
  have := h.y1
  have := h.y2
  rw [e]
  refine ⟨?_, ?_, ?_, ?_, ?_, ?_, ?_, ?_⟩ <;> (dsimp only [Tg.box, Bx.gr]; omega)
/-- whom a thing meets -/
def metL (G : Gm) (sl : List (Option Tg)) (s : Nat) (t : Tg) : List Nat := lookL G sl ((G.bx t).gr 1) [s]
def metC (G : Gm) (sl : List (Option Tg)) (s : Nat) (c : Int) : Option PyData := match sl[s]? with
  | some (some t) => if c = 16 + (s : Int) then some (bkD (metL G sl s t)) else none
  | _ => none
def metP (G : Gm) (sl : List (Option Tg)) (s : Nat) (c : Int) : Prop := match sl[s]? with
  | some (some t) => c = 16 + (s : Int) ∨ seenS G sl ((G.bx t).gr 1) [s] c
  | _ => False
def metWd (G : Gm) (sl : List (Option Tg)) (wd : List PyData) (s : Nat) : List PyData := match sl[s]? with
  | some (some t) => wd.set (16 + s) (bkD (metL G sl s t))
  | _ => wd
theorem F2.s {x y : Addr} {H H' : Hp} (a : Same H H') : F2 x y H H' := fun b o _ _ z => a b o z
theorem Dst.imp {K : PySem.W.Frag} {H : Hp} {a la ch wt ld : Addr} {wv : List V} {wd : List PyData} {c1 c2 : Int → Option PyData} {p q : Int → Prop} (h : Dst K H a la ch wt ld wv wd c1 p) (e : ∀ c, c1 c = c2 c) (f : ∀ c, p c ↔ q c) : Dst K H a la ch wt ld wv wd c2 q := by
  have e := funext e
  subst e
  exact ⟨h.df, h.lk.imp f, h.sq, h.dp, h.al, fun c z => (f c).mp (h.in_ c z), fun c z => h.lt c ((f c).mpr z), h.ne⟩
theorem Dst.dk {K : PySem.W.Frag} {H : Hp} {a la ch wt ld : Addr} {wv : List V} {wd : List PyData} {p : Int → Prop} (h : Dst K H a la ch wt ld wv wd (fun _ => none) p) : DkAt K H a wt ld la ch p := by
  obtain ⟨h1, kvs, h2, ⟨kvs', ks, h3, h4, h5, h6, _⟩, _⟩ := h.df
  have e : kvs' = kvs := by rw [h3] at h2; injection h2 with h2; injection h2
  subst e
  have e0 : ks = [] := List.eq_nil_iff_forall_not_mem.mpr fun c m => by
    have := (h6 c).mp m
    cases this
  rw [e0] at h4
  have e1 : kvs' = [] := List.map_eq_nil_iff.mp h4
  rw [e1] at h2
  exact ⟨h1, h2, h.lk, h.ne⟩
theorem DkAt.ds {K : PySem.W.Frag} {H : Hp} {a la ch wt ld : Addr} {wv : List V} {wd : List PyData} {p : Int → Prop} (h : DkAt K H a wt ld la ch p) (sq : SqT K H wt wv) (dp : DpAll K H wv wd) (al : ∀ e ∈ wd, AlOk 2 e) (lt : ∀ c, p c → 0 ≤ c ∧ c < (wv.length : Int)) : Dst K H a la ch wt ld wv wd (fun _ => none) p := by
  obtain ⟨h1, h2, h3, h4⟩ := h
  exact ⟨⟨h1, [], h2, (kset_nil h2).imp fun c => ⟨fun z => z.elim, fun z => by cases z⟩, fun _ _ => rfl, fun c d z => (by cases z)⟩, h3, sq, dp, al, fun c z => (by cases z), lt, h4⟩
section
variable {P : Program} {w : World} {K : PySem.W.Frag} {mg : Str → Option Value} {base : Heap}
def spIGr (K : PySem.W.Frag) : Sp := fun vs H Q _ => ∃ (u : V) (b : Bx) (n : Int), vs = [u, .int n] ∧ BxAt K H u b ∧ 0 ≤ n ∧ n ≤ 100 ∧ b.lim ∧ ∀ p H', Same H H' → H' p = some (.tup (b.gr n).vs) → Q (.ref p) H'
theorem scIGr : FnScope ["box", "by", "x", "y", "wide", "high"] ["box", "by"] (defScope s_grown) := ⟨rfl, rfl, rfl, by decide +kernel, rfl, by decide +kernel, by decide +kernel⟩
theorem ok_grown (T : Txt K w mg) : FnOk P w K mg base CX0 1 (He.fAd K ("grown", none)) (fdAt K (He.fAd K ("grown", none))) ["box", "by"] (spIGr K) := by
  refine T.F_grown.ok scIGr (fun vs H Q E h => ?_) (fun cdv A outer s H vs Q E hr h => ?_)
  · obtain ⟨u, b, n, rfl, _⟩ := h
    rfl
  · obtain ⟨u, b, n, rfl, ⟨ua, rfl, su⟩, n0, n1, lim, k⟩ := h
    have hu := Nat.lt_of_le_of_lt (Nat.add_le_add_left (by decide : 1 ≤ 64) _) hr.units
    refine ⟨_, PSs.nox (pss_cons (ps_if (pt_cmpR op_lt (pv 1) pe_int (nomark _)) (pss_one ps_never) pss_nil)
      (pss_cons (ps_asg (pv 0) (pg_tup (by rfl) (pgs_cons (pg_name (i := 2) scIGr.nd rfl (Or.inl rfl)) (pgs_cons (pg_name (i := 3) scIGr.nd rfl (Or.inl rfl)) (pgs_cons (pg_name (i := 4) scIGr.nd rfl (Or.inl rfl)) (pgs_cons (pg_name (i := 5) scIGr.nd rfl (Or.inl rfl)) pgs_nil))))))
      (pss_one (ps_ret (pe_tup (pa_cons (pe_op op_sub (pv 2) (pv 1)) (pa_cons (pe_op op_sub (pv 3) (pv 1)) (pa_cons (pe_op op_add (pv 4) (pe_op op_mulW pe_int (pv 1))) (pa_cons (pe_op op_add (pv 5) (pe_op op_mulW pe_int (pv 1))) pa_nil))))))))), ?_⟩
    have cm : CMulW 2 n := wide_mul (a := 40) (b := 40) (small_ab (by omega) (by rw [pow40]; omega)) (small_ab (by omega) (by rw [pow40]; omega)) (by decide) (by decide) (by decide)
    refine ⟨_, rfl, _, _, rfl, rfl, _, rfl, ite2 (fun z => absurd (of_decide_eq_true z) (by omega)) (fun _ => ?_)⟩
    refine ⟨_, rfl, ua, _, rfl, su, rfl, _, _, rfl, _, _, rfl, _, _, rfl, _, _, rfl, rfl, ?_⟩
    exact ⟨_, rfl, _, rfl, _, _, rfl, rfl, _, rfl, _, rfl, _, _, rfl, rfl, _, rfl, _, rfl, _, _, rfl, rfl, cm, _, _, rfl, rfl, _, rfl, _, rfl, _, _, rfl, rfl, cm, _, _, rfl, rfl, (show 4 ≤ sizeLine by decide), fun p np => k p _ (new_same np) upd_same⟩
def spIWo (K : PySem.W.Frag) : Sp := fun vs H Q _ => ∃ (g pr : V) (dd la wt ld : Addr) (wv : List V) (wd : List PyData) (p : Int → Prop) (G : Gm) (sl : List (Option Tg)) (s : Nat), vs = [g, pr, .ref dd, .ref la] ∧ GmAt K H g G ∧ G.ok ∧ SlAll G sl ∧ s < 16 ∧ SqT K H dd [.int 3, .int (s : Int)] ∧ WtAt K H wt wv G sl ∧ LkAt K H la wt ld p ∧ DpAll K H wv wd ∧ (∀ e ∈ wd, AlOk 2 e) ∧ (∀ c, p c → 0 ≤ c ∧ c < (wv.length : Int)) ∧ ∀ (q : Addr) (ys : List Int) H', Frm ld H H' → LkAt K H' la wt ld (fun c => (p c ∨ c = (s : Int)) ∨ metP G sl s c) → ys.Pairwise (· < ·) → (∀ c, c ∈ ys ↔ (metC G sl s c).isSome = true) → Dp K H' (.ref q) (wrD wd (metC G sl s) ys) → Q (.ref q) H'
theorem scIWo : FnScope ["game", "presses", "deed", "looks", "draft", "phase", "slot", "thing", "house", "box"] ["game", "presses", "deed", "looks"] (defScope s_writes_of) := ⟨rfl, rfl, rfl, by decide +kernel, rfl, by decide +kernel, by decide +kernel⟩
theorem ok_writes_of (T : Txt K w mg) : FnOk P w K mg base CX0 7 (He.fAd K ("writes_of", none)) (fdAt K (He.fAd K ("writes_of", none))) ["game", "presses", "deed", "looks"] (spIWo K) := by
  obtain ⟨u1, g1, r1⟩ := T.c_SCRIPTS
  obtain ⟨u2, g2, r2⟩ := T.c_ACROSS
  obtain ⟨u3, g3, r3⟩ := T.c_DOWN
  obtain ⟨u4, g4, r4⟩ := T.c_MEETINGS
  obtain ⟨u5, g5, r5⟩ := T.c_MET
  refine T.F_writes_of.ok scIWo (fun vs H Q E h => ?_) (fun cdv A outer s H vs Q E hr h => ?_)
  · obtain ⟨g, pr, dd, la, wt, ld, wv, wd, p, G, sl, s, rfl, _⟩ := h
    rfl
  · obtain ⟨g, pr, dd, la, wt, ld, wv, wd, p, G, sl, s, rfl, hg, o, sa, s16, hdd, hw, lk, dw, al, plt, k⟩ := h
    have hu := Nat.lt_of_le_of_lt (Nat.add_le_add_left (by decide : 1 ≤ 64) _) hr.units
    refine ⟨_, PSs.nox (pss_cons (ps_set (i := 4) scIWo.nd rfl (Or.inl rfl) (pe_make T.m_Draft (ok_Draft_init T) (hr.mono (by decide)) (by rfl) T.g_Draft T.b_Draft_init .nil pass0 (pa_cons (pv 3) pa_nil)))
      (pss_cons (ps_asg (pv 2) (pg_tup (by rfl) (pgs_cons (pg_name (i := 5) scIWo.nd rfl (Or.inl rfl)) (pgs_cons (pg_name (i := 6) scIWo.nd rfl (Or.inl rfl)) pgs_nil))))
      (pss_cons (ps_set (i := 7) scIWo.nd rfl (Or.inl rfl) (pe_meth (pv 4) T.k_Draft T.e_Draft_at (ok_Draft_at T) (hr.mono (by first | decide | omega)) T.b_Draft_at .nil pass0 (pa_cons (pv 6) pa_nil)))
      (pss_cons (ps_if (pt_cmpR op_isN (pv 7) pe_non (nomark _)) (pss_one (ps_ret (pe_tup pa_nil))) pss_nil)
      (pss_cons (ps_if (pt_cmpR op_eq (pv 5) (pe_glob (v := .int 0) (by rfl) g1 r1) (nomark _)) (pss_cons ps_never
      (pss_one ps_never)) (pss_one (ps_if (pt_cmpR op_eq (pv 5) (pe_glob (v := .int 1) (by rfl) g2 r2) (nomark _)) (pss_one ps_never) (pss_one (ps_if (pt_cmpR op_eq (pv 5) (pe_glob (v := .int 2) (by rfl) g3 r3) (nomark _)) (pss_one ps_never) (pss_one (ps_if (pt_cmpR op_eq (pv 5) (pe_glob (v := .int 3) (by rfl) g4 r4) (nomark _)) (pss_cons (ps_set (i := 9) scIWo.nd rfl (Or.inl rfl) (pe_call (ok_grown T) (hr.mono (by first | decide | omega)) (by rfl) T.g_grown (T.F_grown).kp T.b_grown .nil pass0 (pa_cons (pe_call (ok_body_box T) (hr.mono (by first | decide | omega)) (by rfl) T.g_body_box (T.F_body_box).kp T.b_body_box .nil pass0 (pa_cons (pv 0) (pa_cons (pv 7) pa_nil))) (pa_cons pe_int pa_nil))))
      (pss_one (ps_expr (pe_meth (pv 4) T.k_Draft T.e_Draft_put (ok_Draft_put T) (hr.mono (by first | decide | omega)) T.b_Draft_put .nil pass0 (pa_cons (pe_op op_add (pe_glob (v := .int 16) (by rfl) g5 r5) (pv 6)) (pa_cons (pe_call (ok_meetingD T) (hr.mono (by first | decide | omega)) (by rfl) T.g_meeting (T.F_meeting).kp T.b_meeting .nil pass0 (pa_cons (pv 0) (pa_cons (pv 4) (pa_cons (pv 9) (pa_cons (pe_tup (pa_cons (pv 6) pa_nil)) pa_nil))))) pa_nil)))))) (pss_one ps_never))))))))
      (pss_one (ps_ret (pe_meth0 (pv 4) T.k_Draft T.e_Draft_writes (ok_Draft_writes T) (hr.mono (by decide)) T.b_Draft_writes .nil pass0)))))))), ?_⟩
    have hlen := hw.len
    have b24 := bhw o
    obtain ⟨so, hso⟩ : ∃ so, sl[s]? = some so := ⟨_, List.getElem?_eq_getElem (by rw [sa.len]; exact s16)⟩
    obtain ⟨v, hv, hvt⟩ := hw.st s _ hso
    obtain ⟨_, _, lks⟩ := id lk
    obtain ⟨lkv, hld⟩ := lks.dict
    refine ⟨_, rfl, fun a dx na ndx nda => ⟨a, dx, la, rfl, upd_same, fun H1 ch df f1 nch => ⟨rfl, ?_⟩⟩⟩
    have s1 := new_looks na ndx f1
    have nch0 : H ch = none := none_looks nch
    have ldch : ld ≠ ch := ne_of_none hld nch0
    have st1 : Dst K H1 a la ch wt ld wv wd (fun _ => none) p := ⟨df, lk.same s1, (same_tf s1).sq hw.sq, dpa_nl (same_tf s1) _ _ (al_nls al) dw, al, fun c z => (by cases z), plt, ldch⟩
    have out : ∀ {H' : Hp}, F2 ld ch H1 H' → Frm ld H H' := fun {H'} f b o n z => f b o n (ne_of_none z nch0) (s1 _ _ z)
    refine ⟨_, rfl, dd, _, rfl, (same_tf s1).sq hdd, rfl, _, _, rfl, _, _, rfl, rfl, ?_⟩
    obtain ⟨dx1, ha1⟩ := st1.df.1
    refine ⟨_, rfl, a, dx1, _, rfl, ha1, rfl, _, rfl, a, la, ch, wt, ld, wv, wd, _, p, s, v, rfl, st1, rfl, hv, .inl ⟨by omega, by omega⟩, fun H2 f2 st2 => ?_⟩
    have F2' : F2 ld ch H1 H2 := F2.l f2
    have T2 := (same_tf s1).trans (st1.tf F2')
    cases so with
    | none =>
      obtain rfl : v = .non := hvt
      have ec : ∀ c, metC G sl s c = none := fun c => by unfold metC; rw [hso]
      have ep : ∀ c, ¬ metP G sl s c := fun c => by unfold metP; rw [hso]; exact id
      refine ⟨_, rfl, rfl, _, rfl, iteT ⟨(show 0 ≤ sizeLine by decide), fun q nq => ?_⟩⟩
      have sq := new_same (o := .tup []) nq
      refine k q [] _ (out (F2'.trans (F2.s sq))) ((st2.same sq).lk.imp fun c => ⟨.inl, fun z => z.elim id fun z => absurd z (ep c)⟩) .nil (fun c => ?_) (.tup (SqT.of upd_same) .nil)
      rw [ec]
      simp
    | some t =>
      obtain ⟨ta, ow, rfl, hta⟩ : TgAt K H v t := hvt
      have tk := sa.ok t (List.mem_of_getElem? hso)
      obtain ⟨kd, hkd, _⟩ := tk.kd
      have ebx : G.bx t = t.box kd := by unfold Gm.bx; rw [hkd]
      refine ⟨_, rfl, rfl, _, rfl, iteF ?_⟩
      refine seq_cut (fun σ' H' => σ' = [some g, some pr, some (.ref dd), some (.ref la), some (.ref a), some (.int 3), some (.int (s : Int)), some (.ref ta), none, none] ∧ H2 = H') (fun σ' H' hP => ?_) (fun R hR => hR _ _ ⟨rfl, rfl⟩)
      obtain ⟨rfl, rfl⟩ := hP
      refine seq_cut (fun σ' H' => (∃ v8 v9 : Option V, σ' = [some g, some pr, some (.ref dd), some (.ref la), some (.ref a), some (.int 3), some (.int (s : Int)), some (.ref ta), v8, v9]) ∧ F2 ld ch H1 H' ∧ Dst K H' a la ch wt ld wv wd (metC G sl s) (fun c => (p c ∨ c = (s : Int)) ∨ metP G sl s c)) (fun σ' H3 hP => ?_) (fun R hR => ?_)
      · obtain ⟨⟨v8, v9, rfl⟩, f3, st3⟩ := hP
        obtain ⟨dx3, ha3⟩ := st3.df.1
        refine ⟨_, rfl, a, dx3, _, rfl, ha3, rfl, a, la, ch, wt, ld, wv, wd, _, _, rfl, st3, fun q ys H6 f6 st6 hy hm hd => ?_⟩
        exact k q ys H6 (out (f3.trans (F2.l f6))) st6.lk hy hm hd
      · have ht : ∀ {H' : Hp}, TF H H' → TgAt K H' (.ref ta) t := fun e => ⟨ta, ow, rfl, e.sq hta⟩
        have glim := gr_lim o tk
        have lim := (tk.lim o).1
        refine ⟨_, rfl, rfl, _, rfl, iteF ?_⟩
        refine ⟨_, rfl, rfl, _, rfl, iteF ?_⟩
        refine ⟨_, rfl, rfl, _, rfl, iteF ?_⟩
        refine ⟨_, rfl, rfl, _, rfl, iteT ?_⟩
        refine ⟨_, rfl, _, rfl, g, .ref ta, G, t, kd, rfl, hg.tf T2, ht T2, hkd, fun pb H3 s3 hpb => ⟨.ref pb, G.bx t, 1, rfl, ⟨pb, rfl, by rw [ebx]; exact SqT.of hpb⟩, by decide, by decide, lim, fun pg H4 s4 hpg => ?_⟩⟩
        have S4 := s3.trans s4
        have st4 := st2.same S4
        obtain ⟨dx4, ha4⟩ := st4.df.1
        refine ⟨_, rfl, a, dx4, _, rfl, ha4, rfl, _, rfl, _, _, rfl, rfl, _, rfl, _, rfl, _, rfl, _, rfl, (show 1 ≤ sizeLine by decide), fun pt npt => ?_⟩
        have s5 := new_same (o := .tup [V.int (s : Int)]) npt
        have st5 := st4.same s5
        have T5 := T2.trans (same_tf (S4.trans s5))
        have hw5 := hw.tf T5
        refine ⟨g, .ref pg, a, la, ch, wt, ld, pt, wv, G, sl, (G.bx t).gr 1, [s], _, rfl, hg.tf T5, o, sa, st5.dk, hw5, ⟨pg, rfl, (same_tf s5).sq (SqT.of hpg)⟩, glim, SqT.of upd_same, fun tm H6 f6 dk6 htm => ?_⟩
        have hw6 := hw5.tf (st5.lk.tf f6)
        have gb : ∀ c, seenS G sl ((G.bx t).gr 1) [s] c → 0 ≤ c ∧ c < (wv.length : Int) := fun c z => seen_lt o glim hlen z
        have eqS : ∀ c, seenP G sl ((G.bx t).gr 1) [s] (fun c => p c ∨ c = (s : Int)) c ↔ (p c ∨ c = (s : Int)) ∨ seenS G sl ((G.bx t).gr 1) [s] c := fun c => Iff.rfl
        have st6 : Dst K H6 a la ch wt ld wv wd (fun _ => none) (fun c => (p c ∨ c = (s : Int)) ∨ seenS G sl ((G.bx t).gr 1) [s] c) := (dk6.imp eqS).ds hw6.sq (dpa_nl (st5.lk.tf f6) _ _ (al_nls al) st5.dp) al fun c z => z.elim (st5.lt c) (gb c)
        refine ⟨a, la, ch, wt, ld, wv, wd, _, _, 16 + s, .ref tm, bkD (metL G sl s t), rfl, st6, by omega, .inl ⟨by omega, by omega⟩, bkD_dp htm, bkD_al _ (look_len _ _ _ _), fun H7 f7 st7 => ?_⟩
        refine hR _ _ ⟨⟨_, _, rfl⟩, ((F2'.trans (F2.s (S4.trans s5))).trans (F2.l f6)).trans f7, st7.imp (fun c => ?_) (fun c => ?_)⟩
        · unfold chP metC
          rw [hso]
          dsimp only
          rw [show ((16 + s : Nat) : Int) = 16 + (s : Int) by omega]
        · unfold metP
          rw [hso]
          dsimp only
          rw [show ((16 + s : Nat) : Int) = 16 + (s : Int) by omega]
          exact ⟨fun z => z.elim (fun z => z.elim .inl fun z => .inr (.inr z)) fun z => .inr (.inl z), fun z => z.elim (fun z => .inl (.inl z)) fun z => z.elim .inr fun z => .inl (.inr z)⟩
end
end K27
set_option maxRecDepth 100000
set_option maxHeartbeats 4000000
/-! What is moved. -/
namespace K27
open PySem PySem.Spec PyProof.Rows L2 KF KD KP
/-! ### what goes with what is not barred -/
theorem lotG_free {G : Gm} {sl : List (Option Tg)} {dx dy : Int} : ∀ (n i : Nat) (going g : List Nat) (p : Int → Prop), 16 ≤ n + i → GoOk sl going p → (∀ s ∈ going.take i, G.stp (bxS G sl s) dx dy = false) → lotG G sl dx dy n going i = some g → (∃ q, GoOk sl g q) ∧ ∀ s ∈ g, G.stp (bxS G sl s) dx dy = false
  | 0, i, going, g, p, h, ok, hf, e => by
    unfold lotG at e
    injection e with e
    subst e
    rw [List.take_of_length_le (by have := ok.len; omega)] at hf
    exact ⟨⟨p, ok⟩, hf⟩
  | n + 1, i, going, g, p, h, ok, hf, e => by
    unfold lotG at e
    cases hs : going[i]? with
    | none =>
      rw [hs] at e
      injection e with e
      subst e
      rw [List.take_of_length_le (List.getElem?_eq_none_iff.mp hs)] at hf
      exact ⟨⟨p, ok⟩, hf⟩
    | some s =>
      rw [hs] at e
      dsimp only at e
      cases hj : joinF G sl dx dy going s with
      | none =>
        rw [hj] at e
        cases e
      | some j =>
        rw [hj] at e
        have fr : G.stp (bxS G sl s) dx dy = false := by
          unfold joinF at hj
          split at hj
          · cases hj
          · rename_i z
            cases q : G.stp (bxS G sl s) dx dy with
            | true => exact absurd q z
            | false => rfl
        refine lotG_free n (i + 1) (going ++ j) g _ (by omega) (ok.step hj) (fun x m => ?_) e
        have hi := (List.getElem?_eq_some_iff.mp hs).1
        rw [List.take_append_of_le_length (by omega), List.take_add_one, hs] at m
        rcases List.mem_append.mp m with m | m
        · exact hf x m
        · have m : x = s := by simpa using m
          rw [m]
          exact fr
/-- each thing of a lot has room where it goes -/
theorem lotR_free {G : Gm} {sl : List (Option Tg)} {dx dy : Int} {s : Nat} {t : Tg} (s16 : s < 16) (hs : sl[s]? = some (some t)) : ∀ x ∈ lotR G sl dx dy s, x < 16 ∧ ∃ u, sl[x]? = some (some u) ∧ G.fr ((G.bx u).mv dx dy) = true := by
  intro x hx
  unfold lotR at hx
  cases hg : lotG G sl dx dy 16 [s] 0 with
  | none =>
    rw [hg] at hx
    exact (List.not_mem_nil hx).elim
  | some g =>
    rw [hg] at hx
    unfold lotV at hx
    obtain ⟨_, hx2⟩ := List.mem_filter.mp hx
    have hxg : x ∈ g := by simpa using hx2
    obtain ⟨⟨q, ok⟩, hf⟩ := lotG_free 16 0 [s] g (fun c => c = (s : Int)) (by omega) ⟨by simp, fun y m => by
      have m : y = s := by simpa using m
      rw [m]
      exact ⟨s16, t, hs⟩, fun y m => by
      have m : y = s := by simpa using m
      rw [m]⟩ (fun y m => by rw [List.take_zero] at m; cases m) hg
    obtain ⟨x16, u, hu⟩ := ok.th x hxg
    refine ⟨x16, u, hu, ?_⟩
    have h := hf x hxg
    unfold Gm.stp at h
    rw [Bool.or_eq_false_iff] at h
    have e : bxS G sl x = G.bx u := by unfold bxS; rw [hu]
    rw [e] at h
    cases q : G.fr ((G.bx u).mv dx dy) with
    | true => rfl
    | false =>
      rw [q] at h
      exact absurd h.1 (by decide)
theorem lotR_nd (G : Gm) (sl : List (Option Tg)) (dx dy : Int) (s : Nat) : (lotR G sl dx dy s).Nodup := by
  unfold lotR lotV
  split
  · exact List.nodup_nil
  · exact List.Pairwise.filter _ List.nodup_range
theorem lotR_len (G : Gm) (sl : List (Option Tg)) (dx dy : Int) (s : Nat) : (lotR G sl dx dy s).length ≤ 16 := by
  unfold lotR lotV
  split
  · exact Nat.zero_le _
  · exact Nat.le_trans (List.length_filter_le _ _) (by rw [List.length_range]; exact Nat.le_refl _)
/-- a thing moved -/
def Tg.mv (t : Tg) (dx dy : Int) : Tg := { t with x := t.x + dx, y := t.y + dy }
theorem bx_mv {G : Gm} {t : Tg} (dx dy : Int) (h : t.k < G.kds.length) : G.bx (t.mv dx dy) = (G.bx t).mv dx dy := by
  obtain ⟨kd, hkd⟩ : ∃ kd, G.kds[t.k]? = some kd := ⟨_, List.getElem?_eq_getElem h⟩
  unfold Gm.bx Tg.mv
  dsimp only
  rw [hkd]
  rfl
def shP (old new : List Int) (p : Int → Prop) (i : Nat) (c : Int) : Prop := p c ∨ (c ∈ (old ++ new).take i ∧ (c ∉ old ∨ c ∉ new))
section
variable {P : Program} {w : World} {K : PySem.W.Frag} {mg : Str → Option Value} {base : Heap}
def spIKe (K : PySem.W.Frag) : Sp := fun vs H Q _ => ∃ n lo hi : Int, vs = [.int n, .int lo, .int hi] ∧ lo ≤ hi ∧ ∀ r, lo ≤ r → r ≤ hi → Q (.int r) H
theorem scIKe : FnScope ["number", "low", "high"] ["number", "low", "high"] (defScope s_law_keep) := ⟨rfl, rfl, rfl, by decide +kernel, rfl, by decide +kernel, by decide +kernel⟩
theorem ok_law_keep (T : Txt K w mg) : FnOk P w K mg base CX0 1 (He.fAd K ("_law_keep", none)) (fdAt K (He.fAd K ("_law_keep", none))) ["number", "low", "high"] (spIKe K) := by
  refine T.F_law_keep.ok scIKe (fun vs H Q E h => ?_) (fun cdv A outer s H vs Q E hr h => ?_)
  · obtain ⟨n, lo, hi, rfl, _⟩ := h
    rfl
  · obtain ⟨n, lo, hi, rfl, lh, k⟩ := h
    have hu := Nat.lt_of_le_of_lt (Nat.add_le_add_left (by decide : 1 ≤ 64) _) hr.units
    refine ⟨_, PSs.nox (pss_one (ps_ret (pe_callB (call_min2 rfl) (by rfl) T.n_min PyProof.Rows.Boot.«min» (pa_cons (pe_callB (call_max2 rfl) (by rfl) T.n_max PyProof.Rows.Boot.«max» (pa_cons (pv 0) (pa_cons (pv 1) pa_nil))) (pa_cons (pv 2) pa_nil))))), ?_⟩
    refine ⟨_, rfl, _, rfl, _, _, rfl, _, rfl, _, _, rfl, k _ ?_ ?_⟩
    · split <;> split at * <;> omega
    · split <;> split at * <;> omega
def spISh (K : PySem.W.Frag) : Sp := fun vs H Q _ => ∃ (g : V) (wa sd : Addr) (G : Gm) (sl : List (Option Tg)) (s : Nat) (t : Tg) (dx dy : Int) (p : Int → Prop), vs = [g, .ref wa, .ref sd, .int (s : Int), .int dx, .int dy] ∧ GmAt K H g G ∧ G.ok ∧ SlAll G sl ∧ s < 16 ∧ sl[s]? = some (some t) ∧ WsD K H wa sl ∧ KSet H sd p ∧ TgOk G (t.mv dx dy) ∧ ∀ H', F2 wa sd H H' → WsD K H' wa (sl.set s (some (t.mv dx dy))) → KSet H' sd (shP (G.blk (G.bx t)) (G.blk (G.bx (t.mv dx dy))) p 1000) → Q .non H'
theorem scISh : FnScope ["game", "w", "seen", "slot", "dx", "dy", "thing", "old", "new", "cell"] ["game", "w", "seen", "slot", "dx", "dy"] (defScope s_law_shift) := ⟨rfl, rfl, rfl, by decide +kernel, rfl, by decide +kernel, by decide +kernel⟩
theorem ok_law_shift (T : Txt K w mg) : FnOk P w K mg base CX0 3 (He.fAd K ("_law_shift", none)) (fdAt K (He.fAd K ("_law_shift", none))) ["game", "w", "seen", "slot", "dx", "dy"] (spISh K) := by
  refine T.F_law_shift.ok scISh (fun vs H Q E h => ?_) (fun cdv A outer s H vs Q E hr h => ?_)
  · obtain ⟨g, wa, sd, G, sl, s, t, dx, dy, p, rfl, _⟩ := h
    rfl
  · obtain ⟨g, wa, sd, G, sl, s, t, dx, dy, p, rfl, hg, o, sa, s16, hst, hw, ks, tk2, k⟩ := h
    have hu := Nat.lt_of_le_of_lt (Nat.add_le_add_left (by decide : 1 ≤ 64) _) hr.units
    refine ⟨_, PSs.nox (pss_cons (ps_set (i := 6) scISh.nd rfl (Or.inl rfl) (pe_ix (r := rIxL K) ix_list (pv 1) (pv 3) (fun _ _ => rfl)))
      (pss_cons (ps_set (i := 7) scISh.nd rfl (Or.inl rfl) (pe_call (ok_law_blocks T) (hr.mono (by first | decide | omega)) (by rfl) T.g_law_blocks (T.F_law_blocks).kp T.b_law_blocks .nil pass0 (pa_cons (pv 0) (pa_cons (pe_call (ok_law_box T) (hr.mono (by first | decide | omega)) (by rfl) T.g_law_box (T.F_law_box).kp T.b_law_box .nil pass0 (pa_cons (pv 0) (pa_cons (pv 6) pa_nil))) pa_nil))))
      (pss_cons (ps_asg (pe_op (show OpR _ _ (rCatA K) from op_catA) (pe_op (show OpR _ _ (rCatA K) from op_catA) (pe_slice (show SlR _ (rSlA K) from sl_tupA) (pv 6) po_none (po_some pe_int)) (pe_tup (pa_cons (pe_op op_add (pe_ix (r := rIxT K) ix_tup (pv 6) pe_int (fun _ _ => rfl)) (pv 4)) (pa_cons (pe_op op_add (pe_ix (r := rIxT K) ix_tup (pv 6) pe_int (fun _ _ => rfl)) (pv 5)) pa_nil)))) (pe_slice (show SlR _ (rSlA K) from sl_tupA) (pv 6) (po_some pe_int) po_none)) (pg_sub (pv 1) (pv 3) set_list))
      (pss_cons (ps_set (i := 8) scISh.nd rfl (Or.inl rfl) (pe_call (ok_law_blocks T) (hr.mono (by first | decide | omega)) (by rfl) T.g_law_blocks (T.F_law_blocks).kp T.b_law_blocks .nil pass0 (pa_cons (pv 0) (pa_cons (pe_call (ok_law_box T) (hr.mono (by first | decide | omega)) (by rfl) T.g_law_box (T.F_law_box).kp T.b_law_box .nil pass0 (pa_cons (pv 0) (pa_cons (pe_ix (r := rIxL K) ix_list (pv 1) (pv 3) (fun _ _ => rfl)) pa_nil))) pa_nil))))
      (pss_one (ps_for PassesOwn.never rfl (pi_list (pe_op op_cat (pv 7) (pv 8))) (pg_name (i := 9) scISh.nd rfl (Or.inl rfl)) (pss_one (ps_if (PW.pt (pw_or (pt_cmpR (r := rIn K true) op_notIn_seq (pv 9) (pv 7) rfl) (pw_or1 (pt_cmpR (r := rIn K true) op_notIn_seq (pv 9) (pv 8) rfl)))) (pss_one (ps_dput hu (pv 2) (pv 9) pe_bl rfl)) pss_nil)))))))), ?_⟩
    obtain ⟨wv, hwv, wl, hws, hdl⟩ := id hw
    obtain ⟨v, hv, hvx⟩ := hws s _ hst
    obtain ⟨ta, oa, rfl, hta, hoa, ol⟩ : TgX K H v t := hvx
    have tk := sa.ok t (List.mem_of_getElem? hst)
    obtain ⟨kd, hkd, _⟩ := tk.kd
    have ebx : G.bx t = t.box kd := by unfold Gm.bx; rw [hkd]
    have ebx2 : G.bx (t.mv dx dy) = (t.mv dx dy).box kd := by unfold Gm.bx; rw [show (t.mv dx dy).k = t.k from rfl, hkd]
    have lim := (tk.lim o).1
    have lim2 := (tk2.lim o).1
    obtain ⟨kvs0, hk0⟩ := ks.dict
    have wsd : wa ≠ sd := fun e => by rw [e, hk0] at hwv; cases hwv
    refine ⟨_, rfl, _, rfl, wa, _, _, _, rfl, rfl, SqL.of hwv, atI_nat hv, ?_⟩
    refine ⟨_, rfl, _, rfl, _, rfl, g, .ref ta, G, t, kd, rfl, hg, ⟨ta, _, rfl, hta⟩, hkd, fun pb H1 s1 hpb => ⟨g, .ref pb, G, G.bx t, rfl, hg.tf (same_tf s1), o, ⟨pb, rfl, by rw [ebx]; exact SqT.of hpb⟩, lim, fun po H2 s2 hpo npo => ?_⟩⟩
    have S2 := s1.trans s2
    have npoH : H po = none := by
      cases e : H po with
      | none => rfl
      | some z => rw [s1 _ _ e] at npo; cases npo
    refine ⟨_, rfl, _, rfl, slA_gen ((same_tf S2).sq hta) fun q H3 s3 hq => ?_⟩
    have hq : SqT K H3 q [V.int (t.k : Int), V.int t.hs] := hq
    have S3 := S2.trans s3
    have hta3 := (same_tf S3).sq hta
    refine ⟨_, rfl, ta, _, _, _, rfl, rfl, hta3, atI_nat (j := 2) rfl, _, rfl, _, _, rfl, rfl, _, rfl, ta, _, _, _, rfl, rfl, hta3, atI_nat (j := 3) rfl, _, rfl, _, _, rfl, rfl, (show 2 ≤ sizeLine by decide), fun pt npt => ?_⟩
    have s4 := new_same (o := .tup [V.int (t.x + dx), .int (t.y + dy)]) npt
    refine ⟨q, pt, _, _, rfl, rfl, (same_tf s4).sq hq, SqT.of upd_same, (show 4 ≤ sizeLine by decide), (fun e => nomatch e), (fun _ e => nomatch e), fun _ _ p5 np5 => ?_⟩
    have s5 := new_same (o := .tup [V.int (t.k : Int), V.int t.hs, V.int (t.x + dx), .int (t.y + dy)]) np5
    have hp5 : SqT K (upd (upd H3 pt (.tup [V.int (t.x + dx), .int (t.y + dy)])) p5 (.tup [V.int (t.k : Int), V.int t.hs, V.int (t.x + dx), .int (t.y + dy)])) p5 [V.int (t.k : Int), V.int t.hs, V.int (t.x + dx), .int (t.y + dy)] := SqT.of upd_same
    have S5 := (S3.trans s4).trans s5
    refine ⟨_, rfl, _, rfl, ?_⟩
    dsimp only [tNoPart]
    refine slA_gen ((same_tf S5).sq hta) fun q2 H6 s6 hq2 => ?_
    have hq2 : SqT K H6 q2 [V.int t.dx, V.int t.dy, V.int t.rest, .ref oa] := hq2
    refine ⟨p5, q2, _, _, rfl, rfl, (same_tf s6).sq hp5, hq2, (show 8 ≤ sizeLine by decide), (fun e => nomatch e), (fun _ e => nomatch e), fun _ _ pn npn => ?_⟩
    have s7 := new_same (o := .tup [V.int (t.k : Int), V.int t.hs, V.int (t.x + dx), .int (t.y + dy), V.int t.dx, V.int t.dy, V.int t.rest, .ref oa]) npn
    have S7 := (S5.trans s6).trans s7
    have hpn : SqT K (upd H6 pn (.tup [V.int (t.k : Int), V.int t.hs, V.int (t.x + dx), .int (t.y + dy), V.int t.dx, V.int t.dy, V.int t.rest, .ref oa])) pn [V.int (t.k : Int), V.int t.hs, V.int (t.x + dx), .int (t.y + dy), V.int t.dx, V.int t.dy, V.int t.rest, .ref oa] := SqT.of upd_same
    have hpo7 := ((((s3.trans s4).trans s5).trans s6).trans s7) _ _ hpo
    obtain ⟨H7, hH7⟩ : ∃ H7, H7 = upd H6 pn (.tup [V.int (t.k : Int), V.int t.hs, V.int (t.x + dx), .int (t.y + dy), V.int t.dx, V.int t.dy, V.int t.rest, .ref oa]) := ⟨_, rfl⟩
    show gSub _ _ _ _ _ (upd H6 pn (.tup [V.int (t.k : Int), V.int t.hs, V.int (t.x + dx), .int (t.y + dy), V.int t.dx, V.int t.dy, V.int t.rest, .ref oa])) _
    rw [← hH7] at S7 hpn hpo7 ⊢
    obtain ⟨wv7, h71, h72, h73, h74⟩ := hw.same S7
    refine ⟨_, rfl, _, rfl, wa, wv7, (s : Int), s, rfl, rfl, h71, ixN_nat (by omega), ?_⟩
    have hw8 := WsD.put (t := t.mv dx dy) h71 h72 h73 h74 s16 sa.len ⟨pn, oa, rfl, hpn, (same_tf S7).sq hoa, ol⟩
    have f8 : Frm wa H7 (upd H7 wa (.lst (wv7.set s (.ref pn)))) := Frm.of_upd
    have t8 : TF H7 (upd H7 wa (.lst (wv7.set s (.ref pn)))) := TF.lst1 h71
    have h81 : (upd H7 wa (.lst (wv7.set s (.ref pn)))) wa = some (.lst (wv7.set s (.ref pn))) := upd_same
    have powa : po ≠ wa := fun e => by rw [e, hwv] at npoH; cases npoH
    have posd : po ≠ sd := fun e => by rw [e, hk0] at npoH; cases npoH
    have hpo8 := f8 _ _ powa hpo7
    obtain ⟨H8, hH8⟩ : ∃ H8, H8 = upd H7 wa (.lst (wv7.set s (.ref pn))) := ⟨_, rfl⟩
    rw [← hH8] at hw8 f8 t8 h81 hpo8 ⊢
    have T8 := (same_tf S7).trans t8
    have ks8 := (ks.same S7).frm f8 (Ne.symm wsd)
    refine ⟨_, rfl, _, rfl, _, rfl, _, rfl, wa, _, _, _, rfl, rfl, SqL.of h81, atI_nat (by rw [List.getElem?_set_self (by omega)]), g, .ref pn, G, t.mv dx dy, kd, rfl, hg.tf T8, ⟨pn, _, rfl, t8.sq hpn⟩, hkd, fun pb2 H9 s9 hpb2 => ⟨g, .ref pb2, G, G.bx (t.mv dx dy), rfl, hg.tf (T8.trans (same_tf s9)), o, ⟨pb2, rfl, by rw [ebx2]; exact SqT.of hpb2⟩, lim2, fun p8 H10 s10 hp8 np8 => ?_⟩⟩
    have S10 := s9.trans s10
    obtain ⟨old, hold⟩ : ∃ old, old = G.blk (G.bx t) := ⟨_, rfl⟩
    obtain ⟨nw, hnw⟩ : ∃ nw, nw = G.blk (G.bx (t.mv dx dy)) := ⟨_, rfl⟩
    have ol40 : old.length ≤ 40 := by rw [hold]; exact blk_len o lim
    have nl40 : nw.length ≤ 40 := by rw [hnw]; exact blk_len o lim2
    have b24 := bhw o
    have cel : ∀ c ∈ old ++ nw, Cel c := fun c m => by
      rcases List.mem_append.mp m with m | m
      · have := blk_mem o lim (by rw [← hold]; exact m)
        exact .inr ⟨by omega, by omega⟩
      · have := blk_mem o lim2 (by rw [← hnw]; exact m)
        exact .inr ⟨by omega, by omega⟩
    rw [← hold] at hpo8 k
    rw [← hnw] at hp8 k
    have hpo10 := S10 _ _ hpo8
    refine ⟨_, rfl, _, rfl, po, p8, _, _, rfl, rfl, hpo10, hp8, Nat.le_trans (show (old.map V.int).length + (nw.map V.int).length ≤ 100 by rw [List.length_map, List.length_map]; omega) (by decide), fun c1 nc1 => ⟨c1, rfl, ⟨_, SqL.of upd_same⟩, ?_⟩⟩
    have s11 := new_same (o := .lst (old.map V.int ++ nw.map V.int)) nc1
    have hc1 : (upd H10 c1 (.lst (old.map V.int ++ nw.map V.int))) c1 = some (.lst ((old ++ nw).map V.int)) := by rw [upd_same, List.map_append]
    have hpo11 := s11 _ _ hpo10
    have hp11 := s11 _ _ hp8
    have S11 := S10.trans s11
    obtain ⟨H11, hH11⟩ : ∃ H11, H11 = upd H10 c1 (.lst (old.map V.int ++ nw.map V.int)) := ⟨_, rfl⟩
    rw [← hH11] at s11 S11 hc1 hpo11 hp11 ⊢
    have ks11 := ks8.same S11
    have c1sd : c1 ≠ sd := nkey nc1 (ks8.same S10)
    have p8sd : p8 ≠ sd := nkey np8 (ks8.same s9)
    refine L2.for_it (walk_list (K := K) (a := c1) (xs := (old ++ nw).map V.int)) (fun i σ H' => ∃ v9 : Option V, σ = [some g, some (.ref wa), some (.ref sd), some (.int (s : Int)), some (.int dx), some (.int dy), some (.ref ta), some (.ref po), some (.ref p8), v9] ∧ Frm sd H11 H' ∧ KSet H' sd (shP old nw p i)) ⟨_, rfl, Frm.refl _ _, ks11.imp fun c => ⟨.inl, fun z => z.elim id fun z => by rw [List.take_zero] at z; exact absurd z.1 List.not_mem_nil⟩⟩ (fun i σ H' _ h => by obtain ⟨_, _, f, _⟩ := h; exact SqL.of (f _ _ c1sd hc1)) (fun i x σ H12 Hx hi hPv hy => ?_) (fun σ H12 hPv => ?_)
    · obtain ⟨v9, rfl, f12, ks12⟩ := hPv
      obtain ⟨rfl, hx⟩ := hy
      rw [List.length_map] at hi
      have hci := List.getElem?_eq_getElem hi
      obtain ⟨c, hc⟩ : ∃ c, c = (old ++ nw)[i] := ⟨_, rfl⟩
      rw [← hc] at hci
      rw [List.getElem?_map, hci] at hx
      cases hx
      have nxt : ∀ {H' : Hp}, Frm sd H11 H' → KSet H' sd (shP old nw p (i + 1)) → ∃ v9 : Option V, [some g, some (.ref wa), some (.ref sd), some (.int (s : Int)), some (.int dx), some (.int dy), some (.ref ta), some (.ref po), some (.ref p8), some (V.int c)] = [some g, some (.ref wa), some (.ref sd), some (.int (s : Int)), some (.int dx), some (.int dy), some (.ref ta), some (.ref po), some (.ref p8), v9] ∧ Frm sd H11 H' ∧ KSet H' sd (shP old nw p (i + 1)) := fun f q => ⟨_, rfl, f, q⟩
      have put : (c ∉ old ∨ c ∉ nw) → ∃ kvs, Hx sd = some (.dK kvs) ∧ kvs.length < sizeLine ∧ Frm sd H11 (upd Hx sd (.dK (putK kvs (.inl c) (.bl true)))) ∧ KSet (upd Hx sd (.dK (putK kvs (.inl c) (.bl true)))) sd (shP old nw p (i + 1)) := fun z => by
        obtain ⟨kvs, hk⟩ := ks12.dict
        refine ⟨kvs, hk, Nat.lt_of_le_of_lt (ks12.len hk) (by decide), f12.trans Frm.of_upd, (kset_put ks12 hk (cel c (List.mem_of_getElem? hci))).imp fun x => ?_⟩
        unfold shP
        rw [List.take_add_one, hci, List.mem_append]
        simp only [Option.toList_some, List.mem_singleton]
        exact ⟨fun q => q.elim (fun q => q.elim .inl fun q => .inr ⟨.inl q.1, q.2⟩) fun e => .inr ⟨.inr e, by rw [e]; exact z⟩, fun q => q.elim (fun q => .inl (.inl q)) fun q => q.1.elim (fun m => .inl (.inr ⟨m, q.2⟩)) fun e => .inr e⟩
      have stay : c ∈ old → c ∈ nw → KSet Hx sd (shP old nw p (i + 1)) := fun m1 m2 => ks12.imp fun x => by
        unfold shP
        rw [List.take_add_one, hci, List.mem_append]
        simp only [Option.toList_some, List.mem_singleton]
        exact ⟨fun q => q.elim .inl fun q => .inr ⟨.inl q.1, q.2⟩, fun q => q.elim .inl fun q => q.1.elim (fun m => .inr ⟨m, q.2⟩) fun e => absurd q.2 (by rw [e]; exact fun z => z.elim (fun z => z m1) fun z => z m2)⟩
      have tst : ∀ (l : List Int), (if true = true then !inV (.int c) (l.map V.int) else inV (.int c) (l.map V.int)) = !decide (c ∈ l) := fun l => by rw [if_pos rfl, inV_int]
      refine ⟨_, rfl, _, rfl, po, _, rfl, .inl (SqL.of (f12 _ _ posd hpo11)), rfl, flat_int _, _, rfl, ?_⟩
      rw [tst]
      by_cases m1 : c ∈ old
      · rw [decide_eq_true m1]
        refine iteF ?_
        refine ⟨_, rfl, _, rfl, p8, _, rfl, .inl (SqL.of (f12 _ _ p8sd hp11)), rfl, flat_int _, _, rfl, ?_⟩
        rw [tst]
        by_cases m2 : c ∈ nw
        · rw [decide_eq_true m2]
          exact iteF (nxt f12 (stay m1 m2))
        · rw [decide_eq_false m2]
          obtain ⟨kvs, hk, hl, f13, k13⟩ := put (.inr m2)
          exact iteT ⟨_, rfl, _, rfl, sd, _, rfl, DPut.k (k := .inl c) hk hl, nxt f13 k13⟩
      · rw [decide_eq_false m1]
        obtain ⟨kvs, hk, hl, f13, k13⟩ := put (.inl m1)
        exact iteT ⟨_, rfl, _, rfl, sd, _, rfl, DPut.k (k := .inl c) hk hl, nxt f13 k13⟩
    · obtain ⟨v9, rfl, f12, ks12⟩ := hPv
      have fA : F2 wa sd H H12 := (F2.s S7).trans ((F2.l f8).trans ((F2.s S11).trans (F2.r f12)))
      refine k H12 fA (hw8.tf ((same_tf S11).trans (Frm.tfk f12 ks11.dict.choose_spec)) ?_) (ks12.imp fun c => ?_)
      · rw [h81]
        exact f12 _ _ wsd (S11 _ _ h81)
      · unfold shP
        rw [List.length_map, List.take_length, List.take_of_length_le (by rw [List.length_append]; omega)]
end
end K27
set_option maxRecDepth 100000
set_option maxHeartbeats 4000000
/-! A thing goes a unit. -/
namespace K27
open PySem PySem.Spec PyProof.Rows L2 KF KD KP
section
variable {X : Cx}
theorem op_eqNil (hu : X.A.units + 64 < cLine) : OpR X (compareOp .Eq) (rNeNil X.K true) := by
  intro pins s σ H x y v u Q I rx ry h
  obtain ⟨ds, hd, he, hc, q⟩ := h
  obtain ⟨as, r1⟩ := Dp.reads I _ x v hd rx
  obtain ⟨bs, r2⟩ := Dp.reads I _ y u he ry
  have e : (PyData.list []).depth = 1 := by simp [PyData.depth, PyData.depthAll]
  refine SeqAt.compareEq_reads r1 r2 (by simpa [PyData.canLay0] using hc) (by simp [PyData.canLay0, PyData.canLayAll0]) (by rw [e]; have := Nat.min_le_right (PyData.list ds).depth 1; omega) ⟨.bl _, H, I, rfl, ?_⟩
  rw [eqv_nil]
  simpa using q
end
theorem eq_nil {K : PySem.W.Frag} {H : Hp} {a b : Addr} {l : List V} {Q : VK} (hl : H a = some (.lst l)) (hb : H b = some (.lst [])) (d : DL K H l) (q : Q (.bl l.isEmpty) H) : rNeNil K true (.ref a) (.ref b) H Q := by
  obtain ⟨ds, h1, _, h3, h4⟩ := d.all
  refine ⟨ds, .lst (SqL.of hl) h1, .lst (SqL.of hb) .nil, h3, ?_⟩
  have e : (true == ds.isEmpty) = l.isEmpty := by
    cases ds with
    | nil => cases l with
      | nil => rfl
      | cons _ _ => cases h4
    | cons _ _ => cases l with
      | nil => cases h4
      | cons _ _ => rfl
  rw [e]
  exact q
theorem flat_nV (l : List Nat) : (nV l).all flatV = true := by
  unfold nV
  simp [List.all_map, flatV]
def mv1 (dx dy : Int) (sl : List (Option Tg)) (o : Nat) : List (Option Tg) := match sl[o]? with
  | some (some t) => sl.set o (some (t.mv dx dy))
  | _ => sl
def mvL (dx dy : Int) (sl : List (Option Tg)) (L : List Nat) : List (Option Tg) := L.foldl (mv1 dx dy) sl
theorem mv1_at {dx dy : Int} {sl : List (Option Tg)} {o : Nat} {t : Tg} (h : sl[o]? = some (some t)) : mv1 dx dy sl o = sl.set o (some (t.mv dx dy)) := by
  unfold mv1
  rw [h]
theorem mvL_snoc (dx dy : Int) (sl : List (Option Tg)) (L : List Nat) (o : Nat) : mvL dx dy sl (L ++ [o]) = mv1 dx dy (mvL dx dy sl L) o := by
  unfold mvL
  rw [List.foldl_append]
  rfl
theorem mv1_oth (dx dy : Int) (sl : List (Option Tg)) (o x : Nat) (h : o ≠ x) : (mv1 dx dy sl o)[x]? = sl[x]? := by
  unfold mv1
  split
  · rw [List.getElem?_set_ne h]
  · rfl
theorem mvL_oth (dx dy : Int) : ∀ (L : List Nat) (sl : List (Option Tg)) (x : Nat), x ∉ L → (mvL dx dy sl L)[x]? = sl[x]?
  | [], sl, x, _ => rfl
  | o :: L, sl, x, h => by
    rw [mvL, List.foldl_cons]
    show (mvL dx dy (mv1 dx dy sl o) L)[x]? = _
    rw [mvL_oth dx dy L _ x (fun m => h (List.mem_cons_of_mem _ m)), mv1_oth _ _ _ _ _ (fun e => h (by rw [e]; exact List.mem_cons_self))]
theorem ws_tf {K : PySem.W.Frag} {H H' : Hp} {wa sd : Addr} {sl : List (Option Tg)} {q : Int → Prop} (w : WsD K H wa sl) (k : KSet H sd q) (f : F2 wa sd H H') : TF H H' := fun c ys z => by
  obtain ⟨wv, hwv, _⟩ := w
  obtain ⟨kvs, hk⟩ := k.dict
  rcases z with z | ⟨u, z⟩
  · exact .inl (f c _ (fun n => by rw [n, hwv] at z; cases z) (fun n => by rw [n, hk] at z; cases z) z)
  · exact .inr ⟨u, f c _ (fun n => by rw [n, hwv] at z; cases z) (fun n => by rw [n, hk] at z; cases z) z⟩
/-- what stands, stands still in its slot -/
def Shp (sl sl' : List (Option Tg)) : Prop := ∀ (i : Nat) (t : Tg), sl[i]? = some (some t) → ∃ u, sl'[i]? = some (some u)
theorem Shp.refl (sl : List (Option Tg)) : Shp sl sl := fun _ t h => ⟨t, h⟩
theorem Shp.trans {a b c : List (Option Tg)} (h : Shp a b) (q : Shp b c) : Shp a c := fun i t z => by
  obtain ⟨u, hu⟩ := h i t z
  exact q i u hu
theorem Shp.set (sl : List (Option Tg)) (o : Nat) (u : Tg) : Shp sl (sl.set o (some u)) := fun i t z => by
  by_cases e : o = i
  · subst e
    have := (List.getElem?_eq_some_iff.mp z).1
    exact ⟨u, by rw [List.getElem?_set_self this]⟩
  · exact ⟨t, by rw [List.getElem?_set_ne e]; exact z⟩
/-- how far down things are -/
def Yb (sl : List (Option Tg)) (B : Int) : Prop := ∀ t, some t ∈ sl → t.y ≤ B
theorem Yb.mono {sl : List (Option Tg)} {B C : Int} (h : Yb sl B) (e : B ≤ C) : Yb sl C := fun t m => by
  have := h t m
  omega
theorem Yb.set {sl : List (Option Tg)} {B : Int} {o : Nat} {u : Tg} (h : Yb sl B) (e : u.y ≤ B) : Yb (sl.set o (some u)) B := fun t m => by
  rcases List.mem_or_eq_of_mem_set m with m | q
  · exact h t m
  · injection q with q
    rw [q]
    exact e
theorem dirs_y {dy : Int} (h : ((0 : Int), dy) ∈ dirs) : dy = -1 ∨ dy = 1 := by
  unfold dirs at h
  simp only [List.mem_cons, Prod.mk.injEq, List.not_mem_nil, or_false] at h
  omega
theorem TgOk.mv {G : Gm} {u : Tg} {dy B : Int} (o : G.ok) (h : TgOk G u) (hd : ((0 : Int), dy) ∈ dirs) (fr : G.fr ((G.bx u).mv 0 dy) = true) (hy : u.y ≤ B) (hB : B + 1 ≤ 4000) : TgOk G (u.mv 0 dy) := by
  have d := dirs_y hd
  have lim := (h.lim o).2.1 0 dy (by decide) (by decide) (by omega) (by omega)
  obtain ⟨f1, f2, f3⟩ := fr_true lim fr
  obtain ⟨kd, hkd, _⟩ := h.kd
  have ebx : G.bx u = u.box kd := by unfold Gm.bx; rw [hkd]
  rw [ebx] at f1 f2
  have f2 : 0 ≤ u.y + dy := f2
  have := h.x1
  have := h.x2
  refine ⟨h.k, by show -1000 ≤ u.x + 0; omega, by show u.x + 0 ≤ 1000; omega, by show -1000 ≤ u.y + dy; omega, by show u.y + dy ≤ 4000; omega, by rw [bx_mv _ _ h.k]; exact fr, h.d1, h.d2⟩
/-- a lot is moved: one by one -/
structure MvI (G : Gm) (sl0 : List (Option Tg)) (dy B : Int) (L : List Nat) (i : Nat) : Prop where
  sa : SlAll G (mvL 0 dy sl0 (L.take i))
  yb : Yb (mvL 0 dy sl0 (L.take i)) (B + 1)
  sh : Shp sl0 (mvL 0 dy sl0 (L.take i))
theorem MvI.zero {G : Gm} {sl0 : List (Option Tg)} {dy B : Int} (L : List Nat) (sa : SlAll G sl0) (yb : Yb sl0 B) : MvI G sl0 dy B L 0 := ⟨by rw [List.take_zero]; exact sa, by rw [List.take_zero]; exact yb.mono (by omega), by rw [List.take_zero]; exact Shp.refl _⟩
theorem MvI.step {G : Gm} {sl0 : List (Option Tg)} {dy B : Int} {L : List Nat} {i x : Nat} {u : Tg} (o : G.ok) (h : MvI G sl0 dy B L i) (sa : SlAll G sl0) (yb : Yb sl0 B) (nd : L.Nodup) (hx : L[i]? = some x) (hu : sl0[x]? = some (some u)) (fr : G.fr ((G.bx u).mv 0 dy) = true) (hd : ((0 : Int), dy) ∈ dirs) (hB : B + 1 ≤ 4000) :
    (mvL 0 dy sl0 (L.take i))[x]? = some (some u) ∧ TgOk G (u.mv 0 dy) ∧ mvL 0 dy sl0 (L.take (i + 1)) = (mvL 0 dy sl0 (L.take i)).set x (some (u.mv 0 dy)) ∧ MvI G sl0 dy B L (i + 1) := by
  have nin : x ∉ L.take i := fun m => by
    obtain ⟨j, hj⟩ := List.mem_iff_getElem?.mp m
    rw [List.getElem?_take] at hj
    split at hj
    · rename_i ji
      have h1 := List.getElem?_eq_some_iff.mp hj
      have h2 := List.getElem?_eq_some_iff.mp hx
      have := List.pairwise_iff_getElem.mp nd j i h1.1 h2.1 ji
      rw [h1.2, h2.2] at this
      exact this rfl
    · cases hj
  have h1 : (mvL 0 dy sl0 (L.take i))[x]? = some (some u) := by rw [mvL_oth _ _ _ _ _ nin]; exact hu
  have uy := yb u (List.mem_of_getElem? hu)
  have tk := (sa.ok u (List.mem_of_getElem? hu)).mv o hd fr uy hB
  have e : mvL 0 dy sl0 (L.take (i + 1)) = (mvL 0 dy sl0 (L.take i)).set x (some (u.mv 0 dy)) := by
    rw [List.take_add_one, hx]
    show mvL 0 dy sl0 (L.take i ++ [x]) = _
    rw [mvL_snoc, mv1_at h1]
  have d := dirs_y hd
  exact ⟨h1, tk, e, by rw [e]; exact h.sa.put tk, by rw [e]; exact h.yb.set (by show u.y + dy ≤ B + 1; omega), by rw [e]; exact h.sh.trans (Shp.set _ _ _)⟩
section
variable {P : Program} {w : World} {K : PySem.W.Frag} {mg : Str → Option Value} {base : Heap}
def spILp (K : PySem.W.Frag) : Sp := fun vs H Q _ => ∃ (g : V) (wa sd : Addr) (G : Gm) (sl : List (Option Tg)) (s : Nat) (t : Tg) (dy B : Int) (p : Int → Prop), vs = [g, .ref wa, .ref sd, .int (s : Int), .int 0, .int dy] ∧ ((0 : Int), dy) ∈ dirs ∧ GmAt K H g G ∧ G.ok ∧ SlAll G sl ∧ s < 16 ∧ sl[s]? = some (some t) ∧ WsD K H wa sl ∧ KSet H sd p ∧ Yb sl B ∧ B + 17 ≤ 4000 ∧ ∀ (b : Bool) (sl' : List (Option Tg)) (q : Int → Prop) H', F2 wa sd H H' → WsD K H' wa sl' → KSet H' sd q → SlAll G sl' → Yb sl' (B + 17) → Shp sl sl' → Q (.bl b) H'
theorem scILp : FnScope ["game", "w", "seen", "slot", "dx", "dy", "box", "going", "other", "over", "riders", "rider"] ["game", "w", "seen", "slot", "dx", "dy"] (defScope s_law_step) := ⟨rfl, rfl, rfl, by decide +kernel, rfl, by decide +kernel, by decide +kernel⟩
theorem ok_law_step (T : Txt K w mg) : FnOk P w K mg base CX0 7 (He.fAd K ("_law_step", none)) (fdAt K (He.fAd K ("_law_step", none))) ["game", "w", "seen", "slot", "dx", "dy"] (spILp K) := by
  refine T.F_law_step.ok scILp (fun vs H Q E h => ?_) (fun cdv A outer s H vs Q E hr h => ?_)
  · obtain ⟨g, wa, sd, G, sl, s, t, dy, B, p, rfl, _⟩ := h
    rfl
  · obtain ⟨g, wa, sd, G, sl, s, t, dy, B, p, rfl, hd, hg, o, sa, s16, hst, hw, ks, yb, hB, k⟩ := h
    have hu := Nat.lt_of_le_of_lt (Nat.add_le_add_left (by decide : 1 ≤ 64) _) hr.units
    refine ⟨_, PSs.nox (pss_cons (ps_set (i := 6) scILp.nd rfl (Or.inl rfl) (pe_call (ok_law_box T) (hr.mono (by first | decide | omega)) (by rfl) T.g_law_box (T.F_law_box).kp T.b_law_box .nil pass0 (pa_cons (pv 0) (pa_cons (pe_ix (r := rIxL K) ix_list (pv 1) (pv 3) (fun _ _ => rfl)) pa_nil))))
      (pss_cons (ps_set (i := 7) scILp.nd rfl (Or.inr rfl) (pe_call (ok_law_lot T) (hr.mono (by first | decide | omega)) (by rfl) T.g_law_lot (T.F_law_lot).kp T.b_law_lot .nil pass0 (pa_cons (pv 0) (pa_cons (pv 1) (pa_cons (pv 2) (pa_cons (pv 3) (pa_cons (pv 4) (pa_cons (pv 5) pa_nil))))))))
      (pss_cons (ps_for PassesOwn.never rfl (pi_list (pv 7)) (pg_name (i := 8) scILp.nd rfl (Or.inl rfl)) (pss_one (ps_expr (pe_call (ok_law_shift T) (hr.mono (by first | decide | omega)) (by rfl) T.g_law_shift (T.F_law_shift).kp T.b_law_shift .nil pass0 (pa_cons (pv 0) (pa_cons (pv 1) (pa_cons (pv 2) (pa_cons (pv 8) (pa_cons (pv 4) (pa_cons (pv 5) pa_nil))))))))))
      (pss_cons (ps_if (pt_cmpR (r := rNeNil K true) (op_eqNil hr.units) (pv 7) (pe_lst pa_nil) (nomark _)) (pss_one (ps_ret pe_bl)) pss_nil)
      (pss_cons (ps_if (PW.pt (pw_and (pt_cmpR op_ne (pv 5) (pe_un un_neg pe_int) (nomark _)) (pw_and1 (pt_val (pe_call (ok_law_has T) (hr.mono (by first | decide | omega)) (by rfl) T.g_law_has (T.F_law_has).kp T.b_law_has .nil pass0 (pa_cons (pv 0) (pa_cons (pe_ix (r := rIxL K) ix_list (pv 1) (pv 3) (fun _ _ => rfl)) (pa_cons pe_str pa_nil)))))))) (pss_cons (ps_set (i := 9) scILp.nd rfl (Or.inl rfl) (pe_call (ok_law_look T) (hr.mono (by first | decide | omega)) (by rfl) T.g_law_look (T.F_law_look).kp T.b_law_look .nil pass0 (pa_cons (pv 0) (pa_cons (pv 1) (pa_cons (pv 2) (pa_cons (pe_tup (pa_cons (pe_ix (r := rIxT K) ix_tup (pv 6) pe_int (fun _ _ => rfl)) (pa_cons (pe_op op_sub (pe_ix (r := rIxT K) ix_tup (pv 6) pe_int (fun _ _ => rfl)) pe_int) (pa_cons (pe_ix (r := rIxT K) ix_tup (pv 6) pe_int (fun _ _ => rfl)) (pa_cons pe_int pa_nil))))) (pa_cons (pe_lst (pa_cons (pv 3) pa_nil)) pa_nil)))))))
      (pss_cons (ps_setLc (i := 10) (own := [("other", 8)]) (g := gName 8) (by rfl) scILp.nd rfl rfl (sw_true rfl rfl rfl (by decide +kernel)) (pi_list (pv 9)) (blkOk_by (own := [("other", 8)]) (N := ["game", "w", "seen", "slot", "dx", "dy", "box", "going", "other", "over", "riders", "rider"]) (sc := defScope s_law_step) (by decide +kernel)) (fun _ _ _ _ _ => pg_name (i := 8) scILp.nd rfl (Or.inl rfl)) (fun _ _ _ _ _ => pts_one (PW.pt (pw_and (pt_cmpR (r := rIn K true) op_notIn_seq (pv 8) (pv 7) rfl) (pw_and1 (pt_cmpR op_eq (pe_ix (r := rIxT K) ix_tup (pe_ix (r := rIxL K) ix_list (pv 1) (pv 8) (fun _ _ => rfl)) pe_int (fun _ _ => rfl)) (pv 3) (nomark _)))))) (fun _ _ _ _ _ => (pv 8)))
      (pss_one (ps_for PassesOwn.never rfl (pi_list (pv 10)) (pg_name (i := 11) scILp.nd rfl (Or.inl rfl)) (pss_one (ps_for PassesOwn.never rfl (pi_list (pe_call (ok_law_lot T) (hr.mono (by first | decide | omega)) (by rfl) T.g_law_lot (T.F_law_lot).kp T.b_law_lot .nil pass0 (pa_cons (pv 0) (pa_cons (pv 1) (pa_cons (pv 2) (pa_cons (pv 11) (pa_cons (pv 4) (pa_cons (pv 5) pa_nil)))))))) (pg_name (i := 8) scILp.nd rfl (Or.inl rfl)) (pss_one (ps_expr (pe_call (ok_law_shift T) (hr.mono (by first | decide | omega)) (by rfl) T.g_law_shift (T.F_law_shift).kp T.b_law_shift .nil pass0 (pa_cons (pv 0) (pa_cons (pv 1) (pa_cons (pv 2) (pa_cons (pv 8) (pa_cons (pv 4) (pa_cons (pv 5) pa_nil))))))))))))))) pss_nil)
      (pss_one (ps_ret pe_bl))))))), ?_⟩
    obtain ⟨wv, hwv, wl, hws, hdl⟩ := id hw
    obtain ⟨v, hv, hvx⟩ := hws s _ hst
    have tk := sa.ok t (List.mem_of_getElem? hst)
    obtain ⟨kd, hkd, _⟩ := tk.kd
    have ebx : G.bx t = t.box kd := by unfold Gm.bx; rw [hkd]
    obtain ⟨kvs0, hk0⟩ := ks.dict
    have wsd : wa ≠ sd := fun e => by rw [e, hk0] at hwv; cases hwv
    refine ⟨_, rfl, _, rfl, _, rfl, wa, _, _, _, rfl, rfl, SqL.of hwv, atI_nat hv, g, v, G, t, kd, rfl, hg, hvx.at', hkd, fun pb H1 s1 hpb => ?_⟩
    refine ⟨_, rfl, _, rfl, _, rfl, _, rfl, _, rfl, _, rfl, g, wa, sd, G, sl, s, t, 0, dy, p, rfl, hd, hg.tf (same_tf s1), o, sa, s16, hst, (hw.same s1).wl, ks.same s1, fun pg H2 f2 ks2 hpg npg => ?_⟩
    obtain ⟨L, hL⟩ : ∃ L, L = lotR G sl 0 dy s := ⟨_, rfl⟩
    have fre := lotR_free (G := G) (dx := 0) (dy := dy) s16 hst
    have Lnd := lotR_nd G sl 0 dy s
    have Ll := lotR_len G sl 0 dy s
    rw [← hL] at fre Lnd Ll hpg
    have hw2 := (hw.same s1).wl
    have W2 : WsD K H2 wa sl := (hw.same s1).tf (Frm.tfk f2 (s1 _ _ hk0)) (by rw [f2 _ _ wsd (s1 _ _ hwv), s1 _ _ hwv])
    have F02 : F2 wa sd H H2 := (F2.s s1).trans (F2.r f2)
    have pgwa : pg ≠ wa := fun e => by rw [e, s1 _ _ hwv] at npg; cases npg
    have pgsd : pg ≠ sd := fun e => by rw [e, s1 _ _ hk0] at npg; cases npg
    have tfF : ∀ {H' : Hp}, F2 wa sd H H' → TF H H' := fun {H'} f c ys z => by
      have n1 : ∀ o', (o' = HO.tup ys) → H c = some o' → c ≠ wa := fun o' e q n => by rw [n, hwv] at q; injection q with q; rw [e] at q; cases q
      have n2 : ∀ o', (o' = HO.tup ys) → H c = some o' → c ≠ sd := fun o' e q n => by rw [n, hk0] at q; injection q with q; rw [e] at q; cases q
      rcases z with z | ⟨u, z⟩
      · exact .inl (f c _ (n1 _ rfl z) (n2 _ rfl z) z)
      · exact .inr ⟨u, f c _ (fun n => by rw [n, hwv] at z; cases z) (fun n => by rw [n, hk0] at z; cases z) z⟩
    have nl : (nV L).length = L.length := by unfold nV; rw [List.length_map]
    refine ⟨_, rfl, pg, rfl, ⟨_, SqL.of hpg⟩, ?_⟩
    refine L2.for_it (walk_list (K := K) (a := pg) (xs := nV L)) (fun i σ H' => ∃ (v8 : Option V) (q : Int → Prop), σ = [some g, some (.ref wa), some (.ref sd), some (.int (s : Int)), some (.int 0), some (.int dy), some (.ref pb), some (.ref pg), v8, none, none, none] ∧ F2 wa sd H2 H' ∧ WsD K H' wa (mvL 0 dy sl (L.take i)) ∧ KSet H' sd q ∧ MvI G sl dy B L i) ⟨_, _, rfl, F2.refl _ _ _, by rw [List.take_zero]; exact W2, ks2, MvI.zero L sa yb⟩ (fun i σ H' _ h => by obtain ⟨_, _, _, f, _⟩ := h; exact SqL.of (f _ _ pgwa pgsd hpg)) (fun i x σ H3 Hx hi hPv hy => ?_) (fun σ H3 hPv => ?_)
    · obtain ⟨v8, q, rfl, f3, w3, k3, M⟩ := hPv
      obtain ⟨rfl, hx⟩ := hy
      rw [nl] at hi
      have hxi := List.getElem?_eq_getElem hi
      obtain ⟨x', hx'⟩ : ∃ x', x' = L[i] := ⟨_, rfl⟩
      rw [← hx'] at hxi
      unfold nV at hx
      rw [List.getElem?_map, hxi] at hx
      cases hx
      obtain ⟨x16, u, hu, fr⟩ := fre x' (List.mem_of_getElem? hxi)
      obtain ⟨e1, e2, e3, e4⟩ := M.step o sa yb Lnd hxi hu fr hd (by omega)
      refine ⟨_, rfl, _, rfl, _, rfl, _, rfl, _, rfl, _, rfl, g, wa, sd, G, _, x', u, 0, dy, q, rfl, hg.tf (tfF (F02.trans f3)), o, M.sa, x16, e1, w3, k3, e2, fun H4 f4 w4 k4 => ?_⟩
      exact ⟨_, _, rfl, f3.trans f4, by rw [e3]; exact w4, k4, e4⟩
    obtain ⟨v8, q3, rfl, f3, w3, k3, M⟩ := hPv
    rw [nl] at M w3
    obtain ⟨msa, myb, msh⟩ := M
    rw [List.take_length] at msa myb msh w3
    obtain ⟨sl1, hsl1⟩ : ∃ sl1, sl1 = mvL 0 dy sl L := ⟨_, rfl⟩
    rw [← hsl1] at msa myb msh w3
    have F03 := F02.trans f3
    have hpg3 := f3 _ _ pgwa pgsd hpg
    obtain ⟨t1, ht1⟩ := msh s t hst
    have hdl3 : ∀ {H' : Hp}, DL K H' (nV L) := fun {H'} v m => by
      obtain ⟨n, _, rfl⟩ := List.mem_map.mp m
      exact int_al K _ _
    refine ⟨_, rfl, (show 0 ≤ sizeLine by decide), fun e ne => eq_nil ((new_same ne) _ _ hpg3) upd_same hdl3 ⟨_, rfl, ite2 (fun z => ?_) (fun _ => ?_)⟩⟩
    · exact k false sl1 q3 _ (F03.trans (F2.s (new_same ne))) (w3.same (new_same ne)) (k3.same (new_same ne)) msa (myb.mono (by omega)) msh
    have s4 := new_same (o := .lst []) ne
    have F04 := F03.trans (F2.s s4)
    have hpg4 := s4 _ _ hpg3
    have w4 := w3.same s4
    have k4 := k3.same s4
    obtain ⟨H4, hH4⟩ : ∃ H4, H4 = upd H3 e (.lst []) := ⟨_, rfl⟩
    rw [← hH4] at s4 F04 hpg4 w4 k4 ⊢
    have hg4 := hg.tf (tfF F04)
    have fin := k true sl1 q3 H4 F04 w4 k4 msa (myb.mono (by omega)) msh
    obtain ⟨wv4, h41, h42, h43, h44⟩ := id w4
    obtain ⟨v1, hv1, hv1x⟩ := h43 s _ ht1
    have tk1 := msa.ok t1 (List.mem_of_getElem? ht1)
    obtain ⟨kd1, hkd1, _⟩ := tk1.kd
    refine ⟨_, rfl, _, rfl, rfl, _, rfl, ite2 (fun _ => ?_) (fun _ => fin)⟩
    refine ⟨_, rfl, _, rfl, _, rfl, wa, _, _, _, rfl, rfl, SqL.of h41, atI_nat hv1, g, v1, G, t1, kd1, "carries", rfl, hg4, hv1x.at', hkd1, _, rfl, ite2 (fun _ => ?_) (fun _ => fin)⟩
    clear fin
    have tf14 : TF H1 H4 := TF.trans (Frm.tfk f2 (s1 _ _ hk0)) (TF.trans (ws_tf W2 ks2 f3) (same_tf s4))
    obtain ⟨kw1, kw2, kh1, kh2, _⟩ := o.kw kd (List.mem_of_getElem? hkd)
    have hpb4 : SqT K H4 pb (t.box kd).vs := (tf14).sq (SqT.of hpb)
    have tx1 := tk.x1
    have tx2 := tk.x2
    have ty1 := tk.y1
    have ty2 := tk.y2
    have bbl : (Bx.mk t.x (t.y - 1) kd.w 1).lim := lim_box (by show -5000 ≤ t.x; omega) (by show t.x ≤ 5000; omega) (by show -5000 ≤ t.y - 1; omega) (by show t.y - 1 ≤ 5000; omega) kw1 (by show kd.w ≤ 20; omega) (by show (1 : Int) ≤ 1; omega) (by show (1 : Int) ≤ 20; omega)
    refine ⟨_, rfl, _, rfl, _, rfl, _, rfl, pb, _, _, _, rfl, rfl, hpb4, atI_nat (j := 0) rfl, _, rfl, pb, _, _, _, rfl, rfl, hpb4, atI_nat (j := 1) rfl, _, _, rfl, rfl, _, rfl, pb, _, _, _, rfl, rfl, hpb4, atI_nat (j := 2) rfl, (show 4 ≤ sizeLine by decide), fun pt npt => ⟨_, rfl, (show 1 ≤ sizeLine by decide), fun ps nps => ?_⟩⟩
    have s5 := (new_same (o := .tup [V.int (t.box kd).x, (fun i j => V.int (i - j)) (t.box kd).y 1, V.int (t.box kd).w, V.int 1]) npt).trans (new_same (o := .lst [V.int (s : Int)]) nps)
    have hpt5 : (upd (upd H4 pt (.tup [V.int (t.box kd).x, (fun i j => V.int (i - j)) (t.box kd).y 1, V.int (t.box kd).w, V.int 1])) ps (.lst [V.int (s : Int)])) pt = some (.tup (Bx.mk t.x (t.y - 1) kd.w 1).vs) := new_same (o := .lst [V.int (s : Int)]) nps _ _ (upd_same (H := H4) (a := pt) (o := .tup [V.int (t.box kd).x, (fun i j => V.int (i - j)) (t.box kd).y 1, V.int (t.box kd).w, V.int 1]))
    have hps5 : (upd (upd H4 pt (.tup [V.int (t.box kd).x, (fun i j => V.int (i - j)) (t.box kd).y 1, V.int (t.box kd).w, V.int 1])) ps (.lst [V.int (s : Int)])) ps = some (.lst (nV [s])) := upd_same
    have pssd : ps ≠ sd := nkey nps (k4.same (new_same npt))
    have w5 := w4.same s5
    have k5 := k4.same s5
    have F05 := F04.trans (F2.s s5)
    have hpg5 := s5 _ _ hpg4
    obtain ⟨H5, hH5⟩ : ∃ H5, H5 = upd (upd H4 pt (.tup [V.int (t.box kd).x, (fun i j => V.int (i - j)) (t.box kd).y 1, V.int (t.box kd).w, V.int 1])) ps (.lst [V.int (s : Int)]) := ⟨_, rfl⟩
    rw [← hH5] at s5 hpt5 hps5 w5 k5 F05 hpg5 ⊢
    refine ⟨g, .ref pt, .ref ps, wa, sd, G, sl1, ⟨t.x, t.y - 1, kd.w, 1⟩, [s], q3, rfl, hg.tf (tfF F05), o, msa, w5.wl, k5, ⟨pt, rfl, SqT.of hpt5⟩, bbl, ⟨ps, rfl, fun H' f => .inl (SqL.of (f _ _ pssd hps5))⟩, fun po H6 f6 k6 hpo npo => ?_⟩
    obtain ⟨kvs5, hk5⟩ := k5.dict
    have F06 := F05.trans (F2.r f6)
    obtain ⟨wv5, h51, _⟩ := id w5
    have w6 : WsD K H6 wa sl1 := w5.tf (Frm.tfk f6 hk5) (by rw [h51]; exact f6 _ _ wsd h51)
    have hpg6 := f6 _ _ pgsd hpg5
    obtain ⟨OV, hOV⟩ : ∃ OV, OV = lookL G sl1 ⟨t.x, t.y - 1, kd.w, 1⟩ [s] := ⟨_, rfl⟩
    have ovl : OV.length ≤ 16 := by rw [hOV]; exact look_len _ _ _ _
    have ovt : ∀ r ∈ OV, r < 16 ∧ ∃ u, sl1[r]? = some (some u) := fun r m => by
      rw [hOV] at m
      obtain ⟨h1, _, h3⟩ := look_mem m
      exact ⟨h1, near_thing h3⟩
    rw [← hOV] at hpo
    obtain ⟨wv6, h61, h62, h63, h64⟩ := id w6
    have onl : (nV OV).length = OV.length := by unfold nV; rw [List.length_map]
    refine ⟨_, rfl, po, rfl, ⟨_, SqL.of hpo⟩, fun D hD => ?_⟩
    refine lc_it (walk_list (K := K) (a := po) (xs := nV OV)) (fun i H' => ∃ rs : List Nat, Same H6 H' ∧ H' D = some (.lst (nV rs)) ∧ rs.length ≤ i ∧ ∀ r ∈ rs, r ∈ OV) ⟨[], new_same hD, upd_same, Nat.le_refl _, fun _ m => (List.not_mem_nil m).elim⟩ (fun i H' _ h => by obtain ⟨_, s, _⟩ := h; exact SqL.of (s _ _ hpo)) (fun i v H' Hx hi h yy => ?_) (fun H7 h => ?_)
    · obtain ⟨rfl, hv⟩ := yy
      obtain ⟨rs, sm, hl, rl, hrs⟩ := h
      rw [onl] at hi
      have hxi := List.getElem?_eq_getElem hi
      obtain ⟨r, hr⟩ : ∃ r, r = OV[i] := ⟨_, rfl⟩
      rw [← hr] at hxi
      unfold nV at hv
      rw [List.getElem?_map, hxi] at hv
      cases hv
      have hrO := List.mem_of_getElem? hxi
      obtain ⟨r16, u, hu⟩ := ovt r hrO
      obtain ⟨vu, hvu, hvux⟩ := h63 r _ hu
      obtain ⟨ua, uo, rfl, hua, _⟩ : TgX K H6 vu u := hvux
      refine ⟨rfl, _, rfl, _, rfl, pg, _, rfl, .inl (SqL.of (sm _ _ hpg6)), rfl, flat_nV L, _, rfl, ite2 (fun _ => ?_) (fun _ => ⟨rs, sm, hl, by omega, hrs⟩)⟩
      refine ⟨_, rfl, _, rfl, wa, _, _, _, rfl, rfl, SqL.of (sm _ _ h61), atI_nat hvu, ua, _, _, _, rfl, rfl, (same_tf sm).sq hua, atI_nat (j := 6) rfl, _, rfl, rfl, _, rfl, ite2 (fun _ => ?_) (fun _ => ⟨rs, sm, hl, by omega, hrs⟩)⟩
      refine ⟨_, rfl, _, hl, ?_, rs ++ [r], fun c o z => ?_, by rw [upd_same]; unfold nV; rw [List.map_append]; rfl, by rw [List.length_append]; simp only [List.length_cons, List.length_nil]; omega, fun x m => ?_⟩
      · unfold nV
        rw [List.length_map]
        exact Nat.lt_of_le_of_lt (show rs.length ≤ 24 by omega) (by decide)
      · rw [upd_ne (ne_of_none z hD)]
        exact sm _ _ z
      · rcases List.mem_append.mp m with m | m
        · exact hrs x m
        · rw [List.mem_singleton.mp m]
          exact hrO
    obtain ⟨rs, sm7, hD7, rl, hrs⟩ := h
    rw [onl] at rl
    have F07 := F06.trans (F2.s sm7)
    have w7 := w6.same sm7
    have k7 := k6.same sm7
    have Dwa : D ≠ wa := fun e => by rw [e, h61] at hD; cases hD
    have Dsd : D ≠ sd := nkey hD k6
    have rnl : (nV rs).length = rs.length := by unfold nV; rw [List.length_map]
    refine ⟨_, rfl, D, rfl, ⟨_, SqL.of hD7⟩, ?_⟩
    refine L2.for_it (walk_list (K := K) (a := D) (xs := nV rs)) (fun i σ H' => ∃ (v8 v11 : Option V) (sl' : List (Option Tg)) (q : Int → Prop), σ = [some g, some (.ref wa), some (.ref sd), some (.int (s : Int)), some (.int 0), some (.int dy), some (.ref pb), some (.ref pg), v8, some (.ref po), some (.ref D), v11] ∧ F2 wa sd H7 H' ∧ WsD K H' wa sl' ∧ KSet H' sd q ∧ SlAll G sl' ∧ Yb sl' (B + 1 + (i : Int)) ∧ Shp sl sl' ∧ Shp sl1 sl') ⟨_, _, sl1, _, rfl, F2.refl _ _ _, w7, k7, msa, myb.mono (by omega), msh, Shp.refl _⟩ (fun i σ H' _ h => by obtain ⟨_, _, _, _, _, f, _⟩ := h; exact SqL.of (f _ _ Dwa Dsd hD7)) (fun i x σ H8 Hx hi hPv hy => ?_) (fun σ H8 hPv => ?_)
    rotate_left
    · obtain ⟨v8, v11, sl', q, rfl, f8, w8, k8, sa8, yb8, sh8, _⟩ := hPv
      rw [rnl] at yb8
      exact k true sl' q H8 (F07.trans f8) w8 k8 sa8 (yb8.mono (by omega)) sh8
    obtain ⟨v8, v11, sl', q, rfl, f8, w8, k8, sa8, yb8, sh8, sh18⟩ := hPv
    obtain ⟨rfl, hx⟩ := hy
    rw [rnl] at hi
    have hxi := List.getElem?_eq_getElem hi
    obtain ⟨r, hr⟩ : ∃ r, r = rs[i] := ⟨_, rfl⟩
    rw [← hr] at hxi
    unfold nV at hx
    rw [List.getElem?_map, hxi] at hx
    cases hx
    obtain ⟨r16, u1, hu1⟩ := ovt r (hrs r (List.mem_of_getElem? hxi))
    obtain ⟨ur, hur⟩ := sh18 r u1 hu1
    have F08 := F07.trans f8
    refine ⟨_, rfl, _, rfl, _, rfl, _, rfl, _, rfl, _, rfl, g, wa, sd, G, sl', r, ur, 0, dy, q, rfl, hd, hg.tf (tfF F08), o, sa8, r16, hur, w8.wl, k8, fun pl H9 f9 k9 hpl npl => ⟨pl, rfl, ⟨_, SqL.of hpl⟩, ?_⟩⟩
    obtain ⟨M2, hM2⟩ : ∃ M2, M2 = lotR G sl' 0 dy r := ⟨_, rfl⟩
    have fre2 := lotR_free (G := G) (dx := 0) (dy := dy) r16 hur
    have nd2 := lotR_nd G sl' 0 dy r
    rw [← hM2] at hpl fre2 nd2
    obtain ⟨kvs8, hk8⟩ := k8.dict
    obtain ⟨wv8, h81, _⟩ := id w8
    have w9 : WsD K H9 wa sl' := w8.tf (Frm.tfk f9 hk8) (by rw [h81]; exact f9 _ _ wsd h81)
    have F09 := F08.trans (F2.r f9)
    have plwa : pl ≠ wa := fun e => by rw [e, h81] at npl; cases npl
    have plsd : pl ≠ sd := nkey npl k8
    have mnl : (nV M2).length = M2.length := by unfold nV; rw [List.length_map]
    refine L2.for_it (walk_list (K := K) (a := pl) (xs := nV M2)) (fun j σ H' => ∃ (v8 : Option V) (q : Int → Prop), σ = [some g, some (.ref wa), some (.ref sd), some (.int (s : Int)), some (.int 0), some (.int dy), some (.ref pb), some (.ref pg), v8, some (.ref po), some (.ref D), some (.int (r : Int))] ∧ F2 wa sd H9 H' ∧ WsD K H' wa (mvL 0 dy sl' (M2.take j)) ∧ KSet H' sd q ∧ MvI G sl' dy (B + 1 + (i : Int)) M2 j) ⟨_, _, rfl, F2.refl _ _ _, by rw [List.take_zero]; exact w9, k9, MvI.zero M2 sa8 yb8⟩ (fun j σ H' _ h => by obtain ⟨_, _, _, f, _⟩ := h; exact SqL.of (f _ _ plwa plsd hpl)) (fun j x σ H3 Hz hj hPv hy => ?_) (fun σ H3 hPv => ?_)
    · obtain ⟨v8, q, rfl, fA, wA, kA, M⟩ := hPv
      obtain ⟨rfl, hx⟩ := hy
      rw [mnl] at hj
      have hxj := List.getElem?_eq_getElem hj
      obtain ⟨x', hx'⟩ : ∃ x', x' = M2[j] := ⟨_, rfl⟩
      rw [← hx'] at hxj
      unfold nV at hx
      rw [List.getElem?_map, hxj] at hx
      cases hx
      obtain ⟨x16, u, hu, fr⟩ := fre2 x' (List.mem_of_getElem? hxj)
      obtain ⟨e1, e2, e3, e4⟩ := M.step o sa8 yb8 nd2 hxj hu fr hd (by omega)
      refine ⟨_, rfl, _, rfl, _, rfl, _, rfl, _, rfl, _, rfl, g, wa, sd, G, _, x', u, 0, dy, q, rfl, hg.tf (tfF (F09.trans fA)), o, M.sa, x16, e1, wA, kA, e2, fun H4 f4 w4 k4 => ?_⟩
      exact ⟨_, _, rfl, fA.trans f4, by rw [e3]; exact w4, k4, e4⟩
    · obtain ⟨v8, q, rfl, fA, wA, kA, M⟩ := hPv
      rw [mnl] at M wA
      exact ⟨_, _, _, q, rfl, f8.trans ((F2.r f9).trans fA), wA, kA, M.sa, M.yb.mono (by omega), sh8.trans M.sh, sh18.trans M.sh⟩
end
end K27
set_option maxRecDepth 100000
set_option maxHeartbeats 4000000
/-! A thing falls. -/
namespace K27
open PySem PySem.Spec PyProof.Rows L2 KF KD KP
theorem Yb.two {G : Gm} {sl : List (Option Tg)} {B : Int} {s : Nat} {t : Tg} (o : G.ok) (sa : SlAll G sl) (yb : Yb sl B) (hs : sl[s]? = some (some t)) (dx dy r : Int) (h : -7 ≤ dy) (h2 : dy ≤ 7) : SlAll G (sl.set s (some { t with dx := dx, dy := dy, rest := r })) ∧ Yb (sl.set s (some { t with dx := dx, dy := dy, rest := r })) B := by
  have k := sa.ok t (List.mem_of_getElem? hs)
  exact ⟨sa.put ⟨k.k, k.x1, k.x2, k.y1, k.y2, k.fr, h, h2⟩, yb.set (by have := yb t (List.mem_of_getElem? hs); exact this)⟩
section
variable {P : Program} {w : World} {K : PySem.W.Frag} {mg : Str → Option Value} {base : Heap}
def spIDn (K : PySem.W.Frag) : Sp := fun vs H Q _ => ∃ (g : V) (wa sd : Addr) (G : Gm) (st : List Tg) (pu : Int) (sl : List (Option Tg)) (s : Nat) (t : Tg) (B : Int) (p : Int → Prop), vs = [g, .ref wa, .ref sd, .int (s : Int)] ∧ GxAt K H g G st pu ∧ 0 ≤ pu ∧ pu ≤ 3 ∧ G.ok ∧ SlAll G sl ∧ s < 16 ∧ sl[s]? = some (some t) ∧ WsD K H wa sl ∧ KSet H sd p ∧ Yb sl B ∧ B + 120 ≤ 4000 ∧ ∀ (sl' : List (Option Tg)) (q : Int → Prop) H', F2 wa sd H H' → WsD K H' wa sl' → KSet H' sd q → SlAll G sl' → Yb sl' (B + 120) → Q .non H'
theorem scIDn : FnScope ["game", "w", "seen", "slot", "thing", "dx", "dy", "box", "turn"] ["game", "w", "seen", "slot"] (defScope s_law_down) := ⟨rfl, rfl, rfl, by decide +kernel, rfl, by decide +kernel, by decide +kernel⟩
theorem ok_law_down (T : Txt K w mg) : FnOk P w K mg base CX0 8 (He.fAd K ("_law_down", none)) (fdAt K (He.fAd K ("_law_down", none))) ["game", "w", "seen", "slot"] (spIDn K) := by
  refine T.F_law_down.ok scIDn (fun vs H Q E h => ?_) (fun cdv A outer s H vs Q E hr h => ?_)
  · obtain ⟨g, wa, sd, G, st, pu, sl, s, t, B, p, rfl, _⟩ := h
    rfl
  · obtain ⟨g, wa, sd, G, st, pu, sl, s, t, B, p, rfl, hg, p0, p3, o, sa, s16, hst, hw, ks, yb, hB, k⟩ := h
    have hu := Nat.lt_of_le_of_lt (Nat.add_le_add_left (by decide : 1 ≤ 64) _) hr.units
    refine ⟨_, PSs.nox (pss_cons (ps_set (i := 4) scIDn.nd rfl (Or.inl rfl) (pe_ix (r := rIxL K) ix_list (pv 1) (pv 3) (fun _ _ => rfl)))
      (pss_cons (ps_if (pt_cmpR op_ge (pe_ix (r := rIxT K) ix_tup (pv 4) pe_int (fun _ _ => rfl)) (pe_ix (r := rIxT K) ix_tup (pe_call (ok_law_size T) (hr.mono (by first | decide | omega)) (by rfl) T.g_law_size (T.F_law_size).kp T.b_law_size .nil pass0 (pa_cons (pv 0) pa_nil)) pe_int (fun _ _ => rfl)) (nomark _)) (pss_one ps_retN) pss_nil)
      (pss_cons (ps_par (i := 5) (j := 6) (by rfl) scIDn.nd rfl rfl (by decide) rfl rfl (pa_cons (pe_ix (r := rIxT K) ix_tup (pv 4) pe_int (fun _ _ => rfl)) (pa_cons (pe_ix (r := rIxT K) ix_tup (pv 4) pe_int (fun _ _ => rfl)) pa_nil)) (by rfl))
      (pss_cons (ps_if (PW.pt (pw_and (pt_val (pe_call (ok_law_has T) (hr.mono (by first | decide | omega)) (by rfl) T.g_law_has (T.F_law_has).kp T.b_law_has .nil pass0 (pa_cons (pv 0) (pa_cons (pv 4) (pa_cons pe_str pa_nil))))) (pw_and1 (pt_cmpR op_eq (pe_ix (r := rIxT K) ix_tup (pv 4) pe_int (fun _ _ => rfl)) (pe_un un_neg pe_int) (nomark _))))) (pss_one (ps_set (i := 6) scIDn.nd rfl (Or.inl rfl) (pe_callB (call_min2 rfl) (by rfl) T.n_min PyProof.Rows.Boot.«min» (pa_cons pe_int (pa_cons (pe_op op_add (pv 6) (pe_ix (r := rIxT K) ix_tup (pe_ix (r := rIxT K) ix_tup (pv 0) pe_int (fun _ _ => rfl)) pe_int (fun _ _ => rfl))) pa_nil))))) pss_nil)
      (pss_cons (ps_set (i := 7) scIDn.nd rfl (Or.inl rfl) (pe_call (ok_law_box T) (hr.mono (by first | decide | omega)) (by rfl) T.g_law_box (T.F_law_box).kp T.b_law_box .nil pass0 (pa_cons (pv 0) (pa_cons (pv 4) pa_nil))))
      (pss_cons (ps_if (pt_cmpR op_eq (pe_call (ok_law_sign T) (hr.mono (by first | decide | omega)) (by rfl) T.g_law_sign (T.F_law_sign).kp T.b_law_sign .nil pass0 (pa_cons (pv 0) (pa_cons (pe_op op_add (pe_ix (r := rIxT K) ix_tup (pv 7) pe_int (fun _ _ => rfl)) (pe_op op_fdivW (pe_ix (r := rIxT K) ix_tup (pv 7) pe_int (fun _ _ => rfl)) pe_int)) (pa_cons (pe_op op_add (pe_ix (r := rIxT K) ix_tup (pv 7) pe_int (fun _ _ => rfl)) (pe_op op_fdivW (pe_ix (r := rIxT K) ix_tup (pv 7) pe_int (fun _ _ => rfl)) pe_int)) pa_nil)))) pe_str (nomark _)) (pss_cons (ps_set (i := 5) scIDn.nd rfl (Or.inl rfl) (pe_call (ok_law_keep T) (hr.mono (by first | decide | omega)) (by rfl) T.g_law_keep (T.F_law_keep).kp T.b_law_keep .nil pass0 (pa_cons (pv 5) (pa_cons (pe_un un_neg pe_int) (pa_cons pe_int pa_nil)))))
      (pss_one (ps_set (i := 6) scIDn.nd rfl (Or.inl rfl) (pe_call (ok_law_keep T) (hr.mono (by first | decide | omega)) (by rfl) T.g_law_keep (T.F_law_keep).kp T.b_law_keep .nil pass0 (pa_cons (pv 6) (pa_cons (pe_un un_neg pe_int) (pa_cons pe_int pa_nil))))))) pss_nil)
      (pss_cons (ps_asg (pe_op (show OpR _ _ (rCatA K) from op_catA) (pe_op (show OpR _ _ (rCatA K) from op_catA) (pe_slice (show SlR _ (rSlA K) from sl_tupA) (pv 4) po_none (po_some pe_int)) (pe_tup (pa_cons (pv 5) (pa_cons (pv 6) pa_nil)))) (pe_slice (show SlR _ (rSlA K) from sl_tupA) (pv 4) (po_some pe_int) po_none)) (pg_sub (pv 1) (pv 3) set_list))
      (pss_cons (ps_for PassesOwn.never rfl (pi_range1 (by rfl) T.n_range (pa_cons (pe_callB call_abs (by rfl) T.n_abs PyProof.Rows.Boot.«abs» (pa_cons (pv 6) pa_nil)) pa_nil)) (pg_name (i := 8) scIDn.nd rfl (Or.inl rfl)) (pss_one (ps_if (pt_not (pt_val (pe_call (ok_law_step T) (hr.mono (by first | decide | omega)) (by rfl) T.g_law_step (T.F_law_step).kp T.b_law_step .nil pass0 (pa_cons (pv 0) (pa_cons (pv 1) (pa_cons (pv 2) (pa_cons (pv 3) (pa_cons pe_int (pa_cons (pe_ifExp (pt_cmpR op_gt (pv 6) pe_int (nomark _)) pe_int (pe_un un_neg pe_int)) pa_nil))))))))) (pss_cons (ps_asg (pe_op (show OpR _ _ (rCatA K) from op_catA) (pe_op (show OpR _ _ (rCatA K) from op_catA) (pe_slice (show SlR _ (rSlA K) from sl_tupA) (pe_ix (r := rIxL K) ix_list (pv 1) (pv 3) (fun _ _ => rfl)) po_none (po_some pe_int)) (pe_tup (pa_cons pe_int pa_nil))) (pe_slice (show SlR _ (rSlA K) from sl_tupA) (pe_ix (r := rIxL K) ix_list (pv 1) (pv 3) (fun _ _ => rfl)) (po_some pe_int) po_none)) (pg_sub (pv 1) (pv 3) set_list))
      (pss_one ps_break)) pss_nil)))
      (pss_one (ps_asg (pe_op (show OpR _ _ (rCatA K) from op_catA) (pe_op (show OpR _ _ (rCatA K) from op_catA) (pe_slice (show SlR _ (rSlA K) from sl_tupA) (pe_ix (r := rIxL K) ix_list (pv 1) (pv 3) (fun _ _ => rfl)) po_none (po_some pe_int)) (pe_tup (pa_cons (pe_call (ok_law_rest T) (hr.mono (by first | decide | omega)) (by rfl) T.g_law_rest (T.F_law_rest).kp T.b_law_rest .nil pass0 (pa_cons (pv 0) (pa_cons (pv 1) (pa_cons (pv 2) (pa_cons (pv 3) pa_nil))))) pa_nil))) (pe_slice (show SlR _ (rSlA K) from sl_tupA) (pe_ix (r := rIxL K) ix_list (pv 1) (pv 3) (fun _ _ => rfl)) (po_some pe_int) po_none)) (pg_sub (pv 1) (pv 3) set_list))))))))))), ?_⟩
    obtain ⟨wv, hwv, wl, hws, hdl⟩ := id hw
    obtain ⟨v, hv, hvx⟩ := hws s _ hst
    obtain ⟨ta, oa, rfl, hta, hoa, ol⟩ : TgX K H v t := hvx
    have tk := sa.ok t (List.mem_of_getElem? hst)
    have td1 := tk.d1
    have td2 := tk.d2
    obtain ⟨kd, hkd, _⟩ := tk.kd
    have ebx : G.bx t = t.box kd := by unfold Gm.bx; rw [hkd]
    obtain ⟨kvs0, hk0⟩ := ks.dict
    have wsd : wa ≠ sd := fun e => by rw [e, hk0] at hwv; cases hwv
    refine ⟨_, rfl, _, rfl, wa, _, _, _, rfl, rfl, SqL.of hwv, atI_nat hv, ?_⟩
    refine ⟨_, rfl, ta, _, _, _, rfl, rfl, hta, atI_nat (j := 3) rfl, _, rfl, g, G, rfl, hg.gm, o, fun pz H1 s1 hpz => ⟨pz, _, _, _, rfl, rfl, SqT.of hpz, atI_nat (j := 1) rfl, _, _, rfl, rfl, _, rfl, ite2 (fun _ => k sl p H1 (F2.s s1) (hw.same s1) (ks.same s1) sa (yb.mono (by omega))) (fun _ => ?_)⟩⟩
    refine seq_cut (fun σ' H' => σ' = [some g, some (.ref wa), some (.ref sd), some (.int (s : Int)), some (.ref ta), none, none, none, none] ∧ H1 = H') (fun σ' H' hP => ?_) (fun R hR => hR _ _ ⟨rfl, rfl⟩)
    obtain ⟨rfl, rfl⟩ := hP
    have T1 := same_tf s1
    have hta1 := T1.sq hta
    have ht1 : TgAt K H1 (.ref ta) t := ⟨ta, _, rfl, hta1⟩
    refine ⟨_, rfl, ta, _, _, _, rfl, rfl, hta1, atI_nat (j := 4) rfl, _, rfl, ta, _, _, _, rfl, rfl, hta1, atI_nat (j := 5) rfl, _, _, rfl, ?_⟩
    refine seq_cut (fun σ' H' => σ' = [some g, some (.ref wa), some (.ref sd), some (.int (s : Int)), some (.ref ta), some (.int t.dx), some (.int t.dy), none, none] ∧ H1 = H') (fun σ' H' hP => ?_) (fun R hR => hR _ _ ⟨rfl, rfl⟩)
    obtain ⟨rfl, rfl⟩ := hP
    refine seq_cut (fun σ' H' => ∃ dy : Int, σ' = [some g, some (.ref wa), some (.ref sd), some (.int (s : Int)), some (.ref ta), some (.int t.dx), some (.int dy), none, none] ∧ -7 ≤ dy ∧ dy ≤ 7 ∧ H1 = H') (fun σ' H' hP => ?_) (fun R hR => ?_)
    rotate_left
    · obtain ⟨ga, lv, kv, rfl, sg, ⟨la, rs, sv, rfl, sla, _⟩, _⟩ := id (hg.tf T1)
      refine ⟨_, rfl, _, rfl, .ref ga, .ref ta, G, t, kd, "falls", rfl, (hg.tf T1).gm, ht1, hkd, _, rfl, ite2 (fun _ => ?_) (fun _ => hR _ _ ⟨t.dy, rfl, td1, td2, rfl⟩)⟩
      refine ⟨_, rfl, ta, _, _, _, rfl, rfl, hta1, atI_nat (j := 6) rfl, _, rfl, rfl, _, rfl, ite2 (fun _ => ?_) (fun _ => hR _ _ ⟨t.dy, rfl, td1, td2, rfl⟩)⟩
      refine ⟨_, rfl, _, rfl, ga, _, _, _, rfl, rfl, sg, atI_nat (j := 0) rfl, la, _, _, _, rfl, rfl, sla, atI_nat (j := 3) rfl, _, _, rfl, rfl, _, _, rfl, hR _ _ ⟨_, rfl, ?_, ?_, rfl⟩⟩
      · split <;> omega
      · split <;> omega
    obtain ⟨dy1, rfl, y1, y2, rfl⟩ := hP
    refine ⟨_, rfl, _, rfl, g, .ref ta, G, t, kd, rfl, (hg.tf T1).gm, ht1, hkd, fun pb H2 s2 hpb => ?_⟩
    refine seq_cut (fun σ' H' => σ' = [some g, some (.ref wa), some (.ref sd), some (.int (s : Int)), some (.ref ta), some (.int t.dx), some (.int dy1), some (.ref pb), none] ∧ H2 = H') (fun σ' H' hP => ?_) (fun R hR => hR _ _ ⟨rfl, rfl⟩)
    obtain ⟨rfl, rfl⟩ := hP
    have S2 := s1.trans s2
    have T2 := same_tf S2
    refine seq_cut (fun σ' H' => ∃ dx dy : Int, σ' = [some g, some (.ref wa), some (.ref sd), some (.int (s : Int)), some (.ref ta), some (.int dx), some (.int dy), some (.ref pb), none] ∧ -7 ≤ dy ∧ dy ≤ 7 ∧ Same H2 H') (fun σ' H' hP => ?_) (fun R hR => ?_)
    rotate_left
    · have d2 : ∀ i : Int, CDivW i 2 := fun i => wide_div (b := 10) (by decide) (by decide) (by decide) (by decide)
      have sqb : SqT K H2 pb (t.box kd).vs := SqT.of hpb
      refine ⟨_, rfl, _, rfl, pb, _, _, _, rfl, rfl, sqb, atI_nat (j := 0) rfl, _, rfl, pb, _, _, _, rfl, rfl, sqb, atI_nat (j := 2) rfl, _, _, rfl, rfl, d2 _, _, _, rfl, rfl, _, rfl, pb, _, _, _, rfl, rfl, sqb, atI_nat (j := 1) rfl, _, rfl, pb, _, _, _, rfl, rfl, sqb, atI_nat (j := 3) rfl, _, _, rfl, rfl, d2 _, _, _, rfl, rfl, g, G, _, _, rfl, (hg.tf T2).gm, o, fun H3 s3 => ⟨rfl, _, rfl, ite2 (fun _ => ?_) (fun _ => hR _ _ ⟨_, _, rfl, y1, y2, s3⟩)⟩⟩
      exact ⟨_, rfl, _, rfl, _, _, _, rfl, by decide, fun r1 _ _ => ⟨_, rfl, _, rfl, _, _, _, rfl, by decide, fun r2 q1 q2 => hR _ _ ⟨_, _, rfl, by omega, by omega, s3⟩⟩⟩
    clear y1 y2
    obtain ⟨dx, dy, rfl, y1, y2, s3⟩ := hP
    have S3 := S2.trans s3
    have T3 := same_tf S3
    have hta3 := T3.sq hta
    refine ⟨_, rfl, _, rfl, slA_gen hta3 fun q H4 s4 hq => ?_⟩
    have hq : SqT K H4 q [V.int (t.k : Int), V.int t.hs, V.int t.x, V.int t.y] := hq
    refine ⟨_, rfl, _, rfl, (show 2 ≤ sizeLine by decide), fun pt npt => ?_⟩
    have s5 := new_same (o := .tup [V.int dx, .int dy]) npt
    refine ⟨q, pt, _, _, rfl, rfl, (same_tf s5).sq hq, SqT.of upd_same, (show 6 ≤ sizeLine by decide), (fun e => nomatch e), (fun _ e => nomatch e), fun _ _ p5 np5 => ?_⟩
    have s6 := new_same (o := .tup [V.int (t.k : Int), V.int t.hs, V.int t.x, V.int t.y, V.int dx, .int dy]) np5
    have hp5 : SqT K (upd (upd H4 pt (.tup [V.int dx, .int dy])) p5 (.tup [V.int (t.k : Int), V.int t.hs, V.int t.x, V.int t.y, V.int dx, .int dy])) p5 [V.int (t.k : Int), V.int t.hs, V.int t.x, V.int t.y, V.int dx, .int dy] := SqT.of upd_same
    have S6 := ((S3.trans s4).trans s5).trans s6
    refine ⟨_, rfl, _, rfl, ?_⟩
    dsimp only [tNoPart]
    refine slA_gen ((same_tf S6).sq hta) fun q2 H7 s7 hq2 => ?_
    have hq2 : SqT K H7 q2 [V.int t.rest, .ref oa] := hq2
    refine ⟨p5, q2, _, _, rfl, rfl, (same_tf s7).sq hp5, hq2, (show 8 ≤ sizeLine by decide), (fun e => nomatch e), (fun _ e => nomatch e), fun _ _ pn npn => ?_⟩
    have s8 := new_same (o := .tup [V.int (t.k : Int), V.int t.hs, V.int t.x, V.int t.y, V.int dx, .int dy, V.int t.rest, .ref oa]) npn
    have S8 := (S6.trans s7).trans s8
    have hpn : SqT K (upd H7 pn (.tup [V.int (t.k : Int), V.int t.hs, V.int t.x, V.int t.y, V.int dx, .int dy, V.int t.rest, .ref oa])) pn [V.int (t.k : Int), V.int t.hs, V.int t.x, V.int t.y, V.int dx, .int dy, V.int t.rest, .ref oa] := SqT.of upd_same
    obtain ⟨H8, hH8⟩ : ∃ H8, H8 = upd H7 pn (.tup [V.int (t.k : Int), V.int t.hs, V.int t.x, V.int t.y, V.int dx, .int dy, V.int t.rest, .ref oa]) := ⟨_, rfl⟩
    show gSub _ _ _ _ _ (upd H7 pn (.tup [V.int (t.k : Int), V.int t.hs, V.int t.x, V.int t.y, V.int dx, .int dy, V.int t.rest, .ref oa])) _
    rw [← hH8] at S8 hpn ⊢
    obtain ⟨wv8, h81, h82, h83, h84⟩ := hw.same S8
    refine ⟨_, rfl, _, rfl, wa, wv8, (s : Int), s, rfl, rfl, h81, ixN_nat (by omega), ?_⟩
    have hw9 := WsD.put (t := { t with dx := dx, dy := dy, rest := t.rest }) h81 h82 h83 h84 s16 sa.len ⟨pn, oa, rfl, hpn, (same_tf S8).sq hoa, ol⟩
    obtain ⟨sa9, yb9⟩ := Yb.two o sa yb hst dx dy t.rest y1 y2
    have f9 : Frm wa H8 (upd H8 wa (.lst (wv8.set s (.ref pn)))) := Frm.of_upd
    have k9 := (ks.same S8).frm f9 (Ne.symm wsd)
    have F9 : F2 wa sd H (upd H8 wa (.lst (wv8.set s (.ref pn)))) := (F2.s S8).trans (F2.l f9)
    obtain ⟨sl9, hsl9⟩ : ∃ sl9, sl9 = sl.set s (some { t with dx := dx, dy := dy, rest := t.rest }) := ⟨_, rfl⟩
    have hst9 : ∃ u, sl9[s]? = some (some u) := ⟨_, by rw [hsl9, List.getElem?_set_self (by rw [sa.len]; exact s16)]⟩
    rw [← hsl9] at hw9 sa9 yb9
    obtain ⟨H9, hH9⟩ : ∃ H9, H9 = upd H8 wa (.lst (wv8.set s (.ref pn))) := ⟨_, rfl⟩
    rw [← hH9] at hw9 k9 F9 ⊢
    have T9 := ws_tf hw ks F9
    refine seq_cut (fun σ' H' => (∃ v8 : Option V, σ' = [some g, some (.ref wa), some (.ref sd), some (.int (s : Int)), some (.ref ta), some (.int dx), some (.int dy), some (.ref pb), v8]) ∧ ∃ (sl' : List (Option Tg)) (q : Int → Prop) (u : Tg), F2 wa sd H H' ∧ WsD K H' wa sl' ∧ KSet H' sd q ∧ SlAll G sl' ∧ Yb sl' (B + 119) ∧ sl'[s]? = some (some u)) (fun σ' H' hP => ?_) (fun R hR => ?_)
    rotate_left
    · obtain ⟨N, hN⟩ : ∃ N : Nat, N = (if dy < 0 then -dy else dy).toNat := ⟨_, rfl⟩
      have hN7 : (N : Int) ≤ 7 := by rw [hN]; split <;> omega
      refine ⟨_, rfl, _, rfl, _, rfl, by split <;> omega, by split <;> omega, ?_⟩
      rw [← hN]
      refine L2.for_it (walk_r0 (n := N)) (fun i σ H' => (∃ v8 : Option V, σ = [some g, some (.ref wa), some (.ref sd), some (.int (s : Int)), some (.ref ta), some (.int dx), some (.int dy), some (.ref pb), v8]) ∧ ∃ (sl' : List (Option Tg)) (q : Int → Prop) (u : Tg), F2 wa sd H H' ∧ WsD K H' wa sl' ∧ KSet H' sd q ∧ SlAll G sl' ∧ Yb sl' (B + 17 * (i : Int)) ∧ sl'[s]? = some (some u)) ⟨⟨_, rfl⟩, sl9, _, hst9.choose, F9, hw9, k9, sa9, yb9.mono (by omega), hst9.choose_spec⟩ (fun _ _ _ _ _ => trivial) (fun i x σ H10 Hx hi hPv hy => ?_) (fun σ H10 hPv => ?_)
      rotate_left
      · obtain ⟨⟨v8, rfl⟩, sl', q, u, f, w', k', sa', yb', hu⟩ := hPv
        exact hR _ _ ⟨⟨_, rfl⟩, sl', q, u, f, w', k', sa', yb'.mono (by omega), hu⟩
      obtain ⟨⟨v8, rfl⟩, sl', q, u, f, w', k', sa', yb', hu⟩ := hPv
      obtain ⟨rfl, rfl⟩ := hy
      have hg' := (hg.tf (ws_tf hw ks f)).gm
      refine ⟨_, rfl, _, rfl, _, rfl, _, rfl, _, rfl, _, _, rfl, rfl, _, rfl, ite2 (fun _ => ?_) (fun _ => ⟨_, rfl, ?_⟩)⟩
      · refine ⟨g, wa, sd, G, sl', s, u, 1, B + 17 * (i : Int), q, rfl, by decide, hg', o, sa', s16, hu, w', k', yb', by omega, fun b sl2 q2 H11 f11 w11 k11 sa11 yb11 sh11 => ?_⟩
        have F11 := f.trans f11
        obtain ⟨u2, hu2⟩ := sh11 s u hu
        cases b with
        | true => exact ⟨_, rfl, iteF ⟨⟨_, rfl⟩, sl2, q2, u2, F11, w11, k11, sa11, yb11.mono (by omega), hu2⟩⟩
        | false =>
          refine ⟨_, rfl, iteT ?_⟩
          obtain ⟨wvA, a1, a2, a3, a4⟩ := id w11
          obtain ⟨vA, hvA, hvAx⟩ := a3 s _ hu2
          obtain ⟨ua, uo, rfl, hua, huo, uol⟩ : TgX K H11 vA u2 := hvAx
          refine ⟨_, rfl, _, rfl, wa, _, _, _, rfl, rfl, SqL.of a1, atI_nat hvA, _, rfl, slA_gen hua fun qa HA sA hqa => ?_⟩
          have hqa : SqT K HA qa [V.int (u2.k : Int), V.int u2.hs, V.int u2.x, V.int u2.y, V.int u2.dx] := hqa
          refine ⟨(show 1 ≤ sizeLine by decide), fun pt npt => ?_⟩
          have sB := new_same (o := .tup [V.int 0]) npt
          have SB := sA.trans sB
          refine ⟨qa, pt, _, _, rfl, rfl, (same_tf sB).sq hqa, SqT.of upd_same, (show 6 ≤ sizeLine by decide), (fun e => nomatch e), (fun _ e => nomatch e), fun _ _ pc npc => ?_⟩
          have sC := new_same (o := .tup [V.int (u2.k : Int), V.int u2.hs, V.int u2.x, V.int u2.y, V.int u2.dx, V.int 0]) npc
          have hpc : SqT K (upd (upd HA pt (.tup [V.int 0])) pc (.tup [V.int (u2.k : Int), V.int u2.hs, V.int u2.x, V.int u2.y, V.int u2.dx, V.int 0])) pc [V.int (u2.k : Int), V.int u2.hs, V.int u2.x, V.int u2.y, V.int u2.dx, V.int 0] := SqT.of upd_same
          have SC := SB.trans sC
          refine ⟨_, rfl, _, rfl, wa, _, _, _, rfl, rfl, SqL.of (SC _ _ a1), atI_nat hvA, _, rfl, ?_⟩
          dsimp only [tNoPart]
          refine slA_gen ((same_tf SC).sq hua) fun qd HD sD hqd => ?_
          have hqd : SqT K HD qd [V.int u2.rest, .ref uo] := hqd
          refine ⟨pc, qd, _, _, rfl, rfl, (same_tf sD).sq hpc, hqd, (show 8 ≤ sizeLine by decide), (fun e => nomatch e), (fun _ e => nomatch e), fun _ _ pn npn => ?_⟩
          have sE := new_same (o := .tup [V.int (u2.k : Int), V.int u2.hs, V.int u2.x, V.int u2.y, V.int u2.dx, V.int 0, V.int u2.rest, .ref uo]) npn
          have SE := (SC.trans sD).trans sE
          have hpn : SqT K (upd HD pn (.tup [V.int (u2.k : Int), V.int u2.hs, V.int u2.x, V.int u2.y, V.int u2.dx, V.int 0, V.int u2.rest, .ref uo])) pn [V.int (u2.k : Int), V.int u2.hs, V.int u2.x, V.int u2.y, V.int u2.dx, V.int 0, V.int u2.rest, .ref uo] := SqT.of upd_same
          obtain ⟨HE, hHE⟩ : ∃ HE, HE = upd HD pn (.tup [V.int (u2.k : Int), V.int u2.hs, V.int u2.x, V.int u2.y, V.int u2.dx, V.int 0, V.int u2.rest, .ref uo]) := ⟨_, rfl⟩
          show gSub _ _ _ _ _ (upd HD pn (.tup [V.int (u2.k : Int), V.int u2.hs, V.int u2.x, V.int u2.y, V.int u2.dx, V.int 0, V.int u2.rest, .ref uo])) _
          rw [← hHE] at SE hpn ⊢
          obtain ⟨wvE, e1, e2, e3, e4⟩ := w11.same SE
          refine ⟨_, rfl, _, rfl, wa, wvE, (s : Int), s, rfl, rfl, e1, ixN_nat (by omega), ?_⟩
          have hwF := WsD.put (t := { u2 with dx := u2.dx, dy := 0, rest := u2.rest }) e1 e2 e3 e4 s16 sa11.len ⟨pn, uo, rfl, hpn, (same_tf SE).sq huo, uol⟩
          obtain ⟨saF, ybF⟩ := Yb.two o sa11 yb11 hu2 u2.dx 0 u2.rest (by decide) (by decide)
          have fF : Frm wa HE (upd HE wa (.lst (wvE.set s (.ref pn)))) := Frm.of_upd
          exact hR _ _ ⟨⟨_, rfl⟩, _, q2, _, F11.trans ((F2.s SE).trans (F2.l fF)), hwF, (k11.same SE).frm fF (Ne.symm wsd), saF, ybF.mono (by omega), by rw [List.getElem?_set_self (by rw [sa11.len]; exact s16)]⟩
      · refine ⟨g, wa, sd, G, sl', s, u, (-1), B + 17 * (i : Int), q, rfl, by decide, hg', o, sa', s16, hu, w', k', yb', by omega, fun b sl2 q2 H11 f11 w11 k11 sa11 yb11 sh11 => ?_⟩
        have F11 := f.trans f11
        obtain ⟨u2, hu2⟩ := sh11 s u hu
        cases b with
        | true => exact ⟨_, rfl, iteF ⟨⟨_, rfl⟩, sl2, q2, u2, F11, w11, k11, sa11, yb11.mono (by omega), hu2⟩⟩
        | false =>
          refine ⟨_, rfl, iteT ?_⟩
          obtain ⟨wvA, a1, a2, a3, a4⟩ := id w11
          obtain ⟨vA, hvA, hvAx⟩ := a3 s _ hu2
          obtain ⟨ua, uo, rfl, hua, huo, uol⟩ : TgX K H11 vA u2 := hvAx
          refine ⟨_, rfl, _, rfl, wa, _, _, _, rfl, rfl, SqL.of a1, atI_nat hvA, _, rfl, slA_gen hua fun qa HA sA hqa => ?_⟩
          have hqa : SqT K HA qa [V.int (u2.k : Int), V.int u2.hs, V.int u2.x, V.int u2.y, V.int u2.dx] := hqa
          refine ⟨(show 1 ≤ sizeLine by decide), fun pt npt => ?_⟩
          have sB := new_same (o := .tup [V.int 0]) npt
          have SB := sA.trans sB
          refine ⟨qa, pt, _, _, rfl, rfl, (same_tf sB).sq hqa, SqT.of upd_same, (show 6 ≤ sizeLine by decide), (fun e => nomatch e), (fun _ e => nomatch e), fun _ _ pc npc => ?_⟩
          have sC := new_same (o := .tup [V.int (u2.k : Int), V.int u2.hs, V.int u2.x, V.int u2.y, V.int u2.dx, V.int 0]) npc
          have hpc : SqT K (upd (upd HA pt (.tup [V.int 0])) pc (.tup [V.int (u2.k : Int), V.int u2.hs, V.int u2.x, V.int u2.y, V.int u2.dx, V.int 0])) pc [V.int (u2.k : Int), V.int u2.hs, V.int u2.x, V.int u2.y, V.int u2.dx, V.int 0] := SqT.of upd_same
          have SC := SB.trans sC
          refine ⟨_, rfl, _, rfl, wa, _, _, _, rfl, rfl, SqL.of (SC _ _ a1), atI_nat hvA, _, rfl, ?_⟩
          dsimp only [tNoPart]
          refine slA_gen ((same_tf SC).sq hua) fun qd HD sD hqd => ?_
          have hqd : SqT K HD qd [V.int u2.rest, .ref uo] := hqd
          refine ⟨pc, qd, _, _, rfl, rfl, (same_tf sD).sq hpc, hqd, (show 8 ≤ sizeLine by decide), (fun e => nomatch e), (fun _ e => nomatch e), fun _ _ pn npn => ?_⟩
          have sE := new_same (o := .tup [V.int (u2.k : Int), V.int u2.hs, V.int u2.x, V.int u2.y, V.int u2.dx, V.int 0, V.int u2.rest, .ref uo]) npn
          have SE := (SC.trans sD).trans sE
          have hpn : SqT K (upd HD pn (.tup [V.int (u2.k : Int), V.int u2.hs, V.int u2.x, V.int u2.y, V.int u2.dx, V.int 0, V.int u2.rest, .ref uo])) pn [V.int (u2.k : Int), V.int u2.hs, V.int u2.x, V.int u2.y, V.int u2.dx, V.int 0, V.int u2.rest, .ref uo] := SqT.of upd_same
          obtain ⟨HE, hHE⟩ : ∃ HE, HE = upd HD pn (.tup [V.int (u2.k : Int), V.int u2.hs, V.int u2.x, V.int u2.y, V.int u2.dx, V.int 0, V.int u2.rest, .ref uo]) := ⟨_, rfl⟩
          show gSub _ _ _ _ _ (upd HD pn (.tup [V.int (u2.k : Int), V.int u2.hs, V.int u2.x, V.int u2.y, V.int u2.dx, V.int 0, V.int u2.rest, .ref uo])) _
          rw [← hHE] at SE hpn ⊢
          obtain ⟨wvE, e1, e2, e3, e4⟩ := w11.same SE
          refine ⟨_, rfl, _, rfl, wa, wvE, (s : Int), s, rfl, rfl, e1, ixN_nat (by omega), ?_⟩
          have hwF := WsD.put (t := { u2 with dx := u2.dx, dy := 0, rest := u2.rest }) e1 e2 e3 e4 s16 sa11.len ⟨pn, uo, rfl, hpn, (same_tf SE).sq huo, uol⟩
          obtain ⟨saF, ybF⟩ := Yb.two o sa11 yb11 hu2 u2.dx 0 u2.rest (by decide) (by decide)
          have fF : Frm wa HE (upd HE wa (.lst (wvE.set s (.ref pn)))) := Frm.of_upd
          exact hR _ _ ⟨⟨_, rfl⟩, _, q2, _, F11.trans ((F2.s SE).trans (F2.l fF)), hwF, (k11.same SE).frm fF (Ne.symm wsd), saF, ybF.mono (by omega), by rw [List.getElem?_set_self (by rw [sa11.len]; exact s16)]⟩
    obtain ⟨⟨v8, rfl⟩, slZ, qZ, u, fZ, wZ, kZ, saZ, ybZ, hu⟩ := hP
    have TZ := ws_tf hw ks fZ
    obtain ⟨wvA, a1, a2, a3, a4⟩ := id wZ
    obtain ⟨vA, hvA, hvAx⟩ := a3 s _ hu
    obtain ⟨ua, uo, rfl, hua, huo, uol⟩ : TgX K H' vA u := hvAx
    refine ⟨_, rfl, _, rfl, wa, _, _, _, rfl, rfl, SqL.of a1, atI_nat hvA, _, rfl, slA_gen hua fun qa HA sA hqa => ?_⟩
    have hqa : SqT K HA qa [V.int (u.k : Int), V.int u.hs, V.int u.x, V.int u.y, V.int u.dx, V.int u.dy] := hqa
    have tfA0 := same_tf sA
    refine ⟨_, rfl, _, rfl, _, rfl, _, rfl, g, wa, sd, G, slZ, s, u, _, rfl, (hg.tf (TZ.trans tfA0)).gm, o, saZ, s16, hu, (wZ.same sA).wl, kZ.same sA, fun HR fR kR => ?_⟩
    obtain ⟨kvA, hkA⟩ := (kZ.same sA).dict
    have tfR := Frm.tfk fR hkA
    have wR : WsD K HR wa slZ := (wZ.same sA).tf tfR (by rw [sA _ _ a1]; exact fR _ _ wsd (sA _ _ a1))
    have hqa := tfR.sq hqa
    have hua := tfR.sq (tfA0.sq hua)
    have huo := tfR.sq (tfA0.sq huo)
    have a1 := fR _ _ wsd (sA _ _ a1)
    refine ⟨(show 1 ≤ sizeLine by decide), fun pt npt => ?_⟩
    have sB := new_same (o := .tup [V.int (restF G slZ s)]) npt
    have SB := sB
    refine ⟨qa, pt, _, _, rfl, rfl, (same_tf sB).sq hqa, SqT.of upd_same, (show 7 ≤ sizeLine by decide), (fun e => nomatch e), (fun _ e => nomatch e), fun _ _ pc npc => ?_⟩
    have sC := new_same (o := .tup [V.int (u.k : Int), V.int u.hs, V.int u.x, V.int u.y, V.int u.dx, V.int u.dy, V.int (restF G slZ s)]) npc
    have hpc : SqT K (upd (upd HR pt (.tup [V.int (restF G slZ s)])) pc (.tup [V.int (u.k : Int), V.int u.hs, V.int u.x, V.int u.y, V.int u.dx, V.int u.dy, V.int (restF G slZ s)])) pc [V.int (u.k : Int), V.int u.hs, V.int u.x, V.int u.y, V.int u.dx, V.int u.dy, V.int (restF G slZ s)] := SqT.of upd_same
    have SC := SB.trans sC
    refine ⟨_, rfl, _, rfl, wa, _, _, _, rfl, rfl, SqL.of (SC _ _ a1), atI_nat hvA, _, rfl, ?_⟩
    dsimp only [tNoPart]
    refine slA_gen ((same_tf SC).sq hua) fun qd HD sD hqd => ?_
    have hqd : SqT K HD qd [V.ref uo] := hqd
    refine ⟨pc, qd, _, _, rfl, rfl, (same_tf sD).sq hpc, hqd, (show 8 ≤ sizeLine by decide), (fun e => nomatch e), (fun _ e => nomatch e), fun _ _ pn npn => ?_⟩
    have sE := new_same (o := .tup [V.int (u.k : Int), V.int u.hs, V.int u.x, V.int u.y, V.int u.dx, V.int u.dy, V.int (restF G slZ s), .ref uo]) npn
    have SE := (SC.trans sD).trans sE
    have hpn : SqT K (upd HD pn (.tup [V.int (u.k : Int), V.int u.hs, V.int u.x, V.int u.y, V.int u.dx, V.int u.dy, V.int (restF G slZ s), .ref uo])) pn [V.int (u.k : Int), V.int u.hs, V.int u.x, V.int u.y, V.int u.dx, V.int u.dy, V.int (restF G slZ s), .ref uo] := SqT.of upd_same
    obtain ⟨HE, hHE⟩ : ∃ HE, HE = upd HD pn (.tup [V.int (u.k : Int), V.int u.hs, V.int u.x, V.int u.y, V.int u.dx, V.int u.dy, V.int (restF G slZ s), .ref uo]) := ⟨_, rfl⟩
    show gSub _ _ _ _ _ (upd HD pn (.tup [V.int (u.k : Int), V.int u.hs, V.int u.x, V.int u.y, V.int u.dx, V.int u.dy, V.int (restF G slZ s), .ref uo])) _
    rw [← hHE] at SE hpn ⊢
    obtain ⟨wvE, e1, e2, e3, e4⟩ := wR.same SE
    refine ⟨_, rfl, _, rfl, wa, wvE, (s : Int), s, rfl, rfl, e1, ixN_nat (by omega), ?_⟩
    have hwF := WsD.put (t := { u with dx := u.dx, dy := u.dy, rest := restF G slZ s }) e1 e2 e3 e4 s16 saZ.len ⟨pn, uo, rfl, hpn, (same_tf SE).sq huo, uol⟩
    obtain ⟨saF, ybF⟩ := Yb.two o saZ ybZ hu u.dx u.dy (restF G slZ s) (saZ.ok u (List.mem_of_getElem? hu)).d1 (saZ.ok u (List.mem_of_getElem? hu)).d2
    have fF : Frm wa HE (upd HE wa (.lst (wvE.set s (.ref pn)))) := Frm.of_upd
    exact k _ _ _ (fZ.trans ((F2.s sA).trans ((F2.r fR).trans ((F2.s SE).trans (F2.l fF))))) hwF ((kR.same SE).frm fF (Ne.symm wsd)) saF (ybF.mono (by omega))
end
end K27
set_option maxRecDepth 100000
set_option maxHeartbeats 4000000
/-! Whom a thing meets. -/
namespace K27
open PySem PySem.Spec PyProof.Rows L2 KF KD KP
/-- w, with its data told -/
def WxD (K : PySem.W.Frag) (H : Hp) (wa : Addr) (sl : List (Option Tg)) (wd : List PyData) : Prop := ∃ wv : List V, H wa = some (.lst wv) ∧ wv.length = 49 ∧ (∀ (i : Nat) (o : Option Tg), sl[i]? = some o → ∃ v : V, wv[i]? = some v ∧ SlX K H v o) ∧ DpAll K H wv wd ∧ ∀ e ∈ wd, AlOk 2 e
theorem WsD.wx {K : PySem.W.Frag} {H : Hp} {wa : Addr} {sl : List (Option Tg)} (h : WsD K H wa sl) : ∃ wd, WxD K H wa sl wd := by
  obtain ⟨tv, h1, h2, h3, h4⟩ := h
  obtain ⟨ds, g1, g2, _⟩ := h4.all
  exact ⟨ds, tv, h1, h2, h3, g1, g2⟩
theorem WxD.wl {K : PySem.W.Frag} {H : Hp} {wa : Addr} {sl : List (Option Tg)} {wd : List PyData} (h : WxD K H wa sl wd) : WlD K H wa sl wd := by
  obtain ⟨tv, h1, h2, h3, h4, h5⟩ := h
  exact ⟨tv, h1, h2, fun i o z => by obtain ⟨v, g1, g2⟩ := h3 i o z; exact ⟨v, g1, g2.at'⟩, h4, h5⟩
theorem WxD.tf {K : PySem.W.Frag} {H H' : Hp} {wa : Addr} {sl : List (Option Tg)} {wd : List PyData} (h : WxD K H wa sl wd) (e : TF H H') (f : H' wa = H wa) : WxD K H' wa sl wd := by
  obtain ⟨tv, h1, h2, h3, h4, h5⟩ := h
  exact ⟨tv, by rw [f]; exact h1, h2, fun i o z => by obtain ⟨v, g1, g2⟩ := h3 i o z; exact ⟨v, g1, g2.tf e⟩, dpa_nl e _ _ (al_nls h5) h4, h5⟩
theorem WxD.same {K : PySem.W.Frag} {H H' : Hp} {wa : Addr} {sl : List (Option Tg)} {wd : List PyData} (h : WxD K H wa sl wd) (e : Same H H') : WxD K H' wa sl wd := by
  obtain ⟨tv, h1, _⟩ := id h
  exact h.tf (same_tf e) (by rw [h1]; exact e _ _ h1)
theorem WxD.len {K : PySem.W.Frag} {H : Hp} {wa : Addr} {sl : List (Option Tg)} {wd : List PyData} (h : WxD K H wa sl wd) : wd.length = 49 := by
  obtain ⟨tv, h1, h2, h3, h4, h5⟩ := h
  rw [← dpa_len h4, h2]
theorem wx_tf {K : PySem.W.Frag} {H H' : Hp} {wa sd : Addr} {sl : List (Option Tg)} {wd : List PyData} {q : Int → Prop} (w : WxD K H wa sl wd) (k : KSet H sd q) (f : F2 wa sd H H') : TF H H' := fun c ys z => by
  obtain ⟨wv, hwv, _⟩ := w
  obtain ⟨kvs, hk⟩ := k.dict
  rcases z with z | ⟨u, z⟩
  · exact .inl (f c _ (fun n => by rw [n, hwv] at z; cases z) (fun n => by rw [n, hk] at z; cases z) z)
  · exact .inr ⟨u, f c _ (fun n => by rw [n, hwv] at z; cases z) (fun n => by rw [n, hk] at z; cases z) z⟩
theorem dpa_set {K : PySem.W.Frag} {H : Hp} {v : V} {d : PyData} (hv : Dp K H v d) : ∀ {wv : List V} {wd : List PyData} (n : Nat), DpAll K H wv wd → DpAll K H (wv.set n v) (wd.set n d)
  | _, _, _, .nil => .nil
  | _, _, 0, .cons _ h => .cons hv h
  | _, _, n + 1, .cons a h => .cons a (dpa_set hv n h)
theorem al_set {wd : List PyData} {d : PyData} (h : ∀ e ∈ wd, AlOk 2 e) (hd : AlOk 2 d) (n : Nat) : ∀ e ∈ wd.set n d, AlOk 2 e := fun e m => by
  rcases List.mem_or_eq_of_mem_set m with m | rfl
  · exact h e m
  · exact hd
section
variable {P : Program} {w : World} {K : PySem.W.Frag} {mg : Str → Option Value} {base : Heap}
def spIMe (K : PySem.W.Frag) : Sp := fun vs H Q _ => ∃ (g : V) (wa sd : Addr) (G : Gm) (sl : List (Option Tg)) (wd : List PyData) (s : Nat) (t : Tg) (p : Int → Prop), vs = [g, .ref wa, .ref sd, .int (s : Int)] ∧ GmAt K H g G ∧ G.ok ∧ SlAll G sl ∧ s < 16 ∧ sl[s]? = some (some t) ∧ WxD K H wa sl wd ∧ KSet H sd p ∧ ∀ H', F2 wa sd H H' → WxD K H' wa sl (metWd G sl wd s) → KSet H' sd (fun c => p c ∨ metP G sl s c) → Q .non H'
theorem scILme : FnScope ["game", "w", "seen", "slot", "box"] ["game", "w", "seen", "slot"] (defScope s_law_met) := ⟨rfl, rfl, rfl, by decide +kernel, rfl, by decide +kernel, by decide +kernel⟩
theorem ok_law_met (T : Txt K w mg) : FnOk P w K mg base CX0 4 (He.fAd K ("_law_met", none)) (fdAt K (He.fAd K ("_law_met", none))) ["game", "w", "seen", "slot"] (spIMe K) := by
  refine T.F_law_met.ok scILme (fun vs H Q E h => ?_) (fun cdv A outer s H vs Q E hr h => ?_)
  · obtain ⟨g, wa, sd, G, sl, wd, s, t, p, rfl, _⟩ := h
    rfl
  · obtain ⟨g, wa, sd, G, sl, wd, s, t, p, rfl, hg, o, sa, s16, hst, hw, ks, k⟩ := h
    have hu := Nat.lt_of_le_of_lt (Nat.add_le_add_left (by decide : 1 ≤ 64) _) hr.units
    refine ⟨_, PSs.nox (pss_cons (ps_set (i := 4) scILme.nd rfl (Or.inl rfl) (pe_call (ok_law_box T) (hr.mono (by first | decide | omega)) (by rfl) T.g_law_box (T.F_law_box).kp T.b_law_box .nil pass0 (pa_cons (pv 0) (pa_cons (pe_ix (r := rIxL K) ix_list (pv 1) (pv 3) (fun _ _ => rfl)) pa_nil))))
      (pss_cons (ps_dput hu (pv 2) (pe_op op_add pe_int (pv 3)) pe_bl rfl)
      (pss_one (ps_asg (pe_callTy call_tuple_of (by rfl) T.n_tuple PyProof.Rows.Boot.«tuple» (pa_cons (pe_call (ok_law_look T) (hr.mono (by first | decide | omega)) (by rfl) T.g_law_look (T.F_law_look).kp T.b_law_look .nil pass0 (pa_cons (pv 0) (pa_cons (pv 1) (pa_cons (pv 2) (pa_cons (pe_tup (pa_cons (pe_op op_sub (pe_ix (r := rIxT K) ix_tup (pv 4) pe_int (fun _ _ => rfl)) pe_int) (pa_cons (pe_op op_sub (pe_ix (r := rIxT K) ix_tup (pv 4) pe_int (fun _ _ => rfl)) pe_int) (pa_cons (pe_op op_add (pe_ix (r := rIxT K) ix_tup (pv 4) pe_int (fun _ _ => rfl)) pe_int) (pa_cons (pe_op op_add (pe_ix (r := rIxT K) ix_tup (pv 4) pe_int (fun _ _ => rfl)) pe_int) pa_nil))))) (pa_cons (pe_lst (pa_cons (pv 3) pa_nil)) pa_nil)))))) pa_nil)) (pg_sub (pv 1) (pe_op op_add pe_int (pv 3)) set_list))))), ?_⟩
    obtain ⟨wv, hwv, wl, hws, hdp, hal⟩ := id hw
    obtain ⟨v, hv, hvx⟩ := hws s _ hst
    have hv2 : TgAt K H v t := hvx.at'
    have tk := sa.ok t (List.mem_of_getElem? hst)
    obtain ⟨kd, hkd, _⟩ := tk.kd
    have ebx : G.bx t = t.box kd := by unfold Gm.bx; rw [hkd]
    have glim := gr_lim o tk
    obtain ⟨kvs0, hk0⟩ := ks.dict
    have wsd : wa ≠ sd := fun e => by rw [e, hk0] at hwv; cases hwv
    refine ⟨_, rfl, _, rfl, _, rfl, wa, _, _, _, rfl, rfl, SqL.of hwv, atI_nat hv, g, v, G, t, kd, rfl, hg, hv2, hkd, fun pb H1 s1 hpb => ?_⟩
    refine seq_cut (fun σ' H' => σ' = [some g, some (.ref wa), some (.ref sd), some (.int (s : Int)), some (.ref pb)] ∧ H1 = H') (fun σ' H' hP => ?_) (fun R hR => hR _ _ ⟨rfl, rfl⟩)
    obtain ⟨rfl, rfl⟩ := hP
    have hk1 := s1 _ _ hk0
    have ks1 := ks.same s1
    refine ⟨_, rfl, _, rfl, _, _, rfl, rfl, sd, _, rfl, DPut.k (k := .inl (16 + (s : Int))) hk1 (Nat.lt_of_le_of_lt (ks1.len hk1) (by decide)), ?_⟩
    have f2 : Frm sd H1 (upd H1 sd (.dK (putK kvs0 (.inl (16 + (s : Int))) (.bl true)))) := Frm.of_upd
    have k2 := kset_put (c := 16 + (s : Int)) (v := .bl true) ks1 hk1 (.inl ⟨by omega, by omega⟩)
    have tf2 := Frm.tfk f2 hk1
    have hwv2 := f2 _ _ wsd (s1 _ _ hwv)
    obtain ⟨H2, hH2⟩ : ∃ H2, H2 = upd H1 sd (.dK (putK kvs0 (.inl (16 + (s : Int))) (.bl true))) := ⟨_, rfl⟩
    rw [← hH2] at f2 k2 tf2 hwv2 ⊢
    have T2 := (same_tf s1).trans tf2
    have hpb2 : SqT K H2 pb (t.box kd).vs := tf2.sq (SqT.of hpb)
    refine ⟨_, rfl, _, rfl, _, rfl, _, rfl, pb, _, _, _, rfl, rfl, hpb2, atI_nat (j := 0) rfl, _, _, rfl, rfl, _, rfl, pb, _, _, _, rfl, rfl, hpb2, atI_nat (j := 1) rfl, _, _, rfl, rfl, _, rfl, pb, _, _, _, rfl, rfl, hpb2, atI_nat (j := 2) rfl, _, _, rfl, rfl, _, rfl, pb, _, _, _, rfl, rfl, hpb2, atI_nat (j := 3) rfl, _, _, rfl, rfl, (show 4 ≤ sizeLine by decide), fun pt npt => ⟨_, rfl, (show 1 ≤ sizeLine by decide), fun ps nps => ?_⟩⟩
    have s3 := (new_same npt).trans (new_same (o := .lst [V.int (s : Int)]) nps)
    have pssd : ps ≠ sd := nkey nps (k2.same (new_same npt))
    have hpt := new_same (o := .lst [V.int (s : Int)]) nps _ _ (upd_same (H := H2) (a := pt))
    refine ⟨g, .ref pt, .ref ps, wa, sd, G, sl, (G.bx t).gr 1, [s], _, rfl, hg.tf (T2.trans (same_tf s3)), o, sa, ((hw.wl.wl).tf (T2.trans (same_tf s3)) (by rw [s3 _ _ hwv2, hwv])), k2.same s3, ⟨pt, rfl, by rw [ebx]; exact SqT.of hpt⟩, glim, ⟨ps, rfl, fun H' f => .inl (SqL.of (f _ _ pssd upd_same))⟩, fun po H4 f4 k4 hpo npo => ?_⟩
    refine ⟨po, _, rfl, .inl ⟨SqL.of hpo, fun q nq => ?_⟩⟩
    have s5 := new_same (o := .tup (nV (lookL G sl ((G.bx t).gr 1) [s]))) nq
    obtain ⟨k3, hk3⟩ := (k2.same s3).dict
    have tf4 := Frm.tfk f4 hk3
    have hwv5 := s5 _ _ (f4 _ _ wsd (s3 _ _ hwv2))
    have T5 := (T2.trans (same_tf s3)).trans (tf4.trans (same_tf s5))
    have F5 : F2 wa sd H _ := ((F2.s s1).trans (F2.r f2)).trans (((F2.s s3).trans (F2.r f4)).trans (F2.s s5))
    have k5 := k4.same s5
    have hq5 : SqT K (upd H4 q (.tup (nV (lookL G sl ((G.bx t).gr 1) [s])))) q (nV (lookL G sl ((G.bx t).gr 1) [s])) := SqT.of upd_same
    obtain ⟨H5, hH5⟩ : ∃ H5, H5 = upd H4 q (.tup (nV (lookL G sl ((G.bx t).gr 1) [s]))) := ⟨_, rfl⟩
    show gSub _ _ _ _ _ (upd H4 q (.tup (nV (lookL G sl ((G.bx t).gr 1) [s])))) _
    rw [← hH5] at hwv5 T5 F5 k5 hq5 ⊢
    obtain ⟨wv5, e1, e2, e3, e4, e5⟩ := hw.tf T5 (by rw [hwv5, hwv])
    have hix : ixN wv5.length (16 + (s : Int)) = some (16 + s) := ixN_nat (n := wv5.length) (s := 16 + s) (by omega)
    refine ⟨_, rfl, _, rfl, _, _, rfl, rfl, wa, wv5, _, 16 + s, rfl, rfl, e1, hix, ?_⟩
    have f7 : Frm wa H5 (upd H5 wa (.lst (wv5.set (16 + s) (.ref q)))) := Frm.of_upd
    have t7 : TF H5 (upd H5 wa (.lst (wv5.set (16 + s) (.ref q)))) := TF.lst1 e1
    have ewd : metWd G sl wd s = wd.set (16 + s) (bkD (metL G sl s t)) := by unfold metWd; rw [hst]
    have emp : ∀ c, seenP G sl ((G.bx t).gr 1) [s] (fun x => p x ∨ x = 16 + (s : Int)) c ↔ p c ∨ metP G sl s c := fun c => by
      unfold metP
      rw [hst]
      dsimp only
      exact ⟨fun z => z.elim (fun z => z.elim .inl fun z => .inr (.inl z)) fun z => .inr (.inr z), fun z => z.elim (fun z => .inl (.inl z)) fun z => z.elim (fun z => .inl (.inr z)) .inr⟩
    rw [ewd] at k
    refine k _ (F5.trans (F2.l f7)) ⟨_, upd_same, by rw [List.length_set]; exact e2, fun i so z => ?_, dpa_set (bkD_dp (t7.sq hq5)) _ (dpa_nl t7 _ _ (al_nls e5) e4), al_set e5 (bkD_al _ (look_len _ _ _ _)) (16 + s)⟩ ((k5.frm f7 (Ne.symm wsd)).imp emp)
    have hi := (List.getElem?_eq_some_iff.mp z).1
    rw [sa.len] at hi
    rw [List.getElem?_set_ne (by omega)]
    obtain ⟨u, g1, g2⟩ := e3 i so z
    exact ⟨u, g1, g2.tf t7⟩
end
end K27
set_option maxRecDepth 100000
set_option maxHeartbeats 4000000
/-! What is due. -/
namespace K27
open PySem PySem.Spec PyProof.Rows L2 KF KD KP
theorem eqv_al : ∀ (n : Nat) (d : PyData), AlOk n d → PyData.eqv d d = true
  | _, .none, _ => by simp [PyData.eqv]
  | _, .int _, _ => by simp [PyData.eqv]
  | n + 1, .tuple ds, h => by
    have g : ∀ l : List PyData, (∀ e ∈ l, AlOk n e) → PyData.eqvAll l l = true := fun l => by
      induction l with
      | nil => exact fun _ => by simp [PyData.eqvAll]
      | cons d l ih =>
        intro hl
        rw [PyData.eqvAll, eqv_al n d (hl d List.mem_cons_self), ih fun e he => hl e (List.mem_cons_of_mem _ he)]
        rfl
    have := g ds h.2
    simpa [PyData.eqv] using this
  | 0, .tuple _, h => h.elim
  | 0, .bool _, h => h.elim
  | _ + 1, .bool _, h => h.elim
  | 0, .str _, h => h.elim
  | _ + 1, .str _, h => h.elim
  | 0, .list _, h => h.elim
  | _ + 1, .list _, h => h.elim
  | 0, .dict _, h => h.elim
  | _ + 1, .dict _, h => h.elim
theorem gd_app1 {a b : List PyData} {n : Nat} (h : n < a.length) : (a ++ b).getD n .none = a.getD n .none := by
  rw [List.getD_eq_getElem?_getD, List.getD_eq_getElem?_getD, List.getElem?_append_left h]
theorem gd_app2 {a b : List PyData} {n : Nat} (h : a.length ≤ n) : (a ++ b).getD n .none = b.getD (n - a.length) .none := by
  rw [List.getD_eq_getElem?_getD, List.getD_eq_getElem?_getD, List.getElem?_append_right h]
theorem gd_set {a : List PyData} {n m : Nat} {d : PyData} (h : n < a.length) : (a.set n d).getD m .none = if m = n then d else a.getD m .none := by
  rw [List.getD_eq_getElem?_getD, List.getD_eq_getElem?_getD]
  by_cases e : m = n
  · rw [if_pos e, e, List.getElem?_set_self h]
    rfl
  · rw [if_neg e, List.getElem?_set_ne (Ne.symm e)]
theorem gd_bks {G : Gm} {sl : List (Option Tg)} {k : Nat} (h : (k : Int) < G.bh * G.bw) : (bksD G sl).getD k .none = bkD (bkt G sl (49 + (k : Int))) := by
  unfold bksD
  rw [List.getD_eq_getElem?_getD, List.getElem?_map, List.getElem?_range (by omega)]
  rfl
theorem bks_len (G : Gm) (sl : List (Option Tg)) : (bksD G sl).length = (G.bh * G.bw).toNat := by
  unfold bksD
  rw [List.length_map, List.length_range]
theorem metWd_len {G : Gm} {sl : List (Option Tg)} {wd : List PyData} {s : Nat} : (metWd G sl wd s).length = wd.length := by
  unfold metWd
  split
  · rw [List.length_set]
  · rfl
theorem met_both {G : Gm} {sl : List (Option Tg)} {wd : List PyData} {s : Nat} (s16 : s < 16) (hl : wd.length = 49) {c : Int} (c0 : 0 ≤ c) :
    (∀ d, metC G sl s c = some d → (metWd G sl wd s ++ bksD G sl).getD c.toNat .none = d) ∧ (metC G sl s c = none → (metWd G sl wd s ++ bksD G sl).getD c.toNat .none = (wd ++ bksD G sl).getD c.toNat .none) := by
  obtain ⟨n, rfl⟩ := Int.eq_ofNat_of_zero_le c0
  rw [Int.toNat_natCast]
  have ml := metWd_len (G := G) (sl := sl) (wd := wd) (s := s)
  by_cases hn : n < 49
  · rw [gd_app1 (by omega), gd_app1 (by omega)]
    unfold metC metWd
    split
    · rw [gd_set (by omega)]
      by_cases h1 : n = 16 + s
      · rw [if_pos h1, if_pos (by omega)]
        exact ⟨fun d z => (by injection z), fun z => (by cases z)⟩
      · rw [if_neg h1, if_neg (by omega)]
        exact ⟨fun d z => (by cases z), fun _ => rfl⟩
    · exact ⟨fun d z => (by cases z), fun _ => rfl⟩
  · rw [gd_app2 (by omega), gd_app2 (by omega), ml]
    unfold metC
    split
    · rw [if_neg (by omega)]
      exact ⟨fun d z => (by cases z), fun _ => rfl⟩
    · exact ⟨fun d z => (by cases z), fun _ => rfl⟩
def neD (X0 X1 : List PyData) (c : Int) : Bool := !PyData.eqv (X1.getD c.toNat .none) (X0.getD c.toNat .none)
def dueD (X0 X1 : List PyData) (N : Nat) : PyData := .tuple ((((List.range N).map fun i : Nat => (i : Int)).filter (neD X0 X1)).map fun c => .tuple [.int c, X1.getD c.toNat .none])
theorem wr_due {G : Gm} {sl : List (Option Tg)} {wd : List PyData} {s N : Nat} {ys : List Int} (o : G.ok) (sa : SlAll G sl) (s16 : s < 16) (hl : wd.length = 49) (al : ∀ e ∈ wd ++ bksD G sl, AlOk 2 e) (hN : (N : Int) = 49 + G.bh * G.bw) (hy : ys.Pairwise (· < ·)) (hm : ∀ c, c ∈ ys ↔ (metC G sl s c).isSome = true) (hr : ∀ c ∈ ys, 0 ≤ c ∧ c < (N : Int)) :
    wrD (wd ++ bksD G sl) (metC G sl s) ys = dueD (wd ++ bksD G sl) (metWd G sl wd s ++ bksD G sl) N := by
  unfold wrD dueD
  have gd : ∀ c, 0 ≤ c → c < (N : Int) → PyData.eqv ((wd ++ bksD G sl).getD c.toNat .none) ((wd ++ bksD G sl).getD c.toNat .none) = true := fun c _ _ => by
    refine eqv_al 2 _ ?_
    rw [List.getD_eq_getElem?_getD]
    cases e : (wd ++ bksD G sl)[c.toNat]? with
    | none => exact trivial
    | some x => exact al x (List.mem_of_getElem? e)
  have el : ys.filter (chN (wd ++ bksD G sl) (metC G sl s)) = ((List.range N).map fun i : Nat => (i : Int)).filter (neD (wd ++ bksD G sl) (metWd G sl wd s ++ bksD G sl)) := by
    refine srt_uniq _ _ (List.Pairwise.sublist (List.filter_sublist) hy) (List.Pairwise.sublist (List.filter_sublist) ?_) fun c => ?_
    · have h := range_lt N fun _ => true
      rwa [List.filter_eq_self.mpr (fun _ _ => rfl)] at h
    · rw [List.mem_filter, List.mem_filter]
      constructor
      · rintro ⟨m, q⟩
        obtain ⟨c0, c1⟩ := hr c m
        obtain ⟨d, hd⟩ := Option.isSome_iff_exists.mp ((hm c).mp m)
        have b := (met_both (G := G) (sl := sl) (wd := wd) s16 hl c0).1 d hd
        refine ⟨List.mem_map.mpr ⟨c.toNat, List.mem_range.mpr (by omega), by omega⟩, ?_⟩
        unfold chN at q
        rw [hd] at q
        unfold neD
        rw [b]
        exact q
      · rintro ⟨m, q⟩
        obtain ⟨i, hi, rfl⟩ := List.mem_map.mp m
        have hi := List.mem_range.mp hi
        have b := met_both (G := G) (sl := sl) (wd := wd) s16 hl (c := (i : Int)) (by omega)
        unfold neD at q
        cases hd : metC G sl s (i : Int) with
        | none =>
          rw [b.2 hd, gd _ (by omega) (by omega)] at q
          exact absurd q (by decide)
        | some d =>
          refine ⟨(hm _).mpr (by rw [hd]; rfl), ?_⟩
          rw [b.1 d hd] at q
          unfold chN
          rw [hd]
          exact q
  rw [el]
  refine congrArg PyData.tuple (List.map_congr_left fun c m => ?_)
  obtain ⟨m1, q⟩ := List.mem_filter.mp m
  obtain ⟨i, hi, rfl⟩ := List.mem_map.mp m1
  have hi := List.mem_range.mp hi
  have b := met_both (G := G) (sl := sl) (wd := wd) s16 hl (c := (i : Int)) (by omega)
  cases hd : metC G sl s (i : Int) with
  | none =>
    unfold neD at q
    rw [b.2 hd, gd _ (by omega) (by omega)] at q
    exact absurd q (by decide)
  | some d =>
    rw [b.1 d hd]
    rfl
theorem metC_rng {G : Gm} {sl : List (Option Tg)} {s : Nat} {c : Int} (o : G.ok) (s16 : s < 16) (h : (metC G sl s c).isSome = true) : 0 ≤ c ∧ c < 49 + G.bh * G.bw := by
  have b := bhw o
  unfold metC at h
  split at h
  · split at h
    · omega
    · cases h
  · cases h
theorem metP_rng {G : Gm} {sl : List (Option Tg)} {s n : Nat} {c : Int} (o : G.ok) (sa : SlAll G sl) (s16 : s < 16) (hn : (n : Int) = 49 + G.bh * G.bw) (h : metP G sl s c) : 0 ≤ c ∧ c < (n : Int) := by
  have b := bhw o
  unfold metP at h
  split at h
  · rename_i t e
    rcases h with z | z
    · omega
    · exact seen_lt o (gr_lim o (sa.ok t (List.mem_of_getElem? e))) hn z
  · exact h.elim
end K27
set_option maxRecDepth 100000
set_option maxHeartbeats 4000000
/-! Small questions of the program. -/
namespace K27
open PySem PySem.Spec PyProof.Rows L2 KF KD KP
section
variable {P : Program} {w : World} {K : PySem.W.Frag} {mg : Str → Option Value} {base : Heap}
theorem lets26 (c : Nat) (h : 97 ≤ c ∧ c < 123) : decide (c ∈ (Str.ofString "abcdefghijklmnopqrstuvwxyz").cps.toList) = true := by
  obtain ⟨n, rfl⟩ := Nat.exists_eq_add_of_le h.1
  have : ∀ n : Fin 26, decide (97 + n.val ∈ (Str.ofString "abcdefghijklmnopqrstuvwxyz").cps.toList) = true := by decide +kernel
  exact this ⟨n, by omega⟩
theorem all_true : ∀ n, (List.replicate n true).all id = true := by intro n; simp
def spIRow (K : PySem.W.Frag) : Sp := fun vs H Q _ => ∃ (a : Addr) (l : List Int) (lo hi' : Int), vs = [.ref a, .int lo, .int hi'] ∧ SqT K H a (l.map V.int) ∧ l.length ≤ 1000 ∧ (∀ x ∈ l, lo ≤ x ∧ x ≤ hi') ∧ ∀ H', Same H H' → Q (.bl true) H'
theorem scIRw2 : FnScope ["told", "low", "high", "number"] ["told", "low", "high"] (defScope s_is_row) := ⟨rfl, rfl, rfl, by decide +kernel, rfl, by decide +kernel, by decide +kernel⟩
theorem ok_is_row (T : Txt K w mg) : FnOk P w K mg base CX0 3 (He.fAd K ("is_row", none)) (fdAt K (He.fAd K ("is_row", none))) ["told", "low", "high"] (spIRow K) := by
  refine T.F_is_row.ok scIRw2 (fun vs H Q E h => ?_) (fun cdv A outer s H vs Q E hr h => ?_)
  · obtain ⟨a, l, lo, hi', rfl, _⟩ := h
    rfl
  · obtain ⟨a, l, lo, hi', rfl, ht, hl, hb, k⟩ := h
    have hu := Nat.lt_of_le_of_lt (Nat.add_le_add_left (by decide : 1 ≤ 64) _) hr.units
    refine ⟨_, PSs.nox (pss_one (ps_ret (pe_and (pe_callB (r := rIsi K) call_isi (by rfl) T.n_isinstance PyProof.Rows.Boot.«isinstance» (pa_cons (pv 0) (pa_cons (pe_bltn (v := .ty "tuple") (by rfl) T.n_tuple PyProof.Rows.Boot.«tuple» rfl) pa_nil))) (pe_one (pe_callB (cr_all rfl) (by rfl) T.n_all PyProof.Rows.Boot.«all» (pa_cons (pe_lc (own := [("number", 3)]) (g := gName 3) (tt := tYes) (by rfl) scIRw2.nd (pi_tup (pv 0)) (blkOk_by (own := [("number", 3)]) (N := ["told", "low", "high", "number"]) (sc := defScope s_is_row) (by decide +kernel)) (fun _ _ _ _ _ => pg_name (i := 3) scIRw2.nd rfl (Or.inl rfl)) (fun _ _ _ _ _ => pts_nil) (fun _ _ _ _ _ => (pe_call (ok_is_between T) (hr.mono (by first | decide | omega)) (by rfl) T.g_is_between (T.F_is_between).kp T.b_is_between .nil pass0 (pa_cons (pv 3) (pa_cons (pv 1) (pa_cons (pv 2) pa_nil)))))) pa_nil)))))), ?_⟩
    refine ⟨_, rfl, _, _, _, _, _, rfl, .ty "tuple", ty_tup ht, kit_ty (r := true) (by decide +kernel), _, rfl, iteT ?_⟩
    refine ⟨_, rfl, a, rfl, ⟨_, ht⟩, fun D hD => ?_⟩
    refine lc_it (walk_tup (K := K) (a := a) (xs := l.map V.int)) (fun i H' => Same H H' ∧ H' D = some (.lst ((List.replicate i true).map V.bl))) ⟨new_same hD, upd_same⟩ (fun i H' _ h => (same_tf h.1).sq ht) (fun i v H' Hx hi h yy => ?_) (fun H' h => ?_)
    · obtain ⟨rfl, hv⟩ := yy
      obtain ⟨sm, hl2⟩ := h
      rw [List.length_map] at hi
      rw [List.getElem?_map, List.getElem?_eq_getElem hi] at hv
      cases hv
      refine ⟨rfl, ?_⟩
      dsimp only [tYes]
      rw [if_pos rfl]
      obtain ⟨b1, b2⟩ := hb l[i] (List.getElem_mem hi)
      refine ⟨_, rfl, _, rfl, _, rfl, l[i], lo, hi', rfl, b1, b2, ?_⟩
      refine ⟨_, hl2, by rw [List.length_map, List.length_replicate]; exact Nat.lt_of_lt_of_le (show i < 1000 by omega) (by decide), fun c o z => ?_, ?_⟩
      · rw [upd_ne (ne_of_none z hD)]
        exact sm _ _ z
      · rw [upd_same, List.replicate_succ', List.map_append]
        rfl
    · refine ⟨D, _, rfl, SqL.of h.2, ?_⟩
      rw [all_true]
      exact k H' h.1
def spINm (K : PySem.W.Frag) : Sp := fun vs H Q _ => ∃ z : Str, vs = [.str z] ∧ 1 ≤ z.length ∧ z.length ≤ 8 ∧ (∀ c ∈ z.cps.toList, 97 ≤ c ∧ c < 123) ∧ ∀ H', Same H H' → Q (.bl true) H'
theorem scINm : FnScope ["told", "letter"] ["told"] (defScope s_is_name) := ⟨rfl, rfl, rfl, by decide +kernel, rfl, by decide +kernel, by decide +kernel⟩
theorem ok_is_name (T : Txt K w mg) : FnOk P w K mg base CX0 1 (He.fAd K ("is_name", none)) (fdAt K (He.fAd K ("is_name", none))) ["told"] (spINm K) := by
  obtain ⟨u1, g1, r1⟩ := T.c_MOST_LETTERS
  obtain ⟨u2, g2, r2⟩ := T.c_LETTERS
  refine T.F_is_name.ok scINm (fun vs H Q E h => ?_) (fun cdv A outer s H vs Q E hr h => ?_)
  · obtain ⟨z, rfl, _⟩ := h
    rfl
  · obtain ⟨z, rfl, z1, z8, hc, k⟩ := h
    have hu := Nat.lt_of_le_of_lt (Nat.add_le_add_left (by decide : 1 ≤ 64) _) hr.units
    refine ⟨_, PSs.nox (pss_cons (ps_if (PW.pt (pw_or (pt_not (pt_val (pe_callB (r := rIsi K) call_isi (by rfl) T.n_isinstance PyProof.Rows.Boot.«isinstance» (pa_cons (pv 0) (pa_cons (pe_bltn (v := .ty "str") (by rfl) T.n_str PyProof.Rows.Boot.«str» rfl) pa_nil))))) (pw_or1 (pt_not (pt_chain op_le op_le pe_int (pe_callB call_len_str (by rfl) T.n_len PyProof.Rows.Boot.«len» (pa_cons (pv 0) pa_nil)) (pe_glob (v := .int 8) (by rfl) g1 r1)))))) (pss_one (ps_ret pe_bl)) pss_nil)
      (pss_one (ps_ret (pe_callB (cr_all rfl) (by rfl) T.n_all PyProof.Rows.Boot.«all» (pa_cons (pe_lc (own := [("letter", 1)]) (g := gName 1) (tt := tYes) (by rfl) scINm.nd (pi_str (pv 0)) (blkOk_by (own := [("letter", 1)]) (N := ["told", "letter"]) (sc := defScope s_is_name) (by decide +kernel)) (fun _ _ _ _ _ => pg_name (i := 1) scINm.nd rfl (Or.inl rfl)) (fun _ _ _ _ _ => pts_nil) (fun _ _ _ _ _ => (pe_cmpR op_in_sign (pv 1) (pe_glob (v := .str "abcdefghijklmnopqrstuvwxyz") (by rfl) g2 r2) rfl))) pa_nil))))), ?_⟩
    refine ⟨_, rfl, _, _, _, _, _, rfl, .ty "str", .base (.str _), kit_ty (r := true) (by decide +kernel), _, rfl, iteF ?_⟩
    refine ⟨_, rfl, z, rfl, Nat.le_trans z8 (by decide), _, _, rfl, rfl, _, rfl, ite2 (fun _ => ?_) (fun q => absurd (decide_eq_true (show (1 : Int) ≤ (z.length : Int) by omega)) q)⟩
    refine ⟨_, _, rfl, rfl, _, rfl, ?_⟩
    dsimp only
    rw [decide_eq_true (show (z.length : Int) ≤ 8 by omega)]
    refine iteF ?_
    refine ⟨_, rfl, z, rfl, fun D hD => ?_⟩
    refine lc_it walk_str (fun i H' => Same H H' ∧ H' D = some (.lst ((List.replicate i true).map V.bl))) ⟨new_same hD, upd_same⟩ (fun _ _ _ _ => trivial) (fun i v H' Hx hi h yy => ?_) (fun H' h => ?_)
    · obtain ⟨rfl, c, hcj, rfl⟩ := yy
      obtain ⟨sm, hl2⟩ := h
      have hcm : c ∈ z.cps.toList := List.mem_of_getElem? (show z.cps.toList[i]? = some c by rw [Array.getElem?_toList]; exact hcj)
      refine ⟨rfl, ?_⟩
      dsimp only [tYes]
      rw [if_pos rfl]
      have hi : i < z.length := hi
      refine ⟨_, rfl, c, _, rfl, rfl, _, hl2, by rw [List.length_map, List.length_replicate]; exact Nat.lt_of_lt_of_le (show i < 1000 by omega) (by decide), fun c o z => ?_, ?_⟩
      · rw [upd_ne (ne_of_none z hD)]
        exact sm _ _ z
      · rw [upd_same, List.replicate_succ', List.map_append]
        have := lets26 c (hc c hcm)
        rw [this]
        rfl
    · refine ⟨D, _, rfl, SqL.of h.2, ?_⟩
      rw [all_true]
      exact k H' h.1
def spISn (K : PySem.W.Frag) : Sp := fun vs H Q _ => ∃ c : Nat, vs = [.str ⟨#[c]⟩] ∧ isSg c = true ∧ Q (.bl true) H
theorem scISn : FnScope ["told"] ["told"] (defScope s_is_sign) := ⟨rfl, rfl, rfl, by decide +kernel, rfl, by decide +kernel, by decide +kernel⟩
theorem ok_is_sign (T : Txt K w mg) : FnOk P w K mg base CX0 1 (He.fAd K ("is_sign", none)) (fdAt K (He.fAd K ("is_sign", none))) ["told"] (spISn K) := by
  obtain ⟨uS, gS, rS⟩ := T.c_SIGNS
  refine T.F_is_sign.ok scISn (fun vs H Q E h => ?_) (fun cdv A outer s H vs Q E hr h => ?_)
  · obtain ⟨c, rfl, _⟩ := h
    rfl
  · obtain ⟨c, rfl, hc, q⟩ := h
    have hu := Nat.lt_of_le_of_lt (Nat.add_le_add_left (by decide : 1 ≤ 64) _) hr.units
    refine ⟨_, PSs.nox (pss_one (ps_ret (pe_and (pe_callB (r := rIsi K) call_isi (by rfl) T.n_isinstance PyProof.Rows.Boot.«isinstance» (pa_cons (pv 0) (pa_cons (pe_bltn (v := .ty "str") (by rfl) T.n_str PyProof.Rows.Boot.«str» rfl) pa_nil))) (pe_and (pe_cmpR op_eq (pe_callB call_len_str (by rfl) T.n_len PyProof.Rows.Boot.«len» (pa_cons (pv 0) pa_nil)) pe_int (nomark _)) (pe_one (pe_cmpR op_in_sign (pv 0) (pe_glob (v := .str ".#=<>^wg") (by rfl) gS rS) rfl)))))), ?_⟩
    refine ⟨_, rfl, _, _, _, _, _, rfl, .ty "str", .base (.str _), kit_ty (r := true) (by decide +kernel), _, rfl, iteT ?_⟩
    refine ⟨_, rfl, _, rfl, (show 1 ≤ sizeLine by decide), rfl, _, rfl, iteT ?_⟩
    refine ⟨_, rfl, c, _, rfl, rfl, ?_⟩
    have hc : decide (c ∈ (Str.ofString ".#=<>^wg").cps.toList) = true := hc
    rw [hc]
    exact q
def ascB (l : List Str) : Bool := (l.zip (l.drop 1)).all fun p => decide (p.1.cps.toList < p.2.cps.toList)
theorem asc_all : ∀ l ∈ trAll, ascB l = true := by decide +kernel
theorem cut1s {l : List Str} : cutV (l.map V.str) (some 1) none = (l.drop 1).map V.str := by
  unfold cutV
  rw [show (1 : Int) = ((1 : Nat) : Int) from rfl, HT.sIx_nat, HT.sIx_none, List.map_drop]
  cases l with
  | nil => rfl
  | cons n ns =>
    rw [show min 1 (List.map V.str (n :: ns)).length = 1 by simp]
    exact List.take_of_length_le (by simp)
def spIAsc (K : PySem.W.Frag) : Sp := fun vs H Q _ => ∃ (a : Addr) (l : List Str), vs = [.ref a] ∧ SqT K H a (l.map V.str) ∧ l ∈ trAll ∧ ∀ H', Same H H' → Q (.bl true) H'
theorem scIAs : FnScope ["row", "one", "other"] ["row"] (defScope s_ascends) := ⟨rfl, rfl, rfl, by decide +kernel, rfl, by decide +kernel, by decide +kernel⟩
theorem ok_ascends (T : Txt K w mg) : FnOk P w K mg base CX0 1 (He.fAd K ("ascends", none)) (fdAt K (He.fAd K ("ascends", none))) ["row"] (spIAsc K) := by
  refine T.F_ascends.ok scIAs (fun vs H Q E h => ?_) (fun cdv A outer s H vs Q E hr h => ?_)
  · obtain ⟨a, l, rfl, _⟩ := h
    rfl
  · obtain ⟨a, l, rfl, hs, hl, k⟩ := h
    have hu := Nat.lt_of_le_of_lt (Nat.add_le_add_left (by decide : 1 ≤ 64) _) hr.units
    refine ⟨_, PSs.nox (pss_one (ps_ret (pe_callB (cr_all rfl) (by rfl) T.n_all PyProof.Rows.Boot.«all» (pa_cons (pe_lc (own := [("one", 1), ("other", 2)]) (g := gTup K 2 (gCons (gName 1) (gCons (gName 2) gNil))) (tt := tYes) (by rfl) scIAs.nd (RZ.pi_zipA (by rfl) T.n_zip (pa_cons (pv 0) (pa_cons (pe_slice (show SlR _ (rSlA K) from sl_tupA) (pv 0) (po_some pe_int) po_none) pa_nil))) (blkOk_by (own := [("one", 1), ("other", 2)]) (N := ["row", "one", "other"]) (sc := defScope s_ascends) (by decide +kernel)) (fun _ _ _ _ _ => (pg_tup (by rfl) (pgs_cons (pg_name (i := 1) scIAs.nd rfl (Or.inl rfl)) (pgs_cons (pg_name (i := 2) scIAs.nd rfl (Or.inl rfl)) pgs_nil)))) (fun _ _ _ _ _ => pts_nil) (fun _ _ _ _ _ => (pe_cmpR op_lt_str (pv 1) (pv 2) (nomark _)))) pa_nil)))), ?_⟩
    have hlen := trAll_len l hl
    refine ⟨_, rfl, _, rfl, _, rfl, ?_⟩
    dsimp only [tNoPart]
    refine slA_gen hs fun p H1 s1 hp => ?_
    rw [cut1s] at hp
    have hs1 := (same_tf s1).sq hs
    refine ⟨a, p, _, _, rfl, .inr ⟨hs1, hp, fun D hD => ?_⟩⟩
    refine lc_it (walk_zipT (K := K) (a := a) (b := p) (xs := l.map V.str) (ys := (l.drop 1).map V.str) rfl) (fun i H' => Same H1 H' ∧ H' D = some (.lst ((List.replicate i true).map V.bl))) ⟨new_same hD, upd_same⟩ (fun i H' _ h => ⟨(same_tf h.1).sq hs1, (same_tf h.1).sq hp⟩) (fun i v H' Hx hi h yy => ?_) (fun H' h => ?_)
    · obtain ⟨T1, x1, y1, rfl, nT, rfl, hx, hy⟩ := yy
      obtain ⟨sm, hl2⟩ := h
      rw [List.length_map, List.length_map, List.length_drop] at hi
      have i1 : i < l.length := by omega
      have i2 : i + 1 < l.length := by omega
      replace hx : (l.map V.str)[i]? = some x1 := hx
      replace hy : ((l.drop 1).map V.str)[i]? = some y1 := hy
      rw [List.getElem?_map, List.getElem?_eq_getElem i1] at hx
      rw [List.getElem?_map, List.getElem?_drop, Nat.add_comm 1 i, List.getElem?_eq_getElem i2] at hy
      cases hx
      cases hy
      refine ⟨T1, _, rfl, SqT.of upd_same, rfl, _, _, rfl, _, _, rfl, rfl, ?_⟩
      refine ⟨rfl, ?_⟩
      dsimp only [tYes]
      rw [if_pos rfl]
      have st := new_same (o := .tup [V.str l[i], V.str l[i + 1]]) nT
      refine ⟨_, rfl, _, rfl, _, _, rfl, rfl, ?_⟩
      have lt : decide (l[i].cps.toList < l[i + 1].cps.toList) = true := by
        refine List.all_eq_true.mp (asc_all l hl) (l[i], l[i + 1]) (List.mem_iff_getElem?.mpr ⟨i, ?_⟩)
        rw [List.getElem?_zip_eq_some]
        exact ⟨List.getElem?_eq_getElem i1, by rw [List.getElem?_drop, Nat.add_comm 1 i]; exact List.getElem?_eq_getElem i2⟩
      rw [lt]
      refine ⟨_, st _ _ hl2, by rw [List.length_map, List.length_replicate]; exact Nat.lt_of_lt_of_le (show i < 1000 by omega) (by decide), fun c o z => ?_, ?_⟩
      · rw [upd_ne (ne_of_none z hD)]
        exact st _ _ (sm _ _ z)
      · rw [upd_same, List.replicate_succ', List.map_append]
        rfl
    · refine ⟨D, _, rfl, SqL.of h.2, ?_⟩
      rw [all_true]
      exact k H' (s1.trans h.1)
end
end K27
set_option maxRecDepth 100000
set_option maxHeartbeats 4000000
/-! Kinds of the program. -/
namespace K27
open PySem PySem.Spec PyProof.Rows L2 KF KD KP
section
variable {P : Program} {w : World} {K : PySem.W.Frag} {mg : Str → Option Value} {base : Heap}
def spIMs (K : PySem.W.Frag) : Sp := fun vs H Q _ => ∃ a : Addr, vs = [.ref a] ∧ SqT K H a [] ∧ ∀ q H', Same H H' → H' q = some (.tup [.int 0, .int 0]) → Q (.ref q) H'
theorem scIMs : FnScope ["script", "waiting", "size", "depth", "told", "is_deed", "deep", "parts", "deed", "part", "part_is_deed"] ["script"] (defScope s_measured) := ⟨rfl, rfl, rfl, by decide +kernel, rfl, by decide +kernel, by decide +kernel⟩
theorem ok_measured (T : Txt K w mg) : FnOk P w K mg base CX0 1 (He.fAd K ("measured", none)) (fdAt K (He.fAd K ("measured", none))) ["script"] (spIMs K) := by
  obtain ⟨u1, g1, r1⟩ := T.c_MOST_TUPLES
  obtain ⟨u2, g2, r2⟩ := T.c_MOST_DEEP
  refine T.F_measured.ok scIMs (fun vs H Q E h => ?_) (fun cdv A outer s H vs Q E hr h => ?_)
  · obtain ⟨a, rfl, _⟩ := h
    rfl
  · obtain ⟨a, rfl, ht, k⟩ := h
    have hu := Nat.lt_of_le_of_lt (Nat.add_le_add_left (by decide : 1 ≤ 64) _) hr.units
    refine ⟨_, PSs.nox (pss_cons (ps_if (pt_not (pt_val (pe_callB (r := rIsi K) call_isi (by rfl) T.n_isinstance PyProof.Rows.Boot.«isinstance» (pa_cons (pv 0) (pa_cons (pe_bltn (v := .ty "tuple") (by rfl) T.n_tuple PyProof.Rows.Boot.«tuple» rfl) pa_nil))))) (pss_one (ps_ret pe_non)) pss_nil)
      (pss_cons (ps_setLc (i := 1) (own := [("deed", 8)]) (g := gName 8) (tt := tYes) (by rfl) scIMs.nd rfl rfl (sw_true rfl rfl rfl (by decide +kernel)) (pi_tup (pv 0)) (blkOk_by (own := [("deed", 8)]) (N := ["script", "waiting", "size", "depth", "told", "is_deed", "deep", "parts", "deed", "part", "part_is_deed"]) (sc := defScope s_measured) (by decide +kernel)) (fun _ _ _ _ _ => pg_name (i := 8) scIMs.nd rfl (Or.inl rfl)) (fun _ _ _ _ _ => pts_nil) (fun _ _ _ _ _ => (pe_tup (pa_cons (pv 8) (pa_cons pe_bl (pa_cons pe_int pa_nil))))))
      (pss_cons (ps_set (i := 2) scIMs.nd rfl (Or.inl rfl) pe_int)
      (pss_cons (ps_set (i := 3) scIMs.nd rfl (Or.inl rfl) pe_int)
      (pss_cons (ps_while PassesOwn.never (pt_truth (pv 1) (by intro _; rfl)) (pss_cons (ps_asg (pe_bm0 PySem.F.plainAttrs_list PySem.F.slot_list_pop PySem.F.type_list_pop mt_pop (pv 1)) (pg_tup (by rfl) (pgs_cons (pg_name (i := 4) scIMs.nd rfl (Or.inl rfl)) (pgs_cons (pg_name (i := 5) scIMs.nd rfl (Or.inl rfl)) (pgs_cons (pg_name (i := 6) scIMs.nd rfl (Or.inr rfl)) pgs_nil)))))
      (pss_cons ps_never
      (pss_cons (ps_aug (i := 2) scIMs.nd rfl (Or.inl rfl) pe_int ip_add)
      (pss_cons (ps_if (PW.pt (pw_or (pt_cmpR op_isN (pv 7) pe_non (nomark _)) (pw_or (pt_cmpR op_gt (pv 2) (pe_glob (v := .int 60) (by rfl) g1 r1) (nomark _)) (pw_or1 (pt_cmpR op_gt (pv 6) (pe_glob (v := .int 8) (by rfl) g2 r2) (nomark _)))))) (pss_one (ps_ret pe_non)) pss_nil)
      (pss_cons (ps_set (i := 3) scIMs.nd rfl (Or.inl rfl) (pe_callB (call_max2 rfl) (by rfl) T.n_max PyProof.Rows.Boot.«max» (pa_cons (pv 3) (pa_cons (pv 6) pa_nil))))
      (pss_one (ps_expr (pe_bm PySem.F.plainAttrs_list PySem.F.slot_list_extend PySem.F.type_list_extend mt_extend (pv 1) (pa_cons (pe_lc (own := [("part", 9), ("part_is_deed", 10)]) (g := gTup K 2 (gCons (gName 9) (gCons (gName 10) gNil))) (tt := tYes) (by rfl) scIMs.nd (pi_list (pv 7)) (blkOk_by (own := [("part", 9), ("part_is_deed", 10)]) (N := ["script", "waiting", "size", "depth", "told", "is_deed", "deep", "parts", "deed", "part", "part_is_deed"]) (sc := defScope s_measured) (by decide +kernel)) (fun _ _ _ _ _ => (pg_tup (by rfl) (pgs_cons (pg_name (i := 9) scIMs.nd rfl (Or.inl rfl)) (pgs_cons (pg_name (i := 10) scIMs.nd rfl (Or.inl rfl)) pgs_nil)))) (fun _ _ _ _ _ => pts_nil) (fun _ _ _ _ _ => (pe_tup (pa_cons (pv 9) (pa_cons (pv 10) (pa_cons (pe_op op_add (pv 6) pe_int) pa_nil)))))) pa_nil))))))))))
      (pss_one (ps_ret (pe_tup (pa_cons (pv 2) (pa_cons (pv 3) pa_nil)))))))))), ?_⟩
    refine ⟨_, rfl, _, _, _, _, _, rfl, .ty "tuple", ty_tup ht, kit_ty (r := true) (by decide +kernel), _, rfl, iteF ?_⟩
    refine ⟨_, rfl, a, rfl, ⟨_, ht⟩, fun D hD => ?_⟩
    refine lc_tup (xs := []) (fun i H' => H' = upd H D (.lst [])) rfl (fun i H' _ h => (same_tf (by rw [h]; exact new_same hD)).sq ht) (fun i y H' hy hPv => by cases hy) (fun H1 hPv => ?_)
    subst hPv
    refine ⟨fun (_ : Nat) σ H' => (∃ v4 v5 v6 v7 v8 v9 v10 : Option V, σ = [some (.ref a), some (.ref D), some (.int 0), some (.int 0), v4, v5, v6, v7, v8, v9, v10]) ∧ H' = upd H D (.lst []), ⟨0, ⟨_, _, _, _, _, _, _, rfl⟩, rfl⟩, fun m σ H2 hW => ?_⟩
    obtain ⟨⟨v4, v5, v6, v7, v8, v9, v10, rfl⟩, rfl⟩ := hW
    exact ⟨_, rfl, _, .inl ⟨[], SqL.of upd_same, rfl⟩, iteF ⟨_, rfl, _, rfl, (show 2 ≤ sizeLine by decide), fun q nq => k q _ ((new_same hD).trans (new_same nq)) upd_same⟩⟩
def spIWn (K : PySem.W.Frag) : Sp := fun vs H Q _ => ∃ a : Addr, vs = [.ref a] ∧ SqT K H a [] ∧ ∀ q H', Same H H' → H' q = some (.lst []) → Q (.ref q) H'
theorem scIWn : FnScope ["script", "waiting", "found", "told", "part"] ["script"] (defScope s_within) := ⟨rfl, rfl, rfl, by decide +kernel, rfl, by decide +kernel, by decide +kernel⟩
theorem ok_within (T : Txt K w mg) : FnOk P w K mg base CX0 1 (He.fAd K ("within", none)) (fdAt K (He.fAd K ("within", none))) ["script"] (spIWn K) := by
  refine T.F_within.ok scIWn (fun vs H Q E h => ?_) (fun cdv A outer s H vs Q E hr h => ?_)
  · obtain ⟨a, rfl, _⟩ := h
    rfl
  · obtain ⟨a, rfl, ht, k⟩ := h
    have hu := Nat.lt_of_le_of_lt (Nat.add_le_add_left (by decide : 1 ≤ 64) _) hr.units
    refine ⟨_, PSs.nox (pss_cons (ps_set (i := 1) scIWn.nd rfl (Or.inl rfl) (pe_callTy call_list_of (by rfl) T.n_list PyProof.Rows.Boot.«list» (pa_cons (pv 0) pa_nil)))
      (pss_cons (ps_set (i := 2) scIWn.nd rfl (Or.inl rfl) (pe_lst pa_nil))
      (pss_cons (ps_while PassesOwn.never (pt_truth (pv 1) (by intro _; rfl)) (pss_cons (ps_set (i := 3) scIWn.nd rfl (Or.inl rfl) (pe_bm0 PySem.F.plainAttrs_list PySem.F.slot_list_pop PySem.F.type_list_pop mt_pop (pv 1)))
      (pss_cons (ps_expr (pe_bm PySem.F.plainAttrs_list PySem.F.slot_list_append PySem.F.type_list_append mt_append (pv 2) (pa_cons (pv 3) pa_nil)))
      (pss_one (ps_if (pt_cmpR op_eq (pe_ix (r := rIxT K) ix_tup (pv 3) pe_int (fun _ _ => rfl)) pe_str (nomark _)) (pss_cons (ps_expr (pe_bm PySem.F.plainAttrs_list PySem.F.slot_list_append PySem.F.type_list_append mt_append (pv 1) (pa_cons (pe_ix (r := rIxT K) ix_tup (pv 3) pe_int (fun _ _ => rfl)) pa_nil)))
      (pss_cons ps_never
      (pss_one ps_never))) (pss_one ps_never))))))
      (pss_one (ps_ret (pv 2)))))), ?_⟩
    refine ⟨_, rfl, a, [], rfl, .inr ht, fun p np => ⟨(show 0 ≤ sizeLine by decide), fun q nq => ?_⟩⟩
    have s1 := new_same (o := .lst []) np
    have s2 := new_same (o := .lst []) nq
    refine ⟨fun (_ : Nat) σ H' => (∃ v3 v4 : Option V, σ = [some (.ref a), some (.ref p), some (.ref q), v3, v4]) ∧ H' = upd (upd H p (.lst [])) q (.lst []), ⟨0, ⟨_, _, rfl⟩, rfl⟩, fun m σ H2 hW => ?_⟩
    obtain ⟨⟨v3, v4, rfl⟩, rfl⟩ := hW
    exact ⟨_, rfl, _, .inl ⟨[], SqL.of (s2 _ _ upd_same), rfl⟩, iteF ⟨_, rfl, k q _ (s1.trans s2) upd_same⟩⟩
def spIKi (K : PySem.W.Frag) : Sp := fun vs H Q _ => ∃ a : Addr, vs = [.ref a] ∧ SqT K H a [] ∧ ∀ q H', Same H H' → H' q = some (.lst []) → Q (.ref q) H'
theorem scIKi : FnScope ["script", "told"] ["script"] (defScope s_kinds_in) := ⟨rfl, rfl, rfl, by decide +kernel, rfl, by decide +kernel, by decide +kernel⟩
theorem ok_kinds_in (T : Txt K w mg) : FnOk P w K mg base CX0 2 (He.fAd K ("kinds_in", none)) (fdAt K (He.fAd K ("kinds_in", none))) ["script"] (spIKi K) := by
  refine T.F_kinds_in.ok scIKi (fun vs H Q E h => ?_) (fun cdv A outer s H vs Q E hr h => ?_)
  · obtain ⟨a, rfl, _⟩ := h
    rfl
  · obtain ⟨a, rfl, ht, k⟩ := h
    have hu := Nat.lt_of_le_of_lt (Nat.add_le_add_left (by decide : 1 ≤ 64) _) hr.units
    refine ⟨_, PSs.nox (pss_one (ps_ret (pe_lc (own := [("told", 1)]) (g := gName 1) (by rfl) scIKi.nd (pi_list (pe_call (ok_within T) (hr.mono (by first | decide | omega)) (by rfl) T.g_within (T.F_within).kp T.b_within .nil pass0 (pa_cons (pv 0) pa_nil))) (blkOk_by (own := [("told", 1)]) (N := ["script", "told"]) (sc := defScope s_kinds_in) (by decide +kernel)) (fun _ _ _ _ _ => pg_name (i := 1) scIKi.nd rfl (Or.inl rfl)) (fun _ _ _ _ _ => pts_one (pt_cmpR (r := rIn K false) op_in_seq (pe_ix (r := rIxT K) ix_tup (pv 1) pe_int (fun _ _ => rfl)) (pe_tup (pa_cons pe_str (pa_cons pe_str (pa_cons pe_str pa_nil)))) rfl)) (fun _ _ _ _ _ => (pe_ix (r := rIxT K) ix_tup (pv 1) pe_int (fun _ _ => rfl)))))), ?_⟩
    refine ⟨_, rfl, a, rfl, ht, fun q H1 s1 hq => ⟨q, rfl, ⟨_, SqL.of hq⟩, fun D hD => ?_⟩⟩
    refine lc_it (walk_list (K := K) (a := q) (xs := [])) (fun i H' => H' = upd H1 D (.lst [])) rfl (fun i H' _ h => by rw [h]; exact SqL.of (new_same hD _ _ hq)) (fun i v H' Hx hi h yy => by cases hi) (fun H' h => ?_)
    subst h
    exact k D _ (s1.trans (new_same hD)) upd_same
def spIIs (K : PySem.W.Frag) : Sp := fun vs H Q _ => ∃ a : Addr, vs = [.ref a] ∧ SqT K H a [] ∧ ∀ H', Same H H' → Q (.bl true) H'
theorem scIIs : FnScope ["told"] ["told"] (defScope s_is_script) := ⟨rfl, rfl, rfl, by decide +kernel, rfl, by decide +kernel, by decide +kernel⟩
theorem ok_is_script (T : Txt K w mg) : FnOk P w K mg base CX0 2 (He.fAd K ("is_script", none)) (fdAt K (He.fAd K ("is_script", none))) ["told"] (spIIs K) := by
  refine T.F_is_script.ok scIIs (fun vs H Q E h => ?_) (fun cdv A outer s H vs Q E hr h => ?_)
  · obtain ⟨a, rfl, _⟩ := h
    rfl
  · obtain ⟨a, rfl, ht, k⟩ := h
    have hu := Nat.lt_of_le_of_lt (Nat.add_le_add_left (by decide : 1 ≤ 64) _) hr.units
    refine ⟨_, PSs.nox (pss_one (ps_ret (pe_cmpR op_notN (pe_call (ok_measured T) (hr.mono (by first | decide | omega)) (by rfl) T.g_measured (T.F_measured).kp T.b_measured .nil pass0 (pa_cons (pv 0) pa_nil)) pe_non (nomark _)))), ?_⟩
    refine ⟨_, rfl, a, rfl, ht, fun q H1 s1 hq => ?_⟩
    exact ⟨rfl, k H1 s1⟩
def spIOw (K : PySem.W.Frag) : Sp := fun vs H Q _ => ∃ (a : Addr) (l : List Int), vs = [.ref a] ∧ SqT K H a (l.map V.int) ∧ l.length = 4 ∧ (∀ x ∈ l, -999 ≤ x ∧ x ≤ 999) ∧ ∀ H', Same H H' → Q (.bl true) H'
theorem scIOw : FnScope ["own"] ["own"] (defScope s_is_own) := ⟨rfl, rfl, rfl, by decide +kernel, rfl, by decide +kernel, by decide +kernel⟩
theorem ok_is_own (T : Txt K w mg) : FnOk P w K mg base CX0 4 (He.fAd K ("_is_own", none)) (fdAt K (He.fAd K ("_is_own", none))) ["own"] (spIOw K) := by
  obtain ⟨u1, g1, r1⟩ := T.c_MOST_SET
  refine T.F_is_own.ok scIOw (fun vs H Q E h => ?_) (fun cdv A outer s H vs Q E hr h => ?_)
  · obtain ⟨a, l, rfl, _⟩ := h
    rfl
  · obtain ⟨a, l, rfl, ht, hl, hb, k⟩ := h
    have hu := Nat.lt_of_le_of_lt (Nat.add_le_add_left (by decide : 1 ≤ 64) _) hr.units
    refine ⟨_, PSs.nox (pss_one (ps_ret (pe_and (pe_call (ok_is_row T) (hr.mono (by first | decide | omega)) (by rfl) T.g_is_row (T.F_is_row).kp T.b_is_row .nil pass0 (pa_cons (pv 0) (pa_cons (pe_un un_neg (pe_glob (v := .int 999) (by rfl) g1 r1)) (pa_cons (pe_glob (v := .int 999) (by rfl) g1 r1) pa_nil)))) (pe_one (pe_cmpR op_eq (pe_callB (r := Evl.rLenS K) call_len_seq (by rfl) T.n_len PyProof.Rows.Boot.«len» (pa_cons (pv 0) pa_nil)) pe_int (nomark _)))))), ?_⟩
    refine ⟨_, rfl, _, rfl, a, l, -999, 999, rfl, ht, by omega, hb, fun H1 s1 => ⟨_, rfl, iteT ?_⟩⟩
    refine ⟨_, rfl, a, _, rfl, .inr ((same_tf s1).sq ht), rfl, ?_⟩
    rw [List.length_map, hl]
    exact k H1 s1
def trOkB (l : List Str) : Bool := (!(inV (V.str "pushed") (l.map V.str)) && !(inV (V.str "carries") (l.map V.str))) || inV (V.str "bars") (l.map V.str)
theorem tr_ok : ∀ l ∈ trAll, trOkB l = true := by decide +kernel
theorem tr_inB : ∀ l ∈ trAll, ∀ x ∈ l, inV (V.str x) (trn.map V.str) = true := by decide +kernel
theorem tr_in (K : PySem.W.Frag) (l : List Str) (h : l ∈ trAll) (x : Str) (m : x ∈ l) : inV (V.str x) (v_TRAITS.map (He.Dv.v K)) = true := tr_inB l h x m
def spITr (K : PySem.W.Frag) : Sp := fun vs H Q _ => ∃ (a : Addr) (l : List Str), vs = [.ref a] ∧ SqT K H a (l.map V.str) ∧ l ∈ trAll ∧ ∀ H', Same H H' → Q (.bl true) H'
theorem scITr : FnScope ["traits", "trait"] ["traits"] (defScope s_are_traits) := ⟨rfl, rfl, rfl, by decide +kernel, rfl, by decide +kernel, by decide +kernel⟩
theorem ok_are_traits (T : Txt K w mg) : FnOk P w K mg base CX0 2 (He.fAd K ("_are_traits", none)) (fdAt K (He.fAd K ("_are_traits", none))) ["traits"] (spITr K) := by
  refine T.F_are_traits.ok scITr (fun vs H Q E h => ?_) (fun cdv A outer s H vs Q E hr h => ?_)
  · obtain ⟨a, l, rfl, _⟩ := h
    rfl
  · obtain ⟨a, l, rfl, ht, hl, k⟩ := h
    have hu := Nat.lt_of_le_of_lt (Nat.add_le_add_left (by decide : 1 ≤ 64) _) hr.units
    refine ⟨_, PSs.nox (pss_cons (ps_if (PW.pt (pw_or (pt_not (pt_val (pe_callB (r := rIsi K) call_isi (by rfl) T.n_isinstance PyProof.Rows.Boot.«isinstance» (pa_cons (pv 0) (pa_cons (pe_bltn (v := .ty "tuple") (by rfl) T.n_tuple PyProof.Rows.Boot.«tuple» rfl) pa_nil))))) (pw_or1 (pt_not (pt_val (pe_callB (cr_all rfl) (by rfl) T.n_all PyProof.Rows.Boot.«all» (pa_cons (pe_lc (own := [("trait", 1)]) (g := gName 1) (tt := tYes) (by rfl) scITr.nd (pi_tup (pv 0)) (blkOk_by (own := [("trait", 1)]) (N := ["traits", "trait"]) (sc := defScope s_are_traits) (by decide +kernel)) (fun _ _ _ _ _ => pg_name (i := 1) scITr.nd rfl (Or.inl rfl)) (fun _ _ _ _ _ => pts_nil) (fun _ _ _ _ _ => (pe_cmpR (r := rIn K false) op_in_seq (pv 1) (pe_glob (v := .ref (He.ga K "TRAITS")) (by rfl) T.g_TRAITS rfl) rfl))) pa_nil))))))) (pss_one (ps_ret pe_bl)) pss_nil)
      (pss_cons (ps_if (PW.pt (pw_and (PW.pt (pw_or (pt_cmpR (r := rIn K false) op_in_seq pe_str (pv 0) rfl) (pw_or1 (pt_cmpR (r := rIn K false) op_in_seq pe_str (pv 0) rfl)))) (pw_and1 (pt_cmpR (r := rIn K true) op_notIn_seq pe_str (pv 0) rfl)))) (pss_one (ps_ret pe_bl)) pss_nil)
      (pss_one (ps_ret (pe_call (ok_ascends T) (hr.mono (by first | decide | omega)) (by rfl) T.g_ascends (T.F_ascends).kp T.b_ascends .nil pass0 (pa_cons (pv 0) pa_nil)))))), ?_⟩
    refine ⟨_, rfl, _, _, _, _, _, rfl, .ty "tuple", ty_tup ht, kit_ty (r := true) (by decide +kernel), _, rfl, iteF ?_⟩
    have hlen := trAll_len l hl
    refine ⟨_, rfl, a, rfl, ⟨_, ht⟩, fun D hD => ?_⟩
    refine lc_it (walk_tup (K := K) (a := a) (xs := l.map V.str)) (fun i H' => Same H H' ∧ H' D = some (.lst ((List.replicate i true).map V.bl))) ⟨new_same hD, upd_same⟩ (fun i H' _ h => (same_tf h.1).sq ht) (fun i v H' Hx hi h yy => ?_) (fun H' h => ?_)
    · obtain ⟨rfl, hv⟩ := yy
      obtain ⟨sm, hl2⟩ := h
      rw [List.length_map] at hi
      rw [List.getElem?_map, List.getElem?_eq_getElem hi] at hv
      cases hv
      refine ⟨rfl, ?_⟩
      dsimp only [tYes]
      rw [if_pos rfl]
      refine ⟨_, rfl, He.ga K "TRAITS", _, rfl, .inr (T.t_TRAITS _), rfl, by rfl, ?_⟩
      have e : inV (V.str l[i]) (v_TRAITS.map (He.Dv.v K)) = true := tr_in K l hl _ (List.getElem_mem hi)
      rw [e]
      refine ⟨_, hl2, by rw [List.length_map, List.length_replicate]; exact Nat.lt_of_lt_of_le (show i < 1000 by omega) (by decide), fun c o z => ?_, ?_⟩
      · rw [upd_ne (ne_of_none z hD)]
        exact sm _ _ z
      · rw [upd_same, List.replicate_succ', List.map_append]
        rfl
    · refine ⟨D, _, rfl, SqL.of h.2, ?_⟩
      rw [all_true]
      have ht1 := (same_tf h.1).sq ht
      have fl := flat_strs l
      have ok := tr_ok l hl
      unfold trOkB at ok
      have bar : (inV (V.str "pushed") (l.map V.str) = true ∨ inV (V.str "carries") (l.map V.str) = true) → inV (V.str "bars") (l.map V.str) = true := fun z => by
        cases hb : inV (V.str "bars") (l.map V.str) with
        | true => rfl
        | false =>
          rw [hb, Bool.or_false, Bool.and_eq_true] at ok
          rcases z with z | z
          · rw [z] at ok
            exact absurd ok.1 (by decide)
          · rw [z] at ok
            exact absurd ok.2 (by decide)
      have noB : ∀ {b : Bool}, b = true → ¬ (if true = true then !b else b) = true := fun {b} z => by rw [z]; decide
      refine ⟨_, rfl, iteF ?_⟩
      refine ⟨_, rfl, a, _, rfl, .inr ht1, rfl, fl, _, rfl, ite2 (fun z1 => ?_) (fun z1 => ?_)⟩
      · refine ⟨_, rfl, a, _, rfl, .inr ht1, rfl, fl, _, rfl, ite2 (fun z3 => absurd z3 (noB (bar (.inl z1)))) (fun _ => ⟨_, rfl, a, l, rfl, ht1, hl, fun H2 s2 => k H2 (h.1.trans s2)⟩)⟩
      · refine ⟨_, rfl, a, _, rfl, .inr ht1, rfl, fl, _, rfl, ite2 (fun z2 => ?_) (fun _ => ⟨_, rfl, a, l, rfl, ht1, hl, fun H2 s2 => k H2 (h.1.trans s2)⟩)⟩
        refine ⟨_, rfl, a, _, rfl, .inr ht1, rfl, fl, _, rfl, ite2 (fun z3 => absurd z3 (noB (bar (.inr z2)))) (fun _ => ⟨_, rfl, a, l, rfl, ht1, hl, fun H2 s2 => k H2 (h.1.trans s2)⟩)⟩
end
end K27
set_option maxRecDepth 100000
set_option maxHeartbeats 4000000
/-! Kinds of the program, all. -/
namespace K27
open PySem PySem.Spec PyProof.Rows L2 KF KD KP
section
variable {P : Program} {w : World} {K : PySem.W.Frag} {mg : Str → Option Value} {base : Heap}
def spIKn (K : PySem.W.Frag) : Sp := fun vs H Q _ => ∃ (v : V) (kd : Kd) (j : Nat), vs = [v] ∧ KxAt K H v kd ∧ KdR j kd ∧ j < 8 ∧ ∀ H', Same H H' → Q (.bl true) H'
theorem scIKn : FnScope ["told", "name", "wide", "high", "traits", "own", "rules"] ["told"] (defScope s_is_kind) := ⟨rfl, rfl, rfl, by decide +kernel, rfl, by decide +kernel, by decide +kernel⟩
theorem ok_is_kind (T : Txt K w mg) : FnOk P w K mg base CX0 5 (He.fAd K ("is_kind", none)) (fdAt K (He.fAd K ("is_kind", none))) ["told"] (spIKn K) := by
  refine T.F_is_kind.ok scIKn (fun vs H Q E h => ?_) (fun cdv A outer s H vs Q E hr h => ?_)
  · obtain ⟨v, kd, j, rfl, _⟩ := h
    rfl
  · obtain ⟨v, kd, j, rfl, ⟨a, tr, o, r, ow, rfl, h1, h2, h3, h4, h5, h6⟩, R, j8, k⟩ := h
    have hu := Nat.lt_of_le_of_lt (Nat.add_le_add_left (by decide : 1 ≤ 64) _) hr.units
    refine ⟨_, PSs.nox (pss_cons (ps_if (PW.pt (pw_or (pt_not (pt_val (pe_callB (r := rIsi K) call_isi (by rfl) T.n_isinstance PyProof.Rows.Boot.«isinstance» (pa_cons (pv 0) (pa_cons (pe_bltn (v := .ty "tuple") (by rfl) T.n_tuple PyProof.Rows.Boot.«tuple» rfl) pa_nil))))) (pw_or1 (pt_cmpR op_ne (pe_callB (r := Evl.rLenS K) call_len_seq (by rfl) T.n_len PyProof.Rows.Boot.«len» (pa_cons (pv 0) pa_nil)) pe_int (nomark _))))) (pss_one (ps_ret pe_bl)) pss_nil)
      (pss_cons (ps_asg (pv 0) (pg_tup (by rfl) (pgs_cons (pg_name (i := 1) scIKn.nd rfl (Or.inl rfl)) (pgs_cons (pg_name (i := 2) scIKn.nd rfl (Or.inl rfl)) (pgs_cons (pg_name (i := 3) scIKn.nd rfl (Or.inl rfl)) (pgs_cons (pg_name (i := 4) scIKn.nd rfl (Or.inl rfl)) (pgs_cons (pg_name (i := 5) scIKn.nd rfl (Or.inl rfl)) (pgs_cons (pg_name (i := 6) scIKn.nd rfl (Or.inl rfl)) pgs_nil))))))))
      (pss_cons (ps_if (PW.pt (pw_or (pt_not (pt_val (pe_call (ok_is_between T) (hr.mono (by first | decide | omega)) (by rfl) T.g_is_between (T.F_is_between).kp T.b_is_between .nil pass0 (pa_cons (pv 2) (pa_cons pe_int (pa_cons pe_int pa_nil)))))) (pw_or1 (pt_not (pt_val (pe_call (ok_is_between T) (hr.mono (by first | decide | omega)) (by rfl) T.g_is_between (T.F_is_between).kp T.b_is_between .nil pass0 (pa_cons (pv 3) (pa_cons pe_int (pa_cons pe_int pa_nil))))))))) (pss_one (ps_ret pe_bl)) pss_nil)
      (pss_one (ps_ret (pe_and (pe_call (ok_is_name T) (hr.mono (by first | decide | omega)) (by rfl) T.g_is_name (T.F_is_name).kp T.b_is_name .nil pass0 (pa_cons (pv 1) pa_nil)) (pe_and (pe_call (ok_are_traits T) (hr.mono (by first | decide | omega)) (by rfl) T.g_are_traits (T.F_are_traits).kp T.b_are_traits .nil pass0 (pa_cons (pv 4) pa_nil)) (pe_and (pe_call (ok_is_own T) (hr.mono (by first | decide | omega)) (by rfl) T.g_is_own (T.F_is_own).kp T.b_is_own .nil pass0 (pa_cons (pv 5) pa_nil)) (pe_one (pe_call (ok_is_script T) (hr.mono (by first | decide | omega)) (by rfl) T.g_is_script (T.F_is_script).kp T.b_is_script .nil pass0 (pa_cons (pv 6) pa_nil))))))))))), ?_⟩
    refine ⟨_, rfl, _, _, _, _, _, rfl, .ty "tuple", ty_tup h1, kit_ty (r := true) (by decide +kernel), _, rfl, iteF ?_⟩
    refine ⟨_, rfl, a, _, rfl, .inr h1, rfl, _, rfl, iteF ?_⟩
    refine ⟨_, rfl, a, _, rfl, h1, rfl, _, _, rfl, _, _, rfl, _, _, rfl, _, _, rfl, _, _, rfl, _, _, rfl, rfl, ?_⟩
    refine ⟨_, rfl, kd.w, 1, 16, rfl, R.w1, R.w2, _, rfl, iteF ?_⟩
    refine ⟨_, rfl, kd.h, 1, 16, rfl, R.h1, R.h2, _, rfl, iteF ?_⟩
    have hz : ∀ c ∈ kd.nm.cps.toList, 97 ≤ c ∧ c < 123 := fun c m => by
      have := R.nl c m
      omega
    refine ⟨_, rfl, kd.nm, rfl, R.n1, R.n8, hz, fun H1 s1 => ⟨_, rfl, iteT ⟨_, rfl, tr, kd.tr, rfl, (same_tf s1).sq h2, R.tr, fun H2 s2 => ⟨_, rfl, iteT ⟨_, rfl, o, ow, rfl, (same_tf (s1.trans s2)).sq h3, h4, h5, fun H3 s3 => ⟨_, rfl, iteT ⟨_, rfl, r, rfl, (same_tf ((s1.trans s2).trans s3)).sq h6, fun H4 s4 => k H4 (((s1.trans s2).trans s3).trans s4)⟩⟩⟩⟩⟩⟩⟩
def spIKs (K : PySem.W.Frag) : Sp := fun vs H Q _ => ∃ (v : V) (ks : List Kd), vs = [v] ∧ KxsAt K H v ks ∧ 1 ≤ ks.length ∧ ks.length ≤ 8 ∧ (∀ (i : Nat) (k : Kd), ks[i]? = some k → KdR i k) ∧ ∀ H', Same H H' → Q (.bl true) H'
theorem scIKs : FnScope ["kinds", "names", "kind", "index"] ["kinds"] (defScope s_are_kinds) := ⟨rfl, rfl, rfl, by decide +kernel, rfl, by decide +kernel, by decide +kernel⟩
theorem ok_are_kinds (T : Txt K w mg) : FnOk P w K mg base CX0 6 (He.fAd K ("_are_kinds", none)) (fdAt K (He.fAd K ("_are_kinds", none))) ["kinds"] (spIKs K) := by
  obtain ⟨u1, g1, r1⟩ := T.c_MOST_KINDS
  refine T.F_are_kinds.ok scIKs (fun vs H Q E h => ?_) (fun cdv A outer s H vs Q E hr h => ?_)
  · obtain ⟨v, ks, rfl, _⟩ := h
    rfl
  · obtain ⟨v, ks, rfl, ⟨a, kv, rfl, h1, h2, h3⟩, l1, l8, R, k⟩ := h
    have hu := Nat.lt_of_le_of_lt (Nat.add_le_add_left (by decide : 1 ≤ 64) _) hr.units
    refine ⟨_, PSs.nox (pss_cons (ps_if (PW.pt (pw_or (pt_not (pt_val (pe_callB (r := rIsi K) call_isi (by rfl) T.n_isinstance PyProof.Rows.Boot.«isinstance» (pa_cons (pv 0) (pa_cons (pe_bltn (v := .ty "tuple") (by rfl) T.n_tuple PyProof.Rows.Boot.«tuple» rfl) pa_nil))))) (pw_or1 (pt_not (pt_val (pe_call (ok_is_between T) (hr.mono (by first | decide | omega)) (by rfl) T.g_is_between (T.F_is_between).kp T.b_is_between .nil pass0 (pa_cons (pe_callB (r := Evl.rLenS K) call_len_seq (by rfl) T.n_len PyProof.Rows.Boot.«len» (pa_cons (pv 0) pa_nil)) (pa_cons pe_int (pa_cons (pe_glob (v := .int 8) (by rfl) g1 r1) pa_nil))))))))) (pss_one (ps_ret pe_bl)) pss_nil)
      (pss_cons (ps_set (i := 1) scIKs.nd rfl (Or.inl rfl) pe_dnewK)
      (pss_cons (ps_for PassesOwn.never rfl (pi_tup (pv 0)) (pg_name (i := 2) scIKs.nd rfl (Or.inl rfl)) (pss_cons (ps_if (PW.pt (pw_or (pt_not (pt_val (pe_call (ok_is_kind T) (hr.mono (by first | decide | omega)) (by rfl) T.g_is_kind (T.F_is_kind).kp T.b_is_kind .nil pass0 (pa_cons (pv 2) pa_nil)))) (pw_or1 (pt_cmp (pc_din hu (pe_ix (r := rIxT K) ix_tup (pv 2) pe_int (fun _ _ => rfl)) (pv 1)))))) (pss_one (ps_ret pe_bl)) pss_nil)
      (pss_cons (ps_dput hu (pv 1) (pe_ix (r := rIxT K) ix_tup (pv 2) pe_int (fun _ _ => rfl)) pe_bl rfl)
      (pss_one (ps_if (pt_val (pe_callB (cr_any rfl) (by rfl) T.n_any PyProof.Rows.Boot.«any» (pa_cons (pe_lc (own := [("index", 3)]) (g := gName 3) (tt := tYes) (by rfl) scIKs.nd (pi_list (pe_call (ok_kinds_in T) (hr.mono (by first | decide | omega)) (by rfl) T.g_kinds_in (T.F_kinds_in).kp T.b_kinds_in .nil pass0 (pa_cons (pe_ix (r := rIxT K) ix_tup (pv 2) pe_int (fun _ _ => rfl)) pa_nil))) (blkOk_by (own := [("index", 3)]) (N := ["kinds", "names", "kind", "index"]) (sc := defScope s_are_kinds) (by decide +kernel)) (fun _ _ _ _ _ => pg_name (i := 3) scIKs.nd rfl (Or.inl rfl)) (fun _ _ _ _ _ => pts_nil) (fun _ _ _ _ _ => (pe_cmpR op_ge (pv 3) (pe_callB (r := Evl.rLenS K) call_len_seq (by rfl) T.n_len PyProof.Rows.Boot.«len» (pa_cons (pv 0) pa_nil)) (nomark _)))) pa_nil))) (pss_one (ps_ret pe_bl)) pss_nil)))))
      (pss_one (ps_ret pe_bl))))), ?_⟩
    refine ⟨_, rfl, _, _, _, _, _, rfl, .ty "tuple", ty_tup h1, kit_ty (r := true) (by decide +kernel), _, rfl, iteF ?_⟩
    refine ⟨_, rfl, a, _, rfl, .inr h1, (kv.length : Int), 1, 8, rfl, by omega, by omega, _, rfl, iteF ?_⟩
    refine fun nd nnd => ?_
    have s1 := new_same (o := .dK []) nnd
    have hnd : (upd H nd (.dK [])) nd = some (.dK []) := upd_same
    obtain ⟨H1, hH1⟩ : ∃ H1, H1 = upd H nd (.dK []) := ⟨_, rfl⟩
    show gName 1 _ _ (upd H nd (.dK [])) _
    rw [← hH1] at s1 hnd ⊢
    refine ⟨_, rfl, a, rfl, ⟨_, (same_tf s1).sq h1⟩, ?_⟩
    refine L2.for_it (walk_tup (K := K) (a := a) (xs := kv)) (fun i σ H' => ∃ (v2 v3 : Option V) (kvs : List (Key × V)), σ = [some (.ref a), some (.ref nd), v2, v3] ∧ Frm nd H1 H' ∧ H' nd = some (.dK kvs) ∧ kvs.length ≤ i ∧ ∀ z : Str, (∀ (j : Nat) (k' : Kd), j < i → ks[j]? = some k' → k'.nm ≠ z) → valV kvs (.inr z) = none) ⟨_, _, [], rfl, Frm.refl _ _, hnd, Nat.le_refl _, fun _ _ => rfl⟩ (fun i σ H' _ h => by obtain ⟨_, _, _, _, f, _⟩ := h; exact (Frm.tfk f hnd).sq ((same_tf s1).sq h1)) (fun i x σ H4 Hx hi hPv hy => ?_) (fun σ H4 hPv => ?_)
    · obtain ⟨v2, v3, kvs, rfl, f, hk, kl, hv⟩ := hPv
      obtain ⟨rfl, hx⟩ := hy
      have hi2 : i < ks.length := by omega
      obtain ⟨kd, hkd⟩ : ∃ kd, ks[i]? = some kd := ⟨_, List.getElem?_eq_getElem hi2⟩
      obtain ⟨x', hx', hxk⟩ := h3 i kd hkd
      rw [hx] at hx'
      injection hx' with hx'
      subst hx'
      have tf := (same_tf s1).trans (Frm.tfk f hnd)
      have hxk4 := hxk.tf tf
      have Ri := R i kd hkd
      refine ⟨_, rfl, x, kd, i, rfl, hxk4, Ri, by omega, fun H5 s5 => ?_⟩
      obtain ⟨ka, tr, o, r, ow, rfl, g1, g2, g3, g4, g5, g6⟩ := hxk4.tf (same_tf s5)
      have hk5 := s5 _ _ hk
      have non : valV kvs (.inr kd.nm) = none := hv _ fun j k' hj hk' e => by
        have Rj := R j k' hk'
        obtain ⟨c, hc⟩ : ∃ c, c ∈ kd.nm.cps.toList := by
          cases h : kd.nm.cps.toList with
          | nil =>
            have := Ri.n1
            have : kd.nm.cps.toList.length = kd.nm.length := Array.length_toList
            rw [h] at this
            simp only [List.length_nil] at this
            omega
          | cons c _ => exact ⟨c, List.mem_cons_self⟩
        have e1 := Ri.nl c hc
        have e2 := Rj.nl c (by rw [e]; exact hc)
        omega
      refine ⟨_, rfl, iteF ?_⟩
      refine ⟨_, rfl, ka, _, _, _, rfl, rfl, g1, atI_nat (j := 0) rfl, _, rfl, nd, none, rfl, .inl ⟨kvs, .inr kd.nm, .inl hk5, rfl, non.symm⟩, _, rfl, iteF ?_⟩
      refine ⟨_, rfl, _, rfl, ka, _, _, _, rfl, rfl, g1, atI_nat (j := 0) rfl, nd, _, rfl, DPut.k (k := .inr kd.nm) hk5 (Nat.lt_of_le_of_lt (show kvs.length ≤ 8 by omega) (by decide)), ?_⟩
      have f6 : Frm nd H5 (upd H5 nd (.dK (putK kvs (.inr kd.nm) (.bl true)))) := Frm.of_upd
      have hk6 : (upd H5 nd (.dK (putK kvs (.inr kd.nm) (.bl true)))) nd = some (.dK (putK kvs (.inr kd.nm) (.bl true))) := upd_same
      have tf6 := Frm.tfk f6 hk5
      obtain ⟨H6, hH6⟩ : ∃ H6, H6 = upd H5 nd (.dK (putK kvs (.inr kd.nm) (.bl true))) := ⟨_, rfl⟩
      rw [← hH6] at f6 hk6 tf6 ⊢
      refine ⟨_, rfl, ka, _, _, _, rfl, rfl, tf6.sq g1, atI_nat (j := 5) rfl, r, rfl, tf6.sq g6, fun q H7 s7 hq => ⟨q, rfl, ⟨_, SqL.of hq⟩, fun D hD => ?_⟩⟩
      refine lc_it (walk_list (K := K) (a := q) (xs := [])) (fun i H' => H' = upd H7 D (.lst [])) rfl (fun i H' _ h => by rw [h]; exact SqL.of (new_same hD _ _ hq)) (fun i v H' Hx hi h yy => by cases hi) (fun H' h => ?_)
      subst h
      have s8 := s7.trans (new_same (o := .lst []) hD)
      refine ⟨D, [], rfl, SqL.of upd_same, _, rfl, iteF ⟨_, _, _, rfl, ((f.trans (Frm.of_same s5)).trans f6).trans (Frm.of_same s8), s8 _ _ hk6, ?_, fun z hz => ?_⟩⟩
      · have := length_putK kvs (.inr kd.nm) (.bl true)
        omega
      · rw [valV_put, if_neg (fun e => hz i kd (Nat.lt_succ_self i) hkd (Sum.inr.inj e).symm)]
        exact hv z fun j k' hj hk' => hz j k' (Nat.lt_succ_of_lt hj) hk'
    · obtain ⟨v2, v3, kvs, rfl, f, hk, kl, hv⟩ := hPv
      exact k H4 fun b o z => f b o (fun e => by rw [e, nnd] at z; cases z) (s1 _ _ z)
end
end K27
set_option maxRecDepth 100000
set_option maxHeartbeats 4000000
/-! Levels of the program. -/
namespace K27
open PySem PySem.Spec PyProof.Rows L2 KF KD KP
section
variable {P : Program} {w : World} {K : PySem.W.Frag} {mg : Str → Option Value} {base : Heap}
def spIRs (K : PySem.W.Frag) : Sp := fun vs H Q _ => ∃ z : Str, vs = [.str z] ∧ 4 ≤ z.length ∧ z.length ≤ 24 ∧ (∀ c ∈ z.cps.toList, isSg c = true) ∧ ∀ H', Same H H' → Q (.bl true) H'
theorem scIRs : FnScope ["row", "sign"] ["row"] (defScope s_is_row_of_signs) := ⟨rfl, rfl, rfl, by decide +kernel, rfl, by decide +kernel, by decide +kernel⟩
theorem ok_is_row_of_signs (T : Txt K w mg) : FnOk P w K mg base CX0 3 (He.fAd K ("_is_row_of_signs", none)) (fdAt K (He.fAd K ("_is_row_of_signs", none))) ["row"] (spIRs K) := by
  refine T.F_is_row_of_signs.ok scIRs (fun vs H Q E h => ?_) (fun cdv A outer s H vs Q E hr h => ?_)
  · obtain ⟨z, rfl, _⟩ := h
    rfl
  · obtain ⟨z, rfl, z1, z8, hc, k⟩ := h
    have hu := Nat.lt_of_le_of_lt (Nat.add_le_add_left (by decide : 1 ≤ 64) _) hr.units
    refine ⟨_, PSs.nox (pss_cons (ps_if (PW.pt (pw_or (pt_not (pt_val (pe_callB (r := rIsi K) call_isi (by rfl) T.n_isinstance PyProof.Rows.Boot.«isinstance» (pa_cons (pv 0) (pa_cons (pe_bltn (v := .ty "str") (by rfl) T.n_str PyProof.Rows.Boot.«str» rfl) pa_nil))))) (pw_or1 (pt_not (pt_val (pe_call (ok_is_between T) (hr.mono (by first | decide | omega)) (by rfl) T.g_is_between (T.F_is_between).kp T.b_is_between .nil pass0 (pa_cons (pe_callB call_len_str (by rfl) T.n_len PyProof.Rows.Boot.«len» (pa_cons (pv 0) pa_nil)) (pa_cons pe_int (pa_cons pe_int pa_nil))))))))) (pss_one (ps_ret pe_bl)) pss_nil)
      (pss_one (ps_ret (pe_callB (cr_all rfl) (by rfl) T.n_all PyProof.Rows.Boot.«all» (pa_cons (pe_lc (own := [("sign", 1)]) (g := gName 1) (tt := tYes) (by rfl) scIRs.nd (pi_str (pv 0)) (blkOk_by (own := [("sign", 1)]) (N := ["row", "sign"]) (sc := defScope s_is_row_of_signs) (by decide +kernel)) (fun _ _ _ _ _ => pg_name (i := 1) scIRs.nd rfl (Or.inl rfl)) (fun _ _ _ _ _ => pts_nil) (fun _ _ _ _ _ => (pe_call (ok_is_sign T) (hr.mono (by first | decide | omega)) (by rfl) T.g_is_sign (T.F_is_sign).kp T.b_is_sign .nil pass0 (pa_cons (pv 1) pa_nil)))) pa_nil))))), ?_⟩
    refine ⟨_, rfl, _, _, _, _, _, rfl, .ty "str", .base (.str _), kit_ty (r := true) (by decide +kernel), _, rfl, iteF ?_⟩
    refine ⟨_, rfl, z, rfl, Nat.le_trans z8 (by decide), (z.length : Int), 4, 24, rfl, by omega, by omega, _, rfl, iteF ?_⟩
    refine ⟨_, rfl, z, rfl, fun D hD => ?_⟩
    refine lc_it walk_str (fun i H' => Same H H' ∧ H' D = some (.lst ((List.replicate i true).map V.bl))) ⟨new_same hD, upd_same⟩ (fun _ _ _ _ => trivial) (fun i v H' Hx hi h yy => ?_) (fun H' h => ?_)
    · obtain ⟨rfl, c, hcj, rfl⟩ := yy
      obtain ⟨sm, hl2⟩ := h
      have hcm : c ∈ z.cps.toList := List.mem_of_getElem? (show z.cps.toList[i]? = some c by rw [Array.getElem?_toList]; exact hcj)
      refine ⟨rfl, ?_⟩
      dsimp only [tYes]
      rw [if_pos rfl]
      have hi : i < z.length := hi
      refine ⟨_, rfl, c, rfl, hc c hcm, _, hl2, by rw [List.length_map, List.length_replicate]; exact Nat.lt_of_lt_of_le (show i < 1000 by omega) (by decide), fun c o z => ?_, ?_⟩
      · rw [upd_ne (ne_of_none z hD)]
        exact sm _ _ z
      · rw [upd_same, List.replicate_succ', List.map_append]
        rfl
    · refine ⟨D, _, rfl, SqL.of h.2, ?_⟩
      rw [all_true]
      exact k H' h.1
def spIRo (K : PySem.W.Frag) : Sp := fun vs H Q _ => ∃ (a : Addr) (G : Gm), vs = [.ref a] ∧ SqT K H a (G.rows.map V.str) ∧ G.right ∧ ∀ H', Same H H' → Q (.bl true) H'
theorem scIRo : FnScope ["rows", "row"] ["rows"] (defScope s_are_rows) := ⟨rfl, rfl, rfl, by decide +kernel, rfl, by decide +kernel, by decide +kernel⟩
theorem ok_are_rows (T : Txt K w mg) : FnOk P w K mg base CX0 4 (He.fAd K ("_are_rows", none)) (fdAt K (He.fAd K ("_are_rows", none))) ["rows"] (spIRo K) := by
  obtain ⟨u1, g1, r1⟩ := T.c_LEAST_ROWS
  obtain ⟨u2, g2, r2⟩ := T.c_MOST_ROWS
  refine T.F_are_rows.ok scIRo (fun vs H Q E h => ?_) (fun cdv A outer s H vs Q E hr h => ?_)
  · obtain ⟨a, G, rfl, _⟩ := h
    rfl
  · obtain ⟨a, G, rfl, h1, R, k⟩ := h
    have hu := Nat.lt_of_le_of_lt (Nat.add_le_add_left (by decide : 1 ≤ 64) _) hr.units
    refine ⟨_, PSs.nox (pss_cons (ps_if (PW.pt (pw_or (pt_not (pt_val (pe_callB (r := rIsi K) call_isi (by rfl) T.n_isinstance PyProof.Rows.Boot.«isinstance» (pa_cons (pv 0) (pa_cons (pe_bltn (v := .ty "tuple") (by rfl) T.n_tuple PyProof.Rows.Boot.«tuple» rfl) pa_nil))))) (pw_or1 (pt_not (pt_val (pe_call (ok_is_between T) (hr.mono (by first | decide | omega)) (by rfl) T.g_is_between (T.F_is_between).kp T.b_is_between .nil pass0 (pa_cons (pe_callB (r := Evl.rLenS K) call_len_seq (by rfl) T.n_len PyProof.Rows.Boot.«len» (pa_cons (pv 0) pa_nil)) (pa_cons (pe_glob (v := .int 3) (by rfl) g1 r1) (pa_cons (pe_glob (v := .int 16) (by rfl) g2 r2) pa_nil))))))))) (pss_one (ps_ret pe_bl)) pss_nil)
      (pss_one (ps_ret (pe_callB (cr_all rfl) (by rfl) T.n_all PyProof.Rows.Boot.«all» (pa_cons (pe_lc (own := [("row", 1)]) (g := gName 1) (tt := tYes) (by rfl) scIRo.nd (pi_tup (pv 0)) (blkOk_by (own := [("row", 1)]) (N := ["rows", "row"]) (sc := defScope s_are_rows) (by decide +kernel)) (fun _ _ _ _ _ => pg_name (i := 1) scIRo.nd rfl (Or.inl rfl)) (fun _ _ _ _ _ => pts_nil) (fun _ _ _ _ _ => (pe_and (pe_call (ok_is_row_of_signs T) (hr.mono (by first | decide | omega)) (by rfl) T.g_is_row_of_signs (T.F_is_row_of_signs).kp T.b_is_row_of_signs .nil pass0 (pa_cons (pv 1) pa_nil)) (pe_one (pe_cmpR op_eq (pe_callB call_len_str (by rfl) T.n_len PyProof.Rows.Boot.«len» (pa_cons (pv 1) pa_nil)) (pe_callB call_len_str (by rfl) T.n_len PyProof.Rows.Boot.«len» (pa_cons (pe_ix (r := rIxT K) ix_tup (pv 0) pe_int (fun _ _ => rfl)) pa_nil)) (nomark _)))))) pa_nil))))), ?_⟩
    have r3 := R.r3
    have r16 := R.r16
    have ln : (G.rows.map V.str).length = G.rows.length := List.length_map ..
    refine ⟨_, rfl, _, _, _, _, _, rfl, .ty "tuple", ty_tup h1, kit_ty (r := true) (by decide +kernel), _, rfl, iteF ?_⟩
    refine ⟨_, rfl, a, _, rfl, .inr h1, ((G.rows.map V.str).length : Int), 3, 16, rfl, by omega, by omega, _, rfl, iteF ?_⟩
    refine ⟨_, rfl, a, rfl, ⟨_, h1⟩, fun D hD => ?_⟩
    refine lc_it (walk_tup (K := K) (a := a) (xs := G.rows.map V.str)) (fun i H' => Same H H' ∧ H' D = some (.lst ((List.replicate i true).map V.bl))) ⟨new_same hD, upd_same⟩ (fun i H' _ h => (same_tf h.1).sq h1) (fun i v H' Hx hi h yy => ?_) (fun H' h => ?_)
    · obtain ⟨rfl, hv⟩ := yy
      obtain ⟨sm, hl2⟩ := h
      rw [List.length_map] at hi
      rw [List.getElem?_map, List.getElem?_eq_getElem hi] at hv
      cases hv
      refine ⟨rfl, ?_⟩
      dsimp only [tYes]
      rw [if_pos rfl]
      have hm := List.getElem_mem hi
      have hm0 : G.rows[0] ∈ G.rows := List.getElem_mem _
      have w1 := R.ok.wd _ hm
      have w0 := R.ok.wd _ hm0
      have w4 := R.w4
      have w24 := R.w24
      refine ⟨_, rfl, _, rfl, by omega, by omega, R.sg _ hm, fun H5 s5 => ⟨_, rfl, iteT ?_⟩⟩
      refine ⟨_, rfl, _, rfl, Nat.le_trans (show G.rows[i].length ≤ 24 by omega) (by decide), _, rfl, a, _, _, _, rfl, rfl, (same_tf (sm.trans s5)).sq h1, atI_nat (j := 0) (by rw [List.getElem?_map, List.getElem?_eq_getElem (by omega)]; rfl), _, rfl, Nat.le_trans (show G.rows[0].length ≤ 24 by omega) (by decide), rfl, ?_⟩
      rw [w1, w0, decide_eq_true rfl]
      refine ⟨_, s5 _ _ hl2, by rw [List.length_map, List.length_replicate]; exact Nat.lt_of_lt_of_le (show i < 1000 by omega) (by decide), fun c o z => ?_, ?_⟩
      · rw [upd_ne (ne_of_none z hD)]
        exact s5 _ _ (sm _ _ z)
      · rw [upd_same, List.replicate_succ', List.map_append]
        rfl
    · refine ⟨D, _, rfl, SqL.of h.2, ?_⟩
      rw [all_true]
      exact k H' h.1
def spISt1 (K : PySem.W.Frag) : Sp := fun vs H Q _ => ∃ (v : V) (G : Gm) (t : Tg), vs = [v, .int G.ho] ∧ StAt K H v t ∧ Put1 G t ∧ ∀ H', Same H H' → Q (.bl true) H'
theorem scISt : FnScope ["start", "houses", "number"] ["start", "houses"] (defScope s_is_start) := ⟨rfl, rfl, rfl, by decide +kernel, rfl, by decide +kernel, by decide +kernel⟩
theorem ok_is_start (T : Txt K w mg) : FnOk P w K mg base CX0 3 (He.fAd K ("_is_start", none)) (fdAt K (He.fAd K ("_is_start", none))) ["start", "houses"] (spISt1 K) := by
  obtain ⟨u1, g1, r1⟩ := T.c_NO_HOUSE
  refine T.F_is_start.ok scISt (fun vs H Q E h => ?_) (fun cdv A outer s H vs Q E hr h => ?_)
  · obtain ⟨v, G, t, rfl, _⟩ := h
    rfl
  · obtain ⟨v, G, t, rfl, ⟨a, rfl, h1⟩, R, k⟩ := h
    have hu := Nat.lt_of_le_of_lt (Nat.add_le_add_left (by decide : 1 ≤ 64) _) hr.units
    refine ⟨_, PSs.nox (pss_cons (ps_if (PW.pt (pw_or (pt_not (pt_val (pe_callB (r := rIsi K) call_isi (by rfl) T.n_isinstance PyProof.Rows.Boot.«isinstance» (pa_cons (pv 0) (pa_cons (pe_bltn (v := .ty "tuple") (by rfl) T.n_tuple PyProof.Rows.Boot.«tuple» rfl) pa_nil))))) (pw_or1 (pt_cmpR op_ne (pe_callB (r := Evl.rLenS K) call_len_seq (by rfl) T.n_len PyProof.Rows.Boot.«len» (pa_cons (pv 0) pa_nil)) pe_int (nomark _))))) (pss_one (ps_ret pe_bl)) pss_nil)
      (pss_one (ps_ret (pe_and (pe_callB (cr_all rfl) (by rfl) T.n_all PyProof.Rows.Boot.«all» (pa_cons (pe_lc (own := [("number", 2)]) (g := gName 2) (tt := tYes) (by rfl) scISt.nd (pi_tup (pv 0)) (blkOk_by (own := [("number", 2)]) (N := ["start", "houses", "number"]) (sc := defScope s_is_start) (by decide +kernel)) (fun _ _ _ _ _ => pg_name (i := 2) scISt.nd rfl (Or.inl rfl)) (fun _ _ _ _ _ => pts_nil) (fun _ _ _ _ _ => (pe_call (ok_is_whole T) (hr.mono (by first | decide | omega)) (by rfl) T.g_is_whole (T.F_is_whole).kp T.b_is_whole .nil pass0 (pa_cons (pv 2) pa_nil)))) pa_nil)) (pe_one (pe_call (ok_is_between T) (hr.mono (by first | decide | omega)) (by rfl) T.g_is_between (T.F_is_between).kp T.b_is_between .nil pass0 (pa_cons (pe_ix (r := rIxT K) ix_tup (pv 0) pe_int (fun _ _ => rfl)) (pa_cons (pe_glob (v := .int (-1)) (by rfl) g1 r1) (pa_cons (pe_op op_sub (pv 1) pe_int) pa_nil))))))))), ?_⟩
    refine ⟨_, rfl, _, _, _, _, _, rfl, .ty "tuple", ty_tup h1, kit_ty (r := true) (by decide +kernel), _, rfl, iteF ?_⟩
    refine ⟨_, rfl, a, _, rfl, .inr h1, rfl, _, rfl, iteF ?_⟩
    refine ⟨_, rfl, a, rfl, ⟨_, h1⟩, fun D hD => ?_⟩
    refine lc_it (walk_tup (K := K) (a := a) (xs := [(t.k : Int), t.hs, t.x, t.y].map V.int)) (fun i H' => Same H H' ∧ H' D = some (.lst ((List.replicate i true).map V.bl))) ⟨new_same hD, upd_same⟩ (fun i H' _ h => (same_tf h.1).sq h1) (fun i v H' Hx hi h yy => ?_) (fun H' h => ?_)
    · obtain ⟨rfl, hv⟩ := yy
      obtain ⟨sm, hl2⟩ := h
      rw [List.length_map] at hi
      rw [List.getElem?_map, List.getElem?_eq_getElem hi] at hv
      cases hv
      have hi : i < 4 := hi
      refine ⟨rfl, ?_⟩
      dsimp only [tYes]
      rw [if_pos rfl]
      refine ⟨_, rfl, _, rfl, _, hl2, by rw [List.length_map, List.length_replicate]; exact Nat.lt_of_lt_of_le (show i < 1000 by omega) (by decide), fun c o z => ?_, ?_⟩
      · rw [upd_ne (ne_of_none z hD)]
        exact sm _ _ z
      · rw [upd_same, List.replicate_succ', List.map_append]
        rfl
    · refine ⟨D, _, rfl, SqL.of h.2, ?_⟩
      rw [all_true]
      have r1 := R.h1
      have r2 := R.h2
      exact ⟨_, rfl, iteT ⟨_, rfl, a, _, _, _, rfl, rfl, (same_tf h.1).sq h1, atI_nat (j := 1) rfl, _, rfl, _, _, rfl, rfl, t.hs, -1, G.ho - 1, rfl, r1, by omega, k H' h.1⟩⟩
def spISs (K : PySem.W.Frag) : Sp := fun vs H Q _ => ∃ (v : V) (G : Gm) (st : List Tg), vs = [v, .int G.ho] ∧ StsAt K H v st ∧ StR G st ∧ ∀ H', Same H H' → Q (.bl true) H'
theorem scISs : FnScope ["starts", "houses", "start"] ["starts", "houses"] (defScope s_are_starts) := ⟨rfl, rfl, rfl, by decide +kernel, rfl, by decide +kernel, by decide +kernel⟩
theorem ok_are_starts (T : Txt K w mg) : FnOk P w K mg base CX0 4 (He.fAd K ("_are_starts", none)) (fdAt K (He.fAd K ("_are_starts", none))) ["starts", "houses"] (spISs K) := by
  obtain ⟨u1, g1, r1⟩ := T.c_MOST_STARTS
  refine T.F_are_starts.ok scISs (fun vs H Q E h => ?_) (fun cdv A outer s H vs Q E hr h => ?_)
  · obtain ⟨v, G, st, rfl, _⟩ := h
    rfl
  · obtain ⟨v, G, st, rfl, ⟨a, sv, rfl, h1, hl, hs⟩, R, k⟩ := h
    have hu := Nat.lt_of_le_of_lt (Nat.add_le_add_left (by decide : 1 ≤ 64) _) hr.units
    refine ⟨_, PSs.nox (pss_cons (ps_if (PW.pt (pw_or (pt_not (pt_val (pe_callB (r := rIsi K) call_isi (by rfl) T.n_isinstance PyProof.Rows.Boot.«isinstance» (pa_cons (pv 0) (pa_cons (pe_bltn (v := .ty "tuple") (by rfl) T.n_tuple PyProof.Rows.Boot.«tuple» rfl) pa_nil))))) (pw_or1 (pt_cmpR op_gt (pe_callB (r := Evl.rLenS K) call_len_seq (by rfl) T.n_len PyProof.Rows.Boot.«len» (pa_cons (pv 0) pa_nil)) (pe_glob (v := .int 12) (by rfl) g1 r1) (nomark _))))) (pss_one (ps_ret pe_bl)) pss_nil)
      (pss_one (ps_ret (pe_callB (cr_all rfl) (by rfl) T.n_all PyProof.Rows.Boot.«all» (pa_cons (pe_lc (own := [("start", 2)]) (g := gName 2) (tt := tYes) (by rfl) scISs.nd (pi_tup (pv 0)) (blkOk_by (own := [("start", 2)]) (N := ["starts", "houses", "start"]) (sc := defScope s_are_starts) (by decide +kernel)) (fun _ _ _ _ _ => pg_name (i := 2) scISs.nd rfl (Or.inl rfl)) (fun _ _ _ _ _ => pts_nil) (fun _ _ _ _ _ => (pe_call (ok_is_start T) (hr.mono (by first | decide | omega)) (by rfl) T.g_is_start (T.F_is_start).kp T.b_is_start .nil pass0 (pa_cons (pv 2) (pa_cons (pv 1) pa_nil))))) pa_nil))))), ?_⟩
    have l12 := R.len
    refine ⟨_, rfl, _, _, _, _, _, rfl, .ty "tuple", ty_tup h1, kit_ty (r := true) (by decide +kernel), _, rfl, iteF ?_⟩
    refine ⟨_, rfl, a, _, rfl, .inr h1, _, _, rfl, rfl, _, rfl, ite2 (fun z => absurd (of_decide_eq_true z) (by omega)) (fun _ => ?_)⟩
    refine ⟨_, rfl, a, rfl, ⟨_, h1⟩, fun D hD => ?_⟩
    refine lc_it (walk_tup (K := K) (a := a) (xs := sv)) (fun i H' => Same H H' ∧ H' D = some (.lst ((List.replicate i true).map V.bl))) ⟨new_same hD, upd_same⟩ (fun i H' _ h => (same_tf h.1).sq h1) (fun i v H' Hx hi h yy => ?_) (fun H' h => ?_)
    · obtain ⟨rfl, hv⟩ := yy
      obtain ⟨sm, hl2⟩ := h
      obtain ⟨t, ht⟩ : ∃ t, st[i]? = some t := ⟨_, List.getElem?_eq_getElem (by omega)⟩
      obtain ⟨x, hx, hxs⟩ := hs i t ht
      rw [hv] at hx
      injection hx with hx
      subst hx
      refine ⟨rfl, ?_⟩
      dsimp only [tYes]
      rw [if_pos rfl]
      refine ⟨_, rfl, _, rfl, v, G, t, rfl, hxs.tf (same_tf sm), R.one t (List.mem_of_getElem? ht), fun H5 s5 => ?_⟩
      refine ⟨_, s5 _ _ hl2, by rw [List.length_map, List.length_replicate]; exact Nat.lt_of_lt_of_le (show i < 1000 by omega) (by decide), fun c o z => ?_, ?_⟩
      · rw [upd_ne (ne_of_none z hD)]
        exact s5 _ _ (sm _ _ z)
      · rw [upd_same, List.replicate_succ', List.map_append]
        rfl
    · refine ⟨D, _, rfl, SqL.of h.2, ?_⟩
      rw [all_true]
      exact k H' h.1
def spILv (K : PySem.W.Frag) : Sp := fun vs H Q _ => ∃ (v : V) (G : Gm) (st : List Tg) (pu : Int), vs = [v] ∧ LxAt K H v G st pu ∧ G.right ∧ StR G st ∧ 0 ≤ pu ∧ pu ≤ 3 ∧ ∀ H', Same H H' → Q (.bl true) H'
theorem scILv : FnScope ["told", "rows", "starts", "houses", "pull"] ["told"] (defScope s_is_level) := ⟨rfl, rfl, rfl, by decide +kernel, rfl, by decide +kernel, by decide +kernel⟩
theorem ok_is_level (T : Txt K w mg) : FnOk P w K mg base CX0 5 (He.fAd K ("is_level", none)) (fdAt K (He.fAd K ("is_level", none))) ["told"] (spILv K) := by
  refine T.F_is_level.ok scILv (fun vs H Q E h => ?_) (fun cdv A outer s H vs Q E hr h => ?_)
  · obtain ⟨v, G, st, pu, rfl, _⟩ := h
    rfl
  · obtain ⟨v, G, st, pu, rfl, ⟨l, rs, sv, rfl, h1, h2, h3⟩, R, S, p0, p3, k⟩ := h
    have hu := Nat.lt_of_le_of_lt (Nat.add_le_add_left (by decide : 1 ≤ 64) _) hr.units
    refine ⟨_, PSs.nox (pss_cons (ps_if (PW.pt (pw_or (pt_not (pt_val (pe_callB (r := rIsi K) call_isi (by rfl) T.n_isinstance PyProof.Rows.Boot.«isinstance» (pa_cons (pv 0) (pa_cons (pe_bltn (v := .ty "tuple") (by rfl) T.n_tuple PyProof.Rows.Boot.«tuple» rfl) pa_nil))))) (pw_or1 (pt_cmpR op_ne (pe_callB (r := Evl.rLenS K) call_len_seq (by rfl) T.n_len PyProof.Rows.Boot.«len» (pa_cons (pv 0) pa_nil)) pe_int (nomark _))))) (pss_one (ps_ret pe_bl)) pss_nil)
      (pss_cons (ps_asg (pv 0) (pg_tup (by rfl) (pgs_cons (pg_name (i := 1) scILv.nd rfl (Or.inl rfl)) (pgs_cons (pg_name (i := 2) scILv.nd rfl (Or.inl rfl)) (pgs_cons (pg_name (i := 3) scILv.nd rfl (Or.inl rfl)) (pgs_cons (pg_name (i := 4) scILv.nd rfl (Or.inl rfl)) pgs_nil))))))
      (pss_cons (ps_if (PW.pt (pw_or (pt_not (pt_val (pe_call (ok_is_between T) (hr.mono (by first | decide | omega)) (by rfl) T.g_is_between (T.F_is_between).kp T.b_is_between .nil pass0 (pa_cons (pv 3) (pa_cons pe_int (pa_cons pe_int pa_nil)))))) (pw_or1 (pt_not (pt_val (pe_call (ok_is_between T) (hr.mono (by first | decide | omega)) (by rfl) T.g_is_between (T.F_is_between).kp T.b_is_between .nil pass0 (pa_cons (pv 4) (pa_cons pe_int (pa_cons pe_int pa_nil))))))))) (pss_one (ps_ret pe_bl)) pss_nil)
      (pss_one (ps_ret (pe_and (pe_call (ok_are_rows T) (hr.mono (by first | decide | omega)) (by rfl) T.g_are_rows (T.F_are_rows).kp T.b_are_rows .nil pass0 (pa_cons (pv 1) pa_nil)) (pe_one (pe_call (ok_are_starts T) (hr.mono (by first | decide | omega)) (by rfl) T.g_are_starts (T.F_are_starts).kp T.b_are_starts .nil pass0 (pa_cons (pv 2) (pa_cons (pv 3) pa_nil)))))))))), ?_⟩
    have o1 := R.ok.h1
    have o2 := R.ok.h2
    refine ⟨_, rfl, _, _, _, _, _, rfl, .ty "tuple", ty_tup h1, kit_ty (r := true) (by decide +kernel), _, rfl, iteF ?_⟩
    refine ⟨_, rfl, l, _, rfl, .inr h1, rfl, _, rfl, iteF ?_⟩
    refine ⟨_, rfl, l, _, rfl, h1, rfl, _, _, rfl, _, _, rfl, _, _, rfl, _, _, rfl, rfl, ?_⟩
    refine ⟨_, rfl, G.ho, 1, 4, rfl, o1, o2, _, rfl, iteF ?_⟩
    refine ⟨_, rfl, pu, 0, 3, rfl, p0, p3, _, rfl, iteF ?_⟩
    exact ⟨_, rfl, rs, G, rfl, h2, R, fun H1 s1 => ⟨_, rfl, iteT ⟨_, rfl, _, rfl, sv, G, st, rfl, h3.tf (same_tf s1), S, fun H2 s2 => k H2 (s1.trans s2)⟩⟩⟩
end
end K27
set_option maxRecDepth 100000
set_option maxHeartbeats 4000000
/-! Games of the program. -/
namespace K27
open PySem PySem.Spec PyProof.Rows L2 KF KD KP
theorem any_false : ∀ n, (List.replicate n false).any id = false := by intro n; simp
/-- a list of boxes -/
inductive BxL (K : PySem.W.Frag) (H : Hp) (G : Gm) : List V → List Tg → Prop
  | nil : BxL K H G [] []
  | cons {v : V} {t : Tg} {l : List V} {us : List Tg} : BxAt K H v (G.bx t) → BxL K H G l us → BxL K H G (v :: l) (t :: us)
theorem BxL.tf {K : PySem.W.Frag} {H H' : Hp} {G : Gm} {l : List V} {us : List Tg} (h : BxL K H G l us) (e : TF H H') : BxL K H' G l us := by
  induction h with
  | nil => exact .nil
  | cons a _ ih => exact .cons (a.tf e) ih
theorem BxL.snoc {K : PySem.W.Frag} {H : Hp} {G : Gm} {v : V} {t : Tg} {l : List V} {us : List Tg} (h : BxL K H G l us) (q : BxAt K H v (G.bx t)) : BxL K H G (l ++ [v]) (us ++ [t]) := by
  induction h with
  | nil => exact .cons q .nil
  | cons a _ ih => exact .cons a ih
theorem BxL.len {K : PySem.W.Frag} {H : Hp} {G : Gm} {l : List V} {us : List Tg} (h : BxL K H G l us) : l.length = us.length := by
  induction h with
  | nil => rfl
  | cons a _ ih => rw [List.length_cons, List.length_cons, ih]
theorem BxL.at' {K : PySem.W.Frag} {H : Hp} {G : Gm} {l : List V} {us : List Tg} (h : BxL K H G l us) {i : Nat} {v : V} (hv : l[i]? = some v) : ∃ t, us[i]? = some t ∧ BxAt K H v (G.bx t) := by
  induction h generalizing i with
  | nil => cases hv
  | cons a _ ih =>
    cases i with
    | zero =>
      injection hv with hv
      subst hv
      exact ⟨_, rfl, a⟩
    | succ i => exact ih hv
theorem frm_lst {D : Addr} {H H' : Hp} {xs : List V} (f : Frm D H H') (h : H D = some (.lst xs)) : TF H H' := fun c ys z => by
  rcases z with z | ⟨u, z⟩
  · exact .inl (f c _ (fun q => by rw [q, h] at z; cases z) z)
  · exact .inr ⟨u, f c _ (fun q => by rw [q, h] at z; cases z) z⟩
section
variable {P : Program} {w : World} {K : PySem.W.Frag} {mg : Str → Option Value} {base : Heap}
def spISr (K : PySem.W.Frag) : Sp := fun vs H Q _ => ∃ (v u : V) (G : Gm) (st : List Tg) (pu : Int), vs = [v, u] ∧ LxAt K H v G st pu ∧ KxsAt K H u G.kds ∧ G.ok ∧ StR G st ∧ ∀ H', Same H H' → Q (.bl true) H'
theorem scISr : FnScope ["level", "kinds", "barring", "index", "_", "x", "y", "kind", "box", "other"] ["level", "kinds"] (defScope s_starts_stand_right) := ⟨rfl, rfl, rfl, by decide +kernel, rfl, by decide +kernel, by decide +kernel⟩
theorem ok_starts_stand_right (T : Txt K w mg) : FnOk P w K mg base CX0 3 (He.fAd K ("starts_stand_right", none)) (fdAt K (He.fAd K ("starts_stand_right", none))) ["level", "kinds"] (spISr K) := by
  refine T.F_starts_stand_right.ok scISr (fun vs H Q E h => ?_) (fun cdv A outer s H vs Q E hr h => ?_)
  · obtain ⟨v, u, G, st, pu, rfl, _⟩ := h
    rfl
  · obtain ⟨v, u, G, st, pu, rfl, hl, ⟨ka, kv, rfl, hk, kl, hks⟩, o, R, k⟩ := h
    have hu := Nat.lt_of_le_of_lt (Nat.add_le_add_left (by decide : 1 ≤ 64) _) hr.units
    refine ⟨_, PSs.nox (pss_cons (ps_set (i := 2) scISr.nd rfl (Or.inl rfl) (pe_lst pa_nil))
      (pss_cons (ps_for PassesOwn.never rfl (pi_tup (pe_ix (r := rIxT K) ix_tup (pv 0) pe_int (fun _ _ => rfl))) (pg_tup (by rfl) (pgs_cons (pg_name (i := 3) scISr.nd rfl (Or.inl rfl)) (pgs_cons (pg_name (i := 4) scISr.nd rfl (Or.inl rfl)) (pgs_cons (pg_name (i := 5) scISr.nd rfl (Or.inl rfl)) (pgs_cons (pg_name (i := 6) scISr.nd rfl (Or.inl rfl)) pgs_nil))))) (pss_cons (ps_if (pt_not (pt_val (pe_call (ok_is_between T) (hr.mono (by first | decide | omega)) (by rfl) T.g_is_between (T.F_is_between).kp T.b_is_between .nil pass0 (pa_cons (pv 3) (pa_cons pe_int (pa_cons (pe_op op_sub (pe_callB (r := Evl.rLenS K) call_len_seq (by rfl) T.n_len PyProof.Rows.Boot.«len» (pa_cons (pv 1) pa_nil)) pe_int) pa_nil)))))) (pss_one (ps_ret pe_bl)) pss_nil)
      (pss_cons (ps_set (i := 7) scISr.nd rfl (Or.inl rfl) (pe_ix (r := rIxT K) ix_tup (pv 1) (pv 3) (fun _ _ => rfl)))
      (pss_cons (ps_set (i := 8) scISr.nd rfl (Or.inr rfl) (pe_tup (pa_cons (pv 5) (pa_cons (pv 6) (pa_cons (pe_ix (r := rIxT K) ix_tup (pv 7) pe_int (fun _ _ => rfl)) (pa_cons (pe_ix (r := rIxT K) ix_tup (pv 7) pe_int (fun _ _ => rfl)) pa_nil))))))
      (pss_cons (ps_if (PW.pt (pw_or (pt_not (pt_val (pe_call (ok_is_clear T) (hr.mono (by first | decide | omega)) (by rfl) T.g_is_clear (T.F_is_clear).kp T.b_is_clear .nil pass0 (pa_cons (pv 0) (pa_cons (pv 8) pa_nil))))) (pw_or1 (pt_val (pe_call (ok_is_below T) (hr.mono (by first | decide | omega)) (by rfl) T.g_is_below (T.F_is_below).kp T.b_is_below .nil pass0 (pa_cons (pv 0) (pa_cons (pv 8) pa_nil))))))) (pss_one (ps_ret pe_bl)) pss_nil)
      (pss_one (ps_if (pt_cmpR (r := rIn K false) op_in_seq pe_str (pe_ix (r := rIxT K) ix_tup (pv 7) pe_int (fun _ _ => rfl)) rfl) (pss_cons (ps_if (pt_val (pe_callB (cr_any rfl) (by rfl) T.n_any PyProof.Rows.Boot.«any» (pa_cons (pe_lc (own := [("other", 9)]) (g := gName 9) (tt := tYes) (by rfl) scISr.nd (pi_list (pv 2)) (blkOk_by (own := [("other", 9)]) (N := ["level", "kinds", "barring", "index", "_", "x", "y", "kind", "box", "other"]) (sc := defScope s_starts_stand_right) (by decide +kernel)) (fun _ _ _ _ _ => pg_name (i := 9) scISr.nd rfl (Or.inl rfl)) (fun _ _ _ _ _ => pts_nil) (fun _ _ _ _ _ => (pe_call (ok_meet T) (hr.mono (by first | decide | omega)) (by rfl) T.g_meet (T.F_meet).kp T.b_meet .nil pass0 (pa_cons (pv 8) (pa_cons (pv 9) pa_nil))))) pa_nil))) (pss_one (ps_ret pe_bl)) pss_nil)
      (pss_one (ps_expr (pe_bm PySem.F.plainAttrs_list PySem.F.slot_list_append PySem.F.type_list_append mt_append (pv 2) (pa_cons (pv 8) pa_nil))))) pss_nil)))))))
      (pss_one (ps_ret pe_bl)))), ?_⟩
    obtain ⟨l, rs, sv, rfl, h1, h2, ⟨sa, svs, rfl, h3, sl, hss⟩⟩ := id hl
    refine ⟨(show 0 ≤ sizeLine by decide), fun D hD => ?_⟩
    have s1 := new_same (o := .lst []) hD
    have hDD : (upd H D (.lst [])) D = some (.lst []) := upd_same
    obtain ⟨H1, hH1⟩ : ∃ H1, H1 = upd H D (.lst []) := ⟨_, rfl⟩
    show gName 2 _ _ (upd H D (.lst [])) _
    rw [← hH1] at s1 hDD ⊢
    have t1 := same_tf s1
    refine ⟨_, rfl, l, _, _, _, rfl, rfl, t1.sq h1, atI_nat (j := 1) rfl, sa, rfl, ⟨_, t1.sq h3⟩, ?_⟩
    have l12 := R.len
    have kl8 := o.kl
    refine L2.for_it (walk_tup (K := K) (a := sa) (xs := svs)) (fun i σ H' => ∃ (v3 v4 v5 v6 v7 v8 v9 : Option V) (bs : List V), σ = [some (.ref l), some (.ref ka), some (.ref D), v3, v4, v5, v6, v7, v8, v9] ∧ Frm D H1 H' ∧ H' D = some (.lst bs) ∧ BxL K H' G bs ((st.take i).filter fun t => G.hs t "bars")) ⟨_, _, _, _, _, _, _, [], rfl, Frm.refl _ _, hDD, by rw [List.take_zero]; exact .nil⟩ (fun i σ H' _ h => by obtain ⟨_, _, _, _, _, _, _, _, _, f, _⟩ := h; exact (frm_lst f hDD).sq (t1.sq h3)) (fun i x σ H4 Hx hi hPv hy => ?_) (fun σ H4 hPv => ?_)
    · obtain ⟨v3, v4, v5, v6, v7, v8, v9, bs, rfl, f, hb, hbx⟩ := hPv
      obtain ⟨rfl, hx⟩ := hy
      have hi2 : i < st.length := by omega
      obtain ⟨t, ht⟩ : ∃ t, st[i]? = some t := ⟨_, List.getElem?_eq_getElem hi2⟩
      obtain ⟨x', hx', hxs⟩ := hss i t ht
      rw [hx] at hx'
      injection hx' with hx'
      subst hx'
      have T1 := t1.trans (frm_lst f hDD)
      obtain ⟨xa, rfl, hxa⟩ := hxs.tf T1
      have P1 := R.one t (List.mem_of_getElem? ht)
      obtain ⟨kd, hkd⟩ : ∃ kd, G.kds[t.k]? = some kd := ⟨_, List.getElem?_eq_getElem P1.k⟩
      obtain ⟨kx, hkx, hkxk⟩ := hks _ _ hkd
      obtain ⟨xk, tr, xo, xr, ow, rfl, g1, g2, _⟩ := hkxk.tf T1
      have ebx : G.bx t = t.box kd := by unfold Gm.bx; rw [hkd]
      have lim := P1.lm
      have pk := P1.k
      refine ⟨xa, _, rfl, hxa, rfl, _, _, rfl, _, _, rfl, _, _, rfl, _, _, rfl, rfl, ?_⟩
      refine ⟨_, rfl, _, rfl, ka, _, rfl, .inr (T1.sq hk), _, _, rfl, rfl, (t.k : Int), 0, (kv.length : Int) - 1, rfl, by omega, by omega, _, rfl, iteF ?_⟩
      refine ⟨_, rfl, _, rfl, ka, _, _, _, rfl, rfl, T1.sq hk, atI_nat hkx, ?_⟩
      refine ⟨_, rfl, _, rfl, _, rfl, xk, _, _, _, rfl, rfl, g1, atI_nat (j := 1) rfl, _, rfl, xk, _, _, _, rfl, rfl, g1, atI_nat (j := 2) rfl, (show 4 ≤ sizeLine by decide), fun p np => ?_⟩
      have s5 := new_same (o := .tup [V.int t.x, .int t.y, .int kd.w, .int kd.h]) np
      have hb5 : BxAt K (upd Hx p (.tup [V.int t.x, .int t.y, .int kd.w, .int kd.h])) (.ref p) (G.bx t) := ⟨p, rfl, by rw [ebx]; exact SqT.of upd_same⟩
      obtain ⟨H5, hH5⟩ : ∃ H5, H5 = upd Hx p (.tup [V.int t.x, .int t.y, .int kd.w, .int kd.h]) := ⟨_, rfl⟩
      show gName 8 _ _ (upd Hx p (.tup [V.int t.x, .int t.y, .int kd.w, .int kd.h])) _
      rw [← hH5] at s5 hb5 ⊢
      have T5 := T1.trans (same_tf s5)
      refine ⟨_, rfl, _, rfl, .ref l, .ref p, G, G.bx t, rfl, (hl.tf T5).lv, o, hb5, lim, fun H6 s6 => ?_⟩
      rw [P1.fr]
      refine ⟨_, rfl, iteF ?_⟩
      refine ⟨_, rfl, _, rfl, .ref l, .ref p, G, G.bx t, rfl, (hl.tf (T5.trans (same_tf s6))).lv, o, hb5.tf (same_tf s6), fun H7 s7 => ?_⟩
      rw [decide_eq_false (show ¬ G.hi ≤ (G.bx t).y by rw [ebx]; have := P1.y2; show ¬ G.hi ≤ t.y; omega)]
      refine ⟨_, rfl, iteF ?_⟩
      have S7 := (s5.trans s6).trans s7
      have hb7 := S7 _ _ hb
      have F7 := f.trans (Frm.of_same S7)
      have hbx7 := hbx.tf (same_tf S7)
      refine ⟨_, rfl, xk, _, _, _, rfl, rfl, (same_tf S7).sq g1, atI_nat (j := 3) rfl, tr, _, rfl, .inr ((same_tf S7).sq g2), rfl, flat_strs _, _, rfl, ?_⟩
      have ehs : G.hs t "bars" = inV (V.str "bars") (kd.tr.map V.str) := by unfold Gm.hs; rw [hkd]; rfl
      cases hbar : G.hs t "bars" with
      | false =>
        rw [show inV (V.str "bars") (kd.tr.map V.str) = false from ehs.symm.trans hbar]
        refine iteF ⟨_, _, _, _, _, _, _, bs, rfl, F7, hb7, ?_⟩
        rw [List.take_add_one, ht, List.filter_append]
        simp only [Option.toList_some, List.filter_cons, hbar, Bool.false_eq_true, if_false, List.filter_nil, List.append_nil]
        exact hbx7
      | true =>
        rw [show inV (V.str "bars") (kd.tr.map V.str) = true from ehs.symm.trans hbar]
        refine iteT ?_
        have ln := hbx.len
        have ln2 : ((st.take i).filter fun t => G.hs t "bars").length ≤ i := Nat.le_trans (List.length_filter_le _ _) (by rw [List.length_take]; omega)
        refine ⟨_, rfl, D, rfl, ⟨_, SqL.of hb7⟩, fun D2 hD2 => ?_⟩
        refine lc_it (walk_list (K := K) (a := D) (xs := bs)) (fun j H' => Same H7 H' ∧ H' D2 = some (.lst ((List.replicate j false).map V.bl))) ⟨new_same hD2, upd_same⟩ (fun j H' _ h => SqL.of (h.1 _ _ hb7)) (fun j v H' Hy hj h yy => ?_) (fun H' h => ?_)
        · obtain ⟨rfl, hv⟩ := yy
          obtain ⟨sm, hl2⟩ := h
          obtain ⟨u, hu, hub⟩ := hbx7.at' hv
          refine ⟨rfl, ?_⟩
          dsimp only [tYes]
          rw [if_pos rfl]
          obtain ⟨um, uh⟩ := List.mem_filter.mp (List.mem_of_getElem? hu)
          obtain ⟨m, hm⟩ := List.mem_iff_getElem?.mp um
          rw [List.getElem?_take] at hm
          split at hm
          · rename_i mi
            have hm1 := (List.getElem?_eq_some_iff.mp hm)
            have ht1 := (List.getElem?_eq_some_iff.mp ht)
            have pw : Put2 G u t := by
              have := List.pairwise_iff_getElem.mp R.two m i hm1.1 ht1.1 mi
              rw [hm1.2, ht1.2] at this
              exact this
            have em : meets (G.bx t) (G.bx u) = false := by rw [meets_sym]; exact pw uh hbar
            refine ⟨_, rfl, _, rfl, .ref p, v, G.bx t, G.bx u, rfl, hb5.tf (same_tf ((s6.trans s7).trans sm)), hub.tf (same_tf sm), ?_⟩
            rw [em]
            refine ⟨_, hl2, by rw [List.length_map, List.length_replicate]; exact Nat.lt_of_lt_of_le (show j < 1000 by omega) (by decide), fun c o z => ?_, ?_⟩
            · rw [upd_ne (ne_of_none z hD2)]
              exact sm _ _ z
            · rw [upd_same, List.replicate_succ', List.map_append]
              rfl
          · cases hm
        · refine ⟨D2, _, rfl, SqL.of h.2, ?_⟩
          rw [any_false]
          refine ⟨_, rfl, iteF ?_⟩
          have hb8 := h.1 _ _ hb7
          refine ⟨_, rfl, .inl ⟨rfl, _, SqL.of hb8⟩, _, rfl, D, _, _, rfl, rfl, hb8, Nat.lt_of_le_of_lt (show bs.length ≤ 24 by omega) (by decide), ⟨_, _, _, _, _, _, _, bs ++ [.ref p], rfl, (F7.trans (Frm.of_same h.1)).trans Frm.of_upd, upd_same, ?_⟩⟩
          have tfu := TF.lst1 (o := .lst (bs ++ [V.ref p])) hb8
          rw [List.take_add_one, ht, List.filter_append]
          simp only [Option.toList_some, List.filter_cons, hbar, if_true, List.filter_nil]
          exact (hbx7.tf ((same_tf h.1).trans tfu)).snoc (hb5.tf ((same_tf ((s6.trans s7).trans h.1)).trans tfu))
    · obtain ⟨v3, v4, v5, v6, v7, v8, v9, bs, rfl, f, hb, hbx⟩ := hPv
      exact k H4 fun b o z => f b o (fun e => by rw [e, hD] at z; cases z) (s1 _ _ z)
def spIGa (K : PySem.W.Frag) : Sp := fun vs H Q _ => ∃ (v : V) (G : Gm) (st : List Tg) (pu : Int), vs = [v] ∧ GxAt K H v G st pu ∧ G.right ∧ StR G st ∧ 0 ≤ pu ∧ pu ≤ 3 ∧ ∀ H', Same H H' → Q (.bl true) H'
theorem scIGa : FnScope ["told", "level", "kinds"] ["told"] (defScope s_is_game) := ⟨rfl, rfl, rfl, by decide +kernel, rfl, by decide +kernel, by decide +kernel⟩
theorem ok_is_game (T : Txt K w mg) : FnOk P w K mg base CX0 7 (He.fAd K ("is_game", none)) (fdAt K (He.fAd K ("is_game", none))) ["told"] (spIGa K) := by
  refine T.F_is_game.ok scIGa (fun vs H Q E h => ?_) (fun cdv A outer s H vs Q E hr h => ?_)
  · obtain ⟨v, G, st, pu, rfl, _⟩ := h
    rfl
  · obtain ⟨v, G, st, pu, rfl, ⟨g, lv, ks, rfl, h1, h2, h3⟩, R, S, p0, p3, k⟩ := h
    have hu := Nat.lt_of_le_of_lt (Nat.add_le_add_left (by decide : 1 ≤ 64) _) hr.units
    refine ⟨_, PSs.nox (pss_cons (ps_if (PW.pt (pw_or (pt_not (pt_val (pe_callB (r := rIsi K) call_isi (by rfl) T.n_isinstance PyProof.Rows.Boot.«isinstance» (pa_cons (pv 0) (pa_cons (pe_bltn (v := .ty "tuple") (by rfl) T.n_tuple PyProof.Rows.Boot.«tuple» rfl) pa_nil))))) (pw_or1 (pt_cmpR op_ne (pe_callB (r := Evl.rLenS K) call_len_seq (by rfl) T.n_len PyProof.Rows.Boot.«len» (pa_cons (pv 0) pa_nil)) pe_int (nomark _))))) (pss_one (ps_ret pe_bl)) pss_nil)
      (pss_cons (ps_asg (pv 0) (pg_tup (by rfl) (pgs_cons (pg_name (i := 1) scIGa.nd rfl (Or.inl rfl)) (pgs_cons (pg_name (i := 2) scIGa.nd rfl (Or.inl rfl)) pgs_nil))))
      (pss_one (ps_ret (pe_and (pe_call (ok_is_level T) (hr.mono (by first | decide | omega)) (by rfl) T.g_is_level (T.F_is_level).kp T.b_is_level .nil pass0 (pa_cons (pv 1) pa_nil)) (pe_and (pe_call (ok_are_kinds T) (hr.mono (by first | decide | omega)) (by rfl) T.g_are_kinds (T.F_are_kinds).kp T.b_are_kinds .nil pass0 (pa_cons (pv 2) pa_nil)) (pe_one (pe_call (ok_starts_stand_right T) (hr.mono (by first | decide | omega)) (by rfl) T.g_starts_stand_right (T.F_starts_stand_right).kp T.b_starts_stand_right .nil pass0 (pa_cons (pv 1) (pa_cons (pv 2) pa_nil)))))))))), ?_⟩
    refine ⟨_, rfl, _, _, _, _, _, rfl, .ty "tuple", ty_tup h1, kit_ty (r := true) (by decide +kernel), _, rfl, iteF ?_⟩
    refine ⟨_, rfl, g, _, rfl, .inr h1, rfl, _, rfl, iteF ?_⟩
    refine ⟨_, rfl, g, _, rfl, h1, rfl, _, _, rfl, _, _, rfl, rfl, ?_⟩
    exact ⟨_, rfl, lv, G, st, pu, rfl, h2, R, S, p0, p3, fun H1 s1 => ⟨_, rfl, iteT ⟨_, rfl, ks, G.kds, rfl, h3.tf (same_tf s1), R.k1, R.ok.kl, R.kr, fun H2 s2 => ⟨_, rfl, iteT ⟨_, rfl, _, rfl, lv, ks, G, st, pu, rfl, h2.tf (same_tf (s1.trans s2)), h3.tf (same_tf (s1.trans s2)), R.ok, S, fun H3 s3 => k H3 ((s1.trans s2).trans s3)⟩⟩⟩⟩⟩
def spINg (K : PySem.W.Frag) : Sp := fun vs H Q _ => ∃ (v : V) (G : Gm) (st : List Tg) (pu : Int), vs = [v] ∧ GxAt K H v G st pu ∧ G.right ∧ StR G st ∧ 0 ≤ pu ∧ pu ≤ 3 ∧ ∀ H', Same H H' → Q .non H'
theorem scINg : FnScope ["game"] ["game"] (defScope s_need_game) := ⟨rfl, rfl, rfl, by decide +kernel, rfl, by decide +kernel, by decide +kernel⟩
theorem ok_need_game (T : Txt K w mg) : FnOk P w K mg base CX0 8 (He.fAd K ("need_game", none)) (fdAt K (He.fAd K ("need_game", none))) ["game"] (spINg K) := by
  refine T.F_need_game.ok scINg (fun vs H Q E h => ?_) (fun cdv A outer s H vs Q E hr h => ?_)
  · obtain ⟨v, G, st, pu, rfl, _⟩ := h
    rfl
  · obtain ⟨v, G, st, pu, rfl, h1, R, S, p0, p3, k⟩ := h
    have hu := Nat.lt_of_le_of_lt (Nat.add_le_add_left (by decide : 1 ≤ 64) _) hr.units
    refine ⟨_, PSs.nox (pss_one (ps_if (pt_not (pt_val (pe_call (ok_is_game T) (hr.mono (by first | decide | omega)) (by rfl) T.g_is_game (T.F_is_game).kp T.b_is_game .nil pass0 (pa_cons (pv 0) pa_nil)))) (pss_one ps_never) pss_nil)), ?_⟩
    exact ⟨_, rfl, v, G, st, pu, rfl, h1, R, S, p0, p3, fun H1 s1 => ⟨_, rfl, iteF (k H1 s1)⟩⟩
def spIAp (K : PySem.W.Frag) : Sp := fun vs H Q _ => ∃ (v : V) (a : Addr) (G : Gm) (l : List Int), vs = [v, .ref a] ∧ GmAt K H v G ∧ G.ok ∧ SqT K H a (l.map V.int) ∧ (l.length : Int) = G.ho ∧ (∀ x ∈ l, 0 ≤ x ∧ x ≤ 63) ∧ ∀ H', Same H H' → Q (.bl true) H'
theorem scIAp : FnScope ["game", "told"] ["game", "told"] (defScope s_are_presses) := ⟨rfl, rfl, rfl, by decide +kernel, rfl, by decide +kernel, by decide +kernel⟩
theorem ok_are_presses (T : Txt K w mg) : FnOk P w K mg base CX0 4 (He.fAd K ("are_presses", none)) (fdAt K (He.fAd K ("are_presses", none))) ["game", "told"] (spIAp K) := by
  obtain ⟨u1, g1, r1⟩ := T.c_MOST_PRESS
  refine T.F_are_presses.ok scIAp (fun vs H Q E h => ?_) (fun cdv A outer s H vs Q E hr h => ?_)
  · obtain ⟨v, a, G, l, rfl, _⟩ := h
    rfl
  · obtain ⟨v, a, G, l, rfl, ⟨g, lv, ks, rfl, h1, ⟨la, rs, sx, pu, rfl, h2, _⟩, _⟩, o, ht, hl, hb, k⟩ := h
    have hu := Nat.lt_of_le_of_lt (Nat.add_le_add_left (by decide : 1 ≤ 64) _) hr.units
    refine ⟨_, PSs.nox (pss_one (ps_ret (pe_and (pe_call (ok_is_row T) (hr.mono (by first | decide | omega)) (by rfl) T.g_is_row (T.F_is_row).kp T.b_is_row .nil pass0 (pa_cons (pv 1) (pa_cons pe_int (pa_cons (pe_glob (v := .int 63) (by rfl) g1 r1) pa_nil)))) (pe_one (pe_cmpR op_eq (pe_callB (r := Evl.rLenS K) call_len_seq (by rfl) T.n_len PyProof.Rows.Boot.«len» (pa_cons (pv 1) pa_nil)) (pe_ix (r := rIxT K) ix_tup (pe_ix (r := rIxT K) ix_tup (pv 0) pe_int (fun _ _ => rfl)) pe_int (fun _ _ => rfl)) (nomark _)))))), ?_⟩
    have o2 := o.h2
    refine ⟨_, rfl, a, l, 0, 63, rfl, ht, by omega, hb, fun H1 s1 => ⟨_, rfl, iteT ?_⟩⟩
    refine ⟨_, rfl, a, _, rfl, .inr ((same_tf s1).sq ht), _, rfl, g, _, _, _, rfl, rfl, (same_tf s1).sq h1, atI_nat (j := 0) rfl, la, _, _, _, rfl, rfl, (same_tf s1).sq h2, atI_nat (j := 2) rfl, rfl, ?_⟩
    rw [List.length_map, hl, decide_eq_true rfl]
    exact k H1 s1
def spINp (K : PySem.W.Frag) : Sp := fun vs H Q _ => ∃ (v : V) (a : Addr) (G : Gm) (l : List Int), vs = [v, .ref a] ∧ GmAt K H v G ∧ G.ok ∧ SqT K H a (l.map V.int) ∧ (l.length : Int) = G.ho ∧ (∀ x ∈ l, 0 ≤ x ∧ x ≤ 63) ∧ ∀ H', Same H H' → Q .non H'
theorem scINp : FnScope ["game", "presses"] ["game", "presses"] (defScope s_need_presses) := ⟨rfl, rfl, rfl, by decide +kernel, rfl, by decide +kernel, by decide +kernel⟩
theorem ok_need_presses (T : Txt K w mg) : FnOk P w K mg base CX0 5 (He.fAd K ("need_presses", none)) (fdAt K (He.fAd K ("need_presses", none))) ["game", "presses"] (spINp K) := by
  refine T.F_need_presses.ok scINp (fun vs H Q E h => ?_) (fun cdv A outer s H vs Q E hr h => ?_)
  · obtain ⟨v, a, G, l, rfl, _⟩ := h
    rfl
  · obtain ⟨v, a, G, l, rfl, h1, o, ht, hl, hb, k⟩ := h
    have hu := Nat.lt_of_le_of_lt (Nat.add_le_add_left (by decide : 1 ≤ 64) _) hr.units
    refine ⟨_, PSs.nox (pss_one (ps_if (pt_not (pt_val (pe_call (ok_are_presses T) (hr.mono (by first | decide | omega)) (by rfl) T.g_are_presses (T.F_are_presses).kp T.b_are_presses .nil pass0 (pa_cons (pv 0) (pa_cons (pv 1) pa_nil))))) (pss_one ps_never) pss_nil)), ?_⟩
    exact ⟨_, rfl, _, rfl, v, a, G, l, rfl, h1, o, ht, hl, hb, fun H1 s1 => ⟨_, rfl, iteF (k H1 s1)⟩⟩
def spINd (K : PySem.W.Frag) : Sp := fun vs H Q _ => ∃ (a : Addr) (ph s : Int), vs = [.ref a] ∧ SqT K H a [.int ph, .int s] ∧ 0 ≤ ph ∧ ph ≤ 4 ∧ 0 ≤ s ∧ s ≤ 15 ∧ ∀ H', Same H H' → Q .non H'
theorem scINd : FnScope ["deed"] ["deed"] (defScope s_need_deed) := ⟨rfl, rfl, rfl, by decide +kernel, rfl, by decide +kernel, by decide +kernel⟩
theorem ok_need_deed (T : Txt K w mg) : FnOk P w K mg base CX0 3 (He.fAd K ("need_deed", none)) (fdAt K (He.fAd K ("need_deed", none))) ["deed"] (spINd K) := by
  obtain ⟨u1, g1, r1⟩ := T.c_PHASES
  obtain ⟨u2, g2, r2⟩ := T.c_SLOTS
  refine T.F_need_deed.ok scINd (fun vs H Q E h => ?_) (fun cdv A outer s H vs Q E hr h => ?_)
  · obtain ⟨a, ph, s, rfl, _⟩ := h
    rfl
  · obtain ⟨a, ph, s, rfl, h1, p0, p4, q0, q15, k⟩ := h
    have hu := Nat.lt_of_le_of_lt (Nat.add_le_add_left (by decide : 1 ≤ 64) _) hr.units
    refine ⟨_, PSs.nox (pss_one (ps_if (PW.pt (pw_or (pt_cmpR op_ne (pe_callB (r := Evl.rLenS K) call_len_seq (by rfl) T.n_len PyProof.Rows.Boot.«len» (pa_cons (pv 0) pa_nil)) pe_int (nomark _)) (pw_or (pt_not (pt_val (pe_call (ok_is_between T) (hr.mono (by first | decide | omega)) (by rfl) T.g_is_between (T.F_is_between).kp T.b_is_between .nil pass0 (pa_cons (pe_ix (r := rIxT K) ix_tup (pv 0) pe_int (fun _ _ => rfl)) (pa_cons pe_int (pa_cons (pe_op op_sub (pe_glob (v := .int 5) (by rfl) g1 r1) pe_int) pa_nil)))))) (pw_or1 (pt_not (pt_val (pe_call (ok_is_between T) (hr.mono (by first | decide | omega)) (by rfl) T.g_is_between (T.F_is_between).kp T.b_is_between .nil pass0 (pa_cons (pe_ix (r := rIxT K) ix_tup (pv 0) pe_int (fun _ _ => rfl)) (pa_cons pe_int (pa_cons (pe_op op_sub (pe_glob (v := .int 16) (by rfl) g2 r2) pe_int) pa_nil)))))))))) (pss_one ps_never) pss_nil)), ?_⟩
    refine ⟨_, rfl, a, _, rfl, .inr h1, rfl, _, rfl, iteF ?_⟩
    refine ⟨_, rfl, a, _, _, _, rfl, rfl, h1, atI_nat (j := 0) rfl, _, _, rfl, rfl, ph, 0, 5 - 1, rfl, p0, by omega, _, rfl, iteF ?_⟩
    refine ⟨_, rfl, a, _, _, _, rfl, rfl, h1, atI_nat (j := 1) rfl, _, _, rfl, rfl, s, 0, 16 - 1, rfl, q0, by omega, _, rfl, iteF ?_⟩
    exact k H (Same.refl _)
end
end K27
set_option maxRecDepth 100000
set_option maxHeartbeats 4000000
/-! A deed of phase 3. -/
namespace K27
open PySem PySem.Spec PyProof.Rows L2 KF KD KP
section
variable {P : Program} {w : World} {K : PySem.W.Frag} {mg : Str → Option Value} {base : Heap}
def spIDo (K : PySem.W.Frag) : Sp := fun vs H Q _ => ∃ (g : V) (pr dd la wt ld : Addr) (wv : List V) (wd : List PyData) (p : Int → Prop) (G : Gm) (sl : List (Option Tg)) (s : Nat) (st : List Tg) (pu : Int) (l : List Int), vs = [g, .ref pr, .ref dd, .ref la] ∧ GxAt K H g G st pu ∧ G.right ∧ StR G st ∧ 0 ≤ pu ∧ pu ≤ 3 ∧ SqT K H pr (l.map V.int) ∧ (l.length : Int) = G.ho ∧ (∀ x ∈ l, 0 ≤ x ∧ x ≤ 63) ∧ SlAll G sl ∧ s < 16 ∧ SqT K H dd [.int 3, .int (s : Int)] ∧ WtAt K H wt wv G sl ∧ LkAt K H la wt ld p ∧ DpAll K H wv wd ∧ (∀ e ∈ wd, AlOk 2 e) ∧ (∀ c, p c → 0 ≤ c ∧ c < (wv.length : Int)) ∧ ∀ (q : Addr) (ys : List Int) H', Frm ld H H' → LkAt K H' la wt ld (fun c => (p c ∨ c = (s : Int)) ∨ metP G sl s c) → ys.Pairwise (· < ·) → (∀ c, c ∈ ys ↔ (metC G sl s c).isSome = true) → Dp K H' (.ref q) (wrD wd (metC G sl s) ys) → Q (.ref q) H'
theorem scIDo : FnScope ["game", "presses", "deed", "looks"] ["game", "presses", "deed", "looks"] (defScope s_done) := ⟨rfl, rfl, rfl, by decide +kernel, rfl, by decide +kernel, by decide +kernel⟩
theorem ok_done (T : Txt K w mg) : FnOk P w K mg base CX0 9 (He.fAd K ("done", none)) (fdAt K (He.fAd K ("done", none))) ["game", "presses", "deed", "looks"] (spIDo K) := by
  refine T.F_done.ok scIDo (fun vs H Q E h => ?_) (fun cdv A outer s H vs Q E hr h => ?_)
  · obtain ⟨g, pr, dd, la, wt, ld, wv, wd, p, G, sl, s, st, pu, l, rfl, _⟩ := h
    rfl
  · obtain ⟨g, pr, dd, la, wt, ld, wv, wd, p, G, sl, s, st, pu, l, rfl, hg, R, S, p0, p3, hpr, hl, hb, sa, s16, hdd, hw, lk, dw, al, plt, k⟩ := h
    have hu := Nat.lt_of_le_of_lt (Nat.add_le_add_left (by decide : 1 ≤ 64) _) hr.units
    refine ⟨_, PSs.nox (pss_cons (ps_expr (pe_call (ok_need_game T) (hr.mono (by first | decide | omega)) (by rfl) T.g_need_game (T.F_need_game).kp T.b_need_game .nil pass0 (pa_cons (pv 0) pa_nil)))
      (pss_cons (ps_expr (pe_call (ok_need_presses T) (hr.mono (by first | decide | omega)) (by rfl) T.g_need_presses (T.F_need_presses).kp T.b_need_presses .nil pass0 (pa_cons (pv 0) (pa_cons (pv 1) pa_nil))))
      (pss_cons (ps_expr (pe_call (ok_need_deed T) (hr.mono (by first | decide | omega)) (by rfl) T.g_need_deed (T.F_need_deed).kp T.b_need_deed .nil pass0 (pa_cons (pv 2) pa_nil)))
      (pss_one (ps_ret (pe_call (ok_writes_of T) (hr.mono (by first | decide | omega)) (by rfl) T.g_writes_of (T.F_writes_of).kp T.b_writes_of .nil pass0 (pa_cons (pv 0) (pa_cons (pv 1) (pa_cons (pv 2) (pa_cons (pv 3) pa_nil)))))))))), ?_⟩
    refine ⟨_, rfl, g, G, st, pu, rfl, hg, R, S, p0, p3, fun H1 s1 => ?_⟩
    refine ⟨_, rfl, _, rfl, g, pr, G, l, rfl, hg.gm.tf (same_tf s1), R.ok, (same_tf s1).sq hpr, hl, hb, fun H2 s2 => ?_⟩
    have S2 := s1.trans s2
    refine ⟨_, rfl, dd, 3, (s : Int), rfl, (same_tf S2).sq hdd, by decide, by decide, by omega, by omega, fun H3 s3 => ?_⟩
    have S3 := S2.trans s3
    have T3 := same_tf S3
    exact ⟨_, rfl, _, rfl, _, rfl, _, rfl, g, .ref pr, dd, la, wt, ld, wv, wd, p, G, sl, s, rfl, hg.gm.tf T3, R.ok, sa, s16, T3.sq hdd, hw.tf T3, lk.same S3, dpa_nl T3 _ _ (al_nls al) dw, al, plt, fun q ys H' f l h1 h2 h3 => k q ys H' ((Frm.of_same S3).trans f) l h1 h2 h3⟩
end
end K27
set_option maxRecDepth 100000
set_option maxHeartbeats 4000000
/-! A deed is asked. -/
namespace K27
open PySem PySem.Spec PyProof.Rows L2 KF KD KP
/-- all that is asked of, and over what -/
structure AkS (K : PySem.W.Frag) (H : Hp) (g : V) (pr wt sd ta a ld wa : Addr) (G : Gm) (st : List Tg) (pu : Int) (l : List Int) (sl sl2 : List (Option Tg)) (wv av : List V) (X0 X1 wd2 : List PyData) (pL pK : Int → Prop) : Prop where
  gx : GxAt K H g G st pu
  prr : SqT K H pr (l.map V.int)
  wtt : WtAt K H wt wv G sl
  d0 : DpAll K H wv X0
  a0 : ∀ e ∈ X0, AlOk 2 e
  lk : LkAt K H a wt ld pL
  ks : KSet H sd pK
  sq : SqT K H ta av
  d1 : DpAll K H av X1
  a1 : ∀ e ∈ X1, AlOk 2 e
  wx : WxD K H wa sl2 wd2
  n1 : ld ≠ sd
  n2 : ld ≠ wa
theorem AkS.same {K : PySem.W.Frag} {H H' : Hp} {g : V} {pr wt sd ta a ld wa : Addr} {G : Gm} {st : List Tg} {pu : Int} {l : List Int} {sl sl2 : List (Option Tg)} {wv av : List V} {X0 X1 wd2 : List PyData} {pL pK : Int → Prop} (h : AkS K H g pr wt sd ta a ld wa G st pu l sl sl2 wv av X0 X1 wd2 pL pK) (e : Same H H') : AkS K H' g pr wt sd ta a ld wa G st pu l sl sl2 wv av X0 X1 wd2 pL pK :=
  ⟨h.gx.tf (same_tf e), (same_tf e).sq h.prr, h.wtt.tf (same_tf e), dpa_nl (same_tf e) _ _ (al_nls h.a0) h.d0, h.a0, h.lk.same e, h.ks.same e, (same_tf e).sq h.sq, dpa_nl (same_tf e) _ _ (al_nls h.a1) h.d1, h.a1, h.wx.same e, h.n1, h.n2⟩
theorem AkS.look {K : PySem.W.Frag} {H H' : Hp} {g : V} {pr wt sd ta a ld wa : Addr} {G : Gm} {st : List Tg} {pu : Int} {l : List Int} {sl sl2 : List (Option Tg)} {wv av : List V} {X0 X1 wd2 : List PyData} {pL pM pK : Int → Prop} (h : AkS K H g pr wt sd ta a ld wa G st pu l sl sl2 wv av X0 X1 wd2 pL pK) (f : Frm ld H H') (q : LkAt K H' a wt ld pM) : AkS K H' g pr wt sd ta a ld wa G st pu l sl sl2 wv av X0 X1 wd2 pM pK := by
  have tf := h.lk.tf f
  obtain ⟨wvv, hw, _⟩ := id h.wx
  exact ⟨h.gx.tf tf, tf.sq h.prr, h.wtt.tf tf, dpa_nl tf _ _ (al_nls h.a0) h.d0, h.a0, q, h.ks.frm f (Ne.symm h.n1), tf.sq h.sq, dpa_nl tf _ _ (al_nls h.a1) h.d1, h.a1, h.wx.tf tf (by rw [hw]; exact f _ _ (Ne.symm h.n2) hw), h.n1, h.n2⟩
theorem pr_snoc {K : PySem.W.Frag} {H0 H1 : Hp} {D q : Addr} {f : Int → PyData} {zs : List Int} {acc : List V} {c : Int} {v : V} (nl : ∀ c, NL (f c)) (nD : H0 D = none) (sm : Same H0 H1) (hacc : H1 D = some (.lst acc)) (hs : PrV K H1 f zs acc) (hv : Dp K H1 v (f c)) (nq : H1 q = none) (hl : zs.length < 1000) :
    ∃ acc', (upd H1 q (.tup [.int c, v])) D = some (.lst acc') ∧ acc'.length < sizeLine ∧ (∃ acc2, (upd (upd H1 q (.tup [.int c, v])) D (.lst (acc' ++ [.ref q]))) D = some (.lst acc2) ∧ PrV K (upd (upd H1 q (.tup [.int c, v])) D (.lst (acc' ++ [.ref q]))) f (zs ++ [c]) acc2 ∧ Same H0 (upd (upd H1 q (.tup [.int c, v])) D (.lst (acc' ++ [.ref q])))) := by
  have h := pr_step (ys := zs ++ [c]) (i := zs.length) nl nD sm hacc (by rw [List.take_left]; exact hs) (by simp) hv nq (by rw [List.length_append]; show zs.length + 1 ≤ 1000; omega)
  rw [List.take_of_length_le (show (zs ++ [c]).length ≤ zs.length + 1 by rw [List.length_append]; exact Nat.le_refl _)] at h
  exact h
theorem gd_alok {X : List PyData} (h : ∀ e ∈ X, AlOk 2 e) (n : Nat) : AlOk 2 (X.getD n .none) := by
  rw [List.getD_eq_getElem?_getD]
  cases e : X[n]? with
  | none => exact trivial
  | some x => exact h x (List.mem_of_getElem? e)
theorem due_al {X0 X1 : List PyData} {N : Nat} (h : ∀ e ∈ X1, AlOk 2 e) (hN : N ≤ 1000) : AlOk 4 (dueD X0 X1 N) := by
  refine ⟨by rw [List.length_map]; exact Nat.le_trans (List.length_filter_le _ _) (by rw [List.length_map, List.length_range]; exact hN), fun e he => ?_⟩
  obtain ⟨c, _, rfl⟩ := List.mem_map.mp he
  refine ⟨(show 2 ≤ 1000 by decide), fun e2 he2 => ?_⟩
  rcases List.mem_cons.mp he2 with rfl | he2
  · trivial
  · obtain rfl : e2 = X1.getD c.toNat .none := by simpa using he2
    rw [List.getD_eq_getElem?_getD]
    cases e : X1[c.toNat]? with
    | none => exact trivial
    | some x => exact h x (List.mem_of_getElem? e)
section
variable {P : Program} {w : World} {K : PySem.W.Frag} {mg : Str → Option Value} {base : Heap}
def spIAk (K : PySem.W.Frag) : Sp := fun vs H Q _ => ∃ (g : V) (wa pr : Addr) (G : Gm) (st : List Tg) (pu : Int) (l : List Int) (sl : List (Option Tg)) (wd : List PyData) (s : Nat), vs = [g, .ref wa, .ref pr, .int (s : Int)] ∧ GxAt K H g G st pu ∧ G.right ∧ StR G st ∧ 0 ≤ pu ∧ pu ≤ 3 ∧ SqT K H pr (l.map V.int) ∧ (l.length : Int) = G.ho ∧ (∀ x ∈ l, 0 ≤ x ∧ x ≤ 63) ∧ SlAll G sl ∧ s < 16 ∧ WxD K H wa sl wd ∧ ∀ H', Frm wa H H' → WxD K H' wa (sl) (metWd G sl wd s) → Q (.bl true) H'
theorem scILak : FnScope ["game", "w", "presses", "slot", "world", "seen", "after", "looks", "told", "due", "cell"] ["game", "w", "presses", "slot"] (defScope s_law_asked) := ⟨rfl, rfl, rfl, by decide +kernel, rfl, by decide +kernel, by decide +kernel⟩
theorem ok_law_asked (T : Txt K w mg) : FnOk P w K mg base CX0 10 (He.fAd K ("_law_asked", none)) (fdAt K (He.fAd K ("_law_asked", none))) ["game", "w", "presses", "slot"] (spIAk K) := by
  refine T.F_law_asked.ok scILak (fun vs H Q E h => ?_) (fun cdv A outer s H vs Q E hr h => ?_)
  · obtain ⟨g, wa, pr, G, st, pu, l, sl, wd, s, rfl, _⟩ := h
    rfl
  · obtain ⟨g, wa, pr, G, st, pu, l, sl, wd, s, rfl, hg, RG, S, p0, p3, hpr, hl, hb, sa, s16, hw, k⟩ := h
    have hu := Nat.lt_of_le_of_lt (Nat.add_le_add_left (by decide : 1 ≤ 64) _) hr.units
    refine ⟨_, PSs.nox (pss_cons (ps_set (i := 4) scILak.nd rfl (Or.inr rfl) (pe_call (ok_law_world T) (hr.mono (by first | decide | omega)) (by rfl) T.g_law_world (T.F_law_world).kp T.b_law_world .nil pass0 (pa_cons (pv 0) (pa_cons (pv 1) pa_nil))))
      (pss_cons (ps_set (i := 5) scILak.nd rfl (Or.inl rfl) (pe_disp (pps_cons (pv 3) pe_bl pps_nil) (by rfl) (by rfl) (fun z => by cases z) (by decide)))
      (pss_cons (ps_if (pt_cmpR op_notN (pe_ix (r := rIxL K) ix_list (pv 1) (pv 3) (fun _ _ => rfl)) pe_non (nomark _)) (pss_one (ps_expr (pe_call (ok_law_met T) (hr.mono (by first | decide | omega)) (by rfl) T.g_law_met (T.F_law_met).kp T.b_law_met .nil pass0 (pa_cons (pv 0) (pa_cons (pv 1) (pa_cons (pv 5) (pa_cons (pv 3) pa_nil))))))) pss_nil)
      (pss_cons (ps_set (i := 6) scILak.nd rfl (Or.inr rfl) (pe_call (ok_law_world T) (hr.mono (by first | decide | omega)) (by rfl) T.g_law_world (T.F_law_world).kp T.b_law_world .nil pass0 (pa_cons (pv 0) (pa_cons (pv 1) pa_nil))))
      (pss_cons (ps_set (i := 7) scILak.nd rfl (Or.inl rfl) (pe_make T.m_Looks (ok_Looks_init T) (hr.mono (by decide)) (by rfl) T.g_Looks T.b_Looks_init .nil pass0 (pa_cons (pv 4) pa_nil)))
      (pss_cons (ps_set (i := 8) scILak.nd rfl (Or.inl rfl) (pe_call (ok_done T) (hr.mono (by first | decide | omega)) (by rfl) T.g_done (T.F_done).kp T.b_done .nil pass0 (pa_cons (pv 0) (pa_cons (pv 2) (pa_cons (pe_tup (pa_cons pe_int (pa_cons (pv 3) pa_nil))) (pa_cons (pv 7) pa_nil))))))
      (pss_cons (ps_setLc (i := 9) (own := [("cell", 10)]) (g := gName 10) (by rfl) scILak.nd rfl rfl (sw_true rfl rfl rfl (by decide +kernel)) (pi_range1 (by rfl) T.n_range (pa_cons (pe_callB (r := Evl.rLenS K) call_len_seq (by rfl) T.n_len PyProof.Rows.Boot.«len» (pa_cons (pv 4) pa_nil)) pa_nil)) (blkOk_by (own := [("cell", 10)]) (N := ["game", "w", "presses", "slot", "world", "seen", "after", "looks", "told", "due", "cell"]) (sc := defScope s_law_asked) (by decide +kernel)) (fun _ _ _ _ _ => pg_name (i := 10) scILak.nd rfl (Or.inl rfl)) (fun _ _ _ _ _ => pts_one (pt_cmpR (show OpR _ _ (rNeD K) from op_neD hr.units) (pe_ix (r := rIxT K) ix_tup (pv 6) (pv 10) (fun _ _ => rfl)) (pe_ix (r := rIxT K) ix_tup (pv 4) (pv 10) (fun _ _ => rfl)) (nomark _))) (fun _ _ _ _ _ => (pe_tup (pa_cons (pv 10) (pa_cons (pe_ix (r := rIxT K) ix_tup (pv 6) (pv 10) (fun _ _ => rfl)) pa_nil)))))
      (pss_cons (ps_if (PW.pt (pw_or (pt_not (pt_val (pe_call (ok_law_same T 5) (hr.mono (by first | decide | omega)) (by rfl) T.g_law_same (T.F_law_same).kp T.b_law_same .nil pass0 (pa_cons (pv 8) (pa_cons (pe_callTy call_tuple_of (by rfl) T.n_tuple PyProof.Rows.Boot.«tuple» (pa_cons (pv 9) pa_nil)) pa_nil))))) (pw_or1 (pt_not (pt_val (pe_call (ok_law_same T 5) (hr.mono (by first | decide | omega)) (by rfl) T.g_law_same (T.F_law_same).kp T.b_law_same .nil pass0 (pa_cons (pe_meth0 (pv 7) T.k_Looks T.e_Looks_seen (ok_Looks_seen T) (hr.mono (by decide)) T.b_Looks_seen .nil pass0) (pa_cons (pe_call (ok_law_seen T) (hr.mono (by first | decide | omega)) (by rfl) T.g_law_seen (T.F_law_seen).kp T.b_law_seen .nil pass0 (pa_cons (pv 4) (pa_cons (pv 5) pa_nil))) pa_nil)))))))) (pss_one (ps_ret pe_bl)) pss_nil)
      (pss_cons (ps_if (pt_not (pt_val (pe_call (ok_law_same T 5) (hr.mono (by first | decide | omega)) (by rfl) T.g_law_same (T.F_law_same).kp T.b_law_same .nil pass0 (pa_cons (pe_call (ok_done T) (hr.mono (by first | decide | omega)) (by rfl) T.g_done (T.F_done).kp T.b_done .nil pass0 (pa_cons (pv 0) (pa_cons (pv 2) (pa_cons (pe_tup (pa_cons pe_int (pa_cons (pv 3) pa_nil))) (pa_cons (pv 7) pa_nil))))) (pa_cons (pe_callTy call_tuple_of (by rfl) T.n_tuple PyProof.Rows.Boot.«tuple» (pa_cons (pv 9) pa_nil)) pa_nil))))) (pss_one (ps_ret pe_bl)) pss_nil)
      (pss_one (ps_ret (pe_call (ok_law_same T 5) (hr.mono (by first | decide | omega)) (by rfl) T.g_law_same (T.F_law_same).kp T.b_law_same .nil pass0 (pa_cons (pe_meth0 (pv 7) T.k_Looks T.e_Looks_seen (ok_Looks_seen T) (hr.mono (by decide)) T.b_Looks_seen .nil pass0) (pa_cons (pe_call (ok_law_seen T) (hr.mono (by first | decide | omega)) (by rfl) T.g_law_seen (T.F_law_seen).kp T.b_law_seen .nil pass0 (pa_cons (pv 4) (pa_cons (pv 5) pa_nil))) pa_nil)))))))))))))), ?_⟩
    have o := RG.ok
    have b24 := bhw o
    obtain ⟨N, hN⟩ : ∃ N : Nat, N = 49 + (G.bh * G.bw).toNat := ⟨_, rfl⟩
    have hN2 : (N : Int) = 49 + G.bh * G.bw := by omega
    refine ⟨_, rfl, _, rfl, g, wa, G, sl, wd, rfl, hg.gm, o, sa, hw.wl, fun wt wv H1 s1 hwt hdd hal => ?_⟩
    have hw1 := hw.same s1
    obtain ⟨wvv, hwv, wwl, hws, _⟩ := id hw1
    obtain ⟨so, hso⟩ : ∃ so, sl[s]? = some so := ⟨_, List.getElem?_eq_getElem (by rw [sa.len]; exact s16)⟩
    refine seq_cut (fun σ' H' => σ' = [some g, some (.ref wa), some (.ref pr), some (.int (s : Int)), some (.ref wt), none, none, none, none, none, none] ∧ H1 = H') (fun σ' H' hP => ?_) (fun R hR => hR _ _ ⟨rfl, rfl⟩)
    obtain ⟨rfl, rfl⟩ := hP
    refine seq_cut (fun σ' H' => ∃ sd : Addr, σ' = [some g, some (.ref wa), some (.ref pr), some (.int (s : Int)), some (.ref wt), some (.ref sd), none, none, none, none, none] ∧ KSet H' sd (fun c => c = (s : Int)) ∧ H1 sd = none ∧ Same H1 H') (fun σ' H2 hP => ?_) (fun R hR => ?_)
    rotate_left
    · refine fun sd nsd => ⟨_, rfl, upd_same, [(.inl (s : Int), .bl true)], rfl, (show 1 ≤ 15 by decide), ?_⟩
      have hk : (upd (upd H1 sd (.dK [])) sd (.dK [(.inl (s : Int), .bl true)])) sd = some (.dK [(.inl (s : Int), .bl true)]) := upd_same
      have sm : Same H1 (upd (upd H1 sd (.dK [])) sd (.dK [(.inl (s : Int), .bl true)])) := fun b o z => by
        rw [upd_ne (ne_of_none z nsd), upd_ne (ne_of_none z nsd)]
        exact z
      exact hR _ _ ⟨sd, rfl, kset_one s16 hk, nsd, sm⟩
    obtain ⟨sd, rfl, ks2, nsd, s2⟩ := hP
    have S2 := s1.trans s2
    have hw2 := hw.same S2
    have hwv2 := s2 _ _ hwv
    have hg2 := hg.tf (same_tf S2)
    have wsd : wa ≠ sd := fun e => by rw [e, nsd] at hwv; cases hwv
    refine seq_cut (fun σ' H' => σ' = [some g, some (.ref wa), some (.ref pr), some (.int (s : Int)), some (.ref wt), some (.ref sd), none, none, none, none, none] ∧ F2 wa sd H2 H' ∧ WxD K H' wa (sl) (metWd G sl wd s) ∧ KSet H' sd (fun c => c = (s : Int) ∨ metP G sl s c)) (fun σ' H3 hP => ?_) (fun R hR => ?_)
    rotate_left
    · obtain ⟨v, hv, hvx⟩ := hws s _ hso
      refine ⟨_, rfl, _, rfl, wa, _, _, _, rfl, rfl, SqL.of hwv2, atI_nat hv, rfl, _, rfl, ?_⟩
      cases so with
      | none =>
        obtain rfl : v = .non := hvx
        refine iteF (hR _ _ ⟨rfl, F2.refl _ _ _, ?_, ks2.imp fun c => ?_⟩)
        · unfold metWd
          rw [hso]
          exact hw2
        · unfold metP
          rw [hso]
          exact ⟨.inl, fun z => z.elim id fun z => z.elim⟩
      | some t =>
        obtain ⟨ta, oa, rfl, _⟩ : TgX K H1 v t := hvx
        refine iteT ⟨_, rfl, _, rfl, _, rfl, _, rfl, g, wa, sd, G, sl, wd, s, t, _, rfl, hg2.gm, o, sa, s16, hso, hw2, ks2, fun H3 f3 w3 k3 => hR _ _ ⟨rfl, f3, w3, k3⟩⟩
    obtain ⟨rfl, f3, w3, ks3⟩ := hP
    have tf3 := wx_tf hw2 ks2 f3
    have T3 := (same_tf S2).trans tf3
    have F3' : Frm wa H H3 := fun b o n z => f3 b o n (ne_of_none (s1 _ _ z) nsd) (S2 _ _ z)
    obtain ⟨wd2, hwd2⟩ : ∃ wd2, wd2 = metWd G sl wd s := ⟨_, rfl⟩
    obtain ⟨X0, hX0⟩ : ∃ X0, X0 = wd ++ bksD G sl := ⟨_, rfl⟩
    obtain ⟨X1, hX1⟩ : ∃ X1, X1 = wd2 ++ bksD G sl := ⟨_, rfl⟩
    have due : ∀ ys : List Int, ys.Pairwise (· < ·) → (∀ c, c ∈ ys ↔ (metC G sl s c).isSome = true) → wrD X0 (metC G sl s) ys = dueD X0 X1 N := fun ys h1 h2 => by
      rw [hX0, hX1, hwd2]
      exact wr_due o sa s16 hw.len hal hN2 h1 h2 fun c m => by
        have := metC_rng o s16 ((h2 c).mp m)
        omega
    rw [← hwd2] at w3 k
    rw [← hX0] at hdd hal
    refine seq_cut (fun σ' H' => ∃ (ta : Addr) (av : List V), σ' = [some g, some (.ref wa), some (.ref pr), some (.int (s : Int)), some (.ref wt), some (.ref sd), some (.ref ta), none, none, none, none] ∧ Same H3 H' ∧ av.length = N ∧ SqT K H' ta av ∧ DpAll K H' av X1 ∧ ∀ e ∈ X1, AlOk 2 e) (fun σ' H4 hP => ?_) (fun R hR => ?_)
    rotate_left
    · refine ⟨_, rfl, _, rfl, g, wa, G, sl, wd2, rfl, (hg.tf T3).gm, o, sa, w3.wl, fun ta av H4 s4 hta hda hala => ?_⟩
      rw [← hX1] at hda hala
      exact hR _ _ ⟨ta, av, rfl, s4, by have := hta.len; omega, hta.sq, hda, hala⟩
    obtain ⟨ta, av, rfl, s4, avl, hta, hda, hala⟩ := hP
    have T4 := T3.trans (same_tf s4)
    have wvl : wv.length = N := by have := hwt.len; omega
    obtain ⟨pK, hpK⟩ : ∃ pK : Int → Prop, pK = fun c => c = (s : Int) ∨ metP G sl s c := ⟨_, rfl⟩
    have pKb : ∀ c, pK c → 0 ≤ c ∧ c < (wv.length : Int) := fun c z => by
      rw [hpK] at z
      rcases z with z | z
      · omega
      · have := metP_rng o sa s16 hN2 z
        omega
    rw [← hpK] at ks3
    refine seq_cut (fun σ' H' => ∃ (a ld : Addr), σ' = [some g, some (.ref wa), some (.ref pr), some (.int (s : Int)), some (.ref wt), some (.ref sd), some (.ref ta), some (.ref a), none, none, none] ∧ Same H4 H' ∧ H4 ld = none ∧ AkS K H' g pr wt sd ta a ld wa G st pu l sl sl wv av X0 X1 wd2 (fun _ => False) pK) (fun σ' H5 hP => ?_) (fun R hR => ?_)
    rotate_left
    · refine ⟨_, rfl, fun a dx' na ndx nda => ⟨a, dx', wt, rfl, upd_same, fun H5 ld lk5 fa nld => ⟨rfl, ?_⟩⟩⟩
      have s5 := new_looks na ndx fa
      have nld4 := none_looks nld
      have TA : TF H1 H5 := (same_tf s2).trans (tf3.trans ((same_tf s4).trans (same_tf s5)))
      obtain ⟨w3v, hw3, _⟩ := id w3
      exact hR _ _ ⟨a, ld, rfl, s5, nld4, ⟨hg.tf (T4.trans (same_tf s5)), (T4.trans (same_tf s5)).sq hpr, hwt.tf TA, dpa_nl TA _ _ (al_nls hal) hdd, hal, lk5, (ks3.same s4).same s5, (same_tf s5).sq hta, dpa_nl (same_tf s5) _ _ (al_nls hala) hda, hala, (w3.same s4).same s5, nkey nld4 (ks3.same s4), fun e => by rw [e, s4 _ _ hw3] at nld4; cases nld4⟩⟩
    obtain ⟨a, ld, rfl, s5, nld, A5⟩ := hP
    have sub1 : ∀ c, ((False ∨ c = (s : Int)) ∨ metP G sl s c) ↔ pK c := fun c => by
      rw [hpK]
      exact ⟨fun z => z.elim (fun z => z.elim (fun z => z.elim) .inl) .inr, fun z => z.elim (fun z => .inl (.inr z)) .inr⟩
    have sub2 : ∀ c, ((pK c ∨ c = (s : Int)) ∨ metP G sl s c) ↔ pK c := fun c => by
      rw [hpK]
      exact ⟨fun z => z.elim (fun z => z.elim id .inl) .inr, fun z => .inl (.inl z)⟩
    refine seq_cut (fun σ' H' => ∃ q : Addr, σ' = [some g, some (.ref wa), some (.ref pr), some (.int (s : Int)), some (.ref wt), some (.ref sd), some (.ref ta), some (.ref a), some (.ref q), none, none] ∧ Frm ld H5 H' ∧ Dp K H' (.ref q) (dueD X0 X1 N) ∧ AkS K H' g pr wt sd ta a ld wa G st pu l sl sl wv av X0 X1 wd2 pK pK) (fun σ' H6 hP => ?_) (fun R hR => ?_)
    rotate_left
    · refine ⟨_, rfl, _, rfl, _, rfl, (show 2 ≤ sizeLine by decide), fun dd ndd => ⟨_, rfl, ?_⟩⟩
      have A := A5.same (new_same (o := .tup [V.int 3, .int (s : Int)]) ndd)
      refine ⟨g, pr, dd, a, wt, ld, wv, X0, (fun _ => False), G, sl, s, st, pu, l, rfl, A.gx, RG, S, p0, p3, A.prr, hl, hb, sa, s16, SqT.of upd_same, A.wtt, A.lk, A.d0, A.a0, (fun c z => z.elim), fun q ys H'' f lk hy hm hq => ?_⟩
      rw [due ys hy hm] at hq
      exact hR _ _ ⟨q, rfl, (Frm.of_same (new_same ndd)).trans f, hq, A.look f (lk.imp sub1)⟩
    obtain ⟨q, rfl, f6, hq6, A6⟩ := hP
    have nlf2 : ∀ c : Int, NL ((fun c : Int => X1.getD c.toNat .none) c) := fun c => alok_nl 2 _ (gd_alok A6.a1 _)
    refine seq_cut (fun σ' H' => ∃ (D : Addr) (acc : List V), σ' = [some g, some (.ref wa), some (.ref pr), some (.int (s : Int)), some (.ref wt), some (.ref sd), some (.ref ta), some (.ref a), some (.ref q), some (.ref D), none] ∧ Same H6 H' ∧ H' D = some (.lst acc) ∧ DpAll K H' acc ((((List.range N).map fun i : Nat => (i : Int)).filter (neD X0 X1)).map fun c => PyData.tuple [.int c, X1.getD c.toNat .none]) ∧ D ≠ ld) (fun σ' H7 hP => ?_) (fun R hR => ?_)
    rotate_left
    · refine ⟨_, rfl, wt, _, rfl, .inr A6.wtt.sq, _, rfl, by omega, by omega, fun D hD => ?_⟩
      rw [Int.toNat_natCast]
      have nlf : ∀ c : Int, NL ((fun c : Int => X1.getD c.toNat .none) c) := fun c => alok_nl 2 _ (gd_alok A6.a1 _)
      obtain ⟨RN, hRN⟩ : ∃ RN, RN = (List.range N).map fun i : Nat => (i : Int) := ⟨_, rfl⟩
      have rl : RN.length = N := by rw [hRN, List.length_map, List.length_range]
      have rat : ∀ i, i < N → RN[i]? = some (i : Int) := fun i h => by rw [hRN, List.getElem?_map, List.getElem?_range h]; rfl
      rw [← hRN] at hR
      refine lc_it (walk_r0 (n := wv.length)) (fun i H' => ∃ acc, H' D = some (.lst acc) ∧ PrV K H' (fun c : Int => X1.getD c.toNat .none) ((RN.take i).filter (neD X0 X1)) acc ∧ Same H6 H') ⟨[], upd_same, by rw [List.take_zero]; exact .nil, new_same hD⟩ (fun _ _ _ _ => trivial) (fun i v H' Hx hi h yy => ?_) (fun H' h => ?_)
      · obtain ⟨rfl, rfl⟩ := yy
        obtain ⟨acc, hacc, hs, sm⟩ := h
        have A7 := A6.same sm
        obtain ⟨v1, hv1, dv1⟩ := dpa_gd A7.d1 (show i < av.length by omega)
        obtain ⟨v0, hv0, dv0⟩ := dpa_gd A7.d0 hi
        have tk : RN.take (i + 1) = RN.take i ++ [(i : Int)] := by rw [List.take_add_one, rat i (by omega)]; rfl
        have e : neD X0 X1 (i : Int) = !PyData.eqv (X1.getD i .none) (X0.getD i .none) := by unfold neD; rw [Int.toNat_natCast]
        refine ⟨rfl, _, rfl, _, rfl, ta, _, _, v1, rfl, rfl, A7.sq, atI_nat hv1, _, rfl, _, rfl, wt, _, _, v0, rfl, rfl, A7.wtt.sq, atI_nat hv0, _, _, dv1, dv0, alok_sh (gd_alok A7.a1 _) (by decide), alok_sh (gd_alok A7.a0 _) (by decide), _, rfl, ite2 (fun z => ?_) (fun z => ?_)⟩
        · refine ⟨_, rfl, _, rfl, _, rfl, ta, _, _, v1, rfl, rfl, A7.sq, atI_nat hv1, (show 2 ≤ sizeLine by decide), fun q2 nq2 => ?_⟩
          have ef : (RN.take (i + 1)).filter (neD X0 X1) = (RN.take i).filter (neD X0 X1) ++ [(i : Int)] := by
            rw [tk, List.filter_append]
            have e1 : neD X0 X1 (i : Int) = true := e.trans z
            simp [e1]
          rw [ef]
          exact pr_snoc nlf hD sm hacc hs (by rw [Int.toNat_natCast]; exact dv1) nq2 (Nat.lt_of_le_of_lt (List.length_filter_le _ _) (by rw [List.length_take]; omega))
        · have ef : (RN.take (i + 1)).filter (neD X0 X1) = (RN.take i).filter (neD X0 X1) := by
            rw [tk, List.filter_append]
            have e1 : neD X0 X1 (i : Int) = false := by
              rw [e]
              cases q : (!PyData.eqv (X1.getD i .none) (X0.getD i .none)) with
              | true => exact absurd q z
              | false => rfl
            simp [e1]
          rw [ef]
          exact ⟨acc, hacc, hs, sm⟩
      · obtain ⟨acc, hacc, hs, sm⟩ := h
        rw [List.take_of_length_le (by omega)] at hs
        exact hR _ _ ⟨D, acc, rfl, sm, hacc, hs, fun e => by
          obtain ⟨_, _, z⟩ := A6.lk
          obtain ⟨_, z⟩ := z.dict
          rw [e, z] at hD
          cases hD⟩
    obtain ⟨D, acc, rfl, s7, hD7, hacc7, Dld⟩ := hP
    have A7 := A6.same s7
    have hq7 := dp_nl (same_tf s7) _ _ (alok_nl _ _ (due_al (N := N) A6.a1 (by omega))) hq6
    have dal := due_al (X0 := X0) (N := N) A6.a1 (by omega)
    refine seq_cut (fun σ' H' => σ' = [some g, some (.ref wa), some (.ref pr), some (.int (s : Int)), some (.ref wt), some (.ref sd), some (.ref ta), some (.ref a), some (.ref q), some (.ref D), none] ∧ Same H7 H') (fun σ' H8 hP => ?_) (fun R hR => ?_)
    rotate_left
    · refine ⟨_, rfl, _, rfl, D, acc, rfl, .inl ⟨SqL.of hD7, fun t nt => ?_⟩⟩
      have st8 := new_same (o := .tup acc) nt
      have T8 := same_tf st8
      refine ⟨.ref q, .ref t, dueD X0 X1 N, rfl, dp_nl T8 _ _ (alok_nl _ _ dal) hq7, .tup (SqT.of upd_same) (dpa_nl T8 _ _ (nls_pr _ nlf2 _) hacc7), dal, fun H8 s8 => ⟨true, rfl, iteF ?_⟩⟩
      have A8 := A7.same (st8.trans s8)
      have nl0 := al_nls A8.a0
      obtain ⟨dxa, haa, _⟩ := id A8.lk
      refine ⟨_, rfl, a, dxa, _, rfl, haa, rfl, a, wt, ld, wv, X0, pK, rfl, A8.lk, A8.wtt.sq, A8.d0, nl0, pKb, fun t5 ys H20 s20 yp ym dy => ⟨_, rfl, _, rfl, wt, sd, wv, X0, pK, rfl, A8.ks.same s20, (same_tf s20).sq A8.wtt.sq, dpa_nl (same_tf s20) _ _ nl0 A8.d0, nl0, pKb, fun t6 zs H21 s21 zp zm dz => ?_⟩⟩
      have e : zs = ys := same_ys zp yp zm ym
      rw [e] at dz
      have al4 := seenD_al A8.a0 (ys_len yp ym A8.ks)
      exact ⟨.ref t5, .ref t6, seenD X0 ys, rfl, dp_nl (same_tf s21) _ _ (alok_nl _ _ al4) dy, dz, al4, fun H22 s22 => ⟨true, rfl, iteF (hR _ _ ⟨rfl, (st8.trans s8).trans (s20.trans (s21.trans s22))⟩)⟩⟩
    obtain ⟨rfl, s8⟩ := hP
    have A8 := A7.same s8
    have hD8 := s8 _ _ hD7
    have hacc8 := dpa_nl (same_tf s8) _ _ (nls_pr _ nlf2 _) hacc7
    refine seq_cut (fun σ' H' => σ' = [some g, some (.ref wa), some (.ref pr), some (.int (s : Int)), some (.ref wt), some (.ref sd), some (.ref ta), some (.ref a), some (.ref q), some (.ref D), none] ∧ Frm ld H8 H' ∧ AkS K H' g pr wt sd ta a ld wa G st pu l sl sl wv av X0 X1 wd2 pK pK) (fun σ' H9 hP => ?_) (fun R hR => ?_)
    rotate_left
    · refine ⟨_, rfl, _, rfl, _, rfl, (show 2 ≤ sizeLine by decide), fun dd ndd => ⟨_, rfl, ?_⟩⟩
      have AA := A8.same (new_same (o := .tup [V.int 3, .int (s : Int)]) ndd)
      refine ⟨g, pr, dd, a, wt, ld, wv, X0, pK, G, sl, s, st, pu, l, rfl, AA.gx, RG, S, p0, p3, AA.prr, hl, hb, sa, s16, SqT.of upd_same, AA.wtt, AA.lk, AA.d0, AA.a0, pKb, fun q2 ys H'' f lk hy hm hq => ?_⟩
      rw [due ys hy hm] at hq
      have A := AA.look f (lk.imp sub2)
      have fD := (Frm.of_same (new_same (o := .tup [V.int 3, .int (s : Int)]) ndd)).trans f
      have hD9 := fD _ _ Dld hD8
      have tfD := A8.lk.tf fD
      have hacc9 := dpa_nl tfD _ _ (nls_pr _ nlf2 _) hacc8
      refine ⟨_, rfl, D, acc, rfl, .inl ⟨SqL.of hD9, fun t nt => ?_⟩⟩
      have st8 := new_same (o := .tup acc) nt
      have T8 := same_tf st8
      exact ⟨.ref q2, .ref t, dueD X0 X1 N, rfl, dp_nl T8 _ _ (alok_nl _ _ dal) hq, .tup (SqT.of upd_same) (dpa_nl T8 _ _ (nls_pr _ nlf2 _) hacc9), dal, fun H8 s8 => ⟨true, rfl, iteF (hR _ _ ⟨rfl, fD.trans (Frm.of_same (st8.trans s8)), A.same (st8.trans s8)⟩)⟩⟩
    obtain ⟨rfl, f9, A9⟩ := hP
    have nl0 := al_nls A9.a0
    obtain ⟨dxa, haa, _⟩ := id A9.lk
    refine ⟨_, rfl, a, dxa, _, rfl, haa, rfl, a, wt, ld, wv, X0, pK, rfl, A9.lk, A9.wtt.sq, A9.d0, nl0, pKb, fun t5 ys H20 s20 yp ym dy => ⟨_, rfl, _, rfl, wt, sd, wv, X0, pK, rfl, A9.ks.same s20, (same_tf s20).sq A9.wtt.sq, dpa_nl (same_tf s20) _ _ nl0 A9.d0, nl0, pKb, fun t6 zs H21 s21 zp zm dz => ?_⟩⟩
    have e : zs = ys := same_ys zp yp zm ym
    rw [e] at dz
    have al4 := seenD_al A9.a0 (ys_len yp ym A9.ks)
    refine ⟨.ref t5, .ref t6, seenD X0 ys, rfl, dp_nl (same_tf s21) _ _ (alok_nl _ _ al4) dy, dz, al4, fun H22 s22 => ?_⟩
    have SZ := s20.trans (s21.trans s22)
    refine k H22 (fun b o n z => ?_) (A9.wx.same SZ)
    have z3 := F3' b o n z
    have bld : b ≠ ld := fun e => by
      have z4 := s4 _ _ z3
      rw [e, nld] at z4
      cases z4
    exact SZ _ _ (f9 _ _ bld (s8 _ _ (s7 _ _ (f6 _ _ bld (s5 _ _ (s4 _ _ z3))))))
end
end K27
set_option maxRecDepth 100000
set_option maxHeartbeats 4000000
/-! The law. -/
namespace K27
open PySem PySem.Spec PyProof.Rows L2 KF KD KP
def spLaw (K : PySem.W.Frag) : Sp := fun vs H Q _ => ∃ (a : Addr) (ns : List Int), vs = [.ref a] ∧ SqL K H a (ns.map V.int) ∧ ns.length ≤ 63 ∧ ∀ H', Q (.bl true) H'
/-- what stands between the questions -/
structure LwS (K : PySem.W.Frag) (H : Hp) (d : Addr) (g : V) (pr wt wa : Addr) (G : Gm) (st : List Tg) (pu : Int) (l : List Int) (sl : List (Option Tg)) (wv : List V) (X0 wd : List PyData) : Prop where
  pot : Pot H d
  gx : GxAt K H g G st pu
  prr : SqT K H pr (l.map V.int)
  wtt : WtAt K H wt wv G sl
  d0 : DpAll K H wv X0
  a0 : ∀ e ∈ X0, AlOk 2 e
  wx : WxD K H wa sl wd
theorem LwS.fx {K : PySem.W.Frag} {H H' : Hp} {d : Addr} {g : V} {pr wt wa x : Addr} {G : Gm} {st : List Tg} {pu : Int} {l : List Int} {sl : List (Option Tg)} {wv : List V} {X0 wd : List PyData} (h : LwS K H d g pr wt wa G st pu l sl wv X0 wd) (f : Frm x H H') (tf : TF H H') (p : Pot H' d) (n : wa ≠ x) : LwS K H' d g pr wt wa G st pu l sl wv X0 wd := by
  obtain ⟨wvv, hw, _⟩ := id h.wx
  exact ⟨p, h.gx.tf tf, tf.sq h.prr, h.wtt.tf tf, dpa_nl tf _ _ (al_nls h.a0) h.d0, h.a0, h.wx.tf tf (by rw [hw]; exact f _ _ n hw)⟩
theorem LwS.same {K : PySem.W.Frag} {H H' : Hp} {d : Addr} {g : V} {pr wt wa : Addr} {G : Gm} {st : List Tg} {pu : Int} {l : List Int} {sl : List (Option Tg)} {wv : List V} {X0 wd : List PyData} (h : LwS K H d g pr wt wa G st pu l sl wv X0 wd) (e : Same H H') : LwS K H' d g pr wt wa G st pu l sl wv X0 wd :=
  ⟨h.pot.same e, h.gx.tf (same_tf e), (same_tf e).sq h.prr, h.wtt.tf (same_tf e), dpa_nl (same_tf e) _ _ (al_nls h.a0) h.d0, h.a0, h.wx.same e⟩
/-- a set of cells is changed -/
theorem LwS.dic {K : PySem.W.Frag} {H H' : Hp} {d : Addr} {g : V} {pr wt wa x : Addr} {G : Gm} {st : List Tg} {pu : Int} {l : List Int} {sl : List (Option Tg)} {wv : List V} {X0 wd : List PyData} {p : Int → Prop} (h : LwS K H d g pr wt wa G st pu l sl wv X0 wd) (f : Frm x H H') (k : KSet H x p) : LwS K H' d g pr wt wa G st pu l sl wv X0 wd := by
  obtain ⟨kvs, hk⟩ := k.dict
  obtain ⟨xs, hd⟩ := h.pot.lst
  obtain ⟨wvv, hw, _⟩ := id h.wx
  refine h.fx f (Frm.tfk f hk) (h.pot.keep ?_) (fun e => by rw [e, hk] at hw; cases hw)
  rw [hd]
  exact f _ _ (fun e => by rw [e, hk] at hd; cases hd) hd
theorem LwS.tk {K : PySem.W.Frag} {H H' : Hp} {d : Addr} {g : V} {pr wt wa : Addr} {G : Gm} {st : List Tg} {pu : Int} {l : List Int} {sl : List (Option Tg)} {wv : List V} {X0 wd : List PyData} (h : LwS K H d g pr wt wa G st pu l sl wv X0 wd) (f : Frm d H H') (p : Pot H' d) (n : wa ≠ d) : LwS K H' d g pr wt wa G st pu l sl wv X0 wd := h.fx f (pot_tf f h.pot) p n
theorem kset_pot {H H' : Hp} {d x : Addr} {p : Int → Prop} (k : KSet H x p) (h : Pot H d) (f : Frm d H H') : KSet H' x p := by
  obtain ⟨kvs, hk⟩ := k.dict
  obtain ⟨xs, hd⟩ := h.lst
  exact k.frm f fun e => by rw [e, hd] at hk; cases hk
theorem lk_pot {K : PySem.W.Frag} {H H' : Hp} {d a wt ld : Addr} {p : Int → Prop} (k : LkAt K H a wt ld p) (h : Pot H d) (f : Frm d H H') : LkAt K H' a wt ld p := by
  obtain ⟨dx, h1, h2⟩ := k
  obtain ⟨xs, hd⟩ := h.lst
  exact ⟨dx, f _ _ (fun e => by rw [e, hd] at h1; cases h1) h1, kset_pot h2 h f⟩
theorem lk_dic {K : PySem.W.Frag} {H H' : Hp} {a wt ld x : Addr} {p q : Int → Prop} (k : LkAt K H a wt ld p) (s : KSet H x q) (n : ld ≠ x) (f : Frm x H H') : LkAt K H' a wt ld p := by
  obtain ⟨dx, h1, h2⟩ := id k
  obtain ⟨kvs, hk⟩ := s.dict
  exact k.frm f (fun e => by rw [e, hk] at h1; cases h1) n
/-- within a question -/
structure ItS (K : PySem.W.Frag) (H : Hp) (d : Addr) (g : V) (pr wt wa : Addr) (G : Gm) (st : List Tg) (pu : Int) (l : List Int) (sl : List (Option Tg)) (wv : List V) (X0 wd : List PyData) (sd a ld : Addr) (pk pl : Int → Prop) : Prop where
  lw : LwS K H d g pr wt wa G st pu l sl wv X0 wd
  ks : KSet H sd pk
  lk : LkAt K H a wt ld pl
  ne : ld ≠ sd
theorem ItS.same {K : PySem.W.Frag} {H H' : Hp} {d : Addr} {g : V} {pr wt wa : Addr} {G : Gm} {st : List Tg} {pu : Int} {l : List Int} {sl : List (Option Tg)} {wv : List V} {X0 wd : List PyData} {sd a ld : Addr} {pk pl : Int → Prop} (h : ItS K H d g pr wt wa G st pu l sl wv X0 wd sd a ld pk pl) (e : Same H H') : ItS K H' d g pr wt wa G st pu l sl wv X0 wd sd a ld pk pl := ⟨h.lw.same e, h.ks.same e, h.lk.same e, h.ne⟩
theorem ItS.sdm {K : PySem.W.Frag} {H H' : Hp} {d : Addr} {g : V} {pr wt wa : Addr} {G : Gm} {st : List Tg} {pu : Int} {l : List Int} {sl : List (Option Tg)} {wv : List V} {X0 wd : List PyData} {sd a ld : Addr} {pk pl q : Int → Prop} (h : ItS K H d g pr wt wa G st pu l sl wv X0 wd sd a ld pk pl) (f : Frm sd H H') (k : KSet H' sd q) : ItS K H' d g pr wt wa G st pu l sl wv X0 wd sd a ld q pl := ⟨h.lw.dic f h.ks, k, lk_dic h.lk h.ks h.ne f, h.ne⟩
theorem ItS.ldm {K : PySem.W.Frag} {H H' : Hp} {d : Addr} {g : V} {pr wt wa : Addr} {G : Gm} {st : List Tg} {pu : Int} {l : List Int} {sl : List (Option Tg)} {wv : List V} {X0 wd : List PyData} {sd a ld : Addr} {pk pl q : Int → Prop} (h : ItS K H d g pr wt wa G st pu l sl wv X0 wd sd a ld pk pl) (f : Frm ld H H') (k : LkAt K H' a wt ld q) : ItS K H' d g pr wt wa G st pu l sl wv X0 wd sd a ld pk q := ⟨h.lw.dic f h.lk.choose_spec.2, h.ks.frm f (Ne.symm h.ne), k, h.ne⟩
theorem ItS.tkm {K : PySem.W.Frag} {H H' : Hp} {d : Addr} {g : V} {pr wt wa : Addr} {G : Gm} {st : List Tg} {pu : Int} {l : List Int} {sl : List (Option Tg)} {wv : List V} {X0 wd : List PyData} {sd a ld : Addr} {pk pl : Int → Prop} (h : ItS K H d g pr wt wa G st pu l sl wv X0 wd sd a ld pk pl) (f : Frm d H H') (p : Pot H' d) (n : wa ≠ d) : ItS K H' d g pr wt wa G st pu l sl wv X0 wd sd a ld pk pl := ⟨h.lw.tk f p n, kset_pot h.ks h.lw.pot f, lk_pot h.lk h.lw.pot f, h.ne⟩
theorem ItS.oth {K : PySem.W.Frag} {H H' : Hp} {d : Addr} {g : V} {pr wt wa : Addr} {G : Gm} {st : List Tg} {pu : Int} {l : List Int} {sl : List (Option Tg)} {wv : List V} {X0 wd : List PyData} {sd a ld : Addr} {pk pl : Int → Prop} {x : Addr} {r : Int → Prop} (h : ItS K H d g pr wt wa G st pu l sl wv X0 wd sd a ld pk pl) (f : Frm x H H') (k : KSet H x r) (n1 : sd ≠ x) (n2 : ld ≠ x) : ItS K H' d g pr wt wa G st pu l sl wv X0 wd sd a ld pk pl := ⟨h.lw.dic f k, h.ks.frm f n1, lk_dic h.lk k n2 f, h.ne⟩
section
variable {P : Program} {w : World} {K : PySem.W.Frag} {mg : Str → Option Value} {base : Heap}
def spIPr (K : PySem.W.Frag) : Sp := fun vs H Q _ => ∃ (d : Addr) (g : V) (G : Gm), vs = [.ref d, g] ∧ Pot H d ∧ GmAt K H g G ∧ G.ok ∧ ∀ (a : Addr) (l : List Int) H', Frm d H H' → Pot H' d → SqT K H' a (l.map V.int) → (l.length : Int) = G.ho → (∀ x ∈ l, 0 ≤ x ∧ x ≤ 63) → Q (.ref a) H'
theorem scILpr : FnScope ["pot", "game", "house"] ["pot", "game"] (defScope s_law_presses) := ⟨rfl, rfl, rfl, by decide +kernel, rfl, by decide +kernel, by decide +kernel⟩
theorem ok_law_presses (T : Txt K w mg) : FnOk P w K mg base CX0 2 (He.fAd K ("_law_presses", none)) (fdAt K (He.fAd K ("_law_presses", none))) ["pot", "game"] (spIPr K) := by
  refine T.F_law_presses.ok scILpr (fun vs H Q E h => ?_) (fun cdv A outer s H vs Q E hr h => ?_)
  · obtain ⟨d, g, G, rfl, _⟩ := h
    rfl
  · obtain ⟨d, g, G, rfl, hd, hg, o, k⟩ := h
    have hu := Nat.lt_of_le_of_lt (Nat.add_le_add_left (by decide : 1 ≤ 64) _) hr.units
    refine ⟨_, PSs.nox (pss_one (ps_ret (pe_callTy call_tuple_of (by rfl) T.n_tuple PyProof.Rows.Boot.«tuple» (pa_cons (pe_lc (own := [("house", 2)]) (g := gName 2) (tt := tYes) (by rfl) scILpr.nd (pi_range1 (by rfl) T.n_range (pa_cons (pe_ix (r := rIxT K) ix_tup (pe_ix (r := rIxT K) ix_tup (pv 1) pe_int (fun _ _ => rfl)) pe_int (fun _ _ => rfl)) pa_nil)) (blkOk_by (own := [("house", 2)]) (N := ["pot", "game", "house"]) (sc := defScope s_law_presses) (by decide +kernel)) (fun _ _ _ _ _ => pg_name (i := 2) scILpr.nd rfl (Or.inl rfl)) (fun _ _ _ _ _ => pts_nil) (fun _ _ _ _ _ => (pe_call (ok_law_take T) (hr.mono (by first | decide | omega)) (by rfl) T.g_law_take (T.F_law_take).kp T.b_law_take .nil pass0 (pa_cons (pv 0) (pa_cons pe_int pa_nil))))) pa_nil)))), ?_⟩
    obtain ⟨ga, lv, ksv, rfl, sg, ⟨la, rs, sx, pu, rfl, sl, _⟩, _⟩ := id hg
    have o1 := o.h1
    have o2 := o.h2
    refine ⟨_, rfl, ga, _, _, _, rfl, rfl, sg, atI_nat (j := 0) rfl, la, _, _, _, rfl, rfl, sl, atI_nat (j := 2) rfl, G.ho, rfl, by omega, by omega, fun D hD => ?_⟩
    have Dd := hd.ne hD
    refine lc_it (walk_r0 (n := G.ho.toNat)) (fun i H5 => ∃ us : List Int, Frm d H H5 ∧ Pot H5 d ∧ H5 D = some (.lst (us.map V.int)) ∧ us.length = i ∧ ∀ x ∈ us, 0 ≤ x ∧ x ≤ 63) ⟨[], frm_new (Frm.refl _ _) hD, hd.upd Dd, upd_same, rfl, fun _ m => (List.not_mem_nil m).elim⟩ (fun _ _ _ _ => trivial) (fun i v H5 Hz hi h yy => ?_) (fun H5 h => ?_)
    · obtain ⟨rfl, rfl⟩ := yy
      obtain ⟨us, f5, d5, hl5, hlen5, hus⟩ := h
      refine ⟨rfl, ?_⟩
      dsimp only [tYes]
      rw [if_pos rfl]
      exact ⟨_, rfl, d, 64, rfl, by decide, by decide, d5, fun y H6 y0 y1 f6 d6 => ⟨us.map V.int, f6 _ _ Dd hl5, Nat.lt_of_le_of_lt (show (us.map V.int).length ≤ 24 by rw [List.length_map]; omega) (by decide), us ++ [y], frm_new (f5.trans f6) hD, d6.upd Dd, by rw [upd_same, List.map_append]; rfl, by simp [hlen5], fun x m => by
        rcases List.mem_append.mp m with m | m
        · exact hus x m
        · rw [List.mem_singleton.mp m]
          omega⟩⟩
    · obtain ⟨us, f5, d5, hl5, hlen5, hus⟩ := h
      refine ⟨D, _, rfl, .inl ⟨SqL.of hl5, fun a na => ?_⟩⟩
      have sa := new_same (o := .tup (us.map V.int)) na
      exact k a us _ (f5.trans (Frm.of_same sa)) (d5.same sa) (SqT.of upd_same) (by omega) hus
theorem scLaw : FnScope ["script", "pot", "kinds", "game", "w", "presses", "slot", "world", "seen", "looks", "rest", "dx", "dy", "due", "x", "y", "wide", "high", "turn", "k"] ["script"] (defScope s_law) := ⟨rfl, rfl, rfl, by decide +kernel, rfl, by decide +kernel, by decide +kernel⟩
theorem ok_law (T : Txt K w mg) : FnOk P w K mg base CX0 12 (He.fAd K ("law", none)) (fdAt K (He.fAd K ("law", none))) ["script"] (spLaw K) := by
  refine T.F_law.ok scLaw (fun vs H Q E h => ?_) (fun cdv A outer s H vs Q E hr h => ?_)
  · obtain ⟨a, ns, rfl, _⟩ := h
    rfl
  · obtain ⟨a, ns, rfl, hsc, n63, k⟩ := h
    refine ⟨_, PSs.nox (pss_cons (ps_set (i := 1) scLaw.nd rfl (Or.inr rfl) (pe_op op_cat (pe_lst (pa_cons pe_int (pa_cons pe_int (pa_cons pe_int pa_nil)))) (pe_callTy call_list_of (by rfl) T.n_list PyProof.Rows.Boot.«list» (pa_cons (pv 0) pa_nil))))
      (pss_cons (ps_set (i := 2) scLaw.nd rfl (Or.inl rfl) (pe_callTy call_tuple_of (by rfl) T.n_tuple PyProof.Rows.Boot.«tuple» (pa_cons (pe_lc (own := [("k", 19)]) (g := gName 19) (tt := tYes) (by rfl) scLaw.nd (pi_range1 (by rfl) T.n_range (pa_cons (pe_op op_add pe_int (pe_call (ok_law_take T) (hr.mono (by first | decide | omega)) (by rfl) T.g_law_take (T.F_law_take).kp T.b_law_take .nil pass0 (pa_cons (pv 1) (pa_cons pe_int pa_nil)))) pa_nil)) (blkOk_by (own := [("k", 19)]) (N := ["script", "pot", "kinds", "game", "w", "presses", "slot", "world", "seen", "looks", "rest", "dx", "dy", "due", "x", "y", "wide", "high", "turn", "k"]) (sc := defScope s_law) (by decide +kernel)) (fun _ _ _ _ _ => pg_name (i := 19) scLaw.nd rfl (Or.inl rfl)) (fun _ _ _ _ _ => pts_nil) (fun _ _ _ _ _ => (pe_call (ok_law_kind T) (hr.mono (by first | decide | omega)) (by rfl) T.g_law_kind (T.F_law_kind).kp T.b_law_kind .nil pass0 (pa_cons (pv 1) (pa_cons (pv 19) (pa_cons (pe_tup pa_nil) pa_nil)))))) pa_nil)))
      (pss_cons (ps_set (i := 3) scLaw.nd rfl (Or.inl rfl) (pe_call (ok_law_game T) (hr.mono (by first | decide | omega)) (by rfl) T.g_law_game (T.F_law_game).kp T.b_law_game .nil pass0 (pa_cons (pv 1) (pa_cons (pv 2) (pa_cons pe_int pa_nil)))))
      (pss_cons (ps_set (i := 4) scLaw.nd rfl (Or.inl rfl) (pe_call (ok_law_start T) (hr.mono (by first | decide | omega)) (by rfl) T.g_law_start (T.F_law_start).kp T.b_law_start .nil pass0 (pa_cons (pv 1) (pa_cons (pv 3) (pa_cons (pe_ix (r := rIxL K) ix_list (pe_lst (pa_cons pe_int (pa_cons pe_int (pa_cons pe_int (pa_cons pe_int pa_nil))))) (pe_call (ok_law_take T) (hr.mono (by first | decide | omega)) (by rfl) T.g_law_take (T.F_law_take).kp T.b_law_take .nil pass0 (pa_cons (pv 1) (pa_cons pe_int pa_nil))) (fun _ _ => rfl)) pa_nil)))))
      (pss_cons (ps_set (i := 3) scLaw.nd rfl (Or.inl rfl) (pe_call (ok_law_with_starts T) (hr.mono (by first | decide | omega)) (by rfl) T.g_law_with_starts (T.F_law_with_starts).kp T.b_law_with_starts .nil pass0 (pa_cons (pv 1) (pa_cons (pv 3) (pa_cons (pv 4) pa_nil)))))
      (pss_cons (ps_set (i := 5) scLaw.nd rfl (Or.inl rfl) (pe_call (ok_law_presses T) (hr.mono (by first | decide | omega)) (by rfl) T.g_law_presses (T.F_law_presses).kp T.b_law_presses .nil pass0 (pa_cons (pv 1) (pa_cons (pv 3) pa_nil))))
      (pss_cons (ps_if (pt_cmpR op_eq (pe_call (ok_law_take T) (hr.mono (by first | decide | omega)) (by rfl) T.g_law_take (T.F_law_take).kp T.b_law_take .nil pass0 (pa_cons (pv 1) (pa_cons pe_int pa_nil))) pe_int (nomark _)) (pss_one (ps_for PassesOwn.never rfl (pi_range1 (by rfl) T.n_range (pa_cons pe_int pa_nil)) (pg_name (i := 6) scLaw.nd rfl (Or.inl rfl)) (pss_one (ps_if (pt_cmpR op_notN (pe_ix (r := rIxL K) ix_list (pv 4) (pv 6) (fun _ _ => rfl)) pe_non (nomark _)) (pss_one (ps_expr (pe_call (ok_law_down T) (hr.mono (by first | decide | omega)) (by rfl) T.g_law_down (T.F_law_down).kp T.b_law_down .nil pass0 (pa_cons (pv 3) (pa_cons (pv 4) (pa_cons pe_dnewK (pa_cons (pv 6) pa_nil))))))) pss_nil)))) pss_nil)
      (pss_cons (ps_set (i := 7) scLaw.nd rfl (Or.inl rfl) (pe_call (ok_law_world T) (hr.mono (by first | decide | omega)) (by rfl) T.g_law_world (T.F_law_world).kp T.b_law_world .nil pass0 (pa_cons (pv 3) (pa_cons (pv 4) pa_nil))))
      (pss_cons (ps_for PassesOwn.never rfl (pi_range1 (by rfl) T.n_range (pa_cons pe_int pa_nil)) (pg_name (i := 6) scLaw.nd rfl (Or.inl rfl)) (pss_one (ps_if (pt_cmpR op_notN (pe_ix (r := rIxL K) ix_list (pv 4) (pv 6) (fun _ _ => rfl)) pe_non (nomark _)) (pss_cons (ps_par (i := 8) (j := 9) (by rfl) scLaw.nd rfl rfl (by decide) rfl rfl (pa_cons (pe_disp (pps_cons (pv 6) pe_bl pps_nil) (by rfl) (by rfl) (fun z => by cases z) (by decide)) (pa_cons (pe_make T.m_Looks (ok_Looks_init T) (hr.mono (by decide)) (by rfl) T.g_Looks T.b_Looks_init .nil pass0 (pa_cons (pv 7) pa_nil)) pa_nil)) (by rfl))
      (pss_cons (ps_set (i := 10) scLaw.nd rfl (Or.inl rfl) (pe_call (ok_law_rest T) (hr.mono (by first | decide | omega)) (by rfl) T.g_law_rest (T.F_law_rest).kp T.b_law_rest .nil pass0 (pa_cons (pv 3) (pa_cons (pv 4) (pa_cons (pv 8) (pa_cons (pv 6) pa_nil))))))
      (pss_cons (ps_if (PW.pt (pw_or (pt_not (pt_val (pe_call (ok_law_same T 5) (hr.mono (by first | decide | omega)) (by rfl) T.g_law_same (T.F_law_same).kp T.b_law_same .nil pass0 (pa_cons (pe_call (ok_stands_on T) (hr.mono (by first | decide | omega)) (by rfl) T.g_stands_on (T.F_stands_on).kp T.b_stands_on .nil pass0 (pa_cons (pv 3) (pa_cons (pv 9) (pa_cons (pv 6) pa_nil)))) (pa_cons (pv 10) pa_nil))))) (pw_or1 (pt_not (pt_val (pe_call (ok_law_same T 5) (hr.mono (by first | decide | omega)) (by rfl) T.g_law_same (T.F_law_same).kp T.b_law_same .nil pass0 (pa_cons (pe_meth0 (pv 9) T.k_Looks T.e_Looks_seen (ok_Looks_seen T) (hr.mono (by decide)) T.b_Looks_seen .nil pass0) (pa_cons (pe_call (ok_law_seen T) (hr.mono (by first | decide | omega)) (by rfl) T.g_law_seen (T.F_law_seen).kp T.b_law_seen .nil pass0 (pa_cons (pv 7) (pa_cons (pv 8) pa_nil))) pa_nil)))))))) (pss_one (ps_ret pe_bl)) pss_nil)
      (pss_cons (ps_asg (pe_ix (r := rIxL K) ix_list (pe_lst (pa_cons (pe_tup (pa_cons (pe_un un_neg pe_int) (pa_cons pe_int pa_nil))) (pa_cons (pe_tup (pa_cons pe_int (pa_cons pe_int pa_nil))) (pa_cons (pe_tup (pa_cons pe_int (pa_cons (pe_un un_neg pe_int) pa_nil))) (pa_cons (pe_tup (pa_cons pe_int (pa_cons pe_int pa_nil))) pa_nil))))) (pe_call (ok_law_take T) (hr.mono (by first | decide | omega)) (by rfl) T.g_law_take (T.F_law_take).kp T.b_law_take .nil pass0 (pa_cons (pv 1) (pa_cons pe_int pa_nil))) (fun _ _ => rfl)) (pg_tup (by rfl) (pgs_cons (pg_name (i := 11) scLaw.nd rfl (Or.inl rfl)) (pgs_cons (pg_name (i := 12) scLaw.nd rfl (Or.inl rfl)) pgs_nil))))
      (pss_cons (ps_set (i := 13) scLaw.nd rfl (Or.inl rfl) (pe_callTy call_tuple_of (by rfl) T.n_tuple PyProof.Rows.Boot.«tuple» (pa_cons (pe_call (ok_law_lot T) (hr.mono (by first | decide | omega)) (by rfl) T.g_law_lot (T.F_law_lot).kp T.b_law_lot .nil pass0 (pa_cons (pv 3) (pa_cons (pv 4) (pa_cons (pv 8) (pa_cons (pv 6) (pa_cons (pv 11) (pa_cons (pv 12) pa_nil))))))) pa_nil)))
      (pss_cons (ps_if (PW.pt (pw_or (pt_not (pt_val (pe_call (ok_law_same T 5) (hr.mono (by first | decide | omega)) (by rfl) T.g_law_same (T.F_law_same).kp T.b_law_same .nil pass0 (pa_cons (pe_call (ok_lot T) (hr.mono (by first | decide | omega)) (by rfl) T.g_lot (T.F_lot).kp T.b_lot .nil pass0 (pa_cons (pv 3) (pa_cons (pv 9) (pa_cons (pv 6) (pa_cons (pv 11) (pa_cons (pv 12) pa_nil)))))) (pa_cons (pv 13) pa_nil))))) (pw_or1 (pt_not (pt_val (pe_call (ok_law_same T 5) (hr.mono (by first | decide | omega)) (by rfl) T.g_law_same (T.F_law_same).kp T.b_law_same .nil pass0 (pa_cons (pe_meth0 (pv 9) T.k_Looks T.e_Looks_seen (ok_Looks_seen T) (hr.mono (by decide)) T.b_Looks_seen .nil pass0) (pa_cons (pe_call (ok_law_seen T) (hr.mono (by first | decide | omega)) (by rfl) T.g_law_seen (T.F_law_seen).kp T.b_law_seen .nil pass0 (pa_cons (pv 7) (pa_cons (pv 8) pa_nil))) pa_nil)))))))) (pss_one (ps_ret pe_bl)) pss_nil)
      (pss_cons (ps_asg (pe_call (ok_law_box T) (hr.mono (by first | decide | omega)) (by rfl) T.g_law_box (T.F_law_box).kp T.b_law_box .nil pass0 (pa_cons (pv 3) (pa_cons (pe_ix (r := rIxL K) ix_list (pv 4) (pv 6) (fun _ _ => rfl)) pa_nil))) (pg_tup (by rfl) (pgs_cons (pg_name (i := 14) scLaw.nd rfl (Or.inl rfl)) (pgs_cons (pg_name (i := 15) scLaw.nd rfl (Or.inl rfl)) (pgs_cons (pg_name (i := 16) scLaw.nd rfl (Or.inl rfl)) (pgs_cons (pg_name (i := 17) scLaw.nd rfl (Or.inl rfl)) pgs_nil))))))
      (pss_cons (ps_set (i := 13) scLaw.nd rfl (Or.inl rfl) (pe_callTy call_tuple_of (by rfl) T.n_tuple PyProof.Rows.Boot.«tuple» (pa_cons (pe_call (ok_law_look T) (hr.mono (by first | decide | omega)) (by rfl) T.g_law_look (T.F_law_look).kp T.b_law_look .nil pass0 (pa_cons (pv 3) (pa_cons (pv 4) (pa_cons pe_dnewK (pa_cons (pe_tup (pa_cons (pv 14) (pa_cons (pe_op op_add (pv 15) pe_int) (pa_cons (pv 16) (pa_cons (pe_op op_add (pv 17) pe_int) pa_nil))))) (pa_cons (pe_tup pa_nil) pa_nil)))))) pa_nil)))
      (pss_one (ps_if (pt_not (pt_val (pe_call (ok_law_same T 5) (hr.mono (by first | decide | omega)) (by rfl) T.g_law_same (T.F_law_same).kp T.b_law_same .nil pass0 (pa_cons (pe_call (ok_meeting T) (hr.mono (by first | decide | omega)) (by rfl) T.g_meeting (T.F_meeting).kp T.b_meeting .nil pass0 (pa_cons (pv 3) (pa_cons (pe_make T.m_Looks (ok_Looks_init T) (hr.mono (by decide)) (by rfl) T.g_Looks T.b_Looks_init .nil pass0 (pa_cons (pv 7) pa_nil)) (pa_cons (pe_tup (pa_cons (pv 14) (pa_cons (pe_op op_add (pv 15) pe_int) (pa_cons (pv 16) (pa_cons (pe_op op_add (pv 17) pe_int) pa_nil))))) (pa_cons (pe_tup pa_nil) pa_nil))))) (pa_cons (pv 13) pa_nil))))) (pss_one (ps_ret pe_bl)) pss_nil)))))))))) pss_nil)))
      (pss_cons (ps_for PassesOwn.never rfl (pi_range1 (by rfl) T.n_range (pa_cons pe_int pa_nil)) (pg_name (i := 18) scLaw.nd rfl (Or.inl rfl)) (pss_one (ps_for PassesOwn.never rfl (pi_range1 (by rfl) T.n_range (pa_cons pe_int pa_nil)) (pg_name (i := 6) scLaw.nd rfl (Or.inl rfl)) (pss_one (ps_if (pt_not (pt_val (pe_call (ok_law_asked T) (hr.mono (by first | decide | omega)) (by rfl) T.g_law_asked (T.F_law_asked).kp T.b_law_asked .nil pass0 (pa_cons (pv 3) (pa_cons (pv 4) (pa_cons (pv 5) (pa_cons (pv 6) pa_nil))))))) (pss_one (ps_ret pe_bl)) pss_nil)))))
      (pss_one (ps_ret pe_bl)))))))))))), ?_⟩
    refine seq_cut (fun σ' H' => ∃ d : Addr, σ' = [some (.ref a), some (.ref d), none, none, none, none, none, none, none, none, none, none, none, none, none, none, none, none, none, none] ∧ Pot H' d) (fun σ' H1 hP => ?_) (fun R hR => ?_)
    rotate_left
    · refine ⟨(show 3 ≤ sizeLine by decide), fun p0 np0 => ⟨_, rfl, a, ns.map V.int, rfl, .inl ?_, fun p1 np1 => ?_⟩⟩
      · exact Same.seq (new_same np0) hsc
      · refine ⟨p0, p1, [V.int 0, .int 7, .int 3], ns.map V.int, rfl, rfl, (new_same np1) _ _ upd_same, upd_same, Nat.le_trans (show 3 + (ns.map V.int).length ≤ 100 by rw [List.length_map]; omega) (by decide), fun d nd => ?_⟩
        exact hR _ _ ⟨d, rfl, 0, 7, 3, ns, upd_same, by decide, by decide, by decide, by decide, by decide, n63⟩
    obtain ⟨d, rfl, d1⟩ := hP
    refine seq_cut (fun σ' H' => ∃ (t : Addr) (kds : List Kd), σ' = [some (.ref a), some (.ref d), some (.ref t), none, none, none, none, none, none, none, none, none, none, none, none, none, none, none, none, none] ∧ KdsOk kds ∧ KxsAt K H' (.ref t) kds ∧ Pot H' d) (fun σ' H2 hP => ?_) (fun R hR => ?_)
    rotate_left
    · refine ⟨_, rfl, d, 8, rfl, by decide, by decide, d1, fun z H2 z0 z1 f2 d2 => ⟨_, _, rfl, rfl, _, rfl, by omega, by omega, fun D hD => ?_⟩⟩
      have Dd := d2.ne hD
      refine lc_it (walk_r0 (n := (1 + z).toNat)) (fun i H' => ∃ (kv : List V) (kds : List Kd), Pot H' d ∧ H' D = some (.lst kv) ∧ kv.length = i ∧ kds.length = i ∧ ∀ (j : Nat) (k : Kd), kds[j]? = some k → KdR j k ∧ ∃ x : V, kv[j]? = some x ∧ KxAt K H' x k) ⟨[], [], d2.upd Dd, upd_same, rfl, rfl, fun _ _ z => by cases z⟩ (fun _ _ _ _ => trivial) (fun i v H5 Hz hi h yy => ?_) (fun H5 h => ?_)
      · obtain ⟨rfl, rfl⟩ := yy
        obtain ⟨kv, kds, d5, hl, l1, l2, hx⟩ := h
        refine ⟨rfl, ?_⟩
        dsimp only [tYes]
        rw [if_pos rfl]
        refine ⟨_, rfl, _, rfl, (show 0 ≤ sizeLine by decide), fun e ne => ?_⟩
        have se := new_same (o := .tup []) ne
        refine ⟨d, i, e, rfl, by omega, SqT.of upd_same, d5.same se, fun q kd H7 f7 d7 hkd hb => ?_⟩
        have hl7 := f7 _ _ Dd (se _ _ hl)
        have tf := (same_tf se).trans ((pot_tf f7 (d5.same se)).trans (TF.lst1 (o := .lst (kv ++ [.ref q])) hl7))
        refine ⟨kv, hl7, Nat.lt_of_lt_of_le (show kv.length < 100 by omega) (by decide), kv ++ [.ref q], kds ++ [kd], d7.upd Dd, upd_same, by simp [l1], by simp [l2], fun j k hj => ?_⟩
        by_cases c : j < kds.length
        · rw [List.getElem?_append_left c] at hj
          obtain ⟨r, x, g1, g2⟩ := hx j k hj
          exact ⟨r, x, by rw [List.getElem?_append_left (by omega)]; exact g1, g2.tf tf⟩
        · rw [List.getElem?_append_right (by omega)] at hj
          rw [List.getElem?_append_right (by omega)]
          have e0 : j - kds.length = 0 := by
            cases hd : j - kds.length with
            | zero => rfl
            | succ n => rw [hd] at hj; cases hj
          rw [e0] at hj
          rw [show j - kv.length = 0 by omega]
          injection hj with hj
          subst hj
          have hji : j = i := by
            have : j ≤ kds.length := by omega
            omega
          rw [hji]
          exact ⟨hb, _, rfl, hkd.tf (TF.lst1 (o := .lst (kv ++ [.ref q])) hl7)⟩
      · obtain ⟨kv, kds, d5, hl, l1, l2, hx⟩ := h
        refine ⟨D, _, rfl, .inl ⟨SqL.of hl, fun t nt => ?_⟩⟩
        have s6 := new_same (o := .tup kv) nt
        exact hR _ _ ⟨t, kds, rfl, ⟨by omega, by omega, fun j k z => (hx j k z).1⟩, ⟨t, kv, rfl, SqT.of upd_same, by omega, fun j k z => by obtain ⟨_, x, g1, g2⟩ := hx j k z; exact ⟨x, g1, g2.tf (same_tf s6)⟩⟩, d5.same s6⟩
    clear d1
    obtain ⟨t, kds, rfl, kok, hkv, d2⟩ := hP
    refine seq_cut (fun σ' H' => ∃ (g : V) (G : Gm) (pu : Int), σ' = [some (.ref a), some (.ref d), some (.ref t), some g, none, none, none, none, none, none, none, none, none, none, none, none, none, none, none, none] ∧ G.right ∧ 0 ≤ pu ∧ pu ≤ 3 ∧ GxAt K H' g G [] pu ∧ Pot H' d) (fun σ' H3 hP => ?_) (fun R hR => ?_)
    rotate_left
    · exact ⟨_, rfl, _, rfl, d, .ref t, 12, kds, rfl, by decide, by decide, kok, hkv, d2, fun g G pu H3 f3 d3 r q0 q3 hg => hR _ _ ⟨g, G, pu, rfl, r, q0, q3, hg, d3⟩⟩
    clear hkv d2
    obtain ⟨g, G, pu, rfl, RG, p0, p3, hg, d3⟩ := hP
    have o := RG.ok
    refine seq_cut (fun σ' H' => ∃ (wa : Addr) (sl : List (Option Tg)), σ' = [some (.ref a), some (.ref d), some (.ref t), some g, some (.ref wa), none, none, none, none, none, none, none, none, none, none, none, none, none, none, none] ∧ WsD K H' wa sl ∧ SlAll G sl ∧ Apt G sl ∧ wa ≠ d ∧ GxAt K H' g G [] pu ∧ Pot H' d) (fun σ' H4 hP => ?_) (fun R hR => ?_)
    rotate_left
    · refine ⟨_, rfl, _, rfl, (show 4 ≤ sizeLine by decide), fun pl npl => ?_⟩
      have s4 := new_same (o := .lst [V.int 3, .int 6, .int 10, .int 30]) npl
      refine ⟨_, rfl, d, 4, rfl, by decide, by decide, d3.same s4, fun z H5 z0 z1 f5 d5 => ?_⟩
      have pld := d3.ne npl
      obtain ⟨m, hm, m0, m1⟩ : ∃ m : Int, atI [V.int 3, .int 6, .int 10, .int 30] z = some (.int m) ∧ 0 ≤ m ∧ m ≤ 100 := by
        obtain ⟨n, rfl⟩ := Int.eq_ofNat_of_zero_le z0
        have hn : n = 0 ∨ n = 1 ∨ n = 2 ∨ n = 3 := by omega
        rcases hn with rfl | rfl | rfl | rfl
        · exact ⟨3, atI_nat rfl, by decide, by decide⟩
        · exact ⟨6, atI_nat rfl, by decide, by decide⟩
        · exact ⟨10, atI_nat rfl, by decide, by decide⟩
        · exact ⟨30, atI_nat rfl, by decide, by decide⟩
      have hg5 := hg.tf ((same_tf s4).trans (pot_tf f5 (d3.same s4)))
      exact ⟨pl, _, _, _, rfl, rfl, SqL.of (f5 _ _ pld upd_same), hm, d, g, G, m, rfl, m0, m1, d5, hg5.gm, o, RG.k1, fun wa sl H6 f6 d6 hw sa ap wn => hR _ _ ⟨wa, sl, rfl, hw, sa, ap, wn, hg5.tf (pot_tf f6 d5), d6⟩⟩
    clear hg d3
    obtain ⟨wa, sl, rfl, hw4, sa, ap, wn, hg4, d4⟩ := hP
    refine seq_cut (fun σ' H' => ∃ (g : V) (st : List Tg), σ' = [some (.ref a), some (.ref d), some (.ref t), some g, some (.ref wa), none, none, none, none, none, none, none, none, none, none, none, none, none, none, none] ∧ WsD K H' wa sl ∧ GxAt K H' g G st pu ∧ StR G st ∧ Pot H' d) (fun σ' H5 hP => ?_) (fun R hR => ?_)
    rotate_left
    · exact ⟨_, rfl, _, rfl, _, rfl, d, wa, g, G, pu, sl, rfl, d4, hg4, sa, ap, hw4.wl, fun v st H5 f5 d5 hg5 sr => hR _ _ ⟨v, st, rfl, hw4.frm d4 f5 wn, hg5, sr, d5⟩⟩
    clear hg4 hw4 d4
    obtain ⟨g, st, rfl, hw5, hg5, SR, d5⟩ := hP
    refine seq_cut (fun σ' H' => ∃ (pr : Addr) (l : List Int), σ' = [some (.ref a), some (.ref d), some (.ref t), some g, some (.ref wa), some (.ref pr), none, none, none, none, none, none, none, none, none, none, none, none, none, none] ∧ WsD K H' wa sl ∧ GxAt K H' g G st pu ∧ Pot H' d ∧ SqT K H' pr (l.map V.int) ∧ (l.length : Int) = G.ho ∧ ∀ x ∈ l, 0 ≤ x ∧ x ≤ 63) (fun σ' H6 hP => ?_) (fun R hR => ?_)
    rotate_left
    · exact ⟨_, rfl, _, rfl, d, g, G, rfl, d5, hg5.gm, o, fun pr l H6 f6 d6 h1 h2 h3 => hR _ _ ⟨pr, l, rfl, hw5.frm d5 f6 wn, hg5.tf (pot_tf f6 d5), d6, h1, h2, h3⟩⟩
    clear hg5 hw5 d5
    obtain ⟨pr, l, rfl, hw6, hg6, d6, hpr6, hl, hb⟩ := hP
    have yb6 : Yb sl 200 := fun t m => by
      have := (ap.one t m).y2
      have := (hi_le o).2
      omega
    refine seq_cut (fun σ' H' => ∃ (v6 : Option V) (sl : List (Option Tg)), σ' = [some (.ref a), some (.ref d), some (.ref t), some g, some (.ref wa), some (.ref pr), v6, none, none, none, none, none, none, none, none, none, none, none, none, none] ∧ WsD K H' wa sl ∧ SlAll G sl ∧ GxAt K H' g G st pu ∧ SqT K H' pr (l.map V.int) ∧ Pot H' d) (fun σ' H7 hP => ?_) (fun R hR => ?_)
    rotate_left
    · refine ⟨_, rfl, d, 2, rfl, by decide, by decide, d6, fun z H7 z0 z1 f7 d7 => ⟨rfl, _, rfl, ite2 (fun _ => ?_) (fun _ => hR _ _ ⟨_, sl, rfl, hw6.frm d6 f7 wn, sa, hg6.tf (pot_tf f7 d6), (pot_tf f7 d6).sq hpr6, d7⟩)⟩⟩
      have hw7 := hw6.frm d6 f7 wn
      have hg7 := hg6.tf (pot_tf f7 d6)
      have hpr7 := (pot_tf f7 d6).sq hpr6
      refine ⟨16, rfl, by decide, by decide, ?_⟩
      refine L2.for_it (walk_r0 (n := 16)) (fun i σ H' => ∃ (v6 : Option V) (sl : List (Option Tg)), σ = [some (.ref a), some (.ref d), some (.ref t), some g, some (.ref wa), some (.ref pr), v6, none, none, none, none, none, none, none, none, none, none, none, none, none] ∧ TF H7 H' ∧ WsD K H' wa sl ∧ SlAll G sl ∧ Yb sl (200 + 120 * (i : Int)) ∧ Pot H' d) ⟨_, sl, rfl, TF.refl _, hw7, sa, yb6.mono (by omega), d7⟩ (fun _ _ _ _ _ => trivial) (fun i x σ H4 Hx hi hPv hy => ?_) (fun σ H4 hPv => ?_)
      · obtain ⟨v6, sl, rfl, tf, hw, sa, yb, dp⟩ := hPv
        obtain ⟨rfl, rfl⟩ := hy
        obtain ⟨wv, hwv, wl, hwx, hwd⟩ := id hw
        obtain ⟨so, hso⟩ : ∃ so, sl[i]? = some so := ⟨_, List.getElem?_eq_getElem (by rw [sa.len]; omega)⟩
        obtain ⟨v, hv1, hv2⟩ := hwx i so hso
        refine ⟨_, rfl, _, rfl, wa, _, _, _, rfl, rfl, SqL.of hwv, atI_nat hv1, rfl, _, rfl, ?_⟩
        cases so with
        | none =>
          obtain rfl : v = .non := hv2
          exact iteF ⟨_, sl, rfl, tf, hw, sa, yb.mono (by omega), dp⟩
        | some t =>
          obtain ⟨ta, oa, rfl, _⟩ : TgX K Hx v t := hv2
          refine iteT ⟨_, rfl, _, rfl, fun nd nnd => ⟨_, rfl, ?_⟩⟩
          have s6 := new_same (o := .dK []) nnd
          have tf6 := tf.trans (same_tf s6)
          have hw6' := hw.same s6
          have kn := kset_nil (upd_same (H := Hx) (a := nd) (o := .dK []))
          refine ⟨g, wa, nd, G, st, pu, sl, i, t, 200 + 120 * (i : Int), _, rfl, hg7.tf tf6, p0, p3, o, sa, by omega, hso, hw6', kn, yb, by omega, fun sl' q H' f w' k' sa' yb' => ?_⟩
          have dp6 := dp.same s6
          obtain ⟨xs, hd⟩ := dp6.lst
          exact ⟨_, sl', rfl, tf6.trans (ws_tf hw6' kn f), w', sa', yb'.mono (by omega), dp6.keep (by rw [hd]; exact f _ _ (Ne.symm wn) (fun e => by rw [e, upd_same] at hd; cases hd) hd)⟩
      · obtain ⟨v6, sl, rfl, tf, hw, sa, yb, dp⟩ := hPv
        exact hR _ _ ⟨_, sl, rfl, hw, sa, hg7.tf tf, tf.sq hpr7, dp⟩
    clear hw6 hg6 hpr6 sa ap yb6
    obtain ⟨v6, sl, rfl, hw7, sa7, hg7, hpr7, d7⟩ := hP
    obtain ⟨wd7, hx7⟩ := hw7.wx
    obtain ⟨X0, hX0⟩ : ∃ X0, X0 = wd7 ++ bksD G sl := ⟨_, rfl⟩
    refine seq_cut (fun σ' H' => ∃ (wt : Addr) (wv : List V), σ' = [some (.ref a), some (.ref d), some (.ref t), some g, some (.ref wa), some (.ref pr), v6, some (.ref wt), none, none, none, none, none, none, none, none, none, none, none, none] ∧ LwS K H' d g pr wt wa G st pu l sl wv X0 wd7) (fun σ' H8 hP => ?_) (fun R hR => ?_)
    rotate_left
    · refine ⟨_, rfl, _, rfl, g, wa, G, sl, wd7, rfl, hg7.gm, o, sa7, hx7.wl, fun wt wv H8 s8 hwt hdd hal => ?_⟩
      rw [← hX0] at hdd hal
      exact hR _ _ ⟨wt, wv, rfl, d7.same s8, hg7.tf (same_tf s8), (same_tf s8).sq hpr7, hwt, hdd, hal, hx7.same s8⟩
    clear hw7 hg7 hpr7 hx7 d7
    obtain ⟨wt, wv, rfl, L8⟩ := hP
    have b24 := bhw o
    refine seq_cut (fun σ' H' => (∃ v6 v8 v9 v10 v11 v12 v13 v14 v15 v16 v17 : Option V, σ' = [some (.ref a), some (.ref d), some (.ref t), some g, some (.ref wa), some (.ref pr), v6, some (.ref wt), v8, v9, v10, v11, v12, v13, v14, v15, v16, v17, none, none]) ∧ LwS K H' d g pr wt wa G st pu l sl wv X0 wd7) (fun σ' H9 hP => ?_) (fun R hR => ?_)
    rotate_left
    · refine ⟨16, rfl, by decide, by decide, ?_⟩
      refine L2.for_it (walk_r0 (n := 16)) (fun i σ' H' => (∃ v6 v8 v9 v10 v11 v12 v13 v14 v15 v16 v17 : Option V, σ' = [some (.ref a), some (.ref d), some (.ref t), some g, some (.ref wa), some (.ref pr), v6, some (.ref wt), v8, v9, v10, v11, v12, v13, v14, v15, v16, v17, none, none]) ∧ LwS K H' d g pr wt wa G st pu l sl wv X0 wd7) ⟨⟨_, _, _, _, _, _, _, _, _, _, _, rfl⟩, L8⟩ (fun _ _ _ _ _ => trivial) (fun i x σ H4 Hx hi hPv hy => ?_) (fun σ H4 hPv => ?_)
      rotate_left
      · exact hR _ _ hPv
      obtain ⟨⟨v6, v8, v9, v10, v11, v12, v13, v14, v15, v16, v17, rfl⟩, L⟩ := hPv
      obtain ⟨rfl, rfl⟩ := hy
      obtain ⟨wvv, hwv, wwl, hwx, _⟩ := id L.wx
      obtain ⟨so, hso⟩ : ∃ so, sl[i]? = some so := ⟨_, List.getElem?_eq_getElem (by rw [sa7.len]; omega)⟩
      obtain ⟨v, hv1, hv2⟩ := hwx i so hso
      refine ⟨_, rfl, _, rfl, wa, _, _, _, rfl, rfl, SqL.of hwv, atI_nat hv1, rfl, _, rfl, ?_⟩
      cases so with
      | none =>
        obtain rfl : v = .non := hv2
        exact iteF ⟨⟨_, _, _, _, _, _, _, _, _, _, _, rfl⟩, L⟩
      | some tg =>
        obtain ⟨ta, oa, rfl, _⟩ : TgX K Hx v tg := hv2
        have tk := sa7.ok tg (List.mem_of_getElem? hso)
        obtain ⟨kd, hkd, kdm⟩ := tk.kd
        have ebx : G.bx tg = tg.box kd := by unfold Gm.bx; rw [hkd]
        have hlen := L.wtt.len
        refine iteT ?_
        refine seq_cut (fun σ' H' => ∃ sd a0 ld : Addr, σ' = [some (.ref a), some (.ref d), some (.ref t), some g, some (.ref wa), some (.ref pr), some (.int (i : Int)), some (.ref wt), some (.ref sd), some (.ref a0), v10, v11, v12, v13, v14, v15, v16, v17, none, none] ∧ ItS K H' d g pr wt wa G st pu l sl wv X0 wd7 sd a0 ld (fun c => c = (i : Int)) (fun _ => False)) (fun σ' H10 hP => ?_) (fun R hR => ?_)
        rotate_left
        · refine fun sd nsd => ⟨_, rfl, upd_same, [(.inl (i : Int), .bl true)], rfl, (show 1 ≤ 15 by decide), ?_⟩
          have hk : (upd (upd Hx sd (.dK [])) sd (.dK [(.inl (i : Int), .bl true)])) sd = some (.dK [(.inl (i : Int), .bl true)]) := upd_same
          have sm : Same Hx (upd (upd Hx sd (.dK [])) sd (.dK [(.inl (i : Int), .bl true)])) := fun b o z => by
            rw [upd_ne (ne_of_none z nsd), upd_ne (ne_of_none z nsd)]
            exact z
          have ksd := kset_one (by omega) hk
          refine ⟨_, rfl, fun a0 dx' na ndx nda => ⟨a0, dx', wt, rfl, upd_same, fun H5 ld lk5 fa nld => ⟨rfl, _, _, rfl, ?_⟩⟩⟩
          have s5 := new_looks na ndx fa
          exact hR _ _ ⟨sd, a0, ld, rfl, (L.same sm).same s5, ksd.same s5, lk5, nkey (none_looks nld) ksd⟩
        obtain ⟨sd, a0, ld, rfl, I10⟩ := hP
        obtain ⟨r, hr⟩ : ∃ r, r = restF G sl i := ⟨_, rfl⟩
        obtain ⟨pA, hpA⟩ : ∃ pA : Int → Prop, pA = fun c => c = (i : Int) ∨ restS G sl i c := ⟨_, rfl⟩
        have hpa : ∀ c, pA c → 0 ≤ c ∧ c < (wv.length : Int) := fun c hc => by
          rw [hpA] at hc
          rcases hc with rfl | hc
          · omega
          · exact restS_lt o sa7 hlen hc
        refine seq_cut (fun σ' H' => σ' = [some (.ref a), some (.ref d), some (.ref t), some g, some (.ref wa), some (.ref pr), some (.int (i : Int)), some (.ref wt), some (.ref sd), some (.ref a0), some (.int r), v11, v12, v13, v14, v15, v16, v17, none, none] ∧ ItS K H' d g pr wt wa G st pu l sl wv X0 wd7 sd a0 ld pA (fun _ => False)) (fun σ' H11 hP => ?_) (fun R hR => ?_)
        rotate_left
        · refine ⟨_, rfl, _, rfl, _, rfl, _, rfl, g, wa, sd, G, sl, i, tg, _, rfl, I10.lw.gx.gm, o, sa7, by omega, hso, I10.lw.wx.wl.wl, I10.ks, fun H' f k' => ?_⟩
          rw [← hr]
          exact hR _ _ ⟨rfl, I10.sdm f (by rw [hpA]; exact k')⟩
        clear I10
        obtain ⟨rfl, I11⟩ := hP
        refine seq_cut (fun σ' H' => σ' = [some (.ref a), some (.ref d), some (.ref t), some g, some (.ref wa), some (.ref pr), some (.int (i : Int)), some (.ref wt), some (.ref sd), some (.ref a0), some (.int r), v11, v12, v13, v14, v15, v16, v17, none, none] ∧ ItS K H' d g pr wt wa G st pu l sl wv X0 wd7 sd a0 ld pA pA) (fun σ' H12 hP => ?_) (fun R hR => ?_)
        rotate_left
        · refine ⟨_, rfl, _, rfl, _, rfl, g, a0, wt, ld, wv, G, sl, i, tg, _, rfl, I11.lw.gx.gm, o, sa7, by omega, hso, I11.lk, I11.lw.wtt, fun H15 f15 l15 => ?_⟩
          rw [← hr]
          refine ⟨_, rfl, .int r, .int r, .int r, rfl, .int _, .int _, trivial, fun H16 s16' => ⟨true, rfl, iteF ?_⟩⟩
          have ep : ∀ c, restP G sl i (fun _ => False) c ↔ pA c := fun c => by
            rw [hpA]
            unfold restP
            simp
          have I16 := (I11.ldm f15 (l15.imp ep)).same s16'
          have nl0 := al_nls I16.lw.a0
          obtain ⟨dxa, haa, _⟩ := id I16.lk
          refine ⟨_, rfl, a0, dxa, _, rfl, haa, rfl, a0, wt, ld, wv, X0, pA, rfl, I16.lk, I16.lw.wtt.sq, I16.lw.d0, nl0, hpa, fun t5 ys H20 s20 yp ym dyy => ⟨_, rfl, _, rfl, wt, sd, wv, X0, pA, rfl, I16.ks.same s20, (same_tf s20).sq I16.lw.wtt.sq, dpa_nl (same_tf s20) _ _ nl0 I16.lw.d0, nl0, hpa, fun t6 zs H21 s21 zp zm dz => ?_⟩⟩
          have e : zs = ys := same_ys zp yp zm ym
          rw [e] at dz
          have al4 := seenD_al I16.lw.a0 (ys_len yp ym I16.ks)
          refine ⟨.ref t5, .ref t6, seenD X0 ys, rfl, dp_nl (same_tf s21) _ _ (alok_nl _ _ al4) dyy, dz, al4, fun H22 s22 => ⟨true, rfl, iteF ?_⟩⟩
          have sZ := s20.trans (s21.trans s22)
          exact hR _ _ ⟨rfl, I16.same sZ⟩
        clear I11
        obtain ⟨rfl, I12⟩ := hP
        refine seq_cut (fun σ' H' => ∃ dx dy : Int, σ' = [some (.ref a), some (.ref d), some (.ref t), some g, some (.ref wa), some (.ref pr), some (.int (i : Int)), some (.ref wt), some (.ref sd), some (.ref a0), some (.int r), some (.int dx), some (.int dy), v13, v14, v15, v16, v17, none, none] ∧ (dx, dy) ∈ dirs ∧ ItS K H' d g pr wt wa G st pu l sl wv X0 wd7 sd a0 ld pA pA) (fun σ' H13 hP => ?_) (fun R hR => ?_)
        rotate_left
        · refine ⟨_, rfl, (show 2 ≤ sizeLine by decide), fun p0 np0 => ⟨(show 2 ≤ sizeLine by decide), fun p1 np1 => ⟨_, rfl, (show 2 ≤ sizeLine by decide), fun p2 np2 => ⟨(show 2 ≤ sizeLine by decide), fun p3 np3 => ⟨(show 4 ≤ sizeLine by decide), fun pl npl => ?_⟩⟩⟩⟩⟩
          have e0 := new_same (o := .tup [V.int (-1), .int 0]) np0
          have e1 := new_same (o := .tup [V.int 1, .int 0]) np1
          have e2 := new_same (o := .tup [V.int 0, .int (-1)]) np2
          have e3 := new_same (o := .tup [V.int 0, .int 1]) np3
          have e4 := new_same (o := .lst [V.ref p0, .ref p1, .ref p2, .ref p3]) npl
          have S := e0.trans (e1.trans (e2.trans (e3.trans e4)))
          have IA := I12.same S
          have h0 := (same_tf (e1.trans (e2.trans (e3.trans e4)))).sq (SqT.of (K := K) (upd_same (H := H12) (a := p0) (o := .tup [V.int (-1), .int 0])))
          have h1 := (same_tf (e2.trans (e3.trans e4))).sq (SqT.of (K := K) (upd_same (a := p1) (o := .tup [V.int 1, .int 0])))
          have h2 := (same_tf (e3.trans e4)).sq (SqT.of (K := K) (upd_same (a := p2) (o := .tup [V.int 0, .int (-1)])))
          have h3 := (same_tf e4).sq (SqT.of (K := K) (upd_same (a := p3) (o := .tup [V.int 0, .int 1])))
          refine ⟨_, rfl, d, 4, rfl, by decide, by decide, IA.lw.pot, fun z H2 z0 z1 f2 d2 => ?_⟩
          have tf2 := pot_tf f2 IA.lw.pot
          have pld : pl ≠ d := fun e => by
            obtain ⟨r, m, i, cs, g1, _⟩ := IA.lw.pot
            rw [← e, upd_same] at g1
            cases g1
          obtain ⟨pv, x, y, hat, hsq, hdd⟩ := pick4 (tf2.sq h0) (tf2.sq h1) (tf2.sq h2) (tf2.sq h3) z0 z1
          exact ⟨pl, _, _, .ref pv, rfl, rfl, SqL.of (f2 _ _ pld upd_same), hat, pv, _, rfl, hsq, rfl, _, _, rfl, _, _, rfl, rfl, hR _ _ ⟨x, y, rfl, hdd, IA.tkm f2 d2 wn⟩⟩
        clear I12
        obtain ⟨dx, dy, rfl, hdd, I13⟩ := hP
        obtain ⟨pB, hpB⟩ : ∃ pB : Int → Prop, pB = fun c => pA c ∨ lotS G sl dx dy 16 [i] 0 c := ⟨_, rfl⟩
        have hpb : ∀ c, pB c → 0 ≤ c ∧ c < (wv.length : Int) := fun c hc => by
          rw [hpB] at hc
          rcases hc with hc | hc
          · exact hpa c hc
          · exact lotS_lt o sa7 hdd hlen _ _ _ hc
        obtain ⟨Lo, hLo⟩ : ∃ Lo, Lo = lotR G sl dx dy i := ⟨_, rfl⟩
        have Ll : Lo.length ≤ 16 := by rw [hLo]; exact lotR_len G sl dx dy i
        refine seq_cut (fun σ' H' => ∃ t1 : Addr, σ' = [some (.ref a), some (.ref d), some (.ref t), some g, some (.ref wa), some (.ref pr), some (.int (i : Int)), some (.ref wt), some (.ref sd), some (.ref a0), some (.int r), some (.int dx), some (.int dy), some (.ref t1), v14, v15, v16, v17, none, none] ∧ SqT K H' t1 (nV Lo) ∧ ItS K H' d g pr wt wa G st pu l sl wv X0 wd7 sd a0 ld pB pA) (fun σ' H14 hP => ?_) (fun R hR => ?_)
        rotate_left
        · refine ⟨_, rfl, _, rfl, _, rfl, _, rfl, _, rfl, _, rfl, g, wa, sd, G, sl, i, tg, dx, dy, _, rfl, hdd, I13.lw.gx.gm, o, sa7, by omega, hso, I13.lw.wx.wl.wl, I13.ks, fun q H4 f4 ks4 hq nq => ⟨q, _, rfl, .inl ⟨SqL.of hq, fun t1 nt1 => ?_⟩⟩⟩
          have s5 := new_same (o := .tup (nV (lotR G sl dx dy i))) nt1
          exact hR _ _ ⟨t1, rfl, by rw [hLo]; exact SqT.of upd_same, (I13.sdm f4 (by rw [hpB]; exact ks4)).same s5⟩
        clear I13
        obtain ⟨t1, rfl, ht1, I14⟩ := hP
        refine seq_cut (fun σ' H' => σ' = [some (.ref a), some (.ref d), some (.ref t), some g, some (.ref wa), some (.ref pr), some (.int (i : Int)), some (.ref wt), some (.ref sd), some (.ref a0), some (.int r), some (.int dx), some (.int dy), some (.ref t1), v14, v15, v16, v17, none, none] ∧ ItS K H' d g pr wt wa G st pu l sl wv X0 wd7 sd a0 ld pB pB) (fun σ' H15 hP => ?_) (fun R hR => ?_)
        rotate_left
        · refine ⟨_, rfl, _, rfl, _, rfl, _, rfl, _, rfl, g, a0, wt, ld, wv, G, sl, i, tg, dx, dy, _, rfl, hdd, I14.lw.gx.gm, o, sa7, by omega, hso, I14.lk, I14.lw.wtt, fun t2 H15 f15 l15 ht2 => ⟨_, rfl, .ref t2, .ref t1, bkD Lo, rfl, bkD_dp (by rw [hLo]; exact ht2), bkD_dp ((I14.lk.tf f15).sq ht1), bkD4 _ Ll, fun H16 s16' => ⟨true, rfl, iteF ?_⟩⟩⟩
          have ep : ∀ c, lotP G sl dx dy i pA c ↔ pB c := fun c => by
            rw [hpB]
            unfold lotP
            exact ⟨fun z => z.elim (fun z => z.elim .inl fun e => .inl (by rw [hpA]; exact .inl e)) .inr, fun z => z.elim (fun z => .inl (.inl z)) .inr⟩
          have I16 := (I14.ldm f15 (l15.imp ep)).same s16'
          have nl0 := al_nls I16.lw.a0
          obtain ⟨dxa, haa, _⟩ := id I16.lk
          refine ⟨_, rfl, a0, dxa, _, rfl, haa, rfl, a0, wt, ld, wv, X0, pB, rfl, I16.lk, I16.lw.wtt.sq, I16.lw.d0, nl0, hpb, fun t5 ys H20 s20 yp ym dyy => ⟨_, rfl, _, rfl, wt, sd, wv, X0, pB, rfl, I16.ks.same s20, (same_tf s20).sq I16.lw.wtt.sq, dpa_nl (same_tf s20) _ _ nl0 I16.lw.d0, nl0, hpb, fun t6 zs H21 s21 zp zm dz => ?_⟩⟩
          have e : zs = ys := same_ys zp yp zm ym
          rw [e] at dz
          have al4 := seenD_al I16.lw.a0 (ys_len yp ym I16.ks)
          refine ⟨.ref t5, .ref t6, seenD X0 ys, rfl, dp_nl (same_tf s21) _ _ (alok_nl _ _ al4) dyy, dz, al4, fun H22 s22 => ⟨true, rfl, iteF ?_⟩⟩
          have sZ := s20.trans (s21.trans s22)
          exact hR _ _ ⟨rfl, I16.same sZ⟩
        clear I14 ht1
        obtain ⟨rfl, I15⟩ := hP
        have L15 := I15.lw
        obtain ⟨w15, hw15, _, hwx15, _⟩ := id L15.wx
        obtain ⟨vz, hvz, hvzx⟩ := hwx15 i _ hso
        have hvz2 : TgAt K H15 vz tg := hvzx.at'
        refine ⟨_, rfl, _, rfl, _, rfl, wa, _, _, _, rfl, rfl, SqL.of hw15, atI_nat hvz, g, vz, G, tg, kd, rfl, L15.gx.gm, hvz2, hkd, fun pb H17 s17 hpb => ⟨pb, _, rfl, SqT.of hpb, rfl, _, _, rfl, _, _, rfl, _, _, rfl, _, _, rfl, rfl, ?_⟩⟩
        refine seq_cut (fun σ' H' => σ' = [some (.ref a), some (.ref d), some (.ref t), some g, some (.ref wa), some (.ref pr), some (.int (i : Int)), some (.ref wt), some (.ref sd), some (.ref a0), some (.int r), some (.int dx), some (.int dy), some (.ref t1), some (.int tg.x), some (.int tg.y), some (.int kd.w), some (.int kd.h), none, none] ∧ H17 = H') (fun σ' H' hP => ?_) (fun R hR => hR _ _ ⟨rfl, rfl⟩)
        obtain ⟨rfl, rfl⟩ := hP
        have L17 := L15.same s17
        clear L15 I15
        obtain ⟨kw1, kw2, kh1, kh2, _⟩ := o.kw kd kdm
        obtain ⟨bb, hbb⟩ : ∃ bb : Bx, bb = ⟨tg.x, tg.y + 1, kd.w, kd.h + 2⟩ := ⟨_, rfl⟩
        have blim : bb.lim := by
          have := tk.x1
          have := tk.x2
          have := tk.y1
          have := tk.y2
          rw [hbb]
          refine ⟨?_, ?_, ?_, ?_, ?_, ?_, ?_, ?_⟩ <;> (dsimp only; omega)
        obtain ⟨M, hM⟩ : ∃ M, M = lookL G sl bb [] := ⟨_, rfl⟩
        have Ml : M.length ≤ 16 := by rw [hM]; exact look_len _ _ _ _
        refine seq_cut (fun σ' H' => ∃ t2 : Addr, σ' = [some (.ref a), some (.ref d), some (.ref t), some g, some (.ref wa), some (.ref pr), some (.int (i : Int)), some (.ref wt), some (.ref sd), some (.ref a0), some (.int r), some (.int dx), some (.int dy), some (.ref t2), some (.int tg.x), some (.int tg.y), some (.int kd.w), some (.int kd.h), none, none] ∧ SqT K H' t2 (nV M) ∧ LwS K H' d g pr wt wa G st pu l sl wv X0 wd7) (fun σ' H18 hP => ?_) (fun R hR => ?_)
        rotate_left
        · refine ⟨_, rfl, _, rfl, fun nd nnd => ⟨_, rfl, _, rfl, _, _, rfl, rfl, _, rfl, _, rfl, _, _, rfl, rfl, (show 4 ≤ sizeLine by decide), fun pt npt => ⟨(show 0 ≤ sizeLine by decide), fun pe npe => ?_⟩⟩⟩
          have k1 := kset_nil (upd_same (H := H17) (a := nd) (o := .dK []))
          have e1 := new_same (o := .dK []) nnd
          have e2 := new_same (o := .tup [V.int tg.x, .int (tg.y + 1), .int kd.w, .int (kd.h + 2)]) npt
          have e3 := new_same (o := .tup []) npe
          have k3 := (k1.same e2).same e3
          have L3 := L17.same (e1.trans (e2.trans e3))
          have hbx : BxAt K _ (.ref pt) bb := ⟨pt, rfl, by rw [hbb]; exact (same_tf e3).sq (SqT.of (K := K) (upd_same (a := pt) (o := .tup [V.int tg.x, .int (tg.y + 1), .int kd.w, .int (kd.h + 2)])))⟩
          refine ⟨g, .ref pt, .ref pe, wa, nd, G, sl, bb, [], _, rfl, L3.gx.gm, o, sa7, L3.wx.wl.wl, k3, hbx, blim, ⟨pe, rfl, fun H' f => .inr ((Frm.tfk f k3.dict.choose_spec).sq (SqT.of upd_same))⟩, fun q H4 f4 ks4 hq nq => ⟨q, _, rfl, .inl ⟨SqL.of hq, fun t2 nt2 => ?_⟩⟩⟩
          have s5 := new_same (o := .tup (nV (lookL G sl bb []))) nt2
          exact hR _ _ ⟨t2, rfl, by rw [hM]; exact SqT.of upd_same, (L3.dic f4 k3).same s5⟩
        clear L17
        obtain ⟨t2, rfl, ht2, L18⟩ := hP
        refine ⟨_, rfl, _, rfl, fun b dx' na ndx nda => ⟨b, dx', wt, rfl, upd_same, fun H5 lb lk5 fa nld => ⟨rfl, _, rfl, _, rfl, _, _, rfl, rfl, _, rfl, _, rfl, _, _, rfl, rfl, (show 4 ≤ sizeLine by decide), fun pt npt => ⟨(show 0 ≤ sizeLine by decide), fun pe npe => ?_⟩⟩⟩⟩
        have e1 := new_looks na ndx fa
        have e2 := new_same (o := .tup [V.int tg.x, .int (tg.y + 1), .int kd.w, .int (kd.h + 2)]) npt
        have e3 := new_same (o := .tup []) npe
        have L3 := L18.same (e1.trans (e2.trans e3))
        have lk3 := (lk5.same e2).same e3
        have hbx : BxAt K _ (.ref pt) bb := ⟨pt, rfl, by rw [hbb]; exact (same_tf e3).sq (SqT.of (K := K) (upd_same (a := pt) (o := .tup [V.int tg.x, .int (tg.y + 1), .int kd.w, .int (kd.h + 2)])))⟩
        refine ⟨g, .ref pt, b, wt, lb, pe, wv, G, sl, bb, [], _, rfl, L3.gx.gm, o, sa7, lk3, L3.wtt, hbx, blim, SqT.of upd_same, fun t3 H6 f6 l6 ht3 => ⟨_, rfl, .ref t3, .ref t2, bkD M, rfl, bkD_dp (by rw [hM]; exact ht3), bkD_dp ((lk3.tf f6).sq ((same_tf (e1.trans (e2.trans e3))).sq ht2)), bkD4 _ Ml, fun H7 s7 => ⟨true, rfl, iteF ?_⟩⟩⟩
        exact ⟨⟨_, _, _, _, _, _, _, _, _, _, _, rfl⟩, (L3.dic f6 lk3.choose_spec.2).same s7⟩
    clear L8
    obtain ⟨⟨v6, v8, v9, v10, v11, v12, v13, v14, v15, v16, v17, rfl⟩, L9⟩ := hP
    refine ⟨2, rfl, by decide, by decide, ?_⟩
    refine L2.for_it (walk_r0 (n := 2)) (fun i σ' H' => (∃ v6 v18 : Option V, σ' = [some (.ref a), some (.ref d), some (.ref t), some g, some (.ref wa), some (.ref pr), v6, some (.ref wt), v8, v9, v10, v11, v12, v13, v14, v15, v16, v17, v18, none]) ∧ ∃ wd : List PyData, TF H9 H' ∧ WxD K H' wa sl wd) ⟨⟨_, _, rfl⟩, wd7, TF.refl _, L9.wx⟩ (fun _ _ _ _ _ => trivial) (fun j x σ H4 Hx hj hPv hy => ?_) (fun σ H4 hPv => ?_)
    rotate_left
    · obtain ⟨⟨v6, v18, rfl⟩, _⟩ := hPv
      exact k H4
    obtain ⟨⟨v6, v18, rfl⟩, wd, tf, hw⟩ := hPv
    obtain ⟨rfl, rfl⟩ := hy
    refine ⟨16, rfl, by decide, by decide, ?_⟩
    refine L2.for_it (walk_r0 (n := 16)) (fun i σ' H' => (∃ v6 : Option V, σ' = [some (.ref a), some (.ref d), some (.ref t), some g, some (.ref wa), some (.ref pr), v6, some (.ref wt), v8, v9, v10, v11, v12, v13, v14, v15, v16, v17, some (.int (j : Int)), none]) ∧ ∃ wd : List PyData, TF H9 H' ∧ WxD K H' wa sl wd) ⟨⟨_, rfl⟩, wd, tf, hw⟩ (fun _ _ _ _ _ => trivial) (fun i x σ H4 Hy hi hPv hy => ?_) (fun σ H4 hPv => ?_)
    · obtain ⟨⟨v6, rfl⟩, wd, tf, hw⟩ := hPv
      obtain ⟨rfl, rfl⟩ := hy
      obtain ⟨wv2, hwv, _⟩ := id hw
      exact ⟨_, rfl, _, rfl, _, rfl, _, rfl, g, wa, pr, G, st, pu, l, sl, wd, i, rfl, L9.gx.tf tf, RG, SR, p0, p3, tf.sq L9.prr, hl, hb, sa7, by omega, hw, fun H' f w' => ⟨_, rfl, iteF ⟨⟨_, rfl⟩, _, tf.trans (frm_lst f hwv), w'⟩⟩⟩
    · obtain ⟨⟨v6, rfl⟩, wd, tf, hw⟩ := hPv
      exact ⟨⟨_, _, rfl⟩, wd, tf, hw⟩
end
end K27
set_option maxRecDepth 100000
set_option maxHeartbeats 0
open PySem PySem.W PySem.Calls PyProof.Rows
set_option maxHeartbeats 0 in
theorem PySem.Challenge.cw_latepresses_k27_meetings_holds : PySem.Challenge.rw_latepresses_k27_meetings.Holds := by
  w_on; o_law
  refine HandSHeadRun.head_any (r := K27.R) (q := view K27.R.prog [191]) (H := K27.hk) (ob := K27.ob) (M := 40000) (loose := K27.loose) (d := HandSHeadRun.topDef K27.R.prog 191) (kwd := []) K27.ob_eq
    (by kernel_rfl) (fun s => by kernel_rfl) K27.run (by kernel_rfl) (by kernel_rfl) (by kernel_rfl) (by rfl) (by first | assumption | decide +kernel) (by decide +kernel) ⟨rfl, rfl, rfl, rfl, rfl, by decide +kernel⟩ ?hw ?hc
  case hw => w_witness2
  case hc =>
    refine L2.walk_ofE (l := PySem.Challenge.rw_latepresses_k27_meetings) (n := 63) (k := 12) (x := "script") (CX := L2.CX0) rfl (by decide) (by kernel_rfl) ⟨rfl, by decide, by decide⟩ ?F (fun _ _ _ _ z => z)
    intro w mg fa h Y G hmg0
    obtain ⟨K, KX, c⟩ := Y
    have hmg : mg ("law" : PySem.Str) = some (.ref fa) := by
      have e : (HandSHeadRun.topDef K27.R.prog 191).name = ("law" : PySem.Str) := by kernel_rfl
      rw [← e]
      exact hmg0
    have T := K27.txt_of KX G c
    have e := hmg.symm.trans T.g_law
    cases e
    exact ⟨K, K27.fdAt K (He.fAd K ("law", none)), K27.spLaw K, KX, fun s v => L2.FunD.bindsA (ps := ["script"]) T.F_law (fun _ _ _ _ _ _ us hl => match us, hl with | [_], _ => rfl) s [v] rfl, fun H a ns hl _ hS => ⟨a, ns, rfl, hS, hl, fun _ => rfl⟩, fun base _ _ => K27.ok_law T⟩
#print axioms PySem.Challenge.cw_latepresses_k27_meetings_holds
