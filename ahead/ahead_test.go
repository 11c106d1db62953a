package ahead

import (
	"fmt"
	"math"
	"math/rand"
	"testing"

	"trunnion/api"
	"trunnion/spans"
)

// ints are numbers of all sizes: those about the edges of blocks, of rows and of mosts, and the least and greatest ones.
var ints = []int{math.MinInt, math.MinInt + 1, -1 << 40, -1 << 32, -100, -2, -1, 0, 1, 2, 3, 4, 30, 31, 32, 33, 63, 64, 65, 99, 100, 101, 1 << 16, 1 << 32, 1<<40 - 2, 1<<40 - 1, 1 << 40, 1<<40 + 1, math.MaxInt - 1, math.MaxInt}

// made is a planner that may be.
func made(t *testing.T, blocks, row, most int) *Planner {
	t.Helper()
	p, e := New(blocks, row, most)
	if p == nil || e != api.OK {
		t.Fatalf("New(%d, %d, %d) is %v, %d", blocks, row, most, p, e)
	}
	return p
}

// note is what a Note is to answer: the span from one on up to another; both are 0, if nothing is told.
type note struct {
	block, from, to int
}

// notes holds what Notes answer, one after the other.
func notes(t *testing.T, p *Planner, want ...note) {
	t.Helper()
	for i, w := range want {
		s, ok := p.Note(w.block)
		if s.From != w.from || s.To != w.to || ok != (w.to > 0) {
			t.Errorf("Note %d, of %d, is %v, %t; want {%d %d}", i, w.block, s, ok, w.from, w.to)
		}
	}
}

// stands holds the run and the window.
func stands(t *testing.T, p *Planner, run, window int) {
	t.Helper()
	if p.Run() != run || p.Window() != window {
		t.Errorf("Run %d, Window %d; want %d, %d", p.Run(), p.Window(), run, window)
	}
}

// model is what the chapter's words say of a planner, in the plainest way.
type model struct {
	blocks, row, most      int
	next, run, window, end int
}

// fresh is the model of New(blocks, row, most).
func fresh(blocks, row, most int) *model {
	return &model{blocks: blocks, row: row, most: most, next: -1}
}

// note is P22.2, sentence by sentence.
func (m *model) note(block int) (spans.Span, bool) {
	if block < 0 || block > m.blocks-1 {
		return spans.Span{}, false
	}
	if block == m.next {
		m.run++
	} else {
		m.run, m.window, m.end = 1, 0, block+1
	}
	m.next = block + 1
	if m.run < 2 {
		return spans.Span{}, false
	}
	half := 0
	for half*2+2 <= m.window {
		half++
	}
	if m.end > block+1+half {
		return spans.Span{}, false
	}
	if m.window == 0 {
		m.window = 2
	} else {
		m.window += m.window
	}
	if m.window > m.most {
		m.window = m.most
	}
	from, to := m.end, block+1+m.window
	if from < block+1 {
		from = block + 1
	}
	for to%m.row != 0 {
		to++
	}
	if to > m.blocks {
		to = m.blocks
	}
	if from >= to {
		return spans.Span{}, false
	}
	m.end = to
	return spans.Span{From: from, To: to}, true
}

// once holds P22.4: in a run no block is told twice, and none that was asked for.
type once struct {
	last int
	seen map[int]bool
}

// asked notes a block that was asked for, and what was told then; it tells if that keeps what is promised.
func (o *once) asked(block, blocks int, told spans.Span) bool {
	if block < 0 || block >= blocks {
		return told == (spans.Span{})
	}
	if o.seen == nil || block != o.last+1 {
		o.seen = map[int]bool{}
	}
	o.last, o.seen[block] = block, true
	good := true
	for i := told.From; i < told.To; i++ {
		good = good && !o.seen[i] && i < blocks
		o.seen[i] = true
	}
	return good
}

// check notes a block by a planner and its model, and tells what is wrong, if anything is.
func check(p *Planner, m *model, o *once, block int) string {
	got, ok := p.Note(block)
	want, there := m.note(block)
	if got != want || ok != there {
		return fmt.Sprintf("Note(%d) is %v, %t; want %v, %t", block, got, ok, want, there)
	}
	if p.Run() != m.run || p.Window() != m.window {
		return fmt.Sprintf("behind Note(%d): Run %d, Window %d; want %d, %d", block, p.Run(), p.Window(), m.run, m.window)
	}
	if !o.asked(block, m.blocks, got) {
		return fmt.Sprintf("Note(%d) tells %v: P22.4 doesn't hold", block, got)
	}
	return ""
}

func TestExampleP22_2(t *testing.T) {
	notes(t, made(t, 100, 3, 8), note{10, 0, 0}, note{11, 12, 15}, note{12, 0, 0}, note{13, 15, 18})
}

func TestWhatMayBeP22_1(t *testing.T) {
	for _, blocks := range ints {
		for _, row := range ints {
			for _, most := range ints {
				p, e := New(blocks, row, most)
				if blocks >= 1 && blocks <= 1099511627776 && row >= 1 && row <= 32 && most >= 1 && most <= 64 {
					if p == nil || e != api.OK {
						t.Fatalf("New(%d, %d, %d) is %v, %d", blocks, row, most, p, e)
					}
					stands(t, p, 0, 0)
				} else if p != nil || e != api.ErrArg {
					t.Fatalf("New(%d, %d, %d) is %v, %d; want ErrArg", blocks, row, most, p, e)
				}
			}
		}
	}
}

// TestWhichBlocksP22_2: of a block that isn't there nothing is told, and nothing changes: the run goes on behind it.
func TestWhichBlocksP22_2(t *testing.T) {
	for _, blocks := range []int{1, 2, 3, 100, 1 << 32, 1 << 40} {
		for _, block := range ints {
			p := made(t, blocks, 1, 4)
			there := block >= 0 && block < blocks
			notes(t, p, note{block: block})
			run := 0
			if there {
				run = 1
			}
			stands(t, p, run, 0)
			if there {
				continue
			}
			if *p != *made(t, blocks, 1, 4) {
				t.Errorf("Note(%d) of %d blocks changed the planner", block, blocks)
			}
		}
	}
	p := made(t, 100, 3, 8)
	notes(t, p, note{block: 10}, note{11, 12, 15})
	for _, block := range []int{math.MinInt, -1, 100, 101, math.MaxInt} {
		notes(t, p, note{block: block})
		stands(t, p, 2, 2)
	}
	notes(t, p, note{block: 12}, note{13, 15, 18})
	stands(t, p, 4, 4)
}

// TestFirstBlockP22_2: at first no block would come next, so also the block 0 begins a run.
func TestFirstBlockP22_2(t *testing.T) {
	p := made(t, 100, 4, 8)
	notes(t, p, note{block: 0})
	stands(t, p, 1, 0)
	notes(t, p, note{1, 2, 4})
	stands(t, p, 2, 2)
}

// TestRunsP22_2: a run goes on with the next block alone; the same one again, one behind, and one too far ahead begin another.
func TestRunsP22_2(t *testing.T) {
	for _, block := range []int{0, 1, 8, 9, 10, 11, 13, 14, 15, 20, 99} {
		p := made(t, 100, 1, 8)
		notes(t, p, note{block: 10}, note{11, 12, 14})
		stands(t, p, 2, 2)
		notes(t, p, note{block: block})
		stands(t, p, 1, 0)
	}
	p := made(t, 100, 1, 8)
	notes(t, p, note{block: 10}, note{11, 12, 14}, note{12, 14, 17})
	stands(t, p, 3, 4)
}

// TestBlocksAreToldAgainP22_2: another run of the same blocks is told them anew, from its own beginning on.
func TestBlocksAreToldAgainP22_2(t *testing.T) {
	p := made(t, 100, 1, 4)
	for range 3 {
		notes(t, p, note{block: 50}, note{51, 52, 54}, note{52, 54, 57}, note{block: 53}, note{54, 57, 59})
		stands(t, p, 5, 4)
	}
	// The end goes back too: what was told far ahead isn't known to a run below it.
	notes(t, p, note{block: 20}, note{21, 22, 24})
}

// TestHalfTheWindowP22_2: nothing is told as long as the end is more than half the window, rounded down, behind the next block.
func TestHalfTheWindowP22_2(t *testing.T) {
	for _, x := range []struct {
		most int
		want []note
	}{
		{1, []note{{block: 0}, {1, 2, 3}, {2, 3, 4}, {3, 4, 5}, {4, 5, 6}}},
		{2, []note{{block: 0}, {1, 2, 4}, {2, 4, 5}, {3, 5, 6}, {4, 6, 7}}},
		{3, []note{{block: 0}, {1, 2, 4}, {2, 4, 6}, {block: 3}, {4, 6, 8}, {block: 5}, {6, 8, 10}}},
		{4, []note{{block: 0}, {1, 2, 4}, {2, 4, 7}, {block: 3}, {4, 7, 9}, {block: 5}, {6, 9, 11}}},
		{5, []note{{block: 0}, {1, 2, 4}, {2, 4, 7}, {block: 3}, {4, 7, 10}, {block: 5}, {block: 6}, {7, 10, 13}}},
		{6, []note{{block: 0}, {1, 2, 4}, {2, 4, 7}, {block: 3}, {4, 7, 11}, {block: 5}, {block: 6}, {7, 11, 14}}},
	} {
		p := made(t, 100, 1, x.most)
		notes(t, p, x.want...)
		if p.Window() != x.most {
			t.Errorf("most %d: the window is %d", x.most, p.Window())
		}
	}
}

// TestWindowP22_2: 2, 4, 8, and so on, at most the most, which need not be one of these.
func TestWindowP22_2(t *testing.T) {
	for most := 1; most <= 64; most++ {
		p := made(t, 1000, 1, most)
		want := 0
		for block := range 1000 {
			if _, ok := p.Note(block); ok {
				want = max(2*want, 2)
				if want > most {
					want = most
				}
			}
			if p.Window() != want || p.Run() != block+1 {
				t.Fatalf("most %d: Run %d, Window %d behind Note(%d); want %d", most, p.Run(), p.Window(), block, want)
			}
		}
		if want != most {
			t.Errorf("most %d: the window comes to %d", most, want)
		}
	}
}

// TestRoundedUpP22_2: told is up to the end of a row; where the window ends with one, not a block further.
func TestRoundedUpP22_2(t *testing.T) {
	for _, x := range []struct{ row, to int }{{1, 14}, {2, 14}, {3, 15}, {4, 16}, {5, 15}, {6, 18}, {7, 14}, {8, 16}, {13, 26}, {14, 14}, {15, 15}, {31, 31}, {32, 32}} {
		notes(t, made(t, 100, x.row, 8), note{block: 10}, note{11, 12, x.to})
	}
}

// TestLastBlocksP22_2: no block is told behind the last one, whether or not the row has all its blocks; the window is doubled, also if there is nothing to tell.
func TestLastBlocksP22_2(t *testing.T) {
	for _, row := range []int{1, 3, 10, 32} {
		p := made(t, 100, row, 8)
		notes(t, p, note{block: 97}, note{98, 99, 100})
		stands(t, p, 2, 2)
		notes(t, p, note{block: 99})
		stands(t, p, 3, 4)
		// The block that would come next isn't there.
		notes(t, p, note{block: 100})
		stands(t, p, 3, 4)
		notes(t, p, note{block: 99})
		stands(t, p, 1, 0)
	}
	p := made(t, 100, 32, 64)
	notes(t, p, note{block: 90}, note{91, 92, 96}, note{block: 92}, note{block: 93}, note{block: 93})
	stands(t, p, 1, 0)
	p = made(t, 100, 32, 64)
	notes(t, p, note{block: 94}, note{95, 96, 100}, note{block: 96}, note{block: 97})
	stands(t, p, 4, 2)
	notes(t, p, note{block: 98}, note{block: 99})
	stands(t, p, 6, 8)
}

// TestFewBlocksP22_2: where there are no more than a run begins with, nothing is told.
func TestFewBlocksP22_2(t *testing.T) {
	p := made(t, 1, 32, 64)
	notes(t, p, note{block: 0}, note{block: 0}, note{block: 1})
	stands(t, p, 1, 0)
	p = made(t, 2, 32, 64)
	notes(t, p, note{block: 0}, note{block: 1})
	stands(t, p, 2, 2)
	notes(t, made(t, 3, 32, 64), note{block: 0}, note{1, 2, 3}, note{block: 2})
}

func TestGreatestBlocksP22_2(t *testing.T) {
	const end = api.MaxAt
	notes(t, made(t, end, 32, 64), note{block: end - 3}, note{end - 2, end - 1, end}, note{block: end - 1}, note{block: end})
	// Rows of 31 end at MaxAt - 32, at MaxAt - 1, and then behind the last block.
	notes(t, made(t, end, 31, 64), note{block: end - 3}, note{end - 2, end - 1, end})
	notes(t, made(t, end, 31, 64), note{block: end - 5}, note{end - 4, end - 3, end - 1}, note{end - 3, end - 1, end}, note{block: end - 2})
	notes(t, made(t, end, 31, 64), note{block: end - 40}, note{end - 39, end - 38, end - 32}, note{block: end - 38})
	notes(t, made(t, end-1, 32, 64), note{block: end - 3}, note{block: end - 2}, note{block: end - 1})
}

func TestResetP22_3(t *testing.T) {
	script := []int{10, 11, 12, 13, 14, 15, 50, 51, 0, 1, 2}
	for many := range len(script) + 1 {
		p := made(t, 100, 3, 8)
		for _, block := range script[:many] {
			p.Note(block)
		}
		p.Reset()
		stands(t, p, 0, 0)
		if *p != *made(t, 100, 3, 8) {
			t.Errorf("behind %d Notes and Reset the planner isn't as at first", many)
		}
		// The block that would have come next begins a run now, as any does.
		next := 0
		if many > 0 {
			next = script[many-1] + 1
		}
		notes(t, p, note{block: next})
		stands(t, p, 1, 0)
		notes(t, p, note{block: 10}, note{11, 12, 15}, note{block: 12}, note{13, 15, 18})
		stands(t, p, 4, 4)
	}
}

// TestRunAndWindowChangeNothingP22_3: and they answer the same again.
func TestRunAndWindowChangeNothingP22_3(t *testing.T) {
	p := made(t, 100, 3, 8)
	p.Note(10)
	p.Note(11)
	was := *p
	for range 3 {
		stands(t, p, 2, 2)
	}
	if *p != was {
		t.Error("the planner is another one")
	}
}

// TestWholeRunsP22_4: from a block up to the last one, with all rows and mosts: each block behind the second one is told, once, ahead of being asked for.
func TestWholeRunsP22_4(t *testing.T) {
	const blocks = 150
	for row := 1; row <= 32; row++ {
		for most := 1; most <= 64; most++ {
			for _, first := range []int{0, 1, row - 1, row, 77, blocks - 3, blocks - 2, blocks - 1} {
				p := made(t, blocks, row, most)
				end := first + 2
				for block := first; block < blocks; block++ {
					if block > first+1 && end <= block {
						t.Fatalf("row %d, most %d, from %d on: %d wasn't told", row, most, first, block)
					}
					s, ok := p.Note(block)
					if !ok {
						continue
					}
					if s.From != end || s.To <= end || s.From <= block {
						t.Fatalf("row %d, most %d, from %d on: Note(%d) tells %v, with %d as the next to tell", row, most, first, block, s, end)
					}
					end = s.To
				}
				if first < blocks-2 && end != blocks {
					t.Fatalf("row %d, most %d, from %d on: told up to %d", row, most, first, end)
				}
			}
		}
	}
}

// TestAllScriptsP22: all scripts of seven Notes of few blocks, one that isn't there among them, against the model, with P22.4 held too.
func TestAllScriptsP22(t *testing.T) {
	const steps, choices, blocks = 7, 6, 5
	scripts := 1
	for range steps {
		scripts *= choices
	}
	for _, x := range []struct{ row, most int }{{1, 1}, {1, 2}, {1, 3}, {2, 2}, {3, 1}, {4, 64}} {
		for script := range scripts {
			p, m, o := made(t, blocks, x.row, x.most), fresh(blocks, x.row, x.most), &once{}
			for i, left := 0, script; i < steps; i, left = i+1, left/choices {
				if wrong := check(p, m, o, left%choices); wrong != "" {
					t.Fatalf("row %d, most %d, script %d, step %d: %s", x.row, x.most, script, i, wrong)
				}
			}
		}
	}
}

// TestLongScriptsP22: by chance, against the model, with P22.4 held too: runs of all lengths, with jumps, blocks that aren't there, and Resets.
func TestLongScriptsP22(t *testing.T) {
	for seed := range int64(200) {
		r := rand.New(rand.NewSource(seed))
		blocks := []int{1, 2, 7, 100, 1000, api.MaxAt - 5, api.MaxAt}[seed%7]
		row, most := 1+r.Intn(32), 1+r.Intn(64)
		first := max(blocks-1000, 0)
		p, m, o := made(t, blocks, row, most), fresh(blocks, row, most), &once{}
		block := first
		for i := range 2000 {
			switch c := r.Intn(100); {
			case c == 0:
				p.Reset()
				*m, *o = *fresh(blocks, row, most), once{}
			case c < 3:
				block = first + r.Intn(min(blocks, 1000))
			case c == 3:
				block = []int{-1, blocks, math.MinInt, math.MaxInt, block - 1, block, block + 2}[r.Intn(7)]
			}
			if wrong := check(p, m, o, block); wrong != "" {
				t.Fatalf("seed %d, call %d, %d blocks, row %d, most %d: %s", seed, i, blocks, row, most, wrong)
			}
			// What isn't there is asked for between two blocks of a run.
			if block < 0 || block >= blocks {
				block = max(m.next-1, -1)
			}
			block++
		}
	}
}

func TestNilPlannerP1(t *testing.T) {
	var p *Planner
	for _, block := range ints {
		notes(t, p, note{block: block})
	}
	p.Reset()
	stands(t, p, 0, 0)
}

// TestUnmadePlannerP1: one that New didn't make has no blocks, so that nothing is told of any.
func TestUnmadePlannerP1(t *testing.T) {
	p := &Planner{}
	for _, block := range ints {
		notes(t, p, note{block: block})
		stands(t, p, 0, 0)
	}
	p.Reset()
}

func TestPlannersAreApartP2(t *testing.T) {
	a, b := made(t, 100, 3, 8), made(t, 100, 5, 8)
	notes(t, a, note{block: 10}, note{11, 12, 15})
	stands(t, b, 0, 0)
	notes(t, b, note{block: 12}, note{13, 14, 20})
	b.Reset()
	stands(t, a, 2, 2)
	notes(t, a, note{block: 12}, note{13, 15, 18})
}
