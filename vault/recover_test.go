package vault_test

import (
	"fmt"
	"math/rand"
	"testing"

	"echelon/api"
	"echelon/disk"
	"echelon/vault"
)

// TestModel: of long rows of calls without stops each answers as the plain one, and leaves the vault as it; so does an opening behind a crash.
func TestModel(t *testing.T) {
	r := rand.New(rand.NewSource(12))
	for range 800 {
		size := 1 + r.Intn(90)
		d := space(t, 1<<20)
		v := open(t, "P11.1", d, size)
		p := plain{state: nobody}
		calls := fmt.Sprintf("P11.2, P11.3: size %d: ", size)
		for range 60 {
			c := someCall(r, p)
			stages, want := p.stages(c)
			calls += fmt.Sprintf("%v %d; ", c, want)
			is(t, calls, does(v, c), want)
			p = stages[len(stages)-1]
			holds(t, calls, v, p)
			if r.Intn(5) == 0 {
				v = outlives(t, calls, d, size, p)
			}
		}
	}
}

// stopped lets a vault's disk be stopped in the middle of a call, or of the openings behind it; and opens it anew.
func stopped(t *testing.T, r *rand.Rand, calls string, d *disk.Disk, size int) *vault.Vault {
	t.Helper()
	for {
		d.Crash(r.Intn(40), r.Intn(40), r.Intn(40), r.Intn(40), r.Intn(40))
		if r.Intn(2) == 0 {
			d.Stop(r.Intn(4))
		}
		v, e := vault.Open(d, size)
		if e == api.OK {
			return v
		}
		is(t, calls+"Open", e, api.ErrStop)
	}
}

// TestRecovery: of long rows of calls with stops and crashes, several one behind the other, on disks that are full now and then: what is opened anew is in a stage of the call that was broken off; nothing that was kept ahead of it is lost, nothing that was cut away is back.
func TestRecovery(t *testing.T) {
	r := rand.New(rand.NewSource(13))
	broken := 0
	for range 1500 {
		size, room := 1+r.Intn(90), 100+r.Intn(400)
		d := space(t, room)
		v := open(t, "P11.1", d, size)
		p := plain{state: nobody}
		calls := fmt.Sprintf("P11.4: room %d, size %d: ", room, size)
		for range 40 {
			if r.Intn(3) == 0 {
				d.Stop(r.Intn(12))
			}
			c := someCall(r, p)
			stages, want := p.stages(c)
			e := does(v, c)
			calls += fmt.Sprintf("%v %d; ", c, e)
			switch e {
			case api.ErrStop:
				v = stopped(t, r, calls, d, size)
				broken++
			case api.ErrFull:
			default:
				is(t, calls, e, want)
				stages = stages[len(stages)-1:]
			}
			at := stage(v, stages, 0)
			if at < 0 {
				t.Fatalf("%s: it has %v, and had %v", calls, has(v), p)
			}
			p = stages[at]
			holds(t, calls, v, p)
			if e != api.ErrStop && r.Intn(6) == 0 {
				v = stopped(t, r, calls, d, size)
				holds(t, calls+"crashed", v, p)
			}
		}
	}
	if broken < 1000 {
		t.Errorf("%d calls alone were broken off", broken)
	}
}
